import PyProof.Rows.All
import Wide.FinOn
import KE.KNestM
import OpenK.KOwn
import KE.KItem
import KE.IntText
import KE.KTabLook
import KE.KFromBytes
import KE.KIntText
import KE.KTab
import KE.KIsAll
import KE.KLam
import KE.KRevIter
import KE.KDictOf
import KE.KxBytes
import OpenK.KRaise
import Lean
import PyProof.EqAt
import PyProof.EqKinds
import PyProof.TupleCall
import PyProof.StrBlockL
import PyProof.EnumMake
import PyProof.CollectIter
import PyProof.JoinWalk
import PyProof.StrOps
import PyProof.StrLawsIdx
import PyProof.StrLawsIn
import PyProof.ListRange
import PyProof.Rows.Range3
import PyProof.Rows.SumAny
import KE.LcSums
import OpenK.KCls
import PyProof.LongRange
import PyProof.StrOps2
import PyProof.FitsBits
import PyProof.Rows.ZipGen
import PyProof.NeKinds
import PyProof.Draws
import PyProof.Rows.SeqMore
import Wide.Txt
import PyProof.Rows.StrNews
import PyProof.StrLawsChain
import PyProof.ConsumeWalk
import KE.KUnpack
import PySem.Challenge.RW_heddle_k61_whole_books
open Lean in
local macro_rules
|`($m:declModifiers def $i:declId $s:optDeclSig $v:declVal)=>do
 unless m.raw[4].isNone && ![`vE,`vN].contains i.raw[0].getId do Macro.throwUnsupported
 let m:=⟨m.raw.setArg 4 (mkNullNode #[.node .none ``Lean.Parser.Command.noncomputable #[mkAtom "noncomputable"]])⟩
 `($m:declModifiers def $i:declId $s:optDeclSig $v:declVal)
|`($m:declModifiers abbrev $i:declId $s:optDeclSig $v:declVal)=>do
 unless m.raw[4].isNone && ![`vE,`vN].contains i.raw[0].getId do Macro.throwUnsupported
 let m:=⟨m.raw.setArg 4 (mkNullNode #[.node .none ``Lean.Parser.Command.noncomputable #[mkAtom "noncomputable"]])⟩
 `($m:declModifiers abbrev $i:declId $s:optDeclSig $v:declVal)
theorem Ap{p:Prop}(h:p:=by decide):p:=h
theorem As{p:Prop}(h:p:=by decide +kernel):p:=h
theorem At{p:Prop}(h:p:=by omega):p:=h
theorem Au{p:Prop}(h:p:=by lia):p:=h
theorem AA{p:Prop}(h:p:=by simp):p:=h
theorem AB{p:Prop}(h:p:=by simp_all):p:=h
theorem AC{p:Prop}(h:p:=by kernel_rfl):p:=h
theorem AD{p:Prop}(h:p:=by grind):p:=h
theorem AE{p:Prop}(h:p:=by rfl):p:=h
theorem AF{p:Prop}(h:p:=by show 1<1000;decide):p:=h
theorem AG{p:Prop}(h:p:=by show 1<=sizeLine;decide):p:=h
theorem AH{p:Prop}(h:p:=by show 2<=sizeLine;decide):p:=h
theorem AI{p:Prop}(h:p:=by show 3<=sizeLine;decide):p:=h
theorem AJ{p:Prop}(h:p:=by unfold En;decide):p:=h
theorem AK{p:Prop}(h:p:=by show 0<=sizeLine;decide):p:=h
theorem U.{u}{α:Sort u}{a:α}:a=a:=rfl
abbrev NN:=List (List Nat)
abbrev NI:=List Nat
abbrev NV:=List (List Int)
abbrev NA:=List Int
abbrev NF:=PySem.W.Frag
abbrev NO:=List (PySem.Addr × PySem.Obj)
abbrev NR:=PySem.Value->PySem.Shared->Prop
abbrev NU:=List PySem.Addr
abbrev NW:=List PySem.Value
abbrev NX:=List PySem.Str
abbrev NY:=Option PySem.Value
set_option Elab.async false
set_option linter.all false
set_option maxRecDepth 100000
namespace Zy
open PySem PySem.Spec PyProof.Rows PySem.W
def zA:=@wpAny_bind
def zB:=@Heap.get?_push_of_some
def zC:=@List.getElem?_eq_some_iff
def zD:=@Heap.get?_push_size
def zE:=@wpAny_pure
def zF:=@List.mem_singleton
def zG:=@List.mem_append
def zH:=@Heap.get?_update_other
def zI:=@F.plainAttrs_str
def zJ:=@decide_eq_false
def zK:=@Array.length_toList
def zL:=@F.slot_list_append
def zM:=@F.plainAttrs_list
def zN:=@decide_eq_true
def zO:=@Array.getElem?_toList
def zP:=@Array.getElem?_eq_getElem
def zQ:=@F.type_list_append
def zR:=@Heap.get?_update_self
def zS:=@F.slot_str_join
def zT:=@wpAny_mono
def zU:=@Option.map_eq_some_iff
def zV:=@F.type_str_join
def zW:=@PySem.mem_of_lookup
def zX:=@Obj.data_mapFields
def zY:=@F.slot_str_split
def zZ:=@List.length_pos_iff
def z5:=@beq_eq_false_iff_ne
def z6:=@decide_eq_decide
def z7:=@F.type_str_split
def z8:=@List.mem_filter
def z9:=@List.length_eq_zero_iff
def yA:=@sizeLine_eq
def yB:=@wpAny_holding
def yC:=@wpAny_setField
def yD:=@wpAny_field
def yE:=@wpAny_truthy_bool
def yF:=@List.mem_map
def yG:=@List.mem_cons
def yH:=@List.mem_range
def yI:=@wpAny_newObj_type
end Zy
open Zy
namespace Zz
def AvK:=@List.length_map
def AvL:=@List.length_append
def AvM:=@List.getElem?_eq_getElem
def AvN:=@Nat.le_refl
def AvO:=@List.map_append
def AvP:=@List.mem_cons_self
def AvQ:=@List.length_cons
def AvR:=@List.mem_cons_of_mem
def AvS:=@List.getElem?_map
def AvT:=@List.take_add_one
def AvU:=@List.map_cons
def AvV:=@Nat.zero_le
def AvW:=@List.length_take
def AvX:=@List.mem_of_getElem?
def AvY:=@Nat.ne_of_lt
def AvZ:=@Int.toNat_natCast
def Awa:=@List.take_length
def Awb:=@yG
def Awc:=@List.not_mem_nil
def Awd:=@Nat.lt_of_lt_of_le
def Awe:=@Nat.le_trans
def Awf:=@Bool.false_ne_true
def Awg:=@List.getElem?_append_left
def Awh:=@List.getElem_mem
def Awi:=@List.getElem?_append_right
def Awj:=@List.append_assoc
def Awk:=@List.length_drop
def Awl:=@List.flatten_cons
def Awm:=@Nat.le_of_ble_eq_true
def Awn:=@List.length_nil
def Awo:=@List.append_nil
def Awp:=@List.length_range
def Awq:=@List.size_toArray
def Awr:=@List.length_reverse
def Aws:=@List.take_of_length_le
def Awt:=@List.replicate_succ
def Awu:=@List.length_replicate
def Awv:=@List.getD_eq_getElem?_getD
def Aww:=@Nat.lt_irrefl
def Awx:=@Nat.le_of_lt
def Awy:=@List.cons_append
def Awz:=@List.length_singleton
def Aw0:=@List.map_map
def Aw1:=@List.range_succ
def Aw2:=@List.takeWhile_cons
def Aw3:=@Int.zero_add
def Aw4:=@List.mem_append_right
def Aw5:=@List.lookup_cons
def Aw6:=@Nat.ne_of_gt
def Aw7:=@List.sum_cons
def Aw8:=@List.map_id
def Aw9:=@List.filterMap_cons
def AwA:=@List.drop_zero
def AwB:=@Nat.min_eq_left
def AwC:=@List.take_append_drop
def AwD:=@List.drop_drop
def AwE:=@List.getElem?_eq_none
def AwF:=@Int.emod_nonneg
def AwG:=@Bool.and_eq_true
def AwH:=@Nat.mul_comm
def AwI:=@List.take_succ_cons
def AwJ:=@Nat.sub_self
def AwK:=@Bool.eq_iff_iff
def AwL:=@Nat.lt_succ_self
def AwM:=@Nat.le_succ
def AwN:=@List.forIn_cons
def AwO:=@List.getElem?_drop
def AwP:=@List.drop_eq_getElem_cons
def AwQ:=@List.take_append_of_le_length
def AwR:=@Nat.min_self
def AwS:=@Nat.min_le_left
def AwT:=@Nat.mul_zero
def AwU:=@Nat.le_of_eq
def AwV:=@List.ext_getElem?
def AwW:=@List.getElem?_range
def AwX:=@List.getLast?_append
def AwY:=@List.dropWhile_suffix
def AwZ:=@List.drop_length
def Axa:=@Int.emod_lt_of_pos
def Axb:=@List.mem_append_left
def Axc:=@List.of_mem_zip
def Axd:=@List.any_cons
def Axe:=@List.foldl_cons
def Axf:=@List.tail_cons
def Axg:=@List.getElem?_reverse
def Axh:=@Nat.sub_zero
def Axi:=@List.dropWhile_cons
def Axj:=@List.takeWhile_append_dropWhile
def Axk:=@List.all_eq_true
def Axl:=@Nat.add_zero
def Axm:=@List.take_left
def Axn:=@List.nil_append
def Axo:=@List.getElem?_take
def Axp:=@List.count_append
def Axq:=@List.any_map
def Axr:=@Int.toNat_of_nonneg
def Axs:=@List.any_eq_false
def Axt:=@Nat.lt_of_le_of_lt
def Axu:=@List.eq_nil_of_length_eq_zero
def Axv:=@List.range'_succ
def Axw:=@Nat.mod_eq_of_lt
def Axx:=@List.flatMap_cons
def Axy:=@List.length_zipWith
def Axz:=@List.any_eq_true
def Ax0:=@List.getElem_of_mem
def Ax1:=@List.singleton_append
def Ax2:=@List.filter_append
def Ax3:=@List.drop_append_of_le_length
def Ax4:=@Int.mul_le_mul_of_nonneg_right
end Zz
open Zz
namespace L2
open PySem PySem.Spec PyProof.Rows
variable {xs vs:Na}{us ds:NW}{H H':Hp}{a b it C dx:Addr}{o o':HO}{u cd:Value}{P prog:Program}{w:World}{h h':Heap}{x name m qual:Str}{e c tg l iter:Expr}{ch fp:NU}{X:Cx}{pins:NO}{σ:St}{s s' s1:Shared}{g':Array GenState}{t' i j k n tk:Nat}{d':Drawn}{N ns ps:NX}{M:Model}{A:Around}{E:NR}{v y:V}{Q:Unit->Shared->Prop}{α κ:Type}{pos pos' p:Pos}{ta te tl:TE}{tb:TS}{op:CmpOp}{tc:TT}{D:Ends}{f:Value->Value->Sem Value}{es:List Expr}{body:List Stmt}{pl:Sem Bool}{r:R2}{mA mg:Str->NY}{kw:List (Str × Value)}{CX:CXT}{fd:FuncData}{sp:Sp}{sc scope:Scope}
abbrev Key:=Sum Int Str
def Aqy:Key->Value->Bool
 | .inl k,v=>Value.isInt k v
 | .inr x,v=>Value.isStrOf x v
def Au9 (w:World):Key->Int
 | .inl k=>hashInt k
 | .inr x=>hashStr w x
theorem Ff:∀{k:Key} {v:Value},Aqy k v=true->(∃ i t,k=Sum.inl i/\v=Value.int i t)\/(∃ x t,k=Sum.inr x/\v=Value.str x t)
 | .inl i,v,h=>by
  obtain⟨t,e⟩:=Value.isInt_shape h;exact .inl ⟨i,t,U,e⟩
 | .inr x,v,h=>by
  obtain⟨t,e⟩:=Value.isStrOf_shape h;exact .inr ⟨x,t,U,e⟩
theorem AqK(a b:Int):decide ((Sum.inl a:Key)=Sum.inl b)=(a == b):=by
 by_cases e:a=b
 ·subst e;simp
 ·simp_all
theorem AqL(a b:Str):decide ((Sum.inr a:Key)=Sum.inr b)=decide (a=b):=AB
theorem AqM(a:Int)(b:Str):decide ((Sum.inl a:Key)=Sum.inr b)=false:=zJ (λq=>nomatch q)
theorem AqN(a:Str)(b:Int):decide ((Sum.inr a:Key)=Sum.inl b)=false:=zJ (λq=>nomatch q)
def Aei (prog:Program)(w:World):PySem.KeyKind prog w Key where
 is:=Aqy
 hash:=Au9 w
 inj:=λv a b ha hb=>by
  rcases Ff ha with ⟨i,t,rfl,rfl⟩ | ⟨x,t,rfl,rfl⟩
  ·rcases Ff hb with ⟨j,u,rfl,e⟩ | ⟨y,u,rfl,e⟩
   ·injection e with e1 _;rw[e1]
   ·exact nomatch e
  ·rcases Ff hb with ⟨j,u,rfl,e⟩ | ⟨y,u,rfl,e⟩
   ·exact nomatch e
   ·injection e with e1 _;rw[e1]
 byValue:=λk v h=>by
  rcases Ff h with ⟨i,t,rfl,rfl⟩ | ⟨x,t,rfl,rfl⟩ <;> rfl
 pyHash:=λhv h=>by
  rcases Ff hv with ⟨i,t,rfl,rfl⟩ | ⟨x,t,rfl,rfl⟩
  ·exact wpAny_pyHash_int h
  ·exact wpAny_pyHash_str h
 eqBool:=λhu hv h=>by
  rcases Ff hu with ⟨i,t,rfl,rfl⟩ | ⟨x,t,rfl,rfl⟩
  ·rcases Ff hv with ⟨j,u,rfl,rfl⟩ | ⟨y,u,rfl,rfl⟩
   ·rw[AqK] at h;exact wpAny_eqBool_int h
   ·rw[AqM] at h;exact SeqAt.EqAt.int_str i t y u _ _ _ _ h
  ·rcases Ff hv with ⟨j,u,rfl,rfl⟩ | ⟨y,u,rfl,rfl⟩
   ·rw[AqN] at h;exact SeqAt.EqAt.str_int x t j u _ _ _ _ h
   ·rw[AqL] at h;exact wpAny_eqBool_str h
 «strs»:=λk x t v h=>by
  rcases Ff h with ⟨i,u,rfl,e⟩ | ⟨y,u,rfl,e⟩
  ·exact nomatch e
  ·injection e with e1 _
   subst e1
   cases v <;> rfl
inductive V where
 | non | bl (b:Bool) | int (i:Int) | str (x:Str) | byt (b:Array UInt8) | flt (b:UInt64) | ref (a:Addr) | ty (n:String)
 deriving DecidableEq
abbrev Na:=List V
def RelV:V->Value->Prop
 | .non,u=>u=Value.none
 | .bl b,u=>u=Value.bool b
 | .int i,u=>∃ t,u=Value.int i t
 | .str x,u=>∃ t,u=Value.str x t
 | .byt b,u=>∃ t,u=Value.bytes b t
 | .flt b,u=>∃ t,u=Value.float b t
 | .ref a,u=>u=Value.ref a
 | .ty n,u=>u=Value.type n
abbrev Vals:Na->NW->Prop:=Paired RelV
theorem Vals.length(r:Vals xs us):xs.length=us.length:=Paired.length r
theorem Vals.get:∀{xs:Na} {us:NW} {i:Nat} {x:V},Vals xs us->xs[i]?=some x->∃ u,us[i]?=some u/\RelV x u
 | _,_,_,_,.nil,e=>by simp at e
 | _,_,0,_,.cons r _,e=>AB
 | _,_,i+1,x,.cons _ t,e=>by
  obtain⟨u,h1,h2⟩:=Vals.get t (by simpa using e);exact⟨u,by simpa using h1,h2⟩
theorem Vals.append:∀{xs ys:Na} {us ws:NW},Vals xs us->Vals ys ws->Vals (xs++ys) (us++ws)
 | _,_,_,_,.nil,s=>s
 | _,_,_,_,.cons r t,s=>.cons r (Vals.append t s)
theorem Vals.take:∀{xs:Na} {us:NW} (n:Nat),Vals xs us->Vals (xs.take n) (us.take n)
 | _,_,0,_=>.nil
 | _,_,_+1,.nil=>.nil
 | _,_,n+1,.cons r t=>.cons r (Vals.take n t)
theorem Vals.drop:∀{xs:Na} {us:NW} (n:Nat),Vals xs us->Vals (xs.drop n) (us.drop n)
 | _,_,0,r=>r
 | _,_,_+1,.nil=>.nil
 | _,_,n+1,.cons _ t=>Vals.drop n t
def Aej:Option V->NY->Prop
 | some v,some u=>RelV v u
 | none,none=>True
 | _,_=>False
def KV {κ:Type}:List (κ × V)->List (κ × Value)->Prop:=Paired λ(p:κ × V)(q:κ × Value)=>p.1=q.1/\RelV p.2 q.2
def kV:Key->V
 | .inl i=>.int i
 | .inr x=>.str x
inductive HO where
 | lst (xs:Na)
 | tup (xs:Na)
 | dK (kvs:List (Key × V)) | dT (kvs:List (List Key × V))
 | set (S:Int->Bool) (n:Nat)
 | ins (C dx:Addr) (fs:List (Str × V))
 | own (x:Addr)
 | xd (fs:List (Str × V))
 | met (f x:Addr)
 | rng (lo hi:Int)
 | frz (o:Obj) (u:HO)
 | tbl (ps:Array Value)
 | ext (φ:Heap->Prop)
abbrev Hp:=Addr->Option HO
def upd (H:Hp)(a:Addr)(o:HO):Hp:=λb=>if b=a then some o else H b
theorem Ae:upd H a o a=some o:=by unfold upd;rw[if_pos rfl]
theorem Ai(h:b≠a):upd H a o b=H b:=by unfold upd;rw[if_neg h]
theorem Ez{u:HO}:upd (upd H a o) a u=upd H a u:=by
 funext b;unfold upd;split <;> rfl
theorem Bc(h:H a=some o)(h':H b=none):a≠b:=by intro e;subst e;rw[h] at h';cases h'
section
variable (P:Program) (w:World)
def Iu (H:Hp)(h:Heap)(a:Addr):HO->Prop
 | .lst xs=>xs.length<=sizeLine/\∃(its:NW)(n:Nat),Vals xs its/\h.get? a=some { cls:=.type "list", data:=.seq its.toArray n }
 | .tup xs=>xs.length<=sizeLine/\∃ its:NW,Vals xs its/\IsTup h a its.toArray
 | .dK kvs=>kvs.length<=sizeLine/\(a == sysModules)=false/\∃ vs,KV kvs vs/\h.DictOf (Aei P w) a vs
 | .dT kvs=>kvs.length<=sizeLine/\(a == sysModules)=false/\∃ xs:List (List Key × Addr × Value),
   Paired (λ(p:List Key × V)(q:List Key × Addr × Value)=>p.1=q.1/\H q.2.1=some (.tup (p.1.map kV))/\RelV p.2 q.2.2) kvs xs /\
   ∃ o es ep,h.get? a=some o/\o.ExactDict/\o.data=.dict es ep/\es.toList=xs.map (entryOfKey (tupleKind (Aei P w)))/\(xs.map (·.1)).Nodup
 | .set S n=>h.SetOf (intKind P w) a S n
 | .ins C dx fs=>H dx=some (.own a)/\fs.length<=1000/\dx≠a/\h.get? a=some (W.instObj C dx) /\
   ∃ mA,h.Ns1 dx mA/\(∀ f,Aej (fs.lookup f) (mA f))/\PySem.Within mA (fs.map (·.1))
 | .own _=>∃ o,h.get? a=some o
 | .xd fs=>∃ mA,h.Ns1 a mA/\∀ f,Aej (fs.lookup f) (mA f)
 | .rng lo hi=>∃ t u v,h.get? a=some { cls:=.type "range", data:=.fields #[.int lo t,.int hi u,.int 1 v] }
 | .frz o u=>h.get? a=some o/\Iu H h a u
 | .tbl ps=>h.get? a=some { cls:=.none,data:=.fields ps }
 | .met f x=>h.get? a=some (W.methodObj (.ref f) (.ref x))
 | .ext φ=>φ h/\(∃ o,h.get? a=some o)/\∀ h1 h2:Heap,φ h1->(∀ o,h1.get? a=some o->h2.get? a=some o)->φ h2
def HOk (H:Hp)(h:Heap):Prop:=∀ a o,H a=some o->Iu P w H h a o
end
theorem Iu.lt(x:Iu P w H h a o):a<h.objs.size:=by
 cases o with
 | lst xs=>obtain⟨_,_,_,_,e⟩:=x;exact Heap.lt_size e
 | tup xs=>obtain⟨_,_,_,p⟩:=x;exact p.lt
 | dK b=>obtain⟨_,_,_,_,o,_,_,e,_⟩:=x;exact Heap.lt_size e
 | dT b=>obtain⟨_,_,_,_,o,_,_,e,_⟩:=x;exact Heap.lt_size e
 | set S n=>obtain⟨o,_,_,_,e,_⟩:=x;exact Heap.lt_size e
 | ins C dx fs=>obtain⟨_,_,_,e,_⟩:=x;exact Heap.lt_size e
 | own y=>obtain⟨_,e⟩:=x;exact Heap.lt_size e
 | xd fs=>obtain⟨_,⟨_,_,_,e,_⟩,_⟩:=x;exact Heap.lt_size e
 | rng lo hi=>obtain⟨_,_,_,e⟩:=x;exact Heap.lt_size e
 | frz c u=>obtain⟨e,_⟩:=x;exact Heap.lt_size e
 | tbl ps=>exact Heap.lt_size (x)
 | met f y=>exact Heap.lt_size (x)
 | ext d=>obtain⟨_,⟨_,e⟩,_⟩:=x;exact Heap.lt_size e
theorem Paired.As6{α β:Type}{F G:α->β->Prop}:∀{c:List α} {d:List β},Paired F c d->(∀ a b,F a b->G a b)->Paired G c d
 | _,_,.nil,_=>.nil
 | _,_,.cons r t,f=>.cons (f _ _ r) (Paired.As6 t f)
theorem Iu.stay(x:Iu P w H h a o)(k:∀ b u,(b=a\/H b=some (.own a))->h.get? b=some u->h'.get? b=some u)
  (D:∀ b,H b=some (.own a)->H' b=some (.own a)) (E:∀ b xs,H b=some (.tup xs)->H' b=some (.tup xs)):Iu P w H' h' a o:=by
 induction o with
 | lst xs=>obtain⟨z,its,n,r,e⟩:=x;exact⟨z,its,n,r,k _ _ (.inl U) e⟩
 | tup xs=>obtain⟨z,its,r,i,e,c⟩:=x;exact⟨z,its,r,i,k _ _ (.inl U) e,c⟩
 | dK l=>obtain⟨z,y,vs,r,i,es,j,e,c⟩:=x;exact⟨z,y,vs,r,i,es,j,k _ _ (.inl U) e,c⟩
 | dT l =>
  obtain⟨z,y,xs,r,i,es,j,e,c⟩:=x;exact⟨z,y,xs,Paired.As6 r λp q z=>⟨z.1,E _ _ z.2.1,z.2.2⟩,i,es,j,k _ _ (.inl U) e,c⟩
 | set S n=>obtain⟨i,es,j,t,e,c⟩:=x;exact⟨i,es,j,t,k _ _ (.inl U) e,c⟩
 | ins C dx fs =>
  obtain⟨d,z,s,e,mA,⟨m,es,j,B,c⟩,r⟩:=x;exact⟨D _ d,z,s,k _ _ (.inl U) e,mA,⟨m,es,j,k _ _ (.inr d) B,c⟩,r⟩
 | own y=>obtain⟨i,e⟩:=x;exact⟨i,k _ _ (.inl U) e⟩
 | xd fs=>obtain⟨mA,⟨m,es,j,e,c⟩,r⟩:=x;exact⟨mA,⟨m,es,j,k _ _ (.inl U) e,c⟩,r⟩
 | rng lo hi=>obtain⟨t,u,v,e⟩:=x;exact⟨t,u,v,k _ _ (.inl U) e⟩
 | frz i u A=>obtain⟨e,q⟩:=x;exact⟨k _ _ (.inl U) e,A q⟩
 | tbl ps =>
  have e:=x;exact k a _ (.inl U) e
 | met f y =>
  have e:=x;exact k a _ (.inl U) e
 | ext F=>obtain⟨p,⟨o,e⟩,st⟩:=x;exact⟨st _ _ p λo q=>k _ _ (.inl U) q,⟨o,k _ _ (.inl U) e⟩,st⟩
theorem HOk.lt(x:HOk P w H h)(e:H a=some o):a<h.objs.size:=(x a o e).lt
theorem HOk.fresh(x:HOk P w H h)(e:h.objs.size<=a):H a=none:=by
 cases q:H a with
 | none=>rfl
 | some u=>exact absurd (Awd (x.lt q) e) (Aww _)
theorem HOk.kept(x:HOk P w H h)(k:∀ b u,h.get? b=some u->h'.get? b=some u):HOk P w H h':=λa o e =>
 (x a o e).stay (λb u _ q=>k b u q) (λ_ q=>q) λ_ _ q=>q
theorem HOk.laid(x:HOk P w H h)(k:∀ b u,h.get? b=some u->h'.get? b=some u)(f:h.objs.size<=a)(new:Iu P w (upd H a o) h' a o):HOk P w (upd H a o) h':=λb u e=>by
 have hn:=x.fresh f;by_cases d:b=a
 ·subst d;rw[Ae] at e;cases e;exact new
 ·rw[Ai d] at e;exact(x b u e).stay (λc v _ q=>k c v q) (λc q=>by rw[Ai (Bc q hn)];exact q) λc xs q=>by rw[Ai (Bc q hn)];exact q
def Rd (H:Hp)(a:Addr)(u:HO):Prop:=H a=some u\/∃ o,H a=some (.frz o u)
theorem Rd.ok{u:HO}(r:Rd H a u)(x:HOk P w H h):Iu P w H h a u:=by
 rcases r with r | ⟨o,r⟩
 ·exact x a u r
 ·obtain⟨_,q⟩:=x a _ r;exact q
def Mut:Option HO->Prop
 | some (.lst _)=>True
 | some (.dK _)=>True
 | some (.dT _)=>True
 | some (.set _ _)=>True
 | some (.ins _ _ _)=>True
 | some (.ext _)=>True
 | _=>False
section
variable {x e:Addr}
theorem HOk.write(ok:HOk P w H h)(d:Mut (H x))(n:e=x\/H e=some (.own x))(k:∀ b u,b≠e->h.get? b=some u->h'.get? b=some u)(f:∃ u,h'.get? e=some u)
  (new:Iu P w (upd H x o') h' x o'):HOk P w (upd H x o') h':=λb u q=>by
 have j:∀ c y,H c=some (.own y)->c≠x:=λc y r z=>by subst z;rw[r] at d;exact d
 have l:∀ c xs,H c=some (.tup xs)->c≠x:=λc xs r z=>by subst z;rw[r] at d;exact d
 by_cases i:b=x
 ·subst i;rw[Ae] at q;cases q;exact new
 ·rw[Ai i] at q;by_cases a:b=e
  ·have m:H b=some (.own x):=by
    rcases n with z | z
    ·exact absurd (a.trans z) i
    ·rw[a];exact z
   rw[q] at m;cases m;obtain⟨v,o⟩:=f;exact⟨v,by rw[a];exact o⟩
  ·refine(ok b u q).stay (λc v hc r=>k c v ?_ r) (λc r=>by rw[Ai (j c b r)];exact r) λc xs r=>by rw[Ai (l c xs r)];exact r
   grind
end
structure Un (fs ex:NU)(H H':Hp)(h h':Heap):Prop where
 keep:∀ b o,h.get? b=some o->H b=none->b∉fs->b∉ex->h'.get? b=some o
 slot:∀ b o,h.get? b=some o->H b=none->b∈fs->b∉ex->∃ sl,h'.get? b=some { o with slots:=sl }
 free:∀ b o,h.get? b=some o->H b=none->b∉ex->H' b=none
 there:∀ b o,h.get? b=some o->b∉ex->∃ o',h'.get? b=some o'
 tups:∀ b xs,H b=some (.tup xs)->H' b=some (.tup xs)
 Iw:∀ b o u,H b=some (.frz o u)->H' b=some (.frz o u)
 JP:∀ b ps,H b=some (.tbl ps)->∃ more,H' b=some (.tbl (ps++more))
section
variable {fs fs' ex ex':NU}{H1 H2:Hp}{h1 h2:Heap}{x e:Addr}
theorem Un.any(u:Un fs ex H H1 h h1){ob:Obj}(q:h.get? b=some ob)(n:H b=none)(c:b∉ex):∃ d,h1.get? b=some { ob with slots:=d }:=by
 by_cases a:b∈fs
 ·exact u.slot b ob q n a c
 ·exact⟨ob.slots,u.keep b ob q n a c⟩
theorem Un.trans(a:Un fs ex H H1 h h1)(b:Un fs ex H1 H2 h1 h2):Un fs ex H H2 h h2 where
 keep:=λc d q n hc e=>b.keep c d (a.keep c d q n hc e) (a.free c d q n e) hc e
 slot:=λc d q n hc e=>by
  obtain⟨m,f⟩:=a.slot c d q n hc e;obtain⟨j,i⟩:=b.slot c _ f (a.free c d q n e) hc e;exact⟨j,i⟩
 free:=λc d q n e=>by
  obtain⟨o',f⟩:=a.there c d q e;exact b.free c o' f (a.free c d q n e) e
 there:=λc d q e=>by
  obtain⟨o',f⟩:=a.there c d q e;exact b.there c o' f e
 tups:=λc xs q=>b.tups c xs (a.tups c xs q)
 Iw:=λc d xs q=>b.Iw c d xs (a.Iw c d xs q)
 JP:=λc ps q=>by
  obtain⟨l,f⟩:=a.JP c ps q;obtain⟨k,i⟩:=b.JP c _ f;exact⟨l++k,by rw[i,Array.append_assoc]⟩
theorem Un.kept(k:∀ b u,h.get? b=some u->h'.get? b=some u):Un fs ex H H h h' :=
 ⟨λb a q _ _ _=>k b a q,λb a q _ _ _=>⟨a.slots,k b a q⟩,λ_ _ _ n _=>n,λb a q _=>⟨a,k b a q⟩,λ_ _ q=>q,λ_ _ _ q=>q,λ_ ps q=>⟨#[],by rw[q];simp⟩⟩
theorem Un.refl:Un fs ex H H h h:=Un.kept λ_ _ q=>q
theorem Un.laid(k:∀ b u,h.get? b=some u->h'.get? b=some u)(c:h.objs.size<=a)(hn:H a=none):Un fs ex H (upd H a o) h h' where
 keep:=λb u q _ _ _=>k b u q
 slot:=λb u q _ _ _=>⟨u.slots,k b u q⟩
 free:=λb u q n _=>by rw[Ai (AvY (Awd (Heap.lt_size q) c))];exact n
 there:=λb u q _=>⟨u,k b u q⟩
 tups:=λb xs q=>by rw[Ai (Bc q hn)];exact q
 Iw:=λb u xs q=>by rw[Ai (Bc q hn)];exact q
 JP:=λb ps q=>⟨#[],by rw[Ai (Bc q hn),q];simp⟩
theorem Un.write(f:Mut (H x))(l:e=x\/H e=some (.own x))(k:∀ b u,b≠e->h.get? b=some u->h'.get? b=some u)(i:∃ u,h'.get? e=some u):Un fs ex H (upd H x o) h h':=by
 have j:∀ b,H b=none->b≠x:=λb n z=>by subst z;rw[n] at f;exact f
 have d:∀ b,H b=none->b≠e:=λb n z=>by
  simp_all
 have c:∀ b u,H b=some u->¬Mut (some u)->b≠x:=λb u q nm z=>AB
 refine⟨λb u q n _ _=>k b u (d b n) q,λb u q n _ _=>⟨u.slots,k b u (d b n) q⟩,λb u q n _=>by rw[Ai (j b n)];exact n,λb u q _=>?_,
  λb xs q=>by rw[Ai (c b _ q λz=>z)];exact q,λb u xs q=>by rw[Ai (c b _ q λz=>z)];exact q,λb ps q=>⟨#[],by rw[Ai (c b _ q λz=>z),q];simp⟩⟩;by_cases a:b=e
 ·simp_all
 ·exact⟨u,k b u a q⟩
end
def trk (h:Heap)(H:Hp):NU:=(List.range h.objs.size).filter λa=>(H a).isSome
def AfL (h:Heap)(H:Hp):Heap:=W.hideAll h (trk h H)
theorem AjL(h:Heap)(H:Hp):(AfL h H).objs.size=h.objs.size:=W.hideAll_size _ _
theorem Alu{o:Obj}(e:h.get? b=some o)(n:H b=none):(AfL h H).get? b=some o :=
 W.hideAll_get _ e λa=>by
  have q:=(z8.mp a).2;rw[n] at q;simp at q
theorem Aoz{o:Obj}(e:(AfL h H).get? b=some o):h.get? b=some o/\H b=none:=by
 have a:=W.of_hideAll (trk h H) e;refine⟨a,?_⟩;cases q:H b with
 | none=>rfl
 | some x =>
  have c:b∈trk h H:=z8.mpr ⟨yH.mpr (Heap.lt_size a),by simp[q]⟩;have z:(AfL h H).get? b=none:=W.hideAll_none (trk h H) c;rw[z] at e;cases e
def Ao0 (g h:Heap)(L:Addr):NO:=(List.range h.objs.size).filterMap λa=>if a=L\/(g.get? a).isSome=true then none else (h.get? a).map λo=>(a,o)
def rest(g h:Heap)(L d:Addr):NO:=(Ao0 g h L).filter λp=>decide (p.1≠d)
structure Mod (K:NF)(mg:Str->NY)(base:Heap):Prop where
 kin:K.In base
 glob:base.Ns mainGlobals mg
 blt:∃ mb,base.Ns builtinsNs mb/\∀ x:Str,x ≠ "__name__" -> mb x=bootBuiltins x
 nolimit:base.NoLimit
structure Cx where
 prog:Program
 w:World
 K:NF
 mg:Str->NY
 base:Heap
 A:Around
 N:NX
 s₀:Shared
 H₀:Hp
 env:Env
 outer:List Env
 stack:List Env
 ex:NU
 fn:Str->Bool
 calm:Bool
 pn:NO
 xe:Value->Shared->Prop
def frs (l:List Env):NU:=l.filterMap (·.frame)
abbrev Cx.fs (X:Cx):NU:=frs X.outer
def Vis (sc:Scope)(x:Str):Prop:=sc.names.lookup x=some .local\/sc.names.lookup x=some .cell\/sc.names.lookup x=some .free
def Loc (sc:Scope)(x:Str):Prop:=sc.names.lookup x=some .local\/sc.names.lookup x=some .cell
def Look(env:Env)(h:Heap)(m:Str->NY)(x:Str)(u:Value):Prop :=
 (env.kindOf x=some .local/\m x=some u)\/((env.kindOf x=some .cell\/env.kindOf x=some .free)/\∃ c,env.cells.lookup x=some c/\h.IsCell c (some u))
structure Cx.Ok (X:Cx):Prop where
 mod:Mod X.K X.mg X.base
 kind:X.env.scope.kind=.function
 glob:X.env.globals=mainGlobals
 blt:X.env.builtins=builtinsNs
 above:X.s₀.heap.objs.size<=X.env.locals
 inj:∀ x y c,X.env.cells.lookup x=some c->X.env.cells.lookup y=some c->x=y
 has:∀ x,(X.env.kindOf x=some .cell\/X.env.kindOf x=some .free)->∃ c,X.env.cells.lookup x=some c
 cab:∀ x c,X.fn x=true->X.env.cells.lookup x=some c->X.s₀.heap.objs.size<=c
 hd:X.calm=true->X.A.handled=none
 frames:X.A.frames=some X.stack
 stk:X.stack=X.outer\/(X.stack=X.env::X.outer/\X.env.frame=some X.env.locals)
 exf:∀ b∈X.ex,b≠X.env.locals/\∀ x c,X.env.cells.lookup x=some c->c≠b
 bs:∀ b o,X.base.get? b=some o->X.s₀.heap.get? b=some o/\X.H₀ b=none
 bsz:X.base.objs.size<=X.s₀.heap.objs.size
 AfM:∀ b o,X.base.get? b=some o->b∉X.ex
 AfN:∀ b∈X.ex,b∉X.fs
 Vv:X.s₀.heap.FunFrames X.base X.outer
 frf:∀ b∈X.fs,X.H₀ b=none
structure Inv (X:Cx)(pins:NO)(σ:List (Option V))(H:Hp)(s:Shared):Prop where
 ok:X.Ok
 os:s.os=X.s₀.os
 bare:AllBare s.gens
 base:Un X.fs X.ex X.H₀ H X.s₀.heap s.heap
 loc:∃ m,s.heap.Ns X.env.locals m/\∀(i:Nat)(x:Str)(v:V),X.N[i]?=some x->σ[i]?=some (some v)->Vis X.env.scope x->∃ u,RelV v u/\Look X.env s.heap m x u
 cell:∀ x c,X.env.cells.lookup x=some c->∃ v,s.heap.IsCell c v
 free:H X.env.locals=none
 N6:∀ x c,X.env.cells.lookup x=some c->H c=none
 pin:∀ p∈X.pn++pins,s.heap.get? p.1=some p.2/\H p.1=none/\p.1≠X.env.locals/\p.1∉X.fs/\∀ v,p.2.data≠.cell v
 hok:HOk X.prog X.w H s.heap
 len:σ.length=X.N.length
section
variable {σ:List (Option V)}
theorem Cx.Ok.AuC(ok:X.Ok){o:Obj}(e:X.base.get? b=some o):b∉X.fs:=λa=>by
 have:= (ok.Vv.mem a).1;rw[e] at this;cases this
theorem Inv.bs(I:Inv X pins σ H s):∀ b o,X.base.get? b=some o->s.heap.get? b=some o/\H b=none:=λb o e =>
 ⟨I.base.keep b o (I.ok.bs b o e).1 (I.ok.bs b o e).2 (I.ok.AuC e) (I.ok.AfM b o e),I.base.free b o (I.ok.bs b o e).1 (I.ok.bs b o e).2 (I.ok.AfM b o e)⟩
theorem Inv.bk(I:Inv X pins σ H s):∀ b o,X.base.get? b=some o->s.heap.get? b=some o:=λb o e=>(I.bs b o e).1
theorem Inv.mod(I:Inv X pins σ H s):Mod X.K X.mg X.base:=I.ok.mod
theorem Inv.kIn(I:Inv X pins σ H s):X.K.In s.heap:=I.ok.mod.kin.keeps I.bk
theorem Inv.lt(I:Inv X pins σ H s):X.env.locals<s.heap.objs.size:=let ⟨_,hn,_⟩:=I.loc;hn.lt
theorem Inv.sz(I:Inv X pins σ H s):X.s₀.heap.objs.size<=s.heap.objs.size:=Awe I.ok.above (Awx I.lt)
theorem Inv.AuD(I:Inv X pins σ H s)(h:s.heap.objs.size<=a):a∉X.fs:=λc=>by
 obtain⟨_,o,b,_⟩:=I.ok.Vv.mem c;exact absurd (Awd (Heap.lt_size b) (Awe I.sz h)) (Aww _)
theorem Inv.cne(I:Inv X pins σ H s):∀ x c,X.env.cells.lookup x=some c->c≠X.env.locals:=λx c e z=>by
 obtain⟨v,o,d,h⟩:=I.cell x c e;obtain⟨m,⟨o',es,f,a,b,_⟩,_⟩:=I.loc;grind
theorem Inv.Vv(I:Inv X pins σ H s):s.heap.FunFrames X.base X.outer:=by
 have all:∀(l:List Env),(∀ b∈frs l,b∈X.fs)->X.s₀.heap.FunFrames X.base l->s.heap.FunFrames X.base l:=by
  intro l
  induction l with
  | nil=>intro _ _;trivial
  | cons env r h =>
   intro f k;obtain⟨hk,⟨L,o,c,hn,m,j⟩,i⟩:=k;have a:=f L (by unfold frs;rw[Aw9,c];exact AvP);obtain⟨n,e⟩:=I.base.slot L o m (I.ok.frf L a) a λz=>I.ok.AfN L z a;exact⟨hk,⟨L,_,c,hn,e,j⟩,h (λb d=>f b (by unfold frs;rw[Aw9,c];exact AvR _ d)) i⟩
 exact all X.outer (λ_ d=>d) I.ok.Vv
theorem Inv.stack(I:Inv X pins σ H s):s.heap.FunFrames X.base X.stack:=by
 rcases I.ok.stk with e | ⟨e,a⟩
 ·rw[e];exact I.Vv
 ·rw[e];obtain⟨m,hn,_⟩:=I.loc;refine .cons (by rw[I.ok.kind];decide) a hn ?_ I.Vv;exact Heap.get?_none_of_le (Awe I.ok.bsz I.ok.above)
theorem Inv.Aek(I:Inv X pins σ H s):∀ b∈frs X.stack,b∈X.env.locals::X.fs:=λb a=>by
 rcases I.ok.stk with e | ⟨e,c⟩
 ·rw[e] at a;exact AvR _ a
 ·rw[e] at a;unfold frs at a;rw[Aw9,c] at a;exact a
theorem Inv.AaB(I:Inv X pins σ H s):∀ b∈frs X.stack,H b=none:=λb a=>by
 rcases yG.mp (I.Aek b a) with e | a
 ·rw[e];exact I.free
 ·obtain⟨_,o,c,_⟩:=I.ok.Vv.mem a;exact I.base.free b o c (I.ok.frf b a) λz=>I.ok.AfN b z a
theorem Inv.step(I:Inv X pins σ H s)
  (h:∀ b∈ch,(b∈X.ex\/X.s₀.heap.objs.size<=b)/\b≠X.env.locals/\(∀ x c,X.env.cells.lookup x=some c->c≠b)/\∀ p∈X.pn++pins,p.1≠b)
  (keep:∀ b o,b≠X.env.locals->b∉X.fs->b∉ch->s.heap.get? b=some o->H b=none->h'.get? b=some o)
  (B:∀ b o,b≠X.env.locals->b∈X.fs->b∉ch->s.heap.get? b=some o->H b=none->∃ L,h'.get? b=some { o with slots:=L }) (free:∀ b o,b∉ch->s.heap.get? b=some o->H b=none->H' b=none)
  (C:∀ b o,b∉ch->s.heap.get? b=some o->∃ o',h'.get? b=some o')
  (F:∀ b xs,H b=some (.tup xs)->H' b=some (.tup xs)) (R:∀ b o u,H b=some (.frz o u)->H' b=some (.frz o u)) (Y:∀ b ps,H b=some (.tbl ps)->∃ more,H' b=some (.tbl (ps++more)))
  (ns:∀ m,s.heap.Ns X.env.locals m->h'.Ns X.env.locals m) (M:HOk X.prog X.w H' h') (S:AllBare g') :
  Inv X pins σ H' { s with heap:=h',gens:=g',drawn:=d',toks:=t' }:=by
 have J:∀ b o,X.s₀.heap.get? b=some o->b≠X.env.locals:=λb o e=>AvY (Awd (Heap.lt_size e) I.ok.above);have A:∀ b o,X.s₀.heap.get? b=some o->b∉X.ex->b∉ch:=λb o e a D=>by
  rcases(h b D).1 with z | z
  ·exact a z
  ·exact absurd (Awd (Heap.lt_size e) z) (Aww _)
 have j:∀ x c,X.env.cells.lookup x=some c->∀ v,s.heap.IsCell c v->h'.IsCell c v:=λx c e v ⟨o,E,K⟩=>by
  have f:=λz=>(h c z).2.2.1 x c e U;by_cases hc:c∈X.fs
  ·obtain⟨L,q⟩:=B c o (I.cne x c e) hc f E (I.N6 x c e);exact⟨_,q,K⟩
  ·exact⟨o,keep c o (I.cne x c e) hc f E (I.N6 x c e),K⟩
 refine⟨I.ok,I.os,S,⟨λb o e n D a=>?_,λb o e n D a=>?_,λb o e n a=>?_,λb o e a=>?_,λb xs e=>F b xs (I.base.tups b xs e),λb o xs e=>R b o xs (I.base.Iw b o xs e),λb ps e=>?_⟩,?_,λx c e=>?_,?_,λx c e=>?_,λp P=>?_,M,I.len⟩
 ·exact keep b o (J b o e) D (A b o e a) (I.base.keep b o e n D a) (I.base.free b o e n a)
 ·obtain⟨L,y⟩:=I.base.slot b o e n D a;obtain⟨N,G⟩:=B b _ (J b o e) D (A b o e a) y (I.base.free b o e n a);exact⟨N,G⟩
 ·obtain⟨o',y⟩:=I.base.there b o e a;exact free b o' (A b o e a) y (I.base.free b o e n a)
 ·obtain⟨o',y⟩:=I.base.there b o e a;exact C b o' (A b o e a) y
 ·obtain⟨W,y⟩:=I.base.JP b ps e;obtain⟨T,G⟩:=Y b _ y;exact⟨W++T,by rw[G,Array.append_assoc]⟩
 ·obtain⟨m,hn,hl⟩:=I.loc;refine⟨m,ns m hn,λi x v y G Z=>?_⟩;obtain⟨u,r,l⟩:=hl i x v y G Z;refine⟨u,r,?_⟩;rcases l with l | ⟨k,c,e,z⟩
  ·exact .inl l
  ·exact .inr ⟨k,c,e,j x c e _ z⟩
 ·obtain⟨v,z⟩:=I.cell x c e;exact⟨v,j x c e v z⟩
 ·obtain⟨m,⟨o,_,_,E,_⟩,_⟩:=I.loc;exact free _ o (λz=>(h _ z).2.1 U) E I.free
 ·obtain⟨v,o,E,K⟩:=I.cell x c e;exact free c o (λz=>(h c z).2.2.1 x c e U) E (I.N6 x c e)
 ·obtain⟨e,n,O,Q,d⟩:=I.pin p P;have f:=λz=>(h p.1 z).2.2.2 p P U;exact⟨keep p.1 p.2 O Q f e n,free p.1 p.2 f e n,O,Q,d⟩
theorem Inv.un(I:Inv X pins σ H s)(u:Un X.fs [] H H' s.heap h')(f:HOk X.prog X.w H' h'):Inv X pins σ H' { s with heap:=h',toks:=t' }:=by
 obtain⟨m,⟨o,es,v,i,r⟩,_⟩:=id I.loc;obtain⟨p,l⟩:=u.any i I.free AA;exact I.step (ch:=[]) (λ_ z=>nomatch z) (λb o _ c _ e n=>u.keep b o e n c AA) (λb o _ c _ e n=>u.slot b o e n c AA) (λb o _ e n=>u.free b o e n AA) (λb o _ e=>u.there b o e AA) u.tups u.Iw u.JP (λq k=>by
  obtain⟨o',h,d,a,j⟩:=k;rw[i] at a;cases a;exact⟨_,h,d,l,j⟩) f I.bare
theorem Inv.call(I:Inv X pins σ H s)(u:Un (frs X.stack) ch H H' s.heap h')(h:HOk X.prog X.w H' h')(y:AllBare g')
  (a:∀ b∈ch,(b∈X.ex\/X.s₀.heap.objs.size<=b)/\b≠X.env.locals/\(∀ x c,X.env.cells.lookup x=some c->c≠b)/\∀ p∈X.pn++pins,p.1≠b) :
  Inv X pins σ H' { s with heap:=h',gens:=g',drawn:=d',toks:=t' }:=by
 obtain⟨m,⟨o,es,C,k,r⟩,_⟩:=id I.loc;obtain⟨A,i⟩:=u.any k I.free λz=>(a _ z).2.1 U;exact I.step a (λb o i v hc e n=>u.keep b o e n (λz=>(yG.mp (I.Aek b z)).elim i v) hc) (λb o _ _ hc e n=>u.any e n hc) (λb o hc e n=>u.free b o e n hc) (λb o hc e=>u.there b o e hc) u.tups u.Iw u.JP (λB q=>by
  obtain⟨o',j,f,d,l⟩:=q;rw[k] at d;cases d;exact⟨_,j,f,i,l⟩) h y
theorem Inv.turned(I:Inv X pins σ H s)(k:∀ b o,b≠it->s.heap.get? b=some o->h'.get? b=some o)(hn:H it=none)(d:it≠X.env.locals)
  (h1:it∈X.ex\/X.s₀.heap.objs.size<=it) (h2:∀ x c,X.env.cells.lookup x=some c->c≠it) (f:∀ p∈X.pn++pins,p.1≠it):Inv X pins σ H { s with heap:=h',toks:=t' }:=by
 have a:∀ b u,H b=some u->b≠it:=λb u e z=>AD
 refine I.step (ch:=[it]) (λb i=>?_) (λb o _ _ hc e _=>k b o (λz=>hc (by simp[z])) e) (λb o _ _ hc e _=>⟨o.slots,k b o (λz=>hc (by simp[z])) e⟩) (λ_ _ _ _ n=>n)
  (λb o hc e=>⟨o,k b o (λz=>hc (by simp[z])) e⟩) (λ_ _ e=>e) (λ_ _ _ e=>e) (λb ps e=>⟨#[],by rw[e];simp⟩) (λm h=>?_) (λb u e=>?_) I.bare
 ·have e:b=it:=by simpa using i
  subst e;exact⟨h1,d,h2,f⟩
 ·obtain⟨o,es,l,j,r⟩:=h;exact⟨o,es,l,k _ o (Ne.symm d) j,r⟩
 ·refine(I.hok b u e).stay (λc v hc q=>k c v ?_ q) (λ_ q=>q) λ_ _ q=>q;rcases hc with z | z
  ·rw[z];exact a b u e
  ·exact a c _ z
theorem Inv.tok(I:Inv X pins σ H s)(t:Nat):Inv X pins σ H { s with toks:=t }:=I.un (h':=s.heap) (t':=t) Un.refl I.hok
theorem Inv.kept(I:Inv X pins σ H s)(k:∀ b u,s.heap.get? b=some u->h'.get? b=some u):Inv X pins σ H { s with heap:=h',toks:=t' }:=I.un (Un.kept k) (I.hok.kept k)
theorem Inv.laid(I:Inv X pins σ H s)(k:∀ b u,s.heap.get? b=some u->h'.get? b=some u)(c:s.heap.objs.size<=a)(new:Iu X.prog X.w (upd H a o) h' a o) :
  Inv X pins σ (upd H a o) { s with heap:=h',toks:=t' }:=I.un (Un.laid k c (I.hok.fresh c)) (I.hok.laid k c new)
theorem Inv.write{x e:Addr}(I:Inv X pins σ H s)(c:Mut (H x))(d:e=x\/H e=some (.own x))(k:∀ b u,b≠e->s.heap.get? b=some u->h'.get? b=some u)(a:∃ u,h'.get? e=some u)
  (new:Iu X.prog X.w (upd H x o) h' x o):Inv X pins σ (upd H x o) { s with heap:=h',toks:=t' }:=I.un (Un.write c d k a) (I.hok.write c d k a new)
theorem Inv.VN{Alv:NO}(I:Inv X pins σ H s)(h:∀ p∈Alv,s.heap.get? p.1=some p.2/\H p.1=none/\p.1≠X.env.locals/\p.1∉X.fs/\∀ v,p.2.data≠.cell v):Inv X Alv σ H s :=
 ⟨I.ok,I.os,I.bare,I.base,I.loc,I.cell,I.free,I.N6,λp a=>(zG.mp a).elim (λz=>I.pin p (Axb _ z)) (h p),I.hok,I.len⟩
theorem AfO(c:N.Nodup)(a:N[i]?=some x)(b:N[j]?=some x):i=j:=by obtain⟨h1,e⟩:=zC.mp a;obtain⟨h2,d⟩:=zC.mp b;exact(List.getElem_inj c).mp (e.trans d.symm)
theorem Adt(I:Inv X pins σ H s)(hN:X.N.Nodup)(hi:X.N[i]?=some x)(C:Loc X.env.scope x)(r:RelV v u)
  (h:∀ s',Inv X pins (σ.set i (some v)) H s'->(∃ a,Heap.SameBut a s.heap s'.heap/\(a=X.env.locals\/X.env.cells.lookup x=some a))->Q () s') (hf:X.fn x=true\/X.env.scope.names.lookup x=some .local:=by first | exact .inl U | exact .inr U | assumption):wpAny M A (storeName X.env x u) Q E s:=by
 obtain⟨m,hn,hl⟩:=id I.loc;have O:(X.env.scope.kind == .class || (X.env.scope.kind == .module && X.env.locals != X.env.globals))=false:=by rw[I.ok.kind];rfl
 have F:i<σ.length:=by rw[I.len];exact(zC.mp hi).1
 have cne:=I.cne;have B:∀{a:Addr} {h':Heap},(∃ o,s.heap.get? a=some o/\H a=none)->Heap.SameBut a s.heap h'->HOk X.prog X.w H h':=λ{a h'} ha f b ob e=>by
  obtain⟨_,_,a1⟩:=ha;refine(I.hok b ob e).stay (λc T hc q=>(f.2 c ?_).trans q) (λ_ q=>q) λ_ _ q=>q;rintro rfl;grind
 rcases C with hk | hk
 ·refine wpAny_storeName_local hk hn (λh' a0 f=>?_) O;obtain⟨oL,_,_,Z,_⟩:=id hn;refine h _ ⟨I.ok,I.os,I.bare,⟨λb o e n J C=>?_,λb o e n J C=>?_,I.base.free,λb o e C=>?_,I.base.tups,I.base.Iw,I.base.JP⟩,⟨_,a0,λj y Y l D e3=>?_⟩,λy c e=>?_,I.free,I.N6,λp hp=>?_,B ⟨oL,Z,I.free⟩ f,by simpa using I.len⟩ ⟨_,f,.inl U⟩
  ·exact(f.2 b (AvY (Awd (Heap.lt_size e) I.ok.above))).trans (I.base.keep b o e n J C)
  ·obtain⟨sl,l⟩:=I.base.slot b o e n J C;exact⟨sl,(f.2 b (AvY (Awd (Heap.lt_size e) I.ok.above))).trans l⟩
  ·obtain⟨o',l⟩:=I.base.there b o e C;exact⟨o',(f.2 b (AvY (Awd (Heap.lt_size e) I.ok.above))).trans l⟩
  ·by_cases G:j=i
   ·subst G;rw[hi] at l;cases l;rw[List.getElem?_set_self F] at D;cases D;exact⟨u,r,.inl ⟨hk,AA⟩⟩
   ·rw[List.getElem?_set_ne (Ne.symm G)] at D;obtain⟨u',r',q⟩:=hl j y Y l D e3;refine⟨u',r',?_⟩;rcases q with ⟨k,e⟩ | ⟨k,c,e,z⟩
    ·refine .inl ⟨k,?_⟩;have:y≠x:=λe=>G (AfO hN l (e▸hi));simp[this,e]
    ·exact .inr ⟨k,c,e,z.sameBut f (cne y c e)⟩
  ·obtain⟨T,z⟩:=I.cell y c e;exact⟨T,z.sameBut f (cne y c e)⟩
  ·obtain⟨e,n,S,nf,d⟩:=I.pin p hp;exact⟨(f.2 p.1 S).trans e,n,S,nf,d⟩
 ·have K:X.fn x=true:=by
   simp_all
  obtain⟨c,hc⟩:=I.ok.has x (.inl hk);obtain⟨T,z⟩:=I.cell x c hc;refine wpAny_storeName_cell I.ok.kind hk hc z (λh' R f=>?_);obtain⟨oc,P,a2⟩:=id z;refine h { s with heap:=h' } ⟨I.ok,I.os,I.bare,⟨λb o e n J C=>?_,λb o e n J C=>?_,I.base.free,λb o e C=>?_,I.base.tups,I.base.Iw,I.base.JP⟩,⟨m,hn.sameBut f (Ne.symm (cne x c hc)),λj y Y l D e3=>?_⟩,λy W e=>?_,I.free,I.N6,λp hp=>?_,B ⟨oc,P,I.N6 x c hc⟩ f,by simpa using I.len⟩ ⟨c,f,.inr hc⟩
  ·exact(f.2 b (AvY (Awd (Heap.lt_size e) (I.ok.cab x c K hc)))).trans (I.base.keep b o e n J C)
  ·obtain⟨sl,l⟩:=I.base.slot b o e n J C;exact⟨sl,(f.2 b (AvY (Awd (Heap.lt_size e) (I.ok.cab x c K hc)))).trans l⟩
  ·obtain⟨o',l⟩:=I.base.there b o e C;exact⟨o',(f.2 b (AvY (Awd (Heap.lt_size e) (I.ok.cab x c K hc)))).trans l⟩
  ·by_cases G:j=i
   ·subst G;rw[hi] at l;cases l;rw[List.getElem?_set_self F] at D;cases D;exact⟨u,r,.inr ⟨.inl hk,c,hc,R⟩⟩
   ·rw[List.getElem?_set_ne (Ne.symm G)] at D;obtain⟨u',r',q⟩:=hl j y Y l D e3;refine⟨u',r',?_⟩;rcases q with q | ⟨k,W,e,z'⟩
    ·exact .inl q
    ·refine .inr ⟨k,W,e,z'.sameBut f ?_⟩;rintro rfl;exact G (AfO hN l (I.ok.inj _ _ _ e hc▸hi))
  ·by_cases L:W=c
   ·subst L;exact⟨_,R⟩
   ·obtain⟨w2,z2⟩:=I.cell y W e;exact⟨w2,z2.sameBut f L⟩
  ·obtain⟨e,n,S,nf,d⟩:=I.pin p hp;refine⟨(f.2 p.1 ?_).trans e,n,S,nf,d⟩;intro q;rw[q,P] at e;have q':=Option.some.inj e;exact d T (by rw[<- q'];exact a2)
theorem VP(I:Inv X pins σ H s)(c:X.N.Nodup)(hi:X.N[i]?=some x)(d:Loc X.env.scope x)(r:RelV v u)
  (h:∀ s',Inv X pins (σ.set i (some v)) H s'->Q () s') (a:X.fn x=true\/X.env.scope.names.lookup x=some .local:=by first | exact .inl U | exact .inr U | assumption):wpAny M A (storeName X.env x u) Q E s :=
 Adt I c hi d r (λs' b _=>h s' b) a
theorem Inv.call'(I:Inv X pins σ H s)(f:s'.os=s.os)(u:Un (frs X.stack) ch H H' s.heap s'.heap)(a:HOk X.prog X.w H' s'.heap)(h:AllBare s'.gens)
  (d:∀ b∈ch,(b∈X.ex\/X.s₀.heap.objs.size<=b)/\b≠X.env.locals/\(∀ x c,X.env.cells.lookup x=some c->c≠b)/\∀ p∈X.pn++pins,p.1≠b):Inv X pins σ H' s':=by
 obtain⟨h',g',d',t',o'⟩:=s';have e:o'=s.os:=f;subst e;exact I.call u a h d
end
abbrev XK:=Value->Option Addr->Hp->Prop
abbrev St:=List (Option V)
abbrev VK:=V->Hp->Prop
abbrev TE:=St->Hp->VK->Prop
abbrev TT:=St->Hp->(Bool->Hp->Prop)->Prop
abbrev TA:=St->Hp->(Na->Hp->Prop)->Prop
structure Ends where
 nx:St->Hp->Prop
 rt:VK
 bk:St->Hp->Prop:=λ_ _=>False
 ct:St->Hp->Prop:=λ_ _=>False
abbrev TS:=Ends->St->Hp->Prop
def EP (X:Cx)(pins:NO)(σ:St)(Q:VK)(u:Value)(s':Shared):Prop:=∃ v H',Inv X pins σ H' s'/\RelV v u/\Q v H'
def TP (X:Cx)(pins:NO)(σ:St)(Q:Bool->Hp->Prop)(b:Bool)(s':Shared):Prop:=∃ H',Inv X pins σ H' s'/\Q b H'
def AP (X:Cx)(pins:NO)(σ:St)(Q:Na->Hp->Prop)(us:NW)(s':Shared):Prop:=∃ vs H',Inv X pins σ H' s'/\Vals vs us/\Q vs H'
def SP (X:Cx)(pins:NO)(D:Ends)(f:Flow)(s':Shared):Prop :=
 match f with
 | .next=>∃ σ' H',Inv X pins σ' H' s'/\D.nx σ' H'
 | .brk=>∃ σ' H',Inv X pins σ' H' s'/\D.bk σ' H'
 | .cont=>∃ σ' H',Inv X pins σ' H' s'/\D.ct σ' H'
 | .ret u=>∃ v σ' H',Inv X pins σ' H' s'/\RelV v u/\D.rt v H'
def PE (X:Cx)(e:Expr)(t:TE):Prop :=
 ∀(pins:NO)(s:Shared)(σ:St)(H:Hp)(Q:VK),Inv X pins σ H s->t σ H Q->wpAny (model X.prog X.w) X.A (eval e X.env) (EP X pins σ Q) X.xe s
def PT (X:Cx)(e:Expr)(t:TT):Prop :=
 ∀(pins:NO)(s:Shared)(σ:St)(H:Hp)(Q:Bool->Hp->Prop),Inv X pins σ H s->t σ H Q->wpAny (model X.prog X.w) X.A (isTrue e X.env (eval e X.env)) (TP X pins σ Q) X.xe s
def PW (X:Cx)(e:Expr)(t:TT):Prop :=
 ∀(whole:Sem Value)(pins:NO)(s:Shared)(σ:St)(H:Hp)(Q:Bool->Hp->Prop),Inv X pins σ H s->t σ H Q->wpAny (model X.prog X.w) X.A (isTrue e X.env whole) (TP X pins σ Q) X.xe s
theorem PW.pt{t:TT}(h:PW X e t):PT X e t:=h _
def PA (X:Cx)(es:List Expr)(t:TA):Prop :=
 ∀(pos:Pos)(pins:NO)(s:Shared)(σ:St)(H:Hp)(Q:Na->Hp->Prop),Inv X pins σ H s->t σ H Q->wpAny (model X.prog X.w) X.A (spliced (backTo pos (starEach es X.env))) (AP X pins σ Q) X.xe s
def PS (X:Cx)(st:Stmt)(t:TS):Prop :=
 ∀(pins:NO)(s:Shared)(σ:St)(H:Hp)(D:Ends),Inv X pins σ H s->t D σ H->wpAny (model X.prog X.w) X.A (exec st X.env) (SP X pins D) X.xe s
def PSs (X:Cx)(st:List Stmt)(t:TS):Prop :=
 ∀(pins:NO)(s:Shared)(σ:St)(H:Hp)(D:Ends),Inv X pins σ H s->t D σ H->wpAny (model X.prog X.w) X.A (execs st X.env) (SP X pins D) X.xe s
theorem thn{t:Sem α}{Q b:α->Shared->Prop}(h:wpAny M A t Q E s)(c:∀ a s,Q a s->b a s):wpAny M A t b E s:=zT h c λ_ _ x=>x
section
inductive AqO (i:Nat)(σ:St)(H:Hp)(Q:VK):Prop
|mk(v:_)(_:σ[i]?=some (some v))(_:Q v H)
def tC (v:V):TE:=λ_ H Q=>Q v H
theorem AqP(f:X.N[i]?=some x)(n:Vis X.env.scope x)(d:(x == ("__debug__" : Str))=false:=by decide) (b:(x == ("__classdict__" : Str))=false:=by decide):PE X (.Name x pos) (AqO i):=by
 intro pins s σ H Q I h;obtain⟨v,e,h⟩:=h;obtain⟨m,hn,k⟩:=I.loc;obtain⟨u,r,l⟩:=k i x v f e n;have fin:EP X pins σ Q u s:=⟨v,H,I,r,h⟩;rcases l with ⟨hk,j⟩ | ⟨hk,c,hc,a⟩
 ·exact wpAny_Name (wpAny_loadName_local I.ok.kind hk hn j fin) d
 ·rcases hk with hk | hk
  ·exact wpAny_Name (wpAny_loadName_cell I.ok.kind hk hc a fin) d
  ·exact wpAny_Name (wpAny_loadName_free I.ok.kind hk hc a fin b) d
theorem Ah{i j pos}:PE X (.Constant (.int i) j pos) (tC (.int i)):=λ_ _ _ H _ I h=>wpAny_Constant_int ⟨.int i,H,I.tok _,⟨_,U⟩,h⟩
theorem Alw{b j pos}:PE X (.Constant (.bool b) j pos) (tC (.bl b)):=λ_ _ _ H _ I h=>Constant_bool ⟨.bl b,H,I,U,h⟩
theorem Rp{j pos}:PE X (.Constant .none j pos) (tC .non):=λ_ _ _ H _ I h=>Constant_none ⟨.non,H,I,U,h⟩
theorem Af{x j pos}:PE X (.Constant (.str x) j pos) (tC (.str x)):=λ_ _ _ H _ I h=>Calls.Constant_str ⟨.str x,H,I.tok _,⟨_,U⟩,h⟩
def Gl (X:Cx)(x:Str):Prop:=X.env.kindOf x=some .globalImplicit
theorem Tp{Q:NR}(I:Inv X pins σ H s)(a:Gl X x)(b:X.mg x=some u)(h:Q u s)
  (c:(x == ("__debug__" : Str))=false:=by decide):wpAny (model X.prog X.w) X.A (eval (.Name x pos) X.env) Q E s :=
 Calls.Name_function_global I.ok.kind a (Calls.loadGlobal_global (by rw[I.ok.glob];exact I.mod.glob.keeps I.bk) b h) c
theorem Iz{Q:NR}(I:Inv X pins σ H s)(c:Gl X x)(a:X.mg x=none)(b:bootBuiltins x=some u)(h:Q u s)
  (hn:x ≠ "__name__" := by decide) (d:(x == ("__debug__" : Str))=false:=by decide):wpAny (model X.prog X.w) X.A (eval (.Name x pos) X.env) Q E s:=by
 obtain⟨mb,h1,h2⟩:=I.mod.blt;exact Calls.Name_function_global I.ok.kind c (Calls.loadGlobal_builtin (by rw[I.ok.glob];exact I.mod.glob.keeps I.bk) a (by rw[I.ok.blt];exact h1.keeps I.bk) ((h2 x hn).trans b) h) d
theorem BX(a:Gl X x)(b:X.mg x=some u)(r:RelV v u)(c:(x == ("__debug__" : Str))=false:=by decide):PE X (.Name x pos) (tC v) :=
 λ_ _ _ H _ I h=>Tp I a b ⟨v,H,I,r,h⟩ c
theorem Ai3(c:Gl X x)(a:X.mg x=none)(b:bootBuiltins x=some u)(r:RelV v u)(hn:x ≠ "__name__" := by decide) (d:(x == ("__debug__" : Str))=false:=by decide):PE X (.Name x pos) (tC v) :=
 λ_ _ _ H _ I h=>Iz I c a b ⟨v,H,I,r,h⟩ hn d
variable {a b:Expr}{tb:TE}
def PC (X:Cx)(op:CmpOp)(a b:Expr)(t:TE):Prop :=
 ∀(pins:NO)(s:Shared)(σ:St)(H:Hp)(Q:VK),Inv X pins σ H s->t σ H Q ->
  wpAny (model X.prog X.w) X.A (eval a X.env) (λv s₁=>wpAny (model X.prog X.w) X.A (eval b X.env) (λu s₂=>wpAny (model X.prog X.w) X.A (compareOp op v u) (EP X pins σ Q) X.xe s₂) X.xe s₁) X.xe s
theorem Alx(b:Expr)(h:op≠.In)(h2:op≠.NotIn):behindInMarks op b=false:=by
 have c:(op == CmpOp.In)=false:=AD
 have a:(op == CmpOp.NotIn)=false:=AD
 cases b <;> simp[behindInMarks,c,a]
inductive AuF (Q:(Bool->Hp->Prop))(x:V)(H1:Hp):Prop
|mk(c:_)(_:x=.bl c)(_:Q c H1)
def tB (t:TE)(σ:St)(H:Hp)(Q:(Bool->Hp->Prop)):Prop:=t σ H (AuF Q)
theorem AqQ{t:TE}(h:PC X op a b t)(h1:behindInMarks op b=false:=by first | exact Alx _ Ap Ap | rfl):PT X (.Compare a [op] [b] pos) (tB t):=by intro pins s σ H Q I hw;refine wpAny_isTrue_Compare1 (thn (h pins s σ H _ I hw) λv s1 h1=>thn h1 λu j h2=>thn h2 λc k ⟨x,H1,f,i,e⟩=>?_) h1;obtain⟨d,rfl,q⟩:=e;cases i;exact yE ⟨H1,f,q⟩
theorem Fl{t:TE}(h:PE X e t)(b:∀ whole,isTrue e X.env whole=(do let v <- whole;standAt e.pos;holding [v] (truthy v)):=by intro _;rfl):PT X e (tB t):=by intro pins s σ H Q I hw;refine isTrue_plain (thn (h pins s σ H _ I hw) λv s1 ⟨x,H1,c,f,a⟩=>?_) (b _);obtain⟨d,rfl,q⟩:=a;cases f;exact yE ⟨H1,c,q⟩
variable {tA tB':TT}{rest:List Expr}
abbrev AqR (u:TT)(σ:St)(Q:(Bool->Hp->Prop))(c:Bool)(H1:Hp):Prop:=if c=true then u σ H1 Q else Q false H1
def AuG (t:TT)(u:TT)(σ:St)(H:Hp)(Q:(Bool->Hp->Prop)):Prop:=t σ H (AqR u σ Q)
abbrev As7 (u:TT)(σ:St)(Q:(Bool->Hp->Prop))(c:Bool)(H1:Hp):Prop:=if c=true then Q true H1 else u σ H1 Q
def tOr (t:TT)(u:TT)(σ:St)(H:Hp)(Q:(Bool->Hp->Prop)):Prop:=t σ H (As7 u σ Q)
abbrev AqS (Q:(Bool->Hp->Prop))(c:Bool)(H1:Hp):Prop:=Q (!c) H1
def AuH (t:TT)(σ:St)(H:Hp)(Q:(Bool->Hp->Prop)):Prop:=t σ H (AqS Q)
theorem pw_and1(b:PT X a tA):PW X (.BoolOp .And [a] pos) tA:=by
 intro d pins s σ H Q I h;refine isTrue_and (thn (b pins s σ H Q I h) λc s1 e=>?_);cases c with
 | true=>exact isTrue_and_nil e
 | false=>exact e
theorem pw_or1(b:PT X a tA):PW X (.BoolOp .Or [a] pos) tA:=by
 intro d pins s σ H Q I h;refine isTrue_or (thn (b pins s σ H Q I h) λc s1 e=>?_);cases c with
 | false=>exact isTrue_or_nil e
 | true=>exact e
theorem pw_and(i:PT X a tA)(j:PW X (.BoolOp .And (b::rest) pos) tB'):PW X (.BoolOp .And (a::b::rest) pos) (AuG tA tB'):=by
 intro f pins s σ H Q I h;refine isTrue_and (thn (i pins s σ H _ I h) λc s1 ⟨H1,e,d⟩=>?_);cases c with
 | true=>exact j f pins s1 σ H1 Q e d
 | false=>exact⟨H1,e,d⟩
theorem pw_or(i:PT X a tA)(j:PW X (.BoolOp .Or (b::rest) pos) tB'):PW X (.BoolOp .Or (a::b::rest) pos) (tOr tA tB'):=by
 intro f pins s σ H Q I h;refine isTrue_or (thn (i pins s σ H _ I h) λc s1 ⟨H1,e,d⟩=>?_);cases c with
 | true=>exact⟨H1,e,d⟩
 | false=>exact j f pins s1 σ H1 Q e d
theorem Hu(b:PT X a tA):PT X (.UnaryOp .Not a pos) (AuH tA):=by intro pins s σ H Q I h;exact isTrue_not (b pins s σ H (λc H1=>Q (!c) H1) I h)
inductive Ao1 (tb:TE)(σ:St)(Q:VK)(x:V)(H1:Hp):Prop
|mk(c:_)(_:x=.bl c)(_:if c=true then tb σ H1 Q else Q (.bl false) H1)
def As8 (ta:TE)(tb:TE)(σ:St)(H:Hp)(Q:VK):Prop:=ta σ H (Ao1 tb σ Q)
theorem Aly{op}{t:TE}(h:PE X a t):PE X (.BoolOp op [a] pos) t:=λpins s σ H Q I hw=>BoolOp_one (h pins s σ H Q I hw)
theorem Aho(f:PE X a ta)(j:PE X (.BoolOp .And (b::rest) pos) tb):PE X (.BoolOp .And (a::b::rest) pos) (As8 ta tb):=by
 intro pins s σ H Q I h;refine BoolOp_and (thn (f pins s σ H _ I h) λv s1 ⟨x,H1,e,i,d⟩=>?_);obtain⟨c,rfl,d⟩:=d;cases i;refine yE ?_;cases c with
 | true=>exact j pins s1 σ H1 Q e d
 | false=>exact⟨.bl false,H1,e,U,d⟩
abbrev As9 (ta:TE)(tb:TE)(σ:St)(Q:VK)(c:Bool)(H1:Hp):Prop:=if c=true then ta σ H1 Q else tb σ H1 Q
def tIf (t:TT)(ta:TE)(tb:TE)(σ:St)(H:Hp)(Q:VK):Prop:=t σ H (As9 ta tb σ Q)
theorem Rq(hc:PT X c tA)(i:PE X a ta)(j:PE X b tb):PE X (.IfExp c a b pos) (tIf tA ta tb):=by
 intro pins s σ H Q I h;refine wpAny_IfExp (thn (hc pins s σ H _ I h) λd s1 ⟨H1,f,e⟩=>?_);cases d with
 | true=>exact i pins s1 σ H1 Q f e
 | false=>exact j pins s1 σ H1 Q f e
end
def SqL (K:NF)(H:Hp)(a:Addr)(xs:Na):Prop :=
 Rd H a (.lst xs) \/
  ∃(o:Obj)(its:Array Value)(n:Nat),K.lookup a=some o/\o.cls=.type "list" /\ o.dict=none/\o.data=.seq its n/\its.size<=sizeLine/\Vals xs its.toList
def SqT (K:NF)(H:Hp)(a:Addr)(xs:Na):Prop :=
 Rd H a (.tup xs) \/
  ∃(o:Obj)(its:Array Value)(n:Nat),K.lookup a=some o/\o.cls=.type "tuple" /\ o.data=.seq its n/\its.size<=sizeLine/\Vals xs its.toList
def AuI:Value->Option V
 | .none=>some .non
 | .bool b=>some (.bl b)
 | .int i _=>some (.int i)
 | .str x _=>some (.str x)
 | .bytes b _=>some (.byt b)
 | .float b _=>some (.flt b)
 | .ref a=>some (.ref a)
 | .type n=>some (.ty n)
 | _=>none
theorem RelV.abs{x:V}(r:RelV x u):AuI u=some x:=by
 cases x with
 | non=>cases r;rfl
 | bl _=>cases r;rfl
 | int _=>obtain⟨t,rfl⟩:=r;rfl
 | str _=>obtain⟨t,rfl⟩:=r;rfl
 | byt _=>obtain⟨t,rfl⟩:=r;rfl
 | flt _=>obtain⟨t,rfl⟩:=r;rfl
 | ref _=>cases r;rfl
 | ty _=>cases r;rfl
theorem RelV.inj{x:V}(r:RelV x u)(q:RelV y u):x=y:=Option.some.inj (r.abs.symm.trans q.abs)
theorem Vals.inj:∀{xs ys:Na} {us:NW},Vals xs us->Vals ys us->xs=ys:=by
 intro xs ys us h;induction h generalizing ys with
 | nil=>intro g;cases g;rfl
 | cons r _ b=>intro g;cases g with | cons a t'=>rw[r.inj a,b t']
section
variable {ys:Na}
theorem SqL.of{K:NF}(h:H a=some (.lst xs)):SqL K H a xs:=.inl (.inl h)
theorem SqT.of{K:NF}(h:H a=some (.tup xs)):SqT K H a xs:=.inl (.inl h)
theorem Inv.list(I:Inv X pins σ H s)(h:SqL X.K H a xs):∃ its:NW,Vals xs its/\PlainL s.heap a its.toArray/\xs.length<=sizeLine:=by
 rcases h with h | ⟨o,its,n,hk,hc,c,b,d,r⟩
 ·obtain⟨z,its,n,r,e⟩:=h.ok I.hok;exact⟨its,r,⟨_,n,e,U,U,U⟩,z⟩
 ·refine⟨its.toList,r,⟨o,n,I.kIn a o hk,hc,c,by simpa using b⟩,?_⟩;have e:=r.length;grind
theorem Inv.tuple(I:Inv X pins σ H s)(h:SqT X.K H a xs):∃ its:NW,Vals xs its/\IsTup s.heap a its.toArray/\xs.length<=sizeLine:=by
 rcases h with h | ⟨o,its,n,hk,hc,b,c,r⟩
 ·obtain⟨z,its,r,p⟩:=h.ok I.hok;exact⟨its,r,p,z⟩
 ·refine⟨its.toList,r,⟨o,I.kIn a o hk,hc,n,by simpa using b⟩,?_⟩;have e:=r.length;simp only [zK] at e;omega
theorem Inv.Rr(I:Inv X pins σ H s)(h:SqL X.K H a xs)(h':SqL X.K H a ys):xs=ys:=by
 obtain⟨its,r,⟨o,n,e,_,_,d⟩,_⟩:=I.list h;obtain⟨b,i,⟨o',j,c,_,_,d'⟩,_⟩:=I.list h';rw[e] at c;cases c;rw[d] at d';injection d' with f _;have:its=b:=by simpa using congrArg Array.toList f
 subst this;exact r.inj i
end
abbrev Cx.wish (X:Cx)(E:NR):Cx:={ X with xe:=E }
abbrev Cx.nox (X:Cx):Cx:=X.wish λ_ _=>False
theorem Cx.Ok.wish(ok:X.Ok)(E:NR):(X.wish E).Ok :=
 ⟨ok.mod,ok.kind,ok.glob,ok.blt,ok.above,ok.inj,ok.has,ok.cab,ok.hd,ok.frames,ok.stk,ok.exf,ok.bs,ok.bsz,ok.AfM,ok.AfN,ok.Vv,ok.frf⟩
theorem Cx.Ok.Hv(ok:(X.wish E).Ok):X.Ok :=
 ⟨ok.mod,ok.kind,ok.glob,ok.blt,ok.above,ok.inj,ok.has,ok.cab,ok.hd,ok.frames,ok.stk,ok.exf,ok.bs,ok.bsz,ok.AfM,ok.AfN,ok.Vv,ok.frf⟩
theorem Inv.wish(I:Inv X pins σ H s)(E:NR):Inv (X.wish E) pins σ H s:=⟨I.ok.wish E,I.os,I.bare,I.base,I.loc,I.cell,I.free,I.N6,I.pin,I.hok,I.len⟩
theorem Inv.Hv(I:Inv (X.wish E) pins σ H s):Inv X pins σ H s:=⟨I.ok.Hv,I.os,I.bare,I.base,I.loc,I.cell,I.free,I.N6,I.pin,I.hok,I.len⟩
theorem SP.Hv{f:Flow}(h:SP (X.wish E) pins D f s'):SP X pins D f s':=by
 cases f with
 | next=>obtain⟨σ',H',I,q⟩:=h;exact⟨σ',H',I.Hv,q⟩
 | brk=>obtain⟨σ',H',I,q⟩:=h;exact⟨σ',H',I.Hv,q⟩
 | cont=>obtain⟨σ',H',I,q⟩:=h;exact⟨σ',H',I.Hv,q⟩
 | ret u=>obtain⟨v,σ',H',I,r,q⟩:=h;exact⟨v,σ',H',I.Hv,r,q⟩
theorem PE.nox{t:TE}(h:PE X.nox e t):PE X e t:=λpins s σ H Q I hw =>
 zT (h pins s σ H Q (I.wish _) hw) (λ_ _ ⟨v,H',a,r,q⟩=>⟨v,H',a.Hv,r,q⟩) λ_ _ z=>False.elim z
theorem PSs.nox{st:List Stmt}{t:TS}(h:PSs X.nox st t):PSs X st t:=λpins s σ H D I hw =>
 zT (h pins s σ H D (I.wish _) hw) (λ_ _ q=>q.Hv) λ_ _ z=>False.elim z
section
variable {st:Stmt}{rest:List Stmt}{t u:TS}
def AsA:TS:=λD σ H=>D.nx σ H
def AsB (t u:TS):TS:=λD σ H=>t { D with nx:=u D } σ H
theorem Ao:PSs X [] AsA:=λ_ _ σ H _ I h=>wpAny_execs_nil ⟨σ,H,I,h⟩
theorem Ac(h1:PS X st t)(h2:PSs X rest u):PSs X (st::rest) (AsB t u):=by
 intro pins s σ H D I h;refine wpAny_execs_cons (thn (h1 pins s σ H { D with nx:=u D } I h) λf s1 q=>?_);cases f with
 | next =>
  obtain⟨σ',H',a,q⟩:=q;exact h2 pins s1 σ' H' D a q
 | ret v=>exact q
 | brk=>exact q
 | cont=>exact q
theorem Ad(h1:PS X st t):PSs X [st] t:=by
 intro pins s σ H D I h;refine wpAny_execs_cons (thn (h1 pins s σ H D I h) λf s1 q=>?_);cases f with
 | next=>exact wpAny_execs_nil q
 | ret v=>exact q
 | brk=>exact q
 | cont=>exact q
theorem Inv.quiet(I:Inv X pins σ H s):interactive X.env=false:=by simp[interactive,I.ok.kind]
abbrev Ao2 (D:Ends)(σ:St)(z0:V)(H1:Hp):Prop:=D.nx σ H1
def AsC (te:TE)(D:Ends)(σ:St)(H:Hp):Prop:=te σ H (Ao2 D σ)
theorem Bg(c:PE X e te)(b:swapsWith e none pos.line X.env=pure false:=by rfl):PS X (.Expr e pos) (AsC te):=by intro pins s σ H D I h;exact wpAny_Expr_any (thn (c pins s σ H _ I h) λv s1 ⟨x,H1,d,f,a⟩=>⟨σ,H1,d,a⟩) I.quiet b
def AuJ (te:TE):TS:=λD σ H=>te σ H D.rt
theorem Ay(c:PE X e te):PS X (.Return (some e) pos) (AuJ te):=by intro pins s σ H D I h;exact wpAny_Return_some (thn (c pins s σ H _ I h) λv s1 ⟨x,H1,d,a,b⟩=>⟨x,σ,H1,d,a,b⟩)
abbrev AqT (t:TS)(u:TS)(D:Ends)(σ:St)(b:Bool)(H1:Hp):Prop:=if b=true then t D σ H1 else u D σ H1
def AuK (c:TT)(t:TS)(u:TS)(D:Ends)(σ:St)(H:Hp):Prop:=c σ H (AqT t u D σ)
theorem Bm{a b:List Stmt}(hc:PT X c tc)(i:PSs X a t)(j:PSs X b u):PS X (.If c a b pos) (AuK tc t u):=by
 intro pins s σ H D I h;refine wpAny_If (thn (hc pins s σ H _ I h) λd s1 ⟨H1,f,e⟩=>?_);cases d with
 | true=>exact i pins s1 σ H1 D f e
 | false=>exact j pins s1 σ H1 D f e
def AqU:TS:=λ_ _ _=>False
theorem Gn:PS X st AqU:=λ_ _ _ _ _ _ h=>h.elim
end
abbrev TG:=V->St->Hp->(St->Hp->Prop)->Prop
abbrev TGs:=Na->St->Hp->(St->Hp->Prop)->Prop
def PG (X:Cx)(target:Expr)(t:TG):Prop :=
 ∀(pins:NO)(s:Shared)(σ:St)(H:Hp)(v:V)(u:Value)(Q:St->Hp->Prop),Inv X pins σ H s->RelV v u->t v σ H Q ->
  wpAny (model X.prog X.w) X.A (assign target X.env u) (λ_ s'=>∃ σ' H',Inv X pins σ' H' s'/\Q σ' H') X.xe s
def PGs (X:Cx)(ts:List Expr)(t:TGs):Prop :=
 ∀(pins:NO)(s:Shared)(σ:St)(H:Hp)(vs:Na)(us:NW)(Q:St->Hp->Prop),Inv X pins σ H s->Vals vs us->t vs σ H Q ->
  wpAny (model X.prog X.w) X.A (assignInOrder ((assignEach ts X.env).map (·.2)) us) (λ_ s'=>∃ σ' H',Inv X pins σ' H' s'/\Q σ' H') X.xe s
abbrev AuL:=V->V->V->Hp->(Hp->Prop)->Prop
def AuM (X:Cx)(t:AuL):Prop :=
 ∀(pins:NO)(s:Shared)(σ:St)(H:Hp)(o i v:V)(ov iv u:Value)(Q:Hp->Prop),Inv X pins σ H s->RelV o ov->RelV i iv->RelV v u->t o i v H Q ->
  wpAny (model X.prog X.w) X.A (setItem ov iv u) (λ_ s'=>∃ H',Inv X pins σ H' s'/\Q H') X.xe s
abbrev TIp:=V->V->Hp->VK->Prop
def PIp (X:Cx)(op:Operator)(t:TIp):Prop :=
 ∀(pins:NO)(s:Shared)(σ:St)(H:Hp)(x y:V)(v u:Value)(Q:VK),Inv X pins σ H s->RelV x v->RelV y u->t x y H Q ->
  wpAny (model X.prog X.w) X.A (inplaceOp op v u) (EP X pins σ Q) X.xe s
def Hw (i:Nat):TG:=λv σ H Q=>Q (σ.set i (some v)) H
theorem BJ(c:X.N.Nodup)(hi:X.N[i]?=some x)(d:Loc X.env.scope x)(b:X.fn x=true\/X.env.scope.names.lookup x=some .local:=by first | exact .inl U | exact .inr U | assumption):PG X (.Name x pos) (Hw i):=by intro pins s σ H v u Q I r h;exact wpAny_assign_Name (VP I c hi d r (λs' a=>⟨_,H,a,h⟩) b)
inductive AsD (vs:Na)(σ:St)(H:Hp)(Q:(St->Hp->Prop)):Prop
|mk(_:vs=[])(_:Q σ H)
inductive Alz (t:TG)(u:TGs)(vs:Na)(σ:St)(H:Hp)(Q:(St->Hp->Prop)):Prop
|mk(v:_)(r:_)(_:vs=v::r)(_:t v σ H λσ' H'=>u r σ' H' Q)
theorem Hg:PGs X [] AsD:=by intro pins s σ H vs us Q I r h;obtain⟨e,h⟩:=h;exact assignInOrder_nil ⟨σ,H,I,h⟩
theorem CK{t:TG}{u:TGs}(h1:PG X e t)(h2:PGs X es u)
  (f:(assignEach (e::es) X.env).map (·.2)=assign e X.env::(assignEach es X.env).map (·.2):=by rfl):PGs X (e::es) (Alz t u):=by
 intro pins s σ H vs us Q I r h;obtain⟨v,j,b,h⟩:=h;subst b;cases r with
 | cons r i =>
  rw[f];refine assignInOrder_cons (thn (h1 pins s σ H _ _ _ I r h) λ_ s1 ⟨a,H1,d,c⟩=>?_);exact h2 pins s1 a H1 _ _ Q d i c
inductive AsE (K:NF)(n:Nat)(t:TGs)(v:V)(σ:St)(H:Hp)(Q:(St->Hp->Prop)):Prop
|mk(a:_)(xs:_)(_:v=.ref a)(_:SqT K H a xs)(_:xs.length=n)(_:t xs σ H Q)
theorem JQ{t:TGs}(hc:X.calm=true)(h:PGs X es t)
  (hn:(assignEach es X.env).length=n:=by rfl) (c:(assignEach es X.env).findIdx? (·.1)=none:=by rfl):PG X (.Tuple es k pos) (AsE X.K n t):=by
 intro pins s σ H v u Q I r hw;obtain⟨a,xs,f,p,l,hw⟩:=hw;subst f;cases r;obtain⟨its,d,m,q⟩:=I.tuple p;refine assign_Tuple_tuple (I.ok.hd hc) m (by simp[hn,<- l,d.length]) c λh' j=>?_;have i:Inv X pins σ H { s with heap:=h' }:=I.kept λb o e=>j b o (AvY (Heap.lt_size e)) e;exact h pins _ σ H xs _ Q i (by simpa using d) hw
abbrev Al0 (g:TG)(D:Ends)(σ:St)(x:V)(H1:Hp):Prop:=g x σ H1 D.nx
def Aal (te:TE)(g:TG)(D:Ends)(σ:St)(H:Hp):Prop:=te σ H (Al0 g D σ)
theorem Vw{g:TG}(c:PE X e te)(a:PG X tg g)(i:swapsWithSole [tg] e pos.line X.env=pure false:=by rfl)(hw:swappedStores [tg] e X.env=pure none:=by rfl)
  (h1:(assignEach [tg] X.env).map (·.2)=[assign tg X.env]:=by rfl):PS X (.Assign [tg] e pos) (Aal te g):=by
 intro pins s σ H D I h;refine wpAny_Assign_stores (thn (c pins s σ H _ I h) λv s1 ⟨x,H1,d,f,b⟩=>?_) i hw;rw[h1];exact thn (a pins s1 σ H1 x v _ d f b) λ_ j q=>q
theorem Bb(c:X.N.Nodup)(hi:X.N[i]?=some x)(k:Loc X.env.scope x)(d:PE X e te)(m:swapsWith e (some (.Name x pos')) pos.line X.env=pure false:=by rfl)(a:X.fn x=true\/X.env.scope.names.lookup x=some .local:=by first | exact .inl U | exact .inr U | assumption) :
  PS X (.Assign [.Name x pos'] e pos) (Aal te (Hw i)):=by
 intro pins s σ H D I h;refine wpAny_Assign_Name (thn (d pins s σ H _ I h) λv s1 ⟨y,H1,f,l,b⟩=>?_) m;exact VP f c hi k l (λn j=>⟨_,H1,j,b⟩) a
inductive AuN (i:Nat)(te:TE)(ti:TIp)(D:Ends)(σ:St)(H:Hp):Prop
|mk(x:_)(_:σ[i]?=some (some x))(_:te σ H λy H1=>ti x y H1 λz H2=>D.nx (σ.set i (some z)) H2)
theorem AqV{op:Operator}{n:TIp}(p:X.N.Nodup)(hi:X.N[i]?=some x)(f:Loc X.env.scope x)(q:PE X e te)(M:PIp X op n)(G:X.fn x=true\/X.env.scope.names.lookup x=some .local:=by first | exact .inl U | exact .inr U | assumption) :
  PS X (.AugAssign (.Name x pos') op e pos) (AuN i te n):=by
 intro pins s σ H D I h;obtain⟨v,o,h⟩:=h;obtain⟨m,hn,L⟩:=I.loc;have j:Vis X.env.scope x:=by rcases f with k | k;exact .inl k;exact .inr (.inl k)
 obtain⟨u,r,l⟩:=L i x v hi o j;refine wpAny_AugAssign_Name ?_;have go:wpAny (model X.prog X.w) X.A (eval e X.env) (λw b=>wpAny (model X.prog X.w) X.A (inplaceOp op u w) (λr d=>wpAny (model X.prog X.w) X.A (storeName X.env x r) (λ_=>SP X pins D .next) X.xe d) X.xe b) X.xe s:=by
  refine thn (q pins s σ H _ I h) λw s1 ⟨y,H1,K,E,J⟩=>?_;refine thn (M pins s1 σ H1 v y u w _ K r E J) λz P ⟨Q,H2,C,r2,F⟩=>?_;exact VP C p hi f r2 (λR O=>⟨_,H2,O,F⟩) G
 rcases l with ⟨hk,B⟩ | ⟨hk,c,hc,a⟩
 ·exact wpAny_loadName_local I.ok.kind hk hn B go
 ·rcases hk with hk | hk
  ·exact wpAny_loadName_cell I.ok.kind hk hc a go
  ·rcases f with k | k
   ·have:X.env.scope.names.lookup x=some .free:=hk;rw[k] at this;cases this
   ·have:X.env.scope.names.lookup x=some .free:=hk;rw[k] at this;cases this
def AuO (X:Cx)(t:V->V->Hp->VK->Prop):Prop :=
 ∀(pins:NO)(s:Shared)(σ:St)(H:Hp)(o i:V)(ov iv:Value)(Q:VK),Inv X pins σ H s->RelV o ov->RelV i iv->t o i H Q ->
  wpAny (model X.prog X.w) X.A (getItem ov iv) (EP X pins σ Q) X.xe s
inductive ipI (f:Int->Int->Int)(x:V)(y:V)(H:Hp)(Q:VK):Prop
|mk(i:_)(j:_)(_:x=.int i)(_:y=.int j)(_:Q (.int (f i j)) H)
theorem AqW:PIp X .Add (ipI λi j=>i+j):=by intro pins s σ H x y v u Q I c r2 h;obtain⟨i,j,a,b,q⟩:=h;subst a;subst b;obtain⟨t,rfl⟩:=c;obtain⟨t',rfl⟩:=r2;exact iadd_int ⟨.int _,H,I.tok _,⟨_,U⟩,q⟩
def AqX (c:TT)(tb:TS):TS:=λD σ H=>∃ W:Nat->St->Hp->Prop,(∃ m,W m σ H)/\∀ m σ H,W m σ H ->
 c σ H λb H1=>if b=true then ∃ N:St->Hp->Prop,(∀ σ' H',N σ' H'->∃ m',m'<m/\W m' σ' H')/\tb { D with nx:=N,ct:=N,bk:=D.nx } σ H1 else D.nx σ H1
theorem VR(u:PassesOwn (model X.prog X.w) X.A X.env X.xe)(hc:PT X c tc)(B:PSs X body tb):PS X (.While c body [] pos) (AqX tc tb):=by
 intro pins s σ H D I h;obtain⟨W,⟨m0,y⟩,e⟩:=h;refine wpAny_While (codeAny_whileLoop (λn s'=>∃ σ' H',Inv X pins σ' H' s'/\W n σ' H') ?_ m0 ⟨σ,H,I,y⟩);rintro n s1 ⟨d,H1,C,z⟩;refine wpAny_passesOwn u (thn (hc pins s1 d H1 _ C (e n d H1 z)) λb x ⟨H2,r,i⟩=>?_);cases b with
 | true =>
  obtain⟨N,q,i⟩:=i;refine wpAny_passesOwn u (thn (B pins x d H2 _ r i) λf E j=>?_);cases f with
  | next =>
   obtain⟨a,H3,p,m⟩:=j;obtain⟨l,k,o⟩:=q a H3 m;exact⟨l,k,a,H3,p,o⟩
  | cont =>
   obtain⟨a,H3,p,m⟩:=j;obtain⟨l,k,o⟩:=q a H3 m;exact⟨l,k,a,H3,p,o⟩
  | brk=>exact j
  | ret v=>exact j
 | false =>
  exact wpAny_execs_nil ⟨d,H2,r,i⟩
structure It where
 go:Nat->Hp->Prop
 yld:Nat->Hp->V->Hp->Prop
 stop:Nat->Hp->Prop
def Py (X:Cx)(pins:NO)(H:Hp)(b:Addr):Prop :=
 H b=none/\b≠X.env.locals/\b∉X.fs/\(b∈X.ex\/X.s₀.heap.objs.size<=b)/\(∀ x c,X.env.cells.lookup x=some c->c≠b)/\∀ p∈X.pn++pins,p.1≠b
theorem Inv.Ahp(I:Inv X pins σ H s)(a:s.heap.objs.size<=b)(hn:H' b=none):Py X pins H' b:=by
 refine⟨hn,Aw6 (Awd I.lt a),I.AuD a,.inr (Awe I.sz a),λx c e z=>?_,λp d z=>?_⟩
 ·obtain⟨v,q⟩:=I.cell x c e;exact absurd (Awd q.lt AB) (Aww _)
 ·exact absurd (Awd (Heap.lt_size (I.pin p d).1) AB) (Aww _)
structure Turn (P:Program)(w:World)(K:NF)(tg:Expr)(J:It)(fp:NU)(it:Addr)(tn:Nat->Heap->Prop):Prop where
 mem:it∈fp
 obj:∀ i h,tn i h->∀ b∈fp,∃ o,h.get? b=some o/\∀ v,o.data≠.cell v
 keep:∀ i h h',tn i h->(∀ b∈fp,∀ o,h.get? b=some o->h'.get? b=some o)->tn i h'
 item:∀(X:Cx),X.prog=P->X.w=w->X.K=K->X.calm=true->∀(i:Nat)(pins:NO)(s:Shared)(σ:St)(H:Hp)(E:NR),Inv X pins σ H s->(∀ b∈fp,Py X pins H b)->tn i s.heap->J.go i H ->
  wpAny (model P w) X.A (pyNext (.ref it)) (λr s1=>∃ u,r=some u /\
   wpAny (model P w) X.A (letOwnedTupleGo tg (.ref it) u) (λ_ s2=>∃ x H',Inv X pins σ H' s2/\RelV x u/\J.yld i H x H'/\tn (i+1) s2.heap/\∀ b∈fp,H' b=none) E s1) E s
 done:∀(X:Cx),X.prog=P->X.w=w->X.K=K->X.calm=true->∀(i:Nat)(pins:NO)(s:Shared)(σ:St)(H:Hp)(E:NR),Inv X pins σ H s->(∀ b∈fp,Py X pins H b)->tn i s.heap->J.stop i H ->
  wpAny (model P w) X.A (pyNext (.ref it)) (λr s1=>r=none/\Inv X pins σ H s1) E s
 self:∀(A:Around)(i:Nat)(s:Shared)(Q:NR)(E:NR),tn i s.heap->Q (.ref it) s->wpAny (model P w) A (pyIter (.ref it)) Q E s
abbrev TI:=St->Hp->(It->Hp->Prop)->Prop
def PIE (X:Cx)(pins:NO)(σ:St)(tg:Expr)(R:It->Hp->Prop)(itv:Value)(s2:Shared):Prop :=
 ∃(it:Addr)(fp:NU)(tn:Nat->Heap->Prop)(J:It)(H':Hp),itv=.ref it/\Inv X pins σ H' s2/\Turn X.prog X.w X.K tg J fp it tn/\tn 0 s2.heap/\(∀ b∈fp,Py X pins H' b)/\R J H'
def PI (X:Cx)(tg iter:Expr)(wi:TI):Prop :=
 ∀(pins:NO)(s:Shared)(σ:St)(H:Hp)(R:It->Hp->Prop),Inv X pins σ H s->wi σ H R ->
  wpAny (model X.prog X.w) X.A (eval iter X.env) (λv s1=>wpAny (model X.prog X.w) X.A (pyIter v) (PIE X pins σ tg R) X.xe s1) X.xe s
theorem AfP{o:Obj}{n:String}{vs:Array Value}(b:s.heap.get? it=some o)(hc:o.cls=.type n)(c:o.data=.fields vs)
    (hn:["enumerate", "zip", "dict_itemiterator", "dict_reverseitemiterator", "odict_iterator", "itertools.zip_longest", "itertools.pairwise"].contains n=false) (a:Q () s):wpAny M A (letOwnedTupleGo tg (.ref it) u) Q E s:=by
  cases tg <;> first
    | exact zE a
    | (cases u <;> first
        | exact zE a
        | (refine zA (wpAny_load b ?_)
           rw[hc,c];show wpAny M A (if (["enumerate", "zip", "dict_itemiterator", "dict_reverseitemiterator", "odict_iterator", "itertools.zip_longest", "itertools.pairwise"].contains n && vs[0]? == some (rawInt _))=true then _ else _) Q E s;rw[if_neg (by intro h;rw[hn,Bool.false_and] at h;cases h)];exact zE a))
def Itl (K:NF)(a:Addr):It :=
 ⟨λi H=>∃ xs x,SqL K H a xs/\xs[i]?=some x,λi H x H'=>H'=H/\∀ xs,SqL K H a xs->xs[i]?=some x,λi H=>∃ xs,SqL K H a xs/\xs.length<=i⟩
def Itr (lo:Int)(n:Nat):It:=⟨λi _=>i<n,λi H x H'=>H'=H/\x=.int (lo+i),λi _=>n<=i⟩
theorem AjM{K:NF}(a it:Addr):Turn P w K tg (Itl K a) [it] it (λi h=>h.IsListIter it a i) where
 mem:=AA
 obj:=λi h st b f=>by
  have e:b=it:=by simpa using f
  subst e;obtain⟨o,e,c,d⟩:=st;exact⟨o,e,λv z=>AD⟩
 keep:=λi h h' st k=>st.at λo e=>k it AA o e
 item:=by
  intro X D hw y hc i pins s σ H E I l st G;subst D hw y;obtain⟨xs,x,m,r⟩:=G;obtain⟨its,q,p,M⟩:=I.list m;obtain⟨u,O,R⟩:=q.get r;obtain⟨n,F,S,C,B,A⟩:=l it AA;refine wpAny_pyNext_list_item st p.isList (by simpa using O) λh' j J=>?_;have Q:Inv X pins σ H { s with heap:=h' }:=I.turned (λb o f e=>(J.2 b f).trans e) n F C B A;obtain⟨o,e,c,d⟩:=id j;exact⟨u,U,AfP e c d Ap ⟨x,H,Q,R,⟨U,λys N=>by rw[I.Rr N m];exact r⟩,j,λb f=>(l b f).1⟩⟩
 done:=by
  intro X D hw y hc i pins s σ H E I l st G;subst D hw y;obtain⟨xs,m,r⟩:=G;obtain⟨its,q,p,M⟩:=I.list m;obtain⟨n,F,S,C,B,A⟩:=l it AA;have T:=q.length;exact wpAny_pyNext_list_end (I.ok.hd hc) st p.isList (by simp;lia) λh' L=>⟨U,I.turned (λb o f e=>L b o f e) n F C B A⟩
 self:=λ_ _ _ _ _ st h=>wpAny_pyIter_listiter st h
theorem Ahq{K:NF}(it:Addr)(lo:Int)(n:Nat):Turn P w K tg (Itr lo n) [it] it (λi h=>IsRangeIter h it (lo+(i:Nat)*1) ((n:Int)-(i:Nat)) 1) where
 mem:=AA
 obj:=λi h st b a=>by
  simp_all
 keep:=λi h h' st k=>k it AA _ st
 item:=by
  intro X p hw f hc i pins s σ H E I d st r;subst p hw f;obtain⟨u,q,A,m,l,j⟩:=d it AA;have W:=Walks.range (prog:=X.prog) (w:=X.w) (I.ok.hd hc) it lo 1 n;refine W.item i s _ _ r st λv h' tk B c y=>?_;obtain⟨t,rfl⟩:=B;have z:Inv X pins σ H { s with heap:=h',toks:=tk }:=I.turned (λb o a e=>y b o (by simpa using a) e) u q m l j;refine⟨_,U,AfP c U rfl Ap ⟨.int (lo+i),H,z,⟨t,?_⟩,⟨U,U⟩,c,λb a=>(d b a).1⟩⟩;rw[Int.mul_one]
 done:=by
  intro X p hw f hc i pins s σ H E I d st r;subst p hw f;obtain⟨u,q,A,m,l,j⟩:=d it AA;exact wpAny_pyNext_range_end (I.ok.hd hc) st (by have:n<=i:=r;lia) λh' x=>⟨U,I.turned (λb o a e=>x b o a e) u q m l j⟩
 self:=λ_ _ _ _ _ st h=>wpAny_pyIter_rangeiter st h
inductive Ao3 (K:NF)(R:(It->Hp->Prop))(x:V)(H1:Hp):Prop
|mk(a:_)(_:x=.ref a)(_:(∃ xs,SqL K H1 a xs))(_:R (Itl K a) H1)
def Al1 (K:NF)(tl:TE)(σ:St)(H:Hp)(R:(It->Hp->Prop)):Prop:=tl σ H (Ao3 K R)
theorem Ao4(j:PE X l tl):PI X tg l (Al1 X.K tl):=by
 intro pins s σ H R I h;refine thn (j pins s σ H _ I h) λv s1 ⟨x,H1,c,i,d⟩=>?_;obtain⟨a,e,⟨xs,k⟩,q⟩:=d;subst e;cases i;obtain⟨its,m,p,n⟩:=c.list k;refine wpAny_pyIter_list p.isList ?_;refine⟨s1.heap.objs.size,[s1.heap.objs.size],_,_,H1,U,c.kept λb o e=>zB _ e,AjM a _,⟨_,zD _ U,U,U⟩,λb f=>?_,q⟩;have e:b=s1.heap.objs.size:=by simpa using f
 subst e;exact c.Ahp (AvN _) (c.hok.fresh (AvN _))
theorem AfQ{R:It->Hp->Prop}{lo hi:Int}{t u v:Tok}(I:Inv X pins σ H s)(h1 : -(2 ^ 62)<=lo)(h2:lo<2 ^ 62)(d : -(2 ^ 62)<=hi)(i:hi<2 ^ 62)
  (q:R (Itr lo (hi-lo).toNat) H):wpAny (model X.prog X.w) X.A (pyIter (.ref s.heap.objs.size)) (PIE X pins σ tg R) E { s with heap:=s.heap.push { cls:=.type "range", data:=.fields #[.int lo t,.int hi u,.int 1 v] },toks:=tk }:=by
 refine wpAny_pyIter_range (IsRange.new ..) (small_one h1 h2 d i) ?_;have a:Inv X pins σ H { s with heap:=s.heap.push { cls:=.type "range", data:=.fields #[.int lo t,.int hi u,.int 1 v] },toks:=tk }:=I.kept λb o e=>zB _ e;refine⟨(s.heap.push { cls:=.type "range", data:=.fields #[.int lo t,.int hi u,.int 1 v] }).objs.size,[(s.heap.push { cls:=.type "range", data:=.fields #[.int lo t,.int hi u,.int 1 v] }).objs.size],_,_,H,U,
  a.kept λb o e=>zB _ e,Ahq _ lo (hi-lo).toNat,?_,λb f=>?_,q⟩
 ·have c:lo+((0:Nat):Int)*1=lo:=AA
  have h:(((hi-lo).toNat:Nat):Int)-((0:Nat):Int)=Builtin.Range.rangeSize lo hi 1:=by rw[rangeSize_one];split <;> lia
  rw[c,h];exact zD _ U
 ·have e:b=(s.heap.push { cls:=.type "range", data:=.fields #[.int lo t,.int hi u,.int 1 v] }).objs.size:=by simpa using f
  subst e;exact a.Ahp (AvN _) (a.hok.fresh (AvN _))
inductive Ao5 (R:(It->Hp->Prop))(vs:Na)(H1:Hp):Prop
|mk(j:Int)(_:vs=[.int j])(_ : -(2 ^ 62)<=j)(_:j<2 ^ 62)(_:R (Itr 0 j.toNat) H1)
def AsF (ta:TA)(σ:St)(H:Hp)(R:(It->Hp->Prop)):Prop:=ta σ H (Ao5 R)
inductive Ao6 (R:(It->Hp->Prop))(vs:Na)(H1:Hp):Prop
|mk(i:Int)(j:Int)(_:vs=[.int i,.int j])(_:(-(2 ^ 62)<=i/\i<2 ^ 62 /\ -(2 ^ 62)<=j/\j<2 ^ 62))(_:R (Itr i (j-i).toNat) H1)
def AsG (ta:TA)(σ:St)(H:Hp)(R:(It->Hp->Prop)):Prop:=ta σ H (Ao6 R)
theorem Em{a:Expr}{ta:TA}(c:Gl X "range") (f:X.mg "range" = none) (d:PA X [a] ta) (m:starEach [a] X.env=[(false,eval a X.env)]:=by rfl):PI X tg (.Call (.Name "range" p) [a] [] pos) (AsF ta):=by
 intro pins s σ H R I h;refine Call_ (Iz I c f boot_range (PyProof.Rows.callWith_type1 (thn (d pos pins s σ H _ I h) λus s1 ⟨vs,H1,i,k,b⟩=>?_) m U));obtain⟨j,e,b,l,q⟩:=b;subst e;cases k with
 | cons r n =>
  cases n;obtain⟨t,rfl⟩:=r;exact call_range_1 (AfQ i Au Au b l (by simpa using q))
theorem AjN{a b:Expr}{ta:TA}(y:Gl X "range") (m:X.mg "range" = none) (k:PA X [a,b] ta) (w:starEach [a,b] X.env=[(false,eval a X.env),(false,eval b X.env)]:=by rfl) (c:starEach [b] X.env=[(false,eval b X.env)]:=by rfl) :
  PI X tg (.Call (.Name "range" p) [a,b] [] pos) (AsG ta):=by
 intro pins s σ H R I h;refine Call_ (Iz I y m boot_range (PyProof.Rows.callWith_type1 (thn (k pos pins s σ H _ I h) λus s1 ⟨vs,H1,o,u,d⟩=>?_) (by rw[w,c]) (by rw[c];rfl)));obtain⟨i,j,e,⟨d,v,n,x⟩,q⟩:=d;subst e;cases u with
 | cons r f =>
  cases f with
  | cons l f =>
   cases f;obtain⟨t,rfl⟩:=r;obtain⟨t',rfl⟩:=l;exact call_range_2 (AfQ o d v n x q)
abbrev AqY (g:TG)(tb:TS)(D:Ends)(σ:St)(J:It)(H1:Hp):Prop:=∃ W:Nat->Nat->St->Hp->Prop,(∃ m,W 0 m σ H1)/\∀ i m σ H,W i m σ H ->
 (J.stop i H/\D.nx σ H)\/(J.go i H/\∃ N:St->Hp->Prop,(∀ σ' H',N σ' H'->∃ m',m'<m/\W (i+1) m' σ' H')/\∀ x H',J.yld i H x H'->g x σ H' λσ2 H2=>tb { D with nx:=N,ct:=N,bk:=D.nx } σ2 H2)
def AuP (wi:TI)(g:TG)(tb:TS)(D:Ends)(σ:St)(H:Hp):Prop:=wi σ H (AqY g tb D σ)
def AaT (fp:NU)(h:Heap):NO:=fp.filterMap λb=>(h.get? b).map λo=>(b,o)
theorem Vx{o:Obj}(a:b∈fp)(e:h.get? b=some o):(b,o)∈AaT fp h:=List.mem_filterMap.mpr ⟨b,a,by rw[e];rfl⟩
theorem AjO{p:Addr × Obj}(d:p∈AaT fp h):p.1∈fp/\h.get? p.1=some p.2:=by
 obtain⟨b,c,e⟩:=List.mem_filterMap.mp d;cases q:h.get? b with
 | none=>simp_all
 | some o =>
  rw[q] at e;have a:=Option.some.inj e;subst a;exact⟨c,q⟩
theorem Inv.pinned(I:Inv X pins σ H s)(f:∀ b∈fp,Py X pins H b)(h:∀ b∈fp,∃ o,s.heap.get? b=some o/\∀ v,o.data≠.cell v):Inv X (pins++AaT fp s.heap) σ H s :=
 I.VN λp j=>(zG.mp j).elim (λz=>I.pin p (Aw4 _ z)) λz=>by
  obtain⟨c,e⟩:=AjO z;obtain⟨l,k,i,_⟩:=f p.1 c;obtain⟨o,a,d⟩:=h p.1 c;rw[e] at a;cases a;exact⟨e,l,k,i,d⟩
theorem Inv.AaU{pl:NO}(I:Inv X (pins++pl) σ H s):Inv X pins σ H s:=I.VN λp a=>I.pin p (Aw4 _ (Axb _ a))
theorem Ep{wi:TI}{g:TG}(E:PassesOwn (model X.prog X.w) X.A X.env X.xe)(hc:X.calm=true)(hi:PI X tg iter wi)(hg:PG X tg g)(j:PSs X body tb)
  (hs:∀ x,foldedSetIterable iter X.env x=pure x:=by intro _;rfl):PS X (.For tg iter body [] pos) (AuP wi g tb):=by
 intro pins s σ H D I h;refine wpAny_For (thn (hi pins s σ H _ I h) λv s1 h1=>thn h1 λa0 s2 h2=>?_) hs;obtain⟨it,fp,Z,J,H2,e,I2,T,Q,S,W,⟨m0,w0⟩,C⟩:=h2;subst e;have l:∀{H':Hp},(∀ b∈fp,H' b=none)->∀ b∈fp,Py X pins H' b:=λhn b j=>⟨hn b j,(S b j).2⟩;refine codeAny_forLoop_any (λn s'=>∃ i σ' H',Inv X pins σ' H' s'/\Z i s'.heap/\(∀ b∈fp,H' b=none)/\W i n σ' H') ?_ m0 ⟨0,σ,H2,I2,Q,λb j=>(S b j).1,w0⟩;rintro n Y ⟨i,c,H3,I3,B,z,w3⟩;rcases C i n c H3 w3 with ⟨G,qn⟩ | ⟨go,N,hN,step⟩
 ·refine wpAny_passesOwn E (thn (T.done X U rfl U hc i pins Y c H3 X.xe I3 (l z) B G) λr s4 ⟨M,I4⟩=>?_);subst M;exact wpAny_execs_nil ⟨c,H3,I4,qn⟩
 ·refine wpAny_passesOwn E (thn (T.item X U rfl U hc i pins Y c H3 X.xe I3 (l z) B go) λr s4 ⟨u,M,h4⟩=>?_);subst M;refine wpAny_passesOwn E (thn h4 λ_ s5 ⟨x,R,I5,r5,y5,y,P⟩=>?_);have K:=I5.pinned (l P) (T.obj _ _ y);refine wpAny_passesOwn E (thn (hg _ s5 c R x u _ K r5 (step x R y5)) λ_ s6 ⟨O,H6,I6,q6⟩=>?_);refine wpAny_passesOwn E (thn (j _ s6 O H6 _ I6 q6) λf L q=>?_);have again:∀{a:St} {p:Hp},Inv X (pins++AaT fp s5.heap) a p L->N a p->∃ m,m<n/\∃ i σ' H',Inv X pins σ' H' L/\Z i L.heap/\(∀ b∈fp,H' b=none)/\W i m σ' H':=λ{a p} k F=>by
   obtain⟨m',hm,w7⟩:=hN a p F;refine⟨m',hm,i+1,a,p,k.AaU,T.keep _ _ _ y λb j o e=>(k.pin (b,o) (Aw4 _ (Aw4 _ (Vx j e)))).1,λb j=>?_,w7⟩;obtain⟨o,e,d⟩:=T.obj _ _ y b j;exact(k.pin (b,o) (Aw4 _ (Aw4 _ (Vx j e)))).2.1
  cases f with
  | next=>obtain⟨a,p,k,F⟩:=q;exact again k F
  | cont=>obtain⟨a,p,k,F⟩:=q;exact again k F
  | brk=>obtain⟨a,p,k,q⟩:=q;exact⟨a,p,k.AaU,q⟩
  | ret v=>obtain⟨x7,a,p,k,r7,q⟩:=q;exact⟨x7,a,p,k.AaU,r7,q⟩
theorem Gb{K:NF}{g:TG}(Pv:Nat->St->Hp->Prop)(f:Pv 0 σ H)(h:∀ i σ H,i<=xs.length->Pv i σ H->SqL K H a xs)
  (k:∀ i x σ H,xs[i]?=some x->Pv i σ H->g x σ H λb H2=>tb { D with nx:=Pv (i+1),ct:=Pv (i+1),bk:=D.nx } b H2) (l:∀ σ H,Pv xs.length σ H->D.nx σ H) :
  ∃ W:Nat->Nat->St->Hp->Prop,(∃ m,W 0 m σ H)/\∀ i m σ H,W i m σ H ->
   ((Itl K a).stop i H/\D.nx σ H)\/((Itl K a).go i H/\∃ N:St->Hp->Prop,(∀ σ' H',N σ' H'->∃ d,d<m/\W (i+1) d σ' H')/\∀ x H',(Itl K a).yld i H x H'->g x σ H' λb H2=>tb { D with nx:=N,ct:=N,bk:=D.nx } b H2):=by
 refine⟨λi m σ H=>m=xs.length-i/\i<=xs.length/\Pv i σ H,⟨xs.length,AA,AvV _,f⟩,?_⟩;rintro i m σ H ⟨rfl,hi,p⟩;have q:=h i σ H hi p;by_cases c:i<xs.length
 ·refine .inr ⟨⟨xs,xs[i],q,AA⟩,Pv (i+1),λσ' H' j=>⟨xs.length-(i+1),At,U,c,j⟩,λx H' y=>?_⟩;obtain⟨e,y⟩:=y;subst e;exact k i x σ _ (y xs q) p
 ·have e:i=xs.length:=Au
  subst e;exact .inl ⟨⟨xs,q,AvN _⟩,l σ H p⟩
theorem I9{lo:Int}{g:TG}(Pv:Nat->St->Hp->Prop)(d:Pv 0 σ H)
  (h:∀ i σ H,i<n->Pv i σ H->g (.int (lo+i)) σ H λb H2=>tb { D with nx:=Pv (i+1),ct:=Pv (i+1),bk:=D.nx } b H2) (j:∀ σ H,Pv n σ H->D.nx σ H) :
  ∃ W:Nat->Nat->St->Hp->Prop,(∃ m,W 0 m σ H)/\∀ i m σ H,W i m σ H ->
   ((Itr lo n).stop i H/\D.nx σ H)\/((Itr lo n).go i H/\∃ N:St->Hp->Prop,(∀ σ' H',N σ' H'->∃ c,c<m/\W (i+1) c σ' H')/\∀ x H',(Itr lo n).yld i H x H'->g x σ H' λb H2=>tb { D with nx:=N,ct:=N,bk:=D.nx } b H2):=by
 refine⟨λi m σ H=>m=n-i/\i<=n/\Pv i σ H,⟨n,AA,AvV _,d⟩,?_⟩;rintro i m σ H ⟨rfl,hi,p⟩;by_cases a:i<n
 ·refine .inr ⟨a,Pv (i+1),λσ' H' f=>⟨n-(i+1),At,U,a,f⟩,λx H' y=>?_⟩;obtain⟨e,y⟩:=y;subst e y;exact h i σ _ a p
 ·have e:i=n:=Au
  subst e;exact .inl ⟨AvN _,j σ H p⟩
abbrev R2:=V->V->Hp->VK->Prop
def OpR (X:Cx)(f:Value->Value->Sem Value)(r:R2):Prop :=
 ∀(pins:NO)(s:Shared)(σ:St)(H:Hp)(x y:V)(v u:Value)(Q:VK),Inv X pins σ H s->RelV x v->RelV y u->r x y H Q ->
  wpAny (model X.prog X.w) X.A (f v u) (EP X pins σ Q) X.xe s
def UnR (X:Cx)(f:Value->Sem Value)(r:V->Hp->VK->Prop):Prop :=
 ∀(pins:NO)(s:Shared)(σ:St)(H:Hp)(x:V)(v:Value)(Q:VK),Inv X pins σ H s->RelV x v->r x H Q ->
  wpAny (model X.prog X.w) X.A (f v) (EP X pins σ Q) X.xe s
def Hq (X:Cx)(f:Value)(r:Na->Hp->VK->Prop):Prop :=
 ∀(pins:NO)(s:Shared)(σ:St)(H:Hp)(xs:Na)(us:NW)(Q:VK),Inv X pins σ H s->Vals xs us->r xs H Q ->
  wpAny (model X.prog X.w) X.A (call f us) (EP X pins σ Q) X.xe s
def AuQ (X:Cx)(r:V->Hp->(Bool->Hp->Prop)->Prop):Prop :=
 ∀(pins:NO)(s:Shared)(σ:St)(H:Hp)(x:V)(v:Value)(Q:Bool->Hp->Prop),Inv X pins σ H s->RelV x v->r x H Q ->
  wpAny (model X.prog X.w) X.A (truthy v) (TP X pins σ Q) X.xe s
abbrev AsH (r:R2)(Q:VK)(x:V)(y:V)(H2:Hp):Prop:=r x y H2 Q
abbrev AsI (r:R2)(tb:TE)(σ:St)(Q:VK)(x:V)(H1:Hp):Prop:=tb σ H1 (AsH r Q x)
def tOp (r:R2)(ta:TE)(tb:TE)(σ:St)(H:Hp)(Q:VK):Prop:=ta σ H (AsI r tb σ Q)
abbrev AsJ (r:V->Hp->VK->Prop)(Q:VK)(x:V)(H1:Hp):Prop:=r x H1 Q
def tUn (r:V->Hp->VK->Prop)(ta:TE)(σ:St)(H:Hp)(Q:VK):Prop:=ta σ H (AsJ r Q)
inductive rI (C:Int->Int->Prop)(g:Int->Int->V)(x:V)(y:V)(H:Hp)(Q:VK):Prop
|mk(i:_)(j:_)(_:x=.int i)(_:y=.int j)(_:C i j)(_:Q (g i j) H)
inductive rI0 (g:Int->Int->V)(x:V)(y:V)(H:Hp)(Q:VK):Prop
|mk(i:_)(j:_)(_:x=.int i)(_:y=.int j)(_:Q (g i j) H)
inductive rU (g:Int->V)(x:V)(H:Hp)(Q:VK):Prop
|mk(i:_)(_:x=.int i)(_:Q (g i) H)
section
variable {a b:Expr}{tb tc:TE}
theorem AqZ(e:PE X a ta)(l:PE X b tb){R:V->V->Hp->Prop}(I:Inv X pins σ H s)
  (h:ta σ H λx H1=>tb σ H1 λy H2=>R x y H2) {Q:NR} 
  (i:∀ v u d x y H2,Inv X pins σ H2 d->RelV x v->RelV y u->R x y H2->wpAny (model X.prog X.w) X.A (f v u) Q X.xe d) :
  wpAny (model X.prog X.w) X.A (eval a X.env) (λv s₁=>wpAny (model X.prog X.w) X.A (eval b X.env) (λu c=>wpAny (model X.prog X.w) X.A (f v u) Q X.xe c) X.xe s₁) X.xe s:=by
 refine thn (e pins s σ H _ I h) λv s1 ⟨x,H1,k,n,j⟩=>?_;refine thn (l pins s1 σ H1 _ k j) λu d ⟨y,H2,m,r2,o⟩=>?_;exact i v u d x y H2 m n r2 o
theorem Aj{op:Operator}(j:OpR X (binaryOp op) r)(c:PE X a ta)(f:PE X b tb):PE X (.BinOp a op b pos) (tOp r ta tb):=by intro pins s σ H Q I h;exact wpAny_BinOp (AqZ c f I h λv u d x y H2 i e k q=>j pins d σ H2 x y v u Q i e k q)
theorem Al2{op:UnaryOp}{r:V->Hp->VK->Prop}(d:UnR X (unaryOp op) r)(b:PE X a ta):PE X (.UnaryOp op a pos) (tUn r ta):=by intro pins s σ H Q I h;exact UnaryOp_ (thn (b pins s σ H _ I h) λv s1 ⟨x,H1,f,c,e⟩=>d pins s1 σ H1 x v Q f c e)
theorem opI{C:Int->Int->Prop}{g:Int->Int->Int}
  (rule:∀(i j:Int)(t u:Tok)(s:Shared)(Q:NR)(E:NR),C i j->Q (.int (g i j) s.toks) { s with toks:=s.toks+1 }->wpAny (model X.prog X.w) X.A (f (.int i t) (.int j u)) Q E s) :
  OpR X f (rI C λi j=>.int (g i j)):=by
 intro pins s σ H x y v u Q I a b h;obtain⟨i,j,rfl,rfl,hc,q⟩:=h;obtain⟨t,rfl⟩:=a;obtain⟨t',rfl⟩:=b;exact rule i j t t' s _ _ hc ⟨.int (g i j),H,I.tok _,⟨_,U⟩,q⟩
theorem AsK{g:Int->Int->Int}
  (rule:∀(i j:Int)(t u:Tok)(s:Shared)(Q:NR)(E:NR),Q (.int (g i j) s.toks) { s with toks:=s.toks+1 }->wpAny (model X.prog X.w) X.A (f (.int i t) (.int j u)) Q E s) :
  OpR X f (rI0 λi j=>.int (g i j)):=by
 intro pins s σ H x y v u Q I a b h;obtain⟨i,j,rfl,rfl,q⟩:=h;obtain⟨t,rfl⟩:=a;obtain⟨t',rfl⟩:=b;exact rule i j t t' s _ _ ⟨.int (g i j),H,I.tok _,⟨_,U⟩,q⟩
theorem Ao7{g:Int->Int->Bool}
  (rule:∀(i j:Int)(t u:Tok)(s:Shared)(Q:NR)(E:NR),Q (.bool (g i j)) s->wpAny (model X.prog X.w) X.A (f (.int i t) (.int j u)) Q E s) :
  OpR X f (rI0 λi j=>.bl (g i j)):=by
 intro pins s σ H x y v u Q I a b h;obtain⟨i,j,rfl,rfl,q⟩:=h;obtain⟨t,rfl⟩:=a;obtain⟨t',rfl⟩:=b;exact rule i j t t' s _ _ ⟨.bl (g i j),H,I,U,q⟩
def AuR (i j:Int):Prop:=0<j/\j<1073741824
def Ara (i j:Int):Prop:=(-(2 ^ 64)<i/\i<2 ^ 64)\/(-(2 ^ 64)<j/\j<2 ^ 64)
theorem Ara.ok{i j:Int}(h:Ara i j):IntMulOk i j:=by
 rcases h with ⟨h1,h2⟩ | ⟨h1,h2⟩
 ·exact .of_left (intBits_le_64 h1 h2)
 ·exact .of_right (intBits_le_64 h1 h2)
theorem Ex:OpR X (binaryOp .Add) (rI0 λi j=>.int (i+j)):=AsK λ_ _ _ _ _ _ _ q=>add_int q
theorem Pz:OpR X (binaryOp .Sub) (rI0 λi j=>.int (i-j)):=AsK λ_ _ _ _ _ _ _ q=>sub_int q
theorem Rt:OpR X (binaryOp .Mult) (rI Ara λi j=>.int (i*j)):=opI λ_ _ _ _ _ _ _ hc q=>mul_int q hc.ok
theorem EY:OpR X (binaryOp .FloorDiv) (rI AuR λi j=>.int (i / j)):=opI λi j _ _ _ _ _ hc q=>by
 have h1:=hc.1;have h2:=hc.2;exact floordiv_int Au (by rw[Int.fdiv_eq_ediv_of_nonneg i At];exact q) (.inl (PyProof.noPylong_small At))
theorem Dh:OpR X (binaryOp .Mod) (rI (λ_ j=>0<j) λi j=>.int (i%j)):=opI λi j _ _ _ _ _ hc q=>by
 exact mod_int' Au (by rw[Int.fmod_eq_emod_of_nonneg i At];exact q)
theorem unI{f:Value->Sem Value}{g:Int->Int}
  (rule:∀(i:Int)(t:Tok)(s:Shared)(Q:NR)(E:NR),Q (.int (g i) s.toks) { s with toks:=s.toks+1 }->wpAny (model X.prog X.w) X.A (f (.int i t)) Q E s) :
  UnR X f (rU λi=>.int (g i)):=by
 intro pins s σ H x v Q I a h;obtain⟨i,rfl,q⟩:=h;obtain⟨t,rfl⟩:=a;exact rule i t s _ _ ⟨.int (g i),H,I.tok _,⟨_,U⟩,q⟩
theorem Ahr:UnR X (unaryOp .USub) (rU λi=>.int (-i)):=unI λ_ _ _ _ _ q=>neg_int q
end
def AsL:V->V->Bool
 | .non,.non=>true | .non,.int _=>true | .int _,.non=>true | .non,.bl _=>true | .bl _,.non=>true | .non,.str _=>true | .str _,.non=>true
 | .int _,.int _=>true | .bl _,.bl _=>true | .str _,.str _=>true | .byt _,.byt _=>true
 | .int _,.str _=>true | .str _,.int _=>true | .bl _,.str _=>true | .str _,.bl _=>true
 | _,_=>false
inductive rEq (x:V)(y:V)(H:Hp)(Q:VK):Prop
|mk(_:AsL x y=true)(_:Q (.bl (decide (x=y))) H)
inductive rNe (x:V)(y:V)(H:Hp)(Q:VK):Prop
|mk(_:AsL x y=true)(_:Q (.bl (!decide (x=y))) H)
theorem Ai4{i j:Int}:decide (V.int i=V.int j)=(i == j):=by rw[AwK];simp
theorem Al3{i j:Bool}:decide (V.bl i=V.bl j)=(i == j):=by rw[AwK];simp
theorem Ai5{i j:Str}:decide (V.str i=V.str j)=(i == j):=by rw[AwK];simp
theorem Ai6{i j:Array UInt8}:decide (V.byt i=V.byt j)=(i.toList == j.toList):=by rw[AwK];cases i;cases j;simp
section
variable {a b:Expr}{tb tc:TE}
theorem Dq{Q:VK}{k k':Bool}(I:Inv X pins σ H s)(q:Q (.bl k) H)(e:k=k'):EP X pins σ Q (.bool k') s:=by subst e;exact⟨.bl k,H,I,U,q⟩
theorem Dd:OpR X (compareOp .Eq) rEq:=by
 intro pins s σ H x y v u Q I c a h;obtain⟨b,q⟩:=h;cases x with
 | non =>
  cases c;cases y with
  | non=>cases a;exact PySem.EqNone.eq_none_none (Dq I q AA)
  | bl j=>cases a;exact PySem.EqNone.eq_none_bool (Dq I q AA)
  | int j=>obtain⟨t',rfl⟩:=a;exact PySem.EqNone.eq_none_int (Dq I q AA)
  | str j=>obtain⟨t',rfl⟩:=a;exact PySem.EqNone.eq_none_str (Dq I q AA)
  | _=>exact absurd (show false=true from b) Awf
 | bl i =>
  cases c;cases y with
  | non=>cases a;exact PySem.EqNone.eq_bool_none (Dq I q AA)
  | bl j=>cases a;exact eq_bool (Dq I q Al3)
  | str j=>obtain⟨t',rfl⟩:=a;exact PySem.EqMixed.eq_bool_str (Dq I q AA)
  | _=>exact absurd (show false=true from b) Awf
 | int i =>
  obtain⟨t,rfl⟩:=c;cases y with
  | non=>cases a;exact PySem.EqNone.eq_int_none (Dq I q AA)
  | int j=>obtain⟨t',rfl⟩:=a;exact eq_int (Dq I q Ai4)
  | str j=>obtain⟨t',rfl⟩:=a;exact PySem.EqMixed.eq_int_str (Dq I q AA)
  | _=>exact absurd (show false=true from b) Awf
 | str i =>
  obtain⟨t,rfl⟩:=c;cases y with
  | non=>cases a;exact PySem.EqNone.eq_str_none (Dq I q AA)
  | bl j=>cases a;exact PySem.EqMixed.eq_str_bool (Dq I q AA)
  | int j=>obtain⟨t',rfl⟩:=a;exact PySem.EqMixed.eq_str_int (Dq I q AA)
  | str j=>obtain⟨t',rfl⟩:=a;exact eq_str (Dq I q Ai5)
  | _=>exact absurd (show false=true from b) Awf
 | byt i =>
  obtain⟨t,rfl⟩:=c;cases y with
  | byt j=>obtain⟨t',rfl⟩:=a;exact W.eq_bytes (Dq I q Ai6)
  | _=>exact absurd (show false=true from b) Awf
 | _=>cases y <;> exact absurd (show false=true from b) Awf
theorem NB:OpR X (compareOp .NotEq) rNe:=by
 intro pins s σ H x y v u Q I c a h;obtain⟨b,q⟩:=h;cases x with
 | non =>
  cases c;cases y with
  | non=>cases a;exact PySem.EqNone.ne_none_none (Dq I q AA)
  | bl j=>cases a;exact PySem.EqNone.ne_none_bool (Dq I q AA)
  | int j=>obtain⟨t',rfl⟩:=a;exact PySem.EqNone.ne_none_int (Dq I q AA)
  | str j=>obtain⟨t',rfl⟩:=a;exact PySem.EqNone.ne_none_str (Dq I q AA)
  | _=>exact absurd (show false=true from b) Awf
 | bl i =>
  cases c;cases y with
  | non=>cases a;exact PySem.EqNone.ne_bool_none (Dq I q AA)
  | bl j=>cases a;exact ne_bool (Dq I q (congrArg not Al3))
  | str j=>obtain⟨t',rfl⟩:=a;exact PySem.EqMixed.ne_bool_str (Dq I q AA)
  | _=>exact absurd (show false=true from b) Awf
 | int i =>
  obtain⟨t,rfl⟩:=c;cases y with
  | non=>cases a;exact PySem.EqNone.ne_int_none (Dq I q AA)
  | int j=>obtain⟨t',rfl⟩:=a;exact ne_int (Dq I q (congrArg not Ai4))
  | str j=>obtain⟨t',rfl⟩:=a;exact PySem.EqMixed.ne_int_str (Dq I q AA)
  | _=>exact absurd (show false=true from b) Awf
 | str i =>
  obtain⟨t,rfl⟩:=c;cases y with
  | non=>cases a;exact PySem.EqNone.ne_str_none (Dq I q AA)
  | bl j=>cases a;exact PySem.EqMixed.ne_str_bool (Dq I q AA)
  | int j=>obtain⟨t',rfl⟩:=a;exact PySem.EqMixed.ne_str_int (Dq I q AA)
  | str j=>obtain⟨t',rfl⟩:=a;exact ne_str (Dq I q (congrArg not Ai5))
  | _=>exact absurd (show false=true from b) Awf
 | byt i =>
  obtain⟨t,rfl⟩:=c;cases y with
  | byt j=>obtain⟨t',rfl⟩:=a;exact W.ne_bytes (Dq I q (congrArg not Ai6))
  | _=>exact absurd (show false=true from b) Awf
 | _=>cases y <;> exact absurd (show false=true from b) Awf
theorem GZ:OpR X (compareOp .Lt) (rI0 λi j=>.bl (decide (i<j))):=Ao7 λ_ _ _ _ _ _ _ q=>lt_int q
theorem AsM:OpR X (compareOp .LtE) (rI0 λi j=>.bl (decide (i<=j))):=Ao7 λ_ _ _ _ _ _ _ q=>le_int q
theorem Hr:OpR X (compareOp .Gt) (rI0 λi j=>.bl (decide (j<i))):=Ao7 λ_ _ _ _ _ _ _ q=>gt_int q
theorem Al4:OpR X (compareOp .GtE) (rI0 λi j=>.bl (decide (j<=i))):=Ao7 λ_ _ _ _ _ _ _ q=>ge_int q
inductive AfR (x:V)(y:V)(H:Hp)(Q:VK):Prop
|mk(i:_)(j:_)(_:x=.str i)(_:y=.str j)(_:Q (.bl (!(Builtin.Str.occurrences j i 0 j.length 1).isEmpty)) H)
theorem Ym:OpR X (compareOp .In) AfR:=by intro pins s σ H x y v u Q I a b h;obtain⟨i,j,rfl,rfl,q⟩:=h;obtain⟨t,rfl⟩:=a;obtain⟨t',rfl⟩:=b;exact in_str (Dq I q U)
inductive Al5 (x:V)(y:V)(H:Hp)(Q:VK):Prop
|mk(_:y=.non)(_:Q (.bl (decide (x=.non))) H)
theorem Ahs:OpR X (compareOp .Is) Al5:=by
 intro pins s σ H x y v u Q I a b h;obtain⟨rfl,q⟩:=h;cases b;refine is_none_gen (Dq I q ?_);cases x <;> first
  | grind
  | (obtain⟨t,rfl⟩:=a;rfl)
inductive AaV (x:V)(y:V)(H:Hp)(Q:VK):Prop
|mk(i:_)(j:_)(_:x=.str i)(_:y=.str j)(_:Q (.bl (!(!(Builtin.Str.occurrences j i 0 j.length 1).isEmpty))) H)
theorem VV:OpR X (compareOp .NotIn) AaV:=by intro pins s σ H x y v u Q I a b h;obtain⟨i,j,rfl,rfl,q⟩:=h;obtain⟨t,rfl⟩:=a;obtain⟨t',rfl⟩:=b;exact notIn_str (Dq I q U)
theorem OpR.or{a:R2}(h:OpR X f r)(h':OpR X f a):OpR X f (λx y H Q=>r x y H Q\/a x y H Q):=by
 intro pins s σ H x y v u Q I b c q;rcases q with q | q
 ·exact h pins s σ H x y v u Q I b c q
 ·exact h' pins s σ H x y v u Q I b c q
theorem Ar(b:Expr)(h:op≠.In:=by decide)(h2:op≠.NotIn:=by decide):behindInMarks op b=false:=by
 have c:(op == CmpOp.In)=false:=AD
 have a:(op == CmpOp.NotIn)=false:=AD
 cases b <;> simp[behindInMarks,c,a]
theorem Hx(k:OpR X (compareOp op) r)(c:PE X a ta)(i:PE X b tb)(e:behindInMarks op b=false):PE X (.Compare a [op] [b] pos) (tOp r ta tb):=by intro pins s σ H Q I h;exact wpAny_Compare1 (AqZ c i I h λv u d x y H2 j f l q=>k pins d σ H2 x y v u Q j f l q) e
inductive Ao8 (Q:(Bool->Hp->Prop))(x:V)(H':Hp):Prop
|mk(k:_)(_:x=.bl k)(_:Q k H')
def AsN (t:TE)(σ:St)(H:Hp)(Q:(Bool->Hp->Prop)):Prop:=t σ H (Ao8 Q)
theorem Ak(w:OpR X (compareOp op) r)(d:PE X a ta)(o:PE X b tb)(l:behindInMarks op b=false):PT X (.Compare a [op] [b] pos) (AsN (tOp r ta tb)):=by
 intro pins s σ H Q I h;refine wpAny_isTrue_Compare1 (thn (d pins s σ H _ I h) λv s1 ⟨x,H1,n,q,f⟩=>thn (o pins s1 σ H1 _ n f) λu i ⟨y,H2,p,r2,A⟩ =>
  thn (w pins i σ H2 x y v u _ p q r2 A) λc C ⟨z,H3,B,j,k,e,m⟩=>?_) l;subst e;cases j;exact yE ⟨H3,B,m⟩
def Arb (K:NF)(x:V)(H:Hp)(k:Bool):Prop :=
 match x with
 | .non=>k=false
 | .bl b=>k=b
 | .int i=>k=(i != 0)
 | .str y=>y.length<=sizeLine/\k=((y.length:Int) != 0)
 | .byt y=>y.size<=sizeLine/\k=((y.size:Int) != 0)
 | .ref p=>(∃ xs,SqL K H p xs/\k=!xs.isEmpty)\/(∃ xs,SqT K H p xs/\k=!xs.isEmpty)\/∃ kvs,H p=some (.dK kvs)/\k=!kvs.isEmpty
 | _=>False
theorem Aht{a:List (κ × V)}{vs:List (κ × Value)}(r:KV a vs):(!vs.isEmpty)=!a.isEmpty:=by cases r <;> rfl
theorem AaW{its:NW}(r:Vals xs its):(!its.toArray.isEmpty)=!xs.isEmpty:=by cases r <;> simp
theorem AaX:(sizeLine:Nat)<2 ^ 63:=by rw[yA];decide
theorem Arc:AuQ X (λx H Q=>∃ k,Arb X.K x H k/\Q k H):=by
 intro pins s σ H x v Q I d h;obtain⟨k,e,q⟩:=h;have u:=yA;cases x with
 | non =>
  cases d;have a:=e;subst a;exact truthy_none ⟨H,I,q⟩
 | bl b =>
  cases d;have a:=e;subst a;exact yE ⟨H,I,q⟩
 | int i =>
  obtain⟨t,rfl⟩:=d;have a:=e;subst a;exact PySem.P.truthy_int ⟨H,I,q⟩
 | str y =>
  obtain⟨t,rfl⟩:=d;obtain⟨o,a⟩:y.length<=sizeLine/\k=((y.length:Int) != 0):=e;subst a;exact PySem.P.truthy_str Au ⟨H,I.tok _,q⟩
 | byt y =>
  obtain⟨t,rfl⟩:=d;obtain⟨o,a⟩:y.size<=sizeLine/\k=((y.size:Int) != 0):=e;subst a;exact W.truthy_bytes Au ⟨H,I.tok _,q⟩
 | ref p =>
  cases d;have a:=e;rcases a with ⟨xs,f,a⟩ | ⟨xs,f,a⟩ | ⟨j,f,a⟩
  ·subst a;obtain⟨its,r,pl,l⟩:=I.list f;have c:=r.length;exact wpAny_truthy_list pl.isList (by simp only [Awq];omega) ⟨H,I.tok _,by rw[AaW r];exact q⟩
  ·subst a;obtain⟨its,r,pl,l⟩:=I.tuple f;have c:=r.length;exact truthy_tuple pl (by simp only [Awq];omega) ⟨H,I.tok _,by rw[AaW r];exact q⟩
  ·subst a;obtain⟨l,n,vs,r,m⟩:j.length<=sizeLine/\(p == sysModules)=false/\∃ vs,KV j vs/\s.heap.DictOf (Aei X.prog X.w) p vs:=I.hok p _ f;have c:=Paired.length r;exact wpAny_truthy_dict n m Au ⟨H,I.tok _,by rw[Aht r];exact q⟩
 | _=>exact(e).elim
theorem Al6(b:PE X a ta)(d:∀ whole,isTrue a X.env whole=(do let v <- whole;standAt a.pos;holding [v] (truthy v))) :
  PT X a (λσ H Q=>ta σ H λx H'=>∃ k,Arb X.K x H' k/\Q k H'):=by
 intro pins s σ H Q I h;exact isTrue_plain (thn (b pins s σ H _ I h) λv s1 ⟨x,H1,e,f,c⟩=>Arc pins s1 σ H1 x v Q e f c) (d _)
inductive Ael (x:V)(y:V)(H:Hp)(Q:VK):Prop
|mk(i:_)(j:_)(_:x=.str i)(_:y=.str j)(_:i.length+j.length<=sizeLine)(_:Q (.str (i++j)) H)
theorem Am:OpR X (binaryOp .Add) Ael:=by intro pins s σ H x y v u Q I a b h;obtain⟨i,j,rfl,rfl,c,q⟩:=h;obtain⟨t,rfl⟩:=a;obtain⟨t',rfl⟩:=b;exact add_str (λt' tk=>⟨.str (i++j),H,I.tok _,⟨_,U⟩,q⟩) c
theorem vals1{x:V}(r:Vals [x] us):∃ u,us=[u]/\RelV x u:=by
 cases r with
 | cons a r2=>cases r2;exact⟨_,U,a⟩
inductive Ahu (xs:Na)(H:Hp)(Q:VK):Prop
|mk(i:_)(_:xs=[.int i])(_:Q (.int (if i<0 then -i else i)) H)
theorem Al7:Hq X (.builtin "abs") Ahu:=by intro pins s σ H xs us Q I r h;obtain⟨i,rfl,q⟩:=h;obtain⟨u,rfl,t,rfl⟩:=vals1 r;exact call_abs_int λu tk=>⟨.int (if i<0 then -i else i),H,I.tok _,⟨_,U⟩,q⟩
theorem Yn:Hq X (.type "int") (λxs H Q=>(∃ i,xs=[.int i]/\Q (.int i) H)\/∃ k,xs=[.bl k]/\Q (.int (if k then 1 else 0)) H):=by
 intro pins s σ H xs us Q I r h;rcases h with ⟨i,rfl,q⟩ | ⟨k,rfl,q⟩
 ·obtain⟨u,rfl,t,rfl⟩:=vals1 r;exact call_int_int ⟨.int i,H,I,⟨_,U⟩,q⟩
 ·obtain⟨u,rfl,a⟩:=vals1 r;cases a;exact call_int_bool ⟨.int (if k then 1 else 0),H,I.tok _,⟨_,U⟩,q⟩
inductive Ru (xs:Na)(H:Hp)(Q:VK):Prop
|mk(i:_)(_:xs=[.int i])(_:i.natAbs.log2<1920)(_:Q (.str (toString i)) H)
theorem Ec:Hq X (.type "str") Ru:=by intro pins s σ H xs us Q I r h;obtain⟨i,rfl,a,q⟩:=h;obtain⟨u,rfl,t,rfl⟩:=vals1 r;exact PySem.P.str_of_int a ⟨.str _,H,I.tok _,⟨_,U⟩,q⟩
end
structure Ahv (h:Heap)(x dx C:Addr)(mA:Str->NY):Prop where
 obj:h.get? x=some (W.instObj C dx)
 ns:h.Ns1 dx mA
 ne:dx≠x
theorem AjP(n:h.Ns1 dx mA):∃ c,h.get? dx=some c/\∀ name,W.lookIn name c=some (mA name):=by
 obtain⟨o,es,l,k,i,hk,_,f⟩:=n;refine⟨o,k,λname=>?_⟩;have e:=f name;unfold nsFind findBy at e;rw[<- Array.find?_toList] at e;unfold W.lookIn;rw[i]
 try dsimp only
 split
 ·rename_i y q;rw[q] at e;exact congrArg some e
 ·rename_i q;rw[q] at e;have a:es.toList.any (·.refKey)=false:=by
   rw[Axs];intro y j;obtain⟨z,t,b⟩:=hk y (Array.mem_toList_iff.mp j);simp[DictEntry.refKey,b]
  have d:¬es.toList.any (·.refKey)=true:=by rw[a];exact Awf
  rw[if_neg d];exact congrArg some e
theorem Ahv.look{x:Addr}(I:Ahv h x dx C mA):∃ a,W.InstAt h x (W.instObj C dx) C (some a)/\∀ name,W.lookIn name a=some (mA name) :=
 let ⟨a,ho,hl⟩:=AjP I.ns
 ⟨a,⟨I.obj,U,U,ho⟩,hl⟩
section
variable {K:NF}{x f:Addr}{v:Value}
theorem get_map{a:Bool}{Q:NR}(X:K.In s.heap)(I:Ahv s.heap x dx C mA)(f:W.plainGet K C name=true)(i:W.hasDictIn K C=true)
  (c:W.findIn K (.ref C) name=some none) (e:mA name=some v) (b:W.handedIn v=true) (h:Q v { s with toks:=s.toks+1 }) :
  wpAny (model prog w) A (getAttr (.ref x) name a) Q E s:=by
 obtain⟨j,J,d⟩:=I.look;exact W.get_value X J (W.plainGet_of f).1 (W.findObj_own i c U (by rw[d,e])) b h
theorem Al8{Q:Value × NW->Shared->Prop}(X:K.In s.heap)(I:Ahv s.heap x dx C mA)(a:W.plainGet K C name=true)
  (c:W.findIn K (.ref C) name=some (some (.ref f))) (e:W.isFn K (.ref f)=true) (d:mA name=none) (h:Q (.ref f,[.ref x]) s) :
  wpAny (model prog w) A (getMethod (.ref x) name pl) Q E s:=by
 obtain⟨i,J,b⟩:=I.look;exact W.method_fn X J (W.plainGet_of a).1 (W.plainGet_of a).2 c (beq_iff_eq.mp e) (by show(W.lookIn name i).map (·.isSome)=some false;rw[b,d];rfl) h
theorem Ao9(X:K.In s.heap)(I:Ahv s.heap x dx C mA)
  (q:W.findIn K (.ref C) "__setattr__" = some (some (.builtin "object.__setattr__"))) (o:W.plainOver K C=true) (n:W.takerIn K C name=some none) (l:W.hasDictIn K C=true)
  (hw:PySem.Within mA ns) (j:ns.length<=sizeLine)
  (h:∀ h',Ahv h' x dx C (λy=>if y=name then some v else mA y)->Heap.SameBut dx s.heap h'->Q () { s with heap:=h',toks:=s.toks+2 }) :
  wpAny (model prog w) A (setAttr (.ref x) name v) Q E s:=by
 obtain⟨r,J,u⟩:=I.look;refine W.set_plain X J q (W.osa_open X J o n λb=>?_);obtain⟨cd,hc,f⟩:=W.any_some l;have m:=I.obj;refine zA (zE (zA (zA (wpAny_loadPart m (zA (W.Looks.here (W.looks_clsIn X hc) ?_))))));rw[f];refine zE (zA (zE (zA ?_)));refine wpAny_nsSet1 I.ns λh' c a=>?_;obtain⟨z,k,p,i,d,e⟩:=c.count (PySem.Within.cons name v hw);refine zA (wpAny_lookBehind i (by rw[d];exact pastItsLine_dict (Awe e AD)) ?_);exact zE (h _ ⟨(a.2 _ (Ne.symm I.ne)).trans I.obj,c,I.ne⟩ a)
theorem Al9{R:Result->Shared->Prop}{vs:NW}(X:K.In s.heap)(b:W.makesIn K C=true)
  (hi:W.findIn K (.ref C) "__init__" = some (some (.ref f))) (c:W.typeIn K (.ref f)=some (.type "function"))
  (h:codeAny (model prog w) (A.under (.builtin "type.__call__" ⟨.ref C::vs,kw⟩)) (.call (.ref f) ⟨.ref (s.heap.objs.size+1)::vs,kw⟩) (W.InitBack (s.heap.objs.size+1) R)
   { s with heap:=(s.heap.push W.emptyDict).push (W.instObj C s.heap.objs.size) }) :
  codeAny (model prog w) A (.call (.ref C) ⟨vs,kw⟩) R s:=by
 exact W.make_core (W.makes_of X b) (W.looks_findIn X hi) (λa=>W.bind_fn X a c) (.inl U) h
end
def Rn (f:Str)(v:V):List (Str × V)->List (Str × V)
 | []=>[(f,v)]
 | (g,x)::r=>if g=f then (g,v)::r else (g,x)::Rn f v r
theorem Zm(f g:Str)(v:V):∀ fs:List (Str × V),(Rn f v fs).lookup g=if g=f then some v else fs.lookup g
 | []=>by
  show List.lookup g [(f,v)]=_;by_cases h:g=f
  ·simp_all
  ·simp_all
 | (k,x)::r=>by
  have b:=Zm f g v r;rw[show Rn f v ((k,x)::r)=(if k=f then (k,v)::r else (k,x)::Rn f v r) from rfl];by_cases hk:k=f
  ·rw[if_pos hk];by_cases h:g=k
   ·simp_all
   ·have a:=z5.mpr h;simp only [List.lookup,a,if_neg (λe:g=f=>h (e.trans hk.symm))]
  ·rw[if_neg hk];by_cases h:g=k
   ·simp_all
   ·have a:=z5.mpr h;simp only [List.lookup,a];exact b
theorem Yo(f:Str)(v:V):∀ fs:List (Str × V),f∈(Rn f v fs).map (·.1)/\∀ g,g∈fs.map (·.1)->g∈(Rn f v fs).map (·.1)
 | []=>⟨by simp[Rn],λg h=>by simp at h⟩
 | (k,x)::r=>by
  obtain⟨i1,i2⟩:=Yo f v r;rw[show Rn f v ((k,x)::r)=(if k=f then (k,v)::r else (k,x)::Rn f v r) from rfl];grind
theorem Zn(f:Str)(v:V):∀ fs:List (Str × V),(Rn f v fs).length<=fs.length+1
 | []=>by simp[Rn]
 | (k,x)::r=>by
  have a:=Zn f v r;rw[show Rn f v ((k,x)::r)=(if k=f then (k,v)::r else (k,x)::Rn f v r) from rfl];grind
theorem Aej.some_of{o:NY}(r:Aej (some v) o):∃ u,o=some u/\RelV v u:=by
 cases o with
 | none=>exact(r).elim
 | some u=>exact⟨u,U,r⟩
theorem Aej.none_of{o:NY}(r:Aej none o):o=none:=by
 cases o with
 | none=>rfl
 | some u=>exact(show False from r).elim
theorem AjQ(r:RelV v u):W.handedIn u=true:=by
 cases v with
 | non=>cases (r);rfl
 | bl b=>cases (r);rfl
 | int i=>obtain⟨t,e⟩:=(r);cases e;rfl
 | str x=>obtain⟨t,e⟩:=(r);cases e;rfl
 | byt b=>obtain⟨t,e⟩:=(r);cases e;rfl
 | flt b=>obtain⟨t,e⟩:=(r);cases e;rfl
 | ref a=>cases (r);rfl
 | ty n=>cases (r);rfl
section
variable {fs fs':List (Str × V)}
theorem AaC(b:HOk P w H h)(e:H a=some (.ins C dx fs)):∃ mA,Ahv h a dx C mA/\(∀ f,Aej (fs.lookup f) (mA f))/\PySem.Within mA (fs.map (·.1))/\fs.length<=1000/\H dx=some (.own a):=by obtain⟨d,z,i,c,mA,n,r,q⟩:=(b a _ e);exact⟨mA,⟨c,n,i⟩,r,q,z,d⟩
end
structure Cls (K:NF)(C:Addr):Prop where
 pg:W.plainGet K C Str.empty=true
 hd:W.hasDictIn K C=true
 po:W.plainOver K C=true
 sa:W.findIn K (.ref C) "__setattr__" = some (some (.builtin "object.__setattr__"))
theorem Cls.get{K:NF}(c:Cls K C)(f:Str):W.plainGet K C f=true:=c.pg
def Ci (K:NF)(C:Addr)(f:Str):Prop:=W.findIn K (.ref C) f=some none
theorem Ci.taker{K:NF}{f:Str}(n:Ci K C f):W.takerIn K C f=some none:=by unfold W.takerIn;rw[show W.findIn K (.ref C) f=some none from n];rfl
structure Meth (K:NF)(C:Addr)(m:Str)(f:Addr):Prop where
 at_:W.findIn K (.ref C) m=some (some (.ref f))
 fn:W.isFn K (.ref f)=true
 kp:W.keepIn K (.ref f)=true
section
variable {fs:List (Str × V)}{f:Str}
theorem AaY{b:Bool}{Q:NR}(I:Inv X pins σ H s)(e:H a=some (.ins C dx fs))(c:Cls X.K C)(n:Ci X.K C f)(l:fs.lookup f=some v)
  (h:∀ u s',Inv X pins σ H s'->RelV v u->Q u s'):wpAny (model X.prog X.w) A (getAttr (.ref a) f b) Q E s:=by
 obtain⟨mA,O,r,_,_,_⟩:=AaC I.hok e;obtain⟨u,i,d⟩:=Aej.some_of (by rw[<- l];exact r f);exact get_map I.kIn O (c.get f) c.hd n i (AjQ d) (h u _ (I.tok _) d)
theorem KZ{g:Addr}{Q:Value × NW->Shared->Prop}(I:Inv X pins σ H s)(e:H a=some (.ins C dx fs))(c:Cls X.K C)(k:Meth X.K C m g)(l:fs.lookup m=none)
  (h:Q (.ref g,[.ref a]) s):wpAny (model X.prog X.w) A (getMethod (.ref a) m pl) Q E s:=by
 obtain⟨mA,O,r,_,_,_⟩:=AaC I.hok e;have hn:=Aej.none_of (by rw[<- l];exact r m);exact Al8 I.kIn O (c.get m) k.at_ k.fn hn h
theorem AaZ(I:Inv X pins σ H s)(e:H a=some (.ins C dx fs))(c:Cls X.K C)(n:Ci X.K C f)(x:fs.length<1000)(l:RelV y u)
  (h:∀ s',Inv X pins σ (upd H a (.ins C dx (Rn f y fs))) s'->Q () s'):wpAny (model X.prog X.w) A (setAttr (.ref a) f u) Q E s:=by
 obtain⟨mA,O,r,wi,_,i⟩:=AaC I.hok e;have p:(fs.map (·.1)).length<=sizeLine:=by rw[AvK,yA];lia
 refine Ao9 I.kIn O c.sa c.po n.taker c.hd wi p λh' d k=>h _ ?_;have v:∃ o,h'.get? dx=some o:=let ⟨o,_,_,e',_⟩:=d.ns;⟨o,e'⟩
 refine I.write (by rw[e];exact True.intro) (.inr i) (λb q j z=>(k.2 b j).trans z) v ?_;refine⟨by rw[Ai O.ne];exact i,?_,O.ne,d.obj,_,d.ns,λg=>?_,λg m=>?_⟩
 ·have:= Zn f y fs;lia
 ·rw[Zm];by_cases q:g=f
  ·rw[if_pos q,if_pos q];exact l
  ·rw[if_neg q,if_neg q];exact r g
 ·by_cases q:g=f
  ·rw[q];exact(Yo f y fs).1
  ·refine(Yo f y fs).2 g (wi g λz=>m ?_);show(if g=f then some u else mA g)=none;rw[if_neg q];exact z
theorem Inv.made(I:Inv X pins σ H s):Inv X pins σ (upd (upd H s.heap.objs.size (.own (s.heap.objs.size+1))) (s.heap.objs.size+1) (.ins C s.heap.objs.size []))
  { s with heap:=(s.heap.push W.emptyDict).push (W.instObj C s.heap.objs.size) }:=by
 have a:(s.heap.push W.emptyDict).get? s.heap.objs.size=some W.emptyDict:=zD s.heap U;have d:((s.heap.push W.emptyDict).push (W.instObj C s.heap.objs.size)).get? (s.heap.objs.size+1)=some (W.instObj C s.heap.objs.size):=by
  have:= zD (s.heap.push W.emptyDict) (o:=W.instObj C s.heap.objs.size) U
  rwa [Heap.size_push] at this
 have f:(s.heap.push W.emptyDict).Ns s.heap.objs.size (λ_=>none):=⟨W.emptyDict,#[],_,a,U,(λe h=>absurd h AA),λ_=>rfl⟩;have i:=I.laid (o:=.own (s.heap.objs.size+1)) (t':=s.toks) (λb u q=>zB _ q) (AvN _) ⟨_,a⟩;refine i.laid (λb u q=>zB _ q) (AwU (Heap.size_push _ _)) ?_;have c:s.heap.objs.size≠s.heap.objs.size+1:=AvY (AwL _);refine⟨by rw[Ai c,Ae],AvV _,c,d,λ_=>none,(Heap.Ns1.of_empty f).at λo q=>zB _ q,λ_=>True.intro,λy j=>absurd rfl j⟩
theorem AoA{env:Env}{f:Str}{Q:NR}(a:attributeBase e f env (eval e env)=eval e env)
  (h:wpAny (model prog w) A (eval e env) (λo s₁=>wpAny (model prog w) A (getAttr o f true) Q E s₁) E s):wpAny (model prog w) A (eval (.Attribute e f pos) env) Q E s :=
 Attribute_any_ h (by rw[arm_eval_Attribute,a])
end
inductive Ard (K:NF)(f:Str)(Q:VK)(x:V)(H1:Hp):Prop
|mk(a:_)(C:_)(dx:_)(fs:_)(v:_)(_:x=.ref a)(_:H1 a=some (.ins C dx fs))(_:Cls K C)(_:Ci K C f)(_:fs.lookup f=some v)(_:Q v H1)
def AsO (K:NF)(ta:TE)(f:Str)(σ:St)(H:Hp)(Q:VK):Prop:=ta σ H (Ard K f Q)
inductive Are (K:NF)(f:Str)(D:Ends)(σ:St)(y:V)(x:V)(H2:Hp):Prop
|mk(a:_)(C:_)(dx:_)(fs:_)(_:x=.ref a)(_:H2 a=some (.ins C dx fs))(_:Cls K C)(_:Ci K C f)(_:fs.length<1000)(_:D.nx σ (upd H2 a (.ins C dx (Rn f y fs))))
abbrev Arf (K:NF)(ta:TE)(f:Str)(D:Ends)(σ:St)(y:V)(H1:Hp):Prop:=ta σ H1 (Are K f D σ y)
def AsP (K:NF)(ta:TE)(tv:TE)(f:Str)(D:Ends)(σ:St)(H:Hp):Prop:=tv σ H (Arf K ta f D σ)
def Arh (X:Cx)(op:Operator)(rd:V->V->Hp->VK->Prop):Prop :=
 ∀(pins:NO)(s:Shared)(σ:St)(H:Hp)(x y:V)(u v:Value)(Q:VK),Inv X pins σ H s->RelV x u->RelV y v->rd x y H Q->wpAny (model X.prog X.w) X.A (inplaceOp op u v) (EP X pins σ Q) X.xe s
inductive AjR (K:NF)(tv:TE)(rd:V->V->Hp->VK->Prop)(f:Str)(D:Ends)(σ:St)(x:V)(H1:Hp):Prop
|mk(a:_)(C:_)(dx:_)(fs:_)(v:_)(_:x=.ref a)(_:H1 a=some (.ins C dx fs))(_:Cls K C)(_:Ci K C f)(_:fs.lookup f=some v)(_:tv σ H1 λy H2=>rd v y H2 λz H3=>∃ dx' fs',H3 a=some (.ins C dx' fs')/\fs'.length<1000/\D.nx σ (upd H3 a (.ins C dx' (Rn f z fs'))))
def Ai7 (K:NF)(ta:TE)(tv:TE)(rd:V->V->Hp->VK->Prop)(f:Str)(D:Ends)(σ:St)(H:Hp):Prop:=ta σ H (AjR K tv rd f D σ)
section
variable {o value:Expr}{f:Str}{tpos:Pos}{tv:TE}
theorem Ari(b:PE X e ta)(i:attributeBase e f X.env (eval e X.env)=eval e X.env):PE X (.Attribute e f pos) (AsO X.K ta f):=by intro pins s σ H Q I h;refine AoA i (thn (b pins s σ H _ I h) λu s1 ⟨x,H1,j,d,a,C,dx,fs,v,ex,ea,c,n,l,q⟩=>?_);subst ex;obtain rfl:u=Value.ref a:=d;exact AaY j ea c n l λo p k m=>⟨v,H1,k,m,q⟩
theorem Arj(d:PE X o ta)(k:PE X value tv)(r:swapsWith value (some (.Attribute o f pos')) pos.line X.env=pure false):PS X (.Assign [.Attribute o f pos'] value pos) (AsP X.K ta tv f):=by intro pins s σ H D I h;refine plainObj_wpAny_Assign_Attribute (thn (k pins s σ H _ I h) λu s1 ⟨y,H1,e,v,q⟩=>thn (d pins s1 σ H1 _ e q) λb w ⟨x,H2,j,i,a,C,dx,fs,ex,ea,c,n,l,m⟩=>?_) r;subst ex;obtain rfl:b=Value.ref a:=i;exact AaZ j ea c n l v λz p=>⟨σ,_,p,m⟩
theorem AjS{op:Operator}{e:V->V->Hp->VK->Prop}(A:PE X o ta)(M:PE X value tv)(d:Arh X op e):PS X (.AugAssign (.Attribute o f tpos) op value pos) (Ai7 X.K ta tv e f):=by intro pins s σ H D I h;refine wpAny_AugAssign_AttributeAny (thn (A pins s σ H _ I h) λr s1 ⟨x,H1,F,j,a,C,dx,fs,v,ex,ea,c,n,l,q⟩=>?_);subst ex;obtain rfl:r=Value.ref a:=j;refine AaY F ea c n l λu i k L=>thn (M pins i σ H1 _ k q) λO m ⟨y,H2,N,P,E⟩=>thn (d pins m σ H2 v y u O _ N L P E) λR Q ⟨z,H3,J,G,B,fs',b,l',p⟩=>?_;exact AaZ J b c n l' G λS w=>⟨σ,_,w,p⟩
inductive AuS (x:V)(y:V)(H:Hp)(Q:VK):Prop
|mk(i:_)(j:_)(_:x=.int i)(_:y=.int j)(_:Q (.int (i+j)) H)
theorem Ark:Arh X .Add AuS:=by rintro pins s σ H x y u v Q I a b ⟨i,j,rfl,rfl,q⟩;obtain⟨t,rfl⟩:=(a);obtain⟨t',rfl⟩:=(b);exact PyProof.Rows.iadd_int ⟨.int (i+j),H,I.tok _,⟨_,U⟩,q⟩
end
section
variable {Q:NR}{c:Value}{b:Bool}
inductive Yp (K:NF) (H:Hp):V->Value->Prop where
 | non:Yp K H .non (.type "NoneType")
 | bl (x:Bool):Yp K H (.bl x) (.type "bool")
 | int (i:Int):Yp K H (.int i) (.type "int")
 | str (x:Str):Yp K H (.str x) (.type "str")
 | flt (x:UInt64):Yp K H (.flt x) (.type "float")
 | lst {a:Addr} {xs:Na} (e:H a=some (.lst xs)):Yp K H (.ref a) (.type "list")
 | frz {a:Addr} {o:Obj} {xs:Na} (e:H a=some (.frz o (.lst xs))):Yp K H (.ref a) (.type "list")
 | tup {a:Addr} {xs:Na} (e:H a=some (.tup xs)):Yp K H (.ref a) (.type "tuple")
 | dK {a:Addr} {kvs:List (Key × V)} (e:H a=some (.dK kvs)):Yp K H (.ref a) (.type "dict")
 | dT {a:Addr} {kvs:List (List Key × V)} (e:H a=some (.dT kvs)):Yp K H (.ref a) (.type "dict")
 | ins {a C dx:Addr} {fs:List (Str × V)} (e:H a=some (.ins C dx fs)) (cl:Cls K C) (ha:W.findIn K (.ref C) "__class__" = some (some (.builtin "object.__class__")))
   (hn:W.specialIn K (.builtin "object.__class__") "__get__" = some (some (.builtin "getset_descriptor.__get__"))) (htk:W.takesIn K (.builtin "object.__class__")=some true)
   (hm:W.mroIn K C (.type "object")=some true):Yp K H (.ref a) (.ref C)
theorem Adu{x:V}{t:Value}(I:Inv X pins σ H s)(d:RelV x u)(ty:Yp X.K H x t)(e:W.kitOne X.K t c=some b)(h:∀ tk,Q (.bool b) { s with toks:=tk }) :
  wpAny (model X.prog X.w) A (call (.builtin "isinstance") [u,c]) Q E s:=by
 cases ty with
 | non=>cases (d);exact W.kia_one W.kitx_none I.kIn True.intro e (λz=>nomatch z) h
 | bl y=>cases (d);exact W.kia_one W.kitx_bool I.kIn True.intro e (λz=>nomatch z) h
 | int i=>obtain⟨t,q⟩:=(d);cases q;exact W.kia_one W.kitx_int I.kIn True.intro e (λz=>nomatch z) h
 | str y=>obtain⟨t,q⟩:=(d);cases q;exact W.kia_one W.kitx_str I.kIn True.intro e (λz=>nomatch z) h
 | flt y=>obtain⟨t,q⟩:=(d);cases q;exact W.kia_one W.kitx_float I.kIn True.intro e (λz=>nomatch z) h
 | @lst a xs ea =>
  cases (show u=Value.ref a from d);obtain⟨_,_,n,_,h1⟩:=(I.hok a _ ea);exact W.kia_one W.kitx_list I.kIn ⟨_,h1,U⟩ e (λz=>nomatch z) h
 | @frz a v xs ea =>
  cases (d);obtain⟨_,_,_,n,_,h1⟩:=(I.hok a _ ea);exact W.kia_one W.kitx_list I.kIn ⟨_,h1,U⟩ e (λz=>nomatch z) h
 | @tup a xs ea =>
  cases (show u=Value.ref a from d);obtain⟨_,_,_,p⟩:=(I.hok a _ ea);obtain⟨o,h1,h2,_⟩:=p;exact W.kia_one W.kitx_tuple I.kIn ⟨o,h1,h2⟩ e (λz=>nomatch z) h
 | @dK a j ea =>
  cases (show u=Value.ref a from d);obtain⟨_,_,vs,_,p⟩:=(I.hok a _ ea);obtain⟨o,es,m,h1,h2,_⟩:=p;exact W.kia_one W.kitx_dict I.kIn ⟨o,h1,h2.1⟩ e (λz=>nomatch z) h
 | @dT a j ea =>
  cases (show u=Value.ref a from d);obtain⟨_,_,xs,_,o,es,m,h1,h2,_⟩:=(I.hok a _ ea);exact W.kia_one W.kitx_dict I.kIn ⟨o,h1,h2.1⟩ e (λz=>nomatch z) h
 | @ins a C dx fs ea cl l hn f k =>
  cases (d);obtain⟨mA,O,_⟩:=AaC I.hok ea;obtain⟨r,J,_⟩:=O.look;exact W.kia_one (W.kitx_own (cl.get _) cl.hd l hn f k) I.kIn J e (λz=>nomatch z) h
end
structure Hd (k:Nat)(A:Around):Prop where
 hd:A.handled=none
 dp:A.depth+3*k+5<recursionLimit
 un:A.units+16*k+200<cLine
theorem Hd.mono(r:Hd k A)(h:j<=k):Hd j A:=⟨r.hd,by have:=r.dp;omega,by have:=r.un;omega⟩
theorem Hd.deeper(r:Hd (k+1) A)(env:Env):Hd k (A.deeper env) :=
 ⟨r.hd,by have:= r.dp;show A.depth+1+3*k+5<_;lia,by have:= r.un;show A.units+3+16*k+200<_;lia⟩
theorem Ahw:(A.under (.builtin "type.__call__" ⟨.ref C::us,kw⟩)).depth=A.depth+1:=by
 first | rfl | grind
theorem Ahx:(A.under (.builtin "type.__call__" ⟨.ref C::us,kw⟩)).units=A.units+1:=by
 first | rfl | grind
theorem Hd.make(r:Hd (k+1) A)(C:Addr)(us:NW)(kw:List (Str × Value)):Hd k (A.under (.builtin "type.__call__" ⟨.ref C::us,kw⟩)) :=
 ⟨r.hd,by have:= r.dp;rw[Ahw];lia,by have:= r.un;rw[Ahx];lia⟩
theorem Hd.depth(r:Hd k A):A.depth<recursionLimit:=by have:=r.dp;omega
def AoB:TA:=λ_ H Q=>Q [] H
abbrev AoC (Q:(Na->Hp->Prop))(x:V)(xs:Na)(H2:Hp):Prop:=Q (x::xs) H2
abbrev AoD (tr:TA)(σ:St)(Q:(Na->Hp->Prop))(x:V)(H1:Hp):Prop:=tr σ H1 (AoC Q x)
def AlA (ta:TE)(tr:TA)(σ:St)(H:Hp)(Q:(Na->Hp->Prop)):Prop:=ta σ H (AoD tr σ Q)
section
variable {t:TA}
theorem Ab:PA X [] AoB:=λ_ _ _ _ H Q I h=>Calls.spliced_nil ⟨[],H,I,.nil,h⟩
theorem Aa(a:PE X e te)(k:PA X es t)(j:starEach (e::es) X.env=(false,eval e X.env)::starEach es X.env:=by rfl):PA X (e::es) (AlA te t):=by intro pos pins s σ H Q I h;rw[j];show wpAny _ _ (spliced ((false,eval e X.env)::backTo pos (starEach es X.env))) _ _ s;refine Calls.spliced_cons (thn (a pins s σ H _ I h) λu s1 ⟨x,H1,c,f,b⟩=>?_);exact thn (k pos pins s1 σ H1 _ c b) λus l ⟨xs,H2,d,r2,i⟩=>⟨x::xs,H2,d,.cons f r2,i⟩
inductive Ahy (Q:VK)(xs:Na)(H1:Hp):Prop
|mk(_:xs.length<=sizeLine)(_:∀ p,H1 p=none->Q (.ref p) (upd H1 p (.tup xs)))
def AuT (t:TA)(σ:St)(H:Hp)(Q:VK):Prop:=t σ H (Ahy Q)
inductive AlB (Q:VK)(xs:Na)(H1:Hp):Prop
|mk(_:xs.length<=sizeLine)(_:∀ p,H1 p=none->Q (.ref p) (upd H1 p (.lst xs)))
def AuU (t:TA)(σ:St)(H:Hp)(Q:VK):Prop:=t σ H (AlB Q)
theorem CZ{x1}(h:PA X es t):PE X (.Tuple es x1 pos) (AuT t):=by intro pins s σ H Q I d;refine wpAny_Tuple_spliced (thn (h pos pins s σ H _ I d) λus s1 ⟨xs,H1,a,r,z,q⟩=>⟨by rw[<- r.length];exact z,?_⟩);have c:=a.hok.fresh (AvN _);refine⟨.ref s1.heap.objs.size,upd H1 s1.heap.objs.size (.tup xs),a.laid (λb u e=>zB _ e) (AvN _) ?_,U,q _ c⟩;exact⟨z,us,r,⟨_,zD _ U,U,_,U⟩⟩
theorem Cu(h:PA X es t):PE X (.List es pos) (AuU t):=by intro pins s σ H Q I d;refine wpAny_List_spliced (thn (h pos pins s σ H _ I d) λus s1 ⟨xs,H1,a,r,z,q⟩=>⟨by rw[<- r.length];exact z,?_⟩);have c:=a.hok.fresh (AvN _);refine⟨.ref s1.heap.objs.size,upd H1 s1.heap.objs.size (.lst xs),a.laid (λb u e=>zB _ e) (AvN _) ?_,U,q _ c⟩;exact⟨z,us,0,r,zD _ U⟩
end
abbrev Sp:=Na->Hp->VK->XK->Prop
abbrev CXT:=List Env->Hp->Shared->XK->Value->Shared->Prop
structure Ahz (P:Program)(w:World)(K:NF)(mg:Str->NY)(base:Heap)(A:Around)(outer:List Env)(s:Shared)(H:Hp):Prop where
 frames:A.frames=some outer
 mod:Mod K mg base
 bs:∀ b o,base.get? b=some o->s.heap.get? b=some o/\H b=none
 bsz:base.objs.size<=s.heap.objs.size
 Vv:s.heap.FunFrames base outer
 frf:∀ b∈frs outer,H b=none
 hok:HOk P w H s.heap
 bare:AllBare s.gens
def CE (outer:List Env)(P:Program)(w:World)(H:Hp)(s:Shared)(Q:VK)(u:Value)(s':Shared):Prop :=
 ∃ v H',s'.os=s.os/\AllBare s'.gens/\Un (frs outer) [] H H' s.heap s'.heap/\HOk P w H' s'.heap/\RelV v u/\Q v H'
def CR (CX:CXT)(outer:List Env)(P:Program)(w:World)(H:Hp)(s:Shared)(Q:VK)(E:XK)(r:Result)(s':Shared):Prop :=
 match r with
 | .ok (.ret u)=>CE outer P w H s Q u s'
 | .ok _=>False
 | .error e=>CX outer H s E e s'
structure Bh (P:Program)(w:World)(K:NF)(mg:Str->NY)(base:Heap)(CX:CXT)(k:Nat)(f:Addr)(fd:FuncData)(ps:NX)(sp:Sp):Prop where
 len:∀ vs H Q E,sp vs H Q E->vs.length=ps.length
 run:∀(A:Around)(outer:List Env)(s:Shared)(H:Hp)(args:Args)(us:NW)(vs:Na)(Q:VK)(E:XK),Hd k A->Ahz P w K mg base A outer s H->BindsTo s fd args (ps.zip us)->Vals vs us->sp vs H Q E ->
  codeAny (model P w) A (.call (.ref f) args) (CR CX outer P w H s Q E) s
theorem Bh.mono{K:NF}{base:Heap}{f:Addr}(F:Bh P w K mg base CX j f fd ps sp)(h:j<=k) :
  Bh P w K mg base CX k f fd ps sp:=⟨F.len,λA outer s H args us vs Q E a=>F.run A outer s H args us vs Q E (a.mono h)⟩
theorem Bh.imp{K:NF}{base:Heap}{f:Addr}{sp':Sp}(F:Bh P w K mg base CX k f fd ps sp)
  (h:∀ vs H Q E,sp' vs H Q E->sp vs H Q E):Bh P w K mg base CX k f fd ps sp' :=
 ⟨λvs H Q E q=>F.len vs H Q E (h _ _ _ _ q),λA outer s H args us vs Q E e a b c d=>F.run A outer s H args us vs Q E e a b c (h _ _ _ _ d)⟩
theorem Ahz.make{K:NF}{base:Heap}{outer:List Env}(e:Ahz P w K mg base A outer s H)(C:Addr)(us:NW)(kw:List (Str × Value)) :
  Ahz P w K mg base (A.under (.builtin "type.__call__" ⟨.ref C::us,kw⟩)) outer s H:=⟨by first | exact e.frames | grind,e.mod,e.bs,e.bsz,e.Vv,e.frf,e.hok,e.bare⟩
theorem Inv.env0(I:Inv X pins σ H s):Ahz X.prog X.w X.K X.mg X.base X.A X.stack s H :=
 ⟨I.ok.frames,I.ok.mod,I.bs,Awe I.ok.bsz I.sz,I.stack,I.AaB,I.hok,I.bare⟩
theorem Inv.after{Q:VK}(I:Inv X pins σ H s)(h:CE X.stack X.prog X.w H s Q u s'):EP X pins σ Q u s':=by obtain⟨v,H',os,a,un,c,r,q⟩:=h;obtain⟨f,g,d,t,e⟩:=s';obtain rfl:e=s.os:=os;exact⟨v,H',I.call un c a (λb z=>absurd z AA),r,q⟩
abbrev AoE (sp:Sp)(dvs:Na)(E:XK)(Q:VK)(vs:Na)(H1:Hp):Prop:=sp (vs++dvs) H1 Q E
def Aqz (sp:Sp)(dvs:Na)(E:XK)(t:TA)(σ:St)(H:Hp)(Q:VK):Prop:=t σ H (AoE sp dvs E Q)
abbrev AoF (sp:Sp)(dvs:Na)(E:XK)(Q:VK)(x:V)(vs:Na)(H2:Hp):Prop:=sp (x::(vs++dvs)) H2 Q E
inductive AoG (C:Addr)(m:Str)(sp:Sp)(dvs:Na)(E:XK)(t:TA)(σ:St)(Q:VK)(x:V)(H1:Hp):Prop
|mk(a:_)(dx:_)(fs:_)(_:x=.ref a)(_:H1 a=some (.ins C dx fs))(_:fs.lookup m=none)(_:t σ H1 (AoF sp dvs E Q x))
def Aq0 (C:Addr)(m:Str)(sp:Sp)(dvs:Na)(E:XK)(ta:TE)(t:TA)(σ:St)(H:Hp)(Q:VK):Prop:=ta σ H (AoG C m sp dvs E t σ Q)
abbrev AoH (C:Addr)(sp:Sp)(dvs:Na)(E:XK)(Q:VK)(vs:Na)(H1:Hp):Prop:=∀ x dx,H1 x=none->H1 dx=none->dx≠x ->
 sp (.ref x::(vs++dvs)) (upd (upd H1 dx (.own x)) x (.ins C dx [])) (λv H2=>v=.non/\Q (.ref x) H2) E
def AsQ (C:Addr)(sp:Sp)(dvs:Na)(E:XK)(t:TA)(σ:St)(H:Hp)(Q:VK):Prop:=t σ H (AoH C sp dvs E Q)
def Binds(K:NF)(fd:FuncData)(ps:NX)(ds:NW):Prop :=
 ∀(s:Shared)(us:NW),K.In s.heap->(us++ds).length=ps.length->BindsTo s fd ⟨us,[]⟩ (ps.zip (us++ds))
theorem Binds.all{K:NF}(h:∀ us:NW,us.length=ps.length->bindArgs fd ⟨us,[]⟩=pure (ps.zip us)):Binds K fd ps []:=λs us _ a=>by
 rw[Awo] at a ⊢;exact .of_eq (h us a)
def Passes(CX:CXT)(X:Cx)(E:XK):Prop:=∀(pins:NO)(σ:St)(H:Hp)(s:Shared)(e:Value)(s':Shared),Inv X pins σ H s->CX X.stack H s E e s'->X.xe e s'
section
variable {f:Addr}{dvs:Na}{E:XK}{apos:Pos}{o:Expr}{t:TA}
theorem Vy{Q:VK}(F:Bh X.prog X.w X.K X.mg X.base CX k f fd ps sp)(d:Hd k X.A)(c:Binds X.K fd ps ds)(i:Vals dvs ds)(j:Passes CX X E)
  (I:Inv X pins σ H s) (r:Vals vs us) (h:sp (vs++dvs) H Q E):wpAny (model X.prog X.w) X.A (call (.ref f) us) (EP X pins σ Q) X.xe s:=by
 have r2:=r.append i;have b:(us++ds).length=ps.length:=by rw[<- r2.length];exact F.len _ _ _ _ h
 refine wpAny_call (codeAny_mono (F.run X.A X.stack s H ⟨us,[]⟩ (us++ds) (vs++dvs) Q E d I.env0 (c s us I.kIn b) r2 h) λr s' a=>?_);cases r with
 | error e=>exact j pins σ H s e s' I a
 | ok fl =>
  cases fl with
  | ret u=>exact I.after a
  | next=>exact False.elim a
  | brk=>exact False.elim a
  | cont=>exact False.elim a
theorem Al(F:Bh X.prog X.w X.K X.mg X.base CX k f fd ps sp)(o:Hd k X.A)(n:Gl X x)(j:X.mg x=some (.ref f))(hk:W.keepIn X.K (.ref f)=true)(l:Binds X.K fd ps ds)(u:Vals dvs ds)(m:Passes CX X E)
  (d:PA X (e::es) t) (a:(x == ("__debug__" : Str))=false:=by decide) (i:starEach (e::es) X.env=(false,eval e X.env)::starEach es X.env:=by rfl) (b:(backTo pos (starEach es X.env)).any (·.1)=false:=by rfl) :
  PE X (.Call (.Name x p) (e::es) [] pos) (Aqz sp dvs E t):=by
 intro pins s σ H Q I h;refine wpAny_Call_Name_kw (Tp I n j ?_ a);refine W.callWith_K I.ok.mod.kin hk (thn (d pos pins s σ H _ I h) λus s1 ⟨vs,H1,c,r,q⟩=>⟨c.kIn,?_⟩) i b;exact Vy F o l u m c r q
theorem Ds(p:PE X o ta)(c:Cls X.K C)(i:Meth X.K C m f)(F:Bh X.prog X.w X.K X.mg X.base CX k f fd ps sp)(B:Hd k X.A)(J:Binds X.K fd ps ds)(D:Vals dvs ds)(y:Passes CX X E)(G:PA X (e::es) t)
  (b:starEach (e::es) X.env=(false,eval e X.env)::starEach es X.env:=by rfl) (d:(backTo pos (starEach es X.env)).any (·.1)=false:=by rfl)
  (L:eval (.Call (.Attribute o m apos) (e::es) [] pos) X.env=(do
   let ov <- eval o X.env
   standAt apos.atName
   let (f,first) <- holding [ov] (getMethod ov m pl)
   callWith pos f first (backTo pos (starEach (e::es) X.env)) (backToKw pos (keywordEach [] X.env))):=by rfl) :
  PE X (.Call (.Attribute o m apos) (e::es) [] pos) (Aq0 C m sp dvs E ta t):=by
 intro pins s σ H Q I h;refine W.methodCall_KW (thn (p pins s σ H _ I h) λu s1 ⟨x,H1,n,v,a,dx,fs,ex,ea,l,q⟩=>?_) L;subst ex;obtain rfl:u=Value.ref a:=v;refine KZ n ea c i l ?_;refine W.callWith_K I.ok.mod.kin i.kp (thn (G pos pins s1 σ H1 _ n q) λus M ⟨vs,H2,j,r,z⟩=>⟨j.kIn,?_⟩) b d;exact Vy (vs:=.ref a::vs) F B J D y j (.cons U r) z
theorem Rv(e:PE X o ta)(c:Cls X.K C)(d:Meth X.K C m f)(F:Bh X.prog X.w X.K X.mg X.base CX k f fd ps sp)(r:Hd k X.A)(j:Binds X.K fd ps ds)(v:Vals dvs ds)(n:Passes CX X E)
  (p:eval (.Call (.Attribute o m apos) [] [] pos) X.env=(do
   let ov <- eval o X.env
   standAt apos.atName
   let (f,first) <- holding [ov] (getMethod ov m pl)
   callWith pos f first (backTo pos (starEach [] X.env)) (backToKw pos (keywordEach [] X.env))):=by rfl) :
  PE X (.Call (.Attribute o m apos) [] [] pos) (Aq0 C m sp dvs E ta AoB):=by
 intro pins s σ H Q I h;refine W.methodCall_KW (thn (e pins s σ H _ I h) λu s1 ⟨x,H1,b,i,a,dx,fs,ex,ea,l,q⟩=>?_) p;subst ex;obtain rfl:u=Value.ref a:=i;refine KZ b ea c d l ?_;exact W.callWith_K0 b.kIn d.kp (Vy (us:=[.ref a]) (vs:=[.ref a]) F r j v n b (.cons U .nil) q)
structure Mk (K:NF)(C f:Addr):Prop where
 makes:W.makesIn K C=true
 init:W.findIn K (.ref C) "__init__" = some (some (.ref f))
 fn:W.isFn K (.ref f)=true
 kp:W.keepIn K (.ref C)=true
theorem AlC{Q:VK}(M:Mk X.K C f)(F:Bh X.prog X.w X.K X.mg X.base CX k f fd ps sp)(j:Hd (k+1) X.A)(o:Binds X.K fd ps ds)(l:Vals dvs ds)
  (i:Passes CX X E) (I:Inv X pins σ H s) (r:Vals vs us)
  (h:∀ x dx,H x=none->H dx=none->dx≠x->sp (.ref x::(vs++dvs)) (upd (upd H dx (.own x)) x (.ins C dx [])) (λv H2=>v=.non/\Q (.ref x) H2) E) :
  wpAny (model X.prog X.w) X.A (call (.ref C) us) (EP X pins σ Q) X.xe s:=by
 have c:=h (s.heap.objs.size+1) s.heap.objs.size (I.hok.fresh (AwM _)) (I.hok.fresh (AvN _)) (AvY (AwL _));have b:=Inv.made (C:=C) I;have r2:Vals (V.ref (s.heap.objs.size+1)::(vs++dvs)) (Value.ref (s.heap.objs.size+1)::(us++ds)):=.cons U (r.append l);have p:(Value.ref (s.heap.objs.size+1)::us++ds).length=ps.length:=by
  have e:=r2.length;rw[F.len _ _ _ _ c] at e;exact e.symm
 refine wpAny_call (Al9 I.kIn M.makes M.init (beq_iff_eq.mp M.fn) (codeAny_mono (F.run _ X.stack _ _ ⟨Value.ref (s.heap.objs.size+1)::us,[]⟩ (Value.ref (s.heap.objs.size+1)::(us++ds)) _ _ E (j.make C us [])
  (b.env0.make C us []) (o _ (Value.ref (s.heap.objs.size+1)::us) b.kIn p) r2 c) λr s' a=>?_));cases r with
 | error e=>exact i pins σ _ _ e s' b a
 | ok fl =>
  cases fl with
  | ret u =>
   obtain⟨v,H',q,d,m,n⟩:=b.after a;subst m;exact⟨d,⟨V.ref (s.heap.objs.size+1),H',q,U,n⟩⟩
  | next=>exact False.elim a
  | brk=>exact False.elim a
  | cont=>exact False.elim a
theorem Fb(M:Mk X.K C f)(F:Bh X.prog X.w X.K X.mg X.base CX k f fd ps sp)(o:Hd (k+1) X.A)(n:Gl X x)(j:X.mg x=some (.ref C))(l:Binds X.K fd ps ds)(u:Vals dvs ds)(m:Passes CX X E)
  (d:PA X (e::es) t) (a:(x == ("__debug__" : Str))=false:=by decide) (i:starEach (e::es) X.env=(false,eval e X.env)::starEach es X.env:=by rfl) (b:(backTo pos (starEach es X.env)).any (·.1)=false:=by rfl) :
  PE X (.Call (.Name x p) (e::es) [] pos) (AsQ C sp dvs E t):=by
 intro pins s σ H Q I h;refine wpAny_Call_Name_kw (Tp I n j ?_ a);refine W.callWith_K I.ok.mod.kin M.kp (thn (d pos pins s σ H _ I h) λus s1 ⟨vs,H1,c,r,q⟩=>⟨c.kIn,?_⟩) i b;exact AlC M F o l u m c r q
end
structure An (N P:NX)(sc:Scope):Prop where
 kind:sc.kind=.function
 co:sc.isCoroutine=false
 gen:sc.isGenerator=false
 nd:N.Nodup
 pre:N.take P.length=P
 par:∀ x∈P,sc.names.lookup x=some .local\/sc.names.lookup x=some .cell
 Arl:∀ y∈sc.names,y.2≠.free
theorem Adv{kindOf:Str->Option NameKind}{x:Str}:∀{binds:List (Str × Value)} {m:Str->NY},(∀ v,(x,v)∉binds)->bindL kindOf binds m x=m x
 | [],_,_=>rfl
 | (n,v)::r,m,h=>by
  unfold bindL;rw[Adv λw hw=>h w (AvR _ hw)];split
  ·have:x≠n:=by rintro rfl;exact h v AvP
   simp[this]
  ·rfl
theorem Adw{kindOf:Str->Option NameKind}{x:Str}:∀{binds:List (Str × Value)} {m:Str->NY},(∀ v,(x,v)∉binds)->bindC kindOf binds m x=m x
 | [],_,_=>rfl
 | (n,v)::r,m,h=>by
  unfold bindC;rw[Adw λw hw=>h w (AvR _ hw)];split
  ·rfl
  ·have:x≠n:=by rintro rfl;exact h v AvP
   simp[this]
theorem Adx{kindOf:Str->Option NameKind}{x:Str}{v:Value}:∀{P:NX} {vs:NW} {i:Nat} {m:Str->NY},P.Nodup->P[i]?=some x->vs[i]?=some v->kindOf x=some .local ->
  bindL kindOf (P.zip vs) m x=some v
 | [],_,_,_,_,h,_,_=>by simp at h
 | _::_,[],_,_,_,_,h,_=>by simp at h
 | p::P,w::vs,0,m,nd,h1,h2,hk=>by
  simp at h1 h2;subst h1;subst h2;show bindL kindOf ((p,w)::P.zip vs) m p=_;unfold bindL;rw[Adv λv a=>(List.nodup_cons.mp nd).1 (Axc a).1,if_pos hk];simp
 | p::P,w::vs,i+1,m,nd,h1,h2,hk=>by
  show bindL kindOf ((p,w)::P.zip vs) m x=_;exact Adx (List.nodup_cons.mp nd).2 (by simpa using h1) (by simpa using h2) hk
theorem Ady{kindOf:Str->Option NameKind}{x:Str}{v:Value}:∀{P:NX} {vs:NW} {i:Nat} {m:Str->NY},P.Nodup->P[i]?=some x->vs[i]?=some v->kindOf x≠some .local ->
  bindC kindOf (P.zip vs) m x=some v
 | [],_,_,_,_,h,_,_=>by simp at h
 | _::_,[],_,_,_,_,h,_=>by simp at h
 | p::P,w::vs,0,m,nd,h1,h2,hk=>by
  simp at h1 h2;subst h1;subst h2;show bindC kindOf ((p,w)::P.zip vs) m p=_;unfold bindC;rw[Adw λv a=>(List.nodup_cons.mp nd).1 (Axc a).1,if_neg hk];simp
 | p::P,w::vs,i+1,m,nd,h1,h2,hk=>by
  show bindC kindOf ((p,w)::P.zip vs) m x=_;exact Ady (List.nodup_cons.mp nd).2 (by simpa using h1) (by simpa using h2) hk
def start(N:NX)(vs:Na):St:=vs.map some++List.replicate (N.length-vs.length) none
def Aem (CX:CXT)(P:Program)(w:World)(K:NF)(mg:Str->NY)(base:Heap)(N:NX)(qual:Str)(scope:Scope)(f:Addr)(cd:Value)(A:Around)(outer:List Env)(s:Shared)(H:Hp)(E:XK):Cx where
 prog:=P
 w:=w
 K:=K
 mg:=mg
 base:=base
 A:=A.deeper (envOfC qual scope s.heap.objs.size f cd)
 N:=N
 s₀:=s
 H₀:=H
 env:=envOfC qual scope s.heap.objs.size f cd
 outer:=outer
 stack:=envOfC qual scope s.heap.objs.size f cd::outer
 ex:=[]
 calm:=true
 fn:=λ_=>true
 pn:=[]
 xe:=λe s'=>wpAny (model P w) (A.deeper (envOfC qual scope s.heap.objs.size f cd)) (leaving (envOfC qual scope s.heap.objs.size f cd) e) (λ_ s''=>CX outer H s E e s'') (λe' s''=>CX outer H s E e' s'') s'
theorem AfS(h:sc.names.lookup x=some .cell):∃ c,(cellsFrom n sc.names []).lookup x=some c:=by have q:=W.cellsFrom_some sc.names n [] (.inl h);exact Option.isSome_iff_exists.mp q
theorem AjT{K:NF}{base:Heap}{f:Addr}{outer:List Env}{E:XK}
  (S:An N ps scope) (D:A.handled=none) (d:Ahz P w K mg base A outer s H) (I:vs.length=ps.length) (r:Vals vs us)
  (x:InCallC s s.heap.objs.size (bindL (envOfC qual scope s.heap.objs.size f cd).kindOf (ps.zip us) λ_=>none) (cellsFrom (s.heap.objs.size+1) scope.names []) (bindC (envOfC qual scope s.heap.objs.size f cd).kindOf (ps.zip us) λ_=>none) s1) :
  Inv (Aem CX P w K mg base N qual scope f cd A outer s H E) [] (start N vs) H s1:=by
 have F:ps.length<=N.length:=by have:= congrArg List.length S.pre;rw[AvW] at this;lia
 obtain⟨h1,tk,rfl,hk⟩:=x.done;have j:∀ b:Addr,b∉(Aem CX P w K mg base N qual scope f cd A outer s H E).ex:=λb z=>absurd (show b∈([]:NU) from z) AA;refine⟨⟨d.mod,S.kind,U,U,AvN _,λy z c h1 h2=>?_,λy l=>?_,λy c _ h=>?_,λ_=>D,Around.frames_deeper d.frames,.inr ⟨U,U⟩,λb z=>absurd z (j b),d.bs,d.bsz,λb _ _=>j b,λb z=>absurd z (j b),d.Vv,d.frf⟩,
  rfl,d.bare,Un.kept hk,⟨_,x.toInCall.ns,λi y v h1 h2 G=>?_⟩,λy c h=>⟨_,x.cell y c h⟩,d.hok.fresh (AvN _),λy c h=>?_,λp n=>absurd (show p∈([]:NO) from n) AA,d.hok.kept hk,?_⟩
 ·exact name_of_addr x.apart (zW h1) (zW h2)
 ·rcases l with l | l
  ·exact AfS l
  ·exact absurd U (S.Arl _ (zW l))
 ·exact Awx (x.above y c (zW h))
 ·have hi:i<vs.length:=by
   unfold start at h2;by_cases hi:i<vs.length
   ·exact hi
   ·rw[Awi (by simpa using hi)] at h2;rw[List.getElem?_replicate] at h2;split at h2 <;> cases h2
  have C:vs[i]?=some v:=by
   unfold start at h2;rw[Awg (by simpa using hi)] at h2;cases e:vs[i]? with
   | none=>simp_all
   | some a=>simp_all
  obtain⟨u,o,B⟩:=r.get C;have n:ps[i]?=some y:=by
   rw[<- S.pre,List.getElem?_take_of_lt At];exact h1
  have m:ps.Nodup:=by rw[<- S.pre];exact S.nd.sublist (List.take_sublist _ _)
  refine⟨u,B,?_⟩;rcases S.par y (AvX n) with k | k
  ·exact .inl ⟨k,Adx m n o k⟩
  ·obtain⟨c,e⟩:=AfS k;refine .inr ⟨.inl k,c,e,?_⟩;have q:=x.cell y c e;rw[Ady m n o (by show scope.names.lookup y≠_;rw[k];decide)] at q;exact q
 ·exact d.hok.fresh (Awx (x.above y c (zW h)))
 ·unfold start;show _=N.length;grind
theorem Aq1{K:NF}{base:Heap}{f:Addr}{c:Arguments}{G kV m F a M T:Value}{L Y:Option Addr}
  {C:Array (NY)} (lk:K.lookup f=some ⟨T,Y,.func (W.fnOf name qual c body scope G kV m F L a M),C⟩) (z:W.codeIn K a qual=true) (S:An N ps scope)
  (len:∀ vs H Q E,sp vs H Q E->vs.length=ps.length)
  (h:∀(A:Around)(outer:List Env)(s:Shared)(H:Hp)(vs:Na)(Q:VK)(E:XK),Hd k (A.deeper (envOfC qual scope s.heap.objs.size f a))->sp vs H Q E ->
   ∃ t,PSs (Aem CX P w K mg base N qual scope f a A outer s H E) body t/\t { nx:=λ_ H'=>Q .non H',rt:=Q } (start N vs) H) :
  Bh P w K mg base CX (k+1) f (W.fnOf name qual c body scope G kV m F L a M) ps sp:=by
 refine⟨len,λA outer s H args us vs Q E B j Z r l=>?_⟩;have hl:=len _ _ _ _ l;have O:=j.mod.kin.keeps λb o e=>(j.bs b o e).1;have D:=j.mod.nolimit.keeps λb o e=>(j.bs b o e).1;have d:∀ y∈ps.zip us,scope.names.lookup y.1=some .local\/(scope.names.lookup y.1=some .cell/\((cellsFrom (s.heap.objs.size+1) scope.names []).lookup y.1).isSome=true):=λ⟨n,v⟩ X=>by
  rcases S.par n (Axc X).1 with q | q
  ·exact .inl q
  ·exact .inr ⟨q,W.cellsFrom_some _ _ _ (.inl q)⟩
 refine codeAny_call_function B.depth (O _ _ lk) U S.co S.gen U (W.codeRec_of O z) (Z _ _ _ _ ?_);refine wpAny_newFunctionEnv_cells S.kind d λenv R s1 x=>?_;subst R;refine⟨D.keeps x.toInCall.keep,codeAny_func ?_⟩;obtain⟨t,ht,hq⟩:=h A outer s H vs Q E (B.deeper _) l;have I:Inv (Aem CX P w K mg base N qual scope f a A outer s H E) [] (start N vs) H s1:=AjT S B.hd j hl r x;refine zT (ht [] s1 (start N vs) H _ I hq) (λfl s' i=>?_) λe s' i=>i;have fin:∀{σ':St} {H':Hp} {v:V} {u:Value},Inv (Aem CX P w K mg base N qual scope f a A outer s H E) [] σ' H' s'->RelV v u->Q v H'->CE outer P w H s Q u s' :=
  λ{σ' H' v u} J p q=>⟨v,H',J.os,J.bare,J.base,J.hok,p,q⟩;cases fl with
 | ret u =>
  obtain⟨v,σ',H',J,p,q⟩:=i;exact fin J p q
 | next =>
  obtain⟨σ',H',J,q⟩:=i;exact fin (v:=V.non) J U q
 | brk =>
  obtain⟨_,_,_,q⟩:=i;exact False.elim q
 | cont =>
  obtain⟨_,_,_,q⟩:=i;exact False.elim q
section
variable {t:TA}{id T:String}{r:Na->Hp->VK->Prop}
abbrev AsR (r:Na->Hp->VK->Prop)(Q:VK)(vs:Na)(H1:Hp):Prop:=r vs H1 Q
def tCB (r:Na->Hp->VK->Prop)(t:TA)(σ:St)(H:Hp)(Q:VK):Prop:=t σ H (AsR r Q)
theorem Az(hc:Hq X (.builtin id) r)(c:Gl X x)(j:X.mg x=none)(m:bootBuiltins x=some (.builtin id))(d:PA X (e::es) t)(hn:x ≠ "__name__" := by decide) (a:(x == ("__debug__" : Str))=false:=by decide)
  (i:starEach (e::es) X.env=(false,eval e X.env)::starEach es X.env:=by rfl) (b:(backTo pos (starEach es X.env)).any (·.1)=false:=by rfl):PE X (.Call (.Name x p) (e::es) [] pos) (tCB r t):=by
 intro pins s σ H Q I h;refine wpAny_Call_Name_kw (Iz I c j m ?_ hn a);exact PyProof.Rows.callWith_builtin1 (thn (d pos pins s σ H _ I h) λus s1 ⟨vs,H1,k,l,f⟩=>hc pins s1 σ H1 vs us Q k l f) i b
theorem Cd(hc:Hq X (.type T) r)(c:Gl X x)(j:X.mg x=none)(m:bootBuiltins x=some (.type T))(d:PA X (e::es) t)(hn:x ≠ "__name__" := by decide) (a:(x == ("__debug__" : Str))=false:=by decide)
  (i:starEach (e::es) X.env=(false,eval e X.env)::starEach es X.env:=by rfl) (b:(backTo pos (starEach es X.env)).any (·.1)=false:=by rfl):PE X (.Call (.Name x p) (e::es) [] pos) (tCB r t):=by
 intro pins s σ H Q I h;refine wpAny_Call_Name_kw (Iz I c j m ?_ hn a);exact PyProof.Rows.callWith_type1 (thn (d pos pins s σ H _ I h) λus s1 ⟨vs,H1,k,l,f⟩=>hc pins s1 σ H1 vs us Q k l f) i b
end
end L2
namespace HT
open PySem PyProof.Rows
section
variable {prog:Program}{w:World}{A:Around}{E:NR}{s:Shared}
def sIx (n d:Nat):Option Int->Nat
 | none=>d
 | some v=>if v<0 then (v+(n:Int)).toNat else min v.toNat n
theorem Rx(n d:Nat):sIx n d none=d:=rfl
theorem Ku(n d k:Nat):sIx n d (some (k:Int))=min k n:=by show(if (k:Int)<0 then ((k:Int)+(n:Int)).toNat else min (k:Int).toNat n)=min k n;rw[if_neg At,AvZ]
theorem Arm(n d:Nat)(a:d<=n)(o:Option Int):sIx n d o<=n:=by
 cases o with
 | none=>exact a
 | some v =>
  show(if v<0 then (v+(n:Int)).toNat else min v.toNat n)<=n;grind
end
end HT
namespace L2
open PySem PySem.Spec PyProof.Rows
variable {X:Cx}{e a b o:Expr}{pos:Pos}{n j t':Nat}{i:Int}{α:Type}{pins:NO}{σ:St}{H:Hp}{s:Shared}{p l:Addr}{xs:Na}{y x:V}{u v:Value}{T:String}{its:NW}
abbrev TO:=St->Hp->(Option Int->Hp->Prop)->Prop
def PO (X:Cx)(e:Option Expr)(t:TO):Prop :=
 ∀(pins:NO)(s:Shared)(σ:St)(H:Hp)(Q:Option Int->Hp->Prop),Inv X pins σ H s->t σ H Q ->
  wpAny (model X.prog X.w) X.A (evalPart e X.env) (λu s'=>∃ o H',Inv X pins σ H' s'/\IsPart u o/\Q o H') X.xe s
def AoI:TO:=λ_ H Q=>Q none H
def AsS (t:TE):TO:=λσ H Q=>t σ H λx H1=>∃ i,x=.int i/\Q (some i) H1
theorem intsAre_of{ns:NA}:∀{us:NW},Vals (ns.map V.int) us->IntsAre us ns:=by
 induction ns with
 | nil=>intro us r;cases r;exact .nil
 | cons n ns b =>
  intro us r;cases r with
  | cons a r2 =>
   obtain⟨t,e⟩:=a;subst e;exact .cons n t (b r2)
section
variable {te:TE}{lo hi:Option Expr}{tl th:TO}{p2:Pos}
theorem PB:PO X none AoI:=by intro pins s σ H Q I h;rw[evalPart_none];exact zE ⟨none,H,I,.none,h⟩
theorem Hy(h:PE X e te):PO X (some e) (AsS te):=by intro pins s σ H Q I hw;refine thn (h pins s σ H _ I hw) λu s1 ⟨x,H1,b,c,a⟩=>?_;obtain⟨i,rfl,q⟩:=a;obtain⟨t,rfl⟩:=c;exact⟨some i,H1,b,.int i t,q⟩
def SlR (X:Cx)(r:V->Option Int->Option Int->Hp->VK->Prop):Prop :=
 ∀(pins:NO)(s:Shared)(σ:St)(H:Hp)(x:V)(v vl vu:Value)(lo hi:Option Int)(sl:Addr)(Q:VK),Inv X pins σ H s->RelV x v->s.heap.IsSliceOf sl vl vu .none->IsPart vl lo->IsPart vu hi->r x lo hi H Q ->
  ∃ T id,typeLookup (.type T) "__getitem__" = pure (some (.builtin id))/\s.TypeIs v T/\wpAny (model X.prog X.w) X.A (getItem v (.ref sl)) (EP X pins σ Q) X.xe s
abbrev AsT (r:V->Option Int->Option Int->Hp->VK->Prop)(Q:VK)(x:V)(l:Option Int)(u:Option Int)(H3:Hp):Prop:=r x l u H3 Q
abbrev AsU (r:V->Option Int->Option Int->Hp->VK->Prop)(th:TO)(σ:St)(Q:VK)(x:V)(l:Option Int)(H2:Hp):Prop:=th σ H2 (AsT r Q x l)
abbrev AsV (r:V->Option Int->Option Int->Hp->VK->Prop)(tl:TO)(th:TO)(σ:St)(Q:VK)(x:V)(H1:Hp):Prop:=tl σ H1 (AsU r th σ Q x)
def tSl (r:V->Option Int->Option Int->Hp->VK->Prop)(te:TE)(tl:TO)(th:TO)(σ:St)(H:Hp)(Q:VK):Prop:=te σ H (AsV r tl th σ Q)
theorem Hz{r:V->Option Int->Option Int->Hp->VK->Prop}(k:SlR X r)(d:PE X e te)(z:PO X lo tl)(o:PO X hi th):PE X (.Subscript e (.Slice lo hi none p2) pos) (tSl r te tl th):=by intro pins s σ H Q I h;refine Subscript_ (thn (d pins s σ H _ I h) λv s1 ⟨x,H1,w,i,n⟩=>?_);refine wpAny_Slice (thn (z pins s1 σ H1 _ w n) λa c ⟨l,H2,f,pl,j⟩=>thn (o pins c σ H2 _ f j) λvu s3 ⟨u,H3,B,m,p⟩=>?_);refine zE ?_;have y:Inv X pins σ H3 { s3 with heap:=s3.heap.push { cls:=.type "slice", data:=.fields #[a,vu,.none] } }:=B.kept λb E q=>zB _ q;obtain⟨T,id,C,A,D⟩:=k pins { s3 with heap:=s3.heap.push { cls:=.type "slice", data:=.fields #[a,vu,.none] } } σ H3 x v a vu l u s3.heap.objs.size Q y i (Heap.IsSliceOf.new ..) pl m p;exact tail_any A C D (by with_unfolding_all rfl)
def Yq (xs:Na)(lo hi:Option Int):Na:=(xs.drop (HT.sIx xs.length 0 lo)).take (HT.sIx xs.length xs.length hi-HT.sIx xs.length 0 lo)
theorem Zo(xs:Na)(lo hi:Option Int):(Yq xs lo hi).length<=xs.length:=by unfold Yq;rw[AvW,Awk];lia
end
def ixN (n:Nat)(i:Int):Option Nat:=if 0<=i then (if i<n then some i.toNat else none) else if -(n:Int)<=i then some (i+n).toNat else none
def atI {α:Type}(xs:List α)(i:Int):Option α:=(ixN xs.length i).bind λj=>xs[j]?
theorem AoJ(h:ixN n i=some j):seqIndex? i n=some j/\j<n /\ -(n:Int)<=i/\i<n:=by
 unfold ixN at h;by_cases a:0<=i
 ·rw[if_pos a] at h;by_cases h1:i<n
  ·rw[if_pos h1] at h;have e:=Option.some.inj h;exact⟨by rw[seqIndex_of a h1,e],Au,Au,h1⟩
  ·simp_all
 ·rw[if_neg a] at h;by_cases h1 : -(n:Int)<=i
  ·rw[if_pos h1] at h;have e:=Option.some.inj h;exact⟨by rw[seqIndex_neg At h1,e],Au,h1,Au⟩
  ·simp_all
theorem Aen{xs:List α}{v:α}(h:atI xs i=some v):∃ j,seqIndex? i xs.length=some j/\xs[j]?=some v/\j<xs.length /\ -(xs.length:Int)<=i/\i<xs.length:=by
 unfold atI at h;cases e:ixN xs.length i with
 | none=>simp_all
 | some j =>
  rw[e] at h;obtain⟨h1,h2,b,a⟩:=AoJ e;exact⟨j,h1,h,h2,b,a⟩
theorem Ai8{xs:List α}{v:α}(h:xs[j]?=some v):atI xs (j:Int)=some v:=by
 have a:=(zC.mp h).1;have e:ixN xs.length (j:Int)=some j:=by
  unfold ixN;rw[if_pos At,if_pos At];simp
 unfold atI;rw[e];exact h
theorem AfT(xs:List α)(v:α):atI (xs++[v]) (-1)=some v:=by
 have a:(xs++[v]).length=xs.length+1:=AA
 have e:ixN (xs++[v]).length (-1)=some xs.length:=by
  unfold ixN;grind
 unfold atI;rw[e];simp
def AoK (b:Expr):Prop:=∀ o i,subscripted b false o i=operate [o,i] (getItem o i)
def IxR (X:Cx)(r:R2):Prop :=
 ∀(value slice:Expr)(pins:NO)(s:Shared)(σ:St)(H:Hp)(x y:V)(v u:Value)(Q:VK),Inv X pins σ H s->RelV x v->RelV y u->r x y H Q ->
  subscripted slice false v u=operate [v,u] (getItem v u)->wpAny (model X.prog X.w) X.A (subscriptTail value slice v u) (EP X pins σ Q) X.xe s
def MtR (X:Cx)(id:String)(r:V->Na->Hp->VK->Prop):Prop :=
 ∀(pins:NO)(s:Shared)(σ:St)(H:Hp)(x:V)(xs:Na)(v:Value)(us:NW)(Q:VK),Inv X pins σ H s->RelV x v->Vals xs us->r x xs H Q ->
  wpAny (model X.prog X.w) X.A (call (.builtin id) (v::us)) (EP X pins σ Q) X.xe s
section
variable {ta tb:TE}
theorem Bw{r:R2}(l:IxR X r)(c:PE X a ta)(f:PE X b tb)(j:AoK b):PE X (.Subscript a b pos) (tOp r ta tb):=by intro pins s σ H Q I h;exact Subscript_ (AqZ c f I h λv u d x y H2 i e k q=>l a b pins d σ H2 x y v u Q i e k q (j _ _))
inductive AsW (K:NF)(x:V)(y:V)(H:Hp)(Q:VK):Prop
|mk(p:_)(xs:_)(i:_)(v:_)(_:x=.ref p)(_:y=.int i)(_:SqL K H p xs)(_:atI xs i=some v)(_:Q v H)
inductive AsX (K:NF)(x:V)(y:V)(H:Hp)(Q:VK):Prop
|mk(p:_)(xs:_)(i:_)(v:_)(_:x=.ref p)(_:y=.int i)(_:SqT K H p xs)(_:atI xs i=some v)(_:Q v H)
inductive AsY (x:V)(y:V)(H:Hp)(Q:VK):Prop
|mk(z:_)(i:_)(c:_)(_:x=.str z)(_:y=.int i)(_:z.length<=sizeLine)(_:atI z.cps.toList i=some c)(_:Q (.str ⟨#[c]⟩) H)
theorem AoL:IxR X (AsW X.K):=by
 intro value c pins s σ H x y v u Q I l A h f;obtain⟨p,xs,i,z,rfl,rfl,B,k,q⟩:=h;cases l;obtain⟨t,rfl⟩:=A;obtain⟨its,r,pl,D⟩:=I.list B;obtain⟨j,h1,h2,C,o,m⟩:=Aen k;obtain⟨w,e,a⟩:=r.get h2;have n:=r.length;have hn:=AaX;have fin:EP X pins σ Q w s:=⟨z,H,I,a,q⟩;by_cases d:0<=i
 ·have b:i.toNat=j:=by
   rw[seqIndex_of d m] at h1;exact Option.some.inj h1
  exact item_listR pl.isList d Au (by rw[b];simpa using e) fin f
 ·have b:(i+(its.toArray.size:Int)).toNat=j:=by
   rw[seqIndex_neg At o] at h1;rw[Awq,<- n];exact Option.some.inj h1
  exact subscriptTail_builtinR pl.isList.typeIs slot_list_getitem.lookup
   (wpAny_getItem_list_neg pl.isList At AB Au (by rw[b];simpa using e) ⟨U,fin⟩) f
theorem Arn:IxR X (AsX X.K):=by
 intro value b pins s σ H x y v u Q I d l h f;obtain⟨p,xs,i,z,rfl,rfl,m,c,q⟩:=h;cases d;obtain⟨t,rfl⟩:=l;obtain⟨its,r,pl,o⟩:=I.tuple m;obtain⟨j,h1,h2,n,B,A⟩:=Aen c;obtain⟨w,e,a⟩:=r.get h2;have k:=r.length;have hn:=AaX;have fin:EP X pins σ Q w s:=⟨z,H,I,a,q⟩;exact subscriptTail_builtinR pl.typeIs slot_tuple_getitem.lookup
  (getItem_tuple pl Au Au (by rw[Awq,<- k];exact h1) (by simpa using e) ⟨U,fin⟩) f
theorem JR:IxR X AsY:=by
 intro value a pins s σ H x y v u Q I e m h l;obtain⟨z,i,c,rfl,rfl,o,d,q⟩:=h;obtain⟨t,rfl⟩:=e;obtain⟨t',rfl⟩:=m;obtain⟨j,h1,h2,n,k,b⟩:=Aen d;have f:z.cps.toList.length=z.length:=by simp[Str.length]
 rw[f] at h1 k b;have hn:=AaX;exact tail_any (typeIs_str s z t) slot_str_getitem.lookup (getItem_str (by
  grind) (by rw[h1];simpa using h2) ⟨.str ⟨#[c]⟩,H,I.tok _,⟨_,U⟩,q⟩) l
theorem Inv.lst(I:Inv X pins σ H s)(h:H p=some (.lst xs)) :
  ∃(its:NW)(n:Nat),Vals xs its/\s.heap.get? p=some { cls:=.type "list", data:=.seq its.toArray n }/\xs.length<=sizeLine:=by
 obtain⟨z,its,n,r,e⟩:=I.hok p _ h;exact⟨its,n,r,e,z⟩
theorem Aeo(lo hi:Option Int)(n:Nat):(sliceBounds lo hi none n).1=((HT.sIx n 0 lo:Nat):Int)/\(sliceBounds lo hi none n).2.1=((HT.sIx n n hi:Nat):Int)/\(sliceBounds lo hi none n).2.2=1:=by
 refine⟨?_,?_,U⟩
 ·cases lo with
  | none=>simp[sliceBounds,HT.sIx]
  | some i =>
   simp only [sliceBounds,HT.sIx];grind
 ·cases hi with
  | none=>simp[sliceBounds,HT.sIx]
  | some i =>
   simp only [sliceBounds,HT.sIx];grind
theorem Ac7(its:NW)(lo hi:Option Int):slicePick its.toArray lo hi none=((its.drop (HT.sIx its.length 0 lo)).take (HT.sIx its.length its.length hi-HT.sIx its.length 0 lo)).toArray:=by obtain⟨h1,h2,a⟩:=Aeo lo hi its.toArray.size;unfold slicePick;rw[h1,h2,a];simp only [sliceRange_one,pick_run] <;> rfl
inductive AsZ (K:NF)(x:V)(lo:Option Int)(hi:Option Int)(H:Hp)(Q:VK):Prop
|mk(a:_)(xs:_)(_:x=.ref a)(_:SqL K H a xs)(_:∀ p,H p=none->Q (.ref p) (upd H p (.lst (Yq xs lo hi))))
theorem AoM:SlR X (AsZ X.K):=by intro pins s σ H x v o l lo hi m Q I f j pl e h;obtain⟨a,xs,rfl,i,q⟩:=h;cases f;obtain⟨its,r,d,k⟩:=I.list i;have c:=r.length;refine⟨"list", _,slot_list_getitem.lookup,d.isList.typeIs,?_⟩;refine wpAny_getItem_list_slice d.isList j pl e .none AA ?_ AD;rw[Ac7,<- c];refine⟨.ref s.heap.objs.size,_,I.laid (λb n q=>zB _ q) (AvN _) ?_,U,q _ (I.hok.fresh (AvN _))⟩;exact⟨Awe (Zo xs lo hi) k,_,0,(r.drop (HT.sIx xs.length 0 lo)).take (HT.sIx xs.length xs.length hi-HT.sIx xs.length 0 lo),zD _ U⟩
def Ry:V->Bool
 | .non=>true
 | .bl _=>true
 | .int _=>true
 | .str _=>true
 | _=>false
def eqV:V->V->Bool
 | .non,.non=>true
 | .bl a,.bl b=>a == b
 | .bl a,.int b=>(if a then 1 else 0) == b
 | .int a,.bl b=>a == (if b then 1 else 0)
 | .int a,.int b=>a == b
 | .str a,.str b=>a == b
 | _,_=>false
theorem AlD{A:Around}(e:RelV y u)(c:RelV x v)(f:Ry y=true)(d:Ry x=true):SeqAt.EqAt A s u v (eqV y x):=by
 cases y with
 | non =>
  cases e;cases x with
  | non=>cases c;exact SeqAt.EqAt.same _
  | bl b=>cases c;exact SeqAt.EqAt.none_bool b
  | int b=>obtain⟨t,rfl⟩:=c;exact SeqAt.EqAt.none_int b t
  | str b=>obtain⟨t,rfl⟩:=c;exact SeqAt.EqAt.none_str b t
  | _=>exact absurd (show false=true from d) Awf
 | bl a =>
  cases e;cases x with
  | non=>cases c;exact SeqAt.EqAt.bool_none a
  | bl b=>cases c;exact SeqAt.EqAt.bool_bool a b
  | int b=>obtain⟨t,rfl⟩:=c;exact SeqAt.EqAt.bool_int a b t
  | str b=>obtain⟨t,rfl⟩:=c;exact SeqAt.EqAt.bool_str a b t
  | _=>exact absurd (show false=true from d) Awf
 | int a =>
  obtain⟨t',rfl⟩:=e;cases x with
  | non=>cases c;exact SeqAt.EqAt.int_none a t'
  | bl b=>cases c;exact SeqAt.EqAt.int_bool a t' b
  | int b=>obtain⟨t,rfl⟩:=c;exact SeqAt.EqAt.int_int a t' b t
  | str b=>obtain⟨t,rfl⟩:=c;exact SeqAt.EqAt.int_str a t' b t
  | _=>exact absurd (show false=true from d) Awf
 | str a =>
  obtain⟨t',rfl⟩:=e;cases x with
  | non=>cases c;exact SeqAt.EqAt.str_none a t'
  | bl b=>cases c;exact SeqAt.EqAt.str_bool a t' b
  | int b=>obtain⟨t,rfl⟩:=c;exact SeqAt.EqAt.str_int a t' b t
  | str b=>obtain⟨t,rfl⟩:=c;exact SeqAt.EqAt.str_str a t' b t
  | _=>exact absurd (show false=true from d) Awf
 | _=>exact absurd (show false=true from f) Awf
def eqU (x:V)(u:Value):Bool:=match u with
 | .none=>eqV .non x
 | .bool b=>eqV (.bl b) x
 | .int i _=>eqV (.int i) x
 | .str z _=>eqV (.str z) x
 | _=>false
theorem AlE(r:RelV y u)(f:Ry y=true):eqU x u=eqV y x:=by
 cases y with
 | non=>cases r;rfl
 | bl b=>cases r;rfl
 | int i=>obtain⟨t,rfl⟩:=r;rfl
 | str z=>obtain⟨t,rfl⟩:=r;rfl
 | _=>exact absurd (show false=true from f) Awf
theorem Wa{x:V}:∀{xs:Na} {us:NW},Vals xs us->xs.all Ry=true->us.any (eqU x)=xs.any λy=>eqV y x
 | _,_,.nil,_=>rfl
 | y::xs,u::us,.cons r t,f=>by
  rw[List.all_cons,AwG] at f;rw[Axd,Axd,AlE r f.1,Wa t f.2]
theorem Rz{A:Around}{s:Shared}{x:V}{v:Value}(c:RelV x v)(b:Ry x=true):∀{xs:Na} {us:NW},Vals xs us->xs.all Ry=true->∀ u∈us,SeqAt.EqAt A s u v (eqU x u)
 | _,_,.nil,_=>λu a=>by cases a
 | y::xs,u::us,.cons r t,f=>λd a=>by
  rw[List.all_cons,AwG] at f;rcases yG.mp a with rfl | a
  ·rw[AlE r f.1];exact AlD r c f.1 b
  ·exact Rz c b t f.2 d a
def inV (x:V)(xs:Na):Bool:=xs.any λy=>eqV y x
inductive rIn (K:NF)(neg:Bool)(x:V)(y:V)(H:Hp)(Q:VK):Prop
|mk(p:_)(xs:_)(_:y=.ref p)(_:(SqL K H p xs\/SqT K H p xs))(_:Ry x=true)(_:xs.all Ry=true)(_:Q (.bl (if neg then !inV x xs else inV x xs)) H)
theorem AjU:OpR X (compareOp .In) (rIn X.K false):=by
 intro pins s σ H x y v u Q I b d h;obtain⟨p,xs,rfl,a,c,fs,q⟩:=h;cases d;rcases a with a | a
 ·obtain⟨its,r,pl,e⟩:=I.list a;refine SeqAt.in_listAt (eqU x) pl.isList (λw hw=>Rz b c r fs w (by simpa using hw)) ⟨.bl _,H,I,U,?_⟩;rw[show its.toArray.any (eqU x)=its.any (eqU x) by simp,Wa r fs];exact q
 ·obtain⟨its,r,pl,e⟩:=I.tuple a;refine SeqAt.in_tupleAt (eqU x) pl (λw hw=>Rz b c r fs w (by simpa using hw)) ⟨.bl _,H,I,U,?_⟩;rw[show its.toArray.any (eqU x)=its.any (eqU x) by simp,Wa r fs];exact q
theorem Aep:OpR X (compareOp .NotIn) (rIn X.K true):=by
 intro pins s σ H x y v u Q I b d h;obtain⟨p,xs,rfl,a,c,fs,q⟩:=h;cases d;rcases a with a | a
 ·obtain⟨its,r,pl,e⟩:=I.list a;refine SeqAt.notIn_listAt (eqU x) pl.isList (λw hw=>Rz b c r fs w (by simpa using hw)) ⟨.bl _,H,I,U,?_⟩;rw[show its.toArray.any (eqU x)=its.any (eqU x) by simp,Wa r fs];exact q
 ·obtain⟨its,r,pl,e⟩:=I.tuple a;refine SeqAt.notIn_tupleAt (eqU x) pl (λw hw=>Rz b c r fs w (by simpa using hw)) ⟨.bl _,H,I,U,?_⟩;rw[show its.toArray.any (eqU x)=its.any (eqU x) by simp,Wa r fs];exact q
inductive R3 (K:NF)(xs:Na)(H:Hp)(Q:VK):Prop
|mk(p:_)(ys:_)(_:xs=[.ref p])(_:(SqL K H p ys\/SqT K H p ys))(_:Q (.int ys.length) H)
theorem Aeq:Hq X (.builtin "len") (R3 X.K):=by
 intro pins s σ H xs us Q I r h;obtain⟨p,ys,rfl,b,q⟩:=h;obtain⟨u,rfl,d⟩:=vals1 r;cases d;have hn:=AaX;rcases b with b | b
 ·obtain⟨its,c,pl,e⟩:=I.list b;have a:=c.length;exact Calls.call_len_list pl.isList (by simp only [Awq] <;> omega) ⟨.int ys.length,H,I.tok _,⟨s.toks+1,by rw[Awq,a]⟩,q⟩
 ·obtain⟨its,c,pl,e⟩:=I.tuple b;have a:=c.length;exact len_tuple pl (by simp only [Awq] <;> omega) ⟨.int ys.length,H,I.tok _,⟨s.toks+1,by rw[Awq,a]⟩,q⟩
inductive Aba (xs:Na)(H:Hp)(Q:VK):Prop
|mk(z:_)(_:xs=[.str z])(_:z.length<=sizeLine)(_:Q (.int z.length) H)
theorem BK:Hq X (.builtin "len") Aba:=by intro pins s σ H xs us Q I r h;obtain⟨z,rfl,a,q⟩:=h;obtain⟨u,rfl,t,rfl⟩:=vals1 r;have hn:=AaX;exact len_str Au ⟨.int z.length,H,I.tok _,⟨_,U⟩,q⟩
inductive R4 (K:NF)(xs:Na)(H:Hp)(Q:VK):Prop
|mk(p:_)(ys:_)(_:xs=[.ref p])(_:(SqL K H p ys\/SqT K H p ys))(_:∀ l,H l=none->Q (.ref l) (upd H l (.lst ys)))
theorem Aer:Hq X (.type "list") (R4 X.K):=by
 intro pins s σ H xs us Q I r h;obtain⟨p,ys,rfl,f,q⟩:=h;obtain⟨u,rfl,l⟩:=vals1 r;cases l;have fin:∀(its:NW),Vals ys its->ys.length<=sizeLine->∀(h':Heap)(c:Nat),(∀ b o',s.heap.get? b=some o'->h'.get? b=some o') ->
   h'.get? s.heap.objs.size=some { cls:=.type "list", dict:=none,data:=.seq its.toArray c,slots:=#[] }->EP X pins σ Q (.ref s.heap.objs.size) { s with heap:=h' }:=λits a i h' c kp e =>
  ⟨.ref s.heap.objs.size,_,I.laid kp (AvN _) (show Iu X.prog X.w _ h' _ (.lst ys) from⟨i,its,c,a,e⟩),U,q _ (I.hok.fresh (AvN _))⟩;rcases f with f | f
 ·obtain⟨its,a,pl,i⟩:=I.list f;have d:=a.length;obtain⟨o,j,hc,n,k⟩:=pl.isList;exact call_list_seq p (.inl U) j hc k (λh' c kp e=>fin its a i h' c kp e) (by simp only [Awq] <;> omega)
 ·obtain⟨its,a,pl,i⟩:=I.tuple f;have d:=a.length;obtain⟨o,j,hc,n,k⟩:=pl;exact call_list_seq p (.inr U) j hc k (λh' c kp e=>fin its a i h' c kp e) (by simp only [Awq] <;> omega)
def tyV (K:NF)(T:String)(x:V)(H:Hp):Prop:=match x with
 | .str _=>T = "str"
 | .int _=>T = "int"
 | .ref p=>(T = "list" /\ ∃ xs,SqL K H p xs)\/(T = "tuple" /\ ∃ o,K.lookup p=some o/\o.cls=.type "tuple" /\ o.dict=none) \/
   (T = "dict" /\ ((∃ kvs,H p=some (.dK kvs))\/∃ kvs,H p=some (.dT kvs)))\/(T = "set" /\ ∃ S n,H p=some (.set S n))
 | _=>False
theorem Aro(I:Inv X pins σ H s)(r:RelV x v)(ty:tyV X.K T x H) :
  s.TypeIs v T/\∀ a,v=.ref a->∃ h,s.heap.get? a=some h/\h.dict=none:=by
 cases x with
 | str z =>
  obtain⟨t,rfl⟩:=r;cases (show T = "str" from ty);exact⟨typeIs_str s z t,λ_ e=>nomatch e⟩
 | int i =>
  obtain⟨t,rfl⟩:=r;cases (show T = "int" from ty);exact⟨typeIs_int s i t,λ_ e=>nomatch e⟩
 | ref p =>
  cases r;rcases ty with ⟨rfl,xs,j⟩ | ⟨rfl,o,hk,hc,f⟩ | ⟨rfl,hk⟩ | ⟨rfl,S,n,hk⟩
  ·obtain⟨its,_,pl,_⟩:=I.list j;refine⟨pl.isList.typeIs,λa e=>?_⟩;cases e;obtain⟨o,n,e,c,f,_⟩:=pl;exact⟨o,e,f⟩
  ·refine⟨⟨o,I.kIn p o hk,hc⟩,λa e=>?_⟩;cases e;exact⟨o,I.kIn _ o hk,f⟩
  ·have z:∃ o,s.heap.get? p=some o/\o.ExactDict:=by
    rcases hk with ⟨d,hk⟩ | ⟨d,hk⟩
    ·obtain⟨_,_,_,_,o,_,_,e,ex,_⟩:=I.hok p _ hk;exact⟨o,e,ex⟩
    ·obtain⟨_,_,_,_,o,_,_,e,ex,_⟩:=I.hok p _ hk;exact⟨o,e,ex⟩
   obtain⟨o,e,ex⟩:=z;refine⟨⟨o,e,ex.1⟩,λa b=>?_⟩;cases b;exact⟨o,e,ex.2.1⟩
  ·obtain⟨o,_,_,_,e,ex,_⟩:=I.hok p _ hk;refine⟨⟨o,e,ex.1⟩,λa b=>?_⟩;cases b;exact⟨o,e,ex.2.1⟩
 | _=>exact False.elim ty
abbrev Ata (r:V->Na->Hp->VK->Prop)(Q:VK)(x:V)(xs:Na)(H2:Hp):Prop:=r x xs H2 Q
inductive Atb (K:NF)(T:String)(r:V->Na->Hp->VK->Prop)(t:TA)(σ:St)(Q:VK)(x:V)(H1:Hp):Prop
|mk(_:tyV K T x H1)(_:t σ H1 (Ata r Q x))
def tBM (K:NF)(T:String)(r:V->Na->Hp->VK->Prop)(to:TE)(t:TA)(σ:St)(H:Hp)(Q:VK):Prop:=to σ H (Atb K T r t σ Q)
variable {es:List Expr}{to:TE}{t:TA}{name:Str}{apos cpos:Pos}{id:String}{r:V->Na->Hp->VK->Prop}
theorem Atc(p:PlainAttrs T)(d:Slot T name id)(i:typeOf (.builtin id)=pure (.type "method_descriptor")) (u:MtR X id r) (y:PE X o to) (m:PA X (e::es) t)
  (c:attributeBase o name X.env (eval o X.env)=eval o X.env:=by rfl)
  (f:((backTo cpos (starEach (e::es) X.env)).all (λx=>!x.1) && (backToKw cpos (keywordEach [] X.env)).all (λx=>x.1.isSome)
   && decide ((e::es).length+([]:List Keyword).length+(if ([]:List Keyword).isEmpty then 0 else 1)<30))=true:=by rfl)
  (b:(apos.endLine == cpos.line)=true:=by rfl) (A:starEach (e::es) X.env=(false,eval e X.env)::starEach es X.env:=by rfl) (a:(backTo cpos (starEach es X.env)).any (·.1)=false:=by rfl) :
  PE X (.Call (.Attribute o name apos) (e::es) [] cpos) (tBM X.K T r to t):=by
 intro pins s σ H Q I h;refine wpAny_Call_method_late c f b U (thn (y pins s σ H _ I h) λv s1 ⟨x,H1,k,l,ty,n⟩=>?_);obtain⟨h1,h2⟩:=Aro k l ty;refine⟨T,id,p,d,i,h1,h2,?_⟩;have j:=m cpos pins s1 σ H1 _ k n;rw[A] at j ⊢;refine Calls.callWith_builtin (by show(false || (backTo cpos (starEach es X.env)).any (·.1))=false;rw[a] <;> rfl) (Calls.evalArgs_plain ?_);exact thn j λus q ⟨vs,H2,w,r2,z⟩=>u pins q σ H2 x vs v us Q w l r2 z
end
def MtM (X:Cx)(id:String)(r:V->Na->Hp->VK->Prop):Prop :=
 ∀(pins:NO)(s:Shared)(σ:St)(H:Hp)(x:V)(xs:Na)(v:Value)(us:NW)(Q:VK),Inv X pins σ H s->RelV x v->Vals xs us->r x xs H Q ->
  wpAny (model X.prog X.w) X.A (call (.builtin id) (v::us)) (EP X pins σ Q) X.xe s
theorem Vals.one:∀{x:V} {us:NW},Vals [x] us->∃ u,us=[u]/\RelV x u:=by intro _ _ h;cases h with | cons r t=>cases t;exact⟨_,U,r⟩
theorem Vals.two:∀{x y:V} {us:NW},Vals [x,y] us->∃ u v,us=[u,v]/\RelV x u/\RelV y v:=by intro _ _ _ h;cases h with | cons r t=>obtain⟨v,rfl,q⟩:=Vals.one t;exact⟨_,_,U,r,q⟩
theorem Vals.rep{xs:Na}{us:NW}(h:Vals xs us):∀ k:Nat,Vals (List.replicate k xs).flatten (List.replicate k us).flatten
 | 0=>.nil
 | k+1=>by
  exact Vals.append h (Vals.rep h k)
theorem foldl_rep(its:NW):∀(k:Nat)(acc:NW),
  List.foldl (λc b=>c++b) acc.toArray (List.replicate k its.toArray)=(acc++(List.replicate k its).flatten).toArray
 | 0,acc=>AA
 | k+1,acc=>by
  have e:acc.toArray++its.toArray=(acc++its).toArray:=AA
  have a:(acc++its)++(List.replicate k its).flatten=acc++(List.replicate (k+1) its).flatten:=by
   rw[Awt,Awl,Awj]
  rw[<- a,<- foldl_rep its k (acc++its),<- e,Awt,Axe]
section
variable {b:Addr}{ys zs:Na}
theorem Inv.Atd{a:NW}{f:Array Value->Array Value}(I:Inv X pins σ H s)(h:H l=some (.lst xs))
  (e:s.heap.get? l=some { cls:=.type "list", data:=.seq its.toArray n }) (b:f its.toArray=a.toArray) (c:Vals ys a) (i:ys.length<=sizeLine) :
  Inv X pins σ (upd H l (.lst ys)) { s with heap:=s.heap.update l (Obj.mapSeq f),toks:=t' }:=by
 have q:=PySem.IsL.update e f;rw[b] at q;refine I.write (by rw[h];exact trivial) (.inl U) (λk u j d=>(zH s.heap (Obj.mapSeq f) (Ne.symm j)).trans d) ⟨_,q⟩ ?_;exact⟨i,a,_,c,q⟩
theorem Inv.Ate(I:Inv X pins σ H s)(a:Vals ys its)(b:ys.length<=sizeLine) :
  Inv X pins σ (upd H s.heap.objs.size (.lst ys)) { s with heap:=s.heap.push { cls:=.type "list", data:=.seq its.toArray },toks:=t' } :=
 I.laid (λ_ _ q=>zB _ q) (AvN _) ⟨b,its,0,a,zD _ U⟩
theorem Inv.fresh(I:Inv X pins σ H s):H s.heap.objs.size=none:=I.hok.fresh (AvN _)
theorem Inv.AjV(I:Inv X pins σ H s)(a:H l=some (.lst xs)):xs.length<=sizeLine/\∃(its:NW)(n:Nat),Vals xs its/\xs.length=its.length/\s.heap.get? l=some { cls:=.type "list", data:=.seq its.toArray n }:=by obtain⟨z,its,n,r,e⟩:=I.hok l _ a;exact⟨z,its,n,r,r.length,e⟩
theorem AfU(h:n<=sizeLine):Builtin.List.listTooLong n=false:=by exact zJ Au
end
inductive Ai9 (x:V)(vs:Na)(H:Hp)(Q:VK):Prop
|mk(l:_)(xs:_)(y:_)(_:x=.ref l)(_:vs=[y])(_:H l=some (.lst xs))(_:xs.length<sizeLine)(_:Q .non (upd H l (.lst (xs++[y]))))
theorem DY:MtM X "list.append" Ai9:=by intro pins s σ H x vs v us Q I c b h;obtain⟨l,xs,y,rfl,rfl,a,i,q⟩:=h;cases c;obtain⟨u,rfl,d⟩:=b.one;obtain⟨z,its,n,r,f,e⟩:=I.AjV a;refine call_meets zL ⟨_,e,U⟩ F.entry_list_append (F.args_list_append_2 _ _) (PySem.list_append l its.toArray n u AD) ⟨e,?_⟩;refine⟨.non,_,I.Atd a e AA (r.append (.cons d .nil)) ?_,U,q⟩;grind
inductive AoN (x:V)(vs:Na)(H:Hp)(Q:VK):Prop
|mk(l:_)(b:_)(xs:_)(zs:_)(_:x=.ref l)(_:vs=[.ref b])(_:H l=some (.lst xs))(_:H b=some (.lst zs))(_:xs.length+zs.length<=sizeLine)(_:Q .non (upd H l (.lst (xs++zs))))
theorem Adz:MtM X "list.extend" AoN:=by
 intro pins s σ H x vs v us Q I k i h;obtain⟨l,b,xs,zs,rfl,rfl,f,hB,w,q⟩:=h;cases k;obtain⟨u,rfl,o⟩:=i.one;cases o;obtain⟨z,its,n,r,y,e⟩:=I.AjV f;obtain⟨p,a,n2,r2,j,m⟩:=I.AjV hB;have c:its.toArray.size+a.toArray.size<=sizeLine:=AD
 have d:¬(!its.toArray.isEmpty && Builtin.List.listTooLong (its.toArray.size+a.toArray.size))=true:=by
  rw[AfU c,Bool.and_false];exact Awf
 refine call_meets F.slot_list_extend ⟨_,e,U⟩ F.entry_list_extend (F.args_list_extend_2 _ _)
  (AutoSeq1.list_extend_list_list_0 l its.toArray n b a.toArray n2 d AD Au) ⟨e,m,?_⟩;refine⟨.non,_,I.Atd f e AA (r.append r2) ?_,U,q⟩;rw[AvL];omega
inductive Atf (x:V)(y:V)(H:Hp)(Q:VK):Prop
|mk(l:_)(b:_)(xs:_)(zs:_)(_:x=.ref l)(_:y=.ref b)(_:H l=some (.lst xs))(_:H b=some (.lst zs))(_:xs.length+zs.length<=sizeLine)(_:∀ p,H p=none->Q (.ref p) (upd H p (.lst (xs++zs))))
theorem Nk:OpR X (binaryOp .Add) Atf:=by
 intro pins s σ H x y v u Q I d j h;obtain⟨l,b,xs,zs,rfl,rfl,i,hB,o,q⟩:=h;cases d;cases j;obtain⟨z,its,n,r,k,e⟩:=I.AjV i;obtain⟨m,a,n2,r2,c,f⟩:=I.AjV hB;refine PySem.P.add_list e f ?_ AB;have ea:its.toArray++a.toArray=(its++a).toArray:=AA
 rw[ea];exact⟨.ref _,_,I.Ate (r.append r2) (by rw[AvL];omega),U,q _ I.fresh⟩
inductive AuV (x:V)(y:V)(H:Hp)(Q:VK):Prop
|mk(l:_)(k:_)(xs:_)(_:x=.ref l)(_:y=.int k)(_:H l=some (.lst xs))(_ : -(2 ^ 63)<=k)(_:k<2 ^ 63)(_:xs.length*k.toNat<=sizeLine)(_:∀ p,H p=none->Q (.ref p) (upd H p (.lst (List.replicate k.toNat xs).flatten)))
theorem len_rep(xs:List α)(k:Nat):(List.replicate k xs).flatten.length=k*xs.length:=AB
theorem Aes:OpR X (binaryOp .Mult) AuV:=by
 intro pins s σ H x y v u Q I o C h;obtain⟨l,k,xs,rfl,rfl,B,h1,h2,j,q⟩:=h;cases o;obtain⟨t,rfl⟩:=C;obtain⟨z,its,n,r,w,e⟩:=I.AjV B;have c:its.toArray.size*k.toNat<=sizeLine:=by rw[Awq,<- w];exact j
 have i:¬its.toArray.size*k.toNat>(2 ^ 63-1) / 8:=by
  have:(sizeLine:Nat)<=(2 ^ 63-1) / 8:=Ap
  lia
 have d:¬(!Builtin.List.listFitsIndex k)=true:=by
  rw[fitsIndex_both h1 h2];exact Awf
 have f:¬Builtin.List.listTooLong (its.toArray.size*k.toNat)=true:=by
  rw[AfU c];exact Awf
 have b:List.foldl (λA p=>A++p) #[] (List.replicate (if its.toArray.isEmpty=true then 0 else k.toNat) its.toArray)=(List.replicate k.toNat its).flatten.toArray:=by
  have E:=λm=>by
   have:= foldl_rep its m [];exact this
  cases its with
  | nil=>simp
  | cons a D=>simp_all
 refine wpAny_binaryOp_repeat_ref Ap ⟨_,e,U⟩ (λs'=>typeIs_int s' k t) noFill_list_mul F.fills_int_mul F.slot_int_rmul repeat_list F.slot_int_index.lookup
  (call_meets F.slot_int_rmul (typeIs_int s k t) F.entry_int_rmul (F.args_int_rmul_2 _ _) (int___rmul___int_list k t l its.toArray n)
   ⟨e,U,⟨_,e,U⟩,call_meets F.slot_list_mul ⟨_,e,U⟩ F.entry_list_mul (F.args_list_mul_2 _ _) (AutoListH.list___mul___list_int_3 l its.toArray n k t d i f) ⟨e,?_⟩⟩);rw[b];exact⟨.ref _,_,I.Ate (r.rep k.toNat) (by rw[len_rep,AwH];exact j),U,q _ I.fresh⟩
end L2
namespace Att
open PySem PySem.W PySem.Calls PyProof.Rows
theorem Aam{P:Params}{h:Heap}:∀(ns:NA)(vs:NW),WellAll P h vs (ns.map WData.int)->IntsAre vs ns:=by
 intro ns
 induction ns with
 | nil =>
  intro vs w;cases w;exact .nil
 | cons n ns c =>
  intro vs w;cases w with
  | cons a b =>
   cases a;exact .cons _ _ (c _ b)
theorem AjW{l:OpenLaw}{n:Nat}(hn:l.most=some n){P:Params}{h:Heap}{args:List WData}{b:NW}
  (c:l.row.toRowW.claim.pre args=true) (k:WellAll P h b args) :
  ∃ a vs ns,b=[Value.ref a]/\args=[WData.list (ns.map WData.int)]/\h.get? a=some { cls:=.type "list", data:=.seq vs.toArray }/\IntsAre vs ns/\ns.length<=n:=by
 have m:WShape.hasAll [] args [.list .int]=true:=(pre_splitW c).1;have hc:l.pre.holds [] { args:=args }=true:=(pre_splitW c).2;obtain⟨d,r,rfl,h1,h2⟩:=hasAllW_cons m;obtain rfl:=hasAllW_nil h2;obtain⟨xs,rfl,p⟩:=hasW_list h1;obtain⟨ns,rfl⟩:=items_int p;have e:ns.length<=n:=by
  have i:(WTm.not (.lt (.lit (.int (n:Int))) (.len (.arg 0)))).holds [] { args:=[.list (ns.map .int)] }=true:=by
   have i:=(holds_andW hc).1;rw[hn] at i;exact i
  have j:=condW_of i (w_not (w_lt w_lit (w_len_list (w_arg U))));rw[AvK] at j;refine Nat.le_of_not_lt λq=>?_;have o:(n:Int)<((ns.length:Nat):Int):=At
  first
   | (rw[zN o] at j;exact absurd j Ap)
   | grind
 cases k with
 | cons u v =>
  cases v;cases u with
  | list s f=>exact⟨_,_,ns,U,U,s,Aam ns _ f,e⟩
theorem AjX(l:OpenLaw)(args:List WData):l.row.toRowW.claim.post args (.bool true) args=true :=
 postW_of
  (by first | rfl | decide | simp[WShape.has,WShape.arms,WShape.armsAll])
  (w_eq_bool (w_res U) w_lit) U
theorem AfV{l:OpenLaw}{n:Nat}{q:Program}{loose:NX}{XP:(Str->NY)->Heap->Prop}{YP:World->Heap->Prop}{d:DefRec}
  (hn:l.most=some n) (p:d.params.defaults=[])
  (call:∀(w:World)(b s₁:Shared)(mg mb:Str->NY)(fa:Addr)(o:Obj)(k cd e:Value)(a:Addr)(vs:NW)(ns:NA),
   Ground q loose [] XP w b mg mb s₁.heap->YP w s₁.heap ->
   s₁.heap.get? fa=some o->o.data=.func (docDef d.name d.params d.body d.scope k cd e)->s₁.heap.CodeRec cd d.name->mg d.name=some (.ref fa) ->
   s₁.heap.get? a=some { cls:=.type "list", data:=.seq vs.toArray }->IntsAre vs ns->ns.length<=n->s₁.gens=#[] ->
   codeAny (model l.prog w) callerA (.call (.ref fa) ⟨[.ref a],[]⟩) (λr s'=>r=.ok (.ret (.bool true))/\OldK s₁.heap s'.heap/\s'.os=s₁.os/\AllBare s'.gens) s₁) :
  WalkO q loose XP YP l.row.toRowW d [] (λf vs=>PySem.call f vs):=by
 intro w b s₁ mg mb G Y fa o k cd e C kV H D s v m z args y as h x E u F;obtain rfl:C=.none:=Dflts.none v p;obtain rfl:kV=.none:=Dflts.noKw v;obtain⟨a,vs,ns,rfl,rfl,i,c,j⟩:=AjW hn h u;refine enter_call (codeAny_mono (call w b s₁ mg mb fa o k cd e a vs ns G Y H (fd_plain D) s m i c j z) λr s' J=>?_);obtain⟨rfl,h2,A,I⟩:=J;exact⟨.inl ⟨.bool true,.bool true,[],U,λ_=>rfl,.bool true,AjX l _,λ_=>⟨List.Pairwise.nil,λ_ B=>(nomatch B)⟩⟩,h2,A,I⟩
section
variable {prog:Program}{w:World}{A:Around}{E:NR}{s:Shared}{K:Frag}
def ledger(h:Heap)(L d:Addr):NO:=(List.range h.objs.size).filterMap λa=>if a=L\/a=d then none else (h.get? a).map λo=>(a,o)
end
end Att
namespace L2
open PySem PySem.Spec PyProof.Rows
variable {P prog:Program}{w:World}{mg mb m0 m:Str->NY}{CX:CXT}{k n q tk i:Nat}{a f c C:Addr}{fd:FuncData}{x qual y z:Str}{sp:Sp}{s₁ s s':Shared}{l:W.OpenLaw}{loose ps Nc:NX}{XP:(Str->NY)->Heap->Prop}{YP:World->Heap->Prop}{d:DefRec}{X:Cx}{pos py spos px:Pos}{A B:Prop}{H H':Hp}{xs ys:Na}{scope:Scope}{env:Env}{R:Result->Shared->Prop}{elt target iter tg:Expr}{ifs:List Expr}{pins:NO}{σ:St}{Q:VK}{ex fp:NU}{h h' h₁:Heap}{o:HO}{fn:Str->Bool}{Bj:NI}{cs:List (Str × Addr)}{ye:NR}{tc:TT}{te tl:TE}{D Dn:Ends}{J:It}{Er:Addr->Value->Shared->Prop}{wi:TI}{tW tV:It->St->Hp->VK->Prop}{Pv:Nat->Na->Hp->Prop}
theorem Ad0:∀{vs:NW} {ns:NA},IntsAre vs ns->Vals (ns.map V.int) vs
 | _,_,.nil=>.nil
 | _,_,.cons n t h=>.cons ⟨t,U⟩ (Ad0 h)
def Only(H:Hp):Prop:=∀ b,H b=none\/∃ o xs,H b=some (.frz o (.lst xs))
theorem AlG{K:NF}{fa:Addr}{vs:NW}{ns:NA}
  (T:K.In s₁.heap) (l:s₁.heap.Ns mainGlobals mg) (c:s₁.heap.Ns builtinsNs mb) (J:∀ x:Str,x ≠ "__name__" -> mb x=bootBuiltins x) (B:s₁.heap.NoLimit) (hg:s₁.gens=#[])
  (G:s₁.heap.get? a=some { cls:=.type "list", data:=.seq vs.toArray }) (hi:IntsAre vs ns) (X:ns.length<=sizeLine) (hr:Hd k callerA)
  (F:∀ base:Heap,K.In base->base.Ns mainGlobals mg->Bh P w K mg base CX k fa fd [x] sp) (j:∀(s:Shared)(u:Value),BindsTo s fd ⟨[u],[]⟩ [(x,u)])
  (M:∀ H:Hp,Only H->SqL K H a (ns.map V.int)->sp [.ref a] H (λv _=>v=.bl true) λ_ _ _=>False)
  (N:∀ H e s',CX [] H s₁ (λ_ _ _=>False) e s'->False) :
  codeAny (model P w) callerA (.call (.ref fa) ⟨[.ref a],[]⟩) (λr s'=>r=.ok (.ret (.bool true))/\OldK s₁.heap s'.heap/\s'.os=s₁.os/\AllBare s'.gens) s₁:=by
 have R:=Ad0 hi;have A:=hi.length;have i:∀ H:Hp,Only H->SqL K H a (ns.map V.int)->HOk P w H s₁.heap->(∀ b,H b≠none->b=a)->(H a≠none->K.lookup a=none) ->
   codeAny (model P w) callerA (.call (.ref fa) ⟨[.ref a],[]⟩) (λr s'=>r=.ok (.ret (.bool true))/\OldK s₁.heap s'.heap/\s'.os=s₁.os/\AllBare s'.gens) s₁:=by
  intro H Q hS D W Y;have E:∀{b:Addr} {o:Obj},s₁.heap.get? b=some o->H b=none->(AfL s₁.heap H).get? b=some o:=λe n=>Alu e n;have L:∀{b:Addr} {o:Obj} {es:Array DictEntry} {I:Nat},s₁.heap.get? b=some o->o.data=.dict es I->H b=none:=λ{b o es I} e d=>by
   cases q:H b with
   | none=>rfl
   | some u =>
    have O:=W b (by rw[q];simp);subst O;rw[G] at e;cases e;have d':=d;cases d'
  have f:∀{b:Addr} {m:Str->NY},s₁.heap.Ns b m->(AfL s₁.heap H).Ns b m:=λ{b m} ⟨o,es,I,e,d,r⟩=>⟨o,es,I,E e (L e d),d,r⟩;have y:=λb o e=>E (T b o e) (by
   cases q:H b with
   | none=>rfl
   | some u =>
    have O:=W b (by rw[q];simp);subst O;rw[Y (by rw[q];simp)] at e;cases e)
  have hM:Mod K mg (AfL s₁.heap H):=⟨y,f l,⟨mb,f c,J⟩,let ⟨mc,h1,h2⟩:=B;⟨mc,f h1,h2⟩⟩;have e0:Ahz P w K mg (AfL s₁.heap H) callerA [] s₁ H:=⟨U,hM,λb o e=>Aoz e,AwU (AjL _ _),trivial,λb c=>absurd (show b∈([]:NU) from c) AA,D,.of_eq hg⟩;refine codeAny_mono ((F _ y (f l)).run callerA [] s₁ H ⟨[.ref a],[]⟩ [.ref a] [.ref a] _ _ hr e0 (j s₁ (.ref a)) (.cons U .nil) (M H Q hS)) λr s' h=>?_;cases r with
  | error e=>exact(N H e s' h).elim
  | ok fl =>
   cases fl with
   | next=>exact False.elim h
   | brk=>exact False.elim h
   | cont=>exact False.elim h
   | ret u =>
    obtain⟨v,H',os,p,un,C,r',q⟩:=h;have q':=q;subst q';obtain rfl:u=Value.bool true:=r';refine⟨U,OldK.of_keep λb o e=>?_,os,p⟩;cases q:H b with
    | none=>exact un.keep b o e q (by intro z;exact absurd (show b∈([]:NU) from z) AA) AA
    | some u =>
     rcases Q b with z | ⟨ob,xs,z⟩
     ·rw[q] at z;cases z
     ·have Z:=un.Iw b ob _ z;obtain⟨S,_⟩:=D b _ z;obtain⟨e2,_⟩:=C b _ Z;rw[e] at S;cases S;exact e2
 cases hk:K.lookup a with
 | some o =>
  have e:=T a o hk;rw[G] at e;cases e;refine i (λ_=>none) (λ_=>.inl U) (.inr ⟨_,vs.toArray,_,hk,U,U,U,by rw[Awq,A];exact X,by simpa using R⟩) (λb u z=>AB) (λb z=>absurd U z) λz=>absurd U z
 | none =>
  refine i (λb=>if b=a then some (.frz { cls:=.type "list", data:=.seq vs.toArray } (.lst (ns.map V.int))) else none) (λb=>?_) (.inl (.inr ⟨{ cls:=.type "list", data:=.seq vs.toArray },if_pos U⟩)) (λb u z=>?_) (λb z=>?_) λ_=>hk
  ·by_cases c:b=a
   ·exact .inr ⟨_,_,if_pos c⟩
   ·exact .inl (if_neg c)
  ·by_cases c:b=a
   ·have z':=(if_pos c).symm.trans z;cases z';subst c;exact⟨G,by rw[AvK];exact X,vs,_,R,G⟩
   ·simp_all
  ·by_cases c:b=a
   ·exact c
   ·exact absurd (if_neg c) z
abbrev KOf {K:NF} {h:Heap} (_:K.In h):NF:=K
theorem AoO{q:Program}{K:Params->NF}{CX:World->CXT}{sp:World->Sp}
  (hn:l.most=some n) (r:n<=sizeLine) (p:d.params.defaults=[]) (J:Hd k callerA)
  (E:∀(w:World)(h:Heap),YP w h->(K w.params).In h)
  (F:∀(w:World)(mg:Str->NY)(fa:Addr)(h:Heap),(K w.params).In h->h.Ns mainGlobals mg->mg d.name=some (.ref fa) ->
   ∃ fd:FuncData,(∀(s:Shared)(u:Value),BindsTo s fd ⟨[u],[]⟩ [(x,u)]) /\
    ∀ base:Heap,(K w.params).In base->base.Ns mainGlobals mg->Bh l.prog w (K w.params) mg base (CX w) k fa fd [x] (sp w))
  (y:∀(w:World)(H:Hp)(a:Addr)(ns:NA),ns.length<=n->Only H->SqL (K w.params) H a (ns.map V.int)->sp w [.ref a] H (λv _=>v=.bl true) λ_ _ _=>False)
  (z:∀(w:World)(H:Hp)(s:Shared)(e:Value)(s':Shared),CX w [] H s (λ_ _ _=>False) e s'->False) :
  W.WalkO q loose XP YP l.row.toRowW d [] (λf vs=>PySem.call f vs):=by
 refine Att.AfV hn p λw A s₁ mg mb fa o P cd O a vs ns G Y R Q D m j i c N=>?_;have B:=E w _ Y;obtain⟨fd,M,I⟩:=F w mg fa _ B G.T.g m;exact AlG B G.T.g G.T.b G.T.builtins G.T.nolimit N j i (Awe c r) J I M (λH C L=>y w H a ns c C L) λH e s'=>z w H s₁ e s'
theorem AlH{q:Program}{K:Params->NF}{sp:NF->Sp}
  (hn:l.most=some n) (j:n<=sizeLine) (b:d.params.defaults=[]) (p:Hd k callerA)
  (m:∀(w:World)(h:Heap),YP w h->(K w.params).In h)
  (F:∀(w:World)(mg:Str->NY)(fa:Addr)(h:Heap),(K w.params).In h->h.Ns mainGlobals mg->mg d.name=some (.ref fa) ->
   ∃ fd:FuncData,(∀(s:Shared)(u:Value),BindsTo s fd ⟨[u],[]⟩ [(x,u)]) /\
    ∀ base:Heap,(K w.params).In base->base.Ns mainGlobals mg->Bh l.prog w (K w.params) mg base CX k fa fd [x] (sp (K w.params)))
  (c:∀(K:NF)(H:Hp)(a:Addr)(ns:NA),ns.length<=n->Only H->SqL K H a (ns.map V.int)->sp K [.ref a] H (λv _=>v=.bl true) λ_ _ _=>False)
  (i:∀(H:Hp)(s:Shared)(e:Value)(s':Shared),CX [] H s (λ_ _ _=>False) e s'->False) :
  W.WalkO q loose XP YP l.row.toRowW d [] (λf vs=>PySem.call f vs) :=
 AoO hn j b p m F (λw H a ns h1 h2 o=>c (K w.params) H a ns h1 h2 o) λ_ H s e s'=>i H s e s'
def PJ (s:Stmt):Arguments:=match s with
 | .FunctionDef _ a _ _ _ _ _ _ _ _=>a
 | _=>{ posonlyargs:=[],args:=[],vararg:=none,kwonlyargs:=[],kw_defaults:=[],kwarg:=none,defaults:=[] }
def Kv (s:Stmt):List Stmt:=match s with
 | .FunctionDef _ _ b _ _ _ _ _ _ _=>b
 | _=>[]
def Ag (s:Stmt):Scope:=match s with
 | .FunctionDef _ _ _ _ _ _ sc _ _ _=>sc
 | _=>{ kind:=.function,names:=[],isGenerator:=false,isCoroutine:=false }
abbrev CX0:CXT:=λ_ _ _ _ _ _=>False
abbrev E0:XK:=λ_ _ _=>False
theorem Aq:Passes CX0 X E0:=λ_ _ _ _ _ _ _ h=>h.elim
structure Fun (K:NF)(x qual:Str)(st:Stmt)(f:Addr)(fd:FuncData):Prop where
 ex:∃(oc:Value)(od:Option Addr)(kV doc pm:Value)(an:Option Addr)(cdv ct:Value)(osl:Array (NY)),
  fd=W.fnOf x qual (PJ st) (Kv st) (Ag st) .none kV doc pm an cdv ct/\K.lookup f=some ⟨oc,od,.func fd,osl⟩/\W.codeIn K cdv qual=true
 kp:W.keepIn K (.ref f)=true
section
variable {K:NF}{base:Heap}
theorem Fun.ok{st:Stmt}{N:NX}(F:Fun K x qual st f fd)(S:An N ps (Ag st))
  (b:∀(a:Value)(A:Around)(outer:List Env)(s:Shared)(H:Hp)(vs:Na)(Q:VK)(E:XK),Hd k (A.deeper (envOfC qual (Ag st) s.heap.objs.size f a))->sp vs H Q E ->
   ∃ t,PSs (Aem CX0 P w K mg base N qual (Ag st) f a A outer s H E).nox (Kv st) t/\t { nx:=λ_ H'=>Q .non H',rt:=Q } (start N vs) H) (len:∀ vs H Q E,sp vs H Q E->vs.length=ps.length:=by intro _ _ _ _ h;first | (cases h;subst_vars;rfl) | (obtain⟨_,e,_⟩:=h;subst e;rfl) | (obtain⟨_,_,e,_⟩:=h;subst e;rfl) | (obtain⟨_,_,_,e,_⟩:=h;subst e;rfl) | (obtain⟨_,_,_,_,e,_⟩:=h;subst e;rfl)):Bh P w K mg base CX0 (k+1) f fd ps sp:=by
 obtain⟨o,n,kV,l,m,p,a,r,i,rfl,lk,c⟩:=F.ex;refine Aq1 lk c S len λA outer s H vs Q E j d=>?_;obtain⟨t,h,q⟩:=b a A outer s H vs Q E j d;exact⟨t,h.nox,q⟩
theorem Fun.binds{st:Stmt}(F:Fun K x qual st f fd)
  (h:∀(kV a c:Value)(d:Option Addr)(b e:Value)(us:NW),us.length=ps.length->bindArgs (W.fnOf x qual (PJ st) (Kv st) (Ag st) .none kV a c d b e) ⟨us,[]⟩=pure (ps.zip us)):Binds K fd ps []:=by
 obtain⟨k,l,kV,a,c,d,b,e,j,rfl,lk,i⟩:=F.ex;exact .all (h kV a c d b e)
theorem Ah0{st:Stmt}{j:Value}{m h:Option Addr}{d:Array (NY)}{kV b e a i:Value}(l:K.lookup f=some ⟨j,m,.func (W.fnOf x qual (PJ st) (Kv st) (Ag st) .none kV b e h a i),d⟩)
  (c:W.codeIn K a qual=true) (k:W.keepIn K (.ref f)=true):Fun K x qual st f (W.fnOf x qual (PJ st) (Kv st) (Ag st) .none kV b e h a i):=⟨⟨j,m,kV,b,e,h,a,i,d,U,l,c⟩,k⟩
end
theorem AjY(h:n<=1000):n<sizeLine:=Axt h Ap
theorem pv(i:Nat)(b:X.N[i]?=some x:=by rfl)(c:Vis X.env.scope x:=by first | exact Or.inl U | exact Or.inr (Or.inl U) | exact Or.inr (Or.inr U))(d:(x == ("__debug__" : Str))=false:=by decide)
  (a:(x == ("__classdict__" : Str))=false:=by decide):PE X (.Name x pos) (AqO i):=AqP b c d a
theorem JS(h:B):if false=true then A else B:=by rw[if_neg Awf];exact h
theorem Ms(h:A):if true=true then A else B:=by rw[if_pos rfl];exact h
theorem Up{c:Prop}[Decidable c](hc:c)(h:B):if (!decide c)=true then A else B:=by rw[zN hc];exact JS h
def Ba (H H':Hp):Prop:=∀ b o,H b=some o->H' b=some o
theorem Ba.refl(H:Hp):Ba H H:=λ_ _ h=>h
theorem Ba.trans{H1 H2:Hp}(a:Ba H H1)(b:Ba H1 H2):Ba H H2:=λc o h=>b c o (a c o h)
theorem Ba.free(e:Ba H H'){l:Addr}(h:H' l=Option.none):H l=Option.none:=by
 cases q:H l with
 | none=>rfl
 | some o =>
  rw[e l o q] at h;cases h
theorem Ba.seq{K:NF}(e:Ba H H')(h:SqL K H a xs):SqL K H' a xs:=by
 rcases h with (h | ⟨o,h⟩) | h
 ·exact .inl (.inl (e _ _ h))
 ·exact .inl (.inr ⟨o,e _ _ h⟩)
 ·exact .inr h
theorem Vz(h:∀ y∈scope.names,y.2=.free->∃ c,env.cells.lookup y.1=some c) :
  ∃ cl,closureFor scope env=pure cl/\(∀ x c,cl.lookup x=some c->env.cells.lookup x=some c/\(x,NameKind.free)∈scope.names) /\
   ∀ x,(x,NameKind.free)∈scope.names->cl.lookup x=env.cells.lookup x:=by
 have p:∀(l:List (Str × NameKind))(cs:List (Str × Addr)),(∀ y∈l,y.2=.free->∃ c,env.cells.lookup y.1=some c) ->
   ∃ cl,(forIn l cs (λ(x:Str × NameKind)(cs:List (Str × Addr))=>do
     if x.2 == .free then
      let c <- cellOf env x.1
      pure (ForInStep.yield ((x.1,c)::cs))
     else pure (ForInStep.yield cs)):Sem (List (Str × Addr)))=pure cl /\
    (∀ x c,cl.lookup x=some c->(env.cells.lookup x=some c/\(x,NameKind.free)∈l)\/cs.lookup x=some c) /\
    ∀ x,((x,NameKind.free)∈l->cl.lookup x=env.cells.lookup x)/\((cs.lookup x=env.cells.lookup x)->cl.lookup x=env.cells.lookup x):=by
  intro l
  induction l with
  | nil=>intro cs _;exact⟨cs,U,λx c e=>.inr e,λx=>⟨λz=>absurd z AA,λz=>z⟩⟩
  | cons y r s =>
   intro cs o;obtain⟨n,k⟩:=y;by_cases hk:k=.free
   ·subst hk;obtain⟨c,hc⟩:=o (n,.free) AvP U;obtain⟨cl,f,m,b⟩:=s ((n,c)::cs) λy q=>o y (AvR _ q);refine⟨cl,?_,λx d e=>?_,λx=>⟨λz=>?_,λz=>?_⟩⟩
    ·rw[AwN];simp only [beq_self_eq_true,cellOf,hc];exact f
    ·rcases m x d e with ⟨i,u⟩ | z
     ·exact .inl ⟨i,AvR _ u⟩
     ·rw[Aw5] at z;by_cases j:x == n
      ·rw[j] at z;have a:x=n:=by simpa using j
       subst a;refine .inl ⟨?_,AvP⟩;rw[hc];exact z
      ·have a:(x == n)=false:=by simpa using j
       rw[a] at z;exact .inr z
    ·rcases yG.mp z with z | z
     ·injection z with i _;subst i;refine(b x).2 ?_;rw[hc];simp
     ·exact(b x).1 z
    ·grind
   ·obtain⟨cl,f,m,b⟩:=s cs λy q=>o y (AvR _ q);grind
 obtain⟨cl,f,m,b⟩:=p scope.names [] h;refine⟨cl,?_,λx c e=>?_,λx z=>(b x).1 z⟩
 ·unfold closureFor;have:= f
  simpa using this
 ·grind
theorem HB{env:Env}(hk:env.scope.kind=.function):∀{a:List (Str × NameKind)} {x:Str} {k:NameKind},a.lookup x=some k->k≠.free ->
  (a.map λ(n,k)=>if (k == NameKind.free && env.scope.kind == .function && env.kindOf n == some .cell) then (n,NameKind.cell) else (n,k)).lookup x=some k
 | [],_,_,h,_=>by simp at h
 | (n,k')::r,x,k,h,hf=>by
  have c:=@HB env hk r x k;show List.lookup x ((if (k' == NameKind.free && env.scope.kind == .function && env.kindOf n == some .cell)=true then (n,NameKind.cell) else (n,k'))::_)=_;cases b:x == n with
  | true =>
   simp_all
  | false =>
   simp only [Aw5,b] at h;by_cases hc:(k' == NameKind.free && env.scope.kind == .function && env.kindOf n == some .cell)=true
   ·rw[if_pos hc];simp only [Aw5,b];exact c h hf
   ·rw[if_neg hc];simp only [Aw5,b];exact c h hf
theorem Kr{env:Env}(hk:env.scope.kind=.function):∀{a:List (Str × NameKind)} {x:Str},a.lookup x=some .free->env.kindOf x=some .cell ->
  (a.map λ(n,k)=>if (k == NameKind.free && env.scope.kind == .function && env.kindOf n == some .cell) then (n,NameKind.cell) else (n,k)).lookup x=some .cell
 | [],_,h,_=>by simp at h
 | (n,k')::r,x,h,hc=>by
  have d:=@Kr env hk r x;show List.lookup x ((if (k' == NameKind.free && env.scope.kind == .function && env.kindOf n == some .cell)=true then (n,NameKind.cell) else (n,k'))::_)=_;cases b:x == n with
  | true =>
   simp_all
  | false =>
   simp only [Aw5,b] at h;by_cases c:(k' == NameKind.free && env.scope.kind == .function && env.kindOf n == some .cell)=true
   ·rw[if_pos c];simp only [Aw5,b];exact d h hc
   ·rw[if_neg c];simp only [Aw5,b];exact d h hc
def cxG (X:Cx)(fn:Str->Bool)(Nc:NX)(scope:Scope)(cs:List (Str × Addr))(C:Addr)(fp:NU)(s:Shared)(H:Hp)(ye:NR):Cx where
 prog:=X.prog
 w:=X.w
 K:=X.K
 mg:=X.mg
 base:=X.base
 A:=X.A
 N:=Nc
 s₀:=s
 H₀:=H
 env:=compEnvC scope cs C X.env
 outer:=X.stack
 stack:=X.stack
 ex:=fp
 fn:=fn
 calm:=X.calm
 pn:=[]
 xe:=ye
def Np (X:Cx)(Nc:NX)(scope:Scope)(cl:List (Str × Addr))(C:Addr)(fp:NU)(s:Shared)(H:Hp):Cx:=cxG X (λ_=>false) Nc scope cl C fp s H λ_ _=>False
def NK (σ:St)(Bj:NI):St:=Bj.map λj=>(σ[j]?).join
structure CP (X:Cx)(x:Str)(Nc:NX)(Bj:NI)(scope:Scope):Prop where
 kind:scope.kind=.function
 cell:∀ y∈scope.names,y.2≠.cell
 names:∀ y∈scope.names,y.2=.local->scope.names.lookup y.1=some .local
 fr:∀ y∈scope.names,y.2=.free->X.env.scope.names.lookup y.1=some .cell/\scope.names.lookup y.1=some .free
 loc:scope.names.lookup x=some .local
 len:Nc.length=Bj.length+1
 hd:Nc[0]?=some x
 nd:Nc.Nodup
 cap:∀ k j,Bj[k]?=some j->∃ y,Nc[k+1]?=some y/\X.N[j]?=some y/\scope.names.lookup y=some .free
theorem Aet{A:Around}{it acc:Value}(I:Nat->Shared->Prop)
  (l:∀ n s,I n s->wpAny (model prog w) A (pyNext it) (λr s₁=>match r with
   | none=>R (.ok .next) s₁
   | some v=>wpAny (model prog w) A (letOwnedTupleGo target it v) (λ_ o=>wpAny (model prog w) A (assign target env v) (λ_ b =>
     wpAny (model prog w) A (forIn ifs true λc r=>if r=true then do let ok <- isTrue c env (eval c env);pure (ForInStep.yield ok) else pure (ForInStep.yield r)) (λok a =>
      if ok=true then wpAny (model prog w) A (eval elt env) (λx i =>
       wpAny (model prog w) A (call (.builtin "list.append") [acc,x]) (λ_ f=>∃ m,m<n/\I m f) (notedBy (model prog w) A env λe s'=>R (.error e) s') i) (notedBy (model prog w) A env λe s'=>R (.error e) s') a
      else ∃ m,m<n/\I m a) (notedBy (model prog w) A env λe s'=>R (.error e) s') b) (notedBy (model prog w) A env λe s'=>R (.error e) s') o) (notedBy (model prog w) A env λe s'=>R (.error e) s') s₁) (notedBy (model prog w) A env λe s'=>R (.error e) s') s)
  (n:Nat) (h:I n s) :
  codeAny (model prog w) A (.compLoop (.ListComp elt [⟨target,iter,ifs,0⟩] scope pos) 0 it acc env) R s:=by
 refine codeAny_loop U I (λn s q=>?_) n h;show wpAny _ A ((compTurn (.ListComp elt [⟨target,iter,ifs,0⟩] scope pos) 0 it acc env).onRaise (λx=>do noteFrame x env;theTreesLotGoes x)) _ _ s;refine wpAny_noted ?_;rw[compTurn_list];refine zA (wpAny_standAt (zA (zT (l n s q) (λr s₁ h₁=>?_) λ_ _ h'=>h')));cases r with
 | none=>exact zE h₁
 | some v =>
  refine zA (zT h₁ (λ_ o h₁=>?_) λ_ _ h'=>h');refine zA (zT h₁ (λ_ b j=>zA (zT j (λok a d=>?_) λ_ _ h'=>h')) λ_ _ h'=>h');cases ok with
  | false=>exact zE ⟨U,d⟩
  | true =>
   exact zA (zA (zT d (λx i k=>zA (zT k (λ_ f p=>zE (zE ⟨U,p⟩)) λ_ _ h'=>h')) λ_ _ h'=>h'))
def AaD:TT:=λ_ H Q=>Q true H
inductive PIf (X:Cx):List Expr->TT->Prop where
 | nil:PIf X [] AaD
 | one {c:Expr} {t:TT} (h:PT X c t):PIf X [c] t
theorem PIf.run{t:TT}(h:PIf X ifs t){Q:Bool->Hp->Prop}(I:Inv X pins σ H s)(a:t σ H Q) :
  wpAny (model X.prog X.w) X.A (forIn ifs true λc r=>if r=true then do let ok <- isTrue c X.env (eval c X.env);pure (ForInStep.yield ok) else pure (ForInStep.yield r)) (TP X pins σ Q) X.xe s:=by
 cases h with
 | nil=>exact wpAny_tests_nil ⟨H,I,a⟩
 | one h=>exact wpAny_tests_one (h pins s σ H Q I a)
def R5 (Bj:NI)(tc:TT)(te:TE)(J:It)(σ:St)(H:Hp)(Q:VK):Prop :=
 ∃ W:Nat->Nat->Na->Hp->Prop,(∃ m,W 0 m [] H)/\∀ i m ys H,W i m ys H ->
  (J.stop i H/\ys.length<=sizeLine/\∀ p,H p=none->Q (.ref p) (upd H p (.lst ys))) \/
  (J.go i H/\ys.length<sizeLine/\∀ x H',J.yld i H x H'->tc (some x::NK σ Bj) H' λb H2 =>
   if b=true then te (some x::NK σ Bj) H2 λy H3=>∃ m',m'<m/\W (i+1) m' (ys++[y]) H3 else ∃ m',m'<m/\W (i+1) m' ys H2)
abbrev AoP (Bj:NI)(tc:TT)(te:TE)(σ:St)(Q:VK)(J:It)(H1:Hp):Prop:=R5 Bj tc te J σ H1 Q
def Ad1 (wi:TI)(Bj:NI)(tc:TT)(te:TE)(σ:St)(H:Hp)(Q:VK):Prop:=wi σ H (AoP Bj tc te σ Q)
theorem Un.track{fs:NU}(u:Un fs ex H H' h h')(d:h.objs.size<=a)(hn:H' a=none):Un fs ex H (upd H' a o) h h' where
 keep:=u.keep
 slot:=u.slot
 free:=λb c q n f=>by rw[Ai (AvY (Awd (Heap.lt_size q) d))];exact u.free b c q n f
 there:=u.there
 tups:=λb xs q=>by rw[Ai (Bc (u.tups b xs q) hn)];exact u.tups b xs q
 Iw:=λb c xs q=>by rw[Ai (Bc (u.Iw b c xs q) hn)];exact u.Iw b c xs q
 JP:=λb ps q=>by
  obtain⟨m,e⟩:=u.JP b ps q;exact⟨m,by rw[Ai (Bc e hn)];exact e⟩
theorem HOk.track(x:HOk P w H h)(hn:H a=none)(new:Iu P w (upd H a o) h a o):HOk P w (upd H a o) h:=λb u e=>by
 by_cases d:b=a
 ·subst d;rw[Ae] at e;cases e;exact new
 ·rw[Ai d] at e;exact(x b u e).stay (λc v _ q=>q) (λc q=>by rw[Ai (Bc q hn)];exact q) λc xs q=>by rw[Ai (Bc q hn)];exact q
structure AoQ (X:Cx)(fn:Str->Bool)(scope:Scope)(cs:List (Str × Addr))(C n:Nat):Prop where
 old:∀ y c,cs.lookup y=some c->X.env.cells.lookup y=some c\/n<c/\c≠C
 cab:∀ y c,fn y=true->cs.lookup y=some c->n<=c
 inj:∀ a b c,cs.lookup a=some c->cs.lookup b=some c->n<=c->a=b
 has:∀ y,(y,NameKind.cell)∈scope.names->∃ c,cs.lookup y=some c
 fr:∀ y,(y,NameKind.free)∈scope.names->cs.lookup y=X.env.cells.lookup y
structure Abb (X:Cx)(q:Nat)(Nc:NX)(Bj:NI)(scope:Scope):Prop where
 kind:scope.kind=.function
 names:∀ y∈scope.names,y.2=.local->scope.names.lookup y.1=some .local
 fr:∀ y∈scope.names,y.2=.free->X.env.scope.names.lookup y.1=some .cell/\scope.names.lookup y.1=some .free
 len:Nc.length=Bj.length+q
 cap:∀ k j,Bj[k]?=some j->∃ y,Nc[k+q]?=some y/\X.N[j]?=some y/\scope.names.lookup y=some .free
theorem Inv.clt(I:Inv X pins σ H s)(h:X.env.cells.lookup y=some c):c<s.heap.objs.size:=by obtain⟨v,q⟩:=I.cell y c h;exact q.lt
theorem AoR(I:Inv X pins σ H s)(O:Abb X q Nc Bj scope)
  (G:AoQ X fn scope cs C s.heap.objs.size) (r:s.heap.objs.size<=C) (d:∀ b∈fp,Py X pins H b) (m:∀ b∈fp,b<s.heap.objs.size):(cxG X fn Nc scope cs C fp s H ye).Ok where
 mod:=I.ok.mod
 kind:=O.kind
 glob:=I.ok.glob
 blt:=I.ok.blt
 above:=r
 inj:=λa b c i l=>by
  rcases G.old a c i with z | z
  ·rcases G.old b c l with p | p
   ·exact I.ok.inj a b c z p
   ·exact G.inj a b c i l (Awx p.1)
  ·exact G.inj a b c i l (Awx z.1)
 has:=λy v=>by
  obtain⟨k,u,hk⟩:∃ k,(y,k)∈(relabel scope X.env).names/\(k=.cell\/k=.free):=v.elim (λh=>⟨_,zW h,.inl U⟩) λh=>⟨_,zW h,.inr U⟩;obtain⟨⟨n,k'⟩,j,e⟩:=yF.mp u;have fr:k'=.free->n=y->∃ c,cs.lookup y=some c:=λz p=>by
   subst z p;rw[G.fr _ j];exact I.ok.has _ (.inl (O.fr _ j U).1)
  dsimp only at e;split at e
  ·injection e with i _;refine fr ?_ i;simp_all
  ·injection e with i l;subst i l;rcases hk with rfl | rfl
   ·exact G.has _ j
   ·exact fr U rfl
 cab:=λy c z e=>G.cab y c z e
 hd:=I.ok.hd
 frames:=I.ok.frames
 stk:=.inl U
 exf:=λb f=>⟨AvY (Awd (m b f) r),λy c e=>(G.old y c e).elim (λz=>(d b f).2.2.2.2.1 y c z) λz=>Aw6 (Nat.lt_trans (m b f) z.1)⟩
 bs:=I.bs
 bsz:=Awe I.ok.bsz I.sz
 AfM:=λb o e f=>by
  rcases(d b f).2.2.2.1 with z | z
  ·exact I.ok.AfM b o e z
  ·exact absurd (Awd (Heap.lt_size e) (Awe I.ok.bsz z)) (Aww _)
 AfN:=λb f z=>(yG.mp (I.Aek b z)).elim (d b f).2.1 (d b f).2.2.1
 Vv:=I.stack
 frf:=I.AaB
theorem AlI(σ:St)(Bj:NI):(NK σ Bj).length=Bj.length:=by unfold NK;rw[AvK]
theorem AlJ{v:V}(e:(NK σ Bj)[k]?=some (some v)):∃ j,Bj[k]?=some j/\σ[j]?=some (some v):=by
 unfold NK at e;rw[AvS] at e;cases hk:Bj[k]? with
 | none=>simp_all
 | some j =>
  rw[hk] at e;have a:(σ[j]?).join=some v:=Option.some.inj e;refine⟨j,U,?_⟩;cases b:σ[j]? with
  | none=>rw[b] at a;cases a
  | some o=>rw[b] at a;rw[show o=some v from a]
theorem Un.but{fs:NU}{h1 h2:Heap}(u:Un fs ex H H' h h1)(d:Heap.SameBut C h1 h2)(c:h.objs.size<=C):Un fs ex H H' h h2 where
 keep:=λb o q n f a=>(d.2 b (AvY (Awd (Heap.lt_size q) c))).trans (u.keep b o q n f a)
 slot:=λb o q n f a=>by
  obtain⟨i,e⟩:=u.slot b o q n f a;exact⟨i,(d.2 b (AvY (Awd (Heap.lt_size q) c))).trans e⟩
 free:=u.free
 there:=λb o q a=>by
  obtain⟨o',e⟩:=u.there b o q a;exact⟨o',(d.2 b (AvY (Awd (Heap.lt_size q) c))).trans e⟩
 tups:=u.tups
 Iw:=u.Iw
 JP:=u.JP
theorem Ah1(I:Inv X pins σ H s)(O:Abb X q Nc Bj scope)
  (G:AoQ X fn scope cs C s.heap.objs.size) (F:s.heap.objs.size<=C) (B:∀ b∈fp,Py X pins H b) (D:∀ b∈fp,b<s.heap.objs.size)
  (a:∀ b o,s.heap.get? b=some o->h'.get? b=some o) (n:h'.Ns C m0) (w:∀ y c,cs.lookup y=some c->s.heap.objs.size<c->∃ v,h'.IsCell c v) :
  Inv (cxG X fn Nc scope cs C fp s H ye) [] (List.replicate q none++NK σ Bj) H { s with heap:=h',toks:=tk } where
 ok:=AoR I O G F B D
 os:=rfl
 bare:=I.bare
 base:=Un.kept a
 loc:=by
  refine⟨m0,n,λi y v J d P=>?_⟩;rw[List.getElem?_append,Awu] at d;split at d
  ·simp_all
  ·obtain⟨j,K,M⟩:=AlJ d;obtain⟨z,k,A,h⟩:=O.cap _ j K;rw[Nat.sub_add_cancel At] at k;cases k.symm.trans (J);have f:=zW h;have hk:=(O.fr _ f U).1;obtain⟨m,hn,N⟩:=I.loc;obtain⟨u,r,l⟩:=N j y v A M (.inr (.inl hk));refine⟨u,r,?_⟩;rcases l with ⟨k',_⟩ | ⟨_,c,hc,o,E,x⟩
   ·cases hk.symm.trans (k')
   ·exact .inr ⟨.inl (Kr I.ok.kind h hk),c,(G.fr y f).trans hc,o,a _ _ E,x⟩
 cell:=λy c e=>by
  rcases G.old y c e with z | z
  ·obtain⟨v,o,E,x⟩:=I.cell y c z;exact⟨v,o,a _ _ E,x⟩
  ·exact w y c e z.1
 free:=I.hok.fresh F
 N6:=λy c e=>(G.old y c e).elim (I.N6 y c) λz=>I.hok.fresh (Awx z.1)
 pin:=λp L=>absurd (show p∈([]:NO) from L) AA
 hok:=I.hok.kept a
 len:=by
  show(List.replicate q none++NK σ Bj).length=Nc.length;rw[AvL,Awu,AlI,O.len,Nat.add_comm]
abbrev V0 (us:NW)(n:Nat):Obj:={ cls:=.type "list", data:=.seq us.toArray n }
theorem Cr{sc0:Scope}(h:X.env.scope=sc0)(a:∀ y∈scope.names,y.2=.free->sc0.names.lookup y.1=some .cell/\scope.names.lookup y.1=some .free) :
  ∀ y∈scope.names,y.2=.free->X.env.scope.names.lookup y.1=some .cell/\scope.names.lookup y.1=some .free:=by
 rw[h];exact a
def Aeu (g:TG)(q:Nat)(Bj:NI)(tc:TT)(te:TE)(J:It)(σ:St)(H:Hp)(Q:VK):Prop :=
 ∃ W:Nat->Nat->Na->Hp->Prop,(∃ m,W 0 m [] H)/\∀ i m ys H,W i m ys H ->
  (J.stop i H/\ys.length<=sizeLine/\∀ p,H p=none->Q (.ref p) (upd H p (.lst ys))) \/
  (J.go i H/\ys.length<sizeLine/\∀ x H',J.yld i H x H'->∀ os:St,os.length=q->g x (os++NK σ Bj) H' λσ2 H2=>∃ os':St,os'.length=q/\σ2=os'++NK σ Bj/\tc σ2 H2 λb H2 =>
   if b=true then te σ2 H2 λy H3=>∃ m',m'<m/\W (i+1) m' (ys++[y]) H3 else ∃ m',m'<m/\W (i+1) m' ys H2)
theorem AiB{g:TG}{it D:Addr}{tn:Nat->Heap->Prop}
   (O:Abb X q Nc Bj scope) (hc:X.calm=true) (G:AoQ X fn scope cs C s.heap.objs.size)
  (al:PG (cxG X fn Nc scope cs C fp s H ye) target g) (hte:PE (cxG X fn Nc scope cs C fp s H ye) elt te) (htc:PIf (cxG X fn Nc scope cs C fp s H ye) ifs tc)
  (I:Inv X pins σ H s) (T:Turn X.prog X.w X.K target J fp it tn) (st:tn 0 s.heap) (a2:∀ b∈fp,Py X pins H b) (h:Aeu g q Bj tc te J σ H Q)
  (f:s.heap.objs.size=D) (DC:D<C) (a9:∀ b o,s.heap.get? b=some o->h₁.get? b=some o) (a8:h₁.get? D=some (V0 [] 0)) (ak:h₁.Ns C m0) (am:∀ y c,cs.lookup y=some c->s.heap.objs.size<c->∃ v,h₁.IsCell c v)
  (ae:∀(s':Shared)(m:Str->NY),s'.heap.Ns C m->(∀ h',Heap.SameBut C s'.heap h'->∃ H',Inv X pins σ H' { s' with heap:=h' }/\H' C=none/\Q (.ref D) H')->R (.ok .next) s')
  (a0:∀ e s',ye e s'->notedBy (model X.prog X.w) X.A (compEnvC scope cs C X.env) (λe s''=>R (.error e) s'') e s') :
  codeAny (model X.prog X.w) X.A (.compStart (.ListComp elt [⟨target,iter,ifs,0⟩] scope pos) 0 (.ref it) (.ref D) (compEnvC scope cs C X.env)) R { s with heap:=h₁,toks:=tk }:=by
 have u:∀ b∈fp,b<D:=λb a=>by
  obtain⟨o,e,_⟩:=T.obj _ _ st b a;exact f▸Heap.lt_size e
 have a4:=T.keep _ _ _ st λb _ o e=>a9 b o e;have sC:=f▸Awx DC;have l:=AvY DC;generalize P:cxG X fn Nc scope cs C fp s H ye=Y at *;have I0:Inv Y [] (List.replicate q none++NK σ Bj) H { s with heap:=h₁,toks:=tk }:=P▸Ah1 I O G sC a2 (λb a=>f▸u b a) a9 ak am;have an:=I.hok.fresh (AwU f);have ab:D∉Y.fs:=λz=>by
  obtain⟨_,o,e,_⟩:=I.stack.mem (by rw[<- P] at z;exact z);exact absurd (Heap.lt_size e) (by rw[f];exact Aww _)
 have ah:∀ y c,Y.env.cells.lookup y=some c->c≠D:=λy c e=>by
  rw[<- P] at e;exact(G.old y c e).elim (λz=>AvY (f▸I.clt z)) λz=>Aw6 (f▸z.1)
 have YC:Y.env.locals=C:=by rw[<- P];rfl
 have a1:∀{H':Hp} {B:Obj},(∀ b∈fp,H' b=none)->∀ b∈fp,Py Y [(D,B)] H' b:=λ{H' B} hn b a=>by
  have ex:b∈Y.ex:=by rw[<- P];exact a
  refine⟨hn b a,by rw[YC];exact AvY (Nat.lt_trans (u b a) DC),I0.ok.AfN b ex,.inl ex,(I0.ok.exf b ex).2,λp j=>?_⟩;have e:=zF.mp (by rw[<- P] at j;exact j);rw[e];exact Aw6 (u b a)
 obtain⟨W,⟨ao,w0⟩,a6⟩:=h;have E:codeAny (model X.prog X.w) X.A (.compLoop (.ListComp elt [⟨target,iter,ifs,0⟩] scope pos) 0 (.ref it) (.ref D) (compEnvC scope cs C X.env)) R { s with heap:=h₁,toks:=tk }:=by
  refine Aet (λn s'=>∃(i:Nat)(os:St)(H':Hp)(ys:Na)(us:NW)(k:Nat),os.length=q/\Inv Y [] (os++NK σ Bj) H' s'/\tn i s'.heap/\(∀ b∈fp,H' b=none)/\s'.heap.get? D=some (V0 us k)/\H' D=none/\Vals ys us/\W i n ys H')
   ?_ ao ⟨0,_,H,[],[],0,Awu,I0,a4,λb a=>(a2 b a).1,a8,an,.nil,w0⟩;rintro n s3 ⟨i,o3,H3,ys,us,k,ol,I3,a7,a3,af,aj,rv,w3⟩;have IP:Inv Y [(D,V0 us k)] (o3++NK σ Bj) H3 s3:=I3.VN λp j=>by
   cases zF.mp j;exact⟨af,aj,YC▸l,ab,λv z=>by cases z⟩
  have M:∀{σ':St} {H':Hp} {s':Shared} {pl:NO},Inv Y ([(D,V0 us k)]++pl) σ' H' s'->s'.heap.get? D=some (V0 us k)/\H' D=none:=λI'=>by
   have z:=I'.pin (D,V0 us k) (Aw4 _ (Axb _ AvP));exact⟨z.1,z.2.1⟩
  subst P;rcases a6 i n ys H3 w3 with ⟨aa,x,fin⟩ | ⟨go,x,step⟩
  ·
   refine zT (T.done (cxG X fn Nc scope cs C fp s H ye) U rfl U hc i _ s3 _ H3 (λ_ _=>False) IP (a1 a3) a7 aa) (λr s4 hr=>?_) λ_ _ z=>z.elim;obtain⟨rfl,L⟩:=hr;obtain⟨N,nD⟩:=M (by simpa using L);obtain⟨m,hn,_⟩:=L.loc;refine ae s4 m hn λh' Z=>⟨upd H3 D (.lst ys),?_,(Ai (Ne.symm l)).trans L.free,fin D nD⟩;have nt:∀ b B,H3 b=some B->b≠C:=λb B e z=>by
    subst z;cases e.symm.trans L.free
   have ac:HOk X.prog X.w H3 h':=λb B e=>(L.hok b B e).stay (λc v hc q=>(Z.2 c (hc.elim (λz=>z▸nt b B e) λz=>nt c _ z)).trans q) (λ_ q=>q) λ_ _ q=>q;exact I.call' L.os ((Un.but L.base Z sC).track (AwU f) nD) (ac.track nD ⟨x,us,k,rv,(Z.2 D l).trans N⟩) L.bare λb a=>by
    obtain⟨_,g1,_,g3,g4,g5⟩:=a2 b a;exact⟨g3,g1,g4,g5⟩
  ·
   refine zT (T.item (cxG X fn Nc scope cs C fp s H ye) U rfl U hc i _ s3 _ H3 (λ_ _=>False) IP (a1 a3) a7 go) (λr s4 hr=>?_) λ_ _ z=>z.elim;obtain⟨u0,rfl,h4⟩:=hr;refine zT h4 (λ_ s5 h5=>?_) λ_ _ z=>z.elim;obtain⟨x5,H5,I5,r5,y5,S,ag⟩:=h5;refine zT (al _ s5 _ H5 x5 u0 _ (I5.pinned (a1 ag) (T.obj _ _ S)) r5 (step x5 _ y5 o3 ol)) (λ_ s6 h6=>?_) a0;obtain⟨ap,H6,I6,o6,l6,rfl,q6⟩:=h6;refine zT (htc.run I6 q6) (λb s7 h7=>?_) a0;obtain⟨H7,I7,q7⟩:=h7;have a5:∀{σ':St} {H':Hp} {s':Shared},Inv (cxG X fn Nc scope cs C fp s H ye) ([(D,V0 us k)]++AaT fp s5.heap) σ' H' s'->tn (i+1) s'.heap/\∀ b∈fp,H' b=none:=λI'=>by
    have p:=λ{b o} a e=>I'.pin (b,o) (Aw4 _ (Aw4 _ (Vx a e)));refine⟨T.keep _ _ _ S λb a o e=>(p a e).1,λb a=>?_⟩;obtain⟨o,e,d⟩:=T.obj _ _ S b a;exact(p a e).2.1
   cases b with
   | false =>
    obtain⟨m',hm,w7⟩:=(if_neg Awf).mp q7;obtain⟨N,nD⟩:=M I7;obtain⟨k1,k2⟩:=a5 I7;exact⟨m',hm,i+1,o6,H7,ys,us,k,l6,I7.VN (λp j=>nomatch j),k1,k2,N,nD,rv,w7⟩
   | true =>
    refine zT (hte _ s7 _ H7 _ I7 q7) (λu8 s8 h8=>?_) a0;obtain⟨y8,H8,I8,r8,m',hm,w8⟩:=h8;obtain⟨N,nD⟩:=M I8;obtain⟨k1,k2⟩:=a5 I8;refine call_meets zL ⟨_,N,U⟩ F.entry_list_append (F.args_list_append_2 _ _) (PySem.list_append D us.toArray k u8 (by rw[Awq,<- rv.length];lia)) ⟨N,?_⟩;have q:=PySem.IsL.update N (·.push u8);rw[List.push_toArray] at q;have keep:=λb (a:b≠D)=>zH s8.heap (Obj.mapSeq (·.push u8)) (Ne.symm a);exact⟨m',hm,i+1,o6,H8,ys++[y8],us++[u8],_,l6,(I8.VN (Alv:=[]) (λp j=>nomatch j)).turned (λb o a e=>(keep b a).trans e) nD l (.inr (AwU f)) ah (λp j=>nomatch j),T.keep _ _ _ k1 λb a o e=>(keep b (AvY (u b a))).trans e,k2,q,nD,rv.append (.cons r8 .nil),w8⟩
 exact codeAny_compStart_list E (T.self X.A 0 _ _ _ a4 E)
def Blk (X:Cx)(target iter elt:Expr)(ifs:List Expr)(scope:Scope)(pos:Pos)(Er:Addr->Value->Shared->Prop)(tW:It->St->Hp->VK->Prop):Prop :=
 ∀{cl:List (Str × Addr)} {pins:NO} {σ:St} {H:Hp} {s:Shared} {J:It} {fp:NU} {it:Addr} {tn:Nat->Heap->Prop} {Q:VK} {RR:Value->Addr->Option Addr->Result->Shared->Prop} {E:NR},
  (∀ x c,cl.lookup x=some c->X.env.cells.lookup x=some c/\(x,NameKind.free)∈scope.names)->(∀ x,(x,NameKind.free)∈scope.names->cl.lookup x=X.env.cells.lookup x) ->
  Inv X pins σ H s->Turn X.prog X.w X.K target J fp it tn->tn 0 s.heap->(∀ b∈fp,Py X pins H b)->tW J σ H Q ->
  (∀(D C:Addr)(s':Shared)(m:Str->NY),s'.heap.Ns C m->(∀ h',Heap.SameBut C s'.heap h'->∃ H',Inv X pins σ H' { s' with heap:=h' }/\H' C=none/\Q (.ref D) H')->s.heap.objs.size<=C->RR (.ref D) C X.env.frame (.ok .next) s') ->
  (∀(D C:Addr)(e:Value)(s':Shared),Er C e s'->RR (.ref D) C X.env.frame (.error e) s') ->
  wpAny (model X.prog X.w) X.A (newList []) (λacc s₃=>wpAny (model X.prog X.w) X.A (newFunctionEnv scope X.env.globals cl [] X.env.qual none .none (some X.env)) (λcenv s₄ =>
   codeAny (model X.prog X.w) X.A (.compStart (.ListComp elt [⟨target,iter,ifs,0⟩] scope pos) 0 (.ref it) acc { cenv with scope:=relabel scope X.env }) (RR acc cenv.locals cenv.frame) s₄) E s₃) E s
theorem Arq{g:TG}(ye:Addr->NU->Shared->Hp->Value->Shared->Prop)
  (O:Abb X q Nc Bj scope) (d:∀ y∈scope.names,y.2≠.cell) (hc:X.calm=true) (r:X.env.scope.kind=.function->∀ cl C fp s H,PG (cxG X (λ_=>false) Nc scope cl C fp s H (ye C fp s H)) target g)
  (htc:∀ cl C fp s H,PIf (cxG X (λ_=>false) Nc scope cl C fp s H (ye C fp s H)) ifs tc) (hte:∀ cl C fp s H,PE (cxG X (λ_=>false) Nc scope cl C fp s H (ye C fp s H)) elt te)
  (u:∀{pins σ H s fp C cenv} {R:NR},Inv X pins σ H s->(∀ b∈fp,Py X pins H b)->s.heap.objs.size<=C->cenv.frame=X.env.frame->(∀ e s',Er C e s'->R e s')->∀ e s',ye C fp s H e s'->notedBy (model X.prog X.w) X.A cenv R e s') :
  Blk X target iter elt ifs scope pos Er (Aeu g q Bj tc te):=by
 intro cl pins σ H s J fp it B Q RR E f x I T st j h p l;refine yI (wpAny_newFunctionEnv d (by intro y v;simp at v) (λh₁ n i=>?_) O.kind);have lt:s.heap.objs.size<(s.heap.push (V0 [] 0)).objs.size:=AB
 have G:AoQ X (λ_=>false) scope cl (s.heap.push (V0 [] 0)).objs.size s.heap.objs.size:=⟨λy c e=>.inl (f y c e).1,λ_ _ z=>absurd z Awf,λa b c e _ z=>absurd (I.clt (f a c e).1) (Nat.not_lt.mpr z),λy v=>absurd U (d _ v),x⟩;refine AiB (s:=s) O hc G (r I.ok.kind _ _ _ _ _) (hte _ _ _ _ _) (htc _ _ _ _ _) I T st j h U lt (λb o e=>i.extBut b o (AvY (Nat.lt_trans (Heap.lt_size e) lt)) (zB _ (zB _ e)))
  (i.extBut _ _ (AvY lt) (zB _ (zD _ U))) n (λy c e z=>absurd (I.clt (f y c e).1) (Nat.not_lt.mpr (Awx z)))
  (λs' m hn k=>p _ _ s' m hn k (Awx lt)) (u I j (Awx lt) U λe s'=>l _ _ e s')
section
variable  (hk:scope.kind=.function) (hn:∀ y∈scope.names,y.2=.local->scope.names.lookup y.1=some .local)
 (hfr:∀ y∈scope.names,y.2=.free->X.env.scope.names.lookup y.1=some .cell/\scope.names.lookup y.1=some .free) (hi:PI X target iter wi)
theorem Abd{D:Addr}(x:X.N.Nodup)(I:X.N[i]?=some y)(l:X.env.scope.names.lookup y=some .local)(h:Inv X pins σ H s)(hn:s'.heap.Ns C m)
  (G:∀ h',Heap.SameBut C s'.heap h'->∃ H',Inv X pins σ H' { s' with heap:=h' }/\H' C=none/\Hw i (.ref D) σ H' λσ' H''=>Dn.nx σ' H'') (j:s.heap.objs.size<=C) :
  wpAny (model X.prog X.w) X.A (assign (.Name y py) X.env (.ref D)) (λ_ s''=>∃ m,s''.heap.Ns C m/\∀ h',Heap.SameBut C s''.heap h'->SP X pins Dn .next { s'' with heap:=h' }) X.xe s':=by
 obtain⟨H',v,nC,q⟩:=G s'.heap (.refl ..);have n:=Aw6 (Awd h.lt j);have f:∀ y c,X.env.cells.lookup y=some c->c≠C:=λy c e=>AvY (Awd (h.clt e) j);refine wpAny_assign_Name (Adt (v) x I (.inl l) (show RelV (.ref D) (.ref D) from U) (λJ F d=>?_) (.inr l));obtain⟨a,d,u⟩:=d;have r:=u.elim (λz=>z▸n) λz=>Ne.symm (f _ _ z);exact⟨m,hn.sameBut d r,λK k=>⟨_,H',F.turned (λb o B e=>(k.2 b B).trans e) nC n (.inr (Awe h.sz j)) f (λp E z=>absurd (Awd (Heap.lt_size (h.pin p E).1) j) (by rw[z];exact Aww _)),q⟩⟩
include hk hn hfr hi in
theorem AlK(B:Blk X target iter elt ifs scope pos (λ_ _ _=>False) tW)(i:∀ x,foldedSetIterable iter X.env x=pure x) :
  PE X (.ListComp elt [⟨target,iter,ifs,0⟩] scope pos) (λσ H Q=>wi σ H λJ H1=>tW J σ H1 Q):=by
 intro pins s σ H Q I h;rw[eval_ListComp];obtain⟨cl,d,n,o⟩:=Vz (scope:=scope) (env:=X.env) λy k l=>I.ok.has y.1 (.inl (hfr y k l).1);refine wpAny_comprehension_free (use:=none) U i d hk hn (thn (hi pins s σ H _ I h) λv s1 h1=>thn h1 λj E ⟨it,fp,G,J,H2,e,f,T,b,p,r⟩=>?_);subst e;exact B (RR:=λacc C _=>compPost (model X.prog X.w) X.A X.xe none (EP X pins σ Q) acc C) n o f T b p r (λD C s' m hn u F=>⟨m,hn,λh' a=>by
  obtain⟨H',c,_,q⟩:=u h' a;exact⟨.ref D,H',c,U,q⟩⟩) λ_ _ _ _ z=>z.elim
include hk hn hfr hi in
theorem Ah2(B:Blk X target iter elt ifs scope pos (λ_ _ _=>False) tW)(k:X.N.Nodup)(a:X.N[i]?=some y)(l:X.env.scope.names.lookup y=some .local)
  (c:swapsWith (.ListComp elt [⟨target,iter,ifs,0⟩] scope pos) (some (.Name y py)) spos.line X.env=pure true) (o:∀ x,foldedSetIterable iter X.env x=pure x) :
  PS X (.Assign [.Name y py] (.ListComp elt [⟨target,iter,ifs,0⟩] scope pos) spos) (Aal (λσ H Q=>wi σ H λJ H1=>tW J σ H1 Q) (Hw i)):=by
 intro pins s σ H Dn I h;rw[exec_Assign_Name_used _ _ _ _ c];refine zA (wpAny_standAt (zA ?_));obtain⟨cl,j,r,u⟩:=Vz (scope:=scope) (env:=X.env) λy a q=>I.ok.has y.1 (.inl (hfr y a q).1);show wpAny _ X.A (do let _ <- comprehension (.ListComp elt [⟨target,iter,ifs,0⟩] scope pos) scope X.env _ (newList []) false (eval iter X.env) (some (assign (.Name y py) X.env))) _ _ s;refine zA (zT (wpAny_comprehension_free (use:=some (assign (.Name y py) X.env)) (Q:=λ_ s'=>SP X pins Dn .next s') U o j hk hn
  (thn (hi pins s σ H _ I h) λv s1 h1=>thn h1 λp G ⟨it,fp,K,J,H2,e,f,T,b,E,F⟩=>?_)) (λ_ s' d=>zE (zE d)) λ_ _ e=>e);subst e;exact B (RR:=λacc C _=>compPost (model X.prog X.w) X.A X.xe (some (assign (.Name y py) X.env)) (λ_ s'=>SP X pins Dn .next s') acc C) r u f T b E F (λD C s' m hn d n=>Abd k a l f hn d n) λ_ _ _ _ z=>z.elim
end
theorem CP.g(O:CP X x Nc Bj scope):Abb X 1 Nc Bj scope:=⟨O.kind,O.names,O.fr,O.len,O.cap⟩
theorem Blk.imp(B:Blk X target iter elt ifs scope pos Er tV)(h:∀{J σ H Q},tW J σ H Q->tV J σ H Q):Blk X target iter elt ifs scope pos Er tW :=
 λa b c d e f w=>B a b c d e f (h w)
theorem AlL(h:R5 Bj tc te J σ H Q):Aeu (Hw 0) 1 Bj tc te J σ H Q:=by
 obtain⟨W,b,a⟩:=h;refine⟨W,b,λi m ys H w=>(a i m ys H w).imp id λ⟨g,l,k⟩=>⟨g,l,λx H' y os c=>?_⟩⟩
 match os,c with
 | [o],_=>exact⟨[some x],U,U,k x H' y⟩
theorem Aev(hk:X.env.scope.kind=.function)(b:Nc.Nodup)(hi:Nc[i]?=some x)(a:scope.names.lookup x=some .local) :
  PG (cxG X fn Nc scope cs C fp s H ye) (.Name x px) (Hw i):=BJ b hi (.inl (HB hk a nofun)) (.inr (HB hk a nofun))
section
variable  (O:CP X x Nc Bj scope) (hc:X.calm=true) (hi:PI X (.Name x px) iter wi)
 (htc:∀ cl C fp s H,PIf (Np X Nc scope cl C fp s H) ifs tc) (hte:∀ cl C fp s H,PE (Np X Nc scope cl C fp s H) elt te)
include O hc htc hte in
theorem Ati:Blk X (.Name x px) iter elt ifs scope pos (λ_ _ _=>False) (R5 Bj tc te) :=
 Blk.imp (Arq (λ_ _ _ _ _ _=>False) O.g O.cell hc (λk _ _ _ _ _=>Aev k O.nd O.hd O.loc) htc hte λ_ _ _ _ _ _ _ z=>z.elim) AlL
include O hc hi htc hte in
theorem De(a:∀ x,foldedSetIterable iter X.env x=pure x:=by intro _;rfl):PE X (.ListComp elt [⟨.Name x px,iter,ifs,0⟩] scope pos) (Ad1 wi Bj tc te):=AlK O.kind O.names O.fr hi (Ati O hc htc hte) a
end
theorem AiC(O:CP X x Nc Bj scope)(hc:X.calm=true)
  (b:X.N.Nodup) (d:X.N[i]?=some y) (e:X.env.scope.names.lookup y=some .local) (hi:PI X (.Name x px) iter wi)
  (htc:∀ cl C fp s H,PIf (Np X Nc scope cl C fp s H) ifs tc) (hte:∀ cl C fp s H,PE (Np X Nc scope cl C fp s H) elt te)
  (a:swapsWith (.ListComp elt [⟨.Name x px,iter,ifs,0⟩] scope pos) (some (.Name y py)) spos.line X.env=pure true) (c:∀ x,foldedSetIterable iter X.env x=pure x:=by intro _;rfl) :
  PS X (.Assign [.Name y py] (.ListComp elt [⟨.Name x px,iter,ifs,0⟩] scope pos) spos) (Aal (Ad1 wi Bj tc te) (Hw i)):=Ah2 O.kind O.names O.fr hi (Ati O hc htc hte) b d e a c
def Its (x:Str):It:=⟨λi _=>i<x.cps.size,λi H v H'=>H'=H/\∃ c,x.cps[i]?=some c/\v=.str ⟨#[c]⟩,λi _=>x.cps.size<=i⟩
theorem AjZ{K:NF}(it:Addr)(x:Str)(t:Tok):Turn P w K tg (Its x) [it] it (λi h=>i<=x.cps.size/\h.IsStrIter it "str_ascii_iterator" x t i) where
 mem:=AA
 obj:=λi h st b a=>by
  have e:b=it:=by simpa using a
  subst e;obtain⟨_,o,e,c,d⟩:=st;exact⟨o,e,λv z=>AD⟩
 keep:=λi h h' st k=>by
  obtain⟨q,o,e,c,d⟩:=st;exact⟨q,o,k it AA o e,c,d⟩
 item:=by
  intro X B hw A hc i pins s σ H E I l st f;obtain⟨q,st⟩:=st;have f:i<x.cps.size:=f;obtain⟨u,r,G,p,n,m⟩:=l it AA;have y:x.cps[i]?=some x.cps[i]:=AA
  refine wpAny_pyNext_ascii_item st y λh' j C=>?_;have F:Inv X pins σ H { s with heap:=h',toks:=s.toks+1 }:=I.turned (λb o a e=>(C.2 b a).trans e) u r p n m;obtain⟨o,e,c,d⟩:=id j;exact⟨_,U,AfP e c d Ap ⟨.str ⟨#[x.cps[i]]⟩,H,F,⟨_,U⟩,⟨U,_,y,U⟩,⟨f,j⟩,λb a=>(l b a).1⟩⟩
 done:=by
  intro X B hw A hc i pins s σ H E I l st f;subst B hw A;obtain⟨q,st⟩:=st;have f:x.cps.size<=i:=f;obtain⟨u,r,G,p,n,m⟩:=l it AA;exact wpAny_pyNext_ascii_end (I.ok.hd hc) st (by simp;omega) λh' D=>⟨U,I.turned (λb o a e=>D b o a e) u r p n m⟩
 self:=λ_ _ _ _ _ st h=>wpAny_pyIter_striter_ascii st.2 h
theorem Aka{K:NF}(it:Addr)(x:Str)(t:Tok):Turn P w K tg (Its x) [it] it (λi h=>i<=x.cps.size/\h.IsStrIter it "str_iterator" x t i) where
 mem:=AA
 obj:=λi h st b a=>by
  have e:b=it:=by simpa using a
  subst e;obtain⟨_,o,e,c,d⟩:=st;exact⟨o,e,λv z=>AD⟩
 keep:=λi h h' st k=>by
  obtain⟨q,o,e,c,d⟩:=st;exact⟨q,o,k it AA o e,c,d⟩
 item:=by
  intro X B hw A hc i pins s σ H E I l st f;obtain⟨q,st⟩:=st;have f:i<x.cps.size:=f;obtain⟨u,r,G,p,n,m⟩:=l it AA;have y:x.cps[i]?=some x.cps[i]:=AA
  refine wpAny_pyNext_wide_item st y λh' j C=>?_;have F:Inv X pins σ H { s with heap:=h',toks:=s.toks+1 }:=I.turned (λb o a e=>(C.2 b a).trans e) u r p n m;obtain⟨o,e,c,d⟩:=id j;exact⟨_,U,AfP e c d Ap ⟨.str ⟨#[x.cps[i]]⟩,H,F,⟨_,U⟩,⟨U,_,y,U⟩,⟨f,j⟩,λb a=>(l b a).1⟩⟩
 done:=by
  intro X B hw A hc i pins s σ H E I l st f;subst B hw A;obtain⟨q,st⟩:=st;have f:x.cps.size<=i:=f;obtain⟨u,r,G,p,n,m⟩:=l it AA;exact wpAny_pyNext_wide_end (I.ok.hd hc) st (by simp;omega) λh' D=>⟨U,I.turned (λb o a e=>D b o a e) u r p n m⟩
 self:=λ_ _ _ _ _ st h=>wpAny_pyIter_striter_wide st.2 h
inductive Art (R:(It->Hp->Prop))(x:V)(H1:Hp):Prop
|mk(z:_)(_:x=.str z)(_:R (Its z) H1)
def AuX (tl:TE)(σ:St)(H:Hp)(R:(It->Hp->Prop)):Prop:=tl σ H (Art R)
theorem V1{l:Expr}(k:PE X l tl):PI X tg l (AuX tl):=by
 intro pins s σ H R I h;refine thn (k pins s σ H _ I h) λv s1 ⟨x,H1,c,j,f⟩=>?_;obtain⟨z,e,q⟩:=f;subst e;obtain⟨t,rfl⟩:=j;have a:∀ b∈[s1.heap.objs.size],Py X pins H1 b:=λb i=>by
  have e:b=s1.heap.objs.size:=by simpa using i
  subst e;exact c.Ahp (AvN _) (c.hok.fresh (AvN _))
 cases d:z.cps.all (·<128)
 ·refine wpAny_pyIter_wide d ?_;exact⟨s1.heap.objs.size,[s1.heap.objs.size],_,_,H1,U,c.kept λb o e=>zB _ e,Aka _ z t,⟨AvV _,_,zD _ U,U,U⟩,a,q⟩
 ·refine wpAny_pyIter_ascii d ?_;exact⟨s1.heap.objs.size,[s1.heap.objs.size],_,_,H1,U,c.kept λb o e=>zB _ e,AjZ _ z t,⟨AvV _,_,zD _ U,U,U⟩,a,q⟩
theorem Aew{g:TG}{tb:TS}(Pv:Nat->St->Hp->Prop)(f:Pv 0 σ H)
  (j:∀ i c σ H,z.cps[i]?=some c->Pv i σ H->g (.str ⟨#[c]⟩) σ H λa H2=>tb { D with nx:=Pv (i+1),ct:=Pv (i+1),bk:=D.nx } a H2) (k:∀ σ H,Pv z.cps.size σ H->D.nx σ H) :
  ∃ W:Nat->Nat->St->Hp->Prop,(∃ m,W 0 m σ H)/\∀ i m σ H,W i m σ H ->
   ((Its z).stop i H/\D.nx σ H)\/((Its z).go i H/\∃ N:St->Hp->Prop,(∀ σ' H',N σ' H'->∃ d,d<m/\W (i+1) d σ' H')/\∀ x H',(Its z).yld i H x H'->g x σ H' λa H2=>tb { D with nx:=N,ct:=N,bk:=D.nx } a H2):=by
 refine⟨λi m σ H=>m=z.cps.size-i/\i<=z.cps.size/\Pv i σ H,⟨z.cps.size,AA,AvV _,f⟩,?_⟩;rintro i m σ H ⟨rfl,hi,p⟩;by_cases b:i<z.cps.size
 ·refine .inr ⟨b,Pv (i+1),λσ' H' h=>⟨z.cps.size-(i+1),At,U,b,h⟩,λx H' y=>?_⟩;obtain⟨e,c,hc,rfl⟩:=y;subst e;exact j i c σ _ hc p
 ·have e:i=z.cps.size:=Au
  subst e;exact .inl ⟨AvN _,k σ H p⟩
def CN (n:Nat)(Pv:Nat->Na->Hp->Prop)(i:Nat)(ys:Na)(H:Hp):Prop:=∃ m',m'<n-i/\m'=n-(i+1)/\i+1<=n/\Pv (i+1) ys H
theorem CN.of(h:i<n)(p:Pv (i+1) ys H):CN n Pv i ys H:=⟨n-(i+1),Au,U,h,p⟩
def Eo (n:Nat)(Pv:Nat->Na->Hp->Prop)(tc:TT)(te:TE)(σ:St)(i:Nat)(ys:Na)(H:Hp):Prop :=
 tc σ H λb H2=>if b=true then te σ H2 λy H3=>CN n Pv i (ys++[y]) H3 else CN n Pv i ys H2
theorem Eo.no(h:te σ H λy H3=>CN n Pv i (ys++[y]) H3):Eo n Pv AaD te σ i ys H:=by unfold Eo AaD;exact Ms h
theorem Dk{K:NF}(Pv:Nat->Na->Hp->Prop)(c:Pv 0 [] H)(d:∀ i ys H,i<=xs.length->Pv i ys H->SqL K H a xs/\ys.length<=i)
  (l:xs.length<=sizeLine) (j:∀ i x ys H,i<xs.length->xs[i]?=some x->Pv i ys H->Eo xs.length Pv tc te (some x::NK σ Bj) i ys H)
  (k:∀ ys H p,Pv xs.length ys H->H p=none->Q (.ref p) (upd H p (.lst ys))):R5 Bj tc te (Itl K a) σ H Q:=by
 refine⟨λi m ys H=>m=xs.length-i/\i<=xs.length/\Pv i ys H,⟨xs.length,AA,AvV _,c⟩,?_⟩;rintro i m ys H ⟨rfl,hi,p⟩;obtain⟨q,n⟩:=d i ys H hi p;by_cases b:i<xs.length
 ·refine .inr ⟨⟨xs,xs[i],q,AA⟩,Au,λx H' y=>?_⟩;obtain⟨e,y⟩:=y;subst e;exact j i x ys _ b (y xs q) p
 ·have e:i=xs.length:=Au
  subst e;exact .inl ⟨⟨xs,q,AvN _⟩,Au,λf h=>k ys H f p h⟩
theorem Gp{lo:Int}(Pv:Nat->Na->Hp->Prop)(b:Pv 0 [] H)(c:∀ i ys H,i<=n->Pv i ys H->ys.length<=i)
  (l:n<=sizeLine) (h:∀ i ys H,i<n->Pv i ys H->Eo n Pv tc te (some (.int (lo+i))::NK σ Bj) i ys H)
  (j:∀ ys H p,Pv n ys H->H p=none->Q (.ref p) (upd H p (.lst ys))):R5 Bj tc te (Itr lo n) σ H Q:=by
 refine⟨λi m ys H=>m=n-i/\i<=n/\Pv i ys H,⟨n,AA,AvV _,b⟩,?_⟩;rintro i m ys H ⟨rfl,hi,p⟩;have k:=c i ys H hi p;by_cases a:i<n
 ·refine .inr ⟨a,Au,λx H' y=>?_⟩;obtain⟨e,y⟩:=y;subst e y;exact h i ys _ a p
 ·have e:i=n:=Au
  subst e;exact .inl ⟨AvN _,Au,λd f=>j ys H d p f⟩
theorem Wb(Pv:Nat->Na->Hp->Prop)(b:Pv 0 [] H)(d:∀ i ys H,i<=z.cps.size->Pv i ys H->ys.length<=i)
  (n:z.cps.size<=sizeLine) (j:∀ i c ys H,i<z.cps.size->z.cps[i]?=some c->Pv i ys H->Eo z.cps.size Pv tc te (some (.str ⟨#[c]⟩)::NK σ Bj) i ys H)
  (k:∀ ys H p,Pv z.cps.size ys H->H p=none->Q (.ref p) (upd H p (.lst ys))):R5 Bj tc te (Its z) σ H Q:=by
 refine⟨λi m ys H=>m=z.cps.size-i/\i<=z.cps.size/\Pv i ys H,⟨z.cps.size,AA,AvV _,b⟩,?_⟩;rintro i m ys H ⟨rfl,hi,p⟩;have l:=d i ys H hi p;by_cases a:i<z.cps.size
 ·refine .inr ⟨a,Au,λx H' y=>?_⟩;obtain⟨e,c,hc,rfl⟩:=y;subst e;exact j i c ys _ a hc p
 ·have e:i=z.cps.size:=Au
  subst e;exact .inl ⟨AvN _,Au,λf h=>k ys H f p h⟩
theorem Ah3{ys:NX}:∀{us:NW},Vals (ys.map V.str) us->StrsAre us ys:=by
 induction ys with
 | nil=>intro us r;cases r;exact .nil
 | cons n ns b =>
  intro us r;cases r with
  | cons a r2 =>
   obtain⟨t,e⟩:=a;subst e;exact .cons n t (b r2)
inductive rJoin (K:NF)(x:V)(vs:Na)(H:Hp)(Q:VK):Prop
|mk(z:_)(a:_)(ys:_)(_:x=.str z)(_:vs=[.ref a])(_:SqL K H a (ys.map V.str))(_:(ys.map (·.length)).sum+ys.length*z.length<=16777216)(_:Q (.str (Txt.join z ys)) H)
theorem AoT:MtR X "str.join" (rJoin X.K):=by intro pins s σ H x vs v us Q I c b h;obtain⟨z,a,ys,rfl,rfl,e,f,q⟩:=h;obtain⟨t,rfl⟩:=c;obtain⟨u,rfl,d⟩:=b.one;cases d;obtain⟨its,r,pl,i⟩:=I.list e;exact join_list pl.isList (Ah3 (by simpa using r)) f λt' k=>⟨.str _,H,I.tok _,⟨_,U⟩,q⟩
inductive Atj (K:NF)(vs:Na)(H:Hp)(Q:VK):Prop
|mk(x:_)(t:_)(b:_)(_:Yp K H x t)(_:((∃ n,vs=[x,.ty n]/\W.kitOne K t (.type n)=some b)\/(∃ a,vs=[x,.ref a]/\W.kitOne K t (.ref a)=some b)))(_:Q (.bl b) H)
theorem AlM:Hq X (.builtin "isinstance") (Atj X.K):=by
 intro pins s σ H xs us Q I d h;obtain⟨x,t,b,ty,i,q⟩:=h;rcases i with ⟨n,rfl,e⟩ | ⟨a,rfl,e⟩
 ·obtain⟨j,f,rfl,c,r2⟩:=d.two;cases r2;exact Adu I c ty e λtk=>⟨.bl b,H,I.tok _,U,q⟩
 ·obtain⟨j,f,rfl,c,r2⟩:=d.two;cases r2;exact Adu I c ty e λtk=>⟨.bl b,H,I.tok _,U,q⟩
theorem Abe{x:V}(h:Ry x=true):eqV x x=true:=by
 cases x with
 | non=>rfl
 | bl b=>simp[eqV]
 | int i=>simp[eqV]
 | str z=>simp[eqV]
 | _=>exact absurd (show false=true from h) Awf
open PySem
def tx (l:NI):Str:=⟨l.toArray⟩
theorem Aw(l:NI):(tx l).length=l.length:=by simp[tx,Str.length]
theorem Jr(l:NI):(tx l).cps.size=l.length:=by simp[tx]
theorem Fw(l:NI):(tx l).cps.toList=l:=by simp[tx]
theorem V2(l:NI)(i:Nat):(tx l).cps[i]?=l[i]?:=by simp[tx]
theorem Atk(z:Str):tx z.cps.toList=z:=by cases z;simp[tx]
theorem Bs(a b:NI):tx a++tx b=tx (a++b):=by show Str.append (tx a) (tx b)=_;simp[tx,Str.append]
theorem IK{a b:NI}(h:tx a=tx b):a=b:=by
 have:=congrArg (λz:Str=>z.cps.toList) h
 simpa [tx] using this
theorem Ha(c:Nat):(⟨#[c]⟩:Str)=tx [c]:=rfl
theorem Ad2:∀(ys:NN)(acc:Array Nat),(ys.map tx).foldl (λacc p=>acc++(tx []).cps++p.cps) acc=acc++ys.flatten.toArray
 | [],acc=>AA
 | y::ys,acc=>by
  rw[AvU,Axe,Ad2 ys];simp[tx]
theorem GF:∀(ys:NN),Txt.join (tx []) (ys.map tx)=tx ys.flatten
 | []=>by simp[Txt.join,Builtin.Str.glued,tx,Str.empty]
 | y::ys=>by
  show Str.mk _=_;simp only [AvU,List.drop_one,Axf,List.headD_cons];rw[Ad2];simp[tx]
theorem Qs{α:Type}(f:α->Nat):∀(l:List α),(l.map λc=>[f c]).flatten=l.map f
 | []=>rfl
 | a::l=>by rw[AvU,Awl,Qs f l];rfl
theorem Akb{α:Type}(f:α->Nat):∀(l:List α),(((l.map λc=>[f c]).map tx).map (·.length)).sum=l.length
 | []=>rfl
 | a::l=>by
  rw[AvU,AvU,AvU,Aw7,Akb f l,Aw,AvQ];show 1+l.length=l.length+1;omega
end L2
namespace PySem
open Sem (wp)
open Builtin Builtin.Str Builtin.Int
namespace RV
theorem mro_reversed:mroOf (.type "reversed")=pure [.type "reversed", .type "object"]:=by rw[mroOf_type];kernel_rfl
theorem lookup_reversed_new:typeLookup (.type "reversed") "__new__" = pure (some (.builtin "reversed.__new__")):=AC
theorem Akc:Slot "reversed" "__init__" "object.__init__" :=
 .of (owner := "object") (n := "__init__") AC As As As
  (by first | exact .inl As | grind) AC
theorem Aan:TypeCalled "reversed" "reversed.__new__" "object.__init__" :=
 ⟨As,As,⟨_,_,mro_reversed⟩,madeBy_type mro_reversed lookup_reversed_new As,As,AC,Akc⟩
theorem Ah4(a:Value):checkTypeCall "reversed" ⟨[a],[]⟩=pure ():=AC
theorem Akd(a:Value):checkBuiltinCall "reversed.__new__" ⟨[.type "reversed", a],[]⟩=pure ():=AC
theorem Ake:entryFor table "reversed.__new__" = some Builtin.«reversed.__new__»:=entryFor_of_tree AC
theorem sub_self:isSubtype (.type "reversed") (.type "reversed")=pure true:=by rw[isSubtype_type];kernel_rfl
theorem Akf:typeLookup (.type "str") "__reversed__" = pure none:=by rw[typeLookup_type,builtinLookup_eq_fast];kernel_rfl
theorem Ah5:isSubtype (.type "str") (.type "dict")=pure false:=by rw[isSubtype_type];kernel_rfl
theorem slot_next:Slot "reversed" "__next__" "reversed.__next__" :=
 .of (owner := "reversed") (n := "__next__") AC As As As
  (by first | exact .inl As | grind) AC
theorem entry_next:entryFor table "reversed.__next__" = some Builtin.«reversed.__next__»:=entryFor_of_tree AC
theorem Zq(a:Value):argsOk "reversed.__next__" ⟨[a],[]⟩:=by unfold argsOk;kernel_rfl
theorem Ad3:Slot "reversed" "__iter__" "reversed.__iter__" :=
 .of (owner := "reversed") (n := "__iter__") AC As As As
  (by first | exact .inl As | grind) AC
theorem Ah6:entryFor table "reversed.__iter__" = some Builtin.«dict_keyiterator.__iter__» :=
 entryFor_alias (id' := "dict_keyiterator.__iter__") AC (by first | rfl | decide +kernel | grind) As AC
theorem AfW(a:Value):argsOk "reversed.__iter__" ⟨[a],[]⟩:=by unfold argsOk;kernel_rfl
theorem Yr:Slot "reversed" "__length_hint__" "reversed.__length_hint__" :=
 .of (owner := "reversed") (n := "__length_hint__") AC As As As
  (by first | grind | exact .inr As) AC
theorem Ah7:entryFor table "reversed.__length_hint__" = some Builtin.«reversed.__length_hint__»:=entryFor_of_tree AC
theorem AfX(a:Value):argsOk "reversed.__length_hint__" ⟨[a],[]⟩:=by unfold argsOk;kernel_rfl
theorem Aq4:typeLookup (.type "reversed") "__len__" = pure none:=by rw[typeLookup_type,builtinLookup_eq_fast];kernel_rfl
theorem hint:typeLookup (.type "reversed") "__length_hint__" = pure (some (.builtin "reversed.__length_hint__")):=AC
end RV
def Aex (x:Str)(t:Tok)(i:Int):Obj:={ cls:=.type "reversed", data:=.fields #[.str x t,rawInt i] }
set_option maxHeartbeats 1000000 in
theorem Abf(x:Str)(t:Tok)(b:¬(x.length:Int) ≥ 2 ^ 63) :
  Meets (Builtin.«reversed.__new__» ⟨[.type "reversed", .str x t],[]⟩) (λ_ R s =>
   R (.ok (.ret (.ref s.heap.objs.size))) { s with heap:=s.heap.push (Aex x t ((x.length:Int)-1)),toks:=s.toks+1+1 }) :=
 .of_wp λprog w A R s h=>by
  obtain⟨e,g,d,tk,os⟩:=s;have a:=RV.sub_self;have h1:=RV.Akf;have h2:=RV.Ah5;have c:=F.slot_str_getitem.lookup
  wp_walk using (PySem.P.len_str b)
  exact⟨_,U,h⟩
def Heap.DQ(h:Heap)(a:Addr)(x:Str)(t:Tok)(i:Int):Prop:=∃ o,h.get? a=some o/\o.cls=.type "reversed" /\ o.data=.fields #[.str x t,rawInt i]
theorem Heap.DQ.typeIs{s:Shared}{a:Addr}{x:Str}{t:Tok}{i:Int}(y:s.heap.DQ a x t i):s.TypeIs (.ref a) "reversed" := let ⟨o,ho,hc,_⟩:=y;⟨o,ho,hc⟩
theorem Heap.DQ.at{h h':Heap}{a:Addr}{x:Str}{t:Tok}{i:Int}(y:h.DQ a x t i)(e:∀ o,h.get? a=some o->h'.get? a=some o):h'.DQ a x t i:=let ⟨o,ho,r⟩:=y;⟨o,e _ ho,r⟩
section
variable {prog:Program}{w:World}{A:Around}{E:NR}{s:Shared}
theorem HD{x:Str}{t:Tok}{Q:NR}(b:¬(x.length:Int) ≥ 2 ^ 63)
  (h:Q (.ref s.heap.objs.size) { s with heap:=s.heap.push (Aex x t ((x.length:Int)-1)),toks:=s.toks+1+1 }):wpAny (model prog w) A (call (.type "reversed") [.str x t]) Q E s :=
 callType_new RV.Aan Ap (RV.Ah4 _) (RV.Akd _) (λa=>F.args_object_init_2 a _) RV.Ake (Abf x t b) ⟨⟨_,zD _ U,U⟩,h⟩
theorem J8{it:Addr}{x:Str}{t:Tok}{i:Int}{Q:NR}(a:s.heap.DQ it x t i)(h:Q (.ref it) s):wpAny (model prog w) A (pyIter (.ref it)) Q E s:=by refine wpAny_pyIter_slot a.typeIs RV.Ad3 (wpAny_call_entry RV.Ad3 a.typeIs RV.Ah6 ?_ (RV.AfW _));exact zE ⟨_,U, "reversed", _,a.typeIs,RV.slot_next.lookup,h⟩
theorem IV{it:Addr}{x:Str}{t:Tok}{i c:Nat}{Q:NY->Shared->Prop}(a:s.heap.DQ it x t (i:Int))(e:x.cps[i]?=some c)(j:¬(x.length:Int) ≥ 2 ^ 63)
  (h:∀ h' u tk,h'.DQ it x t ((i:Int)-1)->Heap.SameBut it s.heap h'->Q (some (.str ⟨#[c]⟩ u)) { s with heap:=h',toks:=tk }):wpAny (model prog w) A (pyNext (.ref it)) Q E s:=by
 obtain⟨o,d,hc,b⟩:=id a;have hi:i<x.length:=(Array.getElem?_eq_some_iff.mp e).1;refine zA (wpAny_attempt (wpAny_callSpecial?_slot a.typeIs RV.slot_next
  (wpAny_call_entry RV.slot_next a.typeIs RV.entry_next ?_ (RV.Zq _))));refine zA (wpAny_of_eq U ?_);refine zA (yD d b (x:=.str x t) U ?_);refine zA (yD d b (x:=rawInt (i:Int)) U ?_);refine zA (wpAny_specialOf (typeIs_str s x t) F.slot_str_getitem.lookup ?_);refine zA (wpAny_mkInt ?_);have f:seqIndex? (i:Int) x.length=some i:=by
  have:= PySem.StrLaws.seqIndex_nonneg (i:=(i:Int)) (n:=x.length) Au Au
  simpa using this
 refine zA (wpAny_attempt (PySem.P.getItem_str (by
  grind) (by rw[f];exact e) ?_))
 refine zA (yD d b (x:=rawInt (i:Int)) U ?_);refine zA (yC d b AA ?_);refine zE ⟨_,U,zE (h _ _ _ ?_ (Heap.SameBut.update ..))⟩;exact⟨_,zR _ d (Obj.isFreed_of_fields (zX b _)),(Obj.cls_mapFields ..).trans hc,by
  rw[zX b];simp⟩
theorem JT{it:Addr}{x:Str}{t:Tok}{Q:NY->Shared->Prop}(k:A.handled=none)(b:s.heap.DQ it x t (-1))
  (j:∀ h',Heap.ExtBut it s.heap h'->(∃ o,h'.get? it=some o)->Q none { s with heap:=h' }):wpAny (model prog w) A (pyNext (.ref it)) Q E s:=by
 obtain⟨o,f,hc,d⟩:=id b;refine zA (wpAny_attempt (wpAny_callSpecial?_slot b.typeIs RV.slot_next
  (wpAny_call_entry RV.slot_next b.typeIs RV.entry_next ?_ (RV.Zq _))));refine zA (wpAny_of_eq U ?_);refine zA (yD f d (x:=.str x t) U ?_);refine zA (yD f d (x:=rawInt (-1)) U ?_);refine zA (wpAny_rule ?_);refine zA ?_;refine zA (yC f d AA ?_);have c:=zR (Obj.mapFields λvs=>vs.set! 1 (rawInt (-1))) f (Obj.isFreed_of_fields (zX d _));have e:=zX d λvs=>vs.set! 1 (rawInt (-1));refine yC c e AA ?_;have i:=zX e λvs=>vs.set! 0 Value.none;have h:=zR (Obj.mapFields λvs=>vs.set! 0 Value.none) c (Obj.isFreed_of_fields i);refine zA ?_;refine zA ?_;refine zA (yI ?_ (by size_fits));refine zA (wpAny_of_eq (a:=Value.none) (by first | rfl | grind) ?_);refine yI ?_ (by size_fits);refine zA (wpAny_handled ?_)
 first | grind | rw[k]
 refine zA (zE (wpAny_throw ?_));refine zA (wpAny_isInstance ⟨_,zD _ U,U⟩ isSubtype_stop ?_);refine zE (j _ ((((Heap.SameBut.update ..).extBut.trans (Heap.SameBut.update ..).extBut).push _).push _) ⟨_,zB _ (zB _ h)⟩)
theorem Walks.Aex(p:A.handled=none)(I:Addr)(x:Str)(t:Tok)(f:¬(x.length:Int) ≥ 2 ^ 63) :
  Walks prog w A I [I] [I] x.cps.size (λi v=>∃ c u,x.cps[x.cps.size-1-i]?=some c/\v=.str ⟨#[c]⟩ u) (λi h=>i<=x.cps.size/\h.DQ I x t ((x.cps.size:Int)-1-(i:Int))) where
 sub:=λ_ f=>f
 frame:=λ_ _ _ st hk=>⟨st.1,st.2.at λo e=>hk I AA o e⟩
 item:=λi s Q E hi st j=>by
  have e:(x.cps.size:Int)-1-(i:Int)=((x.cps.size-1-i:Nat):Int):=At
  have a:=st.2;rw[e] at a;have n:x.cps[x.cps.size-1-i]?=some (x.cps[x.cps.size-1-i]' At):=zP At;refine IV a n f λh' u tk d l=>?_;have q:((x.cps.size-1-i:Nat):Int)-1=(x.cps.size:Int)-1-((i+1:Nat):Int):=At
  rw[q] at d;exact j _ h' tk ⟨_,_,n,U⟩ ⟨hi,d⟩ λb o f k=>l.extBut b o (λh=>f (by simp[h])) k
 done:=λs Q E st j=>by
  have e:(x.cps.size:Int)-1-(x.cps.size:Int) = -1:=Au
  have a:=st.2;rw[e] at a;exact JT p a λh' m _=>j h' s.toks λb o f k=>m b o (λh=>f (by simp[h])) k
 self:=λ_ _ _ _ st j=>J8 st.2 j
theorem R6{it:Addr}{x:Str}{t:Tok}{Q:NR}(d:¬(x.length:Int) ≥ 2 ^ 63)(a:s.heap.DQ it x t ((x.length:Int)-1))
  (h:∀ u tk,s.toks<=tk->Q (.int x.length u) { s with toks:=tk }):wpAny (model prog w) A (call (.builtin "reversed.__length_hint__") [.ref it]) Q E s:=by
 obtain⟨o,b,hc,c⟩:=id a;refine wpAny_call_entry RV.Yr a.typeIs RV.Ah7 ?_ (RV.AfX _);refine zA (wpAny_of_eq U ?_);refine zA (yD b c (x:=.str x t) U ?_);refine zA (PySem.P.len_str d ?_);refine zA (zE ?_);refine zA (yD b c (x:=rawInt ((x.length:Int)-1)) U ?_);show wpAny _ _ (if (x.length:Int)<(x.length:Int)-1+1 then _ else retInt ((x.length:Int)-1+1)) _ _ _;rw[if_neg At,show(x.length:Int)-1+1=x.length by omega];refine zA (wpAny_mkInt (zE ⟨_,U,h _ _ ?_⟩));show s.toks<=s.toks+1+1+1;lia
theorem Js{R:Result->Shared->Prop}{I:Addr}{x:Str}{t:Tok}(Q:A.handled=none)(T:x.length<=sizeLine)(S:Addr)(l:S≠I)(n:Value) :
  ∀(k i:Nat)(s:Shared)(acc:Array Value)(c:Nat),x.cps.size-i=k->i<=x.cps.size->s.heap.DQ I x t ((x.cps.size:Int)-1-(i:Int)) ->
  s.heap.get? S=some { cls:=.type "list", dict:=none,data:=.seq acc c,slots:=#[] }->ItemsOf (λi v=>∃ c u,x.cps[x.cps.size-1-i]?=some c/\v=.str ⟨#[c]⟩ u) acc i ->
  (∀ h' tk d L,(∀ b o,b≠S->b≠I->s.heap.get? b=some o->h'.get? b=some o)->(∃ o,h'.get? I=some o)->h'.get? S=some { cls:=.type "list", dict:=none,data:=.seq d L,slots:=#[] } ->
   ItemsOf (λi v=>∃ c u,x.cps[x.cps.size-1-i]?=some c/\v=.str ⟨#[c]⟩ u) d x.cps.size->R (.ok (.ret n)) { s with heap:=h',toks:=tk }) ->
  codeAny (model prog w) A (.builtin "list.extend.loop" ⟨[.ref S,.ref I,n],[]⟩) R s:=by
 have X:=yA;have J:¬(x.length:Int) ≥ 2 ^ 63:=Au
 have hn:x.cps.size<=sizeLine:=T;intro k
 induction k with
 | zero =>
  intro i s acc c hk hi f K a C;have E:i=x.cps.size:=At
  subst E;refine codeAny_builtin F.entry_extend_loop ?_;rw[Around.under_plainId F.plain_extend_loop _];have e:(x.cps.size:Int)-1-(x.cps.size:Int) = -1:=Au
  rw[e] at f;refine zA (JT (by exact Q) f λh' z G=>?_);exact zE (C h' s.toks acc c (λb o _ O q=>z b o O q) G (z S _ l K) a)
 | succ k P =>
  intro i s acc c hk hi f K a C;have M:i<x.cps.size:=Au
  refine codeAny_builtin F.entry_extend_loop ?_;have e:(x.cps.size:Int)-1-(i:Int)=((x.cps.size-1-i:Nat):Int):=Au
  rw[e] at f;have N:x.cps[x.cps.size-1-i]?=some (x.cps[x.cps.size-1-i]' At):=zP At;refine zA (IV f N J λh' u tk h p=>?_);have W:((x.cps.size-1-i:Nat):Int)-1=(x.cps.size:Int)-1-((i+1:Nat):Int):=Au
  rw[W] at h;have y:=(p.2 S l).trans K;refine zA ?_;refine wpAny_updateSeq y U (zE ⟨plainId_quiet F.plain_extend_loop _,P (i+1) _ (acc.push _) _ Au M (h.at λo q=>(zH _ _ l).trans q) (zR _ y U) (a.push ⟨_,u,N,U⟩) λh2 D d L kp B H j=>?_⟩)
   (by rw[a.1];lia) (by rw[Array.size_push,a.1];lia);exact C h2 D d L (λb o m r q=>kp b o m r ((zH _ _ (Ne.symm m)).trans ((p.2 b r).trans q))) B H j
theorem Aey{I:Addr}{x:Str}{t:Tok}{Q:NW->Shared->Prop}(N:A.handled=none)(L:x.length<=sizeLine)(G:s.heap.DQ I x t ((x.length:Int)-1))
  (X:∀ h' tk acc,(∀ b o,b≠I->s.heap.get? b=some o->h'.get? b=some o)->(∃ o,h'.get? I=some o)->ItemsOf (λi v=>∃ c u,x.cps[x.cps.size-1-i]?=some c/\v=.str ⟨#[c]⟩ u) acc x.cps.size->Q acc.toList { s with heap:=h',toks:=tk }) :
  wpAny (model prog w) A (collect (.ref I)) Q E s:=by
 have hl:=yA;have K:¬(x.length:Int) ≥ 2 ^ 63:=Au
 have W:=(Walks.Aex (prog:=prog) (w:=w) (A:=A.in1) N I x t K).toS;have R:(λ(i:Nat)(s:Shared)=>i<=x.cps.size/\s.heap.DQ I x t ((x.cps.size:Int)-1-(i:Int))) 0 s:=⟨AvV _,by
  have e:(x.cps.size:Int)-1-((0:Nat):Int)=(x.length:Int)-1:=by show(x.cps.size:Int)-1-((0:Nat):Int)=(x.cps.size:Int)-1;lia
  rw[e];exact G⟩
 have T:I<s.heap.objs.size:=by
  obtain⟨o,Y,_⟩:=G;exact Heap.lt_size Y
 have P:s.heap.objs.size∉[I]:=λhm=>by
  have:= zF.mp hm;rw[this] at T;exact Aww _ T
 have n:s.heap.objs.size≠I:=λe=>P (by rw[e];simp);refine zA (wpAny_runValue (codeAny_builtin F.entry_proto_collect ?_));refine zA (yI ?_);refine zE ⟨plainId_quiet F.plain_list_iadd _,codeAny_builtin F.entry_list_iadd ?_⟩;have d:(s.heap.push { cls:=.type "list", data:=.seq ([]:NW).toArray }).DQ I x t ((x.length:Int)-1):=G.at λo e=>zB _ e;have m:=W.frame 0 s (s.heap.push { cls:=.type "list", data:=.seq ([]:NW).toArray }) s.toks R (AvN _) λb _ o e=>zB _ e;have a:(s.heap.push { cls:=.type "list", data:=.seq ([]:NW).toArray }).get? s.heap.objs.size=some { cls:=.type "list", data:=.seq ([]:NW).toArray }:=zD _ U;have h1:Builtin.List.listSameRef (.ref s.heap.objs.size) (.ref I)=false:=by simp[Builtin.List.listSameRef,n]
 have l:({ s with heap:=s.heap.push { cls:=.type "list", data:=.seq ([]:NW).toArray } }:Shared).TypeIs (.ref I) "reversed" := Heap.DQ.typeIs d;show wpAny _ A.in1 (Builtin.List.listExtendWith (.ref s.heap.objs.size) (.ref I) (.ref s.heap.objs.size)) _ _ _;refine zA (wpAny_typeOf l ?_);rw[if_neg (by rw[h1];decide)];refine zA (W.self 0 _ _ _ m ?_);refine zA (yB ?_);refine zA (wpAny_specialOf l RV.Aq4 ?_);refine zA (wpAny_specialOf l RV.hint ?_);refine zA (wpAny_isInstance (b:=true) l AC ?_);refine zA (wpAny_rule ?_);refine zA (wpAny_of_eq (RV.Yr.bind _) ?_);refine zA (wpAny_attempt (R6 K d λu tk a0=>?_));have S:∃ k:Int,k=(x.length:Int):=⟨_,U⟩;obtain⟨k,hk⟩:=S;rw[<- hk];refine zA (zE ?_)
 try dsimp only
 have f1:Builtin.List.listFitsIndex k=true:=by
  unfold Builtin.List.listFitsIndex;simp;lia
 have Z:Builtin.List.listTooLong k.toNat=false:=by
  exact zJ Au
 rw[if_neg (by rw[f1];decide),if_neg At,if_neg (by rw[Z];decide)];refine zE ?_;have J:(x.cps.size:Int)-1-((0:Nat):Int)=(x.length:Int)-1:=by show(x.cps.size:Int)-1-((0:Nat):Int)=(x.cps.size:Int)-1;lia
 have M:∀ b o,s.heap.get? b=some o->(s.heap.push { cls:=.type "list", data:=.seq ([]:NW).toArray }).get? b=some o:=λb o e=>zB _ e;have r:∀ b o,s.heap.get? b=some o->b≠s.heap.objs.size:=λb o e=>AvY (Heap.lt_size e);by_cases h0:x.length=0
 ·have O:(k != 0)=false:=by rw[hk,h0];rfl
  rw[O];have D:(s.heap.push { cls:=.type "list", data:=.seq ([]:NW).toArray }).DQ I x t ((x.cps.size:Int)-1-((0:Nat):Int)):=by rw[J];exact d
  refine zE ⟨plainId_quiet F.plain_extend_loop _,?_⟩;refine Js N L _ n _ _ 0 { s with heap:=s.heap.push { cls:=.type "list", data:=.seq ([]:NW).toArray },toks:=tk } #[] _ rfl (AvV _) D a (ItemsOf.nil _) λh' p f c' kp y B h=>?_;refine zA (wpAny_load B ?_);exact zE (X h' p f (λb o z q=>kp b o (r b o q) z (M b o q)) y h)
 ·have O:(k != 0)=true:=by simp;lia
  rw[O];refine zA (wpAny_rule ?_);refine zA ?_;refine zA (wpAny_updateSeq a U ?_);have j:=zR (Obj.mapSeq (·.push Value.none)) a U;refine wpAny_updateSeq j U ?_;have C:=zR (Obj.mapSeq (·.pop)) j U;have H:∀ b o,b≠s.heap.objs.size->(s.heap.push { cls:=.type "list", data:=.seq ([]:NW).toArray }).get? b=some o ->
    (((s.heap.push { cls:=.type "list", data:=.seq ([]:NW).toArray }).update s.heap.objs.size (Obj.mapSeq (·.push Value.none))).update s.heap.objs.size (Obj.mapSeq (·.pop))).get? b=some o :=
   λb o L e=>(zH _ _ (Ne.symm L)).trans ((zH _ _ (Ne.symm L)).trans e);have D:(((s.heap.push { cls:=.type "list", data:=.seq ([]:NW).toArray }).update s.heap.objs.size (Obj.mapSeq (·.push Value.none))).update s.heap.objs.size (Obj.mapSeq (·.pop))).DQ I x t ((x.cps.size:Int)-1-((0:Nat):Int)):=by
   rw[J];exact d.at λo q=>H I o (Ne.symm n) q
  refine zE ⟨plainId_quiet F.plain_extend_loop _,?_⟩;refine Js N L _ n _ _ 0
   { s with heap:=((s.heap.push { cls:=.type "list", data:=.seq ([]:NW).toArray }).update s.heap.objs.size (Obj.mapSeq (·.push Value.none))).update s.heap.objs.size (Obj.mapSeq (·.pop)),toks:=tk } #[] _ rfl (AvV _) D C (ItemsOf.nil _) λh' p f c' kp y B h=>?_;refine zA (wpAny_load B ?_);exact zE (X h' p f (λb o z q=>kp b o (r b o q) z (H b o (r b o q) (M b o q))) y h)
theorem Akg{I:Addr}{sep x:Str}{t u:Tok}{Q:NR}(L:A.handled=none)(O:x.length<=1000)(N:sep.length<=16)(i:s.heap.DQ I x t ((x.length:Int)-1))
  (h:∀ h' t' k,(∀ b o,b≠I->s.heap.get? b=some o->h'.get? b=some o)->(∃ o,h'.get? I=some o)->Q (.str (Txt.join sep (x.cps.toList.reverse.map λc=>⟨#[c]⟩)) t') { s with heap:=h',toks:=k }) :
  wpAny (model prog w) A (call (.builtin "str.join") [.str sep u,.ref I]) Q E s:=by
 have X:=yA;refine wpAny_call (codeAny_call_builtin zS.plain F.entry_str_join (zS.check _ _ _ _ _ _ _ _ (typeIs_str _ _ _) (F.args_str_join_2 _ _) ?_));rw[join_tree_other];refine zA (wpAny_typeOf i.typeIs ?_);refine zA (wpAny_tryCatch (J8 i ?_));refine zA (Aey (by exact L) Au i λh' M acc K B d=>?_);obtain⟨l,n⟩:=exists_strValues acc.toList λv S=>by
  obtain⟨j,y,rfl⟩:=Array.mem_iff_getElem.mp (Array.mem_toList_iff.mp S);obtain⟨c,u,_,e⟩:=d.2 j _ (zP y);exact⟨_,u,e⟩
 rw[<- n];have m:l.map (·.1)=x.cps.toList.reverse.map λc=>(⟨#[c]⟩:Str):=by
  have J:l.length=x.cps.size:=by
   have:= congrArg List.length n;simp only [strValues,AvK,zK,d.1] at this;exact this
  apply AwV;intro j;rw[AvS,AvS];by_cases y:j<x.cps.size
  ·have z:j<acc.size:=by rw[d.1];exact y
   obtain⟨c,u,D,W⟩:=d.2 j _ (zP z);have g:(strValues l)[j]?=some (.str ⟨#[c]⟩ u):=by
    simp_all
   have g2:l[j]?=some (⟨#[c]⟩,u):=by
    unfold strValues at g;rw[AvS] at g;cases C:l[j]? with
    | none=>simp_all
    | some p =>
     rw[C] at g;obtain⟨p1,p2⟩:=p;have g':Value.str p1 p2=Value.str ⟨#[c]⟩ u:=Option.some.inj g;injection g' with a b;rw[a,b]
   rw[g2,Axg (by simpa using y)];simp only [zK,zO,D];rfl
  ·grind
 have H:JoinOk sep (l.map (·.1))=true:=by
  rw[m];unfold JoinOk;rw[StrLaws.joinTotal];have D:((x.cps.toList.reverse.map λc=>(⟨#[c]⟩:Str)).map (·.length)).sum=x.cps.size:=by
   have:∀(l:NI),((l.map λc=>(⟨#[c]⟩:Str)).map (·.length)).sum=l.length:=by
    intro l
    induction l with
    | nil=>rfl
    | cons a r R=>simp only [AvU,Aw7,AvQ,R];show 1+_=_;lia
   rw[this];simp
  rw[D];simp only [AvK,Awr,zK];have P:x.cps.size<=1000:=O;have K:=Nat.mul_le_mul P N;unfold tooLong;rw[zJ At];rfl
 have f:=H;unfold JoinOk at f;rw[Bool.not_eq_true'] at f;have g:Gives (joinTail sep (strValues l)) (joinMade sep l):=by
  have G:=gives_joinTail sep l f;cases l with
  | nil=>exact G
  | cons p r=>cases r with
   | nil=>exact G
   | cons q T=>exact G
 refine g prog w A (wants Q E) _ (post_join l ⟨joinFit_length f,λt' k=>?_⟩);rw[m];exact h h' t' k K B
end
end PySem
namespace L2
open PySem PySem.Spec PyProof.Rows
variable {X:Cx}{c:Prop}{A:Around}{B h h2 h':Heap}{b fl tb cd:Value}{H H1 H':Hp}{p a C f ea z i1 i2 it:Addr}{o:HO}{i n k tk t' n1 n2 kx:Nat}{ns:NA}{v u:V}{α κ:Type}{tg e value:Expr}{l:List Env}{tl ta:TE}{es:List Expr}{x qual m q:Str}{apos cpos pos pos' tp:Pos}{T nid nC nD:String}{env:Env}{M:Model}{E E':NR}{s s':Shared}{Q:Unit->Shared->Prop}{P prog:Program}{w:World}{pins:NO}{σ:St}{vs bmB ds us:NW}{mg:Str->NY}{N ps ys:NX}{scope sc:Scope}{fd:FuncData}{sp:Sp}{dvs:Na}{D:List (Str × Str)}{fp1 fp2:NU}{P1 P2:Nat->Value->Prop}{S1 S2:Nat->Heap->Prop}{S:Src}
def Aru (p:Addr)(x:Str):HO:=.ext λh=>∃ t,h.DQ p x t ((x.length:Int)-1)
def Atl (p:Addr):HO:=.ext λh=>∃ o,h.get? p=some o
inductive Ac8 (xs:Na)(H:Hp)(Q:VK):Prop
|mk(z:_)(_:xs=[.str z])(_:z.length<=sizeLine)(_:∀ p,H p=none->Q (.ref p) (upd H p (Aru p z)))
theorem Zr:Hq X (.type "reversed") Ac8:=by
 intro pins s σ H xs us Q I c h;obtain⟨z,rfl,i,q⟩:=h;obtain⟨u,rfl,d⟩:=c.one;obtain⟨t,rfl⟩:=d;have f:sizeLine=16777216:=yA;refine HD At ?_;have a:(s.heap.push (Aex z t ((z.length:Int)-1))).get? s.heap.objs.size=some (Aex z t ((z.length:Int)-1)):=zD _ U;refine⟨.ref s.heap.objs.size,_,I.laid (o:=Aru s.heap.objs.size z) (λb o e=>zB _ e) (AvN _) ?_,U,q _ (I.hok.fresh (AvN _))⟩;exact⟨⟨t,_,a,U,U⟩,⟨_,a⟩,λh1 h2 y k=>by
  obtain⟨t',y⟩:=y;exact⟨t',y.at k⟩⟩
inductive Aez (x:V)(vs:Na)(H:Hp)(Q:VK):Prop
|mk(z:_)(y:_)(p:_)(_:x=.str z)(_:vs=[.ref p])(_:H p=some (Aru p y))(_:z.length<=16)(_:y.length<=1000)(_:Q (.str (Txt.join z (y.cps.toList.reverse.map λc=>⟨#[c]⟩))) (upd H p (Atl p)))
theorem Abg(hc:X.calm=true:=by rfl):MtR X "str.join" Aez:=by
 intro pins s σ H x vs v us Q I i f h;obtain⟨z,y,p,rfl,rfl,d,j,l,q⟩:=h;obtain⟨t,rfl⟩:=i;obtain⟨u,rfl,n⟩:=f.one;cases n;obtain⟨⟨t',c⟩,⟨o,w⟩,_⟩:=I.hok p _ d;refine Akg (I.ok.hd hc) l j c λh' r k kp a=>?_;refine⟨.str _,_,I.write (t':=k) (x:=p) (e:=p) (o:=Atl p) (by rw[d];exact trivial) (.inl U) (λb u m e=>kp b u m e) a ?_,⟨_,U⟩,q⟩;exact⟨a,a,λh1 h2 y k=>by
  obtain⟨o,y⟩:=y;exact⟨o,k o y⟩⟩
theorem Ea{A B:Prop}[Decidable c](h:¬c)(k:B):if decide c=true then A else B:=by rw[zJ h];exact JS k
theorem Gq{A B:Prop}[Decidable c](h:c)(k:A):if decide c=true then A else B:=by rw[zN h];exact Ms k
theorem Abh{A B:Prop}[Decidable c](h:¬c)(k:A):if (!decide c)=true then A else B:=by rw[zJ h];exact Ms k
theorem AuY{b:Bool}{A B:Prop}(h1:b=true->A)(h2:b=false->B):if b=true then A else B:=AB
theorem Cw{A B:Prop}[Decidable c](h1:c->A)(h2:¬c->B):if decide c=true then A else B:=by
 by_cases h:c
 ·exact Gq h (h1 h)
 ·exact Ea h (h2 h)
theorem Ba.upd(h:H p=none):Ba H (L2.upd H p o):=λb o' e=>by rw[Ai (Bc e h)];exact e
theorem Ba.new(e:Ba H H1)(h:H1 p=none):Ba H (L2.upd H1 p o):=e.trans (.upd h)
theorem nu9{G B:Hp}(s:Ba G B)(n:B a=none):∃ N,upd B a o=N/\Ba G N/\N a=some o:=⟨_,U,s.new n,Ae⟩
theorem Ba.over(e:Ba H H1)(h:H p=none):Ba H (L2.upd H1 p o):=λb o' q=>by rw[Ai (Bc q h)];exact e b o' q
theorem Bv:bootBuiltins "len" = some (.builtin "len"):=As
theorem Uq:bootBuiltins "isinstance" = some (.builtin "isinstance"):=As
theorem Arv:bootBuiltins "abs" = some (.builtin "abs"):=As
theorem Arw:bootBuiltins "sum" = some (.builtin "sum"):=As
theorem AlN:bootBuiltins "any" = some (.builtin "any"):=As
theorem Arx:bootBuiltins "all" = some (.builtin "all"):=As
theorem Jt:bootBuiltins "list" = some (.type "list"):=As
theorem Nq:bootBuiltins "str" = some (.type "str"):=As
theorem Ae0:bootBuiltins "int" = some (.type "int"):=As
theorem AlO:bootBuiltins "tuple" = some (.type "tuple"):=As
theorem J9:bootBuiltins "reversed" = some (.type "reversed"):=As
theorem Wc:bootBuiltins "enumerate" = some (.type "enumerate"):=As
theorem Ary:bootBuiltins "zip" = some (.type "zip"):=As
theorem AfY:bootBuiltins "range" = some (.type "range"):=As
structure Df (K:NF)(mg:Str->NY)(x:Str)(st:Stmt)(ps:NX)(f:Addr)(fd:FuncData):Prop where
 F:Fun K x x st f fd
 m:mg x=some (.ref f)
 b:Binds K fd ps []
def vS (cl:NN):Na:=cl.map λt=>V.str (tx t)
def vI (ns:NA):Na:=ns.map V.int
theorem Be(cl:NN):(vS cl).length=cl.length:=by unfold vS;rw[AvK]
theorem Cj(ns:NA):(vI ns).length=ns.length:=by unfold vI;rw[AvK]
theorem Ae1{cl:NN}{t:NI}(h:cl[i]?=some t):(vS cl)[i]?=some (.str (tx t)):=by unfold vS;rw[AvS,h];rfl
theorem JV{n:Int}(h:ns[i]?=some n):(vI ns)[i]?=some (.int n):=by unfold vI;rw[AvS,h];rfl
theorem HF{cl:NN}(h:(vS cl)[i]?=some v):∃ t,cl[i]?=some t/\v=.str (tx t):=by
 unfold vS at h;rw[AvS] at h;cases e:cl[i]? with
 | none=>simp_all
 | some t=>rw[e] at h;exact⟨t,U,(Option.some.inj h).symm⟩
theorem La(h:(vI ns)[i]?=some v):∃ t,ns[i]?=some t/\v=.int t:=by
 unfold vI at h;rw[AvS] at h;cases e:ns[i]? with
 | none=>simp_all
 | some t=>rw[e] at h;exact⟨t,U,(Option.some.inj h).symm⟩
theorem AiD(ns:NA):(vI ns).all Ry=true:=by unfold vI;rw[List.all_map];exact List.all_eq_true.mpr λ_ _=>rfl
theorem Gr(cl:NN):vS cl=(cl.map tx).map V.str:=by unfold vS;rw[Aw0];rfl
theorem Ah8(ns:NA)(n:Int):vI ns++[.int n]=vI (ns++[n]):=by unfold vI;rw[AvO];rfl
theorem Dv(cl:NN)(t:NI):vS cl++[.str (tx t)]=vS (cl++[t]):=by unfold vS;rw[AvO];rfl
theorem BL{xs:List α}{i:Int}{v:α}(a:0<=i)(h:xs[i.toNat]?=some v):atI xs i=some v:=by
 have e:i=(i.toNat:Int):=Au
 rw[e];exact Ai8 h
section
variable {K:NF}
theorem Bf(a:X.K=K:=by rfl):IxR X (AsW K):=by subst a;exact AoL
theorem Gi(a:X.K=K:=by rfl):IxR X (AsX K):=by subst a;exact Arn
theorem Abi(a:X.K=K:=by rfl):OpR X (compareOp .In) (rIn K false):=by subst a;exact AjU
theorem Ac9(a:X.K=K:=by rfl):OpR X (compareOp .NotIn) (rIn K true):=by subst a;exact Aep
theorem Ax(a:X.K=K:=by rfl):Hq X (.builtin "len") (R3 K):=by subst a;exact Aeq
theorem Hf(a:X.K=K:=by rfl):Hq X (.type "list") (R4 K):=by subst a;exact Aer
theorem Ad4(a:X.K=K:=by rfl):Hq X (.builtin "isinstance") (Atj K):=by subst a;exact AlM
theorem DR(a:X.K=K:=by rfl):MtR X "str.join" (rJoin K):=by subst a;exact AoT
theorem Abj(a:X.K=K:=by rfl):SlR X (AsZ K):=by subst a;exact AoM
theorem BP{l:Expr}(b:PE X l tl)(a:X.K=K:=by rfl):PI X tg l (Al1 K tl):=by subst a;exact Ao4 b
theorem Akh{a:Expr}(b:PE X a ta)(d:∀ whole,isTrue a X.env whole=(do let v <- whole;standAt a.pos;holding [v] (truthy v)))(c:X.K=K:=by rfl) :
  PT X a (λσ H Q=>ta σ H λx H'=>∃ k,Arb K x H' k/\Q k H'):=by subst c;exact Al6 b d
variable {o:Expr}{to:TE}{t:TA}{name:Str}{id:String}{r:V->Na->Hp->VK->Prop}
theorem BR(l:PlainAttrs T)(f:Slot T name id)(h:typeOf (.builtin id)=pure (.type "method_descriptor")) (n:MtR X id r) (j:PE X o to) (i:PA X (e::es) t)
  (c:attributeBase o name X.env (eval o X.env)=eval o X.env:=by rfl)
  (d:((backTo cpos (starEach (e::es) X.env)).all (λx=>!x.1) && (backToKw cpos (keywordEach [] X.env)).all (λx=>x.1.isSome)
   && decide ((e::es).length+([]:List Keyword).length+(if ([]:List Keyword).isEmpty then 0 else 1)<30))=true:=by rfl)
  (b:(apos.endLine == cpos.line)=true:=by rfl) (m:starEach (e::es) X.env=(false,eval e X.env)::starEach es X.env:=by rfl) (a:(backTo cpos (starEach es X.env)).any (·.1)=false:=by rfl) (k:X.K=K:=by rfl) :
  PE X (.Call (.Attribute o name apos) (e::es) [] cpos) (tBM K T r to t):=by
 subst k;exact Atc l f h n j i c d b m a
end
abbrev exO (C t:Addr)(tb:Value):Obj:={ cls:=.ref C,data:=.fields #[.ref t,tb,.none,.none,.bool false,.none] }
structure Fx (B:Heap)(l:List Env)(e C t:Addr)(fl:Value)(h:Heap):Prop where
 st:B.StaysIn h
 ne:B.get? e=none
 fr:h.FunFrames B l
 ob:∃(T:Addr)(oT:Obj)(ts:Array Value),h.get? e=some (exO C t (.ref T))/\B.get? T=none/\T≠e/\h.get? T=some oT/\oT.data=.fields ts/\ts[3]?=some fl
theorem Fx.outer{e t:Addr}(x:Fx B (env::l) e C t fl h):Fx B l e C t fl h:=⟨x.st,x.ne,x.fr.2.2,x.ob⟩
section
variable {e t L:Addr}
theorem Ae2(x:Fx B l e C t fl s.heap)(k:∀ h',Fx B l e C t .none h'->s.heap.UpToSlots h'->Q () { s with heap:=h' }):wpAny M A (setFlight (.ref e) none) Q E s:=by
 obtain⟨st,r,fr,T,v,ts,p,j,h,n,c,u⟩:=x;have m:3<ts.size:=(Array.getElem?_eq_some_iff.mp u).1;unfold setFlight;refine zA (yD p U (x:=.ref T) U ?_);rw[if_pos (show(Value.ref T != Value.none)=true by simp)];refine yC n c m (k _ ?_ ?_)
 all_goals
  have d:∀ b,b≠T->(s.heap.update T (Obj.mapFields (·.setIfInBounds 3 ((none:Option Addr).elim Value.none λf=>rawInt f)))).get? b=s.heap.get? b:=λb a=>zH _ _ (Ne.symm a);have i:∀ b o,s.heap.get? b=some o->(∀ vs,o.data≠.fields vs)->b≠T:=λb o a hn q=>by
   rw[q,n] at a;cases a;exact hn ts c
 ·refine⟨λb o a=>(d b λq=>by rw[q,j] at a;cases a).trans (st b o a),r,fr.of_keeps λb o a hn=>⟨o,(d b (i b o a hn)).trans a,U⟩,T,_,_,(d e (Ne.symm h)).trans p,j,h,
   zR _ n (Obj.isFreed_of_fields (zX c _)),zX c _,?_⟩;simp[m]
 ·exact λb o a hn=>⟨o.slots,(d b (i b o a hn)).trans a⟩
theorem AfZ{r:Bool}(hfr:A.frames=some (env::l))(D:env.frame=some L)(st:B.StaysIn s.heap)(w:B.get? e=none)(fr:s.heap.FunFrames B (env::l))
  (n:s.heap.get? e=some (exO C t tb)) (k:∀ h',Fx B (env::l) e C t (rawInt L) h'->s.heap.UpToSlots h'->Q () { s with heap:=h' }) :
  wpAny M A (do let a <- frameOf env;let pl <- entryPlaceOf L r;let b <- EntryCells.newEntry tb a .none (rawInt L) .none pl;setField (.ref e) 1 b) Q E s:=by
 have F:e∉(env::l).filterMap (·.frame):=λm=>by
  obtain⟨_,o,y,hn⟩:=fr.mem m;rw[n] at y;cases y;exact hn _ U
 refine zA (wpAny_frameOf_fun hfr fr D λh1 j=>zA (wpAny_entryPlaceOf λpl p=>?_));unfold EntryCells.newEntry newFields;refine zA (yI ?_ (p.sizeOk5 _ _ _ _ _));have z:h1.get? e=some (exO C t tb):=(j.2.1 e F).trans n;have i:B.StaysIn h1:=λb o c=>(j.2.1 b λm=>by rw[(fr.mem m).1] at c;cases c).trans (st b o c);have TE:h1.objs.size≠e:=Aw6 (Heap.lt_size z);generalize x:({ cls:=.type "traceback", dict:=none,data:=.fields ([tb,.ref L,.none,rawInt L,.none]++(if pl.isEmpty then List.replicate 6 Value.none else pl)).toArray }:Obj)=f;have v:(h1.push f).get? e=some (exO C t tb):=zB f z;refine yC (s:={ s with heap:=h1.push f }) v rfl (by show 1<6;decide) (k _ ?_ ?_)
 all_goals
  have kp:∀ b o,b≠e->h1.get? b=some o->((h1.push f).update e (Obj.mapFields (·.setIfInBounds 1 (Value.ref h1.objs.size)))).get? b=some o:=λb o c q =>
   (zH _ _ (Ne.symm c)).trans (zB f q);have h:∀ b o,s.heap.get? b=some o->(∀ vs,o.data≠.fields vs)->b≠e:=λb o c hn q=>by
   rw[q,n] at c;cases c;exact hn _ U
 ·have d:f.isFreed=false:=by rw[<- x];rfl
  refine⟨λb o c=>kp b o (λq=>by rw[q,w] at c;cases c) (i b o c),w,fr.of_keeps λb o c hn=>?_,h1.objs.size,f,_,zR _ v U,i.fresh,TE,
   (zH _ _ (Ne.symm TE)).trans (zD h1 d),by rw[<- x],AA⟩;obtain⟨u,q⟩:=j.2.2 b o c;exact⟨_,kp b _ (h b o c hn) q,U⟩
 ·intro b o c hn;obtain⟨u,q⟩:=j.2.2 b o c;exact⟨u,kp b _ (h b o c hn) q⟩
theorem AlP(hfr:A.frames=some (env::l))(a:env.frame=some L)(st:B.StaysIn s.heap)(c:B.get? e=none)(fr:s.heap.FunFrames B (env::l))
  (b:s.heap.get? e=some (exO C t .none)) (k:∀ h',Fx B (env::l) e C t (rawInt L) h'->s.heap.UpToSlots h'->Q () { s with heap:=h' }):wpAny M A (noteFrame (.ref e) env) Q E s:=by
 unfold noteFrame;simp only [a];refine zA (yD b U (x:=.none) U ?_);rw[if_neg Ap];exact AfZ hfr a st c fr b k
theorem AoV(hfr:A.frames=some (env::l))(m:env.frame=some L)(x:Fx B (env::l) e C t .none s.heap)
  (k:∀ h',Fx B (env::l) e C t (rawInt L) h'->s.heap.UpToSlots h'->Q () { s with heap:=h' }):wpAny M A (noteFrame (.ref e) env) Q E s:=by
 obtain⟨st,r,fr,T,v,ts,p,i,h,j,d,n⟩:=x;unfold noteFrame;simp only [m];refine zA (yD p U (x:=.ref T) U ?_);rw[if_pos (show(Value.ref T != Value.none)=true by simp)];refine zA (yD j d n ?_);rw[if_neg (show ¬((Value.none == rawInt L)=true) by simp[rawInt])];refine zA (yC j d (Array.getElem?_eq_some_iff.mp n).1 ?_);have c:∀ b,b≠T->(s.heap.update T (Obj.mapFields (·.setIfInBounds 3 Value.none))).get? b=s.heap.get? b:=λb a=>zH _ _ (Ne.symm a);have f:∀ b o,s.heap.get? b=some o->(∀ vs,o.data≠.fields vs)->b≠T:=λb o a hn q=>by
  rw[q,j] at a;cases a;exact hn ts d
 exact AfZ (s:={ s with heap:=s.heap.update T (Obj.mapFields (·.setIfInBounds 3 Value.none)) }) hfr m (λb o a=>(c b λq=>by rw[q,i] at a;cases a).trans (st b o a)) r
  (fr.of_keeps λb o a hn=>⟨o,(c b (f b o a hn)).trans a,U⟩) ((c e (Ne.symm h)).trans p)
  λh' y u=>k h' y λb o a hn=>u b o ((c b (f b o a hn)).trans a) hn
theorem Ad5{f:Option Addr}(x:Fx B l e C t fl s.heap)(k:∀ h',Fx B l e C t (f.elim Value.none λf=>rawInt f) h'->s.heap.UpToSlots h'->Q () { s with heap:=h' }):wpAny M A (setFlight (.ref e) f) Q E s:=by
 obtain⟨st,r,fr,T,v,ts,p,j,h,n,c,u⟩:=x;have m:3<ts.size:=(Array.getElem?_eq_some_iff.mp u).1;unfold setFlight;refine zA (yD p U (x:=.ref T) U ?_);rw[if_pos (show(Value.ref T != Value.none)=true by simp)];refine yC n c m (k _ ?_ ?_)
 all_goals
  have d:∀ b,b≠T->(s.heap.update T (Obj.mapFields (·.setIfInBounds 3 (f.elim Value.none λf=>rawInt f)))).get? b=s.heap.get? b:=λb a=>zH _ _ (Ne.symm a);have i:∀ b o,s.heap.get? b=some o->(∀ vs,o.data≠.fields vs)->b≠T:=λb o a hn q=>by
   rw[q,n] at a;cases a;exact hn ts c
 ·refine⟨λb o a=>(d b λq=>by rw[q,j] at a;cases a).trans (st b o a),r,fr.of_keeps λb o a hn=>⟨o,(d b (i b o a hn)).trans a,U⟩,T,_,_,(d e (Ne.symm h)).trans p,j,h,
   zR _ n (Obj.isFreed_of_fields (zX c _)),zX c _,?_⟩;simp[m]
 ·exact λb o a hn=>⟨o.slots,(d b (i b o a hn)).trans a⟩
theorem AlQ(b:env.frame=some L)(x:Fx B l e C t (rawInt L) s.heap)(k:Q () s):wpAny M A (noteFrame (.ref e) env) Q E s:=by obtain⟨st,j,fr,T,m,ts,i,c,d,f,a,h⟩:=x;unfold noteFrame;simp only [b];refine zA (yD i U (x:=.ref T) U ?_);rw[if_pos (show(Value.ref T != Value.none)=true by simp)];refine zA (yD f a h ?_);rw[if_pos (show((rawInt L == rawInt L)=true) by simp)];exact zE k
end
structure Bk (P:Program)(w:World)(outer:List Env)(H:Hp)(h:Heap)(H':Hp)(B h':Heap):Prop where
 ok:HOk P w H' B
 keep:∀ b o,h.get? b=some o->H b=none->b∉frs outer->B.get? b=some o
 slot:∀ b o,h.get? b=some o->b∈frs outer->∃ sl,h'.get? b=some { o with slots:=sl }
 free:∀ b o,h.get? b=some o->H b=none->H' b=none
 there:∀ b o,h.get? b=some o->b∉frs outer->∃ o',B.get? b=some o'
 tups:∀ b xs,H b=some (.tup xs)->H' b=some (.tup xs)
 Iw:∀ b o u,H b=some (.frz o u)->H' b=some (.frz o u)
 JP:∀ b ps,H b=some (.tbl ps)->∃ more,H' b=some (.tbl (ps++more))
theorem Bk.slots{outer:List Env}{h1:Heap}(k:Bk P w outer H h H' B h1)(fr:h1.FunFrames B outer)(u:h1.UpToSlots h2):Bk P w outer H h H' B h2 :=
 ⟨k.ok,k.keep,λb o q d=>by
  obtain⟨i,e⟩:=k.slot b o q d;obtain⟨_,o2,c,n2⟩:=fr.mem d;rw[e] at c;cases c;obtain⟨a,f⟩:=u b _ e n2;exact⟨a,f⟩,k.free,k.there,k.tups,k.Iw,k.JP⟩
def CX1 (P:Program)(w:World):CXT:=λouter H s E e s'=>∃ ea C t H' B,e=.ref ea/\Fx B outer ea C t .none s'.heap/\s'.os=s.os/\AllBare s'.gens/\Bk P w outer H s.heap H' B s'.heap/\E (.ref C) none H'
inductive Fly (B:Heap) (l:List Env) (L ea C t:Addr) (h:Heap):Prop where
 | new (st:B.StaysIn h) (ne:B.get? ea=none) (fr:h.FunFrames B l) (ob:h.get? ea=some (exO C t .none))
 | came (x:Fx B l ea C t .none h)
 | seen (x:Fx B l ea C t (rawInt L) h)
theorem Fly.fr{B:Heap}{l:List Env}{L ea C t:Addr}{h:Heap}(x:Fly B l L ea C t h):h.FunFrames B l:=by
 cases x with
 | new st b fr a=>exact fr
 | came x=>exact x.fr
 | seen x=>exact x.fr
def FlX (X:Cx)(E:XK):Value->Shared->Prop:=λe s'=>∃ ea C t H' B,e=.ref ea/\Fly B X.stack X.env.locals ea C t s'.heap/\s'.os=X.s₀.os/\AllBare s'.gens/\Bk X.prog X.w X.outer X.H₀ X.s₀.heap H' B s'.heap/\E (.ref C) none H'
structure Body (X:Cx):Prop where
 stack:X.stack=X.env::X.outer
 frame:X.env.frame=some X.env.locals
 ex:X.ex=[]
section
variable {E:XK}{e:Value}
theorem Inv.Aki(I:Inv X pins σ H s){b:Addr}{o:Obj}(q:X.s₀.heap.get? b=some o)(c:b∉X.fs):b∉frs X.stack:=λa=>by
 rcases yG.mp (I.Aek b a) with z | z
 ·rw[z] at q;exact absurd (Awd (Heap.lt_size q) I.ok.above) (Aww _)
 ·exact c z
theorem Atm(hB:Body X)(I:Inv X pins σ H s)(c:CX1 X.prog X.w X.stack H s E e s'):FlX X E e s':=by
 obtain⟨ea,C,t,H',B,rfl,p,os,h,bk,q⟩:=c;have f:∀ b:Addr,b∉X.ex:=λb z=>by rw[hB.ex] at z;exact nomatch z
 have i:∀ b,b∈X.fs->b∈frs X.stack:=λb a=>by
  rw[hB.stack];unfold frs;rw[Aw9,hB.frame];exact AvR _ a
 refine⟨ea,C,t,H',B,U,.came p,os.trans I.os,h,⟨bk.ok,λb o e n a=>?_,λb o e a=>?_,λb o e n=>?_,λb o e a=>?_,λb xs e=>bk.tups b xs (I.base.tups b xs e),λb o u e=>bk.Iw b o u (I.base.Iw b o u e),λb ps e=>?_⟩,q⟩
 ·exact bk.keep b o (I.base.keep b o e n a (f b)) (I.base.free b o e n (f b)) (I.Aki e a)
 ·obtain⟨r,d⟩:=I.base.slot b o e (I.ok.frf b a) a (f b);obtain⟨k,j⟩:=bk.slot b _ d (i b a);exact⟨k,j⟩
 ·obtain⟨o',d⟩:=I.base.there b o e (f b);exact bk.free b o' d (I.base.free b o e n (f b))
 ·obtain⟨o',d⟩:=I.base.there b o e (f b);exact bk.there b o' d (I.Aki e a)
 ·obtain⟨m,d⟩:=I.base.JP b ps e;obtain⟨l,j⟩:=bk.JP b _ d;exact⟨m++l,by rw[j,Array.append_assoc]⟩
theorem Atn(hB:Body X)(I:Inv X pins σ H s)(h:Heap.MadeExcOf s.heap h' ea (.ref C) vs)(q:E (.ref C) none H):FlX X E (.ref ea) { s with heap:=h' }:=by
 obtain⟨t,r,_,_⟩:=h.there;have i:∀ b:Addr,b∉X.ex:=λb z=>by rw[hB.ex] at z;exact nomatch z
 have f:∀ b u,H b=some u->b∉frs X.stack:=λb u e p=>by rw[I.AaB b p] at e;cases e
 refine⟨ea,C,t,H,W.hideAll s.heap (frs X.stack),U,.new (λb o e=>h.keeps b o (W.of_hideAll _ e)) ?_ ?_ r,I.os,I.bare,⟨λb u e=>?_,λb o e n d=>?_,λb o e d=>?_,λb o e n=>I.base.free b o e n (i b),λb o e d=>?_,I.base.tups,I.base.Iw,I.base.JP⟩,q⟩
 ·cases z:(W.hideAll s.heap (frs X.stack)).get? ea with
  | none=>rfl
  | some o =>
   have:=W.of_hideAll _ z;rw[h.new] at this;cases this
 ·exact(W.funFrames_hide I.stack λenv m a k=>List.mem_filterMap.mpr ⟨env,m,k⟩).of_keeps λb o d _=>⟨o,h.keeps b o d,U⟩
 ·refine(I.hok b u e).stay (λc v hc z=>W.hideAll_get _ z ?_) (λ_ z=>z) λ_ _ z=>z;rcases hc with z | z
  ·rw[z];exact f b u e
  ·exact f c _ z
 ·exact W.hideAll_get _ (I.base.keep b o e n d (i b)) (I.Aki e d)
 ·obtain⟨l,j⟩:=I.base.slot b o e (I.ok.frf b d) d (i b);exact⟨l,h.keeps _ _ j⟩
 ·obtain⟨o',j⟩:=I.base.there b o e (i b);exact⟨o',W.hideAll_get _ j (I.Aki e d)⟩
theorem AiE{t:Addr}(hB:Body X)(hfr:X.A.frames=some X.stack)(x:Fly B X.stack X.env.locals ea C t s.heap)
  (k:∀ h',Fx B X.stack ea C t (rawInt X.env.locals) h'->s.heap.UpToSlots h'->Q () { s with heap:=h' }):wpAny M X.A (noteFrame (.ref ea) X.env) Q E' s:=by
 rw[hB.stack] at x hfr k;cases x with
 | new st b fr a=>exact AlP hfr hB.frame st b fr a k
 | came x=>exact AoV hfr hB.frame x k
 | seen x=>exact AlQ hB.frame x (k s.heap x (.refl _))
theorem AaE(hB:Body X)(x:h.FunFrames B X.stack):h.FunFrames B X.outer:=by rw[hB.stack] at x;exact x.2.2
theorem leaveX(hB:Body X)(hfr:X.A.frames=some X.stack)(c:FlX X E e s):wpAny M X.A (leaving X.env e) (λ_ b=>CX1 X.prog X.w X.outer X.H₀ X.s₀ E e b) E' s:=by obtain⟨ea,C,t,H',B,rfl,d,os,a,bk,q⟩:=c;unfold leaving;refine zA (AiE hB hfr d λh1 i k=>Ae2 (s:={ s with heap:=h1 }) i λh2 h j=>?_);have f:=h;rw[hB.stack] at f;exact⟨ea,C,t,H',B,U,f.outer,os,a,bk.slots (AaE hB d.fr) (k.trans j),q⟩
theorem Ae3(hB:Body X)(hfr:X.A.frames=some X.stack):PassesOwn (model X.prog X.w) X.A X.env (FlX X E):=by rintro e s ⟨ea,C,t,H',B,rfl,d,os,a,bk,q⟩;unfold notedBy;refine AiE hB hfr d λh1 c j=>?_;obtain⟨T,k,ts,h,_⟩:=c.ob;unfold cameBackBy;refine zA (yD (s:={ s with heap:=h1 }) h rfl (x:=.ref T) rfl ?_);rw[if_neg AA];refine Ad5 (s:={ s with heap:=h1 }) (f:=X.env.frame) c λh2 b i=>?_;rw[hB.frame] at b;exact⟨ea,C,t,H',B,U,.seen b,os,a,bk.slots (AaE hB d.fr) (j.trans i),q⟩
end
def Ae4 (K:NF)(C:Addr):NW:=match K.lookup C with
 | some ⟨_,_,.cls cd,_⟩=>cd.mro
 | _=>[]
theorem Ae5{K:NF}(X:K.In h)(q:W.excIn K C bmB nid=true) :
  ∃ d N nm l bs hdct sn sub ab col dd k0 k1 k2 k3 k5 mN,Ae4 K C=.ref C::d/\h.get? C=some (excClassObj nm l C N bs d hdct sn sub ab col dd k0 k1 k2 k3 k5 nid)/\h.Ns N mN/\mN "__init__" = none/\OwnTail h bmB d:=by
 unfold W.excIn at q;split at q
 next dd cd sl ho =>
  split at q
  next C' d k0 k1 k2 k3 n k5 hm hs =>
   have f:Ae4 K C=cd.mro:=by unfold Ae4;rw[ho]
   simp only [AwG,beq_iff_eq,Bool.not_eq_true'] at q;obtain⟨⟨⟨⟨⟨i,k⟩,a⟩,j⟩,b⟩,c⟩:=q;subst i k;have e:sl=#[k0,k1,k2,k3,some (.builtin n),k5]:=by rw[<- hs]
   rw[hm] at f;cases cd;dsimp only at hm a b c;subst hm a e;exact⟨d,_,_,_,_,_,_,_,_,_,dd,k0,k1,k2,k3,k5,_,f,X _ _ ho,.of_isNs (W.isNs_of_in X b),W.nsMap_none_of_in X b c,W.tail_of_in X j⟩
  next=>cases q
 next=>cases q
inductive AlR (C:Addr)(E:XK)(vs:Na)(H1:Hp):Prop
|mk(_:vs.length<=sizeLine)(_:E (.ref C) none H1)
def Arz (C:Addr)(E:XK)(t:TA)(z0:Ends)(σ:St)(H:Hp):Prop:=t σ H (AlR C E)
section
variable {bmN:NW}{B Bn AuZ iid Ava:String}{E:XK}{t:TA}{np:Pos}
theorem Bx(hB:Body X)(hc:X.calm=true)(hw:∀ e s',FlX X E e s'->X.xe e s')(w:ExcBaseFacts Bn nid iid bmN)(hn:bmB.contains (.type Bn)=true)(d:ExcBaseFacts B AuZ Ava bmB)(q:W.excIn X.K C bmB nid=true)(A:Gl X x)(k:X.mg x=some (.ref C))(p:PA X.nox (e::es) t)
  (o:(x == ("__debug__" : Str))=false:=by decide) (f:starEach (e::es) X.env=(false,eval e X.env)::starEach es X.env:=by rfl) (c:(backTo cpos (starEach es X.env)).any (·.1)=false:=by rfl) :
  PS X (.Raise (some (.Call (.Name x np) (e::es) [] cpos)) none pos) (Arz C E t):=by
 intro pins s σ H D I h;obtain⟨F,N,nm,y,bs,hdct,sn,sub,ab,col,dd,k0,k1,k2,k3,k5,mN,_,n,j,b,T⟩:=Ae5 I.ok.mod.kin q;refine wpAny_Raise_call_subU (N:=N) (C:=C) (k5:=k5) (k3:=k3) (k2:=k2) (k1:=k1) (k0:=k0) (dd:=dd) (col:=col) (ab:=ab) (sub:=sub) (sn:=sn) (hdct:=hdct) (bs:=bs) (q:=y) (nm:=nm) (newId:=nid) w hn d (mN:=mN) (T.hasType d.hasBase) (I.ok.hd hc) (by rw[f];show(false || (backTo cpos (starEach es X.env)).any (·.1))=false;rw[c];rfl) b (Tp I A k ⟨U,?_⟩ o);have h1:=p cpos pins s σ H _ (I.wish _) h;rw[f] at h1 ⊢;refine Calls.evalArgs_plain (zT h1 (λus i z=>?_) λ_ _ z=>z.elim);obtain⟨vs,H1,u,r,v,l⟩:=z;have a:Inv X pins σ H1 i:=u.Hv;exact⟨U,by rw[<- r.length];exact v,a.bk _ _ n,j.keeps a.bk,T.keeps a.bk,λh' ea m=>hw _ _ (Atn hB a m l)⟩
end
abbrev cx1 (P:Program)(w:World)(K:NF)(mg:Str->NY)(base:Heap)(N:NX)(qual:Str)(scope:Scope)(f:Addr)(cd:Value)(A:Around)(outer:List Env)(s:Shared)(H:Hp)(E:XK):Cx :=
 (Aem (CX1 P w) P w K mg base N qual scope f cd A outer s H E).wish (FlX (Aem (CX1 P w) P w K mg base N qual scope f cd A outer s H E) E)
section
variable {K:NF}{base:Heap}
theorem CQ{outer:List Env}{E:XK}:Body (cx1 P w K mg base N qual scope f cd A outer s H E):=⟨U,U,U⟩
theorem Fun.okX{st:Stmt}(F:Fun K x qual st f fd)(S:An N ps (Ag st))
  (b:∀(a:Value)(A:Around)(outer:List Env)(s:Shared)(H:Hp)(vs:Na)(Q:VK)(E:XK),Hd k (A.deeper (envOfC qual (Ag st) s.heap.objs.size f a))->sp vs H Q E ->
   ∃ t,PSs (cx1 P w K mg base N qual (Ag st) f a A outer s H E) (Kv st) t/\t { nx:=λ_ H'=>Q .non H',rt:=Q } (start N vs) H) (len:∀ vs H Q E,sp vs H Q E->vs.length=ps.length:=by intro _ _ _ _ h;first | (cases h;subst_vars;rfl) | (obtain⟨_,e,_⟩:=h;subst e;rfl) | (obtain⟨_,_,e,_⟩:=h;subst e;rfl) | (obtain⟨_,_,_,e,_⟩:=h;subst e;rfl) | (obtain⟨_,_,_,_,e,_⟩:=h;subst e;rfl)):Bh P w K mg base (CX1 P w) (k+1) f fd ps sp:=by
 obtain⟨n,r,kV,l,m,o,a,p,j,rfl,lk,c⟩:=F.ex;refine Aq1 lk c S len λA outer s H vs Q E i d=>?_;obtain⟨t,h,q⟩:=b a A outer s H vs Q E i d;refine⟨t,λpins s1 σ H1 D I h1=>?_,q⟩;exact zT (h pins s1 σ H1 D (I.wish _) h1) (λ_ _ z=>z.Hv) λe s' z=>leaveX (X:=Aem (CX1 P w) P w K mg base N qual (Ag st) f a A outer s H E) ⟨U,U,U⟩ I.ok.frames z
theorem Cv{outer:List Env}{E:XK} :
  Passes (CX1 P w) (cx1 P w K mg base N qual scope f cd A outer s H E) E:=λ_ _ _ _ _ _ I c=>Atm ⟨U,U,U⟩ I.Hv c
end
theorem PS.nox{st:Stmt}{t:TS}(h:PS X.nox st t):PS X st t:=λpins s σ H D I hw =>
 zT (h pins s σ H D (I.wish _) hw) (λ_ _ q=>q.Hv) λ_ _ z=>False.elim z
def PEX (X:Cx)(e:Expr)(t:XK->TE):Prop:=∀(pins:NO)(s:Shared)(σ:St)(H:Hp)(Q:VK)(E:XK),Inv X pins σ H s->t E σ H Q ->
 wpAny (model X.prog X.w) X.A (eval e X.env) (EP X pins σ Q) (λex s'=>∃ H1 s1,Inv X pins σ H1 s1/\CX1 X.prog X.w X.stack H1 s1 E ex s') s
section
variable {p:Pos}{o:Expr}{t:TA}
theorem AoW{Q:VK}{E:XK}{vs:Na}(F:Bh X.prog X.w X.K X.mg X.base (CX1 X.prog X.w) k f fd ps sp)(d:Hd k X.A)(c:Binds X.K fd ps ds)(i:Vals dvs ds)
  (I:Inv X pins σ H s) (r:Vals vs us) (h:sp (vs++dvs) H Q E):wpAny (model X.prog X.w) X.A (call (.ref f) us) (EP X pins σ Q) (λex s'=>∃ H1 s1,Inv X pins σ H1 s1/\CX1 X.prog X.w X.stack H1 s1 E ex s') s:=by
 have r2:Vals (vs++dvs) (us++ds):=r.append i;have b:(us++ds).length=ps.length:=(r2.length.symm).trans (F.len _ _ _ _ h);refine wpAny_call (codeAny_mono (F.run X.A X.stack s H ⟨us,[]⟩ (us++ds) (vs++dvs) Q E d I.env0 (c s us I.kIn b) r2 h) λrs s' a=>?_)
 match rs,a with
 | .error e,a=>exact⟨H,s,I,a⟩
 | .ok (.ret u),a=>exact I.after a
 | .ok .next,a=>exact False.elim a
 | .ok .brk,a=>exact False.elim a
 | .ok .cont,a=>exact False.elim a
theorem AlS(F:Bh X.prog X.w X.K X.mg X.base (CX1 X.prog X.w) k f fd ps sp)(n:Hd k X.A)(m:Gl X x)(j:X.mg x=some (.ref f))(hk:W.keepIn X.K (.ref f)=true)(l:Binds X.K fd ps ds)(o:Vals dvs ds)
  (d:PA X.nox (e::es) t) (a:(x == ("__debug__" : Str))=false:=by decide) (i:starEach (e::es) X.env=(false,eval e X.env)::starEach es X.env:=by rfl) (b:(backTo pos (starEach es X.env)).any (·.1)=false:=by rfl) :
  PEX X (.Call (.Name x p) (e::es) [] pos) λE=>Aqz sp dvs E t:=by
 intro pins s σ H Q E I h;refine wpAny_Call_Name_kw (Tp I m j ?_ a);refine W.callWith_K (h₀:=X.base) I.ok.mod.kin hk (zT (d pos pins s σ H _ (I.wish _) h) (λus s1 ⟨vs,H1,c,r,q⟩=>⟨c.kIn,?_⟩) λ_ _ z=>z.elim) i b;exact AoW F n l o (c.Hv) r q
end
def exH (C a:Addr):HO:=.ext λh=>∃ t tb,h.get? a=some (exO C t tb)
theorem Iu.get(x:Iu P w H h a o):∃ u,h.get? a=some u:=by
 induction o with
 | lst xs=>obtain⟨_,_,_,_,e⟩:=x;exact⟨_,e⟩
 | tup xs=>obtain⟨_,_,_,_,e,_⟩:=x;exact⟨_,e⟩
 | dK b=>obtain⟨_,_,_,_,_,_,_,e,_⟩:=x;exact⟨_,e⟩
 | dT b=>obtain⟨_,_,_,_,_,_,_,e,_⟩:=x;exact⟨_,e⟩
 | set S n=>obtain⟨_,_,_,_,e,_⟩:=x;exact⟨_,e⟩
 | ins C dx fs=>obtain⟨_,_,_,e,_⟩:=x;exact⟨_,e⟩
 | own y=>obtain⟨_,e⟩:=x;exact⟨_,e⟩
 | xd fs=>obtain⟨_,⟨_,_,_,e,_⟩,_⟩:=x;exact⟨_,e⟩
 | rng lo hi=>obtain⟨_,_,_,e⟩:=x;exact⟨_,e⟩
 | frz d u c=>obtain⟨e,_⟩:=x;exact⟨_,e⟩
 | tbl ps=>exact⟨_,x⟩
 | met f y=>exact⟨_,x⟩
 | ext i=>exact x.2.1
section
variable {t:Addr}
theorem Bk.none{P:Program}{w:World}{outer:List Env}{h h':Heap}(k:Bk P w outer H h H' B h')(a:B.get? ea=Option.none):H' ea=Option.none:=by
 cases q:H' ea with
 | none=>rfl
 | some o =>
  obtain⟨u,e⟩:=(k.ok ea o q).get;rw[a] at e;cases e
theorem AiF(I:Inv X pins σ H s)(os:s'.os=s.os)(i:AllBare s'.gens)(bk:Bk X.prog X.w X.stack H s.heap H' B h2)(h:Fx B X.stack ea C t fl h2) :
  Inv X pins σ (upd H' ea (exH C ea)) { s' with heap:=h2 }:=by
 have hn:=bk.none h.ne;obtain⟨T,F,ts,l,_⟩:=h.ob;have x:∀ b o,s.heap.get? b=some o->b≠ea:=λb o e z=>by
  by_cases f:b∈frs X.stack
  ·obtain⟨_,o2,r,n2⟩:=h.fr.mem f;rw[z,l] at r;cases r;exact n2 _ U
  ·obtain⟨o',a⟩:=bk.there b o e f;rw[z,h.ne] at a;cases a
 have j:∀ b u,H' b=some u->b≠ea:=λb u e z=>by
  rw[z,hn] at e;cases e
 obtain⟨D,g,d,tk,m⟩:=s';obtain rfl:m=s.os:=os;refine I.call (s:=s) (h':=h2) (g':=g) (d':=d) (t':=tk) (ch:=[]) ⟨λb o e n f _=>h.st _ _ (bk.keep b o e n f),λb o e n f _=>bk.slot b o e f,λb o e n _=>?_,λb o e _=>?_,λb xs e=>?_,λb o u e=>?_,λb ps e=>?_⟩ (λb u e=>?_) i (λb z=>nomatch z)
 ·rw[Ai (x b o e)];exact bk.free b o e n
 ·by_cases f:b∈frs X.stack
  ·obtain⟨E,a⟩:=bk.slot b o e f;exact⟨_,a⟩
  ·obtain⟨o',a⟩:=bk.there b o e f;exact⟨o',h.st _ _ a⟩
 ·have a:=bk.tups b xs e;rw[Ai (j _ _ a)];exact a
 ·have a:=bk.Iw b o u e;rw[Ai (j _ _ a)];exact a
 ·obtain⟨y,a⟩:=bk.JP b ps e;exact⟨y,by rw[Ai (j _ _ a)];exact a⟩
 ·by_cases f:b=ea
  ·subst f;rw[Ae] at e;cases e;exact⟨⟨t,_,l⟩,⟨_,l⟩,λh1 A ⟨t',p,q⟩ k=>⟨t',p,k _ q⟩⟩
  ·rw[Ai f] at e;refine(bk.ok b u e).stay (λc v _ q=>h.st _ _ q) (λc q=>?_) λc xs q=>?_
   ·rw[Ai (j _ _ q)];exact q
   ·rw[Ai (j _ _ q)];exact q
abbrev Cx.hdl (X:Cx)(e:Addr):Cx:={ X with A:=X.A.mark (some (.ref e)),calm:=false,xe:=λ_ _=>False }
theorem Inv.hdl(I:Inv X pins σ H s)(e:Addr):Inv (X.hdl e) pins σ H s :=
 ⟨⟨I.ok.mod,I.ok.kind,I.ok.glob,I.ok.blt,I.ok.above,I.ok.inj,I.ok.has,I.ok.cab,(λz=>nomatch z),I.ok.frames,I.ok.stk,I.ok.exf,I.ok.bs,I.ok.bsz,I.ok.AfM,I.ok.AfN,I.ok.Vv,I.ok.frf⟩,I.os,I.bare,I.base,I.loc,I.cell,I.free,I.N6,I.pin,I.hok,I.len⟩
theorem Inv.AiG{e:Addr}(a:X.calm=true->X.A.handled=none)(I:Inv (X.hdl e) pins σ H s):Inv X pins σ H s :=
 ⟨⟨I.ok.mod,I.ok.kind,I.ok.glob,I.ok.blt,I.ok.above,I.ok.inj,I.ok.has,I.ok.cab,a,I.ok.frames,I.ok.stk,I.ok.exf,I.ok.bs,I.ok.bsz,I.ok.AfM,I.ok.AfN,I.ok.Vv,I.ok.frf⟩,I.os,I.bare,I.base,I.loc,I.cell,I.free,I.N6,I.pin,I.hok,I.len⟩
end
section
variable {g:Array GenState}{d:Drawn}{t:Nat}{os:OsState}
theorem Aga{K:NF}{D e:Addr}{s l:NW}{k:Obj}{Q:Bool->Shared->Prop}(X:K.In h)(m:W.excIn K C s nC=true)(r:W.excIn K D l nD=true)
  (p:l.contains (.type "BaseException")=true) (o:h.get? e=some k) (hc:k.cls=.ref C) (a:Q ((Ae4 K C).contains (.ref D)) ⟨h,g,d,t,os⟩):wpAny M A (excMatches (.ref e) (.ref D)) Q E ⟨h,g,d,t,os⟩:=by
 obtain⟨i,_,_,_,_,_,_,_,_,_,_,_,_,_,_,_,_,n,u,_,_,v⟩:=Ae5 X m;obtain⟨c,_,_,_,_,_,_,_,_,_,_,_,_,_,_,_,_,_,j,_,_,q⟩:=Ae5 X r;have b:(Value.ref D::c).contains (.type "BaseException")=true:=by rw[List.contains_cons,q.hasType p,Bool.or_true]
 have f:=tc_notTuple;rw[n] at a;unfold excMatches
 repeat (first | (with_reducible refine wpAny_loadPart_at o ?_;rw[hc]) | with_reducible refine wpAny_loadPart_at j ?_ | (with_reducible refine wpAny_isSubtype_exc j ?_;rw[b]) | with_reducible refine wpAny_isSubtype_exc u ?_ | wp_step)
 all_goals (revert a;cases (Value.ref C::i).contains (Value.ref D) <;> intro a)
 all_goals (repeat (first | exact a | wp_step))
end
abbrev WX (X:Cx)(pins:NO)(σ:St)(E:XK):Value->Shared->Prop:=λex s'=>∃ H1 s1,Inv X pins σ H1 s1/\CX1 X.prog X.w X.stack H1 s1 E ex s'
def PSX (X:Cx)(st:Stmt)(t:XK->TS):Prop:=∀(pins:NO)(s:Shared)(σ:St)(H:Hp)(D:Ends)(E:XK),Inv X pins σ H s->t E D σ H->wpAny (model X.prog X.w) X.A (exec st X.env) (SP X pins D) (WX X pins σ E) s
def Ar0 (X:Cx)(st:List Stmt)(t:XK->TS):Prop:=∀(pins:NO)(s:Shared)(σ:St)(H:Hp)(D:Ends)(E:XK),Inv X pins σ H s->t E D σ H->wpAny (model X.prog X.w) X.A (execs st X.env) (SP X pins D) (WX X pins σ E) s
section
variable {t u:XK->TS}{te:XK->TE}{st:Stmt}
theorem AlT(h:PSX X st t):Ar0 X [st] t:=by
 intro pins s σ H D E I h1;refine wpAny_execs_cons (thn (h pins s σ H D E I h1) λf s1 q=>?_)
 match f,q with
 | .next,q=>exact wpAny_execs_nil q
 | .brk,q=>exact q
 | .cont,q=>exact q
 | .ret u,q=>exact q
theorem AoX(c:X.N.Nodup)(hi:X.N[i]?=some x)(k:Loc X.env.scope x)(d:PEX X e te)(m:swapsWith e (some (.Name x pos')) pos.line X.env=pure false:=by rfl)
  (a:X.fn x=true\/X.env.scope.names.lookup x=some .local:=by first | exact .inl U | exact .inr U | assumption):PSX X (.Assign [.Name x pos'] e pos) λE=>Aal (te E) (Hw i):=by
 intro pins s σ H D E I h;refine wpAny_Assign_Name (thn (d pins s σ H _ E I h) λv s1 ⟨y,H1,f,l,b⟩=>?_) m;exact VP f c hi k l (λn j=>⟨_,H1,j,b⟩) a
def Sub (K:NF)(C D:Addr):Prop:=(∃ bm nid,W.excIn K C bm nid=true)/\(Ae4 K C).contains (.ref D)=true
end
structure ExC (K:NF)(C:Addr):Prop where
 ga:W.findIn K (.ref C) "__getattribute__" = some (some (.builtin "BaseException.__getattribute__"))
 gt:W.findIn K (.ref C) "__getattr__" = some none
 cl:W.findIn K (.ref C) "__class__" = some (some (.builtin "object.__class__"))
 gc:W.specialIn K (.builtin "object.__class__") "__get__" = some (some (.builtin "getset_descriptor.__get__"))
 tk:W.takesIn K (.builtin "object.__class__")=some true
 ob:W.mroIn K C (.type "object")=some true
 be:W.mroIn K C (.type "BaseException")=some true
 is:(W.clsIn K C).isSome=true
abbrev vE:NW:=[.type "ValueError", .type "Exception", .type "BaseException", .type "object"]
abbrev vN:String := "ValueError.__new__"
structure Exn (K:NF)(C:Addr):Prop where
 q:W.excIn K C vE vN=true
 c:ExC K C
 ty:W.typeIn K (.ref C)=some (.type "type")
 ve:W.mroIn K C (.type "ValueError")=some true
theorem Ar1{K:NF}(q:W.excIn K C vE vN=true)(f:W.findIn K (.ref C) "__getattribute__" = some (some (.builtin "BaseException.__getattribute__"))) (a:W.findIn K (.ref C) "__getattr__" = some none)
  (cl:W.findIn K (.ref C) "__class__" = some (some (.builtin "object.__class__"))) (c:W.specialIn K (.builtin "object.__class__") "__get__" = some (some (.builtin "getset_descriptor.__get__"))) (tk:W.takesIn K (.builtin "object.__class__")=some true)
  (d:W.mroIn K C (.type "object")=some true) (h:W.mroIn K C (.type "BaseException")=some true) (e:W.isClsIn K C=true) (ty:W.typeIn K (.ref C)=some (.type "type")) (b:W.mroIn K C (.type "ValueError")=some true):Exn K C :=
 ⟨q,⟨f,a,cl,c,tk,d,h,e⟩,ty,b⟩
theorem NP:vE.contains (.type "BaseException")=true:=Ap
theorem Cy:vE.contains (.type "ValueError")=true:=Ap
def Dg (s:Stmt):List Stmt:=match s with
 | .ClassDef _ _ _ b _ _ _ _ _ _ _=>b
 | _=>[]
structure Mf (K:NF)(x q:Str)(st:Stmt)(ps:NX)(C f:Addr)(fd:FuncData):Prop where
 F:Fun K x q st f fd
 m:Meth K C x f
 b:Binds K fd ps []
theorem Exn.has{K:NF}{D:Addr}{b:Bool}(r:W.mroIn K C (.ref D)=some b):(Ae4 K C).contains (.ref D)=b:=by
 obtain⟨cd,h1,h2⟩:=Option.bind_eq_some_iff.mp r;unfold W.clsIn at h1;unfold Ae4;split at h1
 next c d cd' sl ho =>
  cases h1;rw[ho]
  try dsimp only
  split at h2
  ·cases h2
  ·exact Option.some.inj h2
 ·cases h1
section
variable {t:XK->TS}
def pick(K:NF)(C:Addr):List (Addr × TS)->TS
 | []=>λ_ _ _=>False
 | (Ch,ts)::l=>λD σ H=>((Ae4 K C).contains (.ref Ch)=true/\ts D σ H)\/((Ae4 K C).contains (.ref Ch)=false/\pick K C l D σ H)
def Ato (K:NF)(l:List (Addr × TS))(t:XK->TS):TS:=λD σ H=>t (λc _ H'=>∃ C,c=.ref C/\(∃ bm nid,W.excIn K C bm nid=true)/\∀ ea,H' ea=none->pick K C l D σ (upd H' ea (exH C ea))) D σ H
inductive HL (X:Cx):List ExceptHandler->List (Addr × TS)->Prop
 | nil:HL X [] []
 | cons {suite:List Stmt} {b₀:Stmt} {ts:TS} {x:Str} {Ch:Addr} {bmB:NW} {nid:String} {np hpos:Pos} {hs:List ExceptHandler} {l:List (Addr × TS)}
   (hg:Gl X x) (hm:X.mg x=some (.ref Ch)) (hq:W.excIn X.K Ch bmB nid=true) (hbs:bmB.contains (.type "BaseException")=true) (hs':∀ ea,PSs (X.hdl ea) (b₀::suite) ts) (hd:(x == ("__debug__" : Str))=false) (r:HL X hs l) :
   HL X (.ExceptHandler (some (.Name x np)) none (b₀::suite) hpos::hs) ((Ch,ts)::l)
theorem AoY{body:List Stmt}{h₀:ExceptHandler}{k:List ExceptHandler}{l:List (Addr × TS)}(hB:Body X)(hc:X.calm=true)(P:Ar0 X body t)(L:HL X (h₀::k) l) :
  PS X (.Try body (h₀::k) [] [] pos) (Ato X.K l t):=by
 intro pins s σ H D I h;refine wpAny_Try_except (zT (P pins s σ H D _ I h) (λf s1 q=>?_) λex s1 z=>?_)
 ·match f,q with
  | .next,q=>exact wpAny_execs_nil q
  | .brk,q=>exact q
  | .cont,q=>exact q
  | .ret u,q=>exact q
 ·obtain⟨H1,Z,o,ea,C,t0,H',B,rfl,i,os,a,bk,C',M,⟨Y,nC,w⟩,b⟩:=z;obtain rfl:C=C':=by cases M;rfl
  refine AiE hB I.ok.frames (.came i) λh1 p R=>Ae2 (s:={ s1 with heap:=h1 }) p λh2 d Q=>?_;have c:=(bk.slots i.fr R).slots p.fr Q;have n:Inv X pins σ (upd H' ea (exH C ea)) { s1 with heap:=h2 }:=AiF o os a c d
  replace b:=b ea (bk.none i.ne)
  generalize j:h₀::k=all at L ⊢;clear j h
  induction L with
  | nil=>exact b.elim
  | cons x A W m e N r F =>
   refine wpAny_handleBy_cons (codeAny_handlers_test (Tp (X:=X.hdl ea) (n.hdl ea) x A ?_ N)) (by intro q;cases q);obtain⟨T,oT,tt,E,_⟩:=id d.ob;refine Aga n.kIn w W m E U ?_;rcases b with ⟨sub,b⟩ | ⟨sub,b⟩
   ·rw[sub];refine codeAny_handlers_suite ?_;refine Ae2 (s:={ s1 with heap:=h2 }) d λy G O=>?_;have S:Inv X pins σ (upd H' ea (exH C ea)) { s1 with heap:=y }:=AiF o os a (c.slots d.fr O) G;refine zT (e ea pins _ _ _ _ (S.hdl ea) b) (λf s5 q=>?_) λ_ _ z=>z.elim
    match f,q with
    | .next,⟨σ',H5,J,q⟩=>exact⟨σ',H5,J.AiG I.ok.hd,q⟩
    | .brk,⟨σ',H5,J,q⟩=>exact⟨σ',H5,J.AiG I.ok.hd,q⟩
    | .cont,⟨σ',H5,J,q⟩=>exact⟨σ',H5,J.AiG I.ok.hd,q⟩
    | .ret u,⟨v,σ',H5,J,r,q⟩=>exact⟨v,σ',H5,J.AiG I.ok.hd,r,q⟩
   ·rw[sub];exact F b
end
open Builtin Builtin.Str
def Ug (u:NI)(lo hi:Option Int):NI:=(u.drop (HT.sIx u.length 0 lo)).take (HT.sIx u.length u.length hi-HT.sIx u.length 0 lo)
theorem Ar2(a b:Nat):sliceRange (a:Int) (b:Int) 1=(List.range (b-a)).map λk=>a+k:=by
 unfold sliceRange;simp only [show(1:Int)>0 by decide,if_true];by_cases h:(a:Int)<(b:Int)
 ·rw[if_pos h,Int.ediv_one,show(b:Int)-(a:Int)+1-1=((b-a:Nat):Int) by omega,AvZ];exact List.map_congr_left λk _=>At
 ·rw[if_neg h,show b-a=0 by omega];rfl
theorem Tq(n d:Nat)(i:Int):max 0 (min (if i<0 then i+(n:Int) else i) (n:Int))=(HT.sIx n d (some i):Int):=by
 show _=(((if i<0 then (i+(n:Int)).toNat else min i.toNat n):Nat):Int);by_cases h:i<0
 ·rw[if_pos h,if_pos h];omega
 ·rw[if_neg h,if_neg h];omega
theorem idx_eq(n:Nat)(lo hi:Option Int):strSliceIndices lo hi 1 n=(List.range (HT.sIx n n hi-HT.sIx n 0 lo)).map λk=>HT.sIx n 0 lo+k:=by
 rw[<- Ar2];cases lo with
 | none =>
  cases hi with
  | none=>rfl
  | some j=>rw[<- Tq];rfl
 | some i =>
  cases hi with
  | none=>rw[<- Tq n 0 i];rfl
  | some j=>rw[<- Tq n 0 i,<- Tq n n j];rfl
theorem AlU(u:NI)(lo hi:Option Int):Txt.slice (tx u) lo hi=tx (Ug u lo hi):=by
 unfold Txt.slice Ug;rw[Aw,idx_eq];have d:HT.sIx u.length u.length hi<=u.length:=HT.Arm _ _ (AvN _) _;have b:∀(a k:Nat),a+k<=u.length->((List.range k).map λj=>a+j).filterMap (λi=>(tx u).cps[i]?)=(u.drop a).take k:=by
  intro a k
  induction k with
  | zero=>intro _;simp
  | succ k f =>
   intro h;rw[Aw1,AvO,List.filterMap_append,f At];have:a+k<u.length:=At
   simp only [AvU,List.map_nil,Aw9,List.filterMap_nil,V2,AvM this];rw[List.take_succ,AwO,AvM this];rfl
 split
 next h =>
  simp only [AvK,Awp,AwG,beq_iff_eq] at h;have h2:=h.2;have:HT.sIx u.length 0 lo=0\/u.length=0:=At
  rcases this with e | e
  ·rw[e,AwA,Aws At]
  ·rw[Axu e];simp
 next h =>
  by_cases c:HT.sIx u.length 0 lo<=HT.sIx u.length u.length hi
  ·show(Str.mk _)=_;rw[b _ _ At];rfl
  ·have e:HT.sIx u.length u.length hi-HT.sIx u.length 0 lo=0:=At
   rw[e];simp[tx]
theorem Ar3{u:NI}(h:k<=u.length):Ug u none (some (k:Int))=u.take k:=by unfold Ug;rw[HT.Rx,HT.Ku,AwA,AwB h,Axh]
inductive AlV (x:V)(lo:Option Int)(hi:Option Int)(H:Hp)(Q:VK):Prop
|mk(u:NI)(_:x=.str (tx u))(_:u.length<=sizeLine)(_:Q (.str (tx (Ug u lo hi))) H)
theorem Ys:SlR X AlV:=by
 intro pins s σ H x v D C lo hi m Q I p r pl n h;obtain⟨u,rfl,y,q⟩:=h;obtain⟨t,rfl⟩:=p;rw[<- AlU] at q;refine⟨"str", _,F.slot_str_getitem.lookup,typeIs_str _ _ _,?_⟩;have d:(tx u).length<=sizeLine:=by rw[Aw];exact y
 obtain⟨os,b,c,a⟩:=id r;have fin:∀(l e:Option (Int × Tok)),s.heap.IsSlice m l e none->Q (.str (Txt.slice (tx u) (l.map (·.1)) (e.map (·.1)))) H->wpAny (model X.prog X.w) X.A (getItem (.str (tx u) t) (.ref m)) (EP X pins σ Q) X.xe s:=λl e z B =>
  wpAny_getItem_str_slice z U (post_val_or_str ⟨Awe (Txt.slice_le (tx u) _ _) d,λt' k=>⟨.str _,H,I.tok _,⟨t',U⟩,B⟩⟩);cases pl with
 | none=>cases n with
  | none=>exact fin none none ⟨os,b,c,a⟩ q
  | int j f=>exact fin none (some (j,f)) ⟨os,b,c,a⟩ q
 | int i o=>cases n with
  | none=>exact fin (some (i,o)) none ⟨os,b,c,a⟩ q
  | int j f=>exact fin (some (i,o)) (some (j,f)) ⟨os,b,c,a⟩ q
theorem We:∀(xs:Na)(us:NW),xs.length=us.length->(∀(i:Nat) x u,xs[i]?=some x->us[i]?=some u->RelV x u)->Vals xs us
 | [],[],_,_=>.nil
 | [],_::_,h,_=>by simp at h
 | _::_,[],h,_=>by simp at h
 | x::xs,u::us,h,p=>.cons (p 0 x u U rfl) (We xs us (by simpa using h) λi y v b a=>p (i+1) y v b a)
def AoZ (p:Addr)(a b c:Int):HO:=.ext λh=>∃ t u v,IsRange h p a b c t u v
def Aao (a c:Int)(n:Nat):NA:=(List.range n).map λ(i:Nat)=>a+(i:Int)*c
section
variable {K:NF}
theorem Agb{a b c:Int}{t u v:Tok}{Q:VK}(I:Inv X pins σ H s)(q:∀ p,H p=none->Q (.ref p) (upd H p (AoZ p a b c))) :
  EP X pins σ Q (.ref s.heap.objs.size) { s with heap:=s.heap.push { cls:=.type "range", data:=.fields #[.int a t,.int b u,.int c v] },toks:=tk }:=by
 have d:(s.heap.push { cls:=.type "range", data:=.fields #[.int a t,.int b u,.int c v] }).get? s.heap.objs.size=some { cls:=.type "range", data:=.fields #[.int a t,.int b u,.int c v] }:=zD _ U;refine⟨.ref s.heap.objs.size,_,I.laid (λb o e=>zB _ e) (AvN _) ?_,U,q _ (I.hok.fresh (AvN _))⟩;exact⟨⟨t,u,v,d⟩,⟨_,d⟩,λh1 h2 y k=>by
  obtain⟨t',h,f,y⟩:=y;exact⟨t',h,f,k _ y⟩⟩
inductive Agc (xs:Na)(H:Hp)(Q:VK):Prop
|mk(a:_)(b:_)(_:xs=[.int a,.int b])(_:∀ p,H p=none->Q (.ref p) (upd H p (AoZ p a b 1)))
theorem Akj:Hq X (.type "range") Agc:=by intro pins s σ H xs us Q I c h;obtain⟨a,b,rfl,q⟩:=h;obtain⟨f,e,rfl,d,r2⟩:=c.two;obtain⟨t,rfl⟩:=d;obtain⟨t',rfl⟩:=r2;exact call_range_2 (Agb I q)
inductive Agd (xs:Na)(H:Hp)(Q:VK):Prop
|mk(a:_)(b:_)(c:_)(_:xs=[.int a,.int b,.int c])(_:c≠0)(_:c.natAbs<1000000)(_:∀ p,H p=none->Q (.ref p) (upd H p (AoZ p a b c)))
theorem Akk:Hq X (.type "range") Agd:=by
 intro pins s σ H xs us Q I d h;obtain⟨a,b,c,rfl,hc,j,q⟩:=h;cases d with
 | cons i d=>cases d with
  | cons r2 d=>cases d with
   | cons f d =>
    cases d;obtain⟨t,rfl⟩:=i;obtain⟨t',rfl⟩:=r2;obtain⟨e,rfl⟩:=f;exact call_range_3 hc (Agb I q) (Or.inl (PyProof.noPylong_small Au))
inductive Ae6 (xs:Na)(H:Hp)(Q:VK):Prop
|mk(p:Addr)(a:Int)(b:Int)(c:Int)(n:Nat)(_:xs=[.ref p])(_:H p=some (AoZ p a b c))(_:Builtin.Range.small a b c=true)(_:Builtin.Range.rangeSize a b c=n)(_:n<=1000)(_:∀ l,H l=none->Q (.ref l) (upd H l (.lst (vI (Aao a c n)))))
theorem Abl(hc:X.calm=true:=by rfl):Hq X (.type "list") Ae6:=by
 intro pins s σ H xs us Q I l h;obtain⟨p,a,b,c,n,rfl,m,o,hn,k,q⟩:=h;obtain⟨u,rfl,B⟩:=l.one;cases B;obtain⟨⟨t,u,v,r⟩,_,_⟩:=I.hok p _ m;refine call_list_range (I.ok.hd hc) r o hn (Awe k Ap) λh' tk acc w hk A hi=>?_;refine⟨.ref s.heap.objs.size,_,I.laid hk (AvN _) ?_,U,q _ (I.hok.fresh (AvN _))⟩;have d:(vI (Aao a c n)).length=n:=by rw[Cj];unfold Aao;rw[AvK,Awp]
 refine⟨by rw[d];exact Awx (AjY k),acc.toList,w,?_,A⟩;refine We _ _ (by rw[d,zK,hi.1]) λi x u j y=>?_;obtain⟨z,e,rfl⟩:=La j;obtain⟨t',rfl⟩:=hi.2 i u (by rw[<- zO];exact y);have f:i<n:=by
  have:= (zC.mp j).1
  rwa [d] at this
 unfold Aao at e;rw[AvS,AwW f] at e;cases e;exact⟨t',U⟩
inductive Zt (xs:Na)(H:Hp)(Q:VK):Prop
|mk(z:_)(n:_)(_:xs=[.str z])(_:PySem.intText? z=some n)(_:z.length<=640)(_:Q (.int n) H)
theorem Akl:Hq X (.type "int") Zt:=by intro pins s σ H xs us Q I b h;obtain⟨z,n,rfl,hn,a,q⟩:=h;obtain⟨u,rfl,t,rfl⟩:=b.one;exact W.KIN.call_text hn a ⟨.int n,H,I.tok _,⟨_,U⟩,q⟩
inductive Age (K:NF)(xs:Na)(H:Hp)(Q:VK):Prop
|mk(a:_)(ns:_)(_:xs=[.ref a])(_:SqL K H a (vI ns))(_:Q (.int ns.sum) H)
theorem Akm(f:X.K=K:=by rfl)(hc:X.calm=true:=by rfl):Hq X (.builtin "sum") (Age K):=by
 subst f;intro pins s σ H xs us Q I c h;obtain⟨a,ns,rfl,j,q⟩:=h;obtain⟨u,rfl,e⟩:=c.one;cases e;obtain⟨its,r,pl,k⟩:=I.list j;have hi:=intsAre_of r;obtain⟨xs,b⟩:=hi.allInts.items;have i:s.heap.IsList a (intItems xs):=by rw[<- b];exact pl.isList
 refine sum_intListG (I.ok.hd hc) i λh' tk t' hk=>?_;have d:xs.toList.map (·.1)=ns:=by
  have z:numsOf its.toArray.toList=ns:=hi.numsOf;rw[b,nums_intItems] at z;exact z
 rw[show preSum (numAt xs) xs.size=ns.sum by rw[preSum_eq,Aws AA,d]];exact⟨.int ns.sum,H,I.kept hk,⟨t',U⟩,q⟩
end
section
variable {K:NF}{o:Expr}{f:Str}{tpos:Pos}{tv:TE}{st:Stmt}{t:TS}
theorem Dt(c:PE X e ta)(b:attributeBase e f X.env (eval e X.env)=eval e X.env)(a:X.K=K:=by rfl):PE X (.Attribute e f pos) (AsO K ta f):=by subst a;exact Ari c b
theorem HH(d:PE X o ta)(b:PE X value tv)(c:swapsWith value (some (.Attribute o f pos')) pos.line X.env=pure false:=by rfl)(a:X.K=K:=by rfl):PS X (.Assign [.Attribute o f pos'] value pos) (AsP K ta tv f):=by subst a;exact Arj d b c
theorem Ah9{op:Operator}{b:V->V->Hp->VK->Prop}(c:PE X o ta)(e:PE X value tv)(a:Arh X op b)(d:X.K=K:=by rfl):PS X (.AugAssign (.Attribute o f tpos) op value pos) (Ai7 K ta tv b f):=by subst d;exact AjS c e a
theorem Wf(h:X.A.frames=some X.stack->PS X st t):PS X st t:=λpins s σ H D I hw=>h I.ok.frames pins s σ H D I hw
end
structure Own (K:NF)(C f:Addr):Prop where
 c:Cls K C
 m:Mk K C f
theorem Ar4{K:NF}(h1:W.plainGet K C Str.empty=true)(h2:W.hasDictIn K C=true)(e:W.plainOver K C=true)(d:W.findIn K (.ref C) "__setattr__" = some (some (.builtin "object.__setattr__")))
  (a:W.makesIn K C=true) (c:W.findIn K (.ref C) "__init__" = some (some (.ref f))) (h:W.isFn K (.ref f)=true) (b:W.keepIn K (.ref C)=true):Own K C f:=⟨⟨h1,h2,e,d⟩,⟨a,c,h,b⟩⟩
structure Atp (K:NF)(C:Addr)(m:Str)(f:Addr):Prop where
 rd:W.readsIn K C (.type "type")=true
 fi:W.findCls K (.ref C) (.type "type") m=some (.val (.ref f))
 ha:W.handedIn (.ref f)=true
 sp:W.specialIn K (.ref C) "__getattribute__" = some (some (.builtin "type.__getattribute__"))
 kp:W.keepIn K (.ref f)=true
abbrev Apa (sp:Sp)(dvs:Na)(E:XK)(Q:VK)(vs:Na)(H2:Hp):Prop:=sp (vs++dvs) H2 Q E
inductive Apb (C:Addr)(sp:Sp)(dvs:Na)(E:XK)(t:TA)(σ:St)(Q:VK)(x:V)(H1:Hp):Prop
|mk(_:x=.ref C)(_:t σ H1 (Apa sp dvs E Q))
def Atq (C:Addr)(sp:Sp)(dvs:Na)(E:XK)(ta:TE)(t:TA)(σ:St)(H:Hp)(Q:VK):Prop:=ta σ H (Apb C sp dvs E t σ Q)
section
variable {CX:CXT}{E:XK}{o:Expr}{t:TA}
theorem HJ{pl:Sem Bool}(j:PE X o ta)(M:Atp X.K C m f)(F:Bh X.prog X.w X.K X.mg X.base CX k f fd ps sp)(z:Hd k X.A)(n:Binds X.K fd ps ds)(B:Vals dvs ds)(p:Passes CX X E)(i:PA X (e::es) t)
  (c:starEach (e::es) X.env=(false,eval e X.env)::starEach es X.env:=by rfl) (b:(backTo pos (starEach es X.env)).any (·.1)=false:=by rfl)
  (v:eval (.Call (.Attribute o m apos) (e::es) [] pos) X.env=(do
   let ov <- eval o X.env
   standAt apos.atName
   let (f,first) <- holding [ov] (getMethod ov m pl)
   callWith pos f first (backTo pos (starEach (e::es) X.env)) (backToKw pos (keywordEach [] X.env))):=by rfl) :
  PE X (.Call (.Attribute o m apos) (e::es) [] pos) (Atq C sp dvs E ta t):=by
 intro pins s σ H Q I h;refine W.methodCall_KW (pl:=pl) (thn (j pins s σ H _ I h) λu s1 ⟨x,H1,a,l,ex,q⟩=>?_) v;subst ex;obtain rfl:u=Value.ref C:=l;refine W.method_cls a.kIn M.sp (W.cls_value a.kIn M.rd M.fi M.ha ?_);refine W.callWith_K (first:=[]) (h₀:=X.base) I.ok.mod.kin M.kp (thn (i pos pins _ σ H1 _ (a.tok (s1.toks+1)) q) λus D ⟨vs,H2,d,r,y⟩=>⟨d.kIn,?_⟩) c b;exact Vy (us:=us) (vs:=vs) F z n B p d r y
end
section
variable  [DecidableEq κ]
theorem KV.length{a:List (κ × V)}{vs:List (κ × Value)}(r:KV a vs):a.length=vs.length:=Paired.length r
end
def Atr (i:Expr):Prop:=∀ ov iv,subscripted i false ov iv=operate [ov,iv] (getItem ov iv)
theorem Apc{a:Expr}{id:String}{Q:NR}
  (j:typeLookup (.type T) "__getitem__" = pure (some (.builtin id))) (k:Atr a)
  (h:wpAny (model prog w) A (eval value env) (λo s₁=>wpAny (model prog w) A (eval a env) (λi b=>b.TypeIs o T/\wpAny (model prog w) A (getItem o i) Q E b) E s₁) E s) :
  wpAny (model prog w) A (eval (.Subscript value a pos) env) Q E s:=by
 refine Subscript_ (zT h (λo s₁ h₁=>zT h₁ (λi b c=>?_) λ_ _ x=>x) λ_ _ x=>x);obtain⟨f,c⟩:=c;unfold subscriptTail;refine zA ?_;rw[getitemInPython_of_ne f.not_modules];refine zA (wpAny_specialOf f j ?_);have fin:wpAny (model prog w) A (subscripted a false o i) (λr d=>wpAny (model prog w) A (letTemporaryGo value o r >>= λ_=>pure r) Q E d) E b:=by
  rw[k o i];exact wpAny_operating (zT c (λr d e=>zA (wpAny_letTemporaryGo (zE e))) λ_ _ x=>x)
 first
  | exact zE (zA fin)
  | exact zA (zE (zA fin))
  | exact zA fin
def IsD (H:Hp)(a:Addr):Prop:=(∃ kvs,Rd H a (.dK kvs))\/∃ kvs,Rd H a (.dT kvs)
open PySem PySem.Spec PySem.Calls PyProof.Rows PyProof.Rows.KTD
def Top (K:NF)(a:Addr)(D:List (Str × Str)):Prop:=∀ h:Heap,K.In h->TextTab h a (D.map λp=>(p.1,Dat.flat (.str p.2)))
theorem Ar5{K:NF}(c:tabLook (datLooks λb=>K.lookup b) (λb=>K.lookup b) a (D.map λp=>(p.1,Dat.flat (.str p.2)))=true):Top K a D:=λh X=>text_of_look (λb o e=>X b o e) c
def lk (D:List (Str × Str))(k:Str):Option Str:=(D.find? λp=>decide (p.1=k)).map (·.2)
theorem Ad6(k:Str):∀ D:List (Str × Str),inKeys k (D.map λp=>(p.1,Dat.flat (.str p.2)))=(lk D k).isSome
 | []=>rfl
 | p::D=>by
  have a:=Ad6 k D;unfold lk at a ⊢;by_cases c:p.1=k
  ·simp[inKeys,c]
  ·have b:¬k=p.1:=λz=>c z.symm;simp[inKeys,c,b]
   simpa using a
theorem Aq5{k v:Str}:∀{D:List (Str × Str)},lk D k=some v->∃ d,datumAt k (D.map λp=>(p.1,Dat.flat (.str p.2)))=some d/\d=Dat.flat (.str v)
 | [],h=>by simp[lk] at h
 | p::D,h=>by
  unfold lk at h;rw[List.find?_cons] at h;by_cases c:p.1=k
  ·simp[c] at h;subst h;exact⟨_,by simp[datumAt,c],U⟩
  ·have e:¬k=p.1:=λz=>c z.symm;simp only [c] at h;obtain⟨d,b,a⟩:=Aq5 h;exact⟨d,by simp[datumAt,e,b],a⟩
inductive Agf (a:Addr)(D:List (Str × Str))(Q:VK)(y:V)(x:V)(H2:Hp):Prop
|mk(k:_)(_:y=.str k)(_:x=.ref a)(_:Q (.bl (!(lk D k).isSome)) H2)
abbrev Agg (a:Addr)(D:List (Str × Str))(td:TE)(σ:St)(Q:VK)(y:V)(H1:Hp):Prop:=td σ H1 (Agf a D Q y)
def Akn (a:Addr)(D:List (Str × Str))(ty:TE)(td:TE)(σ:St)(H:Hp)(Q:VK):Prop:=ty σ H (Agg a D td σ Q)
inductive Ako (a:Addr)(D:List (Str × Str))(Q:VK)(x:V)(y:V)(H2:Hp):Prop
|mk(k:_)(v:_)(_:y=.str k)(_:x=.ref a)(_:lk D k=some v)(_:Q (.str v) H2)
abbrev Akp (a:Addr)(D:List (Str × Str))(ty:TE)(σ:St)(Q:VK)(x:V)(H1:Hp):Prop:=ty σ H1 (Ako a D Q x)
def Apd (a:Addr)(D:List (Str × Str))(td:TE)(ty:TE)(σ:St)(H:Hp)(Q:VK):Prop:=td σ H (Akp a D ty σ Q)
section
variable {o i:Expr}{td ty:TE}
theorem Agh(T:Top X.K a D)(hi:PE X i ty)(n:PE X o td):PC X .NotIn i o (Akn a D ty td):=by intro pins s σ H Q I h;refine thn (hi pins s σ H _ I h) λr s1 ⟨y,H1,l,q,f⟩=>thn (n pins s1 σ H1 _ l f) λu j ⟨x,H2,c,m,k,d,ex,p⟩=>?_;subst d ex;obtain⟨tk,rfl⟩:=q;obtain rfl:u=Value.ref a:=m;refine notin_text ⟨T j.heap c.kIn,λb o e=>e⟩ ?_;rw[Ad6];exact⟨.bl _,H2,c.tok _,U,p⟩
theorem Agi{k v:Str}{tk:Tok}{Q:NR}(T:Top X.K a D)(I:Inv X pins σ H s)(e:lk D k=some v)(h:∀ t s',Inv X pins σ H s'->Q (.str v t) s') :
  wpAny (model X.prog X.w) A (getItem (.ref a) (.str k tk)) Q E s:=by
 have c:Here s.heap s.heap a (D.map λp=>(p.1,Dat.flat (.str p.2))):=⟨T s.heap I.kIn,λb o e=>e⟩;unfold getItem
 try with_reducible refine yB ?_
 refine zA (wpAny_sequenceKey c.typeIs Ap ?_);refine zA (wpAny_callSpecial?_slot c.typeIs F.slot_dict_getitem
  (wpAny_call_entry F.slot_dict_getitem c.typeIs F.entry_dict_getitem ?_ (args_dict_getitem _ _)));show wpAny _ _ (dictGet a (.str k tk) >>= _) _ _ s;obtain⟨d,m,l⟩:=Aq5 e;refine zA (dictGet_text c (λd' i f j=>zE ⟨i,U,zE ?_⟩) λhn=>AB);rw[m] at f;cases f;subst l;exact Opened.of (P:=λx=>Q x _) (opened_str λt=>h t _ (I.tok _)) i j
theorem Akq(T:Top X.K a D)(w:PE X o td)(hi:PE X i ty)(n:Atr i):PE X (.Subscript o i pos) (Apd a D td ty):=by intro pins s σ H Q I h;refine Apc F.slot_dict_getitem.lookup n (thn (w pins s σ H _ I h) λu s1 ⟨x,H1,r,l,q⟩=>thn (hi pins s1 σ H1 _ r q) λE c ⟨y,H2,d,B,k,v,f,ex,j,m⟩=>?_);subst ex f;obtain rfl:u=Value.ref a:=l;obtain⟨tk,rfl⟩:=B;have z:Here c.heap c.heap a (D.map λp=>(p.1,Dat.flat (.str p.2))):=⟨T c.heap d.kIn,λb o e=>e⟩;exact⟨z.typeIs,Agi T d j λt C A=>⟨.str v,H2,A,⟨t,U⟩,m⟩⟩
end
def Ats (K:NF)(a:Addr)(ys:NX):Prop:=∀ H:Hp,SqT K H a (ys.map V.str)
theorem Ape{K:NF}{o:Obj}{its:Array Value}(e:K.lookup a=some o)(c:o.cls=.type "tuple") (d:o.data=.seq its n) (z:its.size<=sizeLine) (r:Vals (ys.map V.str) its.toList):Ats K a ys:=λ_=>.inr ⟨o,its,n,e,c,d,z,r⟩
structure DfH (K:NF)(x:Str)(st:Stmt)(f:Addr)(fd:FuncData):Prop where
 a:W.nsIn K mainGlobals x=some (some (.ref f))
 F:Fun K x x st f fd
structure MfH (K:NF)(x q:Str)(st:Stmt)(C f:Addr)(fd:FuncData):Prop where
 m:W.findIn K (.ref C) x=some (some (.ref f))
 g:W.isFn K (.ref f)=true
 F:Fun K x q st f fd
section
variable {K:NF}
theorem DfH.df{st:Stmt}(D:DfH K x st f fd)(X:K.In h)(G:h.Ns mainGlobals mg)
  (b:∀ kV dc pm an cd ct us,us.length=ps.length->bindArgs (W.fnOf x x (PJ st) (Kv st) (Ag st) .none kV dc pm an cd ct) ⟨us,[]⟩=pure (ps.zip us)):Df K mg x st ps f fd:=⟨D.F,W.mg_of X G D.a,D.F.binds b⟩
theorem MfH.meth{st:Stmt}(D:MfH K x q st C f fd):Meth K C x f:=⟨D.m,D.g,D.F.2⟩
theorem MfH.mf{st:Stmt}(D:MfH K x q st C f fd)
  (a:∀ kV dc pm an cd ct us,us.length=ps.length->bindArgs (W.fnOf x q (PJ st) (Kv st) (Ag st) .none kV dc pm an cd ct) ⟨us,[]⟩=pure (ps.zip us)):Mf K x q st ps C f fd:=⟨D.F,D.meth,D.F.binds a⟩
structure DfA (K:NF)(mg:Str->NY)(x y:Str)(st:Stmt)(ps:NX)(f:Addr)(fd:FuncData):Prop where
 F:Fun K y y st f fd
 m:mg x=some (.ref f)
 b:Binds K fd ps []
theorem DfA.of{y:Str}{st:Stmt}(a:W.nsIn K mainGlobals x=some (some (.ref f)))(F:Fun K y y st f fd)(X:K.In h)(G:h.Ns mainGlobals mg)
  (b:∀ kV dc pm an cd ct us,us.length=ps.length->bindArgs (W.fnOf y y (PJ st) (Kv st) (Ag st) .none kV dc pm an cd ct) ⟨us,[]⟩=pure (ps.zip us)):DfA K mg x y st ps f fd:=⟨F,W.mg_of X G a,F.binds b⟩
theorem sc9{P:NX}(h:sc.kind=.function/\sc.isCoroutine=false/\sc.isGenerator=false/\N.take P.length=P:=by exact⟨U,U,U,U⟩)
  (g:N.Nodup/\(∀ x∈P,sc.names.lookup x=some .local\/sc.names.lookup x=some .cell)/\∀ y∈sc.names,y.2≠.free:=by decide +kernel):An N P sc:=⟨h.1,h.2.1,h.2.2.1,g.1,h.2.2.2,g.2.1,g.2.2⟩
end
theorem Agj(l:NI):∀(k:Nat)(acc:NI),List.foldl (λc b=>c++b) acc.toArray (List.replicate k l.toArray)=(acc++(List.replicate k l).flatten).toArray
 | 0,acc=>AA
 | k+1,acc=>by
  have e:acc.toArray++l.toArray=(acc++l).toArray:=AA
  have a:(acc++l)++(List.replicate k l).flatten=acc++(List.replicate (k+1) l).flatten:=by
   rw[Awt,Awl,Awj]
  rw[<- a,<- Agj l k (acc++l),<- e,Awt,Axe]
inductive Atu (x:V)(y:V)(H:Hp)(Q:VK):Prop
|mk(u:_)(n:_)(_:x=.str (tx u))(_:y=.int n)(_:0<=n)(_:n<=1000000)(_:u.length*n.toNat<=sizeLine)(_:Q (.str (tx (List.replicate n.toNat u).flatten)) H)
theorem Mt:OpR X (binaryOp .Mult) Atu:=by
 intro pins s σ H x y v z Q I i k h;obtain⟨u,n,rfl,rfl,l,h1,h2,q⟩:=h;obtain⟨t,rfl⟩:=i;obtain⟨t',rfl⟩:=k;have f:=yA;have a:=Aw u;refine P.mul_str ?_ (λd j=>?_) (λd j=>?_) ?_
 ·grind
 ·rw[a];have hn:0<n:=At
  have:(u.length:Int)<=(2 ^ 63-1) / n:=(Int.le_ediv_iff_mul_le hn).mpr Au;lia
 ·rw[a];exact zJ Au
 ·split
  ·next c =>
   have e:n=0:=Au
   rw[e] at q;exact⟨Ap,.str (tx []),H,I.tok _,⟨_,U⟩,q⟩
  ·split
   ·next c =>
    have e:tx (List.replicate n.toNat u).flatten=tx u:=by
     simp only [Bool.or_eq_true,beq_iff_eq] at c;rcases c with c | c
     ·rw[c];simp
     ·rw[a] at c;rw[Axu c];simp
    rw[e] at q;exact⟨.str (tx u),H,I,⟨_,U⟩,q⟩
   ·have b:(⟨(List.replicate n.toNat (tx u).cps).foldl (·++·) #[]⟩:Str)=tx (List.replicate n.toNat u).flatten:=by
     have:= Agj u n.toNat [];exact congrArg Str.mk this
    rw[b];refine⟨?_,.str (tx (List.replicate n.toNat u).flatten),H,I.tok _,⟨_,U⟩,q⟩;rw[Aw,len_rep,AwH];exact h2
theorem Ae7(x:Str)(c limit:Nat):∀(k i:Nat)(acc:Array Nat)(free:Nat),free<=i->acc.size+k<=limit ->
  (forIn (List.range' i k) (acc,free) (StrLaws.occBody x ⟨#[c]⟩ x.length limit)).run.fst.size=acc.size+((x.cps.toList.drop i).take k).count c
 | 0,i,acc,free,_,_=>AA
 | k+1,i,acc,free,hf,hl=>by
  rw[Axv,AwN];by_cases hc:x.cps.toList[i]?=some c
  ·have h1:=(StrLaws.subAt_one x c i).mpr hc;have e:StrLaws.occBody x ⟨#[c]⟩ x.length limit i (acc,free)=pure (ForInStep.yield (acc.push i,i+(⟨#[c]⟩:Str).length)):=by
    unfold StrLaws.occBody;rw[if_pos ⟨⟨⟨by show acc.size<limit;omega,hf⟩,h1.1⟩,h1.2⟩]
   rw[e];have b:=Ae7 x c limit k (i+1) (acc.push i) (i+(⟨#[c]⟩:Str).length) (AvN _) (by rw[Array.size_push];lia);have f:x.cps.toList.drop i=c::x.cps.toList.drop (i+1):=by
    obtain⟨a,d⟩:=zC.mp hc;rw[AwP a,d]
   rw[f,AwI,List.count_cons_self];rw[Array.size_push] at b;refine Eq.trans b ?_;lia
  ·have h1:=λz=>hc ((StrLaws.subAt_one x c i).mp z);have e:StrLaws.occBody x ⟨#[c]⟩ x.length limit i (acc,free)=pure (ForInStep.yield (acc,free)):=by
    unfold StrLaws.occBody;rw[if_neg λz=>h1 ⟨z.1.2,z.2⟩]
   rw[e];have b:=Ae7 x c limit k (i+1) acc free Au Au;refine Eq.trans b ?_;by_cases a:i<x.cps.toList.length
   ·rw[AwP a,AwI,List.count_cons_of_ne];intro z;exact hc (by rw[AvM a];exact congrArg some z)
   ·rw[List.drop_eq_nil_of_le At,List.drop_eq_nil_of_le At];simp
theorem Akr(l:NI)(c:Nat):(Builtin.Str.occurrences (tx l) ⟨#[c]⟩ 0 (tx l).length ((tx l).length+1)).length=l.count c:=by rw[StrLaws.occ_eq];have:= Ae7 (tx l) c ((tx l).length+1) ((tx l).length+1-0) 0 #[] 0 (AvN _) AA;rw[zK,this,Fw,Aw];simp[Aws]
theorem Inv.Tr{its:NU}(I:Inv X pins σ H s)
  (k:∀ b o,b∉its->s.heap.get? b=some o->h'.get? b=some o) (d:∀ b∈its,Py X pins H b):Inv X pins σ H { s with heap:=h',toks:=t' }:=by
 have a:∀ b u,H b=some u->b∉its:=λb u e z=>by
  have:=(d b z).1;rw[this] at e;cases e
 have x:X.env.locals∉its:=λz=>(d _ z).2.1 U;refine I.step (g':=s.gens) (d':=s.drawn) (ch:=its) (λb j=>?_) (λb o _ _ hc e _=>k b o hc e) (λb o _ _ hc e _=>⟨o.slots,k b o hc e⟩) (λ_ _ _ _ n=>n)
  (λb o hc e=>⟨o,k b o hc e⟩) (λ_ _ e=>e) (λ_ _ _ e=>e) (λb ps e=>⟨#[],by rw[e];simp⟩) (λm i=>?_) (λb u e=>?_) I.bare
 ·obtain⟨_,h2,_,w,f,h⟩:=d b j;exact⟨w,h2,f,h⟩
 ·obtain⟨o,es,p,l,r⟩:=i;exact⟨o,es,p,k _ o x l,r⟩
 ·refine(I.hok b u e).stay (λc v hc q=>k c v ?_ q) (λ_ q=>q) λ_ _ q=>q;rcases hc with z | z
  ·rw[z];exact a b u e
  ·exact a c _ z
theorem Hd.AlW(r:Hd k A):A.units+100<cLine:=by have:=r.un;omega
section
variable {K:NF}
theorem AhA(z:Int):∀ ks:NA,inV (.int z) (vI ks)=decide (z∈ks)
 | []=>by simp[inV,vI]
 | k::ks=>by
  have a:=AhA z ks;unfold inV vI at a ⊢;rw[AvU,Axd,a];by_cases h:k=z
  ·subst h;have:eqV (V.int k) (V.int k)=true:=Abe U;rw[this];simp
  ·have:eqV (V.int k) (V.int z)=false:=by simp[eqV,h]
   rw[this,Bool.false_or];exact z6.mpr (by simp[Ne.symm h])
end
section
theorem Abm(a:A.handled=none)(it:Addr)(x:Str)(t:Tok):Draws prog w A it [it] x.cps.size (λi v=>∃ c u,x.cps[i]?=some c/\v=.str ⟨#[c]⟩ u) (λi h=>h.IsStrIter it (strIterType x) x t i):=by
 unfold strIterType;split
 ·exact Draws.strAscii a it x t
 ·exact Draws.strWide a it x t
structure Yt (z TI TO i1 i2:Addr):Prop where
 TIz:TI≠z
 TOz:TO≠z
 i1z:i1≠z
 i2z:i2≠z
 TITO:TI≠TO
 TIi1:TI≠i1
 TIi2:TI≠i2
 TOi1:TO≠i1
 TOi2:TO≠i2
 i12:i1≠i2
theorem Aks{TI TO:Addr}{a:Value}{Q:NR}(D:Yt z TI TO i1 i2)
  (D1:∀ A':Around,A'.handled=none->Draws prog w A' i1 fp1 n1 P1 S1) (D2:∀ A':Around,A'.handled=none->Draws prog w A' i2 fp2 n2 P2 S2) (J:A.handled=none)
  (f1:∀ c∈fp1,c≠z/\c≠TO/\c≠i2) (f2:∀ c∈fp2,c≠z/\c≠TO/\c≠i1)
  (hz:IsZip s.heap z TI TO .none) (a6:IsPair s.heap TI (.ref i1) (.ref i2)) (a5:IsPair s.heap TO a b) (h1:S1 k s.heap) (h2:S2 k s.heap) (a4:k<n1) (a3:k<n2)
  (hQ:∀ x y h' tk,P1 k x->P2 k y->IsZip h' z TI TO (rawInt s.heap.objs.size)->IsPair h' TO x y->S1 (k+1) h'->S2 (k+1) h'->IsPair h' s.heap.objs.size x y->h'.objs.size=s.heap.objs.size+1 ->
   (∀ c o,c≠z->c≠TO->c≠i1->c≠i2->s.heap.get? c=some o->h'.get? c=some o)->Q (.ref s.heap.objs.size) { s with heap:=h',toks:=tk }) :
  wpAny (model prog w) A (Builtin.«zip.__next__» ⟨[.ref z],[]⟩) (λfin s'=>∃ v,fin=.done (.ret v)/\Q v s') E s:=by
 show wpAny _ _ (field (.ref z) 2 >>= _) _ _ _;refine zA (yD hz U (x:=.bool false) U ?_);refine zA (yD hz U (x:=.ref TI) U ?_);refine zA (wpAny_seqItems a6 U ?_);refine zA ?_;refine zA (yD hz U (x:=.none) U (zE ?_));refine zA (wpAny_rule ?_);refine zA (yD hz U (x:=.ref TO) U ?_);refine zA (wpAny_setField_rec hz AA λh₁ T m=>?_);refine zA ?_;simp only [List.zipIdx_cons,List.zipIdx_nil,AwN,List.forIn_nil];refine zA (zA (wpAny_onRaise ?_));refine zA ((D1 _ J).item k _ _ _ a4 ((D1 A J).frame _ _ _ h1 λc hc o e=>m.extBut _ _ (f1 c hc).1 e) λx K a2 px S f=>zE ?_);have f:Heap.SameBut i1 h₁ K:=f;have r:=f.extBut _ _ D.TOi1 (m.extBut _ _ D.TOz a5);refine zA (wpAny_seqItems r U ?_);refine zA (wpAny_updateSeq_pair r λI H d=>?_);have d:Heap.SameBut TO K I:=d;refine zA (wpAny_letGo (zE ?_));refine zA (zA (wpAny_onRaise ?_));refine zA ((D2 _ J).item k _ _ _ a3 ((D2 A J).frame _ _ _ h2 λc hc o e=>d.extBut _ _ (f2 c hc).2.1 (f.extBut _ _ (f2 c hc).2.2 (m.extBut _ _ (f2 c hc).1 e))) λy Y N py M h=>zE ?_);have h:Heap.SameBut i2 I Y:=h;have u:=h.extBut _ _ D.TOi2 H;refine zA (wpAny_seqItems u U ?_);refine zA (wpAny_updateSeq_pair u λl i j=>?_)
 replace i:IsPair l TO x y:=i
 refine zA (wpAny_letGo (zE (zE ?_)));refine zA (wpAny_seqItems i U ?_);refine zA (wpAny_newTuple ?_);have Z:l.objs.size=s.heap.objs.size:=by rw[j.1,h.1,d.1,f.1,m.1]
 have F:=j.extBut _ _ D.TOz.symm (h.extBut _ _ D.i2z.symm (d.extBut _ _ D.TOz.symm (f.extBut _ _ D.i1z.symm T)));have X:∀ c o,c≠z->c≠TO->c≠i1->c≠i2->s.heap.get? c=some o->l.get? c=some o:=λc o O c2 c3 c4 e =>
  j.extBut _ _ c2 (h.extBut _ _ c4 (d.extBut _ _ c2 (f.extBut _ _ c3 (m.extBut _ _ O e))));have W:=(D1 A J).frame _ _ _ S λc hc o e=>j.extBut _ _ (f1 c hc).2.1 (h.extBut _ _ (f1 c hc).2.2 (d.extBut _ _ (f1 c hc).2.1 e));have R:=(D2 A J).frame _ _ _ M λc hc o e=>j.extBut _ _ (f2 c hc).2.1 e;have L:=Heap.lt_size F;refine zA ?_;have P:IsZip (l.push { cls:=.type "tuple", data:=.seq #[x,y] }) z TI TO .ellipsis:=zB _ F;refine zA (wpAny_setField_rec P AA λa1 q n=>?_)
 replace q:IsZip a1 z TI TO (rawInt l.objs.size):=q
 refine wpAny_setField_rec q AA λB C p=>?_;have up:∀ c o,c≠z->l.get? c=some o->B.get? c=some o:=λc o O e=>p.extBut _ _ O (n.extBut _ _ O (zB _ e));have G:=p.extBut _ _ (Aw6 L) (n.extBut _ _ (Aw6 L) (zD _ U));have a0:B.objs.size=l.objs.size+1:=by rw[p.1,n.1,Heap.size_push]
 rw[Z] at C G a0;refine zE ⟨_,U,?_⟩;rw[Z];exact hQ x y B N px py C (up _ _ D.TOz i) ((D1 A J).frame _ _ _ W λc hc o e=>up _ o (f1 c hc).1 e) ((D2 A J).frame _ _ _ R λc hc o e=>up _ o (f2 c hc).1 e) G a0 λc o O c2 c3 c4 e=>up c o O (X c o O c2 c3 c4 e)
theorem AlX{TI TO:Addr}{a:Value}{Q:Fin->Shared->Prop}(D:Yt z TI TO i1 i2)
  (M:∀ A':Around,A'.handled=none->Draws prog w A' i1 fp1 n1 P1 S1) (Y:∀ A':Around,A'.handled=none->Draws prog w A' i2 fp2 n2 P2 S2) (G:A.handled=none)
  (f1:∀ c∈fp1,c≠z/\c≠TO/\c≠i2) (T:∀ c∈fp2,c≠z/\c≠TO/\c≠i1)
  (H:IsZip s.heap z TI TO .none) (W:IsPair s.heap TI (.ref i1) (.ref i2)) (S:IsPair s.heap TO a b) (h1:S1 k s.heap) (h2:S2 k s.heap) (B:k=n1\/(k<n1/\k=n2))
  (X:∀ h' e tk,(∀ c o,c≠z->c≠TO->c≠i1->c≠i2->s.heap.get? c=some o->h'.get? c=some o)->(∃ o,h'.get? e=some o/\o.cls=.type "StopIteration")->E (.ref e) { s with heap:=h',toks:=tk }) :
  wpAny (model prog w) A (Builtin.«zip.__next__» ⟨[.ref z],[]⟩) Q E s:=by
 show wpAny _ _ (field (.ref z) 2 >>= _) _ _ _;refine zA (yD H U (x:=.bool false) U ?_);refine zA (yD H U (x:=.ref TI) U ?_);refine zA (wpAny_seqItems W U ?_);refine zA ?_;refine zA (yD H U (x:=.none) U (zE ?_));refine zA (wpAny_rule ?_);refine zA (yD H U (x:=.ref TO) U ?_);refine zA (wpAny_setField_rec H AA λh₁ n h=>?_);refine zA ?_;simp only [List.zipIdx_cons,List.zipIdx_nil,AwN,List.forIn_nil];refine zA (zA (wpAny_onRaise ?_));have g1:=(M A G).frame _ _ _ h1 λc hc o e=>h.extBut _ _ (f1 c hc).1 e;rcases B with hk | ⟨O,hk⟩
 ·subst hk;refine zA ((M _ G).done _ _ _ g1 λj e d L=>?_);obtain⟨R,q,r⟩:=L;have y:IsZip j z TI TO .ellipsis:=d _ _ D.i1z.symm n;have u:e≠z:=λx=>AD
  refine wpAny_setField_rec y AA λl _ f=>X l e _ (λc o F _ P _ x=>f.extBut _ _ F (d _ _ P (h.extBut _ _ F x))) ⟨R,f.extBut _ _ u q,r⟩
 ·refine zA ((M _ G).item k _ _ _ O g1 λx j K px N d=>zE ?_);have d:Heap.SameBut i1 h₁ j:=d;have i:=d.extBut _ _ D.TOi1 (h.extBut _ _ D.TOz S);refine zA (wpAny_seqItems i U ?_);refine zA (wpAny_updateSeq_pair i λl J f=>?_);have f:Heap.SameBut TO j l:=f;refine zA (wpAny_letGo (zE ?_));refine zA (zA (wpAny_onRaise ?_));subst hk;refine zA ((Y _ G).done _ _ _ ((Y A G).frame _ _ _ h2 λc hc o e=>f.extBut _ _ (T c hc).2.1 (d.extBut _ _ (T c hc).2.2 (h.extBut _ _ (T c hc).1 e))) λC e p L=>?_);obtain⟨R,q,r⟩:=L;have v:IsZip C z TI TO .ellipsis:=p _ _ D.i2z.symm (f.extBut _ _ D.TOz.symm (d.extBut _ _ D.i1z.symm n));have u:e≠z:=λx=>AD
  refine wpAny_setField_rec v AA λI _ m=>X I e _ (λc o F Z P c4 x=>m.extBut _ _ F (p _ _ c4 (f.extBut _ _ Z (d.extBut _ _ P (h.extBut _ _ F x))))) ⟨R,m.extBut _ _ u q,r⟩
theorem AhB{TI TO:Addr}{a:Value}{Q:NY->Shared->Prop}(D:Yt z TI TO i1 i2)
  (H:∀ A':Around,A'.handled=none->Draws prog w A' i1 fp1 n1 P1 S1) (G:∀ A':Around,A'.handled=none->Draws prog w A' i2 fp2 n2 P2 S2) (u:A.handled=none)
  (K:∀ c∈fp1,c≠z/\c≠TO/\c≠i2) (I:∀ c∈fp2,c≠z/\c≠TO/\c≠i1)
  (j:IsZip s.heap z TI TO .none) (f:IsPair s.heap TI (.ref i1) (.ref i2)) (e:IsPair s.heap TO a b) (h1:S1 k s.heap) (h2:S2 k s.heap) (h:k<n1) (d:k<n2)
  (n:∀ x y h' tk,P1 k x->P2 k y->IsZip h' z TI TO (rawInt s.heap.objs.size)->IsPair h' TO x y->S1 (k+1) h'->S2 (k+1) h'->IsPair h' s.heap.objs.size x y->h'.objs.size=s.heap.objs.size+1 ->
   (∀ c o,c≠z->c≠TO->c≠i1->c≠i2->s.heap.get? c=some o->h'.get? c=some o)->Q (some (.ref s.heap.objs.size)) { s with heap:=h',toks:=tk }) :
  wpAny (model prog w) A (pyNext (.ref z)) Q E s:=by
 have i:s.TypeIs (.ref z) "zip" := ⟨_,j,U⟩;exact zA (wpAny_attempt (wpAny_callSpecial?_slot i F.slot_zip_next
  (wpAny_call_entry F.slot_zip_next i F.entry_zip_next
   (Aks D H G u K I j f e h1 h2 h d λx y h' tk B p q m C r v J l=>zE (n x y h' tk B p q m C r v J l)) (F.args_zip_next_1 _))))
theorem Akt{TI TO:Addr}{a:Value}{Q:NY->Shared->Prop}(D:Yt z TI TO i1 i2)
  (q:∀ A':Around,A'.handled=none->Draws prog w A' i1 fp1 n1 P1 S1) (p:∀ A':Around,A'.handled=none->Draws prog w A' i2 fp2 n2 P2 S2) (n:A.handled=none)
  (v:∀ c∈fp1,c≠z/\c≠TO/\c≠i2) (r:∀ c∈fp2,c≠z/\c≠TO/\c≠i1)
  (j:IsZip s.heap z TI TO .none) (h:IsPair s.heap TI (.ref i1) (.ref i2)) (f:IsPair s.heap TO a b) (h1:S1 k s.heap) (h2:S2 k s.heap) (d:k=n1\/(k<n1/\k=n2))
  (l:∀ h' tk,(∀ c o,c≠z->c≠TO->c≠i1->c≠i2->s.heap.get? c=some o->h'.get? c=some o)->Q none { s with heap:=h',toks:=tk }):wpAny (model prog w) A (pyNext (.ref z)) Q E s:=by
 have i:s.TypeIs (.ref z) "zip" := ⟨_,j,U⟩;refine zA (wpAny_attempt (wpAny_callSpecial?_slot i F.slot_zip_next
  (wpAny_call_entry F.slot_zip_next i F.entry_zip_next (AlX D q p n v r j h f h1 h2 d λh' e tk hk m=>?_) (F.args_zip_next_1 _))));obtain⟨o,u,hc⟩:=m;refine zA (wpAny_isInstance ⟨o,u,hc⟩ isSubtype_stop ?_);exact zE (l _ _ hk)
abbrev Wh (x:Str)(t:Tok):Obj:={ cls:=.type (strIterType x),data:=.fields #[.str x t,.int 0 0] }
abbrev AlY (l:Addr):Obj:={ cls:=.type "list_iterator", data:=.fields #[.ref l,.int 0 0] }
abbrev NQ (h:Heap)(o1 o2:Obj):Heap:=((((h.push o1).push o2).push { cls:=.type "tuple", data:=.seq #[.ref h.objs.size,.ref (h.push o1).objs.size] }).push { cls:=.type "tuple", data:=.seq #[.none,.none] }).push
 { cls:=.type "zip", data:=.fields #[.none,.bool false,.bool false,.ref ((h.push o1).push o2).objs.size,.ref (((h.push o1).push o2).push { cls:=.type "tuple", data:=.seq #[.ref h.objs.size,.ref (h.push o1).objs.size] }).objs.size] }
abbrev Ad7 (h:Heap)(o1 o2:Obj):Addr:=((((h.push o1).push o2).push { cls:=.type "tuple", data:=.seq #[.ref h.objs.size,.ref (h.push o1).objs.size] }).push { cls:=.type "tuple", data:=.seq #[.none,.none] }).objs.size
set_option maxHeartbeats 4000000 in
theorem Agk(l1:Addr)(xs:Array Value)(x:Str)(t:Tok) :
  Meets (Builtin.«zip.__new__» ⟨[.type "zip", .ref l1,.str x t],[]⟩) (λ_ R s=>s.heap.IsList l1 xs/\R (.ok (.ret (.ref (Ad7 s.heap (AlY l1) (Wh x t))))) { s with heap:=NQ s.heap (AlY l1) (Wh x t) }) :=
 .of_wp λprog w A R s h=>by
  obtain⟨e,g,d,tk,os⟩:=s;obtain⟨b,h⟩:=h;have c:=sub_zip;have a:Heap.IsList (Shared.heap ⟨e,g,d,tk,os⟩) l1 xs:=b
  wp_walk using wpAny_pyIter_list a,wpAny_pyIter_strU
  exact⟨_,U,h⟩
set_option maxHeartbeats 4000000 in
theorem Agl(y:Str)(u:Tok)(x:Str)(t:Tok) :
  Meets (Builtin.«zip.__new__» ⟨[.type "zip", .str y u,.str x t],[]⟩) (λ_ R s=>R (.ok (.ret (.ref (Ad7 s.heap (Wh y u) (Wh x t))))) { s with heap:=NQ s.heap (Wh y u) (Wh x t) }) :=
 .of_wp λprog w A R s h=>by
  obtain⟨b,g,d,tk,os⟩:=s;have a:=sub_zip
  wp_walk using wpAny_pyIter_strU
  exact⟨_,U,h⟩
end
inductive Src where
 | l (a:Addr)
 | s (z:Str)
def Atv:Src->V
 | .l a=>.ref a
 | .s z=>.str z
def Abn (K:NF)(H:Hp):Src->Prop
 | .l a=>∃ xs,SqL K H a xs
 | .s _=>True
def NT (K:NF)(H:Hp):Src->Nat->V->Prop
 | .l a,i,v=>∃ xs,SqL K H a xs/\xs[i]?=some v
 | .s z,i,v=>∃ c,z.cps[i]?=some c/\v=.str ⟨#[c]⟩
def AhC (K:NF)(H:Hp):Src->Nat->Prop
 | .l a,i=>∃ xs,SqL K H a xs/\xs.length=i
 | .s z,i=>z.cps.size=i
def Wi (it:Addr)(t:Tok):Src->Nat->Heap->Prop
 | .l a,i,h=>h.IsListIter it a i
 | .s z,i,h=>h.IsStrIter it (strIterType z) z t i
def AlZ (it:Addr):Src->NU
 | .l a=>[it,a]
 | .s _=>[it]
theorem Abo(I:Inv X pins σ H s)(h1:NT X.K H S i u)(h2:NT X.K H S i v):u=v:=by
 cases S with
 | l a =>
  obtain⟨xs,h,e⟩:=h1;obtain⟨ys,f,b⟩:=h2;rw[I.Rr f h,e] at b;exact Option.some.inj b
 | s z =>
  obtain⟨c,e,rfl⟩:=h1;obtain⟨d,b,rfl⟩:=h2;rw[e] at b;cases b;rfl
theorem Tt(I:Inv X pins σ H s){t:Tok}(st:Wi it t S i s.heap)(ok:Abn X.K H S)(B:∀ a,S=.l a->a≠it) :
  ∃(n:Nat)(y:Nat->Value->Prop)(m:Nat->Heap->Prop),(∀ b:Around,b.handled=none->Draws X.prog X.w b it (AlZ it S) n y m)/\m i s.heap/\(∀ h',m (i+1) h'->Wi it t S (i+1) h') /\
   (∀ v,NT X.K H S i v->i<n/\∀ u,y i u->RelV v u)/\(AhC X.K H S i->i=n):=by
 cases S with
 | l a =>
  obtain⟨xs,q⟩:=ok;obtain⟨its,x,p1,_⟩:=I.list q;have len:=x.length;refine⟨_,_,_,λb j=>Draws.list j it a (B a U) its.toArray,⟨st,p1.isList⟩,λh' z=>z.1,λv k=>?_,λh=>?_⟩
  ·obtain⟨ys,o,e⟩:=k;rw[I.Rr o q] at e;obtain⟨u,f,r⟩:=x.get e;refine⟨by have:= (zC.mp f).1;simpa using this,λC p=>?_⟩;have:its[i]?=some C:=by simpa using p
   grind
  ·obtain⟨ys,o,e⟩:=h;rw[I.Rr o q] at e;grind
 | s z =>
  refine⟨_,_,_,λb j=>Abm j it z t,st,λh' z=>z,λv k=>?_,λh=>h.symm⟩;obtain⟨c,e,rfl⟩:=k;refine⟨by rw[Array.getElem?_eq_some_iff] at e;exact e.1,λu ⟨d,tk,A,f⟩=>?_⟩;rw[e] at A;cases A;exact⟨tk,f⟩
def Agm (K:NF)(S1 S2:Src):It where
 go:=λi H=>(∃ u,NT K H S1 i u)/\∃ v,NT K H S2 i v
 yld:=λi H x H'=>∃ T,x=.ref T/\H T=none/\∀ u v,NT K H S1 i u->NT K H S2 i v->H'=upd H T (.tup [u,v])
 stop:=λi H=>Abn K H S1/\Abn K H S2/\(AhC K H S1 i\/((∃ u,NT K H S1 i u)/\AhC K H S2 i))
theorem Agn{K:NF}(h:NT K H S i u):Abn K H S:=by
 cases S with
 | l a=>obtain⟨xs,q,_⟩:=h;exact⟨xs,q⟩
 | s z=>trivial
def Ar6 (z TI TO i1 i2:Addr)(t1 t2:Tok)(S1 S2:Src)(i:Nat)(h:Heap):Prop:=IsZip h z TI TO .none/\IsPair h TI (.ref i1) (.ref i2)/\(∃ p q,IsPair h TO p q)/\Wi i1 t1 S1 i h/\Wi i2 t2 S2 i h
theorem Wj{t:Tok}(st:Wi it t S i h)(k:∀ o,h.get? it=some o->h'.get? it=some o):Wi it t S i h':=by
 cases S with
 | l a=>exact Heap.IsListIter.at st k
 | s z=>obtain⟨o,e,c⟩:=st;exact⟨o,k o e,c⟩
theorem Tu{t:Tok}(st:Wi it t S i h):∃ o,h.get? it=some o/\∀ v,o.data≠.cell v:=by
 cases S with
 | l a=>obtain⟨o,e,_,d⟩:=st;exact⟨o,e,λv z=>AB⟩
 | s z=>obtain⟨o,e,_,d⟩:=st;exact⟨o,e,λv z=>AB⟩
theorem Aku{K:NF}{TI TO:Addr}{t1 t2:Tok}{S1 S2:Src}(D:Yt z TI TO i1 i2)
  (r:∀ a,S1=.l a->a≠z/\a≠TO/\a≠i1/\a≠i2) (n:∀ a,S2=.l a->a≠z/\a≠TO/\a≠i1/\a≠i2) :
  Turn P w K (.Tuple es kx tp) (Agm K S1 S2) [z,TI,TO,i1,i2] z (Ar6 z TI TO i1 i2 t1 t2 S1 S2):=by
 have f1:∀ c∈AlZ i1 S1,c≠z/\c≠TO/\c≠i2:=λc hc=>by
  cases S1 with
  | l a =>
   rcases yG.mp hc with e | e
   ·subst e;exact⟨D.i1z,D.TOi1.symm,D.i12⟩
   ·rw[zF.mp e];exact⟨(r a U).1,(r a U).2.1,(r a U).2.2.2⟩
  | s x=>rw[zF.mp hc];exact⟨D.i1z,D.TOi1.symm,D.i12⟩
 have f2:∀ c∈AlZ i2 S2,c≠z/\c≠TO/\c≠i1:=λc hc=>by
  cases S2 with
  | l a =>
   rcases yG.mp hc with e | e
   ·subst e;exact⟨D.i2z,D.TOi2.symm,D.i12.symm⟩
   ·rw[zF.mp e];exact⟨(n a U).1,(n a U).2.1,(n a U).2.2.1⟩
  | s x=>rw[zF.mp hc];exact⟨D.i2z,D.TOi2.symm,D.i12.symm⟩
 exact {
  mem:=AA
  obj:=λi h st c hc=>by
   obtain⟨s1,b,⟨p,q,m⟩,d,j⟩:=st;simp only [Awb,Awc,or_false] at hc;rcases hc with e | e | e | e | e
   ·simp_all
   ·simp_all
   ·simp_all
   ·subst e;exact Tu d
   ·subst e;exact Tu j
  keep:=λi h h' st k=>by
   obtain⟨s1,b,⟨p,q,m⟩,d,j⟩:=st;exact⟨k _ AA _ s1,k _ AA _ b,⟨p,q,k _ AA _ m⟩,Wj d λo e=>k _ AA o e,Wj j λo e=>k _ AA o e⟩
  item:=by
   intro X R hw T hc i pins s σ H E I Q st J;subst R hw T;obtain⟨⟨x,S⟩,y,O⟩:=J;obtain⟨s1,b,⟨p,q,m⟩,d,j⟩:=st;obtain⟨n1,P1,Q1,M,g1,e1,W,_⟩:=Tt I d (Agn S) (λa e=>(r a e).2.2.1);obtain⟨n2,P2,Q2,N,g2,e2,Z,_⟩:=Tt I j (Agn O) (λa e=>(n a e).2.2.2);obtain⟨l1,r1⟩:=W x S;obtain⟨l2,r2⟩:=Z y O;refine AhB D M N (I.ok.hd hc) f1 f2 s1 b m g1 g2 l1 l2 λu v h1 tk pu pv z1 w1 j1 j2 hT a0 F=>?_;have ru:=r1 u pu;have G:=r2 v pv;refine⟨_,U,wpAny_letOwnedTupleGo_zip z1 λh2 z2 sb=>?_⟩;have zl:=Heap.lt_size s1;have a3:=Heap.lt_size b;have a5:=Heap.lt_size m;have a4:i1<s.heap.objs.size:=by obtain⟨_,e,_⟩:=Tu d;exact Heap.lt_size e
   have a6:i2<s.heap.objs.size:=by obtain⟨_,e,_⟩:=Tu j;exact Heap.lt_size e
   have B:∀ c o,c≠z->h1.get? c=some o->h2.get? c=some o:=λc o c1 e=>(sb.2 c c1).trans e;have L:=I.hok.fresh (AvN _);have I1:Inv X pins σ (upd H s.heap.objs.size (.tup [x,y])) { s with heap:=s.heap.push { cls:=.type "tuple", data:=.seq #[u,v] },toks:=tk } :=
    I.laid (λc o e=>zB _ e) (AvN _) ⟨AH,[u,v],.cons ru (.cons G .nil),⟨_,zD _ U,U,_,U⟩⟩;have fp2:∀ c∈[z,TI,TO,i1,i2],Py X pins (upd H s.heap.objs.size (.tup [x,y])) c:=λc hc=>by
    obtain⟨f0,f⟩:=Q c hc;refine⟨?_,f⟩;have lt:c<s.heap.objs.size:=by
     simp only [Awb,Awc,or_false] at hc;rcases hc with e | e | e | e | e <;> subst e <;> assumption
    rw[Ai (AvY lt)];exact f0
   have I2:Inv X pins σ (upd H s.heap.objs.size (.tup [x,y])) { s with heap:=h2,toks:=tk }:=by
    refine Inv.Tr (s:={ s with heap:=s.heap.push { cls:=.type "tuple", data:=.seq #[u,v] },toks:=tk }) I1 (λc o hc e=>?_) fp2;simp only [Awb,Awc,or_false,not_or] at hc;refine B c o hc.1 ?_;by_cases C:c=s.heap.objs.size
    ·subst C;have Y:(s.heap.push { cls:=.type "tuple", data:=.seq #[u,v] }).get? s.heap.objs.size=some { cls:=.type "tuple", data:=.seq #[u,v] }:=zD _ U;rw[Y] at e;cases e;exact hT
    ·have Y:s.heap.get? c=some o:=by
      rw[<- e];exact(Heap.get?_push_ne _ _ _ C).symm
     exact F c o hc.1 hc.2.2.1 hc.2.2.2.1 hc.2.2.2.2 Y
   refine⟨.ref s.heap.objs.size,_,I2,U,⟨s.heap.objs.size,U,L,λu' v' q1 q2=>?_⟩,⟨z2,B _ _ D.TIz (F _ _ D.TIz D.TITO D.TIi1 D.TIi2 b),⟨u,v,B _ _ D.TOz w1⟩,Wj (e1 _ j1) λo e=>B _ o D.i1z e,Wj (e2 _ j2) λo e=>B _ o D.i2z e⟩,λc hc=>(fp2 c hc).1⟩;rw[Abo I q1 S,Abo I q2 O]
  done:=by
   intro X R hw T hc i pins s σ H E I Q st J;subst R hw T;obtain⟨o1,o2,A⟩:=J;obtain⟨s1,b,⟨p,q,m⟩,d,j⟩:=st;obtain⟨n1,P1,Q1,M,g1,e1,W,d1⟩:=Tt I d o1 (λa e=>(r a e).2.2.1);obtain⟨n2,P2,Q2,N,g2,e2,Z,d2⟩:=Tt I j o2 (λa e=>(n a e).2.2.2);have he:i=n1\/(i<n1/\i=n2):=by
    rcases A with h | ⟨⟨u,hu⟩,h⟩
    ·exact .inl (d1 h)
    ·exact .inr ⟨(W u hu).1,d2 h⟩
   refine Akt D M N (I.ok.hd hc) f1 f2 s1 b m g1 g2 he λh' tk F=>⟨U,I.Tr (λc o hc e=>?_) Q⟩;simp only [Awb,Awc,or_false,not_or] at hc;exact F c o hc.1 hc.2.2.1 hc.2.2.2.1 hc.2.2.2.2 e
  self:=λ_ _ _ _ _ st h=>wpAny_pyIter_zip st.1 h }
theorem Ago{o1 o2:Obj}(k:o1.isFreed=false)(j:o2.isFreed=false):Ad7 h o1 o2=h.objs.size+4/\IsZip (NQ h o1 o2) (h.objs.size+4) (h.objs.size+2) (h.objs.size+3) .none /\
  IsPair (NQ h o1 o2) (h.objs.size+2) (.ref h.objs.size) (.ref (h.objs.size+1))/\IsPair (NQ h o1 o2) (h.objs.size+3) .none .none/\(NQ h o1 o2).get? h.objs.size=some o1/\(NQ h o1 o2).get? (h.objs.size+1)=some o2 /\
  ∀ c o,h.get? c=some o->(NQ h o1 o2).get? c=some o:=by
 have d:(h.push o1).objs.size=h.objs.size+1:=Heap.size_push ..;have a:((h.push o1).push o2).objs.size=h.objs.size+2:=by rw[Heap.size_push,d]
 have b:(((h.push o1).push o2).push { cls:=.type "tuple", data:=.seq #[.ref h.objs.size,.ref (h.push o1).objs.size] }).objs.size=h.objs.size+3:=by rw[Heap.size_push,a]
 have e:Ad7 h o1 o2=h.objs.size+4:=by unfold Ad7;rw[Heap.size_push,b]
 have f:(NQ h o1 o2).get? (Ad7 h o1 o2)=some _:=zD _ U;have i:(NQ h o1 o2).get? (((h.push o1).push o2).push { cls:=.type "tuple", data:=.seq #[.ref h.objs.size,.ref (h.push o1).objs.size] }).objs.size=some _:=zB _ (zD _ U);have g3:(NQ h o1 o2).get? ((h.push o1).push o2).objs.size=some _:=zB _ (zB _ (zD _ U));have g2:(NQ h o1 o2).get? (h.push o1).objs.size=some o2:=zB _ (zB _ (zB _ (zD _ j)));have g1:(NQ h o1 o2).get? h.objs.size=some o1:=zB _ (zB _ (zB _ (zB _ (zD _ k))));refine⟨e,?_,?_,?_,g1,?_,λc o x=>zB _ (zB _ (zB _ (zB _ (zB _ x))))⟩
 ·rw[e,a,b] at f;exact f
 ·rw[a,d] at g3;exact g3
 ·rw[b] at i;exact i
 ·rw[d] at g2;exact g2
theorem ane{a b:Nat}(h:a≠b):@Ne Addr a b:=h
theorem lne{a:Nat}(h:a<n)(k:Nat):@Ne Addr a (n+k):=λz=>by have z:a=n+k:=z;omega
theorem AhD(n:Nat):Yt (n+4) (n+2) (n+3) n (n+1) where
 TIz:=ane Au
 TOz:=ane Au
 i1z:=ane Au
 i2z:=ane Au
 TITO:=ane Au
 TIi1:=ane Au
 TIi2:=ane Au
 TOi1:=ane Au
 TOi2:=ane Au
 i12:=ane Au
def zOk:Src->Src->Prop
 | .s _,.l _=>False
 | _,_=>True
inductive Apf (K:NF)(R:(It->Hp->Prop))(vs:Na)(H1:Hp):Prop
|mk(S1:_)(S2:_)(_:vs=[Atv S1,Atv S2])(_:zOk S1 S2)(_:Abn K H1 S1)(_:Abn K H1 S2)(_:R (Agm K S1 S2) H1)
def Atw (K:NF)(ta:TA)(σ:St)(H:Hp)(R:(It->Hp->Prop)):Prop:=ta σ H (Apf K R)
theorem Ae8{K:NF}{a b:Expr}{ta:TA}{p:Pos}(hg:Gl X "zip") (Z:X.mg "zip" = none) (Y:PA X [a,b] ta) (hK:X.K=K:=by rfl) (T:starEach [a,b] X.env=[(false,eval a X.env),(false,eval b X.env)]:=by rfl) (u:starEach [b] X.env=[(false,eval b X.env)]:=by rfl) :
  PI X (.Tuple es kx tp) (.Call (.Name "zip" p) [a,b] [] pos) (Atw K ta):=by
 subst hK;intro pins s σ H R I h;refine Call_ (Iz I hg Z Ary (PyProof.Rows.callWith_type1 (thn (Y pos pins s σ H _ I h) λus s1 ⟨vs,H1,n,Q,q1⟩=>?_) (by rw[T,u]) (by rw[u];rfl)));obtain⟨S1,S2,e,W,o1,o2,q⟩:=q1;subst e;obtain⟨u1,u2,rfl,z,j⟩:=Q.two;have fin:∀(r M:Tok)(h':Heap)(tk:Nat),IsZip h' (s1.heap.objs.size+4) (s1.heap.objs.size+2) (s1.heap.objs.size+3) .none->IsPair h' (s1.heap.objs.size+2) (.ref s1.heap.objs.size) (.ref (s1.heap.objs.size+1))->IsPair h' (s1.heap.objs.size+3) .none .none ->
   Wi s1.heap.objs.size r S1 0 h'->Wi (s1.heap.objs.size+1) M S2 0 h'->(∀ c o,s1.heap.get? c=some o->h'.get? c=some o) ->
   wpAny (model X.prog X.w) X.A (pyIter (.ref (s1.heap.objs.size+4))) (PIE X pins σ (.Tuple es kx tp) R) X.xe { s1 with heap:=h',toks:=tk }:=λr M h' tk d m f E C k=>by
  refine wpAny_pyIter_zip d ?_;have lt:∀ S:Src,Abn X.K H1 S->∀ a,S=.l a->a<s1.heap.objs.size:=λS ok a e=>by
   subst e;obtain⟨xs,q⟩:=ok;obtain⟨its,_,p1,_⟩:=n.list q;obtain⟨o,e,_⟩:=p1.isList;exact Heap.lt_size e
  refine⟨_,[s1.heap.objs.size+4,s1.heap.objs.size+2,s1.heap.objs.size+3,s1.heap.objs.size,s1.heap.objs.size+1],_,_,H1,U,n.kept k,Aku (AhD _) (λa e=>?_) (λa e=>?_),
   ⟨d,m,⟨_,_,f⟩,E,C⟩,λc hc=>?_,q⟩
  ·have:= lt S1 o1 a e;exact⟨lne this 4,lne this 3,lne this 0,lne this 1⟩
  ·have:= lt S2 o2 a e;exact⟨lne this 4,lne this 3,lne this 0,lne this 1⟩
  ·have O:s1.heap.objs.size<=c:=by
    grind
   exact n.Ahp O (n.hok.fresh O)
 cases S1 with
 | l a =>
  cases z;obtain⟨xs,L⟩:=id o1;obtain⟨B,a1,p1,_⟩:=n.list L;cases S2 with
  | l b =>
   cases j;obtain⟨ys,J⟩:=id o2;obtain⟨N,a0,p2,_⟩:=n.list J;refine call_zip_2 p1.isList p2.isList λh' d m f E C P k=>fin 0 0 h' s1.toks d m f E C k
  | s x =>
   obtain⟨t,rfl⟩:=j;refine callType_new F.called_zip Ap (F.typeCall_zip_2 _ _) (F.newCall_zip_2 _ _) (λi=>F.args_object_init_3 i _ _) F.entry_zip_new (Agk a B.toArray x t) ⟨p1.isList,?_⟩;obtain⟨G,v,g3,D,g1,g2,k⟩:=Ago (o1:=AlY a) (o2:=Wh x t) U rfl;show _/\_;rw[G];exact⟨⟨_,v,U⟩,fin 0 t _ s1.toks v g3 D ⟨_,g1,U,U⟩ ⟨_,g2,U,U⟩ k⟩
 | s y =>
  obtain⟨r,rfl⟩:=z;cases S2 with
  | l b=>exact W.elim
  | s x =>
   obtain⟨t,rfl⟩:=j;refine callType_new F.called_zip Ap (F.typeCall_zip_2 _ _) (F.newCall_zip_2 _ _) (λi=>F.args_object_init_3 i _ _) F.entry_zip_new (Agl y r x t) ?_;obtain⟨G,v,g3,D,g1,g2,k⟩:=Ago (o1:=Wh y r) (o2:=Wh x t) U rfl;rw[G];exact⟨⟨_,v,U⟩,fin r t _ s1.toks v g3 D ⟨_,g1,U,U⟩ ⟨_,g2,U,U⟩ k⟩
theorem Akv:typeLookup (.type "list_reverseiterator") "__len__" = pure none:=by rw[typeLookup_type,builtinLookup_eq_fast];kernel_rfl
theorem Ama:typeLookup (.type "list_reverseiterator") "__length_hint__" = pure (some (.builtin "list_reverseiterator.__length_hint__")):=by rw[typeLookup_type,builtinLookup_eq_fast];kernel_rfl
section
variable {R:Result->Shared->Prop}{fp wr:NU}{G:Array GenState->Array GenState->Prop}{P:Nat->Value->Prop}{St:Nat->Shared->Prop}
theorem AhE(V:WalksS prog w A.in1 it fp wr G n P St)(ty:∀ i s,St i s->s.TypeIs (.ref it) "list_reverseiterator") (M:Addr) (h:Value) (c:Nat) (a:St 0 s) (o:M∉fp) (r:it∈fp) (x:s.heap.get? M=some { cls:=.type "list", data:=.seq #[] c })
  (fin:∀ s' acc m,Moved (M::wr) G s s'->s'.heap.get? M=some { cls:=.type "list", dict:=none,data:=.seq acc m,slots:=#[] }->ItemsOf P acc n->R (.ok (.ret h)) s') (hn:n<=sizeLine) :
  wpAny (model prog w) A.in1 (Builtin.List.listExtendWith (.ref M) (.ref it) h)
   (λf s'=>match f with | .done d=>R (.ok d) s' | .again k=>k.quiet=true/\codeAny (model prog w) A k R s') (λe s'=>R (.error e) s') s:=by
 have u:M≠it:=λe=>o (e▸r);have q:Builtin.List.listSameRef (.ref M) (.ref it)=false:=by simp[Builtin.List.listSameRef,u]
 unfold Builtin.List.listExtendWith;refine zA (wpAny_typeOf (ty 0 _ a) ?_);rw[if_neg (by rw[q];decide)];refine zA (V.self 0 _ _ _ a ?_);refine zA (yB ?_);unfold Builtin.List.listLengthHint;refine zA (wpAny_specialOf (ty 0 _ a) Akv ?_);show wpAny _ A.in1 (specialOf (Value.ref it) (Str.ofString "__length_hint__") >>= _) _ _ _;refine zA (wpAny_specialOf (ty 0 _ a) Ama ?_);generalize j:("list_reverseiterator.__length_hint__" : String)=name
 wp_delta
 rw[show splitId name=some ("list_reverseiterator", "__length_hint__") from by subst j;decide +kernel];subst j;refine zA (wpAny_isInstance (b:=true) (ty 0 _ a) (by rw[isSubtype_type];kernel_rfl) ?_);refine zE ?_;rw[if_neg Ap];refine zE ⟨plainId_quiet F.plain_extend_loop _,codeAny_extend_loopS V hn _ o _ n 0 _ _ _ U (AvV _) a x (ItemsOf.nil P) λs' acc m v l p=>?_⟩;exact fin s' acc m v l p
theorem Amb(V:WalksS prog w A.in1 it fp wr G n P St)(ty:∀ i s,St i s->s.TypeIs (.ref it) "list_reverseiterator") (M:Addr) (m:St 0 s) (q:M∉fp) (u:it∈fp) (p:s.heap.get? M=some { cls:=.type "list", data:=.seq #[] })
  (fin:∀ s' acc l,Moved (M::wr) G s s'->s'.heap.get? M=some { cls:=.type "list", dict:=none,data:=.seq acc l,slots:=#[] }->ItemsOf P acc n->R (.ok (.ret .none)) s') (hn:n<=sizeLine) :
  wpAny (model prog w) A.in1 (Builtin.«list.__init__» ⟨[.ref M,.ref it],[]⟩)
   (λf s'=>match f with | .done d=>R (.ok d) s' | .again k=>k.quiet=true/\codeAny (model prog w) A k R s') (λe s'=>R (.error e) s') s:=by
 show wpAny _ A.in1 (do let old <- Builtin.List.listItems (.ref M);Builtin.List.listUpdate (.ref M) (λ_=>#[]);letGo old.toList.reverse;Builtin.List.listExtendWith (.ref M) (.ref it) .none) _ _ s;refine zA ?_;unfold Builtin.List.listItems;refine zA (wpAny_seqItems p U (zE ?_));show wpAny _ A.in1 (updateSeq M (λ_=>#[]) >>= λ_=>letGo (#[]:Array Value).toList.reverse >>= λ_=>Builtin.List.listExtendWith (.ref M) (.ref it) .none) _ _ s;refine zA (wpAny_updateSeq p U ?_);have c:=zR (Obj.mapSeq (λ_=>(#[]:Array Value))) p U;have a:∀ b o,b≠M->s.heap.get? b=some o->(s.heap.update M (Obj.mapSeq (λ_=>(#[]:Array Value)))).get? b=some o:=λb o nb e=>(zH _ _ (Ne.symm nb)).trans e;refine zA (wpAny_letGo ?_);refine AhE V ty M .none _ (V.frame 0 s _ s.toks m (AvN _) λb j o e=>a b o (λz=>q (z▸j)) e) q u c (λs' acc l v h r=>?_) hn;exact fin s' acc l (Moved.trans V.gtrans ((Moved.refl V.grefl).then_heap (AvN _) λb o j e=>a b o (λz=>j (z▸AvP)) e) v) h r
theorem Amc{Q:NR}(V:WalksS prog w A.in1.in1 it fp wr G n P St)(ty:∀ i s,St i s->s.TypeIs (.ref it) "list_reverseiterator") (f:St 0 s) (a:∀ b∈fp,b<s.heap.objs.size) (m:it∈fp)
  (fin:∀ s' acc d,Moved (s.heap.objs.size::wr) G { s with heap:=s.heap.push { cls:=.type "list", data:=.seq #[] } } s' ->
   s'.heap.get? s.heap.objs.size=some { cls:=.type "list", dict:=none,data:=.seq acc d,slots:=#[] }->ItemsOf P acc n->Q (.ref s.heap.objs.size) s') (hn:n<=sizeLine) :
  wpAny (model prog w) A (call (.type "list") [.ref it]) Q E s:=by
 have k:s.heap.objs.size∉fp:=λz=>Aww _ (a _ z);refine callType_codes (Q₁:=λh s1=>h=.ref s.heap.objs.size/\s1={ s with heap:=s.heap.push { cls:=.type "list", data:=.seq #[] } }) F.called_list (F.typeCall_list_1 _) F.entry_list_init (code_list_new _ ⟨rfl,rfl⟩) λh s1 h1=>?_;obtain⟨rfl,rfl⟩:=h1;have j:(s.heap.push { cls:=.type "list", data:=.seq #[] }).get? s.heap.objs.size=some { cls:=.type "list", data:=.seq #[] }:=zD _ U;refine⟨⟨_,j,U⟩,F.args_list_init_2 _ _,Amb V ty _ (V.frame 0 s _ s.toks f (AvN _) λb _ o e=>zB _ e) k m j (λs' acc d p c l=>?_) hn⟩;exact⟨U,fin s' acc d p c l⟩
end
section
variable {K:NF}{p1 p2 pos1 pos2:Pos}{te:TE}
inductive AhF (K:NF)(Q:VK)(x:V)(H1:Hp):Prop
|mk(a:_)(ys:_)(_:x=.ref a)(_:SqL K H1 a ys)(_:ys.length<=1000)(_:∀ l,H1 l=none->Q (.ref l) (upd H1 l (.lst ys.reverse)))
def Amd (K:NF)(te:TE)(σ:St)(H:Hp)(Q:VK):Prop:=te σ H (AhF K Q)
theorem Abp(B:Gl X "list") (z:X.mg "list" = none) (G:Gl X "reversed") (y:X.mg "reversed" = none) (S:PE X e te) (Y:X.K=K:=by rfl) (hc:X.calm=true:=by rfl)
  (f:starEach [e] X.env=(false,eval e X.env)::starEach [] X.env:=by rfl)
  (c:starEach [.Call (.Name "reversed" p2) [e] [] pos2] X.env=(false,eval (.Call (.Name "reversed" p2) [e] [] pos2) X.env)::starEach [] X.env:=by rfl)
  (E:(backTo pos1 (starEach [] X.env)).any (·.1)=false:=by rfl) (p:(backTo pos2 (starEach [] X.env)).any (·.1)=false:=by rfl) :
  PE X (.Call (.Name "list" p1) [.Call (.Name "reversed" p2) [e] [] pos2] [] pos1) (Amd K te):=by
 subst Y;intro pins s σ H Q I h;have R:sizeLine=16777216:=yA;refine wpAny_Call_Name_kw (Iz I B z Jt ?_);refine PyProof.Rows.callWith_type1 ?_ c E;rw[c];show wpAny _ _ (spliced ((false,eval (.Call (.Name "reversed" p2) [e] [] pos2) X.env)::backTo pos1 (starEach [] X.env))) _ _ s;refine Calls.spliced_cons ?_;refine wpAny_Call_Name_kw (Iz I G y J9 ?_);refine PyProof.Rows.callWith_type1 ?_ f p;rw[f];show wpAny _ _ (spliced ((false,eval e X.env)::backTo pos2 (starEach [] X.env))) _ _ s;refine Calls.spliced_cons (thn (S pins s σ H _ I h) λu s1 ⟨x,H1,C,W,a,ys,ex,hq,hy,q⟩=>?_);subst ex;cases W;refine Calls.spliced_nil ?_;obtain⟨its,r,pl,Z⟩:=C.list hq;have O:=r.length;refine call_reversed_list pl.isList ?_;refine Calls.spliced_nil ?_;obtain⟨h1,g1,d1,k1,o1⟩:=s1;have F:(h1.push (revObj a ((its.toArray.size:Int)-1))).IsRevIter h1.objs.size a ((its.toArray.size:Int)-1-((0:Nat):Int)):=⟨_,zD _ U,U,by show Data.fields _=Data.fields _;rw[show(its.toArray.size:Int)-1-((0:Nat):Int)=(its.toArray.size:Int)-1 by omega]⟩;have n:(h1.push (revObj a ((its.toArray.size:Int)-1))).IsList a its.toArray:=pl.isList.push _;obtain⟨oa,w,_⟩:=pl.isList;have j:a<h1.objs.size:=Heap.lt_size w;have T:X.A.in1.in1.handled=none:=by simp[I.ok.hd hc]
 have ps:(h1.push (revObj a ((its.toArray.size:Int)-1))).objs.size=h1.objs.size+1:=Heap.size_push _ _;refine Amc (Walks.toS (Walks.listRev T h1.objs.size a (AvY j) its.toArray)) (λi s x=>x.2.1.typeIs) ⟨AvV _,F,n⟩ (λb D=>?_) AA (λs' acc N J hM L=>?_) (by rw[Awq];omega)
 ·show b<(h1.push (revObj a ((its.toArray.size:Int)-1))).objs.size;rw[ps];rcases yG.mp D with e | e
  ·rw[e];exact AwL _
  ·rw[zF.mp e];exact Nat.lt_succ_of_lt j
 ·have vs:Vals ys.reverse acc.toList:=by
   refine We _ _ (by rw[Awr,O];have:=L.1;simpa using this.symm) λi x u m e2=>?_;have hi:i<ys.length:=by
    have:=(zC.mp m).1
    rwa [Awr] at this
   have P:=L.2 i u (by rw[<- zO];exact e2);rw[Axg hi] at m;obtain⟨v,hv,l⟩:=r.get m;rw[Awq,<- O] at P;have M:its[ys.length-1-i]?=some u:=by simpa using P
   rw[hv] at M;cases M;exact l
  rw[Moved.eq_with J];have k:s'.heap.get? (h1.objs.size+1)=some { cls:=.type "list", dict:=none,data:=.seq acc N,slots:=#[] }:=by
   have:=hM;dsimp only at this;rw[ps] at this;exact this
  show EP X pins σ Q (Value.ref (h1.push (revObj a ((its.toArray.size:Int)-1))).objs.size) _;rw[ps];refine⟨.ref (h1.objs.size+1),_,C.laid (t':=s'.toks) (o:=.lst ys.reverse) (h':=s'.heap) (λb o e=>?_) (AwM _) ?_,U,q _ (C.hok.fresh (AwM _))⟩
  ·have D:=Heap.lt_size e;refine J.heap b o ?_ (zB _ (zB _ e));show b∉[(h1.push (revObj a ((its.toArray.size:Int)-1))).objs.size,h1.objs.size];rw[ps];have d:b<h1.objs.size:=D;simp only [Awb,Awc,or_false,not_or];exact⟨AvY (Nat.lt_succ_of_lt d),AvY d⟩
  ·exact⟨by rw[Awr];exact Z,acc.toList,N,vs,by simpa using k⟩
end
theorem Agp(a:∀ y∈scope.names,y.2≠.free):∀ y∈scope.names,y.2=.free->X.env.scope.names.lookup y.1=some .cell/\scope.names.lookup y.1=some .free:=λy b e=>absurd e (a y b)
end L2
namespace PySem
open Sem (wp)
open Builtin Builtin.Str Builtin.Int
open PySem.Spec PyProof.Rows
section
variable {prog:Program}{w:World}{A:Around}{E:NR}{s:Shared}{R:Result->Shared->Prop}
abbrev RvP (x:Str):Nat->Value->Prop:=λi v=>∃ c u,x.cps[x.cps.size-1-i]?=some c/\v=.str ⟨#[c]⟩ u
theorem AhG{M I:Addr}{x:Str}{t:Tok}{c:Nat}(O:A.handled=none)(D:x.length<=sizeLine)(a:s.heap.DQ I x t ((x.length:Int)-1))(n:M≠I)(h:s.heap.get? M=some { cls:=.type "list", data:=.seq #[] c }) (z:Value)
  (fin:∀ h' tk acc E,(∀ b o,b≠M->b≠I->s.heap.get? b=some o->h'.get? b=some o)->h'.get? M=some { cls:=.type "list", dict:=none,data:=.seq acc E,slots:=#[] }->ItemsOf (RvP x) acc x.cps.size->R (.ok (.ret z)) { s with heap:=h',toks:=tk }) :
  wpAny (model prog w) A.in1 (Builtin.List.listExtendWith (.ref M) (.ref I) z)
   (λf s'=>match f with | .done d=>R (.ok d) s' | .again k=>k.quiet=true/\codeAny (model prog w) A k R s') (λe s'=>R (.error e) s') s:=by
 have W:=yA;have L:¬(x.length:Int) ≥ 2 ^ 63:=Au
 have h1:Builtin.List.listSameRef (.ref M) (.ref I)=false:=by simp[Builtin.List.listSameRef,n]
 have m:=a.typeIs;refine zA (wpAny_typeOf m ?_);rw[if_neg (by rw[h1];decide)];refine zA (J8 a ?_);refine zA (yB ?_);refine zA (wpAny_specialOf m RV.Aq4 ?_);refine zA (wpAny_specialOf m RV.hint ?_);refine zA (wpAny_isInstance (b:=true) m AC ?_);refine zA (wpAny_rule ?_);refine zA (wpAny_of_eq (RV.Yr.bind _) ?_);refine zA (wpAny_attempt (R6 L a λu tk P=>?_));have N:∃ k:Int,k=(x.length:Int):=⟨_,U⟩;obtain⟨k,hk⟩:=N;rw[<- hk];refine zA (zE ?_)
 try dsimp only
 have T:Builtin.List.listFitsIndex k=true:=by
  unfold Builtin.List.listFitsIndex;lia
 have S:Builtin.List.listTooLong k.toNat=false:=by
  exact zJ Au
 rw[if_neg (by rw[T];decide),if_neg At,if_neg (by rw[S];decide)];refine zE ?_;have C:(x.cps.size:Int)-1-((0:Nat):Int)=(x.length:Int)-1:=by show(x.cps.size:Int)-1-((0:Nat):Int)=(x.cps.size:Int)-1;lia
 by_cases Q:x.length=0
 ·have K:(k != 0)=false:=by rw[hk,Q];rfl
  rw[K];have y:s.heap.DQ I x t ((x.cps.size:Int)-1-((0:Nat):Int)):=by rw[C];exact a
  refine zE ⟨plainId_quiet F.plain_extend_loop _,?_⟩;refine Js O D _ n _ _ 0 { s with toks:=tk } #[] _ rfl (AvV _) y h (ItemsOf.nil _) λh' p i E kp J r j=>?_;exact fin h' p i E (λb o G H q=>kp b o G H q) r j
 ·have K:(k != 0)=true:=by simp;lia
  rw[K];refine zA (wpAny_rule ?_);refine zA ?_;refine zA (wpAny_updateSeq h U ?_);have l:=zR (Obj.mapSeq (·.push Value.none)) h U;refine wpAny_updateSeq l U ?_;have v:=zR (Obj.mapSeq (·.pop)) l U;have B:∀ b o,b≠M->s.heap.get? b=some o->((s.heap.update M (Obj.mapSeq (·.push Value.none))).update M (Obj.mapSeq (·.pop))).get? b=some o :=
   λb o D e=>(zH _ _ (Ne.symm D)).trans ((zH _ _ (Ne.symm D)).trans e);have y:((s.heap.update M (Obj.mapSeq (·.push Value.none))).update M (Obj.mapSeq (·.pop))).DQ I x t ((x.cps.size:Int)-1-((0:Nat):Int)):=by
   rw[C];exact a.at λo q=>B I o (Ne.symm n) q
  refine zE ⟨plainId_quiet F.plain_extend_loop _,?_⟩;refine Js O D _ n _ _ 0
   { s with heap:=(s.heap.update M (Obj.mapSeq (·.push Value.none))).update M (Obj.mapSeq (·.pop)),toks:=tk } #[] _ rfl (AvV _) y v (ItemsOf.nil _) λh' p i E kp J r j=>?_;exact fin h' p i E (λb o G H q=>kp b o G H (B b o G q)) r j
theorem Ame{I:Addr}{x:Str}{t:Tok}{Q:NR}(q:A.handled=none)(p:x.length<=sizeLine)(c:s.heap.DQ I x t ((x.length:Int)-1))
  (fin:∀ h' tk acc j,(∀ b o,b≠I->s.heap.get? b=some o->h'.get? b=some o)->h'.get? s.heap.objs.size=some { cls:=.type "list", dict:=none,data:=.seq acc j,slots:=#[] }->ItemsOf (RvP x) acc x.cps.size->Q (.ref s.heap.objs.size) { s with heap:=h',toks:=tk }) :
  wpAny (model prog w) A (call (.type "list") [.ref I]) Q E s:=by
 have k:I<s.heap.objs.size:=by
  obtain⟨o,r,_⟩:=c;exact Heap.lt_size r
 refine callType_codes (Q₁:=λm s1=>m=.ref s.heap.objs.size/\s1={ s with heap:=s.heap.push { cls:=.type "list", data:=.seq #[] } }) F.called_list (F.typeCall_list_1 _) F.entry_list_init (code_list_new _ ⟨rfl,rfl⟩) λm s1 h1=>?_;obtain⟨rfl,rfl⟩:=h1;have f:(s.heap.push { cls:=.type "list", data:=.seq #[] }).get? s.heap.objs.size=some { cls:=.type "list", data:=.seq #[] }:=zD _ U;refine⟨⟨_,f,U⟩,F.args_list_init_2 _ _,?_⟩;refine zA ?_;refine zA (wpAny_seqItems f U (zE ?_));refine zA (wpAny_updateSeq f U ?_);have h:=zR (Obj.mapSeq (λ_=>(#[]:Array Value))) f U;have l:=Aw6 k;have d:∀ b o,b≠s.heap.objs.size->s.heap.get? b=some o->((s.heap.push { cls:=.type "list", data:=.seq #[] }).update s.heap.objs.size (Obj.mapSeq (λ_=>(#[]:Array Value)))).get? b=some o:=λb o nb e=>(zH _ _ (Ne.symm nb)).trans (zB _ e);refine AhG (s:={ s with heap:=(s.heap.push { cls:=.type "list", data:=.seq #[] }).update s.heap.objs.size (Obj.mapSeq (λ_=>(#[]:Array Value))) }) (by exact q) p (c.at λo e=>d I o (Ne.symm l) e) l h .none λh' tk acc j kp i a=>?_;exact⟨U,fin h' tk acc j (λb o n e=>kp b o (AvY (Heap.lt_size e)) n (d b o (AvY (Heap.lt_size e)) e)) i a⟩
end
end PySem
namespace L2
open PySem PySem.Spec PyProof.Rows
variable {X:Cx}{pos px py spos px' tp:Pos}{e tg a iter elt:Expr}{te:TE}{P:Program}{w:World}{ta:TA}{z x y x':Str}{Bj u sp:NI}{tc:TT}{σ:St}{H:Hp}{E ye:NR}{s:Shared}{scope:Scope}{c0 C it:Addr}{Nc:NX}{pins:NO}{c i kx n j:Nat}{ifs es:List Expr}{wi:TI}{cs:List (Str × Addr)}{fp:NU}{S1 S2:Src}{tb:TS}{D:Ends}{ws:NN}
section
variable {K:NF}{p1 p2 pos1 pos2:Pos}
inductive Agq (Q:VK)(x:V)(H1:Hp):Prop
|mk(z:Str)(_:x=.str z)(_:z.length<=1000)(_:∀ l,H1 l=none->Q (.ref l) (upd H1 l (.lst (z.cps.toList.reverse.map λc=>V.str ⟨#[c]⟩))))
def Akw (te:TE)(σ:St)(H:Hp)(Q:VK):Prop:=te σ H (Agq Q)
theorem Agr(m:Gl X "list") (l:X.mg "list" = none) (w:Gl X "reversed") (k:X.mg "reversed" = none) (E:PE X e te) (hc:X.calm=true:=by rfl)
  (a:starEach [e] X.env=(false,eval e X.env)::starEach [] X.env:=by rfl)
  (d:starEach [.Call (.Name "reversed" p2) [e] [] pos2] X.env=(false,eval (.Call (.Name "reversed" p2) [e] [] pos2) X.env)::starEach [] X.env:=by rfl)
  (n:(backTo pos1 (starEach [] X.env)).any (·.1)=false:=by rfl) (j:(backTo pos2 (starEach [] X.env)).any (·.1)=false:=by rfl) :
  PE X (.Call (.Name "list" p1) [.Call (.Name "reversed" p2) [e] [] pos2] [] pos1) (Akw te):=by
 intro pins s σ H Q I h;have D:=yA;refine wpAny_Call_Name_kw (Iz I m l Jt ?_);refine PyProof.Rows.callWith_type1 ?_ d n;show wpAny _ _ (spliced ((false,eval (.Call (.Name "reversed" p2) [e] [] pos2) X.env)::backTo pos1 (starEach [] X.env))) _ _ s;refine Calls.spliced_cons ?_;refine wpAny_Call_Name_kw (Iz I w k J9 ?_);refine PyProof.Rows.callWith_type1 ?_ a j;rw[a];show wpAny _ _ (spliced ((false,eval e X.env)::backTo pos2 (starEach [] X.env))) _ _ s;refine Calls.spliced_cons (thn (E pins s σ H _ I h) λu s1 ⟨x,H1,A,G,z,ex,N,q⟩=>?_);subst ex;obtain⟨tk,rfl⟩:=G;refine Calls.spliced_nil ?_;refine HD Au ?_;refine Calls.spliced_nil ?_;obtain⟨h1,g1,O,k1,o1⟩:=s1;have v:(h1.push (Aex z tk ((z.length:Int)-1))).DQ h1.objs.size z tk ((z.length:Int)-1):=⟨_,zD _ U,U,U⟩;have F:=I.ok.hd hc;have ps:(h1.push (Aex z tk ((z.length:Int)-1))).objs.size=h1.objs.size+1:=Heap.size_push _ _;refine Ame (by simp[F]) At v λh' J acc B kp M y=>?_;have vs:Vals (z.cps.toList.reverse.map λc=>V.str ⟨#[c]⟩) acc.toList:=by
  refine We _ _ (by have:= y.1;simpa using this.symm) λi x u f L=>?_;obtain⟨c,P,p,rfl⟩:=y.2 i u (by rw[<- zO];exact L);have hi:i<z.cps.size:=by
   have:= (zC.mp f).1;rw[AvK,Awr] at this;exact this
  rw[AvS,Axg (by rw[zK];exact hi),zK,zO,p] at f;cases f;exact⟨_,U⟩
 have C:h'.get? (h1.objs.size+1)=some { cls:=.type "list", dict:=none,data:=.seq acc B,slots:=#[] }:=by
  have:= M;rw[ps] at this;exact this
 rw[ps];refine⟨.ref (h1.objs.size+1),_,A.laid (λb o e=>?_) (AwM _) ?_,U,q _ (A.hok.fresh (AwM _))⟩
 ·have K:=Heap.lt_size e;have r:b<h1.objs.size:=K;exact kp b o (AvY r) (zB _ e)
 ·exact⟨by rw[AvK,Awr];show z.length<=_;omega,acc.toList,B,vs,At⟩
end
def Ar7 (z:Str):It:=⟨λi _=>i<z.cps.size,λi H x H'=>H'=H/\∃ c,z.cps[z.cps.size-1-i]?=some c/\x=.str ⟨#[c]⟩,λi _=>z.cps.size=i⟩
theorem Akx{K:NF}(z:Str)(tk:Tok)(it:Addr)(M:z.length<=sizeLine):Turn P w K tg (Ar7 z) [it] it (λi h=>h.DQ it z tk ((z.cps.size:Int)-1-(i:Int))) where
 mem:=AA
 obj:=λi h st b a=>by
  have e:b=it:=by simpa using a
  subst e;obtain⟨o,e,c,d⟩:=st;exact⟨o,e,λv z=>AB⟩
 keep:=λi h h' st k=>st.at λo e=>k it AA o e
 item:=by
  intro X G hw D hc i pins s σ H E I l st y;have N:=yA;have hi:i<z.cps.size:=y;have q:¬(z.length:Int) ≥ 2 ^ 63:=Au
  obtain⟨A,x,L,r,p,n⟩:=l it AA;have f:s.heap.DQ it z tk ((z.cps.size-1-i:Nat):Int):=AD
  have B:z.cps[z.cps.size-1-i]?=some (z.cps[z.cps.size-1-i]' At):=zP At;refine IV f B q λh' u m j C=>?_;have J:Inv X pins σ H { s with heap:=h',toks:=m }:=I.turned (λb o a e=>(C.2 b a).trans e) A x r p n;obtain⟨o,e,c,d⟩:=id j;refine⟨_,U,AfP e c d Ap ⟨.str _,H,J,⟨u,U⟩,⟨U,_,B,U⟩,?_,λb a=>(l b a).1⟩⟩;rw[show(z.cps.size:Int)-1-((i+1:Nat):Int)=((z.cps.size-1-i:Nat):Int)-1 by omega];exact j
 done:=by
  intro X G hw D hc i pins s σ H E I l st y;have e:=y;subst e;obtain⟨A,x,L,r,p,n⟩:=l it AA;have f:s.heap.DQ it z tk (-1):=AD
  exact JT (I.ok.hd hc) f λh' F _=>⟨U,I.turned (λb o a e=>F b o a e) A x r p n⟩
 self:=λ_ _ _ _ _ st h=>J8 st h
inductive Apg (R:(It->Hp->Prop))(vs:Na)(H1:Hp):Prop
|mk(z:Str)(_:vs=[.str z])(_:z.length<=sizeLine)(_:R (Ar7 z) H1)
def Atx (ta:TA)(σ:St)(H:Hp)(R:(It->Hp->Prop)):Prop:=ta σ H (Apg R)
theorem Aph{p:Pos}(f:Gl X "reversed") (k:X.mg "reversed" = none) (i:PA X [a] ta) (n:starEach [a] X.env=[(false,eval a X.env)]:=by rfl) :
  PI X tg (.Call (.Name "reversed" p) [a] [] pos) (Atx ta):=by
 intro pins s σ H R I h;refine Call_ (Iz I f k J9 (PyProof.Rows.callWith_type1 (thn (i pos pins s σ H _ I h) λus s1 ⟨vs,H1,d,m,j⟩=>?_) n U));obtain⟨z,e,v,q⟩:=j;subst e;have w:=yA;cases m with
 | cons r u =>
  cases u;obtain⟨tk,rfl⟩:=r;refine HD Au ?_;have c:(s1.heap.push (Aex z tk ((z.length:Int)-1))).DQ s1.heap.objs.size z tk ((z.cps.size:Int)-1-((0:Nat):Int)) :=
   ⟨_,zD _ U,U,by show Data.fields _=Data.fields _;rw[show(z.cps.size:Int)-1-((0:Nat):Int)=(z.length:Int)-1 by show(z.cps.size:Int)-1-((0:Nat):Int)=(z.cps.size:Int)-1;omega]⟩;refine J8 c ?_;refine⟨s1.heap.objs.size,[s1.heap.objs.size],_,_,H1,U,d.kept λb o e=>zB _ e,Akx z tk _ v,c,λb l=>?_,q⟩;have e:b=s1.heap.objs.size:=by simpa using l
  subst e;exact d.Ahp (AvN _) (d.hok.fresh (AvN _))
theorem Aky{Q:VK}(Pv:Nat->Na->Hp->Prop)(b:Pv 0 [] H)(d:∀ i ys H,i<=z.cps.size->Pv i ys H->ys.length<=i)
  (n:z.cps.size<=sizeLine) (j:∀ i c ys H,i<z.cps.size->z.cps[z.cps.size-1-i]?=some c->Pv i ys H->Eo z.cps.size Pv tc te (some (.str ⟨#[c]⟩)::NK σ Bj) i ys H)
  (k:∀ ys H p,Pv z.cps.size ys H->H p=none->Q (.ref p) (upd H p (.lst ys))):R5 Bj tc te (Ar7 z) σ H Q:=by
 refine⟨λi m ys H=>m=z.cps.size-i/\i<=z.cps.size/\Pv i ys H,⟨z.cps.size,AA,AvV _,b⟩,?_⟩;rintro i m ys H ⟨rfl,hi,p⟩;have l:=d i ys H hi p;by_cases a:i<z.cps.size
 ·refine .inr ⟨a,Au,λx H' y=>?_⟩;obtain⟨e,c,hc,rfl⟩:=y;subst e;exact j i c ys _ a hc p
 ·have e:i=z.cps.size:=Au
  subst e;exact .inl ⟨U,Au,λf h=>k ys H f p h⟩
theorem Abq{acc:List (Str × Addr)}:∀{b:List (Str × NameKind)} {n:Nat} {h:Heap},b.filter (λy=>y.2 == .cell)=[]->cellsFrom n b acc=acc/\pushCells h b=h
 | [],_,_,_=>⟨U,U⟩
 | (a,k)::r,n,h,e=>by
  cases hk:k == NameKind.cell with
  | true=>simp_all
  | false =>
   have c:r.filter (λy=>y.2 == .cell)=[]:=by simpa [hk] using e
   unfold cellsFrom pushCells;rw[hk];exact Abq c
theorem Ad8{x:Str}{acc:List (Str × Addr)}:∀{b:List (Str × NameKind)} {n:Nat} {h:Heap},b.filter (λy=>y.2 == .cell)=[(x,.cell)] ->
  cellsFrom n b acc=(x,n)::acc/\pushCells h b=h.push { cls:=.type "cell", data:=.cell none }
 | [],_,_,e=>by simp at e
 | (a,k)::r,n,h,e=>by
  cases hk:k == NameKind.cell with
  | true =>
   have c:(a,k)::r.filter (λy=>y.2 == .cell)=[(x,.cell)]:=by simpa [hk] using e
   injection c with f d;cases f;have:= Abq (acc:=(x,n)::acc) (n:=n+1) (h:=h.push { cls:=.type "cell", data:=.cell none }) d;exact this
  | false =>
   have c:r.filter (λy=>y.2 == .cell)=[(x,.cell)]:=AB
   have:= Ad8 (acc:=acc) (n:=n) (h:=h) c;unfold cellsFrom pushCells;rw[hk];exact this
abbrev Amf:Obj:={ cls:=.type "dict", data:=.dict #[] }
abbrev Aty:Obj:={ cls:=.type "cell", data:=.cell none }
theorem Ags{M:Model}{A:Around}{globals:Addr}{cl:List (Str × Addr)}{qual:Str}{env:Env}{Q:Env->Shared->Prop}
  (a:scope.names.filter (λy=>y.2 == .cell)=[(x,.cell)])
  (d:Q { scope,locals:=s.heap.objs.size,globals,cells:=(x,s.heap.objs.size+1)::cl,qual,func:=none,code:=env.code,frame:=env.frame,builtins:=env.builtins } { s with heap:=(s.heap.push Amf).push Aty }) :
  wpAny M A (newFunctionEnv scope globals cl [] qual none .none (some env)) Q E s:=by
 simp only [newFunctionEnv,Option.isSome_some,if_true];refine zA (wpAny_alloc ?_);refine zA (wpAny_layCells _ (λname b cells=>AB) _ _ _ _ ?_);have c:=λ(n:Nat)(h:Heap)=>Ad8 (acc:=cl) (n:=n) (h:=h) a;rw[(c _ s.heap).1,(c 0 _).2];rw[show({ s with heap:=s.heap.push Amf }:Shared).heap.objs.size=s.heap.objs.size+1 from Heap.size_push ..];exact zA (by exact zE (zE d))
def Wl (X:Cx)(x:Str)(Nc:NX)(scope:Scope)(cs:List (Str × Addr))(C:Addr)(fp:NU)(s:Shared)(H:Hp):Cx:=cxG X (· == x) Nc scope cs C fp s H λ_ _=>False
structure Mu (X:Cx)(x:Str)(Nc:NX)(Bj:NI)(scope:Scope):Prop where
 kind:scope.kind=.function
 one:scope.names.filter (λy=>y.2 == .cell)=[(x,.cell)]
 names:∀ y∈scope.names,y.2=.local->scope.names.lookup y.1=some .local
 fr:∀ y∈scope.names,y.2=.free->X.env.scope.names.lookup y.1=some .cell/\scope.names.lookup y.1=some .free
 loc:scope.names.lookup x=some .cell
 len:Nc.length=Bj.length+1
 hd:Nc[0]?=some x
 nd:Nc.Nodup
 cap:∀ k j,Bj[k]?=some j->∃ y,Nc[k+1]?=some y/\X.N[j]?=some y/\scope.names.lookup y=some .free
theorem Mu.cell(O:Mu X x Nc Bj scope)(h:(y,NameKind.cell)∈scope.names):y=x:=by have:(y,NameKind.cell)∈scope.names.filter (λy=>y.2 == .cell):=z8.mpr ⟨h,U⟩;rw[O.one] at this;have:= zF.mp this;injection this
theorem Wm{c:Addr}{cl:List (Str × Addr)}(h:List.lookup y ((x,c0)::cl)=some c):(y=x/\c=c0)\/(y≠x/\cl.lookup y=some c):=by
 rw[Aw5] at h;cases a:y == x with
 | true=>simp_all
 | false=>rw[a] at h;exact .inr ⟨by simpa using a,h⟩
theorem Amg{cl:List (Str × Addr)}:List.lookup x ((x,c0)::cl)=some c0:=by simp[Aw5]
theorem Amh{cl:List (Str × Addr)}(h:y≠x):List.lookup y ((x,c0)::cl)=cl.lookup y:=by
 have:(y == x)=false:=by simpa using h
 simp[Aw5,this]
theorem Mu.g(O:Mu X x Nc Bj scope):Abb X 1 Nc Bj scope:=⟨O.kind,O.names,O.fr,O.len,O.cap⟩
section
variable  (O:Mu X x Nc Bj scope) (hc:X.calm=true) (hi:PI X (.Name x px) iter wi)
 (htc:∀ cl C fp s H,PIf (Wl X x Nc scope cl C fp s H) ifs tc) (hte:∀ cl C fp s H,PE (Wl X x Nc scope cl C fp s H) elt te)
include O hc htc hte in
theorem Atz:Blk X (.Name x px) iter elt ifs scope pos (λ_ _ _=>False) (R5 Bj tc te):=by
 intro cl pins σ H s J fp it D Q RR E j q I T st p h l v;refine yI (Ags O.one ?_);have r:(s.heap.push (V0 [] 0)).objs.size=s.heap.objs.size+1:=Heap.size_push ..;have A:∀{y},(y,NameKind.free)∈scope.names->y≠x:=λf e=>by
  have:=(O.fr _ f U).2;rw[show _=x from e,O.loc] at this;cases this
 have no:∀{y c},cl.lookup y=some c->s.heap.objs.size<=c->False:=λe z=>absurd (I.clt (j _ _ e).1) (Nat.not_lt.mpr z);refine AiB (s:=s) (fn:=(· == x)) O.g hc ⟨λy c e=>?_,λy c z e=>?_,λa b c u B z=>?_,λy f=>by cases O.cell f;exact⟨_,Amg⟩,λy f=>(Amh (A f)).trans (q y f)⟩
  (BJ (i:=0) O.nd O.hd (.inr (HB I.ok.kind O.loc nofun)) (.inl (beq_self_eq_true x))) (hte _ _ _ _ _) (htc _ _ _ _ _) I T st p (AlL h) U (show s.heap.objs.size<(s.heap.push (V0 [] 0)).objs.size by rw[r];exact AwL _)
  (λb o e=>zB _ (zB _ (zB _ e))) (zB _ (zB _ (zD _ U)))
  ((Heap.Ns.new _ (.type "dict")).keeps λb o e=>zB _ e) (λy c e z=>?_)
  (λs' m hn k=>l _ _ s' m hn k (show s.heap.objs.size<=(s.heap.push (V0 [] 0)).objs.size by rw[r];exact AwM _)) λ_ _ z=>z.elim
 ·rcases Wm e with ⟨_,d⟩ | ⟨_,d⟩
  ·exact .inr ⟨by rw[d];show _<(s.heap.push (V0 [] 0)).objs.size+1;omega,by rw[d];exact Nat.succ_ne_self _⟩
  ·exact .inl (j y c d).1
 ·rcases Wm e with ⟨_,d⟩ | ⟨n,_⟩
  ·rw[d];show _<=(s.heap.push (V0 [] 0)).objs.size+1;omega
  ·exact absurd (beq_iff_eq.mp z) n
 ·rcases Wm u with ⟨n,_⟩ | ⟨_,d⟩
  ·rcases Wm B with ⟨C,_⟩ | ⟨_,w⟩
   ·rw[n,C]
   ·exact(no w z).elim
  ·exact(no d z).elim
 ·rcases Wm e with ⟨_,d⟩ | ⟨_,d⟩
  ·rw[d];exact⟨none,_,(show((s.heap.push (V0 [] 0)).push Amf).objs.size=_ from Heap.size_push ..)▸zD _ U,U⟩
  ·exact(no d (Awx z)).elim
include O hc hi htc hte in
theorem Ami(a:∀ x,foldedSetIterable iter X.env x=pure x:=by intro _;rfl):PE X (.ListComp elt [⟨.Name x px,iter,ifs,0⟩] scope pos) (Ad1 wi Bj tc te):=AlK O.kind O.names O.fr hi (Atz O hc htc hte) a
end
theorem Amj(O:Mu X x Nc Bj scope)(hc:X.calm=true)
  (b:X.N.Nodup) (d:X.N[i]?=some y) (e:X.env.scope.names.lookup y=some .local) (hi:PI X (.Name x px) iter wi)
  (htc:∀ cl C fp s H,PIf (Wl X x Nc scope cl C fp s H) ifs tc) (hte:∀ cl C fp s H,PE (Wl X x Nc scope cl C fp s H) elt te)
  (a:swapsWith (.ListComp elt [⟨.Name x px,iter,ifs,0⟩] scope pos) (some (.Name y py)) spos.line X.env=pure true) (c:∀ x,foldedSetIterable iter X.env x=pure x:=by intro _;rfl) :
  PS X (.Assign [.Name y py] (.ListComp elt [⟨.Name x px,iter,ifs,0⟩] scope pos) spos) (Aal (Ad1 wi Bj tc te) (Hw i)):=Ah2 O.kind O.names O.fr hi (Atz O hc htc hte) b d e a c
def Avb (scope sc:Scope):Scope:={ scope with names:=scope.names.map λ(n,k)=>if (k == .free && sc.kind == .function && sc.names.lookup n == some .cell) then (n,.cell) else (n,k) }
theorem Agt{sc0 a:Scope}(h:X.env.scope=sc0)(b:∀ y∈scope.names,y.2=.free->(Avb a sc0).names.lookup y.1=some .cell/\scope.names.lookup y.1=some .free) :
  ∀ y∈scope.names,y.2=.free->(Wl X x Nc a cs C fp s H).env.scope.names.lookup y.1=some .cell/\scope.names.lookup y.1=some .free:=by
 subst h;exact b
structure Mv (X:Cx)(x x':Str)(Nc:NX)(Bj:NI)(scope:Scope):Prop where
 kind:scope.kind=.function
 cell:∀ y∈scope.names,y.2≠.cell
 names:∀ y∈scope.names,y.2=.local->scope.names.lookup y.1=some .local
 fr:∀ y∈scope.names,y.2=.free->X.env.scope.names.lookup y.1=some .cell/\scope.names.lookup y.1=some .free
 loc:scope.names.lookup x=some .local
 Avc:scope.names.lookup x'=some .local
 len:Nc.length=Bj.length+2
 hd:Nc[0]?=some x
 hd2:Nc[1]?=some x'
 nd:Nc.Nodup
 cap:∀ k j,Bj[k]?=some j->∃ y,Nc[k+2]?=some y/\X.N[j]?=some y/\scope.names.lookup y=some .free
def AaF (K:NF)(Bj:NI)(tc:TT)(te:TE)(J:It)(σ:St)(H:Hp)(Q:VK):Prop :=
 ∃ W:Nat->Nat->Na->Hp->Prop,(∃ m,W 0 m [] H)/\∀ i m ys H,W i m ys H ->
  (J.stop i H/\ys.length<=sizeLine/\∀ p,H p=none->Q (.ref p) (upd H p (.lst ys))) \/
  (J.go i H/\ys.length<sizeLine/\∀ x H',J.yld i H x H'->∃ a u v,x=.ref a/\SqT K H' a [u,v]/\tc (some u::some v::NK σ Bj) H' λb H2 =>
   if b=true then te (some u::some v::NK σ Bj) H2 λy H3=>∃ m',m'<m/\W (i+1) m' (ys++[y]) H3 else ∃ m',m'<m/\W (i+1) m' ys H2)
abbrev Amk (K:NF)(Bj:NI)(tc:TT)(te:TE)(σ:St)(Q:VK)(J:It)(H1:Hp):Prop:=AaF K Bj tc te J σ H1 Q
def Aml (K:NF)(wi:TI)(Bj:NI)(tc:TT)(te:TE)(σ:St)(H:Hp)(Q:VK):Prop:=wi σ H (Amk K Bj tc te σ Q)
theorem Mv.g(O:Mv X x x' Nc Bj scope):Abb X 2 Nc Bj scope:=⟨O.kind,O.names,O.fr,O.len,O.cap⟩
abbrev g2 (K:NF):TG:=AsE K 2 (Alz (Hw 0) (Alz (Hw 1) AsD))
theorem At0{K:NF}{J:It}{Q:VK}(h:AaF K Bj tc te J σ H Q):Aeu (g2 K) 2 Bj tc te J σ H Q:=by
 obtain⟨W,c,b⟩:=h;refine⟨W,c,λi m ys H w=>(b i m ys H w).imp id λ⟨g,l,k⟩=>⟨g,l,λx H' y os d=>?_⟩⟩;obtain⟨a,u,v,rfl,e,k⟩:=k x H' y
 match os,d with
 | [_,_],_=>exact⟨a,[u,v],U,e,U,u,[v],U,v,[],U,U,[some u,some v],U,U,k⟩
theorem Ar8(O:Mv X x x' Nc Bj scope)(hc:X.calm=true)(hk:X.env.scope.kind=.function) :
  PG (cxG X (λ_=>false) Nc scope cs C fp s H ye) (.Tuple [.Name x px,.Name x' px'] kx tp) (g2 X.K):=JQ hc (CK (Aev hk O.nd O.hd O.loc) (CK (Aev hk O.nd O.hd2 O.Avc) Hg))
section
variable  (O:Mv X x x' Nc Bj scope) (hc:X.calm=true) (hi:PI X (.Tuple [.Name x px,.Name x' px'] kx tp) iter wi)
 (htc:∀ cl C fp s H,PIf (Np X Nc scope cl C fp s H) ifs tc) (hte:∀ cl C fp s H,PE (Np X Nc scope cl C fp s H) elt te)
include O hc htc hte in
theorem Avd:Blk X (.Tuple [.Name x px,.Name x' px'] kx tp) iter elt ifs scope pos (λ_ _ _=>False) (AaF X.K Bj tc te) :=
 Blk.imp (Arq (λ_ _ _ _ _ _=>False) O.g O.cell hc (λk _ _ _ _ _=>Ar8 O hc k) htc hte λ_ _ _ _ _ _ _ z=>z.elim) At0
include O hc hi htc hte in
end
theorem Amm(O:Mv X x x' Nc Bj scope)(hc:X.calm=true)
  (b:X.N.Nodup) (d:X.N[i]?=some y) (e:X.env.scope.names.lookup y=some .local) (hi:PI X (.Tuple [.Name x px,.Name x' px'] kx tp) iter wi)
  (htc:∀ cl C fp s H,PIf (Np X Nc scope cl C fp s H) ifs tc) (hte:∀ cl C fp s H,PE (Np X Nc scope cl C fp s H) elt te)
  (a:swapsWith (.ListComp elt [⟨(.Tuple [.Name x px,.Name x' px'] kx tp),iter,ifs,0⟩] scope pos) (some (.Name y py)) spos.line X.env=pure true) (c:∀ x,foldedSetIterable iter X.env x=pure x:=by intro _;rfl) :
  PS X (.Assign [.Name y py] (.ListComp elt [⟨(.Tuple [.Name x px,.Name x' px'] kx tp),iter,ifs,0⟩] scope pos) spos) (Aal (Aml X.K wi Bj tc te) (Hw i)):=Ah2 O.kind O.names O.fr hi (Avd O hc htc hte) b d e a c
theorem Ad9{K:NF}(O:Mv X x x' Nc Bj scope)(hc:X.calm=true)
  (c:X.N.Nodup) (e:X.N[i]?=some y) (f:X.env.scope.names.lookup y=some .local) (hi:PI X (.Tuple [.Name x px,.Name x' px'] kx tp) iter wi)
  (htc:∀ cl C fp s H,PIf (Np X Nc scope cl C fp s H) ifs tc) (hte:∀ cl C fp s H,PE (Np X Nc scope cl C fp s H) elt te)
  (a:swapsWith (.ListComp elt [⟨(.Tuple [.Name x px,.Name x' px'] kx tp),iter,ifs,0⟩] scope pos) (some (.Name y py)) spos.line X.env=pure true) (d:∀ x,foldedSetIterable iter X.env x=pure x:=by intro _;rfl) (b:X.K=K:=by rfl) :
  PS X (.Assign [.Name y py] (.ListComp elt [⟨(.Tuple [.Name x px,.Name x' px'] kx tp),iter,ifs,0⟩] scope pos) spos) (Aal (Aml K wi Bj tc te) (Hw i)):=by
 subst b;exact Amm O hc c e f hi htc hte a d
theorem Agu{K:NF}{Q:VK}(f g:Nat->V)(Pv:Nat->Na->Hp->Prop)(c:Pv 0 [] H)(d:∀ i ys H,i<=n->Pv i ys H->ys.length<=i)
  (r:n<=sizeLine) (h1:∀ i ys H,i<n->Pv i ys H->NT K H S1 i (f i)) (h2:∀ i ys H,i<n->Pv i ys H->NT K H S2 i (g i)) (b:∀ ys H,Pv n ys H->(Agm K S1 S2).stop n H)
  (k:∀ i ys H T,i<n->Pv i ys H->H T=none->Eo n Pv tc te (some (f i)::some (g i)::NK σ Bj) i ys (upd H T (.tup [f i,g i])))
  (o:∀ ys H p,Pv n ys H->H p=none->Q (.ref p) (upd H p (.lst ys))):AaF K Bj tc te (Agm K S1 S2) σ H Q:=by
 refine⟨λi m ys H=>m=n-i/\i<=n/\Pv i ys H,⟨n,AA,AvV _,c⟩,?_⟩;rintro i m ys H ⟨rfl,hi,p⟩;have q:=d i ys H hi p;by_cases a:i<n
 ·refine .inr ⟨⟨⟨_,h1 i ys H a p⟩,_,h2 i ys H a p⟩,Au,λx H' y=>?_⟩;obtain⟨T,rfl,l,e⟩:=y;have e:=e _ _ (h1 i ys H a p) (h2 i ys H a p);subst e;exact⟨T,f i,g i,U,SqT.of Ae,k i ys H T a p l⟩
 ·have e:i=n:=Au
  subst e;exact .inl ⟨b ys H p,Au,λh j=>o ys H h p j⟩
theorem Amn{K:NF}{g:TG}(h d:Nat->V)(Pv:Nat->St->Hp->Prop)(j:Pv 0 σ H)(h1:∀ i σ H,i<n->Pv i σ H->NT K H S1 i (h i))(h2:∀ i σ H,i<n->Pv i σ H->NT K H S2 i (d i))(c:∀ σ H,Pv n σ H->(Agm K S1 S2).stop n H)
  (l:∀ i σ H T,i<n->Pv i σ H->H T=none->g (.ref T) σ (upd H T (.tup [h i,d i])) λb H2=>tb { D with nx:=Pv (i+1),ct:=Pv (i+1),bk:=D.nx } b H2) (q:∀ σ H,Pv n σ H->D.nx σ H) :
  ∃ W:Nat->Nat->St->Hp->Prop,(∃ m,W 0 m σ H)/\∀ i m σ H,W i m σ H ->
   ((Agm K S1 S2).stop i H/\D.nx σ H)\/((Agm K S1 S2).go i H/\∃ N:St->Hp->Prop,(∀ σ' H',N σ' H'->∃ f,f<m/\W (i+1) f σ' H')/\∀ x H',(Agm K S1 S2).yld i H x H'->g x σ H' λb H2=>tb { D with nx:=N,ct:=N,bk:=D.nx } b H2):=by
 refine⟨λi m σ H=>m=n-i/\i<=n/\Pv i σ H,⟨n,AA,AvV _,j⟩,?_⟩;rintro i m σ H ⟨rfl,hi,p⟩;by_cases a:i<n
 ·refine .inr ⟨⟨⟨_,h1 i σ H a p⟩,_,h2 i σ H a p⟩,Pv (i+1),λσ' H' k=>⟨n-(i+1),At,U,a,k⟩,λx H' y=>?_⟩;obtain⟨T,rfl,o,e⟩:=y;have e:=e _ _ (h1 i σ H a p) (h2 i σ H a p);subst e;exact l i σ H T a p o
 ·have e:i=n:=Au
  subst e;exact .inl ⟨c σ H p,q σ H p⟩
inductive Api (K:NF)(x:V)(vs:Na)(H:Hp)(Q:VK):Prop
|mk(a:_)(ns:_)(k:_)(_:x=.ref a)(_:vs=[.int k])(_:SqL K H a (vI ns))(_:Q (.int (ns.count k:Nat)) H)
theorem Yu{K:NF}(f:X.K=K:=by rfl):MtR X "list.count" (Api K):=by subst f;intro pins s σ H x vs v us Q I c b h;obtain⟨a,ns,k,rfl,rfl,d,q⟩:=h;cases c;obtain⟨u,rfl,e⟩:=b.one;obtain⟨t,rfl⟩:=e;obtain⟨its,r,i,j⟩:=I.list d;refine PyProof.Rows.count_list_ints (ns:=ns) i.isList (intsAre_of r) ?_;exact⟨.int _,H,I.tok _,⟨_,U⟩,q⟩
def Ite (K:NF)(a:Addr):It where
 go:=λi H=>∃ xs x,SqL K H a xs/\xs[i]?=some x
 yld:=λi H x H'=>∃ T,x=.ref T/\H T=none/\∀ xs u,SqL K H a xs->xs[i]?=some u->H'=upd H T (.tup [.int (i:Int),u])
 stop:=λi H=>∃ xs,SqL K H a xs/\xs.length=i
def Ave (e it a:Addr)(i:Nat)(h:Heap):Prop:=(∃ old,IsEnum h e it i old)/\h.IsListIter it a i
theorem Akz{K:NF}{e a:Addr}(m:e≠it)(F:a≠e)(p:a≠it) :
  Turn P w K (.Tuple es kx tp) (Ite K a) [e,it] e (Ave e it a) where
 mem:=AA
 obj:=λi h st c hc=>by
  obtain⟨⟨j,s1⟩,C⟩:=st;simp only [Awb,Awc,or_false] at hc;rcases hc with z | z
  ·subst z;exact⟨_,s1,λv z=>by cases (show Data.fields _=Data.cell v from z)⟩
  ·subst z;obtain⟨o,e,_,d⟩:=C;exact⟨o,e,λv z=>by rw[d] at z;cases z⟩
 keep:=λi h h' st k=>by
  obtain⟨⟨j,s1⟩,C⟩:=st;exact⟨⟨j,k _ AA _ s1⟩,C.at λo e=>k _ AA o e⟩
 item:=by
  intro X L hw N hc i pins s σ H E I J st W;subst L hw N;obtain⟨xs,x,l,hx⟩:=W;obtain⟨b,n,p1,_⟩:=I.list l;obtain⟨u,hu,ru⟩:=n.get hx;obtain⟨⟨j,s1⟩,y⟩:=st;have S:i<b.toArray.size:=by have:=(zC.mp hu).1;simpa using this
  have D:X.A.in1.handled=none:=I.ok.hd hc;refine wpAny_pyNext_enum_itemD (Draws.list D it a p b.toArray) s1 ⟨y,p1.isList⟩ S m (λz=>?_) λZ h1 tk R ho O hT a2 Q=>?_
  ·simp only [Awb,Awc,or_false] at z;rcases z with z | z
   ·exact m z
   ·exact F z.symm
  have q:b[i]?=some Z:=by simpa using R
  rw[hu] at q;cases q;refine⟨_,U,wpAny_letOwnedTupleGo_enum ho λh2 G M=>?_⟩;have M:Heap.SameBut e h1 h2:=M;have el:e<s.heap.objs.size:=Heap.lt_size s1;have il:it<s.heap.objs.size:=by obtain⟨_,e,_⟩:=y;exact Heap.lt_size e
  have up:∀ c o,c≠e->h1.get? c=some o->h2.get? c=some o:=λc o c1 z=>(M.2 c c1).trans z;have B:H s.heap.objs.size=none:=I.hok.fresh (AvN _);have I1:Inv X pins σ (upd H s.heap.objs.size (.tup [.int (i:Int),x])) { s with heap:=s.heap.push { cls:=.type "tuple", data:=.seq #[.int i tk,u] },toks:=tk+1 } :=
   I.laid (λc o e=>zB _ e) (AvN _) ⟨AH,[.int i tk,u],.cons ⟨tk,U⟩ (.cons ru .nil),⟨_,zD _ U,U,_,U⟩⟩;have fp2:∀ c∈[e,it],Py X pins (upd H s.heap.objs.size (.tup [.int (i:Int),x])) c:=λc hc=>by
   obtain⟨f0,f⟩:=J c hc;refine⟨?_,f⟩;have lt:c<s.heap.objs.size:=by
    simp only [Awb,Awc,or_false] at hc;rcases hc with e | e <;> subst e <;> assumption
   rw[Ai (AvY lt)];exact f0
  have I2:Inv X pins σ (upd H s.heap.objs.size (.tup [.int (i:Int),x])) { s with heap:=h2,toks:=tk+1 }:=by
   refine Inv.Tr (s:={ s with heap:=s.heap.push { cls:=.type "tuple", data:=.seq #[.int i tk,u] },toks:=tk+1 }) (h':=h2) (t':=tk+1) (its:=[e,it]) I1 (λc o hc z=>?_) fp2;simp only [Awb,Awc,or_false,not_or] at hc;refine up c o hc.1 ?_;by_cases r:c=s.heap.objs.size
   ·subst r;have T:(s.heap.push { cls:=.type "tuple", data:=.seq #[.int i tk,u] }).get? s.heap.objs.size=some { cls:=.type "tuple", data:=.seq #[.int i tk,u] }:=zD _ U;rw[T] at z;cases z;exact hT
   ·have T:s.heap.get? c=some o:=by
     rw[<- z];exact(Heap.get?_push_ne _ _ _ r).symm
    exact Q c o hc.1 hc.2 T
  refine⟨.ref s.heap.objs.size,_,I2,U,⟨s.heap.objs.size,U,B,λa4 Z a1 Y=>?_⟩,⟨⟨u,by simpa using G⟩,O.1.at λo z=>up _ o m.symm z⟩,λc hc=>(fp2 c hc).1⟩;rw[I.Rr a1 l,hx] at Y;cases Y;rfl
 done:=by
  intro X L hw N hc i pins s σ H E I J st W;subst L hw N;obtain⟨xs,l,a0⟩:=W;obtain⟨b,n,p1,_⟩:=I.list l;have l1:=n.length;obtain⟨⟨j,s1⟩,y⟩:=st;have D:X.A.in1.handled=none:=I.ok.hd hc;have en:i=b.toArray.size:=by simp;omega
  subst en;refine wpAny_pyNext_enum_endD (Draws.list D it a p b.toArray) s1 ⟨y,p1.isList⟩ λh' Q=>⟨U,I.Tr (t':=s.toks) (its:=[e,it]) (λc o hc z=>?_) J⟩;simp only [Awb,Awc,or_false,not_or] at hc;exact Q c o hc.2 z
 self:=λ_ _ _ _ _ st h=>by obtain⟨⟨j,s1⟩,_⟩:=st;exact wpAny_pyIter_enum s1 h
inductive Apj (K:NF)(R:(It->Hp->Prop))(vs:Na)(H1:Hp):Prop
|mk(a:_)(_:vs=[.ref a])(_:(∃ xs,SqL K H1 a xs))(_:R (Ite K a) H1)
def At1 (K:NF)(ta:TA)(σ:St)(H:Hp)(R:(It->Hp->Prop)):Prop:=ta σ H (Apj K R)
theorem Apk{K:NF}{p:Pos}(B:Gl X "enumerate") (n:X.mg "enumerate" = none) (y:PA X [a] ta) (u:X.K=K:=by rfl) (w:starEach [a] X.env=[(false,eval a X.env)]:=by rfl) :
  PI X (.Tuple es kx tp) (.Call (.Name "enumerate" p) [a] [] pos) (At1 K ta):=by
 subst u;intro pins s σ H R I h;refine Call_ (Iz I B n Wc (PyProof.Rows.callWith_type1 (thn (y pos pins s σ H _ I h) λus s1 ⟨vs,H1,b,o,z⟩=>?_) w U));obtain⟨a,e,⟨xs,d⟩,q⟩:=z;subst e;cases o with
 | cons r v =>
  cases v;cases r;obtain⟨k,A,p1,_⟩:=b.list d;obtain⟨o1,l,_⟩:=id p1.isList;have i:a<s1.heap.objs.size:=Heap.lt_size l;refine call_enumerate_list p1.isList λh' f hi m x=>wpAny_pyIter_enum f ?_;refine⟨_,[s1.heap.objs.size+1,s1.heap.objs.size],_,_,H1,U,b.kept (t':=s1.toks) x,Akz (lne (AwL _) 0).symm (lne i 1) (lne i 0),⟨⟨_,f⟩,hi⟩,λc hc=>?_,q⟩;have j:s1.heap.objs.size<=c:=by
   simp only [Awb,Awc,or_false] at hc;rcases hc with e | e <;> subst e <;> omega
  exact b.Ahp j (b.hok.fresh j)
theorem Amo{K:NF}{a:Addr}{xs:Na}{g:TG}(Pv:Nat->St->Hp->Prop)(h:Pv 0 σ H)(j:∀ i σ H,Pv i σ H->SqL K H a xs)
  (l:∀ i x σ H T,xs[i]?=some x->Pv i σ H->H T=none->g (.ref T) σ (upd H T (.tup [.int (i:Int),x])) λc H2=>tb { D with nx:=Pv (i+1),ct:=Pv (i+1),bk:=D.nx } c H2) (o:∀ σ H,Pv xs.length σ H->D.nx σ H) :
  ∃ W:Nat->Nat->St->Hp->Prop,(∃ m,W 0 m σ H)/\∀ i m σ H,W i m σ H ->
   ((Ite K a).stop i H/\D.nx σ H)\/((Ite K a).go i H/\∃ N:St->Hp->Prop,(∀ σ' H',N σ' H'->∃ f,f<m/\W (i+1) f σ' H')/\∀ x H',(Ite K a).yld i H x H'->g x σ H' λc H2=>tb { D with nx:=N,ct:=N,bk:=D.nx } c H2):=by
 refine⟨λi m σ H=>m=xs.length-i/\i<=xs.length/\Pv i σ H,⟨xs.length,AA,AvV _,h⟩,?_⟩;rintro i m σ H ⟨rfl,hi,p⟩;have d:=j i σ H p;by_cases b:i<xs.length
 ·refine .inr ⟨⟨xs,xs[i],d,AvM b⟩,Pv (i+1),λσ' H' k=>⟨xs.length-(i+1),At,U,b,k⟩,λx H' y=>?_⟩;obtain⟨T,rfl,n,y⟩:=y;have e:=y xs _ d (AvM b);subst e;exact l i _ σ H T (AvM b) p n
 ·have e:i=xs.length:=At
  subst e;exact .inl ⟨⟨xs,d,U⟩,o σ H p⟩
def Amp (u:NI):It where
 go:=λi _=>i<u.length
 yld:=λi H x H'=>∃ T c,x=.ref T/\H T=none/\u[i]?=some c/\H'=upd H T (.tup [.int (i:Int),.str (tx [c])])
 stop:=λi _=>u.length=i
def At2 (e it:Addr)(u:NI)(t:Tok)(i:Nat)(h:Heap):Prop:=(∃ old,IsEnum h e it i old)/\h.IsStrIter it (strIterType (tx u)) (tx u) t i
theorem AhH{K:NF}{e:Addr}{t:Tok}(n:e≠it) :
  Turn P w K (.Tuple es kx tp) (Amp u) [e,it] e (At2 e it u t) where
 mem:=AA
 obj:=λi h st c hc=>by
  obtain⟨⟨b,s1⟩,N⟩:=st;simp only [Awb,Awc,or_false] at hc;rcases hc with z | z
  ·simp_all
  ·subst z;obtain⟨o,e,_,d⟩:=N;exact⟨o,e,λv z=>AB⟩
 keep:=λi h h' st k=>by
  obtain⟨⟨b,s1⟩,o,L,c,d⟩:=st;exact⟨⟨b,k _ AA _ s1⟩,o,k _ AA _ L,c,d⟩
 item:=by
  intro X Y hw T hc i pins s σ H E I F st m;obtain⟨⟨b,s1⟩,q⟩:=st;have x:X.A.in1.handled=none:=I.ok.hd hc;have hn:i<(tx u).cps.size:=by exact m
  refine wpAny_pyNext_enum_itemD (Abm x it (tx u) t) s1 q hn n (λz=>?_) λu' h1 tk D ho y hT O C=>?_
  ·simp_all
  obtain⟨c,a,j,rfl⟩:=D;have j:u[i]?=some c:=by rw[<- zO] at j;exact j
  refine⟨_,U,wpAny_letOwnedTupleGo_enum ho λh2 B R=>?_⟩;have el:=Heap.lt_size s1;have il:it<s.heap.objs.size:=by obtain⟨_,e,_⟩:=q;exact Heap.lt_size e
  have J:∀ c o,c≠e->h1.get? c=some o->h2.get? c=some o:=λc o M z=>(R.2 c M).trans z;have r:=I.hok.fresh (AvN _);have I1:Inv X pins σ (upd H s.heap.objs.size (.tup [.int (i:Int),.str (tx [c])])) { s with heap:=s.heap.push { cls:=.type "tuple", data:=.seq #[.int i tk,.str ⟨#[c]⟩ a] },toks:=tk+1 } :=
   I.laid (λc o e=>zB _ e) (AvN _) ⟨AH,[.int i tk,.str ⟨#[c]⟩ a],.cons ⟨tk,U⟩ (.cons ⟨a,U⟩ .nil),⟨_,zD _ U,U,_,U⟩⟩;have fp2:∀ l∈[e,it],Py X pins (upd H s.heap.objs.size (.tup [.int (i:Int),.str (tx [c])])) l:=λl hc=>by
   obtain⟨f0,f⟩:=F l hc;refine⟨?_,f⟩;have lt:l<s.heap.objs.size:=by
    simp only [Awb,Awc,or_false] at hc;rcases hc with e | e <;> subst e <;> assumption
   rw[Ai (AvY lt)];exact f0
  have Q:Inv X pins σ (upd H s.heap.objs.size (.tup [.int (i:Int),.str (tx [c])])) { s with heap:=h2,toks:=tk+1 }:=by
   refine Inv.Tr (s:={ s with heap:=s.heap.push { cls:=.type "tuple", data:=.seq #[.int i tk,.str ⟨#[c]⟩ a] },toks:=tk+1 }) I1 (λl o hc z=>?_) fp2;simp only [Awb,Awc,or_false,not_or] at hc;refine J l o hc.1 ?_;by_cases p:l=s.heap.objs.size
   ·subst p;have G:(s.heap.push { cls:=.type "tuple", data:=.seq #[.int i tk,.str ⟨#[c]⟩ a] }).get? s.heap.objs.size=some { cls:=.type "tuple", data:=.seq #[.int i tk,.str ⟨#[c]⟩ a] }:=zD _ U;rw[G] at z;cases z;exact hT
   ·have G:s.heap.get? l=some o:=by
     rw[<- z];exact(Heap.get?_push_ne _ _ _ p).symm
    exact C l o hc.1 hc.2 G
  obtain⟨Z,W,S,q3⟩:=y;exact⟨.ref s.heap.objs.size,_,Q,U,⟨s.heap.objs.size,c,U,r,j,U⟩,⟨⟨_,by simpa using B⟩,Z,J _ _ n.symm W,S,q3⟩,λc hc=>(fp2 c hc).1⟩
 done:=by
  intro X Y hw T hc i pins s σ H E I F st m;have m:=m;obtain⟨⟨b,s1⟩,q⟩:=st;have x:X.A.in1.handled=none:=I.ok.hd hc;have en:i=(tx u).cps.size:=by exact m.symm
  subst en;refine wpAny_pyNext_enum_endD (Abm x it (tx u) t) s1 q λh' C=>⟨U,I.Tr (λc o hc z=>?_) F⟩;simp only [Awb,Awc,or_false,not_or] at hc;exact C c o hc.2 z
 self:=λ_ _ _ _ _ st h=>by obtain⟨⟨b,s1⟩,_⟩:=st;exact wpAny_pyIter_enum s1 h
inductive Amq (R:(It->Hp->Prop))(vs:Na)(H1:Hp):Prop
|mk(u:_)(_:vs=[.str (tx u)])(_:R (Amp u) H1)
def Ar9 (ta:TA)(σ:St)(H:Hp)(R:(It->Hp->Prop)):Prop:=ta σ H (Amq R)
theorem Amr{p:Pos}(i:Gl X "enumerate") (m:X.mg "enumerate" = none) (j:PA X [a] ta) (o:starEach [a] X.env=[(false,eval a X.env)]:=by rfl) :
  PI X (.Tuple es kx tp) (.Call (.Name "enumerate" p) [a] [] pos) (Ar9 ta):=by
 intro pins s σ H R I h;refine Call_ (Iz I i m Wc (PyProof.Rows.callWith_type1 (thn (j pos pins s σ H _ I h) λus s1 ⟨vs,H1,b,n,k⟩=>?_) o U));obtain⟨u,e,q⟩:=k;subst e;cases n with
 | cons r v =>
  cases v;obtain⟨t,rfl⟩:=r;refine call_enumerate_str λh' d hi l w=>wpAny_pyIter_enum d ?_;refine⟨_,[s1.heap.objs.size+1,s1.heap.objs.size],_,_,H1,U,b.kept w,AhH (lne (AwL _) 0).symm,⟨⟨_,d⟩,hi⟩,λc hc=>?_,q⟩;have f:s1.heap.objs.size<=c:=by
   grind
  exact b.Ahp f (b.hok.fresh f)
theorem Ak0{g:TG}(Pv:Nat->St->Hp->Prop)(f:Pv 0 σ H)
  (j:∀ i c σ H T,u[i]?=some c->Pv i σ H->H T=none->g (.ref T) σ (upd H T (.tup [.int (i:Int),.str (tx [c])])) λa H2=>tb { D with nx:=Pv (i+1),ct:=Pv (i+1),bk:=D.nx } a H2) (l:∀ σ H,Pv u.length σ H->D.nx σ H) :
  ∃ W:Nat->Nat->St->Hp->Prop,(∃ m,W 0 m σ H)/\∀ i m σ H,W i m σ H ->
   ((Amp u).stop i H/\D.nx σ H)\/((Amp u).go i H/\∃ N:St->Hp->Prop,(∀ σ' H',N σ' H'->∃ d,d<m/\W (i+1) d σ' H')/\∀ x H',(Amp u).yld i H x H'->g x σ H' λa H2=>tb { D with nx:=N,ct:=N,bk:=D.nx } a H2):=by
 refine⟨λi m σ H=>m=u.length-i/\i<=u.length/\Pv i σ H,⟨u.length,AA,AvV _,f⟩,?_⟩;rintro i m σ H ⟨rfl,hi,p⟩;by_cases b:i<u.length
 ·refine .inr ⟨b,Pv (i+1),λσ' H' h=>⟨u.length-(i+1),At,U,b,h⟩,λx H' y=>?_⟩;obtain⟨T,c,rfl,k,hc,rfl⟩:=y;exact j i c σ H T hc p k
 ·have e:i=u.length:=Au
  subst e;exact .inl ⟨U,l σ H p⟩
inductive AhI (x:V)(vs:Na)(H:Hp)(Q:VK):Prop
|mk(z:Str)(y:Str)(_:x=.str z)(_:vs=[.str y])(_:z.length<=sizeLine)(_:Q (.str (Txt.stripChars z y)) H)
theorem Abr:MtR X "str.strip" AhI:=by intro pins s σ H x vs v us Q I b a h;obtain⟨z,y,rfl,rfl,d,q⟩:=h;obtain⟨t,rfl⟩:=b;obtain⟨e,rfl,c⟩:=a.one;obtain⟨t',rfl⟩:=c;exact SC.stripChars (λt' k=>⟨.str _,H,I.tok _,⟨_,U⟩,q⟩) d
inductive Agv (x:V)(vs:Na)(H:Hp)(Q:VK):Prop
|mk(z:Str)(y:Str)(_:x=.str z)(_:vs=[.str y])(_:Q (.bl (Txt.startswith z y)) H)
theorem Ak1:MtR X "str.startswith" Agv:=by intro pins s σ H x vs v us Q I b a h;obtain⟨z,y,rfl,rfl,q⟩:=h;obtain⟨t,rfl⟩:=b;obtain⟨d,rfl,c⟩:=a.one;obtain⟨t',rfl⟩:=c;exact SC.startswith ⟨.bl _,H,I,U,q⟩
def trim(u:NI):NI:=((u.dropWhile λc=>decide (c=32)).reverse.dropWhile λc=>decide (c=32)).reverse
theorem AeA(c:Nat):(tx [32]).cps.contains c=decide (c=32):=by
 show(#[32]:Array Nat).contains c=_;by_cases h:c=32
 ·simp
 ·simp_all
theorem AaG{p:Nat->Bool}(l:NI):l.drop (l.takeWhile p).length=l.dropWhile p:=by
 induction l with
 | nil=>rfl
 | cons a l b =>
  rw[Aw2,Axi];by_cases h:p a=true
  ·rw[if_pos h,if_pos h];exact b
  ·rw[if_neg h,if_neg h];rfl
theorem AeB(u:NI):Txt.stripChars (tx u) (tx [32])=tx (trim u):=by
 rw[Txt.stripChars,W.stripBy_eq];have d:=funext AeA;rw[d];unfold W.stripped;simp only [if_true];rw[Aw];generalize f:(λc:Nat=>decide (c=32))=p;have i:=AaG (p:=p) u;have j:(u.takeWhile p).length+(u.dropWhile p).length=u.length:=by
  have:= congrArg List.length (Axj (p:=p) (l:=u));rw[AvL] at this;exact this
 unfold Builtin.Str.strSub trim;rw[f];apply congrArg;apply Array.ext';rw[Array.toList_extract,Fw];rw[List.extract_eq_drop_take,i];have h:((u.dropWhile p).reverse.takeWhile p).length+((u.dropWhile p).reverse.dropWhile p).length=(u.dropWhile p).length:=by
  have:= congrArg List.length (Axj (p:=p) (l:=(u.dropWhile p).reverse));rw[AvL,Awr] at this;exact this
 have e:u.length-((u.dropWhile p).reverse.takeWhile p).length-(u.takeWhile p).length=((u.dropWhile p).reverse.dropWhile p).length:=Au
 rw[e];have a:(u.dropWhile p)=((u.dropWhile p).reverse.dropWhile p).reverse++((u.dropWhile p).reverse.takeWhile p).reverse:=by
  rw[<- List.reverse_append,Axj,List.reverse_reverse]
 generalize k:((u.dropWhile p).reverse.dropWhile p)=b at a ⊢;rw[a,AwQ (by rw[Awr];exact AvN _),Aws (by rw[Awr];exact AvN _)]
theorem AdA(u:NI)(c:Nat):Txt.startswith (tx u) (tx [c])=decide (u.head?=some c):=by
 unfold Txt.startswith Builtin.Str.subAt;rw[Aw];cases u with
 | nil=>rfl
 | cons a u =>
  have e:((tx (a::u)).cps.extract 0 (0+[c].length))=#[a]:=by
   apply Array.ext';rw[Array.toList_extract];rfl
  rw[e];show(decide (0+1<=u.length+1) && (#[a] == #[c]))=_;grind
open PySem PySem.Spec PyProof.Rows PySem.Builtin PySem.Builtin.Str
def jn (c:Nat):NN->NI
 | []=>[]
 | [w]=>w
 | w::v::r=>w++c::jn c (v::r)
theorem Abs(c:Nat):∀{ws:NN},ws≠[]->(jn c ws).count c+1=(ws.map (List.count c)).sum+ws.length
 | [],h=>absurd U h
 | [w],_=>by simp[jn]
 | w::v::r,_=>by
  have a:=Abs c (ws:=v::r) AA;rw[jn];grind
theorem Ams{c:Nat}:∀{w v a b:NI},c∉w->c∉v->w++c::a=v++c::b->w=v/\a=b
 | [],[],a,b,_,_,h=>⟨U,(List.cons.inj h).2⟩
 | [],x::v,a,b,_,hv,h=>absurd AB hv
 | x::w,[],a,b,hw,_,h=>absurd AB hw
 | x::w,y::v,a,b,hw,hv,h=>by
  have e:=List.cons.inj h;have:= Ams (λz=>hw (AvR _ z)) (λz=>hv (AvR _ z)) e.2;exact⟨AB,this.2⟩
theorem Amt{c:Nat}:∀{ws vs:NN},ws≠[]->vs≠[]->(∀ w∈ws,c∉w)->(∀ v∈vs,c∉v)->jn c ws=jn c vs->ws=vs
 | [],_,h,_,_,_,_=>absurd U h
 | _,[],_,h,_,_,_=>absurd U h
 | [w],[v],_,_,_,_,e=>by rw[show w=v from e]
 | [w],v::v'::r,_,_,hw,_,e=>absurd (by rw[show w=v++c::jn c (v'::r) from e];simp) (hw w AvP)
 | w::w'::r,[v],_,_,_,hv,e=>absurd (by rw[<- show w++c::jn c (w'::r)=v from e];simp) (hv v AvP)
 | w::w'::r,v::v'::r',_,_,hw,hv,e=>by
  have h:=Ams (hw w AvP) (hv v AvP) (e);rw[h.1,Amt (ws:=w'::r) (vs:=v'::r') AA AA (λx a=>hw x (AvR _ a)) (λx a=>hv x (AvR _ a)) h.2]
theorem join_list(c:Nat):∀ l:NX,(Str.join ⟨#[c]⟩ l).cps.toList=jn c (l.map λz=>z.cps.toList)
 | []=>rfl
 | [x]=>rfl
 | x::y::r=>by
  show(x++⟨#[c]⟩++Str.join ⟨#[c]⟩ (y::r)).cps.toList=x.cps.toList++c::jn c ((y::r).map λz=>z.cps.toList);rw[<- join_list c (y::r)];show((x.cps++#[c])++(Str.join ⟨#[c]⟩ (y::r)).cps).toList=_;simp
theorem Amu(z:Str):1<=Builtin.Str.strKind z:=by
 unfold Builtin.Str.strKind;split
 ·omega
 ·split <;> omega
theorem ArA(h:c<256):Builtin.Str.strKind ⟨#[c]⟩=1:=by unfold Builtin.Str.strKind;rw[if_pos (by simp;exact h)]
theorem split_len(hc:c<256):(Txt.split (tx u) ⟨#[c]⟩).length=u.count c+1:=by
 have n:=Akr u c;unfold Txt.split;split
 ·rename_i h;have:(tx u).length<1:=by
   rcases Bool.or_eq_true_iff.mp h with h | h
   ·exact of_decide_eq_true h
   ·have:= of_decide_eq_true h;rw[ArA hc] at this;have:= Amu (tx u);lia
  rw[Aw] at this;grind
 ·split
  ·simp_all
  ·rw[StrLaws.partsBetween_eq] <;> skip
   rw[<- StrLaws.partsBetween_eq,length_partsBetween,n]
theorem Abt:∀{l:NI} {a:Nat},a∈l->a<=l.sum
 | [],_,h=>by cases h
 | b::l,a,h=>by
  rw[Aw7];rcases yG.mp h with z | z
  ·rw[z];lia
  ·have:= Abt z;lia
theorem Amv(hc:c<256)(f:ws≠[])(h:jn c ws=u)(no:∀ w∈ws,c∉w):Txt.split (tx u) ⟨#[c]⟩=ws.map tx:=by
 have l:=split_len (u:=u) hc;have j:=congrArg (λz:Str=>z.cps.toList) (StrLaws.join_split (tx u) ⟨#[c]⟩);rw[join_list,Fw] at j;generalize Txt.split (tx u) ⟨#[c]⟩=ps at l j;obtain⟨qs,a⟩:∃ qs,qs=ps.map λz=>z.cps.toList:=⟨_,U⟩;rw[<- a] at j;have i:qs.length=ps.length:=by rw[a,AvK]
 have b:qs≠[]:=λz=>AD
 have cnt:=Abs c b;rw[j,i,l] at cnt;have d:∀ w∈qs,c∉w:=λw hw z=>by
  have h1:w.count c<=(qs.map (List.count c)).sum:=Abt (yF.mpr ⟨w,hw,U⟩);grind
 have e:=Amt b f d no (by rw[j,h]);rw[<- e,a,Aw0];exact(List.map_id' ps).symm.trans (List.map_congr_left λz _=>AE)
theorem Yv:∀{l:List (Str × Tok)} {ws:NN},l.map (·.1)=ws.map tx->Vals (vS ws) (strValues l)
 | [],[],_=>.nil
 | [],w::ws,h=>by cases h
 | p::l,[],h=>by cases h
 | p::l,w::ws,h=>by
  have e:=List.cons.inj h;exact .cons ⟨p.2,by rw[<- e.1]⟩ (Yv e.2)
inductive ArB (x:V)(vs:Na)(H:Hp)(Q:VK):Prop
|mk(u:NI)(c:Nat)(ws:NN)(_:x=.str (tx u))(_:vs=[.str ⟨#[c]⟩])(_:c<256)(_:u.length+2<=sizeLine)(_:ws≠[])(_:jn c ws=u)(_:(∀ w∈ws,c∉w))(_:∀ l,H l=none->Q (.ref l) (upd H l (.lst (vS ws))))
theorem Amw:MtR X "str.split" ArB:=by
 intro pins s σ H x vs v us Q I k j h;obtain⟨u,c,ws,rfl,rfl,hc,m,i,n,no,q⟩:=h;obtain⟨t,rfl⟩:=k;obtain⟨y,rfl,p⟩:=j.one;obtain⟨t',rfl⟩:=p;have es:=Amv hc i n no;have r:ws.length<=u.length+1:=by
  have:= Abs c i;grind
 have f:(tx u).length+2<=sizeLine:=by exact m
 have fin:∀(l:List (Str × Tok))(tk:Nat),l.map (·.1)=Txt.split (tx u) ⟨#[c]⟩->EP X pins σ Q (.ref s.heap.objs.size) { s with heap:=s.heap.push { cls:=.type "list", data:=.seq (strValues l).toArray },toks:=tk }:=λl tk e =>
  ⟨.ref s.heap.objs.size,_,I.laid (λb o e=>zB _ e) (AvN _) (show Iu X.prog X.w _ _ _ (.lst (vS ws)) from⟨by rw[Be];lia,_,_,Yv (e.trans es),zD _ U⟩),U,q _ (I.hok.fresh (AvN _))⟩;have d:(((⟨#[c]⟩:Str)).length == 0)=false:=rfl;have hn:(partsBetween (tx u) (occurrences (tx u) ⟨#[c]⟩ 0 (tx u).length ((tx u).length+1)) ((⟨#[c]⟩:Str)).length).length<=sizeLine:=by
  have z:=StrLaws.occ_length_le (tx u) ⟨#[c]⟩ 0 (tx u).length ((tx u).length+1);rw[length_partsBetween];lia
 cases h1:(decide ((tx u).length<((⟨#[c]⟩:Str)).length) || decide (Builtin.Str.strKind (tx u)<Builtin.Str.strKind ⟨#[c]⟩))
 ·cases a:(occurrences (tx u) ⟨#[c]⟩ 0 (tx u).length ((tx u).length+1)).isEmpty
  ·refine call_meets zY (typeIs_str _ _ _) F.entry_str_split (F.args_str_split_2 _ _) (meets_str_split_sep (tx u) ⟨#[c]⟩ t t' h1 d a Au hn) ?_;rw[strsFrom_eq];exact fin (numbered s.toks _) _ ((numbered_texts _ _).trans ((if_neg (ne_true_of_eq_false h1)).trans (if_neg (ne_true_of_eq_false a))).symm)
  ·exact call_meets zY (typeIs_str _ _ _) F.entry_str_split (F.args_str_split_2 _ _) (meets_str_split_not_found (tx u) ⟨#[c]⟩ t t' h1 d a)
    (fin [(tx u,t)] s.toks ((if_neg (ne_true_of_eq_false h1)).trans (if_pos a)).symm)
 ·exact call_meets zY (typeIs_str _ _ _) F.entry_str_split (F.args_str_split_2 _ _) (meets_str_split_cannot_occur (tx u) ⟨#[c]⟩ t t' h1)
   (fin [(tx u,t)] s.toks (if_pos h1).symm)
def jnS (sp:NI):NN->NI
 | []=>[]
 | [w]=>w
 | w::v::r=>w++(sp++jnS sp (v::r))
theorem Abu(u:NI)(i n:Nat):((tx u).cps.extract i n).toList=(u.drop i).take (n-i):=by show((u.toArray).extract i n).toList=_;rw[Array.toList_extract]
theorem Yw:Builtin.Str.subAt (tx u) (tx sp) j=true↔(u.drop j).take sp.length=sp:=by unfold Builtin.Str.subAt;rw[beq_iff_eq,<- Array.toList_inj,Abu,Aw,show j+sp.length-j=sp.length by omega,Fw]
theorem ArC(h:∀ z∈sp,z<256):Builtin.Str.strKind (tx sp)=1:=by unfold Builtin.Str.strKind;rw[if_pos];rw[<- Array.all_toList,Axk];exact λz a=>zN (h z a)
def Cln (sp w:NI):Prop:=∀ i,i<w.length->(w.drop i++sp).take sp.length≠sp
def At3 (sp w:NI):Prop:=∀ i,i<w.length->(w.drop i).take sp.length≠sp
def Agw (sp:NI):NN->Prop
 | []=>True
 | [w]=>At3 sp w
 | w::v::r=>Cln sp w/\Agw sp (v::r)
theorem Cln.last{w:NI}(h:Cln sp w):At3 sp w:=λi hi e=>h i hi (by
 have a:=congrArg List.length e;rw[AvW] at a;rw[AwQ At];exact e)
theorem AeC{sp:NI}:∀{ws:NN},(∀ w∈ws,Cln sp w)->Agw sp ws
 | [],_=>trivial
 | [w],h=>(h w AvP).last
 | w::v::r,h=>⟨h w AvP,AeC λx a=>h x (AvR _ a)⟩
theorem Apl(p:1<=sp.length):∀(n:Nat)(u:NI),u.length<=n->∃ ws,ws≠[]/\jnS sp ws=u/\Agw sp ws:=by
 intro n
 induction n with
 | zero =>
  intro u l;exact⟨[u],AA,U,λi hi=>At⟩
 | succ n s =>
  intro u l;by_cases h:∃ i,i<u.length/\(u.drop i).take sp.length=sp
  ·obtain⟨i,⟨hi,m⟩,o⟩:∃ i,(i<u.length/\(u.drop i).take sp.length=sp)/\∀ j,j<i->¬(j<u.length/\(u.drop j).take sp.length=sp):=by
    obtain⟨i,hi⟩:=h
    induction i using Nat.strongRecOn with
    | _ i b =>
     by_cases g:∃ j,j<i/\(j<u.length/\(u.drop j).take sp.length=sp)
     ·obtain⟨j,a,c⟩:=g;exact b j a c
     ·exact⟨i,hi,λj a z=>g ⟨j,a,z⟩⟩
   have k:u.drop i=sp++u.drop (i+sp.length):=by
    have:=AwC sp.length (u.drop i);rw[m,AwD] at this;exact this.symm
   have d:u=u.take i++(sp++u.drop (i+sp.length)):=by rw[<- k,AwC]
   obtain⟨ws,f,y,x⟩:=s (u.drop (i+sp.length)) (by rw[Awk];omega);refine⟨u.take i::ws,AA,?_,?_⟩
   ·cases ws with
    | nil=>exact absurd U f
    | cons v r=>rw[jnS,y];exact d.symm
   ·cases ws with
    | nil=>exact absurd U f
    | cons v r =>
     refine⟨λj a e=>?_,x⟩;rw[AvW] at a;refine o j At ⟨At,?_⟩;have w:u.drop j=(u.take i).drop j++(sp++u.drop (i+sp.length)):=by
      have q:=congrArg (List.drop j) d;rw[Ax3 (by rw[AvW];omega)] at q;exact q
     rw[w,<- Awj,AwQ (by rw[AvL];omega)];exact e
  ·exact⟨[u],AA,U,λi hi e=>h ⟨i,hi,e⟩⟩
def psn (W:Nat):Nat->NN->NI
 | _,[]=>[]
 | _,[_]=>[]
 | a,w::v::r=>(a+w.length)::psn W (a+w.length+W) (v::r)
theorem Amx{w x:NI}(h:(w++x).take sp.length=sp)(b:x=[]\/∃ y,x=sp++y)(hw:1<=w.length):(w++sp).take sp.length=sp:=by
 rcases b with rfl | ⟨y,rfl⟩
 ·rw[Awo] at h;have a:=congrArg List.length h;rw[AvW] at a;rw[AwQ At];exact h
 ·rw[<- Awj,AwQ (by rw[AvL];omega)] at h;exact h
theorem Wn{u sp:NI}{limit:Nat}:∀(m i k:Nat)(acc:Array Nat)(free:Nat),(∀ j,i<=j->j<i+m->¬(free<=j/\j+(tx sp).length<=(tx u).length/\Builtin.Str.subAt (tx u) (tx sp) j=true)) ->
  forIn (List.range' i (m+k)) (acc,free) (StrLaws.occBody (tx u) (tx sp) (tx u).length limit)=forIn (List.range' (i+m) k) (acc,free) (StrLaws.occBody (tx u) (tx sp) (tx u).length limit)
 | 0,i,k,acc,free,_=>by rw[Nat.zero_add,Axl]
 | m+1,i,k,acc,free,h=>by
  rw[show m+1+k=(m+k)+1 by omega,Axv,AwN];have e:StrLaws.occBody (tx u) (tx sp) (tx u).length limit i (acc,free)=pure (ForInStep.yield (acc,free)):=by
   unfold StrLaws.occBody;rw[if_neg λz=>h i (AvN _) At ⟨z.1.1.2,z.1.2,z.2⟩]
  rw[e];have a:=Wn (u:=u) (sp:=sp) (limit:=limit) m (i+1) k acc free λj h1 h2=>h j At At;refine Eq.trans a ?_;rw[show i+1+m=i+(m+1) by omega]
theorem Agx{sp:NI}(k:1<=sp.length){limit:Nat}:∀(ws:NN)(a:NI)(acc:Array Nat)(free:Nat),ws≠[]->Agw sp ws->free<=a.length->acc.size+(jnS sp ws).length<limit ->
  ((forIn (List.range' a.length ((jnS sp ws).length+1)) (acc,free) (StrLaws.occBody (tx (a++jnS sp ws)) (tx sp) (tx (a++jnS sp ws)).length limit)).run.fst).toList=acc.toList++psn sp.length a.length ws
 | [],_,_,_,h,_,_,_=>absurd U h
 | [w],a,acc,free,_,hC,hf,hl=>by
  have b:jnS sp [w]=w:=rfl;have no:∀ j,a.length<=j->j<a.length+(w.length+1)->¬(free<=j/\j+(tx sp).length<=(tx (a++jnS sp [w])).length/\Builtin.Str.subAt (tx (a++jnS sp [w])) (tx sp) j=true):=λj h1 h2 z=>by
   obtain⟨_,m,c⟩:=z;rw[Yw,b] at c;rw[b,Aw,Aw,AvL] at m;rw[List.Fe h1] at c;exact hC (j-a.length) At c
  have s:=Wn (limit:=limit) (w.length+1) a.length 0 acc free no;rw[b] at s ⊢;rw[Axl] at s;rw[s];simp[psn]
 | w::v::r,a,acc,free,_,hC,hf,hl=>by
  obtain⟨u,f⟩:∃ u,u=a++jnS sp (w::v::r):=⟨_,U⟩;have b:jnS sp (w::v::r)=w++(sp++jnS sp (v::r)):=rfl;have d:(jnS sp (w::v::r)).length=w.length+(sp.length+(jnS sp (v::r)).length):=by rw[b,AvL,AvL]
  have n:u=(a++w++sp)++jnS sp (v::r):=by rw[f,b];simp
  have q:u.length=a.length+w.length+sp.length+(jnS sp (v::r)).length:=by rw[n];simp only [AvL]
  rw[<- f];have no:∀ j,a.length<=j->j<a.length+w.length->¬(free<=j/\j+(tx sp).length<=(tx u).length/\Builtin.Str.subAt (tx u) (tx sp) j=true):=λj h1 h2 z=>by
   obtain⟨_,m,c⟩:=z;rw[Yw,f,b,List.Fe h1,Ax3 At] at c;exact hC.1 (j-a.length) At (Amx c (.inr ⟨_,U⟩) (by rw[Awk];omega))
  have s:=Wn (limit:=limit) w.length a.length (sp.length+(jnS sp (v::r)).length+1) acc free no;rw[d,show w.length+(sp.length+(jnS sp (v::r)).length)+1=w.length+(sp.length+(jnS sp (v::r)).length+1) by omega,s];rw[show sp.length+(jnS sp (v::r)).length+1=((sp.length-1)+((jnS sp (v::r)).length+1))+1 by omega,Axv,AwN];have i:Builtin.Str.subAt (tx u) (tx sp) (a.length+w.length)=true:=by
   rw[Yw,f,b,<- Awj,List.Fe (by rw[AvL];omega),AvL,AwJ,AwA];exact Axm
  have e:StrLaws.occBody (tx u) (tx sp) (tx u).length limit (a.length+w.length) (acc,free)=pure (ForInStep.yield (acc.push (a.length+w.length),a.length+w.length+(tx sp).length)):=by
   unfold StrLaws.occBody;rw[if_pos ⟨⟨⟨by show acc.size<limit;omega,by show free<=_;omega⟩,by rw[Aw,Aw];omega⟩,i⟩]
  rw[e];have o:=Wn (u:=u) (sp:=sp) (limit:=limit) (sp.length-1) (a.length+w.length+1) ((jnS sp (v::r)).length+1) (acc.push (a.length+w.length)) (a.length+w.length+(tx sp).length) (λj h1 h2 z=>by
   have:=z.1;rw[Aw] at this;omega)
  show((Id.run (forIn (List.range' (a.length+w.length+1) (sp.length-1+((jnS sp (v::r)).length+1))) (acc.push (a.length+w.length),a.length+w.length+(tx sp).length) (StrLaws.occBody (tx u) (tx sp) (tx u).length limit))).fst).toList=_;rw[o];have l:=Agx k (limit:=limit) (v::r) (a++w++sp) (acc.push (a.length+w.length)) (a.length+w.length+(tx sp).length) AA hC.2 (by rw[Aw];simp only [AvL];omega) (by rw[Array.size_push];omega);rw[<- n] at l;have p:(a++w++sp).length=a.length+w.length+sp.length:=by simp only [AvL]
  rw[p] at l;rw[show a.length+w.length+1+(sp.length-1)=a.length+w.length+sp.length by omega,l,Array.toList_push,Awj];rfl
where
 List.Fe {a b:NI} {j:Nat} (h:a.length<=j):(a++b).drop j=b.drop (j-a.length):=by
  rw[List.drop_append,List.drop_of_length_le h,Axn]
theorem AiH{sp:NI}:∀(ws:NN)(a:NI),ws≠[]->StrLaws.partsFrom (tx (a++jnS sp ws)) sp.length a.length (psn sp.length a.length ws)=ws.map tx
 | [],_,h=>absurd U h
 | [w],a,_=>by
  show[strSub (tx (a++w)) a.length (tx (a++w)).length]=[tx w]
  congr 1
  apply Str.ext';apply Array.toList_inj.mp;show((tx (a++w)).cps.extract a.length (tx (a++w)).length).toList=w;rw[Abu,Aw,List.drop_left,AvL,Aws At]
 | w::v::r,a,_=>by
  have b:jnS sp (w::v::r)=w++(sp++jnS sp (v::r)):=rfl;have d:a++jnS sp (w::v::r)=(a++w++sp)++jnS sp (v::r):=by rw[b];simp
  have c:=AiH (sp:=sp) (v::r) (a++w++sp) AA;have e:(a++w++sp).length=a.length+w.length+sp.length:=by simp only [AvL]
  rw[e] at c;show strSub (tx (a++jnS sp (w::v::r))) a.length (a.length+w.length)::StrLaws.partsFrom (tx (a++jnS sp (w::v::r))) sp.length (a.length+w.length+sp.length) (psn sp.length (a.length+w.length+sp.length) (v::r))=_;rw[AvU]
  congr 1
  ·apply Str.ext';apply Array.toList_inj.mp;show((tx (a++jnS sp (w::v::r))).cps.extract a.length (a.length+w.length)).toList=w;rw[Abu,List.drop_left,b,Nat.add_sub_cancel_left,Axm]
  ·rw[d];exact c
theorem Ak2(b:1<=sp.length)(c:∀ z∈sp,z<256)(a:ws≠[])(e:Agw sp ws):Txt.split (tx (jnS sp ws)) (tx sp)=ws.map tx:=by
 have o:=Agx b (limit:=(tx (jnS sp ws)).length+1) ws [] #[] 0 a e (AvN _) (by rw[Aw];simp);have d:occurrences (tx (jnS sp ws)) (tx sp) 0 (tx (jnS sp ws)).length ((tx (jnS sp ws)).length+1)=psn sp.length 0 ws:=by
  rw[StrLaws.occ_eq,Axh,Aw];simp only [Axn,Awn,Aw] at o;exact o
 have one:psn sp.length 0 ws=[]->[tx (jnS sp ws)]=ws.map tx:=λz=>by
  match ws,a,z with
  | [w],_,_=>rfl
  | w::v::r,_,z=>simp[psn] at z
 unfold Txt.split;split
 ·rename_i h;refine one ?_
  match ws,a with
  | [w],_=>rfl
  | w::v::r,_ =>
   exfalso;rcases Bool.or_eq_true_iff.mp h with h | h
   ·have:=of_decide_eq_true h;rw[Aw,Aw] at this;simp only [jnS,AvL] at this;omega
   ·have:=of_decide_eq_true h;rw[ArC c] at this;have:=Amu (tx (jnS sp (w::v::r)));omega
 ·split
  ·rename_i h;rw[List.isEmpty_iff,d] at h;exact one h
  ·rw[StrLaws.partsBetween_eq,d,Aw];exact AiH ws [] a
theorem Amy{sp:NI}(a:1<=sp.length):∀(ws:NN),ws.length<=(jnS sp ws).length+1
 | []=>AA
 | [_]=>AA
 | w::v::r=>by
  have:=Amy a (v::r);simp only [jnS,AvL,AvQ] at *;omega
inductive Apm (x:V)(vs:Na)(H:Hp)(Q:VK):Prop
|mk(sp:NI)(ws:NN)(_:x=.str (tx (jnS sp ws)))(_:vs=[.str (tx sp)])(_:1<=sp.length)(_:(∀ z∈sp,z<256))(_:(jnS sp ws).length+2<=sizeLine)(_:ws≠[])(_:Agw sp ws)(_:∀ l,H l=none->Q (.ref l) (upd H l (.lst (vS ws))))
theorem Tv:MtR X "str.split" Apm:=by
 intro pins s σ H x vs v us Q I m k h;obtain⟨sp,ws,rfl,rfl,a,d,f,p,no,q⟩:=h;obtain⟨t,rfl⟩:=m;obtain⟨y,rfl,r⟩:=k.one;obtain⟨t',rfl⟩:=r;have es:=Ak2 a d p no;have n:=Amy a ws;generalize jnS sp ws=u at es f n ⊢;have j:(tx u).length+2<=sizeLine:=by rw[Aw];exact f
 have fin:∀(l:List (Str × Tok))(tk:Nat),l.map (·.1)=Txt.split (tx u) (tx sp)->EP X pins σ Q (.ref s.heap.objs.size) { s with heap:=s.heap.push { cls:=.type "list", data:=.seq (strValues l).toArray },toks:=tk }:=λl tk e =>
  ⟨.ref s.heap.objs.size,_,I.laid (t':=tk) (λb o e=>zB _ e) (AvN _) (show Iu X.prog X.w _ _ _ (.lst (vS ws)) from⟨by rw[Be];omega,_,_,Yv (e.trans es),zD _ U⟩),U,q _ (I.hok.fresh (AvN _))⟩;have i:((tx sp).length == 0)=false:=by rw[Aw,z5];omega
 have hn:(partsBetween (tx u) (occurrences (tx u) (tx sp) 0 (tx u).length ((tx u).length+1)) ((tx sp)).length).length<=sizeLine:=by
  have z:=StrLaws.occ_length_le (tx u) (tx sp) 0 (tx u).length ((tx u).length+1);rw[length_partsBetween];omega
 cases h1:(decide ((tx u).length<((tx sp)).length) || decide (Builtin.Str.strKind (tx u)<Builtin.Str.strKind (tx sp)))
 ·cases c:(occurrences (tx u) (tx sp) 0 (tx u).length ((tx u).length+1)).isEmpty
  ·refine call_meets zY (typeIs_str _ _ _) F.entry_str_split (F.args_str_split_2 _ _) (meets_str_split_sep (tx u) (tx sp) t t' h1 i c At hn) ?_;show wants (EP X pins σ Q) _ _ { s with toks:=_,heap:=s.heap.push { cls:=.type "list", data:=.seq (strsFrom s.toks (partsBetween (tx u) (occurrences (tx u) (tx sp) 0 (tx u).length ((tx u).length+1)) ((tx sp)).length)).toArray } };rw[strsFrom_eq];exact fin (numbered s.toks _) _ ((numbered_texts _ _).trans ((if_neg (ne_true_of_eq_false h1)).trans (if_neg (ne_true_of_eq_false c))).symm)
  ·exact call_meets zY (typeIs_str _ _ _) F.entry_str_split (F.args_str_split_2 _ _) (meets_str_split_not_found (tx u) (tx sp) t t' h1 i c)
    (fin [(tx u,t)] s.toks ((if_neg (ne_true_of_eq_false h1)).trans (if_pos c)).symm)
 ·exact call_meets zY (typeIs_str _ _ _) F.entry_str_split (F.args_str_split_2 _ _) (meets_str_split_cannot_occur (tx u) (tx sp) t t' h1)
   (fin [(tx u,t)] s.toks (if_pos h1).symm)
theorem Yx{w:NI}(h:∀ i,w[i]?=some 32->w[i+1]?≠some 47):Cln [32,47,32] w:=λi hi e=>by
 have b:(w.drop i++[32,47,32])[0]?=some 32:=by
  have:=congrArg (λl:NI=>l[0]?) e
  simpa [Axo] using this
 have a:(w.drop i++[32,47,32])[1]?=some 47:=by
  have:=congrArg (λl:NI=>l[1]?) e
  simpa [Axo] using this
 rw[Awg (by rw[Awk];omega),AwO,Axl] at b;by_cases c:i+1<w.length
 ·rw[Awg (by rw[Awk];omega),AwO] at a;exact h i b a
 ·have:(w.drop i).length=1:=by rw[Awk];omega
  rw[Awi At,this] at a;simp at a
theorem Amz{w:NI}(h:∀ i,w[i]?=some 44->w[i+1]?≠some 32):Cln [44,32] w:=λi hi e=>by
 have b:(w.drop i++[44,32])[0]?=some 44:=by
  have:=congrArg (λl:NI=>l[0]?) e
  simpa [Axo] using this
 have a:(w.drop i++[44,32])[1]?=some 32:=by
  have:=congrArg (λl:NI=>l[1]?) e
  simpa [Axo] using this
 rw[Awg (by rw[Awk];omega),AwO,Axl] at b;by_cases c:i+1<w.length
 ·rw[Awg (by rw[Awk];omega),AwO] at a;exact h i b a
 ·have:(w.drop i).length=1:=by rw[Awk];omega
  rw[Awi At,this] at a;simp at a
end L2
namespace Mine
open PySem L2
variable {a c n i b q k j m d:Nat}{l ks z u l' f us:NI}{r y rs x:NN}{ps:List (NN)}{es:NA}{o v:Int}{p:Nat->Bool}{as:List Arg}{ts:List Nd}
def Uh (a b:Int):NA:=if a<b then Aao (a+1) 1 (b-a).toNat else Aao (a-1) (-1) (a-b).toNat
def AeD (z:Int):Int:=if z<0 then -z else z
def go (a:Int):NA->NA
 | []=>[]
 | b::r=>Uh a b++go b r
def Agy:NA->NA
 | []=>[]
 | s::r=>s::go s r
def lst (a:Int):NA->Int
 | []=>a
 | b::r=>lst b r
theorem AaH:∀(a:Int)(r:NA)(b:Int),go a (r++[b])=go a r++Uh (lst a r) b
 | a,[],b=>by simp[go,lst]
 | a,c::r,b=>by rw[Awy,go,AaH c r b,go,lst,Awj]
theorem lst_snoc:∀(a:Int)(r:NA)(b:Int),lst a (r++[b])=b
 | a,[],b=>rfl
 | a,c::r,b=>by rw[Awy,lst,lst_snoc c r b]
theorem Agz(a c:Int)(n:Nat):(Aao a c n).length=n:=by unfold Aao;rw[AvK,Awp]
theorem Abv(a b:Int):((Uh a b).length:Int)=AeD (b-a):=by
 unfold Uh AeD;split
 ·rw[Agz,if_neg At];omega
 ·rw[Agz];split <;> omega
theorem Ag0{a c:Int}(h:i<n):(Aao a c n)[i]?=some (a+(i:Int)*c):=by unfold Aao;rw[AvS,AwW h];rfl
theorem Am0{a b:Int}(h1:1<=q)(h2:(q:Int)<=AeD (b-a)):(Uh a b)[q-1]?=some (a+(if b-a<0 then -1 else 1)*(q:Int)):=by
 unfold Uh;unfold AeD at h2;by_cases c:a<b
 ·rw[if_pos c,Ag0 (by rw[if_neg At] at h2;omega),if_neg At]
  congr 1
  omega
 ·rw[if_neg c];by_cases d:b-a<0
  ·rw[if_pos d] at h2 ⊢;rw[Ag0 At]
   congr 1
   omega
  ·rw[if_neg d] at h2;omega
theorem Abw{l r:NA}(h:r≠[]):(l++r).getLast?=r.getLast?:=by
 rw[AwX];cases e:r.getLast? with
 | none=>exact absurd (List.getLast?_eq_none_iff.mp e) h
 | some z=>rfl
theorem AdB{a b:Int}(h:a≠b):(Uh a b).getLast?=some b:=by
 have c:=Abv a b;have pos:0<(Uh a b).length:=by unfold AeD at c;split at c <;> omega
 rw[List.getLast?_eq_getElem?];have e:=Am0 (a:=a) (b:=b) (q:=(Uh a b).length) pos At;rw[e]
 congr 1
 rw[c];unfold AeD;split <;> omega
theorem Am1(a:Int):Uh a a=[]:=by
 have:=Abv a a;unfold AeD at this;have h:(Uh a a).length=0:=by split at this <;> omega
 exact Axu h
theorem AiI:∀(l:NA)(a:Int)(r:NA),l.getLast?=some a->(l++go a r).getLast?=some (lst a r)
 | l,a,[],h=>by simpa [go,lst] using h
 | l,a,b::r,h=>by
  rw[go,lst,<- Awj];refine AiI _ b r ?_;by_cases e:a=b
  ·rw[e,Am1,Awo,<- e];exact h
  ·rw[Abw (λz=>by have:=AdB e;rw[z] at this;cases this)];exact AdB e
theorem Ak3(s:Int)(r:NA):(s::go s r).getLast?=some (lst s r):=AiI [s] s r U
def dec (n:Nat):NI:=(Str.ofString (toString (n:Int))).cps.toList
theorem AeE(n:Nat):Str.ofString (toString (n:Int))=tx (dec n):=(Atk _).symm
def Aq6 (n:Nat):Bool:=(dec n).all (λc=>decide (48<=c/\c<=57)) && decide (1<=(dec n).length/\(dec n).length<=2) && decide (¬((dec n).length=2/\(dec n)[0]?=some 48)) && decide (PySem.NumText.digitsVal (dec n)=n)
theorem ArE:∀ n,n<100->Aq6 n=true:=As
structure Dec (n:Nat):Prop where
 dg:∀ c∈dec n,48<=c/\c<=57
 l1:1<=(dec n).length
 l2:(dec n).length<=2
 z:¬((dec n).length=2/\(dec n)[0]?=some 48)
 v:PySem.NumText.digitsVal (dec n)=n
theorem dec_is(h:n<100):Dec n:=by have:=ArE n h;unfold Aq6 at this;simp only [AwG,decide_eq_true_eq,Axk] at this;obtain⟨⟨⟨h1,h2⟩,a⟩,b⟩:=this;exact⟨h1,h2.1,h2.2,a,b⟩
def tails:NI->NI
 | []=>[]
 | n::r=>45::(dec n++tails r)
def At4:NI->NI
 | []=>[]
 | n::r=>dec n++tails r
inductive Nd where
 | nam (w:NI)
 | num (n:Nat)
 | run (r:NI)
 | node (w:NI) (ts:List Nd)
namespace Pat
def sk (l:NI):NI:=l.dropWhile λc=>decide (c=32)
def letter(c:Nat):Bool:=decide (97<=c/\c<=122)
def Dw (c:Nat):Bool:=decide (48<=c/\c<=57)
def knot(c:Nat):Bool:=decide (c=35\/c=46)
def one (c:Nat):NI->Option (NI)
 | []=>none
 | a::l=>if a=c then some l else none
def AdC (f:NI):Bool:=decide ((1<=f.length/\f.length<=2)/\¬(f.length=2/\f[0]?=some 48))
def num (l:NI):Option (Nat × NI) :=
 if AdC (l.takeWhile Dw)=true then some (PySem.NumText.digitsVal (l.takeWhile Dw),sk (l.dropWhile Dw)) else none
def comma(l:NI):Option (NI):=(one 44 l).map sk
def run (l:NI):Option (NI × NI) :=
 if l.takeWhile knot=[] then none else some (l.takeWhile knot,sk (l.dropWhile knot))
def DN:Nat->NI->Option (NN × NI)
 | 0,_=>none
 | k+1,l=>match one 44 l with
  | none=>some ([],l)
  | some l1=>match run (sk l1) with
   | none=>none
   | some (r,l2)=>(DN k l2).map λp=>(r::p.1,p.2)
def runs(l:NI):Option (NN × NI) :=
 match run l with
 | none=>none
 | some (r,l1)=>match DN (l1.length+1) l1 with
  | none=>none
  | some (rs,l2)=>if (r::rs).length>40 then none else some (r::rs,l2)
def wants(w:NI):Option (NI) :=
 if w=[116,119,105,108,108]\/w=[115,97,116,105,110] then some [110,110]
 else if w=[98,101,115,105,100,101]\/w=[97,98,111,118,101]\/w=[108,97,121] then some [112,112]
 else if w=[109,105,114,114,111,114]\/w=[117,112,101,110,100]\/w=[98,97,99,107]\/w=[113,117,97,114,116,101,114] then some [112]
 else if w=[116,105,108,101] then some [112,110,110]
 else if w=[98,108,111,99,107,115] then some [112,112,112]
 else none
def FQ:NI:=[114,111,119,115]
def isWord(w:NI):Bool:=decide (w=FQ) || (wants w).isSome
def isName(w:NI):Bool:=decide (1<=w.length/\w.length<=20) && w.all letter && !isWord w
def args(sub:NI->Option (Nd × NI)):Bool->NI->NI->Option (List Nd × NI)
 | _,[],l=>some ([],l)
 | fst,k::ks,l =>
  match (if fst=true then some l else comma l) with
  | none=>none
  | some l1=>match (if k=112 then sub l1 else (num l1).map λp=>(Nd.num p.1,p.2)) with
   | none=>none
   | some (a,l2)=>(args sub false ks l2).map λp=>(a::p.1,p.2)
def things(sub:NI->Option (Nd × NI))(w l:NI):Option (List Nd × NI) :=
 if w=FQ then (runs l).map λp=>(p.1.map Nd.run,p.2)
 else match wants w with
  | none=>none
  | some ks=>args sub true ks l
def node:Nat->NI->Option (Nd × NI)
 | 0,_=>none
 | d+1,l =>
  match one 40 (sk (l.dropWhile letter)) with
  | none=>if isName (l.takeWhile letter)=true then some (.nam (l.takeWhile letter),sk (l.dropWhile letter)) else none
  | some l1=>match things (node d) (l.takeWhile letter) (sk l1) with
   | none=>none
   | some (ts,l2)=>match one 41 l2 with
    | none=>none
    | some l3=>some (.node (l.takeWhile letter) ts,sk l3)
def whole(l:NI):Option Nd :=
 match node 12 (sk l) with
 | some (n,[])=>some n
 | _=>none
end Pat
def Sg (c:Nat):Prop:=c=35\/c=46
structure Cl (cl:NN)(m n:Nat):Prop where
 hn:cl.length=n
 hm:∀ t∈cl,t.length=m
 sg:∀ t∈cl,∀ c∈t,Sg c
 m1:1<=m
 m40:m<=40
 n1:1<=n
 n40:n<=40
def flip(c:Nat):Nat:=if c=35 then 46 else 35
theorem AiJ(c:Nat):Sg (flip c):=by unfold flip Sg;split <;> simp
def back(cl:NN):NN:=cl.map λt=>t.reverse.map flip
def col (cl:NN)(e:Nat):NI:=cl.map λt=>t.getD e 0
def Abx (cl:NN)(m:Nat):NN:=(List.range m).map λe=>(col cl e).map flip
theorem Cl.back{cl:NN}{m n:Nat}(h:Cl cl m n):Cl (back cl) m n where
 hn:=by unfold Mine.back;rw[AvK];exact h.hn
 hm:=λt a=>by
  obtain⟨s,b,rfl⟩:=yF.mp a;simp[h.hm s b]
 sg:=λt a c hc=>by
  obtain⟨s,b,rfl⟩:=yF.mp a;obtain⟨d,_,rfl⟩:=yF.mp hc;exact AiJ d
 m1:=h.m1
 m40:=h.m40
 n1:=h.n1
 n40:=h.n40
theorem Cl.Abx{cl:NN}{m n:Nat}(h:Cl cl m n):Cl (Abx cl m) n m where
 hn:=by unfold Mine.Abx;simp
 hm:=λt a=>by
  obtain⟨e,_,rfl⟩:=yF.mp a;simp[col,h.hn]
 sg:=λt a c hc=>by
  obtain⟨e,_,rfl⟩:=yF.mp a;obtain⟨d,_,rfl⟩:=yF.mp hc;exact AiJ d
 m1:=h.n1
 m40:=h.n40
 n1:=h.m1
 n40:=h.m40
def wid (cl:NN)(ac:Nat):NN:=cl.map λt=>(List.replicate ac t).flatten
def til (cl:NN)(ac al:Nat):NN:=(List.replicate al (wid cl ac)).flatten
theorem AaI{α:Type}(l:List α):∀ k,((List.replicate k l).flatten).length=k*l.length
 | 0=>AA
 | k+1=>by rw[Awt,Awl,AvL,AaI l k,Nat.add_mul,Nat.one_mul];omega
theorem Wo{α:Type}{l:List α}{x:α}:∀{k},x∈(List.replicate k l).flatten->x∈l
 | 0,h=>by simp at h
 | k+1,h=>by
  rw[Awt,Awl] at h;rcases zG.mp h with h | h
  ·exact h
  ·exact Wo h
theorem AiK{α:Type}(l:List α):∀(k i:Nat),i<k*l.length->((List.replicate k l).flatten)[i]?=l[i%l.length]?
 | 0,i,h=>by simp at h
 | k+1,i,h=>by
  rw[Awt,Awl];by_cases hi:i<l.length
  ·rw[Awg hi,Axw hi]
  ·rw[Nat.add_mul,Nat.one_mul] at h;rw[Awi At,AiK l k (i-l.length) At]
   congr 1
   exact(Nat.mod_eq_sub_mod At).symm
theorem Cl.til{cl:NN}{m n a b:Nat}(h:Cl cl m n)(h1:1<=a)(h2:1<=b)(f:a*m<=40)(i:b*n<=40):Cl (til cl a b) (a*m) (b*n) where
 hn:=by unfold Mine.til;rw[AaI];unfold wid;rw[AvK,h.hn]
 hm:=λt d=>by
  obtain⟨s,e,rfl⟩:=yF.mp (Wo d);rw[AaI,h.hm s e]
 sg:=λt d c hc=>by
  obtain⟨s,e,rfl⟩:=yF.mp (Wo d);exact h.sg s e c (Wo hc)
 m1:=Nat.mul_pos h1 h.m1
 m40:=f
 n1:=Nat.mul_pos h2 h.n1
 n40:=i
def plc (os:NA)(k:Nat):Nat:=(os.take k).count (os.getD k 0)
theorem V3{os:NA}(h:k<os.length)(z:Int):(os.take (k+1)).count z=(os.take k).count z+if os.getD k 0=z then 1 else 0:=by
 rw[AvT,Axp,AvM h];have e:os.getD k 0=os[k]:=by simp[List.getD,h]
 rw[e];simp only [Option.toList_some,List.count_cons,List.count_nil,beq_iff_eq];simp
theorem count_le{os:NA}(k:Nat)(z:Int):(os.take k).count z<=os.count z:=List.Sublist.count_le _ (List.take_sublist _ _)
theorem AhJ{os:NA}(h:k<os.length):plc os k<os.count (os.getD k 0):=by have h1:=V3 h (os.getD k 0);rw[if_pos rfl] at h1;have h2:=count_le (os:=os) (k+1) (os.getD k 0);unfold plc;omega
def Wq (o e:Int)(own:NI)(p:Nat):Nat:=if o=e then own.getD p 0 else if e<o then 35 else 46
def FT (ps:List (NN))(es:NA)(o:Int)(b:Nat):NI:=(List.range es.length).map λk=>Wq o (es.getD k 0) ((ps.getD o.toNat []).getD b []) (plc es k)
def lay (ps:List (NN))(es os:NA):NN:=(List.range os.length).map λj=>FT ps es (os.getD j 0) (plc os j)
theorem Lb(ps:List (NN))(es:NA)(o:Int)(b:Nat):(FT ps es o b).length=es.length:=by unfold FT;rw[AvK,Awp]
theorem V4(h:k<es.length):(FT ps es o b)[k]?=some (Wq o (es.getD k 0) ((ps.getD o.toNat []).getD b []) (plc es k)):=by unfold FT;rw[AvS,AwW h];rfl
theorem AeF(ps:List (NN))(es os:NA):(lay ps es os).length=os.length:=by unfold lay;rw[AvK,Awp]
theorem AiL{os:NA}(h:j<os.length):(lay ps es os)[j]?=some (FT ps es (os.getD j 0) (plc os j)):=by unfold lay;rw[AvS,AwW h];rfl
structure AhK (ps:List (NN))(es os:NA):Prop where
 e:∀ z∈es,0<=z/\z<(ps.length:Int)
 o:∀ z∈os,0<=z/\z<(ps.length:Int)
 hn:∀ i,i<ps.length->(ps.getD i []).length=os.count (i:Int)
 hm:∀ i,i<ps.length->∀ t∈ps.getD i [],t.length=es.count (i:Int)/\∀ c∈t,Sg c
 e1:1<=es.length
 e40:es.length<=40
 o1:1<=os.length
 o40:os.length<=40
theorem getD_mem{os:NA}(h:k<os.length):os.getD k 0∈os:=by
 have e:os.getD k 0=os[k]:=by simp[List.getD,h]
 rw[e];exact Awh h
theorem AhK.own{os:NA}(C:AhK ps es os)(h:j<os.length):(os.getD j 0).toNat<ps.length/\plc os j<(ps.getD (os.getD j 0).toNat []).length:=by
 have h1:=C.o _ (getD_mem h);have h2:(os.getD j 0).toNat<ps.length:=At
 refine⟨h2,?_⟩;rw[C.hn _ h2,show(((os.getD j 0).toNat:Nat):Int)=os.getD j 0 by omega];exact AhJ h
theorem AhK.row{os:NA}(C:AhK ps es os)(h:i<ps.length)(a:b<(ps.getD i []).length):((ps.getD i []).getD b []).length=es.count (i:Int):=by
 have e:(ps.getD i []).getD b []=(ps.getD i [])[b]:=by rw[Awv,AvM a];rfl
 rw[e];exact(C.hm i h _ (Awh a)).1
structure Own (es:NA)(z:Int)(i:Nat)(ms:NI):Prop where
 len:ms.length=(es.take i).count z
 lt:∀ m∈ms,m<i
 at':∀ a m,ms[a]?=some m->es.getD m 0=z/\(es.take m).count z=a
def Rs (ks:NA):Prop:=(∀(i:Nat)(a b:Int),ks[i]?=some a->ks[i+1]?=some b->a<b)/\∀ k∈ks,0<=k/\k<40
theorem ArF:Rs []:=⟨λi a b h=>by simp at h,λk h=>by cases h⟩
theorem ArG{ks:NA}{z:Int}(h:Rs ks)(l:∀ k∈ks,k<z)(j:0<=z)(h1:z<40):Rs (ks++[z]):=by
 refine⟨λi a b d c=>?_,λk hk=>?_⟩
 ·by_cases hi:i+1<ks.length
  ·rw[Awg At] at d;rw[Awg hi] at c;exact h.1 i a b d c
  ·by_cases f:i<ks.length
   ·rw[Awg f] at d;rw[Awi At] at c;have e:i+1-ks.length=0:=At
    rw[e] at c;have:b=z:=by simpa using c.symm
    rw[this];exact l a (AvX d)
   ·rw[Awi At] at c;have:([z]:NA)[i+1-ks.length]?=none:=by
     apply AwE;simp;omega
    rw[this] at c;cases c
 ·rcases zG.mp hk with h2 | h2
  ·exact h.2 k h2
  ·rw[zF.mp h2];exact⟨j,h1⟩
structure Ft (th:NA)(tss:NV)(tr:NA):Prop where
 m1:1<=th.length
 m40:th.length<=40
 t1:1<=tss.length
 t40:tss.length<=40
 n1:1<=tr.length
 n40:tr.length<=40
 hth:∀ v∈th,0<=v/\v<40
 hti:∀ ks∈tss,Rs ks
 htr:∀ v∈tr,0<=v/\v<tss.length
def shd (th ks:NA):NI:=th.map λs=>if s∈ks then 35 else 46
def wv (th:NA)(tss:NV)(tr:NA):NN:=tr.map λv=>shd th (tss.getD v.toNat [])
theorem Apn(th ks:NA):(shd th ks).length=th.length:=by unfold shd;rw[AvK]
theorem AhL(th:NA)(tss:NV)(tr:NA):(wv th tss tr).length=tr.length:=by unfold wv;rw[AvK]
theorem Apo{tss:NV}(h:0<=v/\v<tss.length):tss[v.toNat]?=some (tss.getD v.toNat []):=by
 have:v.toNat<tss.length:=At
 rw[Awv,AvM this];rfl
section
variable {α β:Type} [DecidableEq α] [DecidableEq β]
def unl (l:List α):List α:=l.foldl (λf x=>if x∈f then f else f++[x]) []
def ix (l:List α)(x:α):Nat:=@List.idxOf α instBEqOfDecidableEq x l
def num (l:List α):NI:=l.map λx=>ix (unl l) x
end
theorem Ld{α β:Type}{f:α->List β}{h:Nat}:∀ xs:List α,(∀ x∈xs,(f x).length=h)->(xs.flatMap f).length=xs.length*h
 | [],_=>AA
 | x::xs,k=>by
  rw[Axx,AvL,k x AvP,Ld xs λy a=>k y (AvR _ a),AvQ,Nat.succ_mul];omega
theorem Ws{α β:Type}{f:α->List β}{h:Nat}:∀(xs:List α),(∀ x∈xs,(f x).length=h)->∀ i s,s<h->(xs.flatMap f)[i*h+s]?=xs[i]?.bind λx=>(f x)[s]?
 | [],_,i,s,hs=>AA
 | x::xs,k,0,s,hs=>by
  rw[Axx,Nat.zero_mul,Nat.zero_add,Awg (by rw[k x AvP];exact hs)];rfl
 | x::xs,k,i+1,s,hs=>by
  have kx:=k x AvP;rw[Axx,Awi (by rw[kx,Nat.succ_mul];omega),kx,show(i+1)*h+s-h=i*h+s by rw[Nat.succ_mul];omega,
   Ws xs (λy a=>k y (AvR _ a)) i s hs,List.getElem?_cons_succ]
def fil (pr one other:NN):NN:=pr.flatMap λu=>(one.zip other).map λq=>u.flatMap λc=>if c=35 then q.1 else q.2
section
variable {pr one other:NN}{w h:Nat} (C:Cl pr m n) (C1:Cl one w h) (C2:Cl other w h)
include C C1 C2
theorem Apq:(fil pr one other).length=n*h:=by unfold fil;rw[Ld (h:=h) pr λx _=>by rw[AvK,List.length_zip,C1.hn,C2.hn,AwR],C.hn]
theorem Am2{a b:NI}(d:a∈one)(e:b∈other):(u.flatMap λc=>if c=35 then a else b).length=u.length*w:=Ld u λx _=>by split;exact C1.hm a d;exact C2.hm b e
theorem ArH(l:m*w<=40)(hn:n*h<=40):Cl (fil pr one other) (m*w) (n*h):=by
 have f:∀ r∈fil pr one other,∃ u∈pr,∃ a∈one,∃ b∈other,r=u.flatMap λc=>if c=35 then a else b:=λr e=>by
  unfold fil at e;obtain⟨u,i,e⟩:=List.mem_flatMap.mp e;obtain⟨⟨a,b⟩,o,rfl⟩:=yF.mp e;have z:=Axc o;exact⟨u,i,a,z.1,b,z.2,U⟩
 refine⟨Apq C C1 C2,λr e=>?_,λr e c hc=>?_,Nat.mul_pos C.m1 C1.m1,l,Nat.mul_pos C.n1 C1.n1,hn⟩
 ·obtain⟨u,i,a,j,b,k,rfl⟩:=f r e;rw[Am2 C C1 C2 j k,C.hm u i]
 ·obtain⟨u,i,a,j,b,k,rfl⟩:=f r e;obtain⟨d,p,hc⟩:=List.mem_flatMap.mp hc;split at hc
  ·exact C1.sg a j c hc
  ·exact C2.sg b k c hc
end
def twW:NI:=[116,119,105,108,108]
def saW:NI:=[115,97,116,105,110]
def beW:NI:=[98,101,115,105,100,101]
def abW:NI:=[97,98,111,118,101]
def miW:NI:=[109,105,114,114,111,114]
def upW:NI:=[117,112,101,110,100]
def baW:NI:=[98,97,99,107]
def quW:NI:=[113,117,97,114,116,101,114]
def tiW:NI:=[116,105,108,101]
def blW:NI:=[98,108,111,99,107,115]
def laW:NI:=[108,97,121]
def twl (m n:Nat)(y x:Nat):Nat:=if (x+(m+n)-y)%(m+n)<m then 35 else 46
def twT (m n y:Nat):NI:=(List.range (m+n)).map (twl m n y)
def Aap (m n:Nat):NI:=List.replicate m 35++List.replicate n 46
theorem Ag1:(Aap m n).length=m+n:=by unfold Aap;rw[AvL,Awu,Awu]
theorem AiM(h:i<(Aap m n).length):(Aap m n)[i]=if i<m then 35 else 46:=by
 unfold Aap at h ⊢;by_cases c:i<m
 ·rw[if_pos c,List.getElem_append_left (by rw[Awu];exact c),List.getElem_replicate]
 ·rw[if_neg c,List.getElem_append_right (by rw[Awu];omega),List.getElem_replicate]
theorem ArI{y:Nat}(f:y<m+n):(Aap m n).drop (m+n-y)++(Aap m n).take (m+n-y)=twT m n y:=by
 have fl:(Aap m n).length=m+n:=Ag1;apply List.ext_getElem
 ·unfold twT;rw[AvL,Awk,AvW,fl,AvK,Awp];omega
 ·intro x h1 h2;have d:x<m+n:=by
   unfold twT at h2;rw[AvK,Awp] at h2;exact h2
  have a:((Aap m n).drop (m+n-y)).length=y:=by rw[Awk,fl];omega
  have b:(twT m n y)[x]=twl m n y x:=by simp only [twT,List.getElem_map,List.getElem_range]
  rw[b];unfold twl;by_cases c:x<y
  ·rw[List.getElem_append_left (by rw[a];exact c),List.getElem_drop,AiM,show m+n-y+x=x+(m+n)-y by omega,Axw (show x+(m+n)-y<m+n by omega)]
  ·rw[List.getElem_append_right (by rw[a];omega),List.getElem_take,AiM,a];have e:(x+(m+n)-y)%(m+n)=x-y:=by
    rw[show x+(m+n)-y=(x-y)+(m+n) by omega,Nat.add_mod_right];exact Axw At
   rw[e]
theorem rep1(n c:Nat):(List.replicate n [c]).flatten=List.replicate n c:=by
 induction n with
 | zero=>rfl
 | succ n a=>rw[Awt,Awl,a,Awt];rfl
def stT (s o:Nat):NI:=(List.range s).map λx=>if x=o then 35 else 46
def saT (s p y:Nat):NI:=stT s (y*p%s)
def Avf (m n i:Nat):List Bool:=(List.range i).map λj=>decide (m%(2+j)=0) && decide (n%(2+j)=0)
def cop (m n k:Nat):Bool:=(Avf m n (k-1)).any id
def Pri (s p:Nat):Prop:=1<=p/\p<s/\cop s p p=false
noncomputable instance (s p:Nat):Decidable (Pri s p):=inferInstanceAs (Decidable (_/\_/\_))
inductive Rf where
 | nop
 | big
 | unk
inductive Res where
 | ok (rows:NN)
 | no (f:Rf)
def wdt (x:NN):Nat:=(x.headD []).length
def Aby (rs:NN):Res:=if (rs.map λr=>decide (¬r.length=wdt rs)).any id=true then .no .nop else if 40<wdt rs\/40<rs.length then .no .big else .ok rs
def PK (a b:Nat):Res:=if a<1\/b<1 then .no .nop else if 40<a+b then .no .big else .ok ((List.range (a+b)).map (twT a b))
def AhM (m n:Nat):Res:=if ¬Pri m n then .no .nop else if 40<m then .no .big else .ok ((List.range m).map (saT m n))
def PN (x y:NN):Res:=if ¬x.length=y.length then .no .nop else if 40<wdt x+wdt y\/40<x.length then .no .big else .ok (List.zipWith (·++·) x y)
def V5 (x y:NN):Res:=if ¬wdt x=wdt y then .no .nop else if 40<wdt x\/40<x.length+y.length then .no .big else .ok (x++y)
def AhN (z:NI)(x:NN):Res:=if z=miW then .ok (x.map List.reverse) else if z=upW then .ok x.reverse else if z=baW then .ok (back x) else .ok (Abx x (wdt x))
def Zu (x:NN)(a b:Nat):Res:=if a<1\/b<1 then .no .nop else if 40<wdt x*a\/40<x.length*b then .no .big else .ok (til x a b)
def AeG (p x y:NN):Res:=if ¬wdt x=wdt y\/¬x.length=y.length then .no .nop else if 40<wdt p*wdt x\/40<p.length*x.length then .no .big else .ok (fil p x y)
def Ir (k:Nat):NA:=(List.replicate k [(0:Int),1]).flatten
def AhO (x y:NN):Res:=if ¬wdt x=wdt y\/¬x.length=y.length then .no .nop else if 40<2*wdt x\/40<2*x.length then .no .big else .ok (lay [x,y] (Ir (wdt x)) (Ir x.length))
inductive Arg where
 | num (n:Nat)
 | run (r:NI)
 | cl (x:NN) (z:NI)
def runOf:Arg->NI
 | .run r=>r
 | _=>[]
def made(z:NI)(as:List Arg):Res :=
 if z=Pat.FQ then Aby (as.map runOf) else
 match as with
 | [.num a,.num b]=>if z=twW then PK a b else AhM a b
 | [.cl x _]=>AhN z x
 | [.cl x _,.cl y _]=>if z=beW then PN x y else if z=abW then V5 x y else AhO x y
 | [.cl x _,.num a,.num b]=>Zu x a b
 | [.cl x _,.cl y _,.cl w _]=>AeG x y w
 | _=>.no .nop
def cj:NN->NI
 | []=>[]
 | y::ys=>y++(ys.map λy=>[44]++y).flatten
def wrA:Arg->NI
 | .num n=>dec n
 | .run r=>r
 | .cl _ z=>z
def wz (z:NI)(ys:NN):NI:=z++(40::(cj ys++[41]))
def wr:Nat->Nd->NI
 | _,.nam z=>z
 | _,.num n=>dec n
 | _,.run r=>r
 | 0,.node _ _=>[]
 | d+1,.node z ts=>wz z (ts.map (wr d))
def arg (sub:Nd->Res)(wrt:Nd->NI):Nd->Rf ⊕ Arg
 | .num n=>.inr (.num n)
 | .run r=>.inr (.run r)
 | .nam z=>match sub (.nam z) with
  | .ok x=>.inr (.cl x (wrt (.nam z)))
  | .no f=>.inl f
 | .node z ts=>match sub (.node z ts) with
  | .ok x=>.inr (.cl x (wrt (.node z ts)))
  | .no f=>.inl f
def args(sub:Nd->Res)(wrt:Nd->NI):List Nd->Rf ⊕ List Arg
 | []=>.inr []
 | x::ts=>match arg sub wrt x with
  | .inl f=>.inl f
  | .inr a=>match args sub wrt ts with
   | .inl f=>.inl f
   | .inr as=>.inr (a::as)
abbrev Kns:=List (NI × NN)
def known(kn:Kns)(z:NI):Res:=match kn.find? λp=>decide (p.1=z) with
 | some p=>.ok p.2
 | none=>.no .unk
def out (kn:Kns):Nat->Nd->Res
 | _,.nam z=>known kn z
 | d+1,.node z ts=>match args (out kn d) (wr d) ts with
  | .inl f=>.no f
  | .inr as=>made z as
 | _,_=>.no .nop
theorem AeH{kn:Kns}:out kn d (.nam z)=known kn z:=by cases d <;> rfl
theorem AhP:wr d (.nam z)=z:=by cases d <;> rfl
theorem Am3:wr d (.num n)=dec n:=by cases d <;> rfl
theorem Am4{r:NI}:wr d (.run r)=r:=by cases d <;> rfl
theorem AiN{kn:Kns}{d:Nat}:∀{ts:List Nd} {as:List Arg},args (out kn d) (wr d) ts=.inr as->as.map wrA=ts.map (wr d)
 | [],as,h=>by cases h;rfl
 | x::ts,as,h=>by
  unfold args at h;have i:∀ a,arg (out kn d) (wr d) x=.inr a->wrA a=wr d x:=λa b=>by
   cases x with
   | num n=>cases b;exact Am3.symm
   | run r=>cases b;exact Am4.symm
   | nam z =>
    unfold arg at b;dsimp only at b;cases e:out kn d (.nam z) with
    | ok x=>rw[e] at b;cases b;rfl
    | no f=>rw[e] at b;cases b
   | node z ts =>
    unfold arg at b;dsimp only at b;cases e:out kn d (.node z ts) with
    | ok x=>rw[e] at b;cases b;rfl
    | no f=>rw[e] at b;cases b
  cases e:arg (out kn d) (wr d) x with
  | inl f=>rw[e] at h;cases h
  | inr a =>
   rw[e] at h;dsimp only at h;cases c:args (out kn d) (wr d) ts with
   | inl f=>rw[c] at h;cases h
   | inr j =>
    rw[c] at h;cases h;rw[AvU,AvU,i a e,AiN c]
theorem Abz{sub:Nd->Res}{b:Nd->NI}:∀{ts:List Nd} {as:List Arg},args sub b ts=.inr as->as.length=ts.length
 | [],as,h=>by cases h;rfl
 | x::ts,as,h=>by
  unfold args at h;cases e:arg sub b x with
  | inl f=>rw[e] at h;cases h
  | inr a =>
   rw[e] at h;dsimp only at h;cases c:args sub b ts with
   | inl f=>rw[c] at h;cases h
   | inr d=>rw[c] at h;cases h;rw[AvQ,AvQ,Abz c]
theorem AdD{sub:Nd->Res}{c:Nd->NI}{x:Nd}:∀{ts:List Nd} {as:List Arg},args sub c ts=.inr as->args sub c (ts++[x])=match arg sub c x with
  | .inl f=>.inl f
  | .inr a=>.inr (as++[a])
 | [],as,h=>by
  cases h;rw[Axn];unfold args;cases arg sub c x with
  | inl f=>rfl
  | inr a=>rfl
 | y::ts,as,h=>by
  unfold args at h;rw[Awy]
  conv=>lhs;unfold args
  cases e:arg sub c y with
  | inl f=>rw[e] at h;cases h
  | inr a =>
   rw[e] at h;dsimp only at h ⊢;cases d:args sub c ts with
   | inl f=>rw[d] at h;cases h
   | inr i =>
    rw[d] at h;cases h;rw[AdD d];cases arg sub c x with
    | inl f=>rfl
    | inr b=>rfl
theorem AiO{sub:Nd->Res}{b:Nd->NI}{f:Rf}:∀{ts us:List Nd},args sub b ts=.inl f->args sub b (ts++us)=.inl f
 | [],us,h=>by cases h
 | y::ts,us,h=>by
  unfold args at h;rw[Awy];unfold args;cases e:arg sub b y with
  | inl f=>rw[e] at h;exact h
  | inr a =>
   rw[e] at h;dsimp only at h ⊢;cases c:args sub b ts with
   | inl f=>rw[c] at h;rw[AiO c];exact h
   | inr d=>rw[c] at h;cases h
inductive Wd:Nat->Nd->Prop
 | nam {d:Nat} {z:NI}:Pat.isName z=true->Wd (d+1) (.nam z)
 | rows {d:Nat} {rs:NN}:rs≠[]->rs.length<=40->(∀ r∈rs,r≠[]/\∀ c∈r,Sg c)->Wd (d+1) (.node Pat.FQ (rs.map Nd.run))
 | nums {d:Nat} {z:NI} {a b:Nat}:z=twW\/z=saW->a<100->b<100->Wd (d+1) (.node z [.num a,.num b])
 | one {d:Nat} {z:NI} {x:Nd}:z=miW\/z=upW\/z=baW\/z=quW->Wd d x->Wd (d+1) (.node z [x])
 | two {d:Nat} {z:NI} {x y:Nd}:z=beW\/z=abW\/z=laW->Wd d x->Wd d y->Wd (d+1) (.node z [x,y])
 | tile {d:Nat} {x:Nd} {a b:Nat}:Wd d x->a<100->b<100->Wd (d+1) (.node tiW [x,.num a,.num b])
 | blk {d:Nat} {x y w:Nd}:Wd d x->Wd d y->Wd d w->Wd (d+1) (.node blW [x,y,w])
theorem Pat.R7(l:NI):(Pat.sk l).length<=l.length:=(AwY _).length_le
theorem Pat.AhQ(p:Nat->Bool)(l:NI):(l.takeWhile p).length+(l.dropWhile p).length=l.length:=by have:=congrArg List.length (Axj (p:=p) (l:=l));rw[AvL] at this;exact this
theorem Pat.AaJ(h:Pat.one c l=some l'):l'.length+1=l.length:=by
 cases l with
 | nil=>cases h
 | cons a l =>
  unfold Pat.one at h;dsimp only at h;by_cases e:a=c
  ·rw[if_pos e] at h;cases h;rfl
  ·rw[if_neg e] at h;cases h
theorem AeI{p:Nat->Bool}:∀{l:NI} {c:Nat},c∈l.takeWhile p->p c=true
 | [],c,h=>by simp at h
 | a::l,c,h=>by
  rw[Aw2] at h;split at h
  next e =>
   rcases yG.mp h with rfl | h
   ·exact e
   ·exact AeI h
  ·simp at h
theorem Aps(h:Pat.AdC f=true)(i:∀ c∈f,Pat.Dw c=true):NumText.digitsVal f<100/\(dec (NumText.digitsVal f)).length<=f.length:=by
 unfold Pat.AdC at h;have h:=of_decide_eq_true h;have d:∀ c,Pat.Dw c=true->48<=c/\c<=57:=λc hc=>of_decide_eq_true hc;rcases f with _ | ⟨a,_ | ⟨b,_ | ⟨c,f⟩⟩⟩
 ·simp at h
 ·have k:=d a (i a AA);have e:a=48\/a=49\/a=50\/a=51\/a=52\/a=53\/a=54\/a=55\/a=56\/a=57:=At
  rcases e with rfl | rfl | rfl | rfl | rfl | rfl | rfl | rfl | rfl | rfl <;> decide +kernel
 ·have k:=d a (i a AA);have m:=d b (i b AA);have e:a=48\/a=49\/a=50\/a=51\/a=52\/a=53\/a=54\/a=55\/a=56\/a=57:=At
  have l:b=48\/b=49\/b=50\/b=51\/b=52\/b=53\/b=54\/b=55\/b=56\/b=57:=At
  have j:∀ x∈List.range 58,∀ y∈List.range 58,48<=x->48<=y->NumText.digitsVal [x,y]<100/\(dec (NumText.digitsVal [x,y])).length<=2:=As
  exact j a (yH.mpr At) b (yH.mpr At) At At
 ·simp at h
theorem Pat.ArJ(h:Pat.num l=some (n,l')):n<100/\(dec n).length+l'.length<=l.length:=by
 unfold Pat.num at h;split at h
 next e =>
  cases h;have g:=Aps e λc hc=>AeI hc;have:=Pat.R7 (l.dropWhile Pat.Dw);have:=Pat.AhQ Pat.Dw l;exact⟨g.1,At⟩
 ·cases h
theorem Pat.Ak4(h:Pat.comma l=some l'):l'.length+1<=l.length:=by
 unfold Pat.comma at h;cases e:Pat.one 44 l with
 | none=>rw[e] at h;cases h
 | some l1 =>
  rw[e] at h;cases h;have:=Pat.AaJ e;have:=Pat.R7 l1;omega
theorem Pat.Am5{r:NI}(h:Pat.run l=some (r,l')):r≠[]/\(∀ c∈r,Sg c)/\r.length+l'.length<=l.length:=by
 unfold Pat.run at h;split at h
 ·cases h
 next e =>
  cases h;have:=Pat.R7 (l.dropWhile Pat.knot);have:=Pat.AhQ Pat.knot l;exact⟨e,λc hc=>of_decide_eq_true (p:=c=35\/c=46) (AeI hc),At⟩
theorem Pat.AiP:∀{k:Nat} {l l':NI} {rs:NN},Pat.DN k l=some (rs,l')->(∀ r∈rs,r≠[]/\∀ c∈r,Sg c)/\((rs.map λy=>[44]++y).flatten).length+l'.length<=l.length
 | 0,l,l',rs,h=>by cases h
 | k+1,l,l',rs,h=>by
  unfold Pat.DN at h;cases e:Pat.one 44 l with
  | none=>rw[e] at h;cases h;exact⟨λr f=>by simp at f,AA⟩
  | some l1 =>
   rw[e] at h;dsimp only at h;cases b:Pat.run (Pat.sk l1) with
   | none=>rw[b] at h;cases h
   | some q =>
    obtain⟨r,l2⟩:=q;rw[b] at h;dsimp only at h;cases d:Pat.DN k l2 with
    | none=>rw[d] at h;cases h
    | some q =>
     obtain⟨i,j⟩:=q;rw[d] at h;cases h;have g1:=Pat.AaJ e;have g2:=Pat.Am5 b;have g3:=Pat.AiP d;have m:=Pat.R7 l1;refine⟨λs a=>?_,?_⟩
     ·rcases yG.mp a with rfl | a
      ·exact⟨g2.1,g2.2.1⟩
      ·exact g3.1 s a
     ·rw[AvU,Awl,AvL,AvL,Awz];have:=g3.2;have:=g2.2.2
      try dsimp only
      omega
theorem Pat.AeJ(h:Pat.runs l=some (rs,l')):rs≠[]/\rs.length<=40/\(∀ r∈rs,r≠[]/\∀ c∈r,Sg c)/\(cj rs).length+l'.length<=l.length:=by
 unfold Pat.runs at h;cases e:Pat.run l with
 | none=>rw[e] at h;cases h
 | some q =>
  obtain⟨r,l1⟩:=q;rw[e] at h;dsimp only at h;cases a:Pat.DN (l1.length+1) l1 with
  | none=>rw[a] at h;cases h
  | some q =>
   obtain⟨d,l2⟩:=q;rw[a] at h;dsimp only at h;split at h
   ·cases h
   next c =>
    cases h;have g1:=Pat.Am5 e;have g2:=Pat.AiP a;refine⟨AA,At,λs b=>?_,?_⟩
    ·rcases yG.mp b with rfl | b
     ·exact⟨g1.1,g1.2.1⟩
     ·exact g2.1 s b
    ·unfold cj;rw[AvL];have:=g1.2.2;have:=g2.2;omega
def Rdg (d:Nat)(l:NI)(x:Nd)(l':NI):Prop:=(wr d x).length+l'.length<=l.length
def Kds (d:Nat):NI->List Nd->Prop
 | [],[]=>True
 | k::ks,x::ts=>(if k=112 then Wd d x else ∃ n,x=Nd.num n/\n<100)/\Kds d ks ts
 | _,_=>False
theorem AiQ{d:Nat}(m:∀{l l':NI} {x:Nd},Pat.node d l=some (x,l')->Wd d x/\Rdg d l x l'):∀{ks l l':NI} {ts:List Nd} {b:Bool},Pat.args (Pat.node d) b ks l=some (ts,l') ->
  Kds d ks ts/\(if b=true then (cj (ts.map (wr d))).length else ((ts.map (wr d)).map λy=>[44]++y).flatten.length)+l'.length<=l.length
 | [],l,l',ts,b,h=>by
  unfold Pat.args at h;cases h;refine⟨trivial,?_⟩;cases b <;> simp[cj]
 | k::ks,l,l',ts,b,h=>by
  unfold Pat.args at h;cases e:(if b=true then some l else Pat.comma l) with
  | none=>rw[e] at h;cases h
  | some l1 =>
   rw[e] at h;dsimp only at h;cases f:(if k=112 then Pat.node d l1 else (Pat.num l1).map λp=>(Nd.num p.1,p.2)) with
   | none=>rw[f] at h;cases h
   | some q =>
    obtain⟨a,l2⟩:=q;rw[f] at h;dsimp only at h;cases j:Pat.args (Pat.node d) false ks l2 with
    | none=>rw[j] at h;cases h
    | some q =>
     obtain⟨o,r⟩:=q;rw[j] at h;cases h;have g3:=AiQ m j;have g2:(if k=112 then Wd d a else ∃ n,a=Nd.num n/\n<100)/\(wr d a).length+l2.length<=l1.length:=by
      by_cases c:k=112
      ·rw[if_pos c] at f;rw[if_pos c];exact m f
      ·rw[if_neg c] at f;rw[if_neg c];cases i:Pat.num l1 with
       | none=>rw[i] at f;cases f
       | some q =>
        obtain⟨n,s⟩:=q;rw[i] at f;cases f;have g:=Pat.ArJ i;exact⟨⟨n,U,g.1⟩,by rw[Am3];exact g.2⟩
     refine⟨⟨g2.1,g3.1⟩,?_⟩;have g3:=g3.2;rw[if_neg (λz=>nomatch z)] at g3;cases b with
     | true =>
      cases e;rw[if_pos U,AvU];unfold cj;rw[AvL]
      try dsimp only
      omega
     | false =>
      rw[if_neg (λz=>nomatch z)] at e ⊢;have:=Pat.Ak4 e;rw[AvU,AvU,Awl,AvL,AvL,Awz]
      try dsimp only
      omega
theorem Kds.nil{d:Nat}{ts:List Nd}(h:Kds d [] ts):ts=[]:=by
 cases ts with
 | nil=>rfl
 | cons _ _=>exact h.elim
theorem Kds.cons{d k:Nat}{ks:NI}{ts:List Nd}(h:Kds d (k::ks) ts):∃ x a,ts=x::a/\(if k=112 then Wd d x else ∃ n,x=Nd.num n/\n<100)/\Kds d ks a:=by
 cases ts with
 | nil=>exact h.elim
 | cons x a=>exact⟨x,a,U,h.1,h.2⟩
theorem AiR:∀{d:Nat} {l l':NI} {x:Nd},Pat.node d l=some (x,l')->Wd d x/\Rdg d l x l'
 | 0,l,l',x,h=>by cases h
 | d+1,l,l',x,h=>by
  unfold Pat.node at h;have k:=Pat.AhQ Pat.letter l;have m:=Pat.R7 (l.dropWhile Pat.letter);cases e:Pat.one 40 (Pat.sk (l.dropWhile Pat.letter)) with
  | none =>
   rw[e] at h;dsimp only at h;split at h
   next c =>
    cases h;exact⟨.nam c,by unfold Rdg;rw[AhP];omega⟩
   ·cases h
  | some l1 =>
   rw[e] at h;dsimp only at h;have o1:=Pat.AaJ e;have s1:=Pat.R7 l1;generalize A:l.takeWhile Pat.letter=z at h k;cases i:Pat.things (Pat.node d) z (Pat.sk l1) with
   | none=>rw[i] at h;cases h
   | some q =>
    obtain⟨ts,l2⟩:=q;rw[i] at h;dsimp only at h;cases p:Pat.one 41 l2 with
    | none=>rw[p] at h;cases h
    | some u =>
     rw[p] at h;cases h;have C:=Pat.AaJ p;have y:=Pat.R7 u;have j:Wd (d+1) (.node z ts)/\(cj (ts.map (wr d))).length+l2.length<=(Pat.sk l1).length:=by
      unfold Pat.things at i;by_cases c:z=Pat.FQ
      ·rw[if_pos c] at i;cases f:Pat.runs (Pat.sk l1) with
       | none=>rw[f] at i;cases i
       | some q =>
        obtain⟨rs,B⟩:=q;rw[f] at i;cases i;have g:=Pat.AeJ f;refine⟨by rw[c];exact .rows g.1 g.2.1 g.2.2.1,?_⟩;rw[Aw0,show(wr d∘Nd.run)=id from funext λr=>Am4,Aw8];exact g.2.2.2
      ·rw[if_neg c] at i;cases f:Pat.wants z with
       | none=>rw[f] at i;cases i
       | some ks =>
        rw[f] at i;dsimp only at i;have g:=AiQ (λh=>AiR h) i;rw[if_pos rfl] at g;refine⟨?_,g.2⟩;have K:=g.1;unfold Pat.wants at f;split at f
        next w =>
         cases f;obtain⟨a,k,rfl,p1,K⟩:=K.cons;obtain⟨b,m,rfl,p2,K⟩:=K.cons;cases K.nil;obtain⟨a,rfl,v⟩:=p1;obtain⟨b,rfl,o⟩:=p2;exact .nums w v o
        split at f
        next w =>
         cases f;obtain⟨a,k,rfl,p1,K⟩:=K.cons;obtain⟨b,m,rfl,p2,K⟩:=K.cons;cases K.nil;exact .two w p1 p2
        split at f
        next w =>
         cases f;obtain⟨a,k,rfl,p1,K⟩:=K.cons;cases K.nil;exact .one w p1
        split at f
        next w =>
         cases f;obtain⟨a,k,rfl,p1,K⟩:=K.cons;obtain⟨b,m,rfl,p2,K⟩:=K.cons;obtain⟨c,s,rfl,n,K⟩:=K.cons;cases K.nil;obtain⟨b,rfl,o⟩:=p2;obtain⟨c,rfl,hc⟩:=n;rw[w];exact .tile p1 o hc
        split at f
        next w =>
         cases f;obtain⟨a,k,rfl,p1,K⟩:=K.cons;obtain⟨b,m,rfl,p2,K⟩:=K.cons;obtain⟨c,s,rfl,n,K⟩:=K.cons;cases K.nil;rw[w];exact .blk p1 p2 n
        ·cases f
     exact⟨j.1,by unfold Rdg wr wz;rw[AvL,AvQ,AvL,Awz];have:=j.2;omega⟩
theorem Am6{x:Nd}(h:Pat.whole l=some x):Wd 12 x/\(wr 12 x).length<=l.length:=by
 unfold Pat.whole at h;cases e:Pat.node 12 (Pat.sk l) with
 | none=>rw[e] at h;cases h
 | some q =>
  obtain⟨n,l'⟩:=q;rw[e] at h;cases l' with
  | nil =>
   cases h;have g:=AiR e;refine⟨g.1,?_⟩;have:=g.2;unfold Rdg at this;have:=Pat.R7 l;omega
  | cons _ _=>cases h
theorem Cl.wdt{x:NN}{m n:Nat}(C:Cl x m n):wdt x=m:=by
 cases x with
 | nil=>have:=C.hn;have:=C.n1;simp at *;omega
 | cons r x=>exact C.hm r AvP
theorem Cl.same(C:Cl x m n):Cl x (Mine.wdt x) x.length:=by rw[C.wdt,C.hn];exact C
def Clo (x:NN):Prop:=Cl x (wdt x) x.length
theorem Cl.clo(C:Cl x m n):Clo x:=C.same
theorem Am7{p:Prop}[Decidable p]:Sg (if p then 35 else 46):=by split;exact .inl rfl;exact .inr U
theorem Am8(h1:1<=a)(e:a+b<=40):Cl ((List.range (a+b)).map (twT a b)) (a+b) (a+b) where
 hn:=by rw[AvK,Awp]
 hm:=λt d=>by
  obtain⟨y,_,rfl⟩:=yF.mp d;unfold twT;rw[AvK,Awp]
 sg:=λt d c hc=>by
  obtain⟨y,_,rfl⟩:=yF.mp d;obtain⟨x,_,rfl⟩:=yF.mp hc;exact Am7
 m1:=At
 m40:=e
 n1:=At
 n40:=e
theorem Am9(h1:1<=m)(b:m<=40):Cl ((List.range m).map (saT m n)) m m where
 hn:=by rw[AvK,Awp]
 hm:=λt a=>by
  obtain⟨y,_,rfl⟩:=yF.mp a;unfold saT stT;rw[AvK,Awp]
 sg:=λt a c hc=>by
  obtain⟨y,_,rfl⟩:=yF.mp a;obtain⟨x,_,rfl⟩:=yF.mp hc;exact Am7
 m1:=h1
 m40:=b
 n1:=h1
 n40:=b
theorem AhR:∀{x y:NN} {r:NI},r∈List.zipWith (·++·) x y->∃ a∈x,∃ b∈y,r=a++b
 | [],_,r,h=>by simp at h
 | _::_,[],r,h=>by simp at h
 | a::x,b::y,r,h=>by
  rw[List.zipWith_cons_cons] at h;rcases yG.mp h with rfl | h
  ·exact⟨a,AvP,b,AvP,U⟩
  ·obtain⟨c,d,f,i,e⟩:=AhR h;exact⟨c,AvR _ d,f,AvR _ i,e⟩
theorem Ak5{e:Nat}(C:Cl x m n)(D:Cl y e n)(h:m+e<=40):Cl (List.zipWith (·++·) x y) (m+e) n where
 hn:=by rw[Axy,C.hn,D.hn,AwR]
 hm:=λt f=>by
  obtain⟨a,d,b,i,rfl⟩:=AhR f;rw[AvL,C.hm a d,D.hm b i]
 sg:=λt f c hc=>by
  obtain⟨a,d,b,i,rfl⟩:=AhR f;rcases zG.mp hc with hc | hc
  ·exact C.sg a d c hc
  ·exact D.sg b i c hc
 m1:=by have:=C.m1;omega
 m40:=h
 n1:=C.n1
 n40:=C.n40
theorem AmA{b:Nat}(C:Cl x m n)(D:Cl y m b)(h:n+b<=40):Cl (x++y) m (n+b) where
 hn:=by rw[AvL,C.hn,D.hn]
 hm:=λt a=>by
  rcases zG.mp a with a | a
  ·exact C.hm t a
  ·exact D.hm t a
 sg:=λt a c hc=>by
  rcases zG.mp a with a | a
  ·exact C.sg t a c hc
  ·exact D.sg t a c hc
 m1:=C.m1
 m40:=C.m40
 n1:=by have:=C.n1;omega
 n40:=h
theorem Ak6(C:Cl x m n):Cl (x.map List.reverse) m n where
 hn:=by rw[AvK,C.hn]
 hm:=λt d=>by
  obtain⟨a,b,rfl⟩:=yF.mp d;rw[Awr,C.hm a b]
 sg:=λt d c hc=>by
  obtain⟨a,b,rfl⟩:=yF.mp d;exact C.sg a b c (List.mem_reverse.mp hc)
 m1:=C.m1
 m40:=C.m40
 n1:=C.n1
 n40:=C.n40
theorem AmB(C:Cl x m n):Cl x.reverse m n where
 hn:=by rw[Awr,C.hn]
 hm:=λt a=>C.hm t (List.mem_reverse.mp a)
 sg:=λt a c hc=>C.sg t (List.mem_reverse.mp a) c hc
 m1:=C.m1
 m40:=C.m40
 n1:=C.n1
 n40:=C.n40
theorem Gs(k:Nat):(Ir k).length=2*k:=by unfold Ir;rw[AaI];simp;omega
theorem PQ(k:Nat)(i:Int):(Ir k).count i=if i=0\/i=1 then k else 0:=by
 unfold Ir
 induction k with
 | zero=>simp
 | succ k b =>
  rw[Awt,Awl,Axp,b];by_cases a:i=0
  ·subst a;simp;omega
  ·by_cases h1:i=1
   ·subst h1;simp;omega
   ·rw[if_neg At,if_neg At];simp[List.count_cons,Ne.symm a,Ne.symm h1]
theorem Ag2{i:Int}(h:i∈Ir k):0<=i/\i<2:=by have:=Wo h;simp at this;omega
theorem AmC(C:Cl x m n)(D:Cl y m n)(hm:2*m<=40)(hn:2*n<=40):AhK [x,y] (Ir m) (Ir n) where
 e:=λz b=>by have:=Ag2 b;exact⟨this.1,by show z<2;exact this.2⟩
 o:=λz b=>by have:=Ag2 b;exact⟨this.1,by show z<2;exact this.2⟩
 hn:=λi hi=>by
  have:i=0\/i=1:=by simp only [AvQ,Awn] at hi;omega
  rcases this with rfl | rfl
  ·rw[PQ,if_pos Ap];exact C.hn
  ·rw[PQ,if_pos Ap];exact D.hn
 hm:=λi hi t a=>by
  have:i=0\/i=1:=by simp only [AvQ,Awn] at hi;omega
  rcases this with rfl | rfl
  ·rw[PQ,if_pos Ap];exact⟨C.hm t a,C.sg t a⟩
  ·rw[PQ,if_pos Ap];exact⟨D.hm t a,D.sg t a⟩
 e1:=by have:=C.m1;rw[Gs];omega
 e40:=by rw[Gs];exact hm
 o1:=by have:=C.n1;rw[Gs];omega
 o40:=by rw[Gs];exact hn
theorem ArK{os:NA}(C:AhK ps es os):Cl (lay ps es os) es.length os.length where
 hn:=AeF ps es os
 hm:=λt b=>by
  obtain⟨j,_,rfl⟩:=yF.mp b;exact Lb ..
 sg:=λt b c hc=>by
  obtain⟨j,a,rfl⟩:=yF.mp b;have a:=yH.mp a;obtain⟨k,hk,rfl⟩:=yF.mp hc;have hk:=yH.mp hk;unfold Wq;split
  next e =>
   obtain⟨o1,o2⟩:=C.own a;have f:(ps.getD (os.getD j 0).toNat []).getD (plc os j) []=(ps.getD (os.getD j 0).toNat [])[plc os j]:=by rw[Awv,AvM o2];rfl
   have M:=C.hm _ o1 _ (Awh o2);rw[f];have h:=C.o _ (getD_mem a);have lt:=AhJ hk;rw[<- e,show os.getD j 0=(((os.getD j 0).toNat:Nat):Int) by omega,<- M.1] at lt;have d:((ps.getD (os.getD j 0).toNat [])[plc os j]).getD (plc es k) 0=((ps.getD (os.getD j 0).toNat [])[plc os j])[plc es k]:=by rw[Awv,AvM lt];rfl
   rw[d];exact M.2 _ (Awh lt)
  ·exact Am7
 m1:=C.e1
 m40:=C.e40
 n1:=C.o1
 n40:=C.o40
theorem AmD{sub:Nd->Res}{a:Nd->NI}{x:Nd}(h:Wd d x):arg sub a x=match sub x with
  | .ok r=>.inr (.cl r (a x))
  | .no f=>.inl f:=by
 cases h <;> rfl
theorem Ak7{kn:Kns}(hk:∀ p∈kn,Clo p.2)(h:known kn z=.ok r):Clo r:=by
 unfold known at h;cases e:kn.find? λp=>decide (p.1=z) with
 | none=>rw[e] at h;cases h
 | some p=>rw[e] at h;cases h;exact hk p (List.mem_of_find?_eq_some e)
theorem Wu(C:Clo x)(h:AhN z x=.ok r):Clo r:=by
 unfold AhN at h;split at h
 ·cases h;exact(Ak6 C).clo
 split at h
 ·cases h;exact(AmB C).clo
 split at h
 ·cases h;exact(Cl.back C).clo
 ·cases h;exact(Cl.Abx C).clo
theorem Ab0(C:Clo x)(D:Clo y)(h:PN x y=.ok r):Clo r:=by
 unfold PN at h;split at h
 ·cases h
 next e =>
  split at h
  ·cases h
  next e2 =>
   cases h;have e:=Decidable.of_not_not e;unfold Clo at D;rw[<- e] at D;exact(Ak5 C D At).clo
theorem AdE(C:Clo x)(D:Clo y)(h:V5 x y=.ok r):Clo r:=by
 unfold V5 at h;split at h
 ·cases h
 next e =>
  split at h
  ·cases h
  next e2 =>
   cases h;have e:=Decidable.of_not_not e;unfold Clo at D;rw[<- e] at D;exact(AmA C D At).clo
theorem AiS(C:Clo x)(D:Clo y)(h:AhO x y=.ok r):Clo r:=by
 unfold AhO at h;split at h
 ·cases h
 next e =>
  split at h
  ·cases h
  next e2 =>
   cases h;have b:wdt x=wdt y:=Decidable.of_not_not λz=>e (.inl z);have a:x.length=y.length:=Decidable.of_not_not λz=>e (.inr z);unfold Clo at D;rw[<- b,<- a] at D;exact(ArK (AmC C D At At)).clo
theorem Ag3(C:Clo x)(h:Zu x a b=.ok r):Clo r:=by
 unfold Zu at h;split at h
 ·cases h
 next e =>
  split at h
  ·cases h
  next e2 =>
   cases h;exact(Cl.til C At At (by rw[AwH];omega) (by rw[AwH];omega)).clo
theorem AhS{p:NN}(B:Clo p)(C:Clo x)(D:Clo y)(h:AeG p x y=.ok r):Clo r:=by
 unfold AeG at h;split at h
 ·cases h
 next e =>
  split at h
  ·cases h
  next e2 =>
   cases h;have b:wdt x=wdt y:=Decidable.of_not_not λz=>e (.inl z);have a:x.length=y.length:=Decidable.of_not_not λz=>e (.inr z);unfold Clo at D;rw[<- b,<- a] at D;exact(ArH B C D At At).clo
theorem AmE(h1:rs≠[])(h2:∀ r∈rs,r≠[]/\∀ c∈r,Sg c)(h:Aby rs=.ok r):Clo r:=by
 unfold Aby at h;split at h
 ·cases h
 next e =>
  split at h
  ·cases h
  next e2 =>
   injection h with h;subst h;have w:∀ u∈rs,u.length=wdt rs:=λu a=>Decidable.of_not_not λz=>e (by
    rw[Axq];exact List.any_eq_true.mpr ⟨u,a,zN z⟩)
   refine⟨U,w,λu a=>(h2 u a).2,?_,At,zZ.mpr h1,At⟩;cases rs with
   | nil=>exact absurd U h1
   | cons u r=>exact zZ.mpr (h2 u AvP).1
theorem AdF(h:PK a b=.ok r):Clo r:=by
 unfold PK at h;split at h
 ·cases h
 next e =>
  split at h
  ·cases h
  ·cases h;exact(Am8 At At).clo
theorem Ak8(h:AhM a b=.ok r):Clo r:=by
 unfold AhM at h;split at h
 ·cases h
 next e =>
  have e:=Decidable.of_not_not e;split at h
  ·cases h
  ·cases h;exact(Am9 (by have:=e.1;have:=e.2.1;omega) At).clo
theorem Yy{sub:Nd->Res}{a:Nd->NI}:∀ rs:NN,args sub a (rs.map Nd.run)=.inr (rs.map Arg.run)
 | []=>rfl
 | r::rs=>by
  rw[AvU];unfold args;rw[Yy rs];rfl
theorem Yz(rs:NN):(rs.map Arg.run).map runOf=rs:=by rw[Aw0];exact Aw8 _
inductive Fit:NI->List Arg->Prop
 | rows {rs:NN}:rs≠[]->rs.length<=40->(∀ r∈rs,r≠[]/\∀ c∈r,Sg c)->Fit Pat.FQ (rs.map Arg.run)
 | nums {z:NI} {a b:Nat}:z=twW\/z=saW->a<100->b<100->Fit z [.num a,.num b]
 | one {z v:NI} {x:NN}:z=miW\/z=upW\/z=baW\/z=quW->Clo x->Fit z [.cl x v]
 | two {z v u:NI} {x y:NN}:z=beW\/z=abW\/z=laW->Clo x->Clo y->Fit z [.cl x v,.cl y u]
 | tile {v:NI} {x:NN} {a b:Nat}:Clo x->a<100->b<100->Fit tiW [.cl x v,.num a,.num b]
 | blk {v u s:NI} {x y w:NN}:Clo x->Clo y->Clo w->Fit blW [.cl x v,.cl y u,.cl w s]
theorem AmF(F:Fit z as)(h:made z as=.ok r):Clo r:=by
 cases F with
 | rows h1 h2 b =>
  unfold made at h;rw[if_pos U,Yz] at h;exact AmE h1 b h
 | nums w a c =>
  rcases w with rfl | rfl
  ·exact AdF h
  ·exact Ak8 h
 | one w C =>
  rcases w with rfl | rfl | rfl | rfl
  ·exact Wu (z:=miW) C h
  ·exact Wu (z:=upW) C h
  ·exact Wu (z:=baW) C h
  ·exact Wu (z:=quW) C h
 | two w C D =>
  rcases w with rfl | rfl | rfl
  ·exact Ab0 C D h
  ·exact AdE C D h
  ·exact AiS C D h
 | tile C a c=>exact Ag3 C h
 | blk B C D=>exact AhS B C D h
theorem AmG{kn:Kns}(q:∀{x:Nd} {r:NN},Wd d x->out kn d x=.ok r->Clo r)(W:Wd (d+1) (.node z ts))(h:args (out kn d) (wr d) ts=.inr as):Fit z as:=by
 have sub:∀{x:Nd} {a:Arg},Wd d x->arg (out kn d) (wr d) x=.inr a->∃ r,a=.cl r (wr d x)/\Clo r:=λ{x a} W h=>by
  rw[AmD W] at h;cases e:out kn d x with
  | no f=>rw[e] at h;cases h
  | ok r=>rw[e] at h;cases h;exact⟨r,U,q W e⟩
 have i:∀{x:Nd} {ts:List Nd} {as:List Arg},args (out kn d) (wr d) (x::ts)=.inr as->∃ a l,as=a::l/\arg (out kn d) (wr d) x=.inr a/\args (out kn d) (wr d) ts=.inr l:=λ{x ts as} h=>by
  unfold args at h;cases e:arg (out kn d) (wr d) x with
  | inl f=>rw[e] at h;cases h
  | inr a =>
   rw[e] at h;dsimp only at h;cases j:args (out kn d) (wr d) ts with
   | inl f=>rw[j] at h;cases h
   | inr l=>rw[j] at h;cases h;exact⟨a,l,U,U,U⟩
 have nil:∀{as:List Arg},args (out kn d) (wr d) []=.inr as->as=[]:=λh=>by cases h;rfl
 cases W with
 | rows h1 h2 p =>
  rw[Yy] at h;cases h;exact .rows h1 h2 p
 | nums w m n =>
  obtain⟨a,_,rfl,k,h⟩:=i h;obtain⟨b,_,rfl,j,h⟩:=i h;cases nil h;cases k;cases j;exact .nums w m n
 | one w X =>
  obtain⟨a,_,rfl,k,h⟩:=i h;cases nil h;obtain⟨r,rfl,C⟩:=sub X k;exact .one w C
 | two w X Y =>
  obtain⟨a,_,rfl,k,h⟩:=i h;obtain⟨b,_,rfl,j,h⟩:=i h;cases nil h;obtain⟨r,rfl,C⟩:=sub X k;obtain⟨r2,rfl,D⟩:=sub Y j;exact .two w C D
 | tile X m n =>
  obtain⟨a,_,rfl,k,h⟩:=i h;obtain⟨b,_,rfl,j,h⟩:=i h;obtain⟨c,_,rfl,o,h⟩:=i h;cases nil h;cases j;cases o;obtain⟨r,rfl,C⟩:=sub X k;exact .tile C m n
 | blk X Y Z =>
  obtain⟨a,_,rfl,k,h⟩:=i h;obtain⟨b,_,rfl,j,h⟩:=i h;obtain⟨c,_,rfl,o,h⟩:=i h;cases nil h;obtain⟨r,rfl,C⟩:=sub X k;obtain⟨r2,rfl,D⟩:=sub Y j;obtain⟨s,rfl,F⟩:=sub Z o;exact .blk C D F
theorem AiT{kn:Kns}(hk:∀ p∈kn,Clo p.2):∀{d:Nat} {x:Nd} {r:NN},Wd d x->out kn d x=.ok r->Clo r
 | 0,x,r,W,h=>by cases W
 | d+1,.nam z,r,W,h=>Ak7 hk h
 | d+1,.num n,r,W,h=>by cases W
 | d+1,.run n,r,W,h=>by cases W
 | d+1,.node z ts,r,W,h=>by
  unfold out at h;cases e:args (out kn d) (wr d) ts with
  | inl f=>rw[e] at h;cases h
  | inr as =>
   rw[e] at h;exact AmF (AmG (AiT hk) W e) h
theorem AiU:∀{xs:NN} {y:NI},y∈xs->y.length<=((xs.map λy=>[44]++y).flatten).length
 | [],y,h=>by simp at h
 | a::xs,y,h=>by
  rw[AvU,Awl,AvL,AvL];rcases yG.mp h with rfl | h
  ·omega
  ·have:=AiU h;omega
theorem Aq7:∀{ys:NN} {y:NI},y∈ys->y.length<=(cj ys).length
 | [],y,h=>by simp at h
 | x::xs,y,h=>by
  unfold cj;rw[AvL];rcases yG.mp h with rfl | h
  ·omega
  ·have:=AiU h;omega
theorem Apt{x:Nd}(h:x∈ts):(wr d x).length<=(wr (d+1) (.node z ts)).length:=by have:=Aq7 (yF.mpr ⟨x,h,U⟩:wr d x∈ts.map (wr d));show _<=(wz z (ts.map (wr d))).length;unfold wz;rw[AvL,AvQ,AvL];omega
def rdp (kn:Kns)(u:NI):Res × NI:=match Pat.whole u with
 | none=>(.no .nop,[])
 | some x=>(out kn 12 x,wr 12 x)
def Pat.good(c:Nat):Prop:=Pat.letter c=true\/Pat.Dw c=true\/c=35\/c=46\/c=44\/c=40\/c=41\/c=32
def Bt (l l':NI):Prop:=∃ p,l=p++l'/\∀ c∈p,Pat.good c
theorem Bt.refl(l:NI):Bt l l:=⟨[],U,λc h=>by simp at h⟩
theorem Bt.trans{a b c:NI}(h:Bt a b)(g:Bt b c):Bt a c:=by
 obtain⟨p,rfl,e⟩:=h;obtain⟨q,rfl,f⟩:=g;refine⟨p++q,by rw[Awj],λx d=>?_⟩;rcases zG.mp d with d | d
 ·exact e x d
 ·exact f x d
theorem Bt.drop(a:∀ c,p c=true->Pat.good c)(l:NI):Bt l (l.dropWhile p):=⟨l.takeWhile p,List.takeWhile_append_dropWhile.symm,λc hc=>a c (AeI hc)⟩
theorem Bt.sk(l:NI):Bt l (Pat.sk l):=Bt.drop (λc h=>.inr (.inr (.inr (.inr (.inr (.inr (.inr (of_decide_eq_true h)))))))) l
theorem Bt.one(h:Pat.one c l=some l')(hc:Pat.good c):Bt l l':=by
 cases l with
 | nil=>cases h
 | cons a l =>
  unfold Pat.one at h;dsimp only at h;by_cases e:a=c
  ·rw[if_pos e] at h;cases h;exact⟨[a],U,λx b=>by rw[zF.mp b,e];exact hc⟩
  ·rw[if_neg e] at h;cases h
theorem g40:Pat.good 40:=.inr (.inr (.inr (.inr (.inr (.inl U)))))
theorem g41:Pat.good 41:=.inr (.inr (.inr (.inr (.inr (.inr (.inl U))))))
theorem g44:Pat.good 44:=.inr (.inr (.inr (.inr (.inl U))))
theorem ArL(h:Pat.num l=some (n,l')):Bt l l':=by
 unfold Pat.num at h;split at h
 ·cases h;exact(Bt.drop (λc h=>.inr (.inl h)) l).trans (Bt.sk _)
 ·cases h
theorem AmH(h:Pat.comma l=some l'):Bt l l':=by
 unfold Pat.comma at h;cases e:Pat.one 44 l with
 | none=>rw[e] at h;cases h
 | some l1=>rw[e] at h;cases h;exact(Bt.one e g44).trans (Bt.sk _)
theorem AmI{r:NI}(h:Pat.run l=some (r,l')):Bt l l':=by
 unfold Pat.run at h;split at h
 ·cases h
 ·cases h;refine(Bt.drop (λc h=>?_) l).trans (Bt.sk _);rcases of_decide_eq_true (p:=c=35\/c=46) h with e | e
  ·exact .inr (.inr (.inl e))
  ·exact .inr (.inr (.inr (.inl e)))
theorem AiV:∀{k:Nat} {l l':NI} {rs:NN},Pat.DN k l=some (rs,l')->Bt l l'
 | 0,l,l',rs,h=>by cases h
 | k+1,l,l',rs,h=>by
  unfold Pat.DN at h;cases e:Pat.one 44 l with
  | none=>rw[e] at h;cases h;exact .refl _
  | some l1 =>
   rw[e] at h;dsimp only at h;cases a:Pat.run (Pat.sk l1) with
   | none=>rw[a] at h;cases h
   | some q =>
    obtain⟨r,l2⟩:=q;rw[a] at h;dsimp only at h;cases b:Pat.DN k l2 with
    | none=>rw[b] at h;cases h
    | some q =>
     obtain⟨c,d⟩:=q;rw[b] at h;cases h;exact((Bt.one e g44).trans (Bt.sk _)).trans ((AmI a).trans (AiV b))
theorem Apu(h:Pat.runs l=some (rs,l')):Bt l l':=by
 unfold Pat.runs at h;cases e:Pat.run l with
 | none=>rw[e] at h;cases h
 | some q =>
  obtain⟨r,l1⟩:=q;rw[e] at h;dsimp only at h;cases a:Pat.DN (l1.length+1) l1 with
  | none=>rw[a] at h;cases h
  | some q =>
   obtain⟨b,l2⟩:=q;rw[a] at h;dsimp only at h;split at h
   ·cases h
   ·cases h;exact(AmI e).trans (AiV a)
theorem AiW{sub:NI->Option (Nd × NI)}(j:∀{l l':NI} {x:Nd},sub l=some (x,l')->Bt l l'):∀{ks l l':NI} {ts:List Nd} {b:Bool},Pat.args sub b ks l=some (ts,l')->Bt l l'
 | [],l,l',ts,b,h=>by
  unfold Pat.args at h;cases h;exact .refl _
 | k::ks,l,l',ts,b,h=>by
  unfold Pat.args at h;cases e:(if b=true then some l else Pat.comma l) with
  | none=>rw[e] at h;cases h
  | some l1 =>
   rw[e] at h;dsimp only at h;have r:Bt l l1:=by
    cases b with
    | true=>cases e;exact .refl _
    | false=>exact AmH e
   cases d:(if k=112 then sub l1 else (Pat.num l1).map λp=>(Nd.num p.1,p.2)) with
   | none=>rw[d] at h;cases h
   | some q =>
    obtain⟨a,l2⟩:=q;rw[d] at h;dsimp only at h;have m:Bt l1 l2:=by
     by_cases c:k=112
     ·rw[if_pos c] at d;exact j d
     ·rw[if_neg c] at d;cases f:Pat.num l1 with
      | none=>rw[f] at d;cases d
      | some q =>
       obtain⟨n,u⟩:=q;rw[f] at d;cases d;exact ArL f
    cases i:Pat.args sub false ks l2 with
    | none=>rw[i] at h;cases h
    | some q =>
     obtain⟨o,s⟩:=q;rw[i] at h;cases h;exact(r.trans m).trans (AiW j i)
theorem AiX:∀{d:Nat} {l l':NI} {x:Nd},Pat.node d l=some (x,l')->Bt l l'
 | 0,l,l',x,h=>by cases h
 | d+1,l,l',x,h=>by
  unfold Pat.node at h;have i:Bt l (Pat.sk (l.dropWhile Pat.letter)):=(Bt.drop (λc h=>.inl h) l).trans (Bt.sk _);cases e:Pat.one 40 (Pat.sk (l.dropWhile Pat.letter)) with
  | none =>
   rw[e] at h;dsimp only at h;split at h
   ·cases h;exact i
   ·cases h
  | some l1 =>
   rw[e] at h;dsimp only at h;cases a:Pat.things (Pat.node d) (l.takeWhile Pat.letter) (Pat.sk l1) with
   | none=>rw[a] at h;cases h
   | some q =>
    obtain⟨ts,l2⟩:=q;rw[a] at h;dsimp only at h;cases f:Pat.one 41 l2 with
    | none=>rw[f] at h;cases h
    | some k =>
     rw[f] at h;cases h;refine((i.trans (Bt.one e g40)).trans (Bt.sk _)).trans (Bt.trans ?_ ((Bt.one f g41).trans (Bt.sk _)));unfold Pat.things at a;split at a
     ·cases b:Pat.runs (Pat.sk l1) with
      | none=>rw[b] at a;cases a
      | some q =>
       obtain⟨rs,j⟩:=q;rw[b] at a;cases a;exact Apu b
     ·cases b:Pat.wants (l.takeWhile Pat.letter) with
      | none=>rw[b] at a;cases a
      | some ks =>
       rw[b] at a;exact AiW (λh=>AiX h) a
theorem AhT(hc:c∈u)(d:¬Pat.good c):Pat.whole u=none:=by
 unfold Pat.whole;cases e:Pat.node 12 (Pat.sk u) with
 | none=>rfl
 | some q =>
  obtain⟨n,l⟩:=q;cases l with
  | cons _ _=>rfl
  | nil =>
   obtain⟨p,a,b⟩:=(Bt.sk u).trans (AiX e);rw[Awo] at a;exact absurd (b c (a▸hc)) d
def bl (g:Nat):NI:=List.replicate g 32
mutual
inductive Wt:Nd->NI->Prop
 | num {n g:Nat}:Wt (.num n) (dec n++bl g)
 | run {r:NI} {g:Nat}:Wt (.run r) (r++bl g)
 | nam {z:NI} {g:Nat}:Wt (.nam z) (z++bl g)
 | node {z:NI} {ts:List Nd} {us:NI} {g1 g2 g3:Nat}:WtL ts us->Wt (.node z ts) (z++(bl g1++(40::(bl g2++(us++(41::bl g3))))))
inductive WtL:List Nd->NI->Prop
 | one {x:Nd} {u:NI}:Wt x u->WtL [x] u
 | cons {x:Nd} {u us:NI} {xs:List Nd} {g:Nat}:Wt x u->WtL xs us->WtL (x::xs) (u++(44::(bl g++us)))
end
def Stp (l:NI):Prop:=l=[]\/∃ c l',l=c::l'/\(c=44\/c=41)
theorem Y0{p:Nat->Bool}:∀{a b:NI},(∀ c∈a,p c=true)->(b=[]\/∃ c e,b=c::e/\p c=false)->(a++b).takeWhile p=a/\(a++b).dropWhile p=b
 | [],b,_,hb=>by
  rcases hb with rfl | ⟨c,e,rfl,h⟩
  ·exact⟨U,U⟩
  ·rw[Axn,Aw2,Axi,h];exact⟨U,U⟩
 | c::a,b,ha,hb=>by
  have f:=Y0 (p:=p) (a:=a) (λd i=>ha d (AvR _ i)) hb;rw[Awy,Aw2,Axi,ha c AvP];exact⟨by rw[if_pos U,f.1],by rw[if_pos U,f.2]⟩
theorem V6{g:Nat}(h:c∈bl g):c=32:=(List.mem_replicate.mp h).2
theorem Ur{g:Nat}(h:l=[]\/∃ c a,l=c::a/\¬c=32):Pat.sk (bl g++l)=l:=by
 unfold Pat.sk;refine(Y0 (λc hc=>zN (V6 hc)) ?_).2;rcases h with h | ⟨c,a,e,h⟩
 ·exact .inl h
 ·exact .inr ⟨c,a,e,zJ h⟩
theorem Stp.nb(h:Stp l):l=[]\/∃ c a,l=c::a/\¬c=32:=by
 rcases h with h | ⟨c,l',e,h⟩
 ·exact .inl h
 ·exact .inr ⟨c,l',e,At⟩
theorem Stp.no(h1:p 32=false)(h2:p 44=false)(b:p 41=false){g:Nat}(h:Stp l):bl g++l=[]\/∃ c a,bl g++l=c::a/\p c=false:=by
 cases g with
 | zero =>
  rcases h with h | ⟨c,l',e,h⟩
  ·exact .inl (by rw[h];rfl)
  ·exact .inr ⟨c,l',by rw[e];rfl,by rcases h with rfl | rfl <;> assumption⟩
 | succ g=>exact .inr ⟨32,bl g++l,U,h1⟩
theorem AiY:∀ n∈List.range 100,Pat.AdC (dec n)=true/\NumText.digitsVal (dec n)=n/\(∀ c∈dec n,Pat.Dw c=true)/\dec n≠[]:=As
theorem ArM{g:Nat}(hn:n<100)(h:Stp l):Pat.num (dec n++bl g++l)=some (n,l):=by obtain⟨b,c,a,d⟩:=AiY n (yH.mpr hn);have t:=Y0 (p:=Pat.Dw) a (h.no (g:=g) Ap Ap Ap);unfold Pat.num;rw[Awj,t.1,t.2,if_pos b,c,Ur h.nb]
theorem AmJ{r:NI}{g:Nat}(h1:r≠[])(h2:∀ c∈r,Sg c)(h:Stp l):Pat.run (r++bl g++l)=some (r,l):=by have t:=Y0 (p:=Pat.knot) (a:=r) (λc hc=>zN (h2 c hc)) (h.no (g:=g) Ap Ap Ap);unfold Pat.run;rw[Awj,t.1,t.2,if_neg h1,Ur h.nb]
def Nb (l:NI):Prop:=∃ c b',l=c::b'/\¬c=32
theorem Nb.app(h:Nb l):Nb (l++l'):=by obtain⟨c,b,rfl,h⟩:=h;exact⟨c,b++l',U,h⟩
theorem AiZ(a:p 32=false)(h1:z≠[])(h2:∀ c∈z,p c=true):Nb z:=by
 cases z with
 | nil=>exact absurd U h1
 | cons c z =>
  refine⟨c,z,U,λe=>?_⟩;have:=h2 c AvP;rw[e,a] at this;cases this
theorem PX(h:Pat.isName z=true):z≠[]/\∀ c∈z,Pat.letter c=true:=by unfold Pat.isName at h;simp only [AwG,decide_eq_true_eq] at h;refine⟨λe=>by rw[e] at h;simp at h,λc hc=>List.all_eq_true.mp h.1.2 c hc⟩
theorem Ab1(h:Wd (d+1) (.node z ts)):z≠[]/\∀ c∈z,Pat.letter c=true:=by
 cases h with
 | rows _ _ _=>decide
 | nums w _ _=>rcases w with rfl | rfl <;> decide
 | one w _=>rcases w with rfl | rfl | rfl | rfl <;> decide
 | two w _ _=>rcases w with rfl | rfl | rfl <;> decide
 | tile _ _ _=>decide
 | blk _ _ _=>decide
theorem Aq8{x:Nd}(W:Wd d x)(h:Wt x u):Nb u:=by
 cases h with
 | num=>cases W
 | run=>cases W
 | nam =>
  cases W with
  | nam h=>exact(AiZ (p:=Pat.letter) Ap (PX h).1 (PX h).2).app
 | node a =>
  cases d with
  | zero=>cases W
  | succ d=>exact(AiZ (p:=Pat.letter) Ap (Ab1 W).1 (Ab1 W).2).app
def Kd (d k:Nat)(x:Nd):Prop:=if k=112 then Wd d x else ∃ n,x=Nd.num n/\n<100
theorem Aq9{x:Nd}(W:Kd d k x)(h:Wt x u):Nb u:=by
 unfold Kd at W;split at W
 ·exact Aq8 W h
 ·obtain⟨n,rfl,hn⟩:=W;cases h with
  | num =>
   obtain⟨_,_,b,a⟩:=AiY n (yH.mpr hn);exact(AiZ (p:=Pat.Dw) Ap a b).app
theorem AmK(W:Kds d ks ts)(h:WtL ts us):Nb us:=by
 cases h with
 | one h =>
  cases ks with
  | nil=>exact W.elim
  | cons k ks=>exact Aq9 W.1 h
 | cons h a =>
  cases ks with
  | nil=>exact W.elim
  | cons k ks=>exact(Aq9 W.1 h).app
theorem AhU{sub:NI->Option (Nd × NI)}:Pat.args sub false (k::ks) (44::l)=Pat.args sub true (k::ks) (Pat.sk l):=by unfold Pat.args;rfl
theorem AdG{sub:NI->Option (Nd × NI)}{l2:NI}{x:Nd}(h:(if k=112 then sub l else (Pat.num l).map λp=>(Nd.num p.1,p.2))=some (x,l2)):Pat.args sub true (k::ks) l=(Pat.args sub false ks l2).map λp=>(x::p.1,p.2):=by
 conv=>lhs;unfold Pat.args
 rw[if_pos rfl]
 try dsimp only
 rw[h]
theorem Aja{d:Nat}(i:∀{x:Nd} {u l:NI},Wd d x->Wt x u->Stp l->Pat.node d (u++l)=some (x,l)):∀{ts:List Nd} {ks us l:NI},Kds d ks ts->WtL ts us->Stp l->Pat.args (Pat.node d) true ks (us++l)=some (ts,l)
 | [],ks,us,l,W,h,a=>by cases h
 | x::ts,[],us,l,W,h,a=>W.elim
 | x::ts,k::ks,us,l,W,h,a=>by
  have thing:∀{u l:NI},Wt x u->Stp l->(if k=112 then Pat.node d (u++l) else (Pat.num (u++l)).map λp=>(Nd.num p.1,p.2))=some (x,l):=λ{u l} b a=>by
   have w:=W.1;by_cases c:k=112
   ·rw[if_pos c] at w;rw[if_pos c];exact i w b a
   ·rw[if_neg c] at w;rw[if_neg c];obtain⟨n,rfl,hn⟩:=w;cases b with
    | num=>rw[ArM hn a];rfl
  cases h with
  | one b =>
   have e:ks=[]:=by
    cases ks with
    | nil=>rfl
    | cons k2 ks=>exact W.2.elim
   subst e;rw[AdG (thing b a)];unfold Pat.args;rfl
  | cons b f =>
   rename_i u us g;cases ks with
   | nil =>
    exfalso;cases ts with
    | nil=>cases f
    | cons y ts=>exact W.2
   | cons k2 ks =>
    rw[Awj,Awy,AdG (thing b (.inr ⟨44,(bl g++us)++l,U,.inl U⟩)),AhU];have nb:=(AmK W.2 f).app (l':=l);rw[Awj,Ur (.inr nb),Aja i W.2 f a];rfl
theorem Ajb(W:∀ r∈rs,r≠[]/\∀ c∈r,Sg c)(h:WtL (rs.map Nd.run) us):Nb us:=by
 cases rs with
 | nil=>cases h
 | cons r rs =>
  have k:=AiZ (p:=Pat.knot) Ap (W r AA).1 (λc hc=>zN ((W r AA).2 c hc));generalize a:(r::rs).map Nd.run=ts at h;rw[AvU] at a;cases h with
  | one h =>
   have e:=(List.cons.inj a).1;subst e;cases h with | run=>exact k.app
  | cons h _ =>
   have e:=(List.cons.inj a).1;subst e;cases h with | run=>exact k.app.app
theorem Ajc:∀{rs:NN} {us l:NI} {k:Nat},(∀ r∈rs,r≠[]/\∀ c∈r,Sg c)->WtL (rs.map Nd.run) us->(∃ l',l=41::l')->us.length<k->∃ r d,rs=r::d/\∃ l1,Pat.run (us++l)=some (r,l1)/\l1.length<us.length+l.length/\∀ k',l1.length<k'+l.length->Pat.DN k' l1=some (d,l)
 | [],us,l,k,_,h,hl,hk=>by cases h
 | r::rs,us,l,k,W,h,hl,hk=>by
  have w:=W r AvP;generalize a:(r::rs).map Nd.run=ts at h;cases h with
  | one i =>
   rename_i x;have e:rs=[]:=by
    rw[AvU] at a;have:=(List.cons.inj a).2;exact List.map_eq_nil_iff.mp this
   subst e;cases a;cases i with
   | run =>
    rename_i g;refine⟨r,[],U,l,AmJ w.1 w.2 (.inr (by obtain⟨l',e⟩:=hl;exact⟨41,l',e,.inr U⟩)),?_,λk' b=>?_⟩
    ·have:=zZ.mpr w.1;rw[AvL];omega
    ·cases k' with
     | zero=>omega
     | succ k' =>
      unfold Pat.DN;obtain⟨l',e⟩:=hl;rw[e];rfl
  | cons i n =>
   rename_i x u us xs g;rw[AvU] at a;obtain⟨f,m⟩:=List.cons.inj a;subst f;subst m;cases i with
   | run =>
    rename_i s;refine⟨r,rs,U,44::(bl g++us)++l,?_,?_,λk' b=>?_⟩
    ·rw[Awj];exact AmJ w.1 w.2 (.inr ⟨44,(bl g++us)++l,U,.inl U⟩)
    ·have:=zZ.mpr w.1;simp only [AvL,AvQ];omega
    ·cases k' with
     | zero =>
      simp only [AvL,AvQ] at b;omega
     | succ k' =>
      obtain⟨r2,p,e,l1,f,m,q⟩:=Ajc (k:=us.length+1) (λr j=>W r (AvR _ j)) n hl At;unfold Pat.DN;have o:Pat.one 44 (44::(bl g++us)++l)=some ((bl g++us)++l):=rfl;rw[o]
      try dsimp only
      have nb:Nb us:=Ajb (λr j=>W r (AvR _ j)) n;rw[Awj,Ur (.inr nb.app),f]
      try dsimp only
      rw[q k' (by simp only [AvL,AvQ] at b;omega)];rw[e];rfl
theorem Apv(e:rs.length<=40)(W:∀ r∈rs,r≠[]/\∀ c∈r,Sg c)(h:WtL (rs.map Nd.run) us):Pat.runs (us++41::l)=some (rs,41::l):=by
 obtain⟨r,d,rfl,l1,b,f,a⟩:=Ajc (k:=us.length+1) W h ⟨l,U⟩ At;unfold Pat.runs;rw[b]
 try dsimp only
 rw[a (l1.length+1) At]
 try dsimp only
 rw[if_neg At]
theorem Ajd:∀{d:Nat} {x:Nd} {u l:NI},Wd d x->Wt x u->Stp l->Pat.node d (u++l)=some (x,l)
 | 0,x,u,l,W,h,a=>by cases W
 | d+1,x,u,l,W,h,a=>by
  cases h with
  | num=>cases W
  | run=>cases W
  | nam =>
   rename_i z g;cases W with
   | nam j =>
    have t:=Y0 (p:=Pat.letter) (PX j).2 (a.no (g:=g) Ap Ap Ap);unfold Pat.node;rw[Awj,t.1,t.2,Ur a.nb];have o:Pat.one 40 l=none:=by
     rcases a with rfl | ⟨c,l',rfl,hc⟩
     ·rfl
     ·show(if c=40 then some l' else none)=none;rw[if_neg At]
    rw[o]
    try dsimp only
    rw[if_pos j]
  | node i =>
   rename_i z ts us g1 g2 g3;have n:=Ab1 W;have r:z++(bl g1++(40::(bl g2++(us++(41::bl g3)))))++l=z++(bl g1++(40::(bl g2++(us++(41::(bl g3++l)))))):=AA
   rw[r];have t:=Y0 (p:=Pat.letter) (b:=bl g1++(40::(bl g2++(us++(41::(bl g3++l)))))) n.2 (by
    cases g1 with
    | zero=>exact .inr ⟨40,_,U,Ap⟩
    | succ g=>exact .inr ⟨32,_,U,Ap⟩)
   unfold Pat.node;rw[t.1,t.2,Ur (.inr ⟨40,_,U,Ap⟩)];have o:Pat.one 40 (40::(bl g2++(us++(41::(bl g3++l)))))=some (bl g2++(us++(41::(bl g3++l)))):=rfl;rw[o]
   try dsimp only
   have e:Pat.things (Pat.node d) z (Pat.sk (bl g2++(us++(41::(bl g3++l)))))=some (ts,41::(bl g3++l)):=by
    have st:Stp (41::(bl g3++l)):=.inr ⟨41,_,U,.inr U⟩;have fin:∀{ks:NI},¬z=Pat.FQ->Pat.wants z=some ks->Kds d ks ts->Pat.things (Pat.node d) z (Pat.sk (bl g2++(us++(41::(bl g3++l)))))=some (ts,41::(bl g3++l)):=λ{ks} j hk K=>by
     rw[Ur (.inr ((AmK K i).app))];unfold Pat.things;rw[if_neg j,hk];exact Aja (λw h a=>Ajd w h a) K i st
    cases W with
    | rows h1 h2 f =>
     rename_i rs;have q:=Apv (l:=bl g3++l) h2 f i;have nb:Nb us:=Ajb f i;rw[Ur (.inr nb.app)];unfold Pat.things;rw[if_pos U,q];rfl
    | nums w k m =>
     exact fin (ks:=[110,110]) (by rcases w with rfl | rfl <;> decide) (by rcases w with rfl | rfl <;> decide) ⟨⟨_,U,k⟩,⟨_,U,m⟩,trivial⟩
    | one w h=>exact fin (ks:=[112]) (by rcases w with rfl | rfl | rfl | rfl <;> decide) (by rcases w with rfl | rfl | rfl | rfl <;> decide) ⟨h,trivial⟩
    | two w h1 h2=>exact fin (ks:=[112,112]) (by rcases w with rfl | rfl | rfl <;> decide) (by rcases w with rfl | rfl | rfl <;> decide) ⟨h1,h2,trivial⟩
    | tile h k m=>exact fin (ks:=[112,110,110]) Ap Ap ⟨h,⟨_,U,k⟩,⟨_,U,m⟩,trivial⟩
    | blk h1 h2 f=>exact fin (ks:=[112,112,112]) Ap Ap ⟨h1,h2,f,trivial⟩
   rw[e]
   try dsimp only
   have o2:Pat.one 41 (41::(bl g3++l))=some (bl g3++l):=rfl;rw[o2]
   try dsimp only
   rw[Ur a.nb]
theorem Ag4{x:Nd}{g:Nat}(W:Wd 12 x)(h:Wt x u):Pat.whole (bl g++u)=some x:=by unfold Pat.whole;rw[Ur (.inr (Aq8 W h))];have:=Ajd (l:=[]) W h (.inl U);rw[Awo] at this;rw[this]
theorem AmL{kn:Kns}{x:Nd}{g:Nat}(W:Wd 12 x)(h:Wt x u):rdp kn (bl g++u)=(out kn 12 x,wr 12 x):=by unfold rdp;rw[Ag4 W h]
def brk (c:Nat):Bool:=decide (c=40\/c=41\/c=44)
end Mine
namespace L2
open PySem PySem.Spec PyProof.Rows
variable {X:Cx}{CX:CXT}{k j n i:Nat}{f C:Addr}{fd fd':FuncData}{ps Nc:NX}{sp:Sp}{E E':XK}{m y:Str}{pos apos py spos:Pos}{o iter elt:Expr}{ta te:TE}{pl:Sem Bool}{e:Value}{es ifs:List Expr}{ds us:NW}{pins:NO}{σ:St}{H:Hp}{s s':Shared}{scope:Scope}{fp:NU}{env cenv:Env}{M:Model}{use:Option (Value->Sem Unit)}{Q:NR}{wi:TI}
section
variable {CX':CXT}{k':Nat}{f' C':Addr}{ps':NX}{sp':Sp}
inductive AmM (C:Addr)(C':Addr)(m:Str)(sp:Sp)(sp':Sp)(E:XK)(Q:VK)(x:V)(H1:Hp):Prop
|mk(a:_)(dx:_)(fs:_)(_:x=.ref a)(_:fs.lookup m=none)(_:((H1 a=some (.ins C dx fs)/\sp [x] H1 Q E)\/(H1 a=some (.ins C' dx fs)/\sp' [x] H1 Q E)))
def ArN (C:Addr)(C':Addr)(m:Str)(sp:Sp)(sp':Sp)(E:XK)(ta:TE)(σ:St)(H:Hp)(Q:VK):Prop:=ta σ H (AmM C C' m sp sp' E Q)
theorem Ag5(p:PE X o ta)(c:Cls X.K C)(n:Meth X.K C m f)(F:Bh X.prog X.w X.K X.mg X.base CX k f fd ps sp)(G:Hd k X.A)(v:Binds X.K fd ps [])(y:Passes CX X E)
  (z:Cls X.K C') (d:Meth X.K C' m f') (D:Bh X.prog X.w X.K X.mg X.base CX' k' f' fd' ps' sp') (e:Hd k' X.A) (i:Binds X.K fd' ps' []) (j:Passes CX' X E)
  (B:eval (.Call (.Attribute o m apos) [] [] pos) X.env=(do
   let ov <- eval o X.env
   standAt apos.atName
   let (f,first) <- holding [ov] (getMethod ov m pl)
   callWith pos f first (backTo pos (starEach [] X.env)) (backToKw pos (keywordEach [] X.env))):=by rfl) :
  PE X (.Call (.Attribute o m apos) [] [] pos) (ArN C C' m sp sp' E ta):=by
 intro pins s σ H Q I h;refine W.methodCall_KW (pl:=pl) (thn (p pins s σ H _ I h) λu s1 ⟨x,H1,b,r,a,dx,fs,ex,l,q⟩=>?_) B;subst ex;obtain rfl:u=Value.ref a:=r;rcases q with ⟨ea,q⟩ | ⟨ea,q⟩
 ·refine KZ b ea c n l ?_;exact W.callWith_K0 (first:=[.ref a]) b.kIn n.kp (Vy (us:=[.ref a]) (vs:=[.ref a]) F G v .nil y b (.cons U .nil) (by simpa using q))
 ·refine KZ b ea z d l ?_;exact W.callWith_K0 (first:=[.ref a]) b.kIn d.kp (Vy (us:=[.ref a]) (vs:=[.ref a]) D e i .nil j b (.cons U .nil) (by simpa using q))
end
section
variable {e:Expr}{t:TA}{dvs:Na}
inductive R8 (K:NF)(m:Str)(f:Addr)(sp:Sp)(E:XK)(Q:VK)(x:V)(H1:Hp):Prop
|mk(a:_)(dx:_)(fs:_)(C:_)(_:x=.ref a)(_:H1 a=some (.ins C dx fs))(_:fs.lookup m=none)(_:Cls K C)(_:Meth K C m f)(_:sp [x] H1 Q E)
def ArO (K:NF)(m:Str)(f:Addr)(sp:Sp)(E:XK)(ta:TE)(σ:St)(H:Hp)(Q:VK):Prop:=ta σ H (R8 K m f sp E Q)
theorem Bu{K:NF}(p:K=X.K)(e:PE X o ta)(F:Bh X.prog X.w X.K X.mg X.base CX k f fd ps sp)(v:Hd k X.A)(j:Binds X.K fd ps [])(n:Passes CX X E)
  (r:eval (.Call (.Attribute o m apos) [] [] pos) X.env=(do
   let ov <- eval o X.env
   standAt apos.atName
   let (f,first) <- holding [ov] (getMethod ov m pl)
   callWith pos f first (backTo pos (starEach [] X.env)) (backToKw pos (keywordEach [] X.env))):=by rfl) :
  PE X (.Call (.Attribute o m apos) [] [] pos) (ArO K m f sp E ta):=by
 subst p;intro pins s σ H Q I h;refine W.methodCall_KW (thn (e pins s σ H _ I h) λu s1 ⟨x,H1,b,i,a,dx,fs,C,ex,ea,l,c,d,q⟩=>?_) r;subst ex;obtain rfl:u=Value.ref a:=i;refine KZ b ea c d l ?_;exact W.callWith_K0 b.kIn d.kp (Vy (us:=[.ref a]) (vs:=[.ref a]) F v j .nil n b (.cons U .nil) (by simpa using q))
end
def vB (bs:List Bool):Na:=bs.map V.bl
theorem AhV(bs:List Bool):(vB bs).length=bs.length:=by unfold vB;rw[AvK]
theorem AhW(bs:List Bool)(b:Bool):vB bs++[.bl b]=vB (bs++[b]):=by unfold vB;rw[AvO];rfl
theorem Ab2{bs:List Bool}:∀{us:NW},Vals (bs.map V.bl) us->us=bs.map Value.bool:=by
 induction bs with
 | nil=>intro us r;cases r;rfl
 | cons n ns b =>
  intro us r;cases r with
  | cons a r2 =>
   cases a;rw[b r2];rfl
theorem any_range(bs:List Bool):(List.range bs.length).any (λi=>bs.getD i false)=bs.any id:=by
 rw[AwK,Axz,Axz];constructor
 ·rintro⟨i,hi,h⟩;have a:=yH.mp hi;refine⟨bs[i],Awh a,?_⟩;rw[Awv,AvM a] at h;exact h
 ·rintro⟨b,c,h⟩;obtain⟨i,hi,e⟩:=Ax0 c;refine⟨i,yH.mpr hi,?_⟩;rw[Awv,AvM hi,e];exact h
section
variable {K:NF}
inductive Ag6 (K:NF)(xs:Na)(H:Hp)(Q:VK):Prop
|mk(a:_)(bs:_)(_:xs=[.ref a])(_:SqL K H a (vB bs))(_:Q (.bl (bs.any id)) H)
theorem AdH(m:X.K=K:=by rfl)(hc:X.calm=true:=by rfl):Hq X (.builtin "any") (Ag6 K):=by
 subst m;intro pins s σ H xs us Q I j h;obtain⟨a,bs,rfl,D,q⟩:=h;obtain⟨u,rfl,z⟩:=j.one;cases z;obtain⟨its,r,pl,E⟩:=I.list D;have C:=Ab2 r;subst C;obtain⟨o,x,_⟩:=id pl.isList;have d:=Heap.lt_size x;refine call_any_walk (wpAny_pyIter_list pl.isList ?_);refine⟨_,_,_,_,_,_,λi=>bs.getD i false,U,Walks.list (A:=X.A.in1) (I.ok.hd hc) _ a (AvY d) (bs.map Value.bool).toArray,⟨⟨_,zD _ U,U,U⟩,pl.isList.push _⟩,?_,λh' tk hk=>?_⟩
 ·intro i v s' n E' w y;have f:(bs.map Value.bool)[i]?=some v:=by simpa using w
  rw[AvS] at f;cases e:bs[i]? with
  | none=>simp_all
  | some b =>
   rw[e] at f;cases f;have p:bs.getD i false=b:=AB
   have c:n (bs.getD i false) s':=y;rw[p] at c;exact yE c
 ·have k:(List.range ((bs.map Value.bool).toArray).size).any (λi=>bs.getD i false)=bs.any id:=by
   rw[Awq,AvK];exact any_range bs
  rw[k];refine⟨.bl (bs.any id),H,I.kept (λb B e=>hk b B ?_ (zB _ e)),U,q⟩;have lt:=Heap.lt_size e;intro l;rw[zF.mp l] at lt;exact Aww _ lt
end
theorem all_range(bs:List Bool):(List.range bs.length).all (λi=>bs.getD i false)=bs.all id:=by
 rw[AwK,Axk,Axk];constructor
 ·rintro h b c;obtain⟨i,hi,e⟩:=Ax0 c;have:= h i (yH.mpr hi);rw[Awv,AvM hi,e] at this;exact this
 ·rintro h i hi;have a:=yH.mp hi;rw[Awv,AvM a];exact h _ (Awh a)
section
variable {K:NF}
inductive Ag7 (K:NF)(xs:Na)(H:Hp)(Q:VK):Prop
|mk(a:_)(bs:_)(_:xs=[.ref a])(_:SqL K H a (vB bs))(_:Q (.bl (bs.all id)) H)
theorem Ak9(m:X.K=K:=by rfl)(hc:X.calm=true:=by rfl):Hq X (.builtin "all") (Ag7 K):=by
 subst m;intro pins s σ H xs us Q I j h;obtain⟨a,bs,rfl,D,q⟩:=h;obtain⟨u,rfl,z⟩:=j.one;cases z;obtain⟨its,r,pl,E⟩:=I.list D;have C:=Ab2 r;subst C;obtain⟨o,x,_⟩:=id pl.isList;have d:=Heap.lt_size x;refine call_all_walk (wpAny_pyIter_list pl.isList ?_);refine⟨_,_,_,_,_,_,λi=>bs.getD i false,U,Walks.list (A:=X.A.in1) (I.ok.hd hc) _ a (AvY d) (bs.map Value.bool).toArray,⟨⟨_,zD _ U,U,U⟩,pl.isList.push _⟩,?_,λh' tk hk=>?_⟩
 ·intro i v s' n E' w y;have f:(bs.map Value.bool)[i]?=some v:=by simpa using w
  rw[AvS] at f;cases e:bs[i]? with
  | none=>simp_all
  | some b =>
   rw[e] at f;cases f;have p:bs.getD i false=b:=AB
   have c:n (bs.getD i false) s':=y;rw[p] at c;exact yE c
 ·have k:(List.range ((bs.map Value.bool).toArray).size).all (λi=>bs.getD i false)=bs.all id:=by
   rw[Awq,AvK];exact all_range bs
  rw[k];refine⟨.bl (bs.all id),H,I.kept (λb B e=>hk b B ?_ (zB _ e)),U,q⟩;have lt:=Heap.lt_size e;intro l;rw[zF.mp l] at lt;exact Aww _ lt
end
inductive AhX (K:NF) (H:Hp):Nat->V->V->Prop where
 | flat {n:Nat} {x:V} (h:Ry x=true):AhX K H n x x
 | lst {n:Nat} {p q:Addr} {xs ys:Na} (hp:SqL K H p xs) (hq:SqL K H q ys) (hl:xs.length=ys.length) (hi:∀(i:Nat)(x y:V),xs[i]?=some x->ys[i]?=some y->AhX K H n x y):AhX K H (n+1) (.ref p) (.ref q)
 | tup {n:Nat} {p q:Addr} {xs ys:Na} (hp:SqT K H p xs) (hq:SqT K H q ys) (hl:xs.length=ys.length) (hi:∀(i:Nat)(x y:V),xs[i]?=some x->ys[i]?=some y->AhX K H n x y):AhX K H (n+1) (.ref p) (.ref q)
section
variable {K:NF}
theorem NZ{xs:Na}(r:Vals xs us)(h:j<us.toArray.size):∃ x,xs[j]?=some x/\RelV x us.toArray[j]:=by
 have l:=r.length;simp only [Awq] at h;obtain⟨u,e,q⟩:=r.get (i:=j) (x:=xs[j]) AA;refine⟨xs[j],AA,?_⟩;have:us.toArray[j]=u:=by
  simp_all
 rw[this];exact q
theorem AmN(I:Inv X pins σ H s){x y:V}(S:AhX X.K H n x y):∀{A:Around} {u v:Value},RelV x u->RelV y v->A.units+n<cLine->SeqAt.EqAt A s u v true:=by
 induction S with
 | flat h =>
  intro A u v d r2 B;have:= AlD (A:=A) (s:=s) d r2 h h;rw[Abe h] at this;exact this
 | lst m z D hi l =>
  intro A u v d r2 B;rename_i n p q xs ys;cases d;cases r2;by_cases e:p=q
  ·subst e;exact SeqAt.EqAt.same _
  ·refine SeqAt.EqAt.of_refs e ?_;obtain⟨its,r,pl,C⟩:=I.list m;obtain⟨b,r2,c,o⟩:=I.list z;have l1:=r.length;have l2:=r2.length;have a:=SeqAt.RcAt.lists (A:=A) (e:=λ_=>true) pl.isList c.isList AD At (λj h1 h2=>?_)
   ·have k:(List.range its.toArray.size).all (λ_=>true)=true:=AA
    rw[k] at a;exact a
   ·obtain⟨x,ex,i⟩:=NZ r h1;obtain⟨y,f,w⟩:=NZ r2 h2;exact l j x y ex f i w (by show A.units+1+n<cLine;omega)
 | tup m z D hi l =>
  intro A u v d r2 B;rename_i n p q xs ys;cases d;cases r2;by_cases e:p=q
  ·subst e;exact SeqAt.EqAt.same _
  ·refine SeqAt.EqAt.of_refs e ?_;obtain⟨its,r,pl,C⟩:=I.tuple m;obtain⟨b,r2,c,o⟩:=I.tuple z;have l1:=r.length;have l2:=r2.length;have a:=SeqAt.RcAt.tuples (A:=A) (e:=λ_=>true) pl c At (λj h1 h2=>?_)
   ·have k:((List.range (min its.toArray.size b.toArray.size)).all (λ_=>true) && its.toArray.size == b.toArray.size)=true:=by
     simp_all
    rw[k] at a;exact a
   ·obtain⟨x,ex,i⟩:=NZ r h1;obtain⟨y,f,w⟩:=NZ r2 h2;exact l j x y ex f i w (by show A.units+1+n<cLine;omega)
def At5 (K:NF)(H:Hp)(p q:Addr):Prop:=∃ xs ys:Na,SqL K H p xs/\SqL K H q ys/\xs.length=ys.length/\∀(i:Nat)(x y:V),xs[i]?=some x->ys[i]?=some y->AhX K H 50 x y
inductive Avg (K:NF)(x:V)(y:V)(H:Hp)(Q:VK):Prop
|mk(p:_)(q:_)(_:x=.ref p)(_:y=.ref q)(_:At5 K H p q)(_:Q (.bl true) H)
theorem ArP(B:X.A.units+100<cLine)(l:X.K=K:=by rfl):OpR X (compareOp .Eq) (Avg K):=by
 subst l;intro pins s σ H x y v u Q I f w h;obtain⟨p,q,rfl,rfl,⟨xs,ys,i,m,C,hi⟩,k⟩:=h;cases f;cases w;obtain⟨its,r,pl,z⟩:=I.list i;obtain⟨b,r2,a,n⟩:=I.list m;have l1:=r.length;have l2:=r2.length;refine SeqAt.eq_listAt (e:=λ_=>true) pl.isList a.isList AD Au (λj h1 h2=>?_) ?_
 ·obtain⟨x,ex,d⟩:=NZ r h1;obtain⟨y,c,o⟩:=NZ r2 h2;exact AmN I (hi j x y ex c) d o AD
 refine⟨.bl true,H,I,?_,k⟩;show Value.bool _=Value.bool _;simp
end
def YX (X:Cx)(fp:NU)(C:Addr)(s:Shared)(H:Hp)(E:XK):Value->Shared->Prop:=λe s' =>
 ∃(H1:Hp)(s1:Shared)(m:Str->NY),Un (frs X.stack) fp H H1 s.heap s1.heap/\s1.os=s.os/\s1.heap.Ns C m/\H1 C=none/\CX1 X.prog X.w X.stack H1 s1 E e s'
abbrev AeK (X:Cx)(Nc:NX)(scope:Scope)(cl:List (Str × Addr))(C:Addr)(fp:NU)(s:Shared)(H:Hp)(E:XK):Cx:=cxG X (λ_=>false) Nc scope cl C fp s H (YX X fp C s H E)
theorem AmO{cl:List (Str × Addr)}:Passes (CX1 X.prog X.w) (AeK X Nc scope cl C fp s H E) E:=λpins σ H1 s1 e s' I c=>by
 obtain⟨m,hn,_⟩:=I.loc;exact⟨H1,s1,m,I.base,I.os,hn,I.free,c⟩
def Aft (X:Cx)(E:XK)(C:Addr)(e:Value)(s':Shared):Prop :=
 (∃ m,s'.heap.Ns C m)/\∀ h',Heap.SameBut C s'.heap h'->∃ ea Cc t H' B,e=.ref ea/\Fx B X.stack ea Cc t (rawInt X.env.locals) h'/\s'.os=X.s₀.os/\AllBare s'.gens/\Bk X.prog X.w X.outer X.H₀ X.s₀.heap H' B h'/\E (.ref Cc) none H'
theorem Aaq{a:Env}(h:env.frame=a.frame):noteFrame e env=noteFrame e a:=by unfold noteFrame PySem.frameOf;rw[h]
theorem Us{h h' base:Heap}:∀{l:List Env},(∀ b∈frs l,h'.get? b=h.get? b)->h.FunFrames base l->h'.FunFrames base l
 | [],_,_=>trivial
 | env::r,k,⟨hk,⟨L,o,hf,hn,ho,hd⟩,hr⟩=>by
  have m:∀ b∈frs r,b∈frs (env::r):=λb a=>by unfold frs;rw[Aw9,hf];exact AvR _ a
  have c:L∈frs (env::r):=by unfold frs;rw[Aw9,hf];exact AvP
  exact⟨hk,⟨L,o,hf,hn,(k L c).trans ho,hd⟩,Us (λb a=>k b (m b a)) hr⟩
theorem Avh{R:Shared->Prop}{E':NR}(hB:Body X)(I:Inv X pins σ H s)(ab:∀ b∈fp,Py X pins H b)(hC:s.heap.objs.size<=C)(hf:cenv.frame=X.env.frame)
  (c:YX X fp C s H E e s') (k:∀ l,Aft X E C e l->R l):wpAny M X.A (noteFrame e cenv) (λ_ l=>R l) E' s':=by
 obtain⟨H1,s1,m,un,a8,a7,nC,ea,Cc,t,H',B,rfl,fx,os,Z,bk,q⟩:=c;have D:∀ b:Addr,b∉X.ex:=λb z=>by rw[hB.ex] at z;exact nomatch z
 have p:∀ b,b∈X.fs->b∈frs X.stack:=λb a=>by
  rw[hB.stack];unfold frs;rw[Aw9,hB.frame];exact AvR _ a
 have a4:∀ b,b∈frs X.stack->∃ o,s.heap.get? b=some o:=λb a=>by
  obtain⟨_,o,e,_⟩:=I.stack.mem a;exact⟨o,e⟩
 have CS:C∉frs X.stack:=λz=>by
  obtain⟨o,e⟩:=a4 C z;exact absurd (Heap.lt_size e) (Nat.not_lt.mpr hC)
 have a1:∀ b o,s.heap.get? b=some o->b≠C:=λb o e z=>absurd (Heap.lt_size e) (Nat.not_lt.mpr (z▸hC));have h:∀ b o,X.s₀.heap.get? b=some o->b∉fp:=λb o e z=>by
  rcases(ab b z).2.2.2.1 with y | y
  ·exact D b y
  ·exact absurd (Heap.lt_size e) (Nat.not_lt.mpr y)
 obtain⟨S,es,ep,O,dC,sk,nf⟩:=a7;have a6:B.get? C=some S:=bk.keep C S O nC CS;have L:H' C=none:=bk.free C S O nC;have a9:(W.hideAll B [C]).get? C=none:=W.hideAll_none _ AvP;have G:∀ b o,B.get? b=some o->b≠C->(W.hideAll B [C]).get? b=some o:=λb o e z=>W.hideAll_get _ e λy=>z (zF.mp y);have d:(W.hideAll B [C]).StaysIn B:=λb o e=>W.of_hideAll _ e;have a3:Fx (W.hideAll B [C]) X.stack ea Cc t .none s'.heap:=by
  obtain⟨st,ne,fr,T,oT,ts,N,K,F,Q,j,h3⟩:=fx;exact⟨λb o e=>st b o (d b o e),W.fresh_of_stays d ne,W.funFrames_base d fr,T,oT,ts,N,W.fresh_of_stays d K,F,Q,j,h3⟩
 have a5:Bk X.prog X.w X.outer X.H₀ X.s₀.heap H' (W.hideAll B [C]) s'.heap:=by
  refine⟨λb u e=>?_,λb o e n a=>?_,λb o e a=>?_,λb o e n=>?_,λb o e a=>?_,λb xs e=>bk.tups b xs (un.tups b xs (I.base.tups b xs e)),λb o u e=>bk.Iw b o u (un.Iw b o u (I.base.Iw b o u e)),λb ps e=>?_⟩
  ·refine(bk.ok b u e).stay (λc v hc z=>G c v z λy=>?_) (λ_ z=>z) λ_ _ z=>z;rcases hc with x | x
   ·rw[<- x,y,L] at e;cases e
   ·rw[y,L] at x;cases x
  ·have i:=I.base.keep b o e n a (D b);have n1:=I.base.free b o e n (D b);have a2:=I.Aki e a;exact G b o (bk.keep b o (un.keep b o i n1 a2 (h b o e)) (un.free b o i n1 (h b o e)) a2) (a1 b o i)
  ·obtain⟨sl,i⟩:=I.base.slot b o e (I.ok.frf b a) a (D b);obtain⟨a0,r⟩:=un.slot b _ i (I.AaB b (p b a)) (p b a) (h b o e);obtain⟨aa,P⟩:=bk.slot b _ r (p b a);exact⟨aa,P⟩
  ·obtain⟨o',i⟩:=I.base.there b o e (D b);obtain⟨o2,r⟩:=un.there b o' i (h b o e);exact bk.free b o2 r (un.free b o' i (I.base.free b o e n (D b)) (h b o e))
  ·obtain⟨o',i⟩:=I.base.there b o e (D b);obtain⟨o2,r⟩:=un.there b o' i (h b o e);obtain⟨o3,P⟩:=bk.there b o2 r (I.Aki e a);exact⟨o3,G b o3 P (a1 b o' i)⟩
  ·obtain⟨m1,i⟩:=I.base.JP b ps e;obtain⟨m2,r⟩:=un.JP b _ i;obtain⟨m3,P⟩:=bk.JP b _ r;exact⟨m1++m2++m3,by rw[P,Array.append_assoc,Array.append_assoc,Array.append_assoc]⟩
 rw[Aaq hf];refine AiE hB I.ok.frames (.came a3) λh1 x1 u1=>k _ ?_;obtain⟨sl,J⟩:=u1 C S (fx.st C S a6) (λvs z=>by rw[dC] at z;cases z);refine⟨⟨m,_,es,ep,J,dC,sk,nf⟩,λh' Y=>?_⟩;have f:=a5.slots (AaE hB a3.fr) u1;obtain⟨st,ne,fr,T,oT,ts,N,K,F,Q,j,h3⟩:=x1;have TC:T≠C:=λz=>by rw[z,J] at Q;cases Q;rw[dC] at j;cases j
 have EC:ea≠C:=λz=>by rw[z,J] at N;have:=congrArg Obj.data (Option.some.inj N);dsimp only at this;rw[dC] at this;cases this
 refine⟨ea,Cc,t,H',_,U,⟨λb o e=>(Y.2 b λz=>by rw[z,a9] at e;cases e).trans (st b o e),ne,Us (λb a=>Y.2 b λz=>CS (z▸a)) fr,T,oT,ts,(Y.2 ea EC).trans N,K,F,(Y.2 T TC).trans Q,j,h3⟩,os.trans (a8.trans I.os),Z,
  ⟨f.ok,f.keep,λb o e a=>?_,f.free,f.there,f.tups,f.Iw,f.JP⟩,q⟩;obtain⟨a0,r⟩:=f.slot b o e a;exact⟨a0,(Y.2 b λz=>CS (z▸p b a)).trans r⟩
def Y4 (M:Model)(A:Around)(E:NR)(use:Option (Value->Sem Unit))(Q:NR)(acc:Value)(C:Addr)(f:Option Addr)(r:Result)(s':Shared):Prop :=
 match r,use with
 | .ok _,none=>∃ m,s'.heap.Ns C m/\∀ h',Heap.SameBut C s'.heap h'->Q acc { s' with heap:=h' }
 | .ok _,some u=>wpAny M A (u acc) (λ_ s''=>∃ m,s''.heap.Ns C m/\∀ h',Heap.SameBut C s''.heap h'->Q .none { s'' with heap:=h' }) E s'
 | .error x,_=>∃ m,s'.heap.Ns C m/\∀ h',Heap.SameBut C s'.heap h'->∀ cenv:Env,cenv.locals=C->cenv.frame=f->wpAny M A (passOn "comprehension.variables-let-go" x cenv:Sem Value) (λ_ _=>False) E { s' with heap:=h' }
theorem AhY{A:Around}{E:NR}{e:Expr}{b first:Sem Value}{g:Comprehension}{H:List Comprehension}{cl:List (Str × Addr)}
  (B:clausesOf e=g::H) (G:∀ x,foldedSetIterable g.iter env x=pure x) (n:closureFor scope env=pure cl)
  (a:scope.kind=.function) (d:∀ x∈scope.names,x.2=.local->scope.names.lookup x.1=some .local)
  (h:wpAny M A first (λx s₁=>wpAny M A (pyIter x) (λit i=>wpAny M A b (λacc j =>
   wpAny M A (newFunctionEnv scope env.globals cl [] env.qual none .none (some env)) (λcenv k =>
    codeAny M A (.compStart e 0 it acc { cenv with scope:=relabel scope env }) (Y4 M A E use Q acc cenv.locals cenv.frame) k) E j) E i) E s₁) E s) :
  wpAny M A (comprehension e scope env pos b false first use) Q E s:=by
 unfold comprehension;rw[n,B];refine zA (thn h λx s₁ h₁=>zA (wpAny_standAt (zA (wpAny_of_eq (G x) (zA (yB (thn h₁ λit i q =>
  wpAny_standIf (zA (thn q λacc j o=>zA (zE (zA (thn o λcenv k p=>?_))))))))))))
 try dsimp only
 have w:∀ x∈(scope.names.filter λx=>(x.2 == .local || x.2 == .cell) && x.1 != (".0" : Str)).reverse,x.2=.local ->
   Env.kindOf { cenv with scope:=relabel scope env } x.1=some .local:=λx C v=>lookup_relabel_local (d x (z8.mp (List.mem_reverse.mp C)).1 v);refine yB (zA (wpAny_attempt (yB (wpAny_run (codeAny_mono p λr s' l=>?_)))));cases r with
 | ok f =>
  cases use with
  | none =>
   obtain⟨m,hn,l⟩:=l;exact zA (yB (wpAny_comp_letGo (cenv:={ cenv with scope:=relabel scope env }) a _ s' m w hn λh' F _ c=>zE (l h' c)))
  | some u =>
   refine zA (wpAny_rule (zA (yB (thn l λ_ D ⟨m,hn,z⟩=>?_))));exact zA (wpAny_comp_letGo (cenv:={ cenv with scope:=relabel scope env }) a _ D m (λx C v=>(zG.mp C).elim (λh1=>w x (List.mem_of_mem_drop h1) v) λh1=>w x (List.mem_of_mem_take h1) v) hn λh' F _ c=>zE (z h' c))
 | error x =>
  obtain⟨m,hn,l⟩:=l;exact zA (yB (wpAny_comp_letGo (cenv:={ cenv with scope:=relabel scope env }) a _ s' m w hn λh' F _ c=>zT (l h' c _ rfl rfl) (λ_ _ f=>f.elim) λ_ _ y=>y))
theorem Avi(hB:Body X)(hw:∀ e s',FlX X E' e s'->X.xe e s'){acc:Value}(h:Aft X E' C e s'):Y4 (model X.prog X.w) X.A X.xe use Q acc C X.env.frame (.error e) s':=by obtain⟨⟨m,hn⟩,n⟩:=h;refine⟨m,hn,λh' b cenv _ i=>?_⟩;obtain⟨ea,o,t,H',B,rfl,c,os,a,bk,q⟩:=n h' b;unfold PySem.passOn;obtain⟨l,p,ts,j,_⟩:=c.ob;refine zA (yD (s:={ s' with heap:=h' }) j rfl (x:=.ref l) rfl ?_);rw[if_neg AA];refine zA (Ad5 (s:={ s' with heap:=h' }) (f:=cenv.frame) c λh2 d k=>?_);rw[i,hB.frame] at d;exact wpAny_throw (hw _ _ ⟨ea,o,t,H',B,U,.seen d,os,a,bk.slots (AaE hB c.fr) k,q⟩)
section
variable {target:Expr}{tW:It->St->Hp->VK->Prop} (hB:Body X) (hw:∀ e s',FlX X E' e s'->X.xe e s') (hk:scope.kind=.function) (hn:∀ y∈scope.names,y.2=.local->scope.names.lookup y.1=some .local)
 (hfr:∀ y∈scope.names,y.2=.free->X.env.scope.names.lookup y.1=some .cell/\scope.names.lookup y.1=some .free) (hi:PI X target iter wi)
include hB hw hk hn hfr hi in
include hB hw hk hn hfr hi in
theorem Apw(B:Blk X target iter elt ifs scope pos (Aft X E') tW)(l:X.N.Nodup)(a:X.N[i]?=some y)(n:X.env.scope.names.lookup y=some .local)
  (c:swapsWith (.ListComp elt [⟨target,iter,ifs,0⟩] scope pos) (some (.Name y py)) spos.line X.env=pure true) (p:∀ x,foldedSetIterable iter X.env x=pure x) :
  PS X (.Assign [.Name y py] (.ListComp elt [⟨target,iter,ifs,0⟩] scope pos) spos) (Aal (λσ H Q=>wi σ H λJ H1=>tW J σ H1 Q) (Hw i)):=by
 intro pins s σ H Dn I h;rw[exec_Assign_Name_used _ _ _ _ c];refine zA (wpAny_standAt (zA ?_));obtain⟨cl,k,u,z⟩:=Vz (scope:=scope) (env:=X.env) λy a r=>I.ok.has y.1 (.inl (hfr y a r).1);show wpAny _ X.A (do let _ <- comprehension (.ListComp elt [⟨target,iter,ifs,0⟩] scope pos) scope X.env _ (newList []) false (eval iter X.env) (some (assign (.Name y py) X.env))) _ _ s;refine zA (thn (AhY (use:=some (assign (.Name y py) X.env)) (Q:=λ_ s'=>SP X pins Dn .next s') U p k hk hn
  (thn (hi pins s σ H _ I h) λv s1 h1=>thn h1 λq G ⟨it,fp,K,J,H2,e,j,T,b,E,F⟩=>?_)) λ_ s' d=>zE (zE d));subst e;exact B (RR:=λacc C f=>Y4 (model X.prog X.w) X.A X.xe (some (assign (.Name y py) X.env)) (λ_ s'=>SP X pins Dn .next s') acc C f) u z j T b E F (λD C s' m hn d o=>Abd l a n j hn d o) λD C e s' h=>Avi hB hw h
end
theorem Apx(hB:Body X){R:NR}(I:Inv X pins σ H s)(a:∀ b∈fp,Py X pins H b)(h:s.heap.objs.size<=C)(f:cenv.frame=X.env.frame)(k:∀ e s',Aft X E' C e s'->R e s')(e:Value)(s':Shared)(c:YX X fp C s H E' e s') :
  notedBy (model X.prog X.w) X.A cenv R e s':=Avh hB I a h f c λd q=>k e d q
theorem Ab3{x:Str}{px:Pos}{Bj:NI}{tc:TT}(hB:Body X)(hw:∀ e s',FlX X E' e s'->X.xe e s')(O:CP X x Nc Bj scope)(hc:X.calm=true)
  (b:X.N.Nodup) (f:X.N[i]?=some y) (c:X.env.scope.names.lookup y=some .local) (hi:PI X (.Name x px) iter wi)
  (htc:∀ cl C fp s H,PIf (AeK X Nc scope cl C fp s H E') ifs tc) (hte:∀ cl C fp s H,PE (AeK X Nc scope cl C fp s H E') elt te)
  (a:swapsWith (.ListComp elt [⟨.Name x px,iter,ifs,0⟩] scope pos) (some (.Name y py)) spos.line X.env=pure true) (d:∀ x,foldedSetIterable iter X.env x=pure x:=by intro _;rfl) :
  PS X (.Assign [.Name y py] (.ListComp elt [⟨.Name x px,iter,ifs,0⟩] scope pos) spos) (Aal (Ad1 wi Bj tc te) (Hw i)):=Apw hB hw O.kind O.names O.fr hi (Blk.imp (Arq (λC fp s H=>YX X fp C s H E') O.g O.cell hc (λk _ _ _ _ _=>Aev k O.nd O.hd O.loc) htc hte (Apx hB)) AlL) b f c a d
end L2
set_option maxHeartbeats 4000000
namespace Mine
open PySem L2
variable {fd:FuncData}{ps:List (NI × Str)}{P:Program}{w:World}{mg:Str->NY}{n p c d k i m e j:Nat}{u l sg v l1 z l2 b ns n1 ds:NI}{H H1 H2 H' A H3 G:Hp}{r dx q f a C y kp li l9 q9 L M fa:Addr}{o:HO}{done ts:List Nd}{x ls:NN}{vs:Na}{ks ss th:NA}{CX:CXT}{as rs qs:NU}{Q:VK}{E:XK}{R Kt:St->Hp->Prop}{xs ys:List It}{s:Wk}{F:Addr->Prop}{tss:NV}{wd due:Str}{r0 r2:Rc}{σ σ':St}{nd:Nd}
def top (i:Nat):Stmt:=PySem.Challenge.pw_heddle_k61_whole_books.main.body.getD i (.Pass ⟨0,0,0,0⟩)
abbrev Ab4:Stmt:=top 13
theorem Ag8:An ["cloth"] ["cloth"] (Ag Ab4):=sc9
abbrev Y5:Stmt:=top 14
theorem AhZ:An ["cloth"] ["cloth"] (Ag Y5):=sc9
abbrev Qa:Stmt:=top 15
theorem Ut:An ["cloth", "size"] ["cloth"] (Ag Qa):=sc9
abbrev Oa:Stmt:=top 16
theorem HN:An ["texts", "least", "signs", "ends", "text"] ["texts", "least", "signs"] (Ag Oa):=sc9
abbrev Ww:Stmt:=top 17
theorem Uu:An ["text", "ends", "signs", "sign"] ["text", "ends", "signs"] (Ag Ww):=sc9
abbrev R9:Stmt:=top 18
theorem AeL:An ["cloth", "end"] ["cloth", "end"] (Ag R9):=sc9
abbrev Le:Stmt:=top 19
theorem Aar:An ["signs"] ["signs"] (Ag Le):=sc9
abbrev AeM:Stmt:=top 23
theorem AmP:An ["draft"] ["draft"] (Ag AeM):=sc9
abbrev Qt:Stmt:=top 24
theorem IW:An ["threading", "ties", "shaft", "tie"] ["threading", "ties"] (Ag Qt):=sc9
abbrev Uv:Stmt:=top 25
theorem Ab5:An ["count"] ["count"] (Ag Uv):=sc9
abbrev Uw:Stmt:=top 26
theorem Ab6:An ["shaft"] ["shaft"] (Ag Uw):=sc9
abbrev Zv:Stmt:=top 27
theorem Wy:An ["tie", "k"] ["tie"] (Ag Zv):=sc9
abbrev Ob:Stmt:=top 28
theorem Mw:An ["treading", "treadles", "treadle"] ["treading", "treadles"] (Ag Ob):=sc9
abbrev RB:Stmt:=top 29
theorem AeN:An ["threading", "lifted"] ["threading", "lifted"] (Ag RB):=sc9
abbrev Y6:Stmt:=top 34
theorem Aia:An ["text"] ["text"] (Ag Y6):=sc9
abbrev Zw:Stmt:=top 38
theorem AeO:An ["figures"] ["figures"] (Ag Zw):=sc9
abbrev Ab7:Stmt:=top 44
theorem Zx:An ["text", "row_items"] ["text"] (Ag Ab7):=sc9
abbrev Qc:Stmt:=top 45
theorem AcA:An ["row_items"] ["row_items"] (Ag Qc):=sc9
abbrev Ux:Stmt:=top 46
theorem Lf:An ["row_items", "written", "item"] ["row_items"] (Ag Ux):=sc9
abbrev Qu:Stmt:=top 47
theorem Y7:An ["start", "stop"] ["start", "stop"] (Ag Qu):=sc9
abbrev Ab8:Stmt:=top 48
theorem RC:An ["text", "reader", "row_items"] ["text"] (Ag Ab8):=sc9
abbrev Wz:Stmt:=top 49
theorem Uy:An ["reader", "depth", "row_items"] ["reader", "depth"] (Ag Wz):=sc9
abbrev Zy:Stmt:=top 50
theorem W0:An ["reader", "depth", "first"] ["reader", "depth"] (Ag Zy):=sc9
abbrev W3:Stmt:=top 51
theorem Ju:An ["reader", "count", "depth", "inner"] ["reader", "count", "depth"] (Ag W3):=sc9
abbrev Zz:Stmt:=top 52
theorem W4:An ["reader", "first", "stops"] ["reader", "first"] (Ag Zz):=sc9
abbrev Lg:Stmt:=top 53
theorem Ks:An ["reader", "number"] ["reader"] (Ag Lg):=sc9
abbrev Kw:Stmt:=top 58
theorem Es:An ["text", "parts", "threading", "ties"] ["text"] (Ag Kw):=sc9
abbrev AeP:Stmt:=top 63
theorem Ag9:An ["cloth", "across", "along", "size"] ["cloth", "across", "along"] (Ag AeP):=sc9
abbrev JW:Stmt:=top 65
theorem CV:An ["pieces", "ends", "picks", "number", "piece", "end_places", "pick_places", "cloth", "owner", "place", "own", "signs"] ["pieces", "ends", "picks"] (Ag JW):=sc9
abbrev RD:Stmt:=top 66
theorem Qv:An ["owners", "pieces", "owner"] ["owners", "pieces"] (Ag RD):=sc9
abbrev Uz:Stmt:=top 67
theorem Lh:An ["piece", "ends", "picks", "text", "sign"] ["piece", "ends", "picks"] (Ag Uz):=sc9
abbrev JX:Stmt:=top 68
theorem Y8:An ["owners"] ["owners"] (Ag JX):=sc9
abbrev AdI:Stmt:=top 69
theorem Aib:An ["pick_owner", "own", "end_owner", "place"] ["pick_owner", "own", "end_owner", "place"] (Ag AdI):=sc9
abbrev W5:Stmt:=top 85
theorem AcB:An ["ends", "picks"] ["ends", "picks"] (Ag W5):=sc9
abbrev Od:Stmt:=top 86
theorem W7:An ["one", "other"] ["one", "other"] (Ag Od):=sc9
abbrev AdJ:Stmt:=top 88
theorem Aic:An ["word", "things"] ["word", "things"] (Ag AdJ):=sc9
abbrev RG:Stmt:=top 93
theorem Aas:An ["text", "known"] ["text", "known"] (Ag RG):=sc9
abbrev W8:Stmt:=top 94
theorem Nr:An ["text", "reader", "node"] ["text"] (Ag W8):=sc9
abbrev Z0:Stmt:=top 95
theorem GJ:An ["reader", "depth", "word", "things"] ["reader", "depth"] (Ag Z0):=sc9
abbrev U0:Stmt:=top 96
theorem Li:An ["reader", "word", "depth", "things", "kind"] ["reader", "word", "depth"] (Ag U0):=sc9
abbrev Z1:Stmt:=top 97
theorem W9:An ["reader", "runs"] ["reader"] (Ag Z1):=sc9
abbrev Ab9:Stmt:=top 98
theorem Z2:An ["reader", "run"] ["reader"] (Ag Ab9):=sc9
abbrev JB:Stmt:=top 99
theorem Iv:An ["reader", "number"] ["reader"] (Ag JB):=sc9
abbrev WD:Stmt:=top 101
theorem AcC:An ["reader"] ["reader"] (Ag WD):=sc9
abbrev Qd:Stmt:=top 102
theorem U3:An ["node", "known", "things"] ["node", "known"] (Ag Qd):=sc9
abbrev U4:Stmt:=top 103
theorem Lj:An ["name", "known", "one", "cloth"] ["name", "known"] (Ag U4):=sc9
abbrev U5:Stmt:=top 104
theorem AbA:An ["word", "inner"] ["word", "inner"] (Ag U5):=sc9
abbrev U6:Stmt:=top 105
theorem AbB:An ["word", "one", "other"] ["word", "one", "other"] (Ag U6):=sc9
abbrev Qw:Stmt:=top 106
theorem Y9:An ["word", "things"] ["word", "things"] (Ag Qw):=sc9
abbrev Z3:Stmt:=top 108
theorem Ky:An ["text", "pairs", "line", "stripped"] ["text"] (Ag Z3):=sc9
abbrev RJ:Stmt:=top 109
theorem Kz:An ["line", "known", "place", "name", "rest"] ["line", "known"] (Ag RJ):=sc9
abbrev Qx:Stmt:=top 110
theorem Ja:An ["line", "place", "sign"] ["line"] (Ag Qx):=sc9
abbrev AgA:Stmt:=top 112
theorem AkA:An ["script", "k"] ["script", "k"] (Ag AgA):=sc9
abbrev AbC:Stmt:=top 113
theorem RK:An ["k", "way", "some", "telling"] ["k", "way"] (Ag AbC):=sc9
abbrev AbD:Stmt:=top 114
theorem Gu:An ["number", "ends", "picks", "rows", "j", "signs", "k"] ["number", "ends", "picks"] (Ag AbD):=sc9
abbrev Z4:Stmt:=top 115
theorem AeQ:An ["sign"] ["sign"] (Ag Z4):=sc9
abbrev GK:Stmt:=top 116
theorem AcD:An ["word", "rows"] ["word", "rows"] (Ag GK):=sc9
abbrev Qe:Stmt:=top 117
theorem RL:An ["one", "other", "rows", "j"] ["one", "other"] (Ag Qe):=sc9
abbrev Gg:Stmt:=top 118
theorem Dy:An ["cell", "made", "a", "b", "rows", "first", "one", "second", "two", "word"] ["cell", "made"] (Ag Gg):=sc9
abbrev WK:Stmt:=top 119
theorem Jv:An ["number", "base", "many", "digits", "k"] ["number", "base", "many"] (Ag WK):=sc9
abbrev Gv:Stmt:=top 120
theorem Fg:An ["cell", "threading", "ties", "bits", "treading", "rows", "treadle", "parts"] ["cell"] (Ag Gv):=sc9
abbrev Z6:Stmt:=top 121
theorem Ed:An ["cell", "name", "after", "made", "some"] ["cell", "name", "after", "made"] (Ag Z6):=sc9
abbrev U7:Stmt:=top 122
theorem Bp:An ["script", "way", "lines", "made", "due", "spot", "k", "rest", "name", "text", "fault", "rows", "part"] ["script"] (Ag U7):=sc9
abbrev U8:Stmt:=top 123
theorem Dz:An ["text", "refused", "found"] ["text"] (Ag U8):=sc9
abbrev AqA:Stmt:=top 124
theorem YB:An ["script", "text", "made", "due", "refused", "found"] ["script"] (Ag AqA):=sc9
abbrev Jb:Stmt:=(Dg (top 22)).getD 0 (.Pass ⟨0,0,0,0⟩)
theorem WL:An ["self", "threading", "ties", "treading"] ["self", "threading", "ties", "treading"] (Ag Jb):=sc9
abbrev Mx:Stmt:=(Dg (top 37)).getD 0 (.Pass ⟨0,0,0,0⟩)
theorem V7:An ["self", "text"] ["self", "text"] (Ag Mx):=sc9
abbrev RM:Stmt:=(Dg (top 37)).getD 1 (.Pass ⟨0,0,0,0⟩)
theorem Aat:An ["self"] ["self"] (Ag RM):=sc9
abbrev U9:Stmt:=(Dg (top 37)).getD 2 (.Pass ⟨0,0,0,0⟩)
theorem RN:An ["self", "wanted", "behind"] ["self", "wanted"] (Ag U9):=sc9
abbrev Oe:Stmt:=(Dg (top 37)).getD 3 (.Pass ⟨0,0,0,0⟩)
theorem My:An ["self", "signs", "begin"] ["self", "signs"] (Ag Oe):=sc9
abbrev Qy:Stmt:=(Dg (top 37)).getD 4 (.Pass ⟨0,0,0,0⟩)
theorem YD:An ["self"] ["self"] (Ag Qy):=sc9
abbrev Qz:Stmt:=(Dg (top 42)).getD 0 (.Pass ⟨0,0,0,0⟩)
theorem YF:An ["self", "stops"] ["self", "stops"] (Ag Qz):=sc9
abbrev Z7:Stmt:=(Dg (top 42)).getD 1 (.Pass ⟨0,0,0,0⟩)
theorem K1:An ["self", "total", "k"] ["self"] (Ag Z7):=sc9
abbrev RQ:Stmt:=(Dg (top 42)).getD 2 (.Pass ⟨0,0,0,0⟩)
theorem JZ:An ["self", "written", "stop"] ["self"] (Ag RQ):=sc9
abbrev Og:Stmt:=(Dg (top 43)).getD 0 (.Pass ⟨0,0,0,0⟩)
theorem WM:An ["self", "count", "inner"] ["self", "count", "inner"] (Ag Og):=sc9
abbrev WN:Stmt:=(Dg (top 43)).getD 1 (.Pass ⟨0,0,0,0⟩)
theorem AcE:An ["self"] ["self"] (Ag WN):=sc9
abbrev Q0:Stmt:=(Dg (top 43)).getD 2 (.Pass ⟨0,0,0,0⟩)
theorem YG:An ["self"] ["self"] (Ag Q0):=sc9
abbrev Oh:Stmt:=(Dg (top 71)).getD 0 (.Pass ⟨0,0,0,0⟩)
theorem WQ:An ["self", "texts", "writing"] ["self", "texts", "writing"] (Ag Oh):=sc9
abbrev WR:Stmt:=(Dg (top 71)).getD 1 (.Pass ⟨0,0,0,0⟩)
theorem AcF:An ["self"] ["self"] (Ag WR):=sc9
abbrev WT:Stmt:=(Dg (top 71)).getD 2 (.Pass ⟨0,0,0,0⟩)
theorem AcG:An ["self"] ["self"] (Ag WT):=sc9
abbrev UG:Stmt:=(Dg (top 71)).getD 4 (.Pass ⟨0,0,0,0⟩)
theorem AbE:An ["self"] ["self"] (Ag UG):=sc9
abbrev WW:Stmt:=(Dg (top 71)).getD 5 (.Pass ⟨0,0,0,0⟩)
theorem AcH:An ["self"] ["self"] (Ag WW):=sc9
abbrev Oj:Stmt:=(Dg (top 72)).getD 0 (.Pass ⟨0,0,0,0⟩)
theorem WY:An ["self", "name", "known_cloth"] ["self", "name", "known_cloth"] (Ag Oj):=sc9
abbrev Ka:Stmt:=(Dg (top 73)).getD 0 (.Pass ⟨0,0,0,0⟩)
theorem YH:An ["self", "runs"] ["self", "runs"] (Ag Ka):=sc9
abbrev Jc:Stmt:=(Dg (top 74)).getD 0 (.Pass ⟨0,0,0,0⟩)
theorem Gj:An ["self", "over", "under", "size", "first", "texts"] ["self", "over", "under"] (Ag Jc):=sc9
abbrev HQ:Stmt:=(Dg (top 76)).getD 0 (.Pass ⟨0,0,0,0⟩)
theorem Lk:An ["self", "one", "other", "texts"] ["self", "one", "other"] (Ag HQ):=sc9
abbrev Ol:Stmt:=(Dg (top 77)).getD 0 (.Pass ⟨0,0,0,0⟩)
theorem Xa:An ["self", "one", "other"] ["self", "one", "other"] (Ag Ol):=sc9
abbrev HR:Stmt:=(Dg (top 78)).getD 0 (.Pass ⟨0,0,0,0⟩)
theorem Ln:An ["self", "inner", "texts"] ["self", "inner"] (Ag HR):=sc9
abbrev Om:Stmt:=(Dg (top 79)).getD 0 (.Pass ⟨0,0,0,0⟩)
theorem Xb:An ["self", "inner"] ["self", "inner"] (Ag Om):=sc9
abbrev Q3:Stmt:=(Dg (top 80)).getD 0 (.Pass ⟨0,0,0,0⟩)
theorem YJ:An ["self", "inner"] ["self", "inner"] (Ag Q3):=sc9
abbrev Lp:Stmt:=(Dg (top 81)).getD 0 (.Pass ⟨0,0,0,0⟩)
theorem Ui:An ["self", "inner"] ["self", "inner"] (Ag Lp):=sc9
abbrev Q4:Stmt:=(Dg (top 82)).getD 0 (.Pass ⟨0,0,0,0⟩)
theorem Oo:An ["self", "inner", "across", "along", "texts"] ["self", "inner", "across", "along"] (Ag Q4):=sc9
abbrev RT:Stmt:=(Dg (top 84)).getD 0 (.Pass ⟨0,0,0,0⟩)
theorem Q5:An ["self", "upper", "lower", "texts"] ["self", "upper", "lower"] (Ag RT):=sc9
set_option genInjectivity false in
structure Adr where
 {GP:Addr}
 {Bd:Addr}
 {HS:Addr}
 {Ef:Addr}
 {Eg:Addr}
 {Gk:Addr}
 {HW:Addr}
 {Gm:Addr}
 {Fy:Addr}
 {GQ:Addr}
 {Fz:Addr}
 {GR:Addr}
 {Jd:Addr}
 {Ew:Addr}
 {HX:Addr}
 {Oq:Addr}
 {Xc:Addr}
 {AeR:Addr}
 {Je:Addr}
 {Ot:FuncData}
 {HY:Addr}
 {Mz:FuncData}
 {RW:Addr}
 {RX:FuncData}
 {UJ:Addr}
 {UL:FuncData}
 {Ou:Addr}
 {Ov:FuncData}
 {Kc:Addr}
 {Ke:FuncData}
 {Kf:Addr}
 {Q6:FuncData}
 {Z8:Addr}
 {Z9:FuncData}
 {RZ:Addr}
 {Sh:FuncData}
 {Jf:Addr}
 {Ow:FuncData}
 {K3:Addr}
 {K4:FuncData}
 {Hh:Addr}
 {Hi:FuncData}
 {GX:Addr}
 {Ox:FuncData}
 {Cz:Addr}
 {Xd:FuncData}
 {CG:Addr}
 {Xe:FuncData}
 {Cp:Addr}
 {UT:FuncData}
 {CJ:Addr}
 {Xf:FuncData}
 {Jg:Addr}
 {Oz:FuncData}
 {Kg:Addr}
 {Q7:FuncData}
 {Jh:Addr}
 {O1:FuncData}
 {Ia:Addr}
 {M3:FuncData}
 {Ji:Addr}
 {O3:FuncData}
 {Ib:Addr}
 {M4:FuncData}
 {Jj:Addr}
 {O4:FuncData}
 {Kh:Addr}
 {Q8:FuncData}
 {Hm:Addr}
 {Lq:FuncData}
 {Kl:Addr}
 {Q9:FuncData}
 {Lr:Addr}
 {Sq:FuncData}
 {AbF:Addr}
 {AbG:FuncData}
 {AdK:Addr}
 {AdL:FuncData}
 {Xg:Addr}
 {Xh:FuncData}
 {O5:Addr}
 {O6:FuncData}
 {Xi:Addr}
 {Xj:FuncData}
 {ZC:Addr}
 {ZD:FuncData}
 {Ss:Addr}
 {Su:FuncData}
 {Aje:Addr}
 {Ajf:FuncData}
 {QB:Addr}
 {QC:FuncData}
 {UW:Addr}
 {Va:FuncData}
 {Vb:Addr}
 {Vc:FuncData}
 {ZF:Addr}
 {ZG:FuncData}
 {O7:Addr}
 {O8:FuncData}
 {ZJ:Addr}
 {ZK:FuncData}
 {AdM:Addr}
 {AdN:FuncData}
 {ZL:Addr}
 {ZM:FuncData}
 {V8:Addr}
 {V9:FuncData}
 {K5:Addr}
 {K6:FuncData}
 {Jw:Addr}
 {Jx:FuncData}
 {QD:Addr}
 {QF:FuncData}
 {AbH:Addr}
 {AbI:FuncData}
 {Ie:Addr}
 {Ig:FuncData}
 {Sv:Addr}
 {Sw:FuncData}
 {K7:Addr}
 {K8:FuncData}
 {ZP:Addr}
 {ZQ:FuncData}
 {Ls:Addr}
 {Lw:FuncData}
 {K9:Addr}
 {KC:FuncData}
 {Ajg:Addr}
 {Ajh:FuncData}
 {QG:Addr}
 {QH:FuncData}
 {Sx:Addr}
 {Sy:FuncData}
 {Vd:Addr}
 {Ve:FuncData}
 {QJ:Addr}
 {QK:FuncData}
 {AdO:Addr}
 {AdP:FuncData}
 {Xk:Addr}
 {Xl:FuncData}
 {O9:Addr}
 {OD:FuncData}
 {AdQ:Addr}
 {AdR:FuncData}
 {S5:Addr}
 {S6:FuncData}
 {Xm:Addr}
 {Xn:FuncData}
 {JC:Addr}
 {JD:FuncData}
 {Jy:Addr}
 {Jz:FuncData}
 {ZR:Addr}
 {ZS:FuncData}
 {AbJ:Addr}
 {AbK:FuncData}
 {JF:Addr}
 {JG:FuncData}
 {Xo:Addr}
 {Xp:FuncData}
 {KD:Addr}
 {KH:FuncData}
 {Vf:Addr}
 {Vg:FuncData}
 {Vh:Addr}
 {Vi:FuncData}
 {Vj:Addr}
 {Vk:FuncData}
 {QL:Addr}
 {QM:FuncData}
 {ZV:Addr}
 {ZW:FuncData}
 {ZX:Addr}
 {ZZ:FuncData}
 {QQ:Addr}
 {QR:FuncData}
 {AgB:Addr}
 {AgC:FuncData}
 {AbL:Addr}
 {AbM:FuncData}
 {AbN:Addr}
 {AbO:FuncData}
 {Aaa:Addr}
 {Aab:FuncData}
 {Xq:Addr}
 {Xr:FuncData}
 {AbP:Addr}
 {AbQ:FuncData}
 {Vl:Addr}
 {Vm:FuncData}
 {Xu:Addr}
 {Xv:FuncData}
 {Aac:Addr}
 {Aad:FuncData}
 {Aae:Addr}
 {Aaf:FuncData}
 {Nt:Addr}
 {Nu:FuncData}
 {Nv:Addr}
 {Nx:FuncData}
 {AqB:Addr}
 {AmQ:FuncData}
 {Fi:Addr}
 {Du:Addr}
 {BZ:Addr}
 {Ce:Addr}
 {Br:Addr}
 {Dl:Addr}
 {Fd:Addr}
structure Txt (K:NF)(mg:Str->NY)(t:Adr):Prop where
 measured:Df K mg "measured" Ab4 ["cloth"] t.AbF t.AbG
 AaK:Df K mg "back_of" Y5 ["cloth"] t.AdK t.AdL
 Qf:Df K mg "quarter_of" Qa ["cloth"] t.Xg t.Xh
 Ih:Df K mg "measured_texts" Oa ["texts", "least", "signs"] t.O5 t.O6
 Qg:Df K mg "check_pick" Ww ["text", "ends", "signs"] t.Xi t.Xj
 Tw:Df K mg "end_signs" R9 ["cloth", "end"] t.ZC t.ZD
 FW:Df K mg "turned_signs" Le ["signs"] t.Ss t.Su
 Aji:Df K mg "woven" AeM ["draft"] t.Aje t.Ajf
 J0:Df K mg "check_setting" Qt ["threading", "ties"] t.QB t.QC
 Et:Df K mg "check_count" Uv ["count"] t.UW t.Va
 Gw:Df K mg "check_shaft" Uw ["shaft"] t.Vb t.Vc
 Tz:Df K mg "check_tie" Zv ["tie"] t.ZF t.ZG
 Ii:Df K mg "check_treading" Ob ["treading", "treadles"] t.O7 t.O8
 T7:Df K mg "shed_over" RB ["threading", "lifted"] t.ZJ t.ZK
 J1:Df K mg "is_name" Y6 ["text"] t.AdM t.AdN
 TF:Df K mg "number_of" Zw ["figures"] t.ZL t.ZM
 DW:Df K mg "unfolded" Ab7 ["text"] t.V8 t.V9
 Hn:Df K mg "whole_size" Qc ["row_items"] t.K5 t.K6
 Gx:Df K mg "all_numbers" Ux ["row_items"] t.Jw t.Jx
 J2:Df K mg "steps_between" Qu ["start", "stop"] t.QD t.QF
 Xw:Df K mg "read_row" Ab8 ["text"] t.AbH t.AbI
 Fo:Df K mg "read_items" Wz ["reader", "depth"] t.Ie t.Ig
 Jk:Df K mg "read_item" Zy ["reader", "depth"] t.Sv t.Sw
 Lx:Df K mg "read_times" W3 ["reader", "count", "depth"] t.K7 t.K8
 TJ:Df K mg "read_path" Zz ["reader", "first"] t.ZP t.ZQ
 Eb:DfA K mg "read_number_rows" "read_number" Lg ["reader"] t.Ls t.Lw
 Ly:Df K mg "read_draft" Kw ["text"] t.K9 t.KC
 Ajj:Df K mg "tiled" AeP ["cloth", "across", "along"] t.Ajg t.Ajh
 J3:Df K mg "laid_together" JW ["pieces", "ends", "picks"] t.QG t.QH
 FZ:Df K mg "check_owners" RD ["owners", "pieces"] t.Sx t.Sy
 M5:Df K mg "check_piece" Uz ["piece", "ends", "picks"] t.Vd t.Ve
 Fp:Df K mg "places_within" JX ["owners"] t.QJ t.QK
 AaL:Df K mg "sign_at" AdI ["pick_owner", "own", "end_owner", "place"] t.AdO t.AdP
 Dr:Df K mg "check_size" W5 ["ends", "picks"] t.Xk t.Xl
 Ij:Df K mg "check_one_size" Od ["one", "other"] t.O9 t.OD
 written:Df K mg "written" AdJ ["word", "things"] t.AdQ t.AdR
 KJ:Df K mg "read_pattern" RG ["text", "known"] t.S5 t.S6
 Qh:Df K mg "read_whole" W8 ["text"] t.Xm t.Xn
 Hs:Df K mg "read_node" Z0 ["reader", "depth"] t.JC t.JD
 Gy:Df K mg "read_things" U0 ["reader", "word", "depth"] t.Jy t.Jz
 TQ:Df K mg "read_runs" Z1 ["reader"] t.ZR t.ZS
 Lz:Df K mg "read_run" Ab9 ["reader"] t.AbJ t.AbK
 Ga:DfA K mg "read_number_reader" "read_number" JB ["reader"] t.JF t.JG
 Qi:Df K mg "read_comma" WD ["reader"] t.Xo t.Xp
 Ho:Df K mg "worked_out" Qd ["node", "known"] t.KD t.KH
 M6:Df K mg "known_cloth" U4 ["name", "known"] t.Vf t.Vg
 M7:Df K mg "made_of_one" U5 ["word", "inner"] t.Vh t.Vi
 M8:Df K mg "made_of_two" U6 ["word", "one", "other"] t.Vj t.Vk
 J4:Df K mg "made_of_three" Qw ["word", "things"] t.QL t.QM
 TV:Df K mg "read_book" Z3 ["text"] t.ZV t.ZW
 TX:Df K mg "read_line" RJ ["line", "known"] t.ZX t.ZZ
 J5:Df K mg "parting_place" Qx ["line"] t.QQ t.QR
 Ny:Df K mg "_law_at" AgA ["script", "k"] t.AgB t.AgC
 LC:Df K mg "_law_name" AbC ["k", "way"] t.AbL t.AbM
 Xx:Df K mg "_law_rows" AbD ["number", "ends", "picks"] t.AbN t.AbO
 Jl:Df K mg "_law_other" Z4 ["sign"] t.Aaa t.Aab
 Qj:Df K mg "_law_turned" GK ["word", "rows"] t.Xq t.Xr
 Xy:Df K mg "_law_laid" Qe ["one", "other"] t.AbP t.AbQ
 M9:Df K mg "_law_pattern" Gg ["cell", "made"] t.Vl t.Vm
 Fq:Df K mg "_law_digits" WK ["number", "base", "many"] t.Xu t.Xv
 TY:Df K mg "_law_draft" Gv ["cell"] t.Aac t.Aad
 Ua:Df K mg "_law_fault" Z6 ["cell", "name", "after", "made"] t.Aae t.Aaf
 MF:Df K mg "_law_written" U7 ["script"] t.Nt t.Nu
 MJ:Df K mg "_law_reading" U8 ["text"] t.Nv t.Nx
 law:Df K mg "law" AqA ["script"] t.AqB t.AmQ
 Apy:mg "ValueError" = none
 At7:mg "abs" = none
 At8:mg "all" = none
 AqC:mg "any" = none
 Aag:mg "enumerate" = none
 Ajk:mg "int" = none
 Xz:mg "isinstance" = none
 Ca:mg "len" = none
 LK:mg "list" = none
 Fj:mg "range" = none
 Jm:mg "reversed" = none
 Vn:mg "str" = none
 At9:mg "sum" = none
 Apz:mg "tuple" = none
 AmR:mg "zip" = none
 El:∃ tk,mg "MOST_STRANDS" = some (.int 40 tk)
 AcI:∃ tk,mg "MOST_SHAFTS" = some (.int 40 tk)
 YK:∃ tk,mg "LETTERS" = some (.str "abcdefghijklmnopqrstuvwxyz" tk)
 AbR:∃ tk,mg "MOST_LETTERS" = some (.int 20 tk)
 AkB:∃ tk,mg "FIGURES" = some (.str "0123456789" tk)
 AbS:∃ tk,mg "MOST_NUMBERS" = some (.int 400 tk)
 OJ:∃ tk,mg "MOST_DEEP_rows" = some (.int 8 tk)
 QS:∃ tk,mg "BETWEEN_PARTS" = some (.str " / " tk)
 S7:∃ tk,mg "BETWEEN_TIES" = some (.str ", " tk)
 LQ:∃ tk,mg "MOST_DEEP_reader" = some (.int 12 tk)
 AgD:∃ tk,mg "MOST_RUNS" = some (.int 40 tk)
 Ap0:mg "WeaveError" = some (.ref t.Fi)
 Ap1:Exn K t.Fi
 KQ:mg "NoRow" = some (.ref t.Du)
 J6:Exn K t.Du
 Aid:W.mroIn K t.Du (.ref t.Fi)=some true
 AcJ:W.mroIn K t.Du (.ref t.Du)=some true
 YL:W.mroIn K t.Du (.ref t.BZ)=some false
 Aau:W.mroIn K t.Du (.ref t.Ce)=some false
 X3:W.mroIn K t.Du (.ref t.Br)=some false
 Aav:W.mroIn K t.Du (.ref t.Dl)=some false
 AcK:W.mroIn K t.Du (.ref t.Fd)=some false
 Qk:mg "TooLarge" = some (.ref t.BZ)
 LR:Exn K t.BZ
 AfK:W.mroIn K t.BZ (.ref t.Fi)=some true
 AkC:W.mroIn K t.BZ (.ref t.Du)=some false
 Uj:W.mroIn K t.BZ (.ref t.BZ)=some true
 Aie:W.mroIn K t.BZ (.ref t.Ce)=some false
 S8:W.mroIn K t.BZ (.ref t.Br)=some false
 VB:W.mroIn K t.BZ (.ref t.Dl)=some false
 YM:W.mroIn K t.BZ (.ref t.Fd)=some false
 Jo:mg "NoDraft" = some (.ref t.Ce)
 Ht:Exn K t.Ce
 AgE:W.mroIn K t.Ce (.ref t.Fi)=some true
 Alp:W.mroIn K t.Ce (.ref t.Du)=some false
 VD:W.mroIn K t.Ce (.ref t.BZ)=some false
 X4:W.mroIn K t.Ce (.ref t.Ce)=some true
 Uk:W.mroIn K t.Ce (.ref t.Br)=some false
 X5:W.mroIn K t.Ce (.ref t.Dl)=some false
 Aaw:W.mroIn K t.Ce (.ref t.Fd)=some false
 BW:mg "NoPattern" = some (.ref t.Br)
 BV:Exn K t.Br
 AeS:W.mroIn K t.Br (.ref t.Fi)=some true
 Ajl:W.mroIn K t.Br (.ref t.Du)=some false
 AgF:W.mroIn K t.Br (.ref t.BZ)=some false
 Ahm:W.mroIn K t.Br (.ref t.Ce)=some false
 Ro:W.mroIn K t.Br (.ref t.Br)=some true
 Ahn:W.mroIn K t.Br (.ref t.Dl)=some false
 Ajm:W.mroIn K t.Br (.ref t.Fd)=some false
 AdS:mg "Unknown" = some (.ref t.Dl)
 YQ:Exn K t.Dl
 AgG:W.mroIn K t.Dl (.ref t.Fi)=some true
 Alq:W.mroIn K t.Dl (.ref t.Du)=some false
 Aif:W.mroIn K t.Dl (.ref t.BZ)=some false
 Ajn:W.mroIn K t.Dl (.ref t.Ce)=some false
 Ul:W.mroIn K t.Dl (.ref t.Br)=some false
 X6:W.mroIn K t.Dl (.ref t.Dl)=some true
 Aax:W.mroIn K t.Dl (.ref t.Fd)=some false
 Ajo:mg "Twice" = some (.ref t.Fd)
 AeT:Exn K t.Fd
 Aig:W.mroIn K t.Fd (.ref t.Fi)=some true
 Aoy:W.mroIn K t.Fd (.ref t.Du)=some false
 AkD:W.mroIn K t.Fd (.ref t.BZ)=some false
 Alr:W.mroIn K t.Fd (.ref t.Ce)=some false
 X7:W.mroIn K t.Fd (.ref t.Br)=some false
 Als:W.mroIn K t.Fd (.ref t.Dl)=some false
 AcL:W.mroIn K t.Fd (.ref t.Fd)=some true
 Ajp:mg "Draft" = some (.ref t.GP)
 MK:L2.Own K t.GP t.Je
 Ma:Ci K t.GP "threading"
 Vo:Ci K t.GP "ties"
 MN:Ci K t.GP "treading"
 AgH:mg "Reader" = some (.ref t.Bd)
 Bl:L2.Own K t.Bd t.HY
 FJ:Ci K t.Bd "text"
 Dj:Ci K t.Bd "place"
 ArR:mg "Path" = some (.ref t.HS)
 Ql:L2.Own K t.HS t.Kf
 Gh:Ci K t.HS "stops"
 Ajq:mg "Times" = some (.ref t.Ef)
 J7:L2.Own K t.Ef t.Jf
 Mg:Ci K t.Ef "count"
 Mh:Ci K t.Ef "inner"
 Ik:mg "Piece" = some (.ref t.Eg)
 Auz:L2.Own K t.Eg t.GX
 AmS:Ci K t.Eg "texts"
 AkE:Ci K t.Eg "writing"
 Ap2:mg "Named" = some (.ref t.Gk)
 AeU:L2.Own K t.Gk t.Jg
 S9:Ci K t.Gk "texts"
 Pa:Ci K t.Gk "writing"
 AcM:Meth K t.Gk "wide" t.Cz
 AcN:Meth K t.Gk "high" t.CG
 AbT:Meth K t.Gk "cloth" t.Cp
 AcO:Meth K t.Gk "told" t.CJ
 ArS:mg "Rows" = some (.ref t.HW)
 Aih:L2.Own K t.HW t.Kg
 Vp:Ci K t.HW "texts"
 QT:Ci K t.HW "writing"
 AeV:Meth K t.HW "wide" t.Cz
 AeW:Meth K t.HW "high" t.CG
 AcP:Meth K t.HW "cloth" t.Cp
 AeX:Meth K t.HW "told" t.CJ
 Ap3:mg "Twill" = some (.ref t.Gm)
 AeY:L2.Own K t.Gm t.Jh
 SJ:Ci K t.Gm "texts"
 Pb:Ci K t.Gm "writing"
 AcQ:Meth K t.Gm "wide" t.Cz
 AcR:Meth K t.Gm "high" t.CG
 AbU:Meth K t.Gm "cloth" t.Cp
 AcS:Meth K t.Gm "told" t.CJ
 AmT:mg "Beside" = some (.ref t.Fy)
 AbV:L2.Own K t.Fy t.Ia
 QV:Ci K t.Fy "texts"
 MP:Ci K t.Fy "writing"
 AbW:Meth K t.Fy "wide" t.Cz
 AbX:Meth K t.Fy "high" t.CG
 Aay:Meth K t.Fy "cloth" t.Cp
 AbY:Meth K t.Fy "told" t.CJ
 Ap4:mg "Above" = some (.ref t.GQ)
 AeZ:L2.Own K t.GQ t.Ji
 SM:Ci K t.GQ "texts"
 Pg:Ci K t.GQ "writing"
 AcT:Meth K t.GQ "wide" t.Cz
 AcU:Meth K t.GQ "high" t.CG
 AbZ:Meth K t.GQ "cloth" t.Cp
 AcV:Meth K t.GQ "told" t.CJ
 AmU:mg "Mirror" = some (.ref t.Fz)
 Aca:L2.Own K t.Fz t.Ib
 QW:Ci K t.Fz "texts"
 MT:Ci K t.Fz "writing"
 Acb:Meth K t.Fz "wide" t.Cz
 Acd:Meth K t.Fz "high" t.CG
 Aaz:Meth K t.Fz "cloth" t.Cp
 Ace:Meth K t.Fz "told" t.CJ
 Ap5:mg "Upend" = some (.ref t.GR)
 Afa:L2.Own K t.GR t.Jj
 SN:Ci K t.GR "texts"
 Ph:Ci K t.GR "writing"
 AcW:Meth K t.GR "wide" t.Cz
 AcX:Meth K t.GR "high" t.CG
 Acf:Meth K t.GR "cloth" t.Cp
 AcY:Meth K t.GR "told" t.CJ
 ArT:mg "Back" = some (.ref t.Jd)
 Aii:L2.Own K t.Jd t.Kh
 Vq:Ci K t.Jd "texts"
 QX:Ci K t.Jd "writing"
 Afb:Meth K t.Jd "wide" t.Cz
 Afc:Meth K t.Jd "high" t.CG
 AcZ:Meth K t.Jd "cloth" t.Cp
 Afd:Meth K t.Jd "told" t.CJ
 AkF:mg "Quarter" = some (.ref t.Ew)
 YS:L2.Own K t.Ew t.Hm
 Pj:Ci K t.Ew "texts"
 Mi:Ci K t.Ew "writing"
 Aa0:Meth K t.Ew "wide" t.Cz
 Aa1:Meth K t.Ew "high" t.CG
 YT:Meth K t.Ew "cloth" t.Cp
 Aa2:Meth K t.Ew "told" t.CJ
 ArU:mg "Tile" = some (.ref t.HX)
 Aij:L2.Own K t.HX t.Kl
 Vr:Ci K t.HX "texts"
 QZ:Ci K t.HX "writing"
 Afe:Meth K t.HX "wide" t.Cz
 Afg:Meth K t.HX "high" t.CG
 Ada:Meth K t.HX "cloth" t.Cp
 Afh:Meth K t.HX "told" t.CJ
 AtB:mg "Lay" = some (.ref t.Oq)
 AmV:L2.Own K t.Oq t.Lr
 X8:Ci K t.Oq "texts"
 SQ:Ci K t.Oq "writing"
 AgI:Meth K t.Oq "wide" t.Cz
 AgJ:Meth K t.Oq "high" t.CG
 Afi:Meth K t.Oq "cloth" t.Cp
 AgK:Meth K t.Oq "told" t.CJ
 Gz:Atp K t.Eg "__init__" t.GX
 Ap6:mg "WORDS" = some (.ref t.AeR)
 Ap7:Ats K t.AeR (["rows", "twill", "satin", "beside", "above", "mirror", "upend", "back", "quarter", "tile", "blocks", "lay"]:NX)
 AgL:mg "THINGS" = some (.ref t.Xc)
 AgM:Top K t.Xc ([("twill", "nn"),("satin", "nn"),("beside", "pp"),("above", "pp"),("mirror", "p"),("upend", "p"),("back", "p"),("quarter", "p"),("tile", "pnn"),("blocks", "ppp"),("lay", "pp")]:List (Str × Str))
 Jp:Mf K "__init__" "Draft.__init__" Jb ["self", "threading", "ties", "treading"] t.GP t.Je t.Ot
 DX:Mf K "__init__" "Reader.__init__" Mx ["self", "text"] t.Bd t.HY t.Mz
 Ey:Mf K "ended" "Reader.ended" RM ["self"] t.Bd t.RW t.RX
 Bq:Mf K "took" "Reader.took" U9 ["self", "wanted"] t.Bd t.UJ t.UL
 Av:Mf K "stretch" "Reader.stretch" Oe ["self", "signs"] t.Bd t.Ou t.Ov
 Ge:Mf K "number" "Reader.number" Qy ["self"] t.Bd t.Kc t.Ke
 Hj:Mf K "__init__" "Path.__init__" Qz ["self", "stops"] t.HS t.Kf t.Q6
 SX:Mf K "size" "Path.size" Z7 ["self"] t.HS t.Z8 t.Z9
 Mj:Mf K "numbers" "Path.numbers" RQ ["self"] t.HS t.RZ t.Sh
 FN:Mf K "__init__" "Times.__init__" Og ["self", "count", "inner"] t.Ef t.Jf t.Ow
 Qm:Mf K "size" "Times.size" WN ["self"] t.Ef t.K3 t.K4
 Km:Mf K "numbers" "Times.numbers" Q0 ["self"] t.Ef t.Hh t.Hi
 Cg:Mf K "__init__" "Piece.__init__" Oh ["self", "texts", "writing"] t.Eg t.GX t.Ox
 Eh:Mf K "wide" "Piece.wide" WR ["self"] t.Eg t.Cz t.Xd
 Ei:Mf K "high" "Piece.high" WT ["self"] t.Eg t.CG t.Xe
 CW:Mf K "cloth" "Piece.cloth" UG ["self"] t.Eg t.Cp t.UT
 DK:Mf K "told" "Piece.told" WW ["self"] t.Eg t.CJ t.Xf
 Pk:Mf K "__init__" "Named.__init__" Oj ["self", "name", "known_cloth"] t.Gk t.Jg t.Oz
 Ra:Mf K "__init__" "Rows.__init__" Ka ["self", "runs"] t.HW t.Kg t.Q7
 Pn:Mf K "__init__" "Twill.__init__" Jc ["self", "over", "under"] t.Gm t.Jh t.O1
 Nf:Mf K "__init__" "Beside.__init__" HQ ["self", "one", "other"] t.Fy t.Ia t.M3
 Pq:Mf K "__init__" "Above.__init__" Ol ["self", "one", "other"] t.GQ t.Ji t.O3
 Ng:Mf K "__init__" "Mirror.__init__" HR ["self", "inner"] t.Fz t.Ib t.M4
 Pr:Mf K "__init__" "Upend.__init__" Om ["self", "inner"] t.GR t.Jj t.O4
 Rb:Mf K "__init__" "Back.__init__" Q3 ["self", "inner"] t.Jd t.Kh t.Q8
 Ml:Mf K "__init__" "Quarter.__init__" Lp ["self", "inner"] t.Ew t.Hm t.Lq
 Rg:Mf K "__init__" "Tile.__init__" Q4 ["self", "inner", "across", "along"] t.HX t.Kl t.Q9
 Tc:Mf K "__init__" "Lay.__init__" RT ["self", "upper", "lower"] t.Oq t.Lr t.Sq
theorem bl1{ps:NX}(h:∀ a:Value,bindArgs fd ⟨[a],[]⟩=pure (ps.zip [a]))(us:NW)(c:us.length=1):bindArgs fd ⟨us,[]⟩=pure (ps.zip us):=by
 rcases us with _ | ⟨a,us⟩
 ·cases c
 rcases us with _ | ⟨b,us⟩
 ·exact h a
 ·cases c
theorem bl2{ps:NX}(h:∀ c a:Value,bindArgs fd ⟨[c,a],[]⟩=pure (ps.zip [c,a]))(us:NW)(d:us.length=2):bindArgs fd ⟨us,[]⟩=pure (ps.zip us):=by
 rcases us with _ | ⟨c,us⟩
 ·cases d
 rcases us with _ | ⟨a,us⟩
 ·cases d
 rcases us with _ | ⟨b,us⟩
 ·exact h c a
 ·cases d
theorem bl3{ps:NX}(h:∀ d a e:Value,bindArgs fd ⟨[d,a,e],[]⟩=pure (ps.zip [d,a,e]))(us:NW)(c:us.length=3):bindArgs fd ⟨us,[]⟩=pure (ps.zip us):=by
 rcases us with _ | ⟨d,us⟩
 ·cases c
 rcases us with _ | ⟨a,us⟩
 ·cases c
 rcases us with _ | ⟨e,us⟩
 ·cases c
 rcases us with _ | ⟨b,us⟩
 ·exact h d a e
 ·cases c
theorem bl4{ps:NX}(h:∀ d c e f:Value,bindArgs fd ⟨[d,c,e,f],[]⟩=pure (ps.zip [d,c,e,f]))(us:NW)(a:us.length=4):bindArgs fd ⟨us,[]⟩=pure (ps.zip us):=by
 rcases us with _ | ⟨d,us⟩
 ·cases a
 rcases us with _ | ⟨c,us⟩
 ·cases a
 rcases us with _ | ⟨e,us⟩
 ·cases a
 rcases us with _ | ⟨f,us⟩
 ·cases a
 rcases us with _ | ⟨b,us⟩
 ·exact h d c e f
 ·cases a
seal PE PT PW PA PS PSs PC PG PGs AuM PIp AuO PIE PI PO PEX PSX Ar0
section
variable {K:NF}{base:Heap}{t:Adr}
def rf (u:NI)(p:Nat):List (Str × V):=[("text", .str (tx u)),("place", .int (p:Int))]
def Rd (t:Adr)(H:Hp)(r dx:Addr)(u:NI)(p:Nat):Prop:=H r=some (.ins t.Bd dx (rf u p))/\p<=u.length/\u.length<=1000000
theorem XC(u:NI)(p:Nat):(rf u p).lookup ("text" : Str)=some (V.str (tx u)):=rfl
theorem JH(u:NI)(p:Nat):(rf u p).lookup ("place" : Str)=some (V.int (p:Int)):=rfl
theorem big(h:n<=1000000):n<=sizeLine:=Awe h Ap
inductive AmW (t:Adr)(vs:Na)(H:Hp)(Q:VK)(z3:XK):Prop
|mk(r:_)(dx:_)(u:_)(p:_)(_:vs=[.ref r])(_:Rd t H r dx u p)(_:Q (.bl (decide (p=u.length))) H)
theorem Ko(T:Txt K mg t):Bh P w K mg base CX0 1 t.RW t.RX ["self"] (AmW t):=by
 refine T.Ey.F.ok Aat ?_;rintro _ _ _ _ H _ Q E f ⟨r,dx,u,p,rfl,⟨a,d,b⟩,k⟩;refine⟨_,(Ad (Ay (Hx Dd (Dt (K:=K) (pv 0) U) (Az BK U T.Ca Bv (Aa (Dt (K:=K) (pv 0) U) Ab)) (Ar _)))),?_⟩;refine⟨_,U,_,_,_,_,_,U,a,T.Bl.c,T.Dj,JH u p,?_⟩;refine⟨_,U,_,_,_,_,_,U,a,T.Bl.c,T.FJ,XC u p,?_⟩;refine⟨_,U,(by exact big b),U,?_⟩;have e:decide (V.int (p:Int)=V.int ((tx u).length:Int))=decide (p=u.length):=by
  rw[Aw];grind
 rw[e];exact k
inductive Ap8 (t:Adr)(vs:Na)(H:Hp)(Q:VK)(z3:XK):Prop
|mk(r:_)(dx:_)(u:_)(p:_)(v:_)(_:vs=[.ref r,.str (tx v)])(_:Rd t H r dx u p)(_:v.length<=100)(_:((u.drop p).take v.length=v->Q (.bl true) (upd H r (.ins t.Bd dx (rf u (p+v.length))))))(_:((u.drop p).take v.length≠v->Q (.bl false) H))
theorem Ajr(h:p<=u.length):Ug u (some (p:Int)) (some ((p:Int)+(n:Int)))=(u.drop p).take n:=by
 unfold Ug;rw[show((p:Int)+(n:Int))=((p+n:Nat):Int) by omega,HT.Ku,HT.Ku,AwB h];by_cases h2:p+n<=u.length
 ·rw[AwB h2,Nat.add_sub_cancel_left]
 ·rw[Nat.min_eq_right At,Aws (by rw[Awk];omega),Aws (by rw[Awk];omega)]
theorem Di(T:Txt K mg t):Bh P w K mg base CX0 1 t.UJ t.UL ["self", "wanted"] (Ap8 t):=by
 refine T.Bq.F.ok RN ?_;rintro _ _ _ _ H _ Q E f ⟨r,dx,u,p,v,rfl,⟨a,d,b⟩,e,k1,k2⟩;refine⟨_,(Ac (Bb (i:=2) RN.nd U (Or.inl U) (Aj Ex (Dt (K:=K) (pv 0) U) (Az BK U T.Ca Bv (Aa (pv 1) Ab))))
  (Ac (Bm (Ak NB (Hz Ys (Dt (K:=K) (pv 0) U) (Hy (Dt (K:=K) (pv 0) U)) (Hy (pv 2))) (pv 1) (Ar _))
   (Ad (Ay Alw))
   Ao)
  (Ac (HH (K:=K) (pv 0) (pv 2))
  (Ad (Ay Alw))))),?_⟩;refine⟨_,U,_,_,_,_,_,U,a,T.Bl.c,T.Dj,JH u p,_,U,_,U,(by rw[Aw];exact big Au),_,_,U,U,?_⟩;rw[Aw];refine⟨_,U,_,_,_,_,_,U,a,T.Bl.c,T.FJ,XC u p,?_⟩;refine⟨_,U,_,_,_,_,_,U,a,T.Bl.c,T.Dj,JH u p,_,U,_,U,_,U,u,U,big b,_,U,U,_,U,?_⟩;rw[Ajr d];by_cases hc:(u.drop p).take v.length=v
 ·refine Up (by rw[hc]) ?_;refine⟨_,U,_,U,_,_,_,_,U,a,T.Bl.c,T.Dj,(by show 2<1000;decide),?_⟩;exact k1 hc
 ·refine Abh (λz=>hc (by injection z with z;exact IK z)) ?_;exact k2 hc
def dg (c:Nat):Bool:=decide (48<=c/\c<=57)
def Hb (l:NI):NI:=l.takeWhile dg
def Adb (v:NI):V:=if (1<=v.length/\v.length<=2)/\¬(v.length=2/\v[0]?=some 48) then .int ((PySem.NumText.digitsVal v:Nat):Int) else .non
theorem Ajs:∀(l:NI)(n:Nat),n<=l.length->(∀ c∈l.take n,dg c=true)->(∀ c,l[n]?=some c->dg c=false)->Hb l=l.take n
 | [],n,h,_,_=>by simp[Hb]
 | c::l,0,_,_,h2=>by
  unfold Hb;rw[Aw2,h2 c rfl];rfl
 | c::l,n+1,h,h1,h2=>by
  have hc:=h1 c AA;have:= Ajs l n (by simpa using h) (λd a=>h1 d AB) (λd a=>h2 d (by simpa using a));unfold Hb at this ⊢;rw[Aw2,if_pos hc,this,AwI]
theorem Ap9:∀ c∈Hb l,48<=c/\c<=57:=λc hc=>by
 have h:dg c=true:=by
  unfold Hb at hc
  induction l with
  | nil=>simp at hc
  | cons a l b =>
   rw[Aw2] at hc;split at hc
   next ha =>
    rcases yG.mp hc with e | e
    ·rw[e];exact ha
    ·exact b e
   next=>simp at hc
 exact of_decide_eq_true h
theorem AmX(h:H r=some o):upd H r o=H:=by
 funext b
 unfold upd;split
 next e=>rw[e,h]
 next=>rfl
theorem z48(c:Nat):(V.str ⟨#[c]⟩:V)=V.str "0" ↔ c=48:=by
 have e:(("0" : Str))=tx [48]:=As
 exact⟨λz=>by injection z with z;exact(List.cons.inj (IK z)).1,λz=>by rw[z];rfl⟩
inductive AmY (vs:Na)(H:Hp)(Q:VK)(z3:XK):Prop
|mk(v:NI)(_:vs=[.str (tx v)])(_:(∀ c∈v,48<=c/\c<=57))(_:v.length<=1000000)(_:Q (Adb v) H)
theorem Afj(T:Txt K mg t):Bh P w K mg base CX0 1 t.ZL t.ZM ["figures"] AmY:=by
 refine T.TF.F.ok AeO ?_;rintro _ _ _ _ H _ Q E i ⟨v,rfl,h,e,k⟩;have sz:(tx v).length<=sizeLine:=by exact big e
 refine⟨_,(Ac (Bm (PW.pt (pw_or (Ak GZ (Az BK U T.Ca Bv (Aa (pv 0) Ab)) Ah (Ar _)) (pw_or1 (Ak Hr (Az BK U T.Ca Bv (Aa (pv 0) Ab)) Ah (Ar _)))))
   (Ad (Ay Rp))
   Ao)
  (Ac (Bm (PW.pt (pw_and (Ak Dd (Az BK U T.Ca Bv (Aa (pv 0) Ab)) Ah (Ar _)) (pw_and1 (Ak Dd (Bw JR (pv 0) Ah (λ_ _=>rfl)) Af (Ar _)))))
   (Ad (Ay Rp))
   Ao)
  (Ad (Ay (Cd Akl U T.Ajk Ae0 (Aa (pv 0) Ab)))))),?_⟩;unfold Adb at k;refine⟨_,U,_,U,sz,_,_,U,U,_,U,?_⟩;rw[Aw];refine Cw (λb=>?_) (λb=>?_)
 ·rw[if_neg At] at k;exact k
 ·refine⟨_,U,_,U,sz,_,_,U,U,_,U,?_⟩;rw[Aw];refine Cw (λf=>?_) (λf=>?_)
  ·rw[if_neg At] at k;exact k
  ·refine⟨_,U,_,U,sz,U,_,U,?_⟩;rw[Aw];have fin:¬(v.length=2/\v[0]?=some 48)->Zt [V.str (tx v)] H Q:=λa=>by
    rw[if_pos ⟨At,a⟩] at k;refine⟨tx v,_,U,PySem.intText_digits (by exact h) (by rw[Fw];intro z;rw[z] at b;simp at b) (by rw[Aw];lia),by rw[Aw];lia,?_⟩;exact k
   refine Cw (λa=>?_) (λa=>?_)
   ·have l2:v.length=2:=AD
    have c:0<v.length:=Au
    refine⟨_,U,_,_,v[0],U,U,sz,BL Ap (by exact AvM c),U,_,U,?_⟩;refine Cw (λd=>?_) (λd=>?_)
    ·rw[if_neg (λz=>z.2 ⟨l2,by rw[AvM c,(z48 _).mp d]⟩)] at k;exact k
    ·exact⟨_,U,fin λz=>d ((z48 _).mpr (by have:= z.2;rw[AvM c] at this;exact Option.some.inj this))⟩
   ·exact JS ⟨_,U,fin λz=>a (by rw[z.1];rfl)⟩
theorem DP(u:NI)(p:Nat):(rf u p).lookup ("ended" : Str)=none/\(rf u p).lookup ("took" : Str)=none/\(rf u p).lookup ("number" : Str)=none/\(rf u p).lookup ("stretch" : Str)=none:=⟨U,U,U,U⟩
theorem Mm(T:Txt K mg t):Bh P w K mg base CX0 1 t.HY t.Mz ["self", "text"] (λvs H Q E=>∃(r dx:Addr)(u:NI),vs=[.ref r,.str (tx u)]/\H r=some (.ins t.Bd dx [])/\Q .non (upd H r (.ins t.Bd dx (rf u 0)))):=by
 refine T.DX.F.ok V7 ?_;rintro _ _ _ _ H _ Q E a ⟨r,dx,u,rfl,h1,k⟩;refine⟨_,(Ac (HH (K:=K) (pv 0) (pv 1))
  (Ad (HH (K:=K) (pv 0) Ah))),?_⟩;refine⟨_,U,_,U,_,_,_,_,U,h1,T.Bl.c,T.FJ,Ap,?_⟩;refine⟨_,U,_,_,_,_,U,Ae,T.Bl.c,T.Dj,AF,?_⟩;rw[Ez];exact k
def stp (sg l:NI):NI:=l.takeWhile λc=>decide (c∈sg)
theorem AmZ{sg:NI}:∀(l:NI)(n:Nat),n<=l.length->(∀ c∈l.take n,c∈sg)->(∀ c,l[n]?=some c->c∉sg)->stp sg l=l.take n
 | [],n,h,_,_=>by simp[stp]
 | c::l,0,_,_,h2=>by
  unfold stp;rw[Aw2,if_neg (by rw[decide_eq_true_eq];exact h2 c U)];rfl
 | c::l,n+1,h,h1,h2=>by
  have hc:=h1 c AA;have:= AmZ l n (by simpa using h) (λd a=>h1 d AB) (λd a=>h2 d (by simpa using a));unfold stp at this ⊢;rw[Aw2,if_pos (zN hc),this,AwI]
theorem Ajt(sg:NI):∀(l:NI),(∀ c∈stp sg l,c∈sg)/\(stp sg l).length<=l.length
 | []=>⟨λc hc=>(by cases hc),AvN _⟩
 | a::l=>by
  have b:=Ajt sg l;unfold stp at b ⊢;by_cases h:a∈sg
  ·simp_all
  ·simp_all
theorem Acg(sg:NI)(c:Nat):(!(Builtin.Str.occurrences (tx sg) ⟨#[c]⟩ 0 (tx sg).length 1).isEmpty)=decide (c∈sg):=by rw[StrLaws.found_one,Fw]
inductive Aik (t:Adr)(vs:Na)(H:Hp)(Q:VK)(z3:XK):Prop
|mk(r:_)(dx:_)(u:_)(p:_)(sg:_)(_:vs=[.ref r,.str (tx sg)])(_:Rd t H r dx u p)(_:sg.length<=1000)(_:Q (.str (tx (stp sg (u.drop p)))) (upd H r (.ins t.Bd dx (rf u (p+(stp sg (u.drop p)).length)))))
theorem By(T:Txt K mg t):Bh P w K mg base CX0 2 t.Ou t.Ov ["self", "signs"] (Aik t):=by
 refine T.Av.F.ok My ?_;rintro _ _ _ _ H _ Q E s ⟨r,dx,u,p,sg,rfl,⟨d,o,f⟩,v,k⟩;refine⟨_,(Ac (Bb (i:=2) My.nd U (Or.inl U) (Dt (K:=K) (pv 0) U))
  (Ac (VR PassesOwn.never (PW.pt (pw_and (Hu (Fl (Rv (pv 0) T.Bl.c T.Ey.m ((Ko T).mono Ap) s T.Ey.b .nil Aq))) (pw_and1 (Ak Ym (Bw JR (Dt (K:=K) (pv 0) U) (Dt (K:=K) (pv 0) U) (λ_ _=>rfl)) (pv 1) U))))
   (Ad (Ah9 (K:=K) (pv 0) Ah Ark)))
  (Ad (Ay (Hz Ys (Dt (K:=K) (pv 0) U) (Hy (pv 2)) (Hy (Dt (K:=K) (pv 0) U))))))),?_⟩;refine⟨_,U,_,_,_,_,_,U,d,T.Bl.c,T.Dj,JH u p,?_⟩;refine⟨λm σ H2=>∃ n,σ=[some (.ref r),some (.str (tx sg)),some (.int (p:Int))]/\H2=upd H r (.ins t.Bd dx (rf u (p+n)))/\p+n<=u.length/\(∀ c∈(u.drop p).take n,c∈sg)/\m=u.length-(p+n),
  ⟨_,0,U,(AmX d).symm,o,(λc hc=>by simp at hc),U⟩,?_⟩;rintro m σ H2 ⟨n,rfl,rfl,hn,l,rfl⟩;have a:(upd H r (.ins t.Bd dx (rf u (p+n)))) r=some (.ins t.Bd dx (rf u (p+n))):=Ae;have done:=λq=>(AmZ _ n AD l q).symm;have y:((u.drop p).take n).length=n:=AD
 have z:Ug u (some (p:Int)) (some ((p+n:Nat):Int))=(u.drop p).take n:=by exact Ajr o
 have fin:(u.drop p).take n=stp sg (u.drop p)->Q (.str (tx (Ug u (some (p:Int)) (some ((p+n:Nat):Int))))) (upd H r (.ins t.Bd dx (rf u (p+n)))):=λA=>by
  simp_all
 refine⟨_,U,r,dx,rf u (p+n),U,a,(DP u _).1,r,dx,u,p+n,U,⟨a,hn,f⟩,_,U,?_⟩;by_cases j:p+n=u.length
 ·rw[zN j];exact⟨_,U,_,_,_,_,_,U,a,T.Bl.c,T.FJ,XC u _,_,U,_,U,_,U,_,_,_,_,_,U,a,T.Bl.c,T.Dj,JH u _,_,U,u,U,big f,
   fin (done λc hc=>AD)⟩
 ·rw[zJ j];have e:p+n<u.length:=Au
  refine⟨_,U,_,_,_,_,_,U,a,T.Bl.c,T.FJ,XC u _,_,U,_,_,_,_,_,U,a,T.Bl.c,T.Dj,JH u _,_,_,u[p+n],U,U,(by exact big f),
   BL Au (by exact AvM e),_,U,_,_,U,U,_,U,?_⟩;rw[Acg];refine Cw (λx=>?_) (λx=>?_)
  ·refine⟨_,λσ' H' h=>h,?_⟩;refine⟨_,U,_,_,_,_,_,U,a,T.Bl.c,T.Dj,JH u _,_,_,U,U,dx,rf u (p+n),a,(by show 2<1000;decide),?_⟩;refine⟨u.length-(p+(n+1)),Au,n+1,U,?_,Au,λc hc=>?_,U⟩
   ·rw[Ez];rfl
   ·rw[AvT,AwO,AvM e] at hc;rcases zG.mp hc with h | h
    ·exact l c h
    ·simp_all
  ·exact⟨_,U,_,_,_,_,_,U,a,T.Bl.c,T.FJ,XC u _,_,U,_,U,_,U,_,_,_,_,_,U,a,T.Bl.c,T.Dj,JH u _,_,U,u,U,big f,
    fin (done λc hc=>AB)⟩
def AgN:NI:=[48,49,50,51,52,53,54,55,56,57]
theorem Ach:c∈AgN↔48<=c/\c<=57:=by rw[show AgN=List.range' 48 10 from U,List.mem_range'_1];omega
inductive AkG (t:Adr)(vs:Na)(H:Hp)(Q:VK)(z3:XK):Prop
|mk(r:_)(dx:_)(u:_)(p:_)(_:vs=[.ref r])(_:Rd t H r dx u p)(_:Q (Adb (stp AgN (u.drop p))) (upd H r (.ins t.Bd dx (rf u (p+(stp AgN (u.drop p)).length)))))
theorem Pu(T:Txt K mg t):Bh P w K mg base CX0 3 t.Kc t.Ke ["self"] (AkG t):=by refine T.Ge.F.ok YD ?_;rintro _ _ _ _ H _ Q E d ⟨r,dx,u,p,rfl,a,k⟩;refine⟨_,(Ad (Ay (Al ((Afj T).mono Ap) d U T.TF.m T.TF.F.kp T.TF.b .nil Aq (Aa (Ds (pv 0) T.Bl.c T.Av.m ((By T).mono Ap) d T.Av.b .nil Aq (Aa (BX (v:=.str "0123456789") U T.AkB.choose_spec ⟨_,U⟩) Ab)) Ab)))),?_⟩;have e:=Ajt AgN (u.drop p);refine⟨_,U,r,dx,rf u p,U,a.1,(DP u p).2.2.2,r,dx,u,p,AgN,AE,a,Ap,?_⟩;exact⟨_,U,λc hc=>Ach.mp (e.1 c hc),by have:= a.2.2;grind,k⟩
def Cq (r:Addr)(H H':Hp):Prop:=∀ b o,b≠r->H b=some o->H' b=some o
theorem Cq.trans(a:Cq r H H1)(b:Cq r H1 H2):Cq r H H2:=λc o n e=>b c o n (a c o n e)
theorem Cq.upd:Cq r H (L2.upd H r o):=λb o' n e=>by rw[Ai n];exact e
def Hc (t:Adr)(H:Hp)(r dx:Addr)(u:NI)(p:Nat):Hp:=upd H r (.ins t.Bd dx (rf u p))
theorem Td{q:Nat}(h:Rd t H r dx u p)(a:q<=u.length):Rd t (Hc t H r dx u q) r dx u q:=⟨Ae,a,h.2.2⟩
theorem AaG(f:Nat->Bool):∀ l:NI,l.drop (l.takeWhile f).length=l.dropWhile f
 | []=>rfl
 | a::l=>by
  rw[Aw2,Axi];by_cases h:f a=true
  ·rw[if_pos h,if_pos h];exact AaG f l
  ·simp_all
theorem Mp{f:Nat->Bool}(h:∀ c,decide (c∈sg)=f c)(l:NI):stp sg l=l.takeWhile f:=by unfold stp;rw[show(λc=>decide (c∈sg))=f from funext h]
theorem ArV(c:Nat):decide (c∈AgN)=Pat.Dw c:=z6.mpr Ach
theorem Aah(c:Nat):decide (c∈[32])=decide (c=32):=z6.mpr zF
theorem Avj:((" " : Str))=tx [32]:=As
theorem behind(f:Nat->Bool)(a:p<=u.length):u.drop (p+((u.drop p).takeWhile f).length)=(u.drop p).dropWhile f/\p+((u.drop p).takeWhile f).length<=u.length:=by refine⟨by rw[<- AwD,AaG],?_⟩;have h:=(List.takeWhile_prefix f (l:=u.drop p)).length_le;rw[Awk] at h;lia
theorem AdT{f:NI}:Pat.AdC f=true↔((1<=f.length/\f.length<=2)/\¬(f.length=2/\f[0]?=some 48)):=by exact decide_eq_true_iff
inductive ApA (t:Adr)(vs:Na)(H:Hp)(Q:VK)(E:XK):Prop
|mk(r:_)(dx:_)(u:_)(p:_)(_:vs=[.ref r])(_:Rd t H r dx u p)(_:(∀ n l p',Pat.num (u.drop p)=some (n,l)->p<=p'->p'<=u.length->u.drop p'=l->Q (.int ((n:Nat):Int)) (Hc t H r dx u p')))(_:(Pat.num (u.drop p)=none->∀ H',Cq r H H'->E (.ref t.Br) none H'))
theorem Qn(T:Txt K mg t):Bh P w K mg base (CX1 P w) 4 t.JF t.JG ["reader"] (ApA t):=by
 refine T.Ga.F.okX Iv ?_;rintro _ _ _ _ H _ Q E h ⟨r,dx,u,p,rfl,d,k1,k2⟩;refine⟨_,(Ac (Bb (i:=1) Iv.nd U (Or.inl U) (Rv (pv 0) T.Bl.c T.Ge.m ((Pu T).mono Ap) h T.Ge.b .nil Aq))
  (Ac (Bm (Ak Ahs (pv 1) Rp (Ar _))
   (Ad (Bx CQ U (λ_ _ z=>z) F.excBase_ValueError Cy F.excBase_ValueError T.BV.q U T.BW (Aa Af Ab)))
   Ao)
  (Ac (Bg (Ds (pv 0) T.Bl.c T.Av.m ((By T).mono Ap) h T.Av.b .nil Aq (Aa Af Ab)))
  (Ad (Ay (pv 1)))))),?_⟩;refine⟨_,U,r,dx,rf u p,U,d.1,(DP u p).2.2.1,r,dx,u,p,U,d,?_⟩;rw[Mp ArV];have e:=behind Pat.Dw d.2.1;unfold Pat.num at k1 k2;by_cases c:Pat.AdC ((u.drop p).takeWhile Pat.Dw)=true
 ·rw[if_pos c] at k1;rw[show Adb ((u.drop p).takeWhile Pat.Dw)=.int ((PySem.NumText.digitsVal ((u.drop p).takeWhile Pat.Dw):Nat):Int) from if_pos (AdT.mp c)];refine⟨_,U,U,_,U,?_⟩;have a:=Td d e.2;refine⟨_,U,r,dx,rf u _,U,a.1,(DP u _).2.2.2,r,dx,u,_,[32],AE,a,Ap,?_⟩;rw[Mp Aah,Ez];have f:=behind (λc=>decide (c=32)) e.2;refine⟨_,U,?_⟩;exact k1 _ _ _ U Au f.2 (by rw[f.1,e.1];rfl)
 ·rw[if_neg c] at k2;rw[show Adb ((u.drop p).takeWhile Pat.Dw)=.non from if_neg λz=>c (AdT.mpr z)];refine⟨_,U,U,_,U,?_⟩;exact⟨Ap,k2 U _ Cq.upd⟩
theorem AkH:(("," : Str))=tx [44]:=As
theorem XD{a:Nat}:Pat.one c (a::v)=if a=c then some v else none:=rfl
theorem Te:(u.drop p).take [c].length=[c]↔∃ l,Pat.one c (u.drop p)=some l:=by
 cases e:u.drop p with
 | nil=>exact⟨λz=>by simp at z,λ⟨l,z⟩=>by simp[Pat.one] at z⟩
 | cons a v =>
  constructor
  ·intro z;have h:a=c:=by simpa using z
   exact⟨v,by rw[XD,if_pos h]⟩
  ·rintro⟨l,z⟩;rw[XD] at z;grind
theorem XF(h:Pat.one c (u.drop p)=some l):u.drop (p+[c].length)=l/\p+[c].length<=u.length:=by
 cases e:u.drop p with
 | nil=>rw[e] at h;simp[Pat.one] at h
 | cons a v =>
  rw[e] at h;rw[XD] at h;by_cases b:a=c
  ·rw[if_pos b] at h;have d:=congrArg List.length e;refine⟨?_,AD⟩;rw[<- AwD,e];exact Option.some.inj h
  ·simp_all
theorem XH(h:(u.drop p).take [c].length≠[c]):Pat.one c (u.drop p)=none:=by
 cases e:Pat.one c (u.drop p) with
 | none=>rfl
 | some l=>exact absurd (Te.mpr ⟨l,e⟩) h
inductive AkI (t:Adr)(vs:Na)(H:Hp)(Q:VK)(E:XK):Prop
|mk(r:_)(dx:_)(u:_)(p:_)(_:vs=[.ref r])(_:Rd t H r dx u p)(_:(∀ l p',Pat.comma (u.drop p)=some l->p<=p'->p'<=u.length->u.drop p'=l->Q .non (Hc t H r dx u p')))(_:(Pat.comma (u.drop p)=none->∀ H',Cq r H H'->E (.ref t.Br) none H'))
theorem Aci(T:Txt K mg t):Bh P w K mg base (CX1 P w) 3 t.Xo t.Xp ["reader"] (AkI t):=by
 refine T.Qi.F.okX AcC ?_;rintro _ _ _ _ H _ Q E j ⟨r,dx,u,p,rfl,h,k1,k2⟩;refine⟨_,(Ac (Bm (Hu (Fl (Ds (pv 0) T.Bl.c T.Bq.m ((Di T).mono Ap) j T.Bq.b .nil Aq (Aa Af Ab))))
   (Ad (Bx CQ U (λ_ _ z=>z) F.excBase_ValueError Cy F.excBase_ValueError T.BV.q U T.BW (Aa Af Ab)))
   Ao)
  (Ad (Bg (Ds (pv 0) T.Bl.c T.Av.m ((By T).mono Ap) j T.Av.b .nil Aq (Aa Af Ab))))),?_⟩;unfold Pat.comma at k1 k2;refine⟨_,U,r,dx,rf u p,U,h.1,(DP u p).2.1,r,dx,u,p,[44],AE,h,Ap,λk=>?_,λf=>?_⟩
 ·obtain⟨l,e⟩:=Te.mp k;have d:=XF e;have a:=Td h d.2;refine⟨_,U,?_⟩;refine⟨_,U,r,dx,rf u _,U,a.1,(DP u _).2.2.2,r,dx,u,_,[32],AE,a,Ap,?_⟩;rw[Mp Aah,Ez];have i:=behind (λc=>decide (c=32)) d.2;rw[e] at k1;exact k1 _ _ U Au i.2 (by rw[i.1,d.1];rfl)
 ·refine⟨_,U,?_⟩;exact⟨Ap,k2 (by rw[XH f];rfl) _ (λb o _ e=>e)⟩
theorem Au0:(("#." : Str))=tx [35,46]:=As
theorem ApB(c:Nat):decide (c∈[35,46])=Pat.knot c:=z6.mpr (by simp only [Awb,Awc,or_false])
inductive ApC (t:Adr)(vs:Na)(H:Hp)(Q:VK)(E:XK):Prop
|mk(r:_)(dx:_)(u:_)(p:_)(_:vs=[.ref r])(_:Rd t H r dx u p)(_:(∀ z l p',Pat.run (u.drop p)=some (z,l)->p<p'->p'<=u.length->u.drop p'=l->Q (.str (tx z)) (Hc t H r dx u p')))(_:(Pat.run (u.drop p)=none->∀ H',Cq r H H'->E (.ref t.Br) none H'))
theorem XJ(T:Txt K mg t):Bh P w K mg base (CX1 P w) 3 t.AbJ t.AbK ["reader"] (ApC t):=by
 refine T.Lz.F.okX Z2 ?_;rintro _ _ _ _ H _ Q E j ⟨r,dx,u,p,rfl,d,k1,k2⟩;refine⟨_,(Ac (Bb (i:=1) Z2.nd U (Or.inl U) (Ds (pv 0) T.Bl.c T.Av.m ((By T).mono Ap) j T.Av.b .nil Aq (Aa Af Ab)))
  (Ac (Bm (Ak Dd (pv 1) Af (Ar _))
   (Ad (Bx CQ U (λ_ _ z=>z) F.excBase_ValueError Cy F.excBase_ValueError T.BV.q U T.BW (Aa Af Ab)))
   Ao)
  (Ac (Bg (Ds (pv 0) T.Bl.c T.Av.m ((By T).mono Ap) j T.Av.b .nil Aq (Aa Af Ab)))
  (Ad (Ay (pv 1)))))),?_⟩;unfold Pat.run at k1 k2;have f:=behind Pat.knot d.2.1;refine⟨_,U,r,dx,rf u p,U,d.1,(DP u p).2.2.2,r,dx,u,p,[35,46],AE,d,Ap,?_⟩;rw[Mp ApB];refine⟨_,U,U,_,U,?_⟩;by_cases c:(u.drop p).takeWhile Pat.knot=[]
 ·rw[if_pos c] at k2;refine Gq (by rw[c];decide +kernel) ?_;exact⟨Ap,k2 U _ Cq.upd⟩
 ·rw[if_neg c] at k1;have a:=Td d f.2;refine Ea (λz=>c ?_) ?_
  ·have e:(("" : Str))=tx []:=As
   injection z with z;exact IK z
  refine⟨_,U,r,dx,rf u _,U,a.1,(DP u _).2.2.2,r,dx,u,_,[32],AE,a,Ap,?_⟩;rw[Mp Aah,Ez];have h:=behind (λc=>decide (c=32)) f.2;have l0:=zZ.mpr c;refine⟨_,U,?_⟩;exact k1 _ _ _ U Au h.2 (by rw[h.1,f.1];rfl)
theorem Ana(l:NI):(Pat.sk l).length<=l.length:=(AwY _).length_le
theorem Anb(h:Pat.one c l=some l1):l1.length<l.length:=by
 cases l with
 | nil=>simp[Pat.one] at h
 | cons a v =>
  rw[XD] at h;grind
theorem Anc(h:Pat.run l=some (z,l2)):l2.length<=l.length:=by
 unfold Pat.run at h;split at h
 ·cases h
 ·injection h with h;injection h with _ h;rw[<- h];exact Awe (Ana _) (AwY _).length_le
theorem AdU:∀(k k':Nat)(l:NI),l.length<k->l.length<k'->Pat.DN k l=Pat.DN k' l
 | 0,_,_,h,_=>Au
 | _+1,0,_,_,h=>Au
 | k+1,k'+1,l,h1,h2=>by
  unfold Pat.DN;cases e:Pat.one 44 l with
  | none=>rfl
  | some l1 =>
   cases d:Pat.run (Pat.sk l1) with
   | none=>simp only [d]
   | some q =>
    obtain⟨z,l2⟩:=q;have a:=Anb e;have b:=Anc d;have c:=Ana l1;simp only [d];rw[AdU k k' l2 At At]
def more(l:NI):Option (NN × NI):=Pat.DN (l.length+1) l
theorem Ane(h:Pat.one 44 l=none):more l=some ([],l):=by unfold more Pat.DN;rw[h]
theorem Anf(h:Pat.one 44 l=some l1)(h2:Pat.run (Pat.sk l1)=none):more l=none:=by unfold more Pat.DN;rw[h];simp only [h2]
theorem AkJ(h:Pat.one 44 l=some l1)(h2:Pat.run (Pat.sk l1)=some (z,l2)):more l=(more l2).map λp=>(z::p.1,p.2):=by
 have a:=Anb h;have b:=Anc h2;have c:=Ana l1;unfold more;rw[AdU (l2.length+1) l.length l2 At At]
 conv=>lhs;unfold Pat.DN
 rw[h];simp only [h2]
def Vs (done:NN)(l:NI):Option (NN × NI):=match more l with
 | none=>none
 | some (rs,l2)=>if (done++rs).length>40 then none else some (done++rs,l2)
theorem AeJ(h:Pat.run l=some (z,l1)):Pat.runs l=Vs [z] l1:=by unfold Pat.runs Vs more;rw[h];rfl
theorem Ang{done:NN}(h:Pat.one 44 l=some l1)(h2:Pat.run (Pat.sk l1)=some (z,l2)):Vs done l=Vs (done++[z]) l2:=by
 unfold Vs;rw[AkJ h h2];cases more l2 with
 | none=>rfl
 | some q =>
  simp only [Option.map_some,Awj,Ax1]
inductive Anh (t:Adr)(vs:Na)(H:Hp)(Q:VK)(E:XK):Prop
|mk(r:_)(dx:_)(u:_)(p:_)(_:vs=[.ref r])(_:Rd t H r dx u p)(_:(∀ zs l p' q,Pat.runs (u.drop p)=some (zs,l)->p<=p'->p'<=u.length->u.drop p'=l->H q=none->q≠r->Q (.ref q) (upd (Hc t H r dx u p') q (.lst (vS zs)))))(_:(Pat.runs (u.drop p)=none->∀ H',Cq r H H'->E (.ref t.Br) none H'))
theorem swp{p1 p2:Nat}(h:q≠r):upd (upd (Hc t H r dx u p1) q o) r (.ins t.Bd dx (rf u p2))=upd (Hc t H r dx u p2) q o:=by
 funext b
 show upd (upd (upd H r _) q _) r _ b=upd (upd H r _) q _ b;by_cases a:b=r
 ·rw[a,Ae,Ai h.symm,Ae]
 ·by_cases c:b=q
  ·rw[c,Ai h,Ae,Ae]
  ·rw[Ai a,Ai c,Ai a,Ai c,Ai a]
theorem Adc(T:Txt K mg t):Bh P w K mg base (CX1 P w) 4 t.ZR t.ZS ["reader"] (Anh t):=by
 refine T.TQ.F.okX W9 ?_;rintro _ _ _ _ H _ Q E C ⟨r,dx,u,p,rfl,Y,k1,k2⟩;refine⟨_,(Ac (Bb (i:=1) W9.nd U (Or.inl U) (Cu (Aa (Al ((XJ T).mono Ap) C U T.Lz.m T.Lz.F.kp T.Lz.b .nil Cv (Aa (pv 0) Ab)) Ab)))
  (Ac (Wf λhfr=>(VR (Ae3 CQ hfr) (Fl (Ds (pv 0) T.Bl.c T.Bq.m ((Di T).mono Ap) C T.Bq.b .nil Aq (Aa Af Ab)))
   (Ac (Bg (Ds (pv 0) T.Bl.c T.Av.m ((By T).mono Ap) C T.Av.b .nil Aq (Aa Af Ab)))
   (Ad (Bg (BR (K:=K) zM zL zQ DY (pv 1) (Aa (Al ((XJ T).mono Ap) C U T.Lz.m T.Lz.F.kp T.Lz.b .nil Cv (Aa (pv 0) Ab)) Ab)))))))
  (Ac (Bm (Ak Hr (Az (Ax (K:=K)) U T.Ca Bv (Aa (pv 1) Ab)) (BX (v:=.int 40) U T.AgD.choose_spec ⟨_,U⟩) (Ar _))
   (Ad (Bx CQ U (λ_ _ z=>z) F.excBase_ValueError Cy F.excBase_ValueError T.BV.q U T.BW (Aa Af Ab)))
   Ao)
  (Ad (Ay (pv 1)))))),?_⟩;refine⟨_,U,r,dx,u,p,U,Y,λz l p1 N a0 G I=>?_,λN H' L=>k2 (by unfold Pat.runs;rw[N]) H' L⟩;rw[AeJ N] at k1 k2;refine⟨AG,λq A=>?_⟩;have a:q≠r:=λz=>by rw[z,show Hc t H r dx u p1 r=some _ from Ae] at A;cases A
 rw[show Hc t H r dx u p1 q=H q from Ai a] at A;have y:∀ j o,(upd (Hc t H r dx u j) q o) r=some (.ins t.Bd dx (rf u j)):=λj o=>by rw[Ai a.symm];exact Ae
 have x:∀ j o,Cq r H (upd (Hc t H r dx u j) q o):=λj o b o' D e=>by rw[Ai (Bc e A)];show(upd H r _) b=_;rw[Ai D];exact e
 have k:=Y.2.2;refine⟨λm σ H2=>∃ done p2,σ=[some (.ref r),some (.ref q)]/\H2=upd (Hc t H r dx u p2) q (.lst (vS done))/\Vs [z] l=Vs done (u.drop p2)/\p<=p2/\p2<=u.length/\done.length<=p2/\m=u.length-p2,
  ⟨_,[z],p1,U,U,by rw[I],Au,G,AD,U⟩,?_⟩;rintro m σ H2 ⟨done,p2,rfl,rfl,Z,W,s,hdl,rfl⟩;refine⟨_,U,r,dx,rf u p2,U,y _ _,(DP u _).2.1,r,dx,u,p2,[44],AE,⟨y _ _,s,k⟩,Ap,λYW=>?_,λJ=>?_⟩
 ·obtain⟨l1,n⟩:=Te.mp YW;have d:=XF n;rw[swp a];refine⟨_,U,?_⟩;refine⟨_,λσ' H' h=>h,?_⟩;refine⟨_,U,r,dx,rf u _,U,y _ _,(DP u _).2.2.2,r,dx,u,_,[32],AE,⟨y _ _,d.2,k⟩,Ap,?_⟩;rw[Mp Aah,swp a];have B:=behind (λc=>decide (c=32)) d.2;rw[d.1] at B;rw[d.1];obtain⟨O,e3⟩:∃ O,O=p2+[44].length+(l1.takeWhile λc=>decide (c=32)).length:=⟨_,U⟩;rw[<- e3] at B;have d3:=B.1;rw[<- e3];refine⟨_,U,.inl ⟨U,_,SqL.of Ae⟩,_,U,r,dx,u,O,U,⟨y _ _,B.2,k⟩,λz2 l2 X f a1 R S=>?_,λf H' L=>?_⟩
  ·rw[d3] at f;rw[show ∀ p8 j o,Hc t (upd (Hc t H r dx u p8) q o) r dx u j=upd (Hc t H r dx u j) q o from λ_ _ _=>swp a];refine⟨_,_,_,U,U,Ae,(by rw[Be];exact Awd (show done.length<1000001 by lia) Ap),?_⟩;rw[Ez,Dv];exact⟨u.length-X,Au,done++[z2],X,U,U,by rw[Z,Ang n f,S],Au,R,AD,U⟩
  ·rw[d3] at f;refine k2 (by rw[Z];unfold Vs;rw[Anf n f]) H' (λb o D e=>L b o D (x _ _ b o D e))
 ·have n:=XH J;refine⟨_,U,?_⟩;have M:Vs done (u.drop p2)=if (done++[]).length>40 then none else some (done++[],u.drop p2):=by unfold Vs;rw[Ane n]
  rw[Awo] at M;refine⟨_,U,_,_,U,.inl (SqL.of Ae),_,_,U,U,_,U,?_⟩;rw[Be];refine Cw (λc1=>?_) (λc1=>?_)
  ·exact⟨Ap,k2 AD _ (x _ _)⟩
  ·refine⟨_,U,?_⟩;exact k1 done _ p2 q AD W s U A a
def Il:NN:=[[114,111,119,115],[116,119,105,108,108],[115,97,116,105,110],[98,101,115,105,100,101],[97,98,111,118,101],[109,105,114,114,111,114],[117,112,101,110,100],[98,97,99,107],[113,117,97,114,116,101,114],[116,105,108,101],[98,108,111,99,107,115],[108,97,121]]
theorem Ani:(["rows", "twill", "satin", "beside", "above", "mirror", "upend", "back", "quarter", "tile", "blocks", "lay"]:NX)=Il.map tx:=As
theorem AkK(u:NI):Pat.isWord u=decide (u∈Il):=by
 by_cases h:u∈Il
 ·rw[zN h];simp only [Il,Awb,Awc,or_false] at h;rcases h with rfl | rfl | rfl | rfl | rfl | rfl | rfl | rfl | rfl | rfl | rfl | rfl <;> decide
 ·rw[zJ h];simp only [Il,Awb,Awc,or_false,not_or] at h;unfold Pat.isWord Pat.wants Pat.FQ;grind
def ApE:NI:=[97,98,99,100,101,102,103,104,105,106,107,108,109,110,111,112,113,114,115,116,117,118,119,120,121,122]
theorem ArW:(("abcdefghijklmnopqrstuvwxyz" : Str))=tx ApE:=As
theorem Anj(c:Nat):decide (c∈ApE)=Pat.letter c:=z6.mpr (by
 rw[show ApE=List.range' 97 26 from U,List.mem_range'_1];lia)
theorem in_words(u:NI):∀ ls:NN,inV (V.str (tx u)) ((ls.map tx).map V.str)=decide (u∈ls)
 | []=>rfl
 | a::ls=>by
  have c:=in_words u ls;unfold inV at c ⊢;rw[AvU,AvU,Axd,c];by_cases h:u=a
  ·rw[h,zN (AvP)];have:eqV (V.str (tx a)) (V.str (tx a))=true:=Abe U;rw[this,Bool.true_or]
  ·have b:(eqV (V.str (tx a)) (V.str (tx u))=false)/\(eqV (V.str (tx u)) (V.str (tx a))=false):=⟨z5.mpr λz=>h (IK z).symm,z5.mpr λz=>h (IK z)⟩
   first | rw[b.1] | rw[b.2]
   exact z6.mpr ⟨λz=>AvR _ z,λz=>(yG.mp z).elim (λz=>absurd z h) id⟩
inductive AkL (vs:Na)(H:Hp)(Q:VK)(z3:XK):Prop
|mk(u:_)(_:vs=[.str (tx u)])(_:u.length<=1000000)(_:∀ H',Ba H H'->Q (.bl (Pat.isName u)) H')
theorem VF(T:Txt K mg t):Bh P w K mg base CX0 1 t.AdM t.AdN ["text"] AkL:=by
 refine T.J1.F.ok Aia ?_;rintro _ _ _ _ H _ Q E n ⟨u,rfl,f,k⟩;refine⟨_,(Ac (Bm (PW.pt (pw_or (Ak GZ (Az BK U T.Ca Bv (Aa (pv 0) Ab)) Ah (Ar _)) (pw_or1 (Ak Hr (Az BK U T.Ca Bv (Aa (pv 0) Ab)) (BX (v:=.int 20) U T.AbR.choose_spec ⟨_,U⟩) (Ar _)))))
   (Ad (Ay Alw))
   Ao)
  (Ad (Ay (Aho (Hx (Ac9 (K:=K)) (pv 0) (BX (v:=.ref t.AeR) U T.Ap6 U) U) (Aly (Az (Ak9 (K:=K)) U T.At8 Arx (Aa (De (CP.mk (Bj:=[]) (Nc:=["sign"]) U As As (Cr (sc0:=Ag Y6) U As) U rfl U As (λ_ _ h=>by simp at h)) U (V1 (pv 0)) (λ_ _ _ _ _=>.nil) (λ_ _ _ _ _=>(Hx Ym (pv 0) (BX (v:=.str "abcdefghijklmnopqrstuvwxyz") U T.YK.choose_spec ⟨_,U⟩) U))) Ab))))))),?_⟩;have a:(tx u).length<=sizeLine:=by exact big f
 refine⟨_,U,_,U,a,_,_,U,U,_,U,?_⟩;rw[Aw];unfold Pat.isName at k;refine Cw (λe=>?_) (λe=>?_)
 ·rw[zJ (show ¬(1<=u.length/\u.length<=20) by omega)] at k;exact k _ (.refl _)
 ·refine⟨_,U,_,U,a,_,_,U,U,_,U,?_⟩;rw[Aw];refine Cw (λj=>?_) (λj=>?_)
  ·rw[zJ (show ¬(1<=u.length/\u.length<=20) by omega)] at k;exact k _ (.refl _)
  ·rw[zN (show 1<=u.length/\u.length<=20 by omega),AkK] at k;refine⟨_,U,_,_,U,.inr (T.Ap7 H),U,Ap,_,U,?_⟩;rw[Ani,in_words];by_cases d:u∈Il
   ·rw[zN d] at k ⊢;rw[Bool.not_true,Bool.and_false] at k;exact k _ (.refl _)
   ·rw[zJ d] at k ⊢;rw[Bool.not_false,Bool.and_true] at k;refine⟨_,U,_,U,?_⟩;refine Wb (λi ys H2=>H2=H/\ys=vB ((u.take i).map Pat.letter)) ⟨U,U⟩ ?_ ?_ ?_ ?_
    ·rintro i ys H2 hi ⟨rfl,rfl⟩;rw[AhV,AvK,AvW];exact AwS _ _
    ·exact a
    ·rintro i c ys H2 hi hc ⟨rfl,rfl⟩;have b:u[i]?=some c:=by
      rw[zO];exact hc
     refine⟨_,U,_,_,U,U,?_⟩;rw[ArW,Acg,Anj];exact CN.of hi ⟨U,by rw[AhW,AvT,b,AvO];rfl⟩
    ·rintro ys H2 q ⟨rfl,rfl⟩ m;refine⟨_,_,U,SqL.of Ae,?_⟩;have l:(((u.take (tx u).cps.size).map Pat.letter).all id)=u.all Pat.letter:=by
      rw[show(tx u).cps.size=u.length from Aw u,Awa,List.all_map];rfl
     rw[l];exact k _ (.upd m)
inductive AtN (H:Hp):Nd->V->Prop
 | num {n:Nat}:AtN H (.num n) (.int (n:Int))
 | run {r:NI}:AtN H (.run r) (.str (tx r))
 | nam {z:NI} {a:Addr}:H a=some (.tup [.str (tx z),.non])->AtN H (.nam z) (.ref a)
 | node {z:NI} {ts:List Nd} {a q:Addr} {vs:Na}:H a=some (.tup [.str (tx z),.ref q])->H q=some (.lst vs)->vs.length=ts.length->(∀(i:Nat)(x:Nd)(v:V),ts[i]?=some x->vs[i]?=some v->AtN H x v)->AtN H (.node z ts) (.ref a)
theorem AtN.mono(s:∀ b o,H b=some o->H' b=some o){x:Nd}{v:V}(h:AtN H x v):AtN H' x v:=by
 induction h with
 | num=>exact .num
 | run=>exact .run
 | nam h=>exact .nam (s _ _ h)
 | node h1 h2 a _ c=>exact .node (s _ _ h1) (s _ _ h2) a c
def nw (H H':Hp):Hp:=λb=>match H b with
 | none=>H' b
 | some _=>none
theorem JK{b:Addr}(h:H b=none):nw H H' b=H' b:=by unfold nw;rw[h]
theorem Nh{b:Addr}(h:nw H H' b=some o):H b=none/\H' b=some o:=by
 unfold nw at h;cases e:H b with
 | none=>rw[e] at h;exact⟨U,h⟩
 | some o'=>simp_all
theorem AaM(a:A r≠none)(s:Cq r H2 H3):∀ b o,nw A H2 b=some o->nw A H3 b=some o:=λb o h=>by
 have g:=Nh h;rw[JK g.1];exact s b o (λz=>a (by rw[<- z];exact g.1)) g.2
theorem AgO{B:Hp}(h:∀ b,B b=none->A b=none):∀ b o,nw B H3 b=some o->nw A H3 b=some o:=λb o g=>by
 have g:=Nh g;rw[JK (h b g.1)];exact g.2
theorem Ank(h:A q≠none):nw A (upd H q o)=nw A H:=by
 funext b
 unfold nw;cases e:A b with
 | none =>
  exact Ai λz=>h (by rw[<- z];exact e)
 | some o'=>rfl
def Ade (H:Hp)(ts:List Nd)(vs:Na):Prop:=vs.length=ts.length/\∀(i:Nat)(x:Nd)(v:V),ts[i]?=some x->vs[i]?=some v->AtN H x v
theorem Ade.snoc{x:Nd}{v:V}(h:Ade H ts vs)(a:AtN H x v):Ade H (ts++[x]) (vs++[v]):=by
 refine⟨by rw[AvL,AvL,h.1];rfl,λi y w g1 g2=>?_⟩;by_cases c:i<ts.length
 ·rw[Awg c] at g1;rw[Awg (by rw[h.1];exact c)] at g2;exact h.2 i y w g1 g2
 ·have e:i=ts.length:=by
   have:= (zC.mp g1).1;rw[AvL,Awz] at this;lia
  subst e;rw[Awi (AvN _),AwJ] at g1;rw[Awi (by rw[h.1];exact AvN _),h.1,AwJ] at g2;cases g1;cases g2;exact a
theorem Ade.mono(s:∀ b o,H b=some o->H' b=some o)(h:Ade H ts vs):Ade H' ts vs:=⟨h.1,λi x v g1 g2=>(h.2 i x v g1 g2).mono s⟩
theorem args_nil{sub:NI->Option (Nd × NI)}{b:Bool}:Pat.args sub b [] l=some ([],l):=AE
def Ail (sub:NI->Option (Nd × NI))(done:List Nd)(ks l:NI):Option (List Nd × NI):=(Pat.args sub done.isEmpty ks l).map λp=>(done++p.1,p.2)
theorem Anl{sub:NI->Option (Nd × NI)}:Ail sub done [] l=some (done,l):=by unfold Ail;rw[args_nil];simp
inductive XM (t:Adr)(d:Nat)(vs:Na)(H:Hp)(Q:VK)(E:XK):Prop
|mk(r:_)(dx:_)(u:_)(p:_)(dep:_)(_:vs=[.ref r,.int ((dep:Nat):Int)])(_:dep+d=13)(_:Rd t H r dx u p)(_:(∀ x l p' v H',Pat.node d (u.drop p)=some (x,l)->p<=p'->u.drop p'=l->Cq r H H'->Rd t H' r dx u p'->AtN (nw H H') x v->Q v H'))(_:(Pat.node d (u.drop p)=none->∀ H',Cq r H H'->E (.ref t.Br) none H'))
inductive Acj (t:Adr)(d:Nat)(vs:Na)(H:Hp)(Q:VK)(E:XK):Prop
|mk(r:_)(dx:_)(u:_)(p:_)(dep:_)(z:_)(_:vs=[.ref r,.str (tx z),.int ((dep:Nat):Int)])(_:dep+d=13)(_:Rd t H r dx u p)(_:(∀ ts l p' q vs' H',Pat.things (Pat.node d) z (u.drop p)=some (ts,l)->p<=p'->u.drop p'=l->Cq r H H'->Rd t H' r dx u p'->H q=none->H' q=some (.lst vs')->Ade (nw H H') ts vs'->Q (.ref q) H'))(_:(Pat.things (Pat.node d) z (u.drop p)=none->∀ H',Cq r H H'->E (.ref t.Br) none H'))
theorem AgP(z:NI):lk [("twill", "nn"),("satin", "nn"),("beside", "pp"),("above", "pp"),("mirror", "p"),("upend", "p"),("back", "p"),("quarter", "p"),("tile", "pnn"),("blocks", "ppp"),("lay", "pp")] (tx z)=(Pat.wants z).map tx:=by
 by_cases h:z∈Il.tail
 ·simp only [Il,Axf,Awb,Awc,or_false] at h;rcases h with rfl | rfl | rfl | rfl | rfl | rfl | rfl | rfl | rfl | rfl | rfl <;> decide +kernel
 ·have hn:lk [("twill", "nn"),("satin", "nn"),("beside", "pp"),("above", "pp"),("mirror", "p"),("upend", "p"),("back", "p"),("quarter", "p"),("tile", "pnn"),("blocks", "ppp"),("lay", "pp")] (tx z)=none:=by
   unfold lk;rw[Option.map_eq_none_iff,List.find?_eq_none];intro q p;rw[decide_eq_true_eq];intro e;have l:tx z∈Il.tail.map tx:=by
    rw[<- e];have:∀ q∈([("twill", "nn"),("satin", "nn"),("beside", "pp"),("above", "pp"),("mirror", "p"),("upend", "p"),("back", "p"),("quarter", "p"),("tile", "pnn"),("blocks", "ppp"),("lay", "pp")]:List (Str × Str)),q.1∈Il.tail.map tx:=As
    exact this q p
   obtain⟨y,r,i⟩:=yF.mp l;exact h (IK i▸r)
  rw[hn];simp only [Il,Axf,Awb,Awc,or_false,not_or] at h;obtain⟨h2,k,o,d,j,n,f,m,c,b,a⟩:=h;unfold Pat.wants;rw[if_neg (λz=>z.elim h2 k),if_neg (λz=>z.elim o λz=>z.elim d a),if_neg (λz=>z.elim j λz=>z.elim n λz=>z.elim f m),if_neg c,if_neg b];rfl
theorem Afk:(("rows" : Str))=tx Pat.FQ:=As
theorem AkM{ks:NI}(h:Pat.wants z=some ks):ks.length<=3:=by
 unfold Pat.wants at h;split at h
 ·cases h;decide
 ·split at h
  ·cases h;decide
  ·split at h
   ·cases h;decide
   ·split at h
    ·cases h;decide
    ·split at h
     ·cases h;decide
     ·cases h
theorem Ub(_:Rd t H r dx u p)(a:Nat):Cq r H (Hc t H r dx u a):=Cq.upd
def thing(sub:NI->Option (Nd × NI))(c:Nat)(l:NI):Option (Nd × NI):=if c=112 then sub l else (Pat.num l).map λp=>(Nd.num p.1,p.2)
theorem AkN{sub:NI->Option (Nd × NI)}{ks:NI}:Ail sub done (c::ks) l=match (if done.isEmpty=true then some l else Pat.comma l) with
  | none=>none
  | some l1=>match thing sub c l1 with
   | none=>none
   | some (a,l2)=>Ail sub (done++[a]) ks l2:=by
 unfold Ail thing
 conv=>lhs;unfold Pat.args
 cases (if done.isEmpty=true then some l else Pat.comma l) with
 | none=>rfl
 | some l1 =>
  try dsimp only
  cases (if c=112 then sub l1 else (Pat.num l1).map λp=>(Nd.num p.1,p.2)) with
  | none=>rfl
  | some q =>
   obtain⟨a,l2⟩:=q
   try dsimp only
   rw[show(done++[a]).isEmpty=false by cases done <;> rfl,Option.map_map]
   congr 1
   funext p
   simp
theorem Aa3(hk:4<=k)(T:Txt K mg t)(ab:Bh P w K mg base (CX1 P w) k t.JC t.JD ["reader", "depth"] (XM t d)):Bh P w K mg base (CX1 P w) (k+1) t.Jy t.Jz ["reader", "word", "depth"] (Acj t d):=by
 refine T.Gy.F.okX Li ?_;rintro _ _ _ _ H _ Q E hr ⟨r,dx,u,p,a8,z,rfl,a9,hR,k1,k2⟩;refine⟨_,(Ac (Bm (Ak Dd (pv 1) Af (Ar _))
   (Ad (Ay (Al ((Adc T).mono At) hr U T.TQ.m T.TQ.F.kp T.TQ.b .nil Cv (Aa (pv 0) Ab))))
   Ao)
  (Ac (Bm (AqQ (Agh T.AgM (pv 1) (BX (v:=.ref t.Xc) U T.AgL U)))
   (Ad (Bx CQ U (λ_ _ z=>z) F.excBase_ValueError Cy F.excBase_ValueError T.BV.q U T.BW (Aa Af Ab)))
   Ao)
  (Ac (Bb (i:=3) Li.nd U (Or.inl U) (Cu Ab))
  (Ac (Wf λhfr=>(Ep (Ae3 CQ hfr) U (V1 (Akq T.AgM (BX (v:=.ref t.Xc) U T.AgL U) (pv 1) (λ_ _=>rfl))) (BJ (i:=4) Li.nd U (Or.inl U))
   (Ac (Bm (Akh (K:=K) (pv 3) (λ_=>rfl))
    (Ad (Bg (Al ((Aci T).mono At) hr U T.Qi.m T.Qi.F.kp T.Qi.b .nil Cv (Aa (pv 0) Ab))))
    Ao)
   (Ad (Bg (BR (K:=K) zM zL zQ DY (pv 3) (Aa (Rq (Ak Dd (pv 4) Af (Ar _)) (Al (ab.mono At) hr U T.Hs.m T.Hs.F.kp T.Hs.b .nil Cv (Aa (pv 0) (Aa (pv 2) Ab))) (Al ((Qn T).mono At) hr U T.Ga.m T.Ga.F.kp T.Ga.b .nil Cv (Aa (pv 0) Ab))) Ab)))))))
  (Ad (Ay (pv 3))))))),?_⟩;refine⟨_,U,U,_,U,?_⟩;unfold Pat.things at k1 k2;by_cases c:z=Pat.FQ
 ·refine Gq (by rw[c,Afk]) ?_;rw[if_pos c] at k1 k2;refine⟨_,U,r,dx,u,p,U,hR,λzs l p' q hz hp ak hd Y h=>?_,λhz H' sb=>k2 (by rw[hz];rfl) H' sb⟩;have hn:nw H (upd (Hc t H r dx u p') q (.lst (vS zs)))=nw H (upd (Hc t H r dx u p') q (.lst (vS zs))):=rfl;refine k1 (zs.map Nd.run) l p' q (vS zs) _ (by rw[hz];rfl) hp hd (λb o C e=>by rw[Ai (Bc e Y)];show(upd H r _) b=_;rw[Ai C];exact e) ⟨by rw[Ai h.symm];exact Ae,ak,hR.2.2⟩ Y Ae ⟨by rw[Be,AvK],λi x v g1 g2=>?_⟩;rw[AvS] at g1;unfold vS at g2;rw[AvS] at g2;cases e:zs[i]? with
  | none=>rw[e] at g1;cases g1
  | some y =>
   rw[e] at g1 g2;cases g1;cases g2;exact .run
 ·refine Ea (λy=>c ?_) ?_
  ·rw[Afk] at y;injection y with y;exact IK y
  rw[if_neg c] at k1 k2;refine⟨_,U,tx z,U,U,_,U,?_⟩;rw[AgP];cases ew:Pat.wants z with
  | none =>
   rw[ew] at k2;refine Ms ?_;exact⟨Ap,k2 U _ (λb o _ e=>e)⟩
  | some ks =>
   rw[ew] at k1 k2;dsimp only at k1 k2;refine JS ?_;refine⟨Ap,λq Y=>?_⟩;have h:q≠r:=λz=>by rw[z,hR.1] at Y;cases Y
   have an:lk [("twill", "nn"),("satin", "nn"),("beside", "pp"),("above", "pp"),("mirror", "p"),("upend", "p"),("back", "p"),("quarter", "p"),("tile", "pnn"),("blocks", "ppp"),("lay", "pp")] (tx z)=some (tx ks):=by rw[AgP,ew];rfl
   have a5:(upd H q (.lst [])) q≠none:=by rw[Ae];exact λz=>nomatch z
   have Z:(upd H q (.lst [])) r≠none:=by rw[Ai h.symm,hR.1];exact λz=>nomatch z
   have aa:∀ b o,H b=some o->(upd H q (.lst [])) b=some o:=λb o e=>by rw[Ai (Bc e Y)];exact e
   refine⟨_,U,tx z,_,U,U,an,_,U,?_⟩;have ap:=AkM ew;have ae:(tx ks).cps.size=ks.length:=Aw ks;refine Aew (z:=tx ks) (λi σ H2=>∃ v done vs p2,σ=[some (.ref r),some (.str (tx z)),some (.int (a8:Int)),some (.ref q),v]/\Cq r H H2/\(∀ b,H2 b=none->(upd H q (.lst [])) b=none)/\Rd t H2 r dx u p2/\H2 q=some (.lst vs)/\Ade (nw (upd H q (.lst [])) H2) done vs/\done.length=i/\p<=p2/\Pat.args (Pat.node d) true ks (u.drop p)=Ail (Pat.node d) done (ks.drop i) (u.drop p2)) ⟨none,[],[],p,U,(λb o _ e=>aa b o e),(λb e=>e),⟨by rw[Ai h.symm];exact hR.1,hR.2⟩,Ae,⟨U,λi x v g=>by simp at g⟩,U,AvN _,?_⟩ ?_ ?_
   ·unfold Ail;simp
   ·rintro i c' σ H2 hc ⟨v,done,vs,p2,rfl,L,a4,D,M,S,a0,W,R⟩;have a6:ks[i]?=some c':=by
     rw[<- Fw ks,zO];exact hc
    have al:i<ks.length:=(zC.mp a6).1;have ag:ks.drop i=c'::ks.drop (i+1):=by
     rw[AwP al,(zC.mp a6).2]
    rw[ag,AkN] at R;have a7:=S.1;refine⟨_,U,!vs.isEmpty,.inl ⟨vs,SqL.of M,U⟩,?_⟩;by_cases ce:done=[]
    case' pos =>
     have ve:vs=[]:=z9.mp (by rw[a7,ce];rfl);rw[if_pos (by rw[ce];rfl)] at R;rw[show(!vs.isEmpty)=false by rw[ve];rfl];refine JS ?_;obtain⟨N,aj⟩:∃ N,N=p2:=⟨_,U⟩;rw[<- aj] at D W R;have G:=D;have B:=L;have O:=a4;have J:=M;have X:=S;have f:=R;have ah:=W
    case' neg =>
     have ve:vs.isEmpty=false:=by
      cases vs with
      | nil=>exact absurd (z9.mp a7.symm) ce
      | cons _ _=>rfl
     rw[if_neg (by cases done with | nil=>exact absurd rfl ce | cons _ _=>exact λz=>nomatch z)] at R;rw[ve];refine Ms ?_;refine⟨_,U,r,dx,u,p2,U,D,λl N hz hp ao hd=>?_,λhz H' sb=>k2 (by rw[R,hz]) H' (L.trans sb)⟩;have G:=Td D ao;have a2:Cq r H2 (Hc t H2 r dx u N):=Cq.upd;have B:=L.trans a2;have O:∀ b,Hc t H2 r dx u N b=none->(upd H q (.lst [])) b=none:=λb e=>a4 b (by
      have nb:b≠r:=λz=>by rw[z,show Hc t H2 r dx u N r=some _ from Ae] at e;cases e
      rw[show Hc t H2 r dx u N b=H2 b from Ai nb] at e;exact e)
     have J:=a2 _ _ h M;have X:=S.mono (AaM Z a2);rw[hz,<- hd] at R;have f:=R;have ah:p<=N:=Awe W hp;generalize Hc t H2 r dx u N=H3 at G B O J X ⊢
    all_goals
     have I:vs.length<sizeLine:=Awd (show vs.length<1000 by omega) Ap;refine⟨_,U,.inl ⟨U,_,SqL.of J⟩,_,U,U,_,U,?_⟩;unfold thing at f;dsimp only at f;by_cases cp:c'=112
     ·rw[if_pos cp] at f;refine Gq (by rw[cp];decide +kernel) ?_;refine⟨_,U,_,U,r,dx,u,N,a8,U,a9,G,λx l p4 v4 H4 A am a3 j s ac=>?_,λA H' sb=>k2 (by rw[f,A]) H' (B.trans sb)⟩;have a1:=j _ _ h J;refine⟨_,_,_,U,U,a1,I,?_⟩;refine⟨_,done++[x],vs++[v4],p4,U,?_,?_,?_,Ae,?_,by rw[AvL,a0];rfl,At,by rw[f,A,a3]⟩
      ·intro b o C e;rw[Ai (Bc e Y)];exact j b o C (B b o C e)
      ·intro b e;have nb:b≠q:=λz=>by rw[z,Ae] at e;cases e
       rw[Ai nb] at e;refine O b (Option.eq_none_iff_forall_ne_some.mpr λo e3=>?_);by_cases C:b=r
       ·rw[C,s.1] at e;cases e
       ·rw[j b o C e3] at e;cases e
      ·exact⟨by rw[Ai h.symm];exact s.1,s.2⟩
      ·rw[Ank a5];exact(X.mono (AaM Z j)).snoc (ac.mono (AgO O))
     ·rw[if_neg cp] at f;refine Ea (λy=>cp ?_) ?_
      ·have e:(("p" : Str))=tx [112]:=As
       rw[e] at y;injection y with y;exact(List.cons.inj (IK (a:=[c']) (b:=[112]) y)).1
      refine⟨_,U,r,dx,u,N,U,G,λn l p4 A am af a3=>?_,λA H' sb=>k2 (by rw[f,A];rfl) H' (B.trans sb)⟩;have s:=Td G af;have j:=Ub G p4;have a1:=j _ _ h J;refine⟨_,_,_,U,U,a1,I,?_⟩;refine⟨_,done++[Nd.num n],vs++[.int (n:Int)],p4,U,?_,?_,?_,Ae,?_,by rw[AvL,a0];rfl,At,by rw[f,A,a3];rfl⟩
      ·intro b o C e;rw[Ai (Bc e Y)];exact j b o C (B b o C e)
      ·intro b e;have nb:b≠q:=λz=>by rw[z,Ae] at e;cases e
       rw[Ai nb] at e;refine O b (Option.eq_none_iff_forall_ne_some.mpr λo e3=>?_);by_cases C:b=r
       ·rw[C] at e;rw[s.1] at e;cases e
       ·rw[j b o C e3] at e;cases e
      ·exact⟨by rw[Ai h.symm];exact s.1,s.2⟩
      ·rw[Ank a5];exact(X.mono (AaM Z j)).snoc .num
   ·rintro σ H2 ⟨v,done,vs,p2,rfl,L,a4,D,M,S,a0,W,R⟩;rw[ae,AwZ,Anl] at R;refine⟨_,U,?_⟩;exact k1 done _ p2 q vs H2 R W U L D Y M (S.mono (AgO (λb e=>by
     by_cases eb:b=q
     ·rw[eb,Ae] at e;cases e
     ·rw[Ai eb] at e;exact e)))
theorem AgR:(("(" : Str))=tx [40]:=As
theorem AkO:((")" : Str))=tx [41]:=As
theorem AkP(d:Nat)(l:NI):Pat.node (d+1) l=match Pat.one 40 (Pat.sk (l.dropWhile Pat.letter)) with
  | none=>if Pat.isName (l.takeWhile Pat.letter)=true then some (.nam (l.takeWhile Pat.letter),Pat.sk (l.dropWhile Pat.letter)) else none
  | some l1=>match Pat.things (Pat.node d) (l.takeWhile Pat.letter) (Pat.sk l1) with
   | none=>none
   | some (ts,l2)=>match Pat.one 41 l2 with
    | none=>none
    | some a=>some (.node (l.takeWhile Pat.letter) ts,Pat.sk a):=by
 (conv=>lhs;unfold Pat.node) <;> rfl
theorem Adf(hk:2<=k)(T:Txt K mg t)(Nz:Bh P w K mg base (CX1 P w) k t.Jy t.Jz ["reader", "word", "depth"] (Acj t d)):Bh P w K mg base (CX1 P w) (k+1) t.JC t.JD ["reader", "depth"] (XM t (d+1)):=by
 refine T.Hs.F.okX GJ ?_;rintro _ _ _ _ H _ Q E I ⟨r,dx,u,p,ab,rfl,ah,h,k1,k2⟩;refine⟨_,(Ac (Bm (Ak Hr (pv 1) (BX (v:=.int 12) U T.LQ.choose_spec ⟨_,U⟩) (Ar _))
   (Ad (Bx CQ U (λ_ _ z=>z) F.excBase_ValueError Cy F.excBase_ValueError T.BV.q U T.BW (Aa Af Ab)))
   Ao)
  (Ac (Bb (i:=2) GJ.nd U (Or.inl U) (Ds (pv 0) T.Bl.c T.Av.m ((By T).mono At) I T.Av.b .nil Aq (Aa (BX (v:=.str "abcdefghijklmnopqrstuvwxyz") U T.YK.choose_spec ⟨_,U⟩) Ab)))
  (Ac (Bg (Ds (pv 0) T.Bl.c T.Av.m ((By T).mono At) I T.Av.b .nil Aq (Aa Af Ab)))
  (Ac (Bm (Hu (Fl (Ds (pv 0) T.Bl.c T.Bq.m ((Di T).mono At) I T.Bq.b .nil Aq (Aa Af Ab))))
   (Ac (Bm (Hu (Fl (Al ((VF T).mono At) I U T.J1.m T.J1.F.kp T.J1.b .nil Aq (Aa (pv 2) Ab))))
    (Ad (Bx CQ U (λ_ _ z=>z) F.excBase_ValueError Cy F.excBase_ValueError T.BV.q U T.BW (Aa Af Ab)))
    Ao)
   (Ad (Ay (CZ (Aa (pv 2) (Aa Rp Ab))))))
   Ao)
  (Ac (Bg (Ds (pv 0) T.Bl.c T.Av.m ((By T).mono At) I T.Av.b .nil Aq (Aa Af Ab)))
  (Ac (Bb (i:=3) GJ.nd U (Or.inl U) (Al (Nz.mono Au) I U T.Gy.m T.Gy.F.kp T.Gy.b .nil Cv (Aa (pv 0) (Aa (pv 2) (Aa (Aj Ex (pv 1) Ah) Ab)))))
  (Ac (Bm (Hu (Fl (Ds (pv 0) T.Bl.c T.Bq.m ((Di T).mono At) I T.Bq.b .nil Aq (Aa Af Ab))))
   (Ad (Bx CQ U (λ_ _ z=>z) F.excBase_ValueError Cy F.excBase_ValueError T.BV.q U T.BW (Aa Af Ab)))
   Ao)
  (Ac (Bg (Ds (pv 0) T.Bl.c T.Av.m ((By T).mono At) I T.Av.b .nil Aq (Aa Af Ab)))
  (Ad (Ay (CZ (Aa (pv 2) (Aa (pv 3) Ab))))))))))))),?_⟩;rw[AkP] at k1 k2;refine⟨_,U,_,_,U,U,_,U,?_⟩;refine Ea Au ?_;have b1:=behind Pat.letter h.2.1;obtain⟨p1,e1⟩:∃ p1,p1=p+((u.drop p).takeWhile Pat.letter).length:=⟨_,U⟩;rw[<- e1] at b1;have b2:=behind (λc=>decide (c=32)) b1.2;obtain⟨p2,e2⟩:∃ p2,p2=p1+((u.drop p1).takeWhile λc=>decide (c=32)).length:=⟨_,U⟩;rw[<- e2] at b2;have d2:u.drop p2=Pat.sk ((u.drop p).dropWhile Pat.letter):=by rw[b2.1,b1.1];rfl
 rw[<- d2] at k1 k2;have a0:=Td h b1.2;have M:=Td h b2.2;have hz:((u.drop p).takeWhile Pat.letter).length<=1000000:=by have:= h.2.2;lia
 refine⟨_,U,r,dx,rf u p,U,h.1,(DP u p).2.2.2,r,dx,u,p,ApE,AE,h,Ap,?_⟩;rw[Mp Anj,<- e1];refine⟨_,U,r,dx,rf u _,U,a0.1,(DP u _).2.2.2,r,dx,u,_,[32],AE,a0,Ap,?_⟩;rw[Mp Aah,Ez,<- e2];generalize af:(u.drop p).takeWhile Pat.letter=z at k1 k2 hz ⊢;refine⟨_,U,r,dx,rf u _,U,M.1,(DP u _).2.1,r,dx,u,_,[40],AE,M,Ap,λYW=>?_,λac=>?_⟩
 ·obtain⟨l1,el⟩:=Te.mp YW;have d:=XF el;rw[el] at k1 k2;dsimp only at k1 k2;have b3:=behind (λc=>decide (c=32)) d.2;obtain⟨A,e3⟩:∃ A,A=p2+[40].length+((u.drop (p2+[40].length)).takeWhile λc=>decide (c=32)).length:=⟨_,U⟩;rw[<- e3] at b3;have d3:u.drop A=Pat.sk l1:=by rw[b3.1,d.1];rfl
  rw[<- d3] at k1 k2;have a2:=Td h d.2;have B:=Td h b3.2;rw[Ez];refine⟨_,U,?_⟩;refine⟨_,U,r,dx,rf u _,U,a2.1,(DP u _).2.2.2,r,dx,u,_,[32],AE,a2,Ap,?_⟩;rw[Mp Aah,Ez,<- e3];refine⟨_,U,_,U,_,U,_,_,U,U,r,dx,u,A,ab+1,z,U,Au,B,λts l p4 q a5 H4 O ag D ae n f a6 L=>?_,λO H' sb=>k2 (by rw[O]) H' ((Ub h A).trans sb)⟩;rw[O] at k1 k2;dsimp only at k1 k2;have W:=(Ub h A).trans ae;refine⟨_,U,r,dx,rf u p4,U,n.1,(DP u _).2.1,r,dx,u,p4,[41],AE,n,Ap,λa7=>?_,λa1=>?_⟩
  ·obtain⟨l5,S⟩:=Te.mp a7;have d5:=XF S;rw[D] at S;rw[S] at k1;have b6:=behind (λc=>decide (c=32)) d5.2;obtain⟨J,e6⟩:∃ J,J=p4+[41].length+((u.drop (p4+[41].length)).takeWhile λc=>decide (c=32)).length:=⟨_,U⟩;rw[<- e6] at b6;have a4:=Td n d5.2;refine⟨_,U,?_⟩;refine⟨_,U,r,dx,rf u _,U,a4.1,(DP u _).2.2.2,r,dx,u,_,[32],AE,a4,Ap,?_⟩;rw[Mp Aah,Ez,<- e6];have s6:=Ub n J;have G:=Td n b6.2;have f:Hc t H r dx u A q=none:=f;have L:Ade (nw (Hc t H r dx u A) H4) ts a5:=L;have Y:q≠r:=λy=>by rw[y,B.1] at f;cases f
   have aa:H q=none:=by rw[show Hc t H r dx u A q=H q from Ai Y] at f;exact f
   have N:Ade (nw H (Hc t H4 r dx u J)) ts a5:=(L.mono (AaM (by rw[B.1];exact λy=>nomatch y) s6)).mono (AgO λb e=>by
    by_cases eb:b=r
    ·rw[eb,B.1] at e;cases e
    ·rw[show Hc t H r dx u A b=H b from Ai eb] at e;exact e)
   have C:=W.trans s6;have a3:=s6 _ _ Y a6;have a9:upd H4 r (.ins t.Bd dx (rf u J))=Hc t H4 r dx u J:=rfl;rw[a9];generalize Hc t H4 r dx u J=H6 at G N C a3 ⊢;refine⟨_,U,_,U,AH,λa j=>?_⟩;have s:a≠r:=λy=>by rw[y,G.1] at j;cases j
   have a8:a≠q:=λy=>AB
   have R:H a=none:=by
    cases e:H a with
    | none=>rfl
    | some o=>rw[C a o s e] at j;cases j
   refine k1 (.node z ts) _ J (.ref a) _ U Au (by rw[b6.1,d5.1];rfl) (λb o Z e=>by rw[Ai (Bc (C b o Z e) j)];exact C b o Z e) ⟨by rw[Ai s.symm];exact G.1,G.2⟩ (.node (q:=q) ?_ ?_ N.1 (λi x v g1 g2=>(N.2 i x v g1 g2).mono λb o e=>?_))
   ·rw[JK R];exact Ae
   ·rw[JK aa,Ai a8.symm];exact a3
   ·have g:=Nh e;rw[JK g.1,Ai (Bc g.2 j)];exact g.2
  ·rw[D] at a1;have e9:=XH (by rw[D];exact a1);rw[D] at e9;rw[e9] at k2;refine⟨_,U,?_⟩;exact⟨Ap,k2 U _ W⟩
 ·rw[XH ac] at k1 k2;refine⟨_,U,?_⟩;refine⟨_,U,z,U,hz,λH1 s1=>?_⟩;refine⟨_,U,?_⟩;cases cn:Pat.isName z with
  | true =>
   rw[cn] at k1;refine⟨_,U,AH,λa j=>?_⟩;have sH:=(Ub h p2).trans λb o _ e=>s1 b o e;have X:=s1 _ _ M.1;have s:a≠r:=λy=>by rw[y,X] at j;cases j
   have R:H a=none:=by
    cases e:H a with
    | none=>rfl
    | some o=>rw[sH a o s e] at j;cases j
   refine k1 (.nam z) _ p2 (.ref a) _ U Au U (λb o Z e=>by rw[Ai (Bc (sH b o Z e) j)];exact sH b o Z e) ⟨by rw[Ai s.symm];exact X,b2.2,h.2.2⟩ (.nam ?_);rw[JK R];exact Ae
  | false =>
   rw[cn] at k2;exact⟨Ap,k2 (if_neg (λy=>nomatch y)) _ ((Ub h p2).trans λb o _ e=>s1 b o e)⟩
theorem AtE{ps:NX}:Bh P w K mg base CX k f fd ps (λ_ _ _ _=>False):=⟨λ_ _ _ _ h=>h.elim,λ_ _ _ _ _ _ _ _ _ _ _ _ _ h=>h.elim⟩
theorem Ack(hk:2<=k)(T:Txt K mg t):Bh P w K mg base (CX1 P w) (k+1) t.JC t.JD ["reader", "depth"] (XM t 0):=by
 have h:Bh P w K mg base (CX1 P w) 1 t.Jy t.Jz ["reader", "word", "depth"] _:=AtE;refine T.Hs.F.okX GJ ?_;rintro _ _ _ _ H _ Q E a ⟨r,dx,u,p,f,rfl,d,j,k1,k2⟩;refine⟨_,(Ac (Bm (Ak Hr (pv 1) (BX (v:=.int 12) U T.LQ.choose_spec ⟨_,U⟩) (Ar _))
   (Ad (Bx CQ U (λ_ _ z=>z) F.excBase_ValueError Cy F.excBase_ValueError T.BV.q U T.BW (Aa Af Ab)))
   Ao)
  (Ac (Bb (i:=2) GJ.nd U (Or.inl U) (Ds (pv 0) T.Bl.c T.Av.m ((By T).mono At) a T.Av.b .nil Aq (Aa (BX (v:=.str "abcdefghijklmnopqrstuvwxyz") U T.YK.choose_spec ⟨_,U⟩) Ab)))
  (Ac (Bg (Ds (pv 0) T.Bl.c T.Av.m ((By T).mono At) a T.Av.b .nil Aq (Aa Af Ab)))
  (Ac (Bm (Hu (Fl (Ds (pv 0) T.Bl.c T.Bq.m ((Di T).mono At) a T.Bq.b .nil Aq (Aa Af Ab))))
   (Ac (Bm (Hu (Fl (Al ((VF T).mono At) a U T.J1.m T.J1.F.kp T.J1.b .nil Aq (Aa (pv 2) Ab))))
    (Ad (Bx CQ U (λ_ _ z=>z) F.excBase_ValueError Cy F.excBase_ValueError T.BV.q U T.BW (Aa Af Ab)))
    Ao)
   (Ad (Ay (CZ (Aa (pv 2) (Aa Rp Ab))))))
   Ao)
  (Ac (Bg (Ds (pv 0) T.Bl.c T.Av.m ((By T).mono At) a T.Av.b .nil Aq (Aa Af Ab)))
  (Ac (Bb (i:=3) GJ.nd U (Or.inl U) (Al (h.mono At) a U T.Gy.m T.Gy.F.kp T.Gy.b .nil Cv (Aa (pv 0) (Aa (pv 2) (Aa (Aj Ex (pv 1) Ah) Ab)))))
  (Ac (Bm (Hu (Fl (Ds (pv 0) T.Bl.c T.Bq.m ((Di T).mono At) a T.Bq.b .nil Aq (Aa Af Ab))))
   (Ad (Bx CQ U (λ_ _ z=>z) F.excBase_ValueError Cy F.excBase_ValueError T.BV.q U T.BW (Aa Af Ab)))
   Ao)
  (Ac (Bg (Ds (pv 0) T.Bl.c T.Av.m ((By T).mono At) a T.Av.b .nil Aq (Aa Af Ab)))
  (Ad (Ay (CZ (Aa (pv 2) (Aa (pv 3) Ab))))))))))))),?_⟩;refine⟨_,U,_,_,U,U,_,U,?_⟩;refine Gq Au ?_;exact⟨Ap,k2 U _ (λb o _ e=>e)⟩
theorem AdV(T:Txt K mg t):∀ d,Bh P w K mg base (CX1 P w) (2*d+5) t.JC t.JD ["reader", "depth"] (XM t d)
 | 0=>Ack Ap T
 | d+1=>Adf (k:=2*d+6) Au T (Aa3 Au T (AdV T d))
inductive AkQ (t:Adr)(vs:Na)(H:Hp)(Q:VK)(E:XK):Prop
|mk(u:_)(_:vs=[.str (tx u)])(_:u.length<=1000000)(_:(∀ x v H',Pat.whole u=some x->Ba H H'->AtN (nw H H') x v->Q v H'))(_:(Pat.whole u=none->∀ H',Ba H H'->E (.ref t.Br) none H'))
theorem Acl(T:Txt K mg t):Bh P w K mg base (CX1 P w) 30 t.Xm t.Xn ["text"] (AkQ t):=by
 refine T.Qh.F.okX Nr ?_;rintro _ _ _ _ H _ Q E s ⟨u,rfl,M,k1,k2⟩;refine⟨_,(Ac (Bb (i:=1) Nr.nd U (Or.inl U) (Fb T.Bl.m ((Mm T).mono Ap) s U T.AgH T.DX.b .nil Aq (Aa (pv 0) Ab)))
  (Ac (Bg (Ds (pv 1) T.Bl.c T.Av.m ((By T).mono Ap) s T.Av.b .nil Aq (Aa Af Ab)))
  (Ac (Bb (i:=2) Nr.nd U (Or.inl U) (Al ((AdV T 12).mono Ap) s U T.Hs.m T.Hs.F.kp T.Hs.b .nil Cv (Aa (pv 1) (Aa Ah Ab))))
  (Ac (Bm (Hu (Fl (Rv (pv 1) T.Bl.c T.Ey.m ((Ko T).mono Ap) s T.Ey.b .nil Aq)))
   (Ad (Bx CQ U (λ_ _ z=>z) F.excBase_ValueError Cy F.excBase_ValueError T.BV.q U T.BW (Aa Af Ab)))
   Ao)
  (Ad (Ay (pv 2))))))),?_⟩;refine⟨_,U,λr dx j k S=>⟨r,dx,u,U,Ae,?_⟩⟩;rw[Ez];refine⟨U,?_⟩;have h:Rd t (Hc t (upd H dx (.own r)) r dx u 0) r dx u 0:=⟨Ae,AvV _,M⟩;have L:=behind (u:=u) (λc=>decide (c=32)) (AvV _);refine⟨_,U,r,dx,rf u 0,U,h.1,(DP u _).2.2.2,r,dx,u,0,[32],AE,h,Ap,?_⟩;rw[Mp Aah,Ez];obtain⟨p1,p⟩:∃ p1,p1=0+((u.drop 0).takeWhile λc=>decide (c=32)).length:=⟨_,U⟩;rw[<- p] at L ⊢;have A:Rd t (Hc t (upd H dx (.own r)) r dx u p1) r dx u p1:=⟨Ae,L.2,M⟩;have R:u.drop p1=Pat.sk u:=L.1;unfold Pat.whole at k1 k2;rw[<- R] at k1 k2;have I:∀ H',Cq r (Hc t (upd H dx (.own r)) r dx u p1) H'->Ba H H':=λH' D b o e=>by
  have n1:=Bc e j;refine D b o n1 ?_;show(upd (upd H dx _) r _) b=_;rw[Ai n1,Ai (Bc e k)];exact e
 refine⟨_,U,r,dx,u,p1,1,U,U,A,λx l B v J d O f n a G=>?_,λd H' D=>k2 (by rw[d]) H' (I H' D)⟩;rw[d] at k1 k2;refine⟨_,U,r,dx,rf u B,U,a.1,(DP u _).1,r,dx,u,B,U,a,?_⟩;refine⟨_,U,?_⟩;by_cases c:B=u.length
 ·rw[zN c];have C:l=[]:=by rw[<- f,c,AwZ]
  refine⟨_,U,k1 x v J (by rw[C]) (I J n) (G.mono (AgO λb e=>?_))⟩;by_cases p:b=r
  ·rw[p];exact j
  ·by_cases N:b=dx
   ·rw[N];exact k
   ·have e:(upd (upd H dx (.own r)) r (.ins t.Bd dx (rf u p1))) b=none:=e;rw[Ai p,Ai N] at e;exact e
 ·rw[zJ c];have C:l≠[]:=λy=>by
   rw[y] at f;have:= congrArg List.length f;rw[Awk] at this;have:= a.2.1;grind
  refine⟨Ap,k2 ?_ _ (I J n)⟩;cases l with
  | nil=>exact absurd U C
  | cons _ _=>rfl
end
theorem AgS(z:NI):∀(ys:NN)(acc:Array Nat),(ys.map tx).foldl (λacc p=>acc++(tx z).cps++p.cps) acc=acc++((ys.map λy=>z++y).flatten).toArray
 | [],acc=>AA
 | y::ys,acc=>by
  rw[AvU,Axe,AgS z ys];simp[tx]
theorem Acm(z y:NI)(ys:NN):Txt.join (tx z) ((y::ys).map tx)=tx (y++(ys.map λy=>z++y).flatten):=by show Str.mk _=_;simp only [AvU,List.drop_one,Axf,List.headD_cons];rw[AgS];simp[tx]
section
variable {K:NF}{base:Heap}{t:Adr}
def pf (l:Addr)(z:Str):List (Str × V):=[("texts", .ref l),("writing", .str z)]
inductive Ann (K:NF)(vs:Na)(H:Hp)(Q:VK)(z3:XK):Prop
|mk(C:Addr)(r:Addr)(dx:Addr)(a:Addr)(ts:NN)(z:Str)(_:vs=[.ref r,.ref a,.str z])(_:H r=some (.ins C dx []))(_:Cls K C)(_:Ci K C "texts") (_:Ci K C "writing") (_:SqL K H a (vS ts))(_:∀ l,H l=none->Q .non (upd (upd H l (.lst (vS ts))) r (.ins C dx (pf l z))))
theorem Ck(T:Txt K mg t):Bh P w K mg base CX0 1 t.GX t.Ox ["self", "texts", "writing"] (Ann K):=by
 refine T.Cg.F.ok WQ ?_;rintro _ _ _ _ H _ Q E i ⟨C,r,dx,a,ts,z,rfl,h1,hc,e,d,h,k⟩;refine⟨_,(Ac (HH (K:=K) (pv 0) (Cd (Hf) U T.LK Jt (Aa (pv 1) Ab)))
  (Ad (HH (K:=K) (pv 0) (pv 2)))),?_⟩;refine⟨_,U,_,_,U,.inl h,λl f=>?_⟩;have b:=Bc h1 f;have c:(upd H l (.lst (vS ts))) r=some (.ins C dx []):=by rw[Ai b];exact h1
 refine⟨_,U,_,_,_,_,U,c,hc,e,Ap,?_⟩;refine⟨_,U,_,U,_,_,_,_,U,Ae,hc,d,AF,?_⟩;rw[Ez];exact k l f
def pcs (t:Adr):NU:=[t.Gk,t.HW,t.Gm,t.Fy,t.GQ,t.Fz,t.GR,t.Jd,t.Ew,t.HX,t.Oq]
structure PcC (K:NF)(t:Adr)(C:Addr):Prop where
 c:Cls K C
 n1:Ci K C "texts"
 n2:Ci K C "writing"
 wide:Meth K C "wide" t.Cz
 high:Meth K C "high" t.CG
 AtF:Meth K C "cloth" t.Cp
 told:Meth K C "told" t.CJ
theorem pcC(T:Txt K mg t)(h:C∈pcs t):PcC K t C:=by
 simp only [pcs,Awb,Awc,or_false] at h;rcases h with rfl | rfl | rfl | rfl | rfl | rfl | rfl | rfl | rfl | rfl | rfl
 ·exact⟨T.AeU.c,T.S9,T.Pa,T.AcM,T.AcN,T.AbT,T.AcO⟩
 ·exact⟨T.Aih.c,T.Vp,T.QT,T.AeV,T.AeW,T.AcP,T.AeX⟩
 ·exact⟨T.AeY.c,T.SJ,T.Pb,T.AcQ,T.AcR,T.AbU,T.AcS⟩
 ·exact⟨T.AbV.c,T.QV,T.MP,T.AbW,T.AbX,T.Aay,T.AbY⟩
 ·exact⟨T.AeZ.c,T.SM,T.Pg,T.AcT,T.AcU,T.AbZ,T.AcV⟩
 ·exact⟨T.Aca.c,T.QW,T.MT,T.Acb,T.Acd,T.Aaz,T.Ace⟩
 ·exact⟨T.Afa.c,T.SN,T.Ph,T.AcW,T.AcX,T.Acf,T.AcY⟩
 ·exact⟨T.Aii.c,T.Vq,T.QX,T.Afb,T.Afc,T.AcZ,T.Afd⟩
 ·exact⟨T.YS.c,T.Pj,T.Mi,T.Aa0,T.Aa1,T.YT,T.Aa2⟩
 ·exact⟨T.Aij.c,T.Vr,T.QZ,T.Afe,T.Afg,T.Ada,T.Afh⟩
 ·exact⟨T.AmV.c,T.X8,T.SQ,T.AgI,T.AgJ,T.Afi,T.AgK⟩
def Pc (t:Adr)(H:Hp)(p:Addr)(x:NN)(z:NI):Prop:=∃ C dx l,C∈pcs t/\H p=some (.ins C dx (pf l (tx z)))/\H l=some (.lst (vS x))
theorem Pc.mono{p:Addr}(h:Pc t H p x z)(s:∀ b o,H b=some o->H' b=some o):Pc t H' p x z:=by obtain⟨C,dx,l,a,h1,h2⟩:=h;exact⟨C,dx,l,a,s _ _ h1,s _ _ h2⟩
theorem Acn(l:Addr)(z:Str):(pf l z).lookup ("texts" : Str)=some (V.ref l):=rfl
theorem Aim(l:Addr)(z:Str):(pf l z).lookup ("writing" : Str)=some (V.str z):=rfl
theorem AaN(l:Addr)(z:Str):(pf l z).lookup ("wide" : Str)=none/\(pf l z).lookup ("high" : Str)=none/\(pf l z).lookup ("sign" : Str)=none/\(pf l z).lookup ("cloth" : Str)=none/\(pf l z).lookup ("told" : Str)=none:=⟨U,U,U,U,U⟩
theorem Aai{cl:NN}{x:NI}(h:cl[i]?=some x):atI (vS cl) (i:Int)=some (.str (tx x)):=BL Au (by rw[AvZ];unfold vS;rw[AvS,h];rfl)
theorem Cl.at(C:Cl x m n)(h:i<n):∃ u,x[i]?=some u/\u.length=m:=by
 have hi:i<x.length:=by rw[C.hn];exact h
 exact⟨x[i],AvM hi,C.hm _ (Awh hi)⟩
inductive Aju (t:Adr)(vs:Na)(H:Hp)(Q:VK)(z3:XK):Prop
|mk(p:_)(x:_)(z:_)(m:_)(n:_)(_:vs=[.ref p])(_:Pc t H p x z)(_:Cl x m n)(_:Q (.int ((m:Nat):Int)) H)
theorem Ej(T:Txt K mg t):Bh P w K mg base CX0 1 t.Cz t.Xd ["self"] (Aju t):=by refine T.Eh.F.ok AcF ?_;rintro _ _ _ _ H _ Q E h ⟨p,x,z,m,n,rfl,⟨C,dx,l,f,e,d⟩,D,k⟩;have C:=pcC T f;obtain⟨u,b,a⟩:=D.at D.n1;have:= D.m40;refine⟨_,(Ad (Ay (Az BK U T.Ca Bv (Aa (Bw (Bf) (Dt (pv 0) U) Ah (λ_ _=>rfl)) Ab)))),?_⟩;refine⟨_,U,_,_,_,_,_,U,e,C.c,C.n1,Acn _ _,_,_,_,_,U,U,SqL.of d,Aai b,_,U,(by rw[Aw,a];exact big Au),?_⟩;rw[Aw,a];exact k
inductive Ajv (t:Adr)(vs:Na)(H:Hp)(Q:VK)(z3:XK):Prop
|mk(p:_)(x:_)(z:_)(m:_)(n:_)(_:vs=[.ref p])(_:Pc t H p x z)(_:Cl x m n)(_:Q (.int ((n:Nat):Int)) H)
theorem Ek(T:Txt K mg t):Bh P w K mg base CX0 1 t.CG t.Xe ["self"] (Ajv t):=by refine T.Ei.F.ok AcG ?_;rintro _ _ _ _ H _ Q E e ⟨p,x,z,m,n,rfl,⟨C,dx,l,d,b,a⟩,D,k⟩;have C:=pcC T d;refine⟨_,(Ad (Ay (Az (Ax) U T.Ca Bv (Aa (Dt (pv 0) U) Ab)))),?_⟩;refine⟨_,U,_,_,_,_,_,U,b,C.c,C.n1,Acn _ _,_,_,U,.inl (SqL.of a),?_⟩;rw[Be,D.hn];exact k
inductive AgT (t:Adr)(vs:Na)(H:Hp)(Q:VK)(z3:XK):Prop
|mk(p:_)(x:_)(z:_)(_:vs=[.ref p])(_:Pc t H p x z)(_:∀ l,H l=none->Q (.ref l) (upd H l (.lst (vS x))))
theorem CT(T:Txt K mg t):Bh P w K mg base CX0 1 t.Cp t.UT ["self"] (AgT t):=by refine T.CW.F.ok AbE ?_;rintro _ _ _ _ H _ Q E f ⟨p,x,z,rfl,⟨C,dx,l,d,b,a⟩,k⟩;have C:=pcC T d;refine⟨_,(Ad (Ay (Cd (Hf) U T.LK Jt (Aa (Dt (pv 0) U) Ab)))),?_⟩;exact⟨_,U,_,_,_,_,_,U,b,C.c,C.n1,Acn _ _,_,_,U,.inl (SqL.of a),λq e=>k q e⟩
inductive Ajw (t:Adr)(vs:Na)(H:Hp)(Q:VK)(z3:XK):Prop
|mk(p:_)(x:_)(z:_)(_:vs=[.ref p])(_:Pc t H p x z)(_:Q (.str (tx z)) H)
theorem DG(T:Txt K mg t):Bh P w K mg base CX0 1 t.CJ t.Xf ["self"] (Ajw t):=by refine T.DK.F.ok AcH ?_;rintro _ _ _ _ H _ Q E e ⟨p,x,z,rfl,⟨C,dx,l,b,a,d⟩,k⟩;have C:=pcC T b;refine⟨_,(Ad (Ay (Dt (pv 0) U))),?_⟩;exact⟨_,U,_,_,_,_,_,U,a,C.c,C.n2,Aim _ _,k⟩
inductive Ano (t:Adr)(vs:Na)(H:Hp)(Q:VK)(E:XK):Prop
|mk(m:Nat)(n:Nat)(_:vs=[.int (m:Int),.int (n:Int)])(_:(m<=40/\n<=40->Q .non H))(_:(40<m\/40<n->∀ H',Ba H H'->E (.ref t.BZ) none H'))
theorem GC(T:Txt K mg t):Bh P w K mg base (CX1 P w) 2 t.Xk t.Xl ["ends", "picks"] (Ano t):=by
 refine T.Dr.F.okX AcB ?_;rintro _ _ _ _ H _ Q E c ⟨m,n,rfl,k1,k2⟩;refine⟨_,(Ad (Bm (PW.pt (pw_or (Ak Hr (pv 0) (BX (v:=.int 40) U T.El.choose_spec ⟨_,U⟩) (Ar _)) (pw_or1 (Ak Hr (pv 1) (BX (v:=.int 40) U T.El.choose_spec ⟨_,U⟩) (Ar _)))))
   (Ad (Bx CQ U (λ_ _ z=>z) F.excBase_ValueError Cy F.excBase_ValueError T.LR.q U T.Qk (Aa Af Ab)))
   Ao)),?_⟩;refine⟨_,U,_,_,U,U,_,U,?_⟩;refine Cw (λb=>?_) (λb=>?_)
 ·exact⟨Ap,k2 (.inl Au) _ (.refl _)⟩
 ·refine⟨_,U,_,_,U,U,_,U,?_⟩;refine Cw (λa=>?_) (λa=>?_)
  ·exact⟨Ap,k2 (.inr Au) _ (.refl _)⟩
  ·exact k1 Au
theorem ArZ:∀(ys:NN),((ys.map tx).map (·.length)).sum+ys.length<=(cj ys).length+1
 | []=>AA
 | y::ys=>by
  have h:∀ ys:NN,((ys.map tx).map (·.length)).sum+ys.length=((ys.map λy=>[44]++y).flatten).length:=λys=>by
   induction ys with
   | nil=>rfl
   | cons x ys a =>
    rw[AvU,AvU,Aw7,AvU,Awl,AvL,AvL,<- a,Aw,AvQ,Awz];lia
  have:= h ys;unfold cj;rw[AvU,AvU,Aw7,AvL,Aw,AvQ,<- this];lia
theorem Ain(z:NI)(ys:NN):(wz z ys).length=z.length+(cj ys).length+2:=by unfold wz;rw[AvL,AvQ,AvL,Awz];lia
inductive Aio (K:NF)(vs:Na)(H:Hp)(Q:VK)(z3:XK):Prop
|mk(a:Addr)(ws:NI)(ys:NN)(_:vs=[.str (tx ws),.ref a])(_:SqL K H a (vS ys))(_:ys≠[])(_:(wz ws ys).length<=1000000)(_:Q (.str (tx (wz ws ys))) H)
theorem Fv(T:Txt K mg t):Bh P w K mg base CX0 1 t.AdQ t.AdR ["word", "things"] (Aio K):=by
 refine T.written.F.ok Aic ?_;rintro _ _ _ _ H _ Q E f ⟨a,ws,ys,rfl,c,b,hw,k⟩;refine⟨_,(Ad (Ay (Aj Am (Aj Am (Aj Am (pv 0) Af) (BR zI zS zV (DR (K:=K)) Af (Aa (pv 1) Ab))) Af))),?_⟩;have e:(("," : Str)).length=1:=As
 have cl:=ArZ ys;rw[Ain] at hw;refine⟨_,U,_,_,U,U,(by rw[AgR,Aw,Aw];exact big AD),U,_,U,_,_,ys.map tx,U,U,(by rw[<- Gr];exact c),?_,?_⟩
 ·grind
 ·have d:Txt.join (tx [44]) (ys.map tx)=tx (cj ys):=by
   cases ys with
   | nil=>exact absurd U b
   | cons y ys=>exact Acm [44] y ys
  rw[AgR,AkH,AkO,d,Bs];refine⟨_,_,U,U,(by rw[Aw,Aw];exact big (by simp only [AvL,AvQ,Awn];lia)),?_⟩;rw[Bs];refine⟨_,_,U,U,(by rw[Aw,Aw];exact big (by simp only [AvL,AvQ,Awn];lia)),?_⟩;rw[Bs,show(ws++[40]++cj ys)++[41]=wz ws ys by unfold wz;simp];exact k
theorem z0(i:Nat):(0+(i:Int)).toNat=i:=At
theorem AgU(K:NF)(n:String):W.kitOne K (.type n) (.type n)=some true:=if_pos (beq_self_eq_true _)
theorem AtG:(V.str ⟨#[c]⟩:V)=V.str ⟨#[d]⟩↔c=d :=
 ⟨λz=>by injection z with z;exact(List.cons.inj (IK (a:=[c]) (b:=[d]) z)).1,λz=>by rw[z]⟩
theorem e35:(V.str ⟨#[35]⟩:V)=V.str "#" := congrArg V.str As
theorem e46:(V.str ⟨#[46]⟩:V)=V.str "." := congrArg V.str As
theorem Cm(h:n<=40):n<=sizeLine:=Awe h Ap
theorem occ(h:Sg c):(!(!(Builtin.Str.occurrences "#." ⟨#[c]⟩ 0 (Str.length "#.") 1).isEmpty))=false:=by rcases h with h | h <;> subst h <;> decide +kernel
inductive Adg (vs:Na)(H:Hp)(Q:VK)(z3:XK):Prop
|mk(t:NI)(_:vs=[.str (tx t),.int (t.length:Int),.str "#."])(_:(∀ c∈t,Sg c))(_:t.length<=40)(_:Q .non H)
theorem Adh(T:Txt K mg t):Bh P w K mg base CX0 1 t.Xi t.Xj ["text", "ends", "signs"] Adg:=by
 refine T.Qg.F.ok Uu ?_;rintro _ _ _ _ H _ Q E d ⟨t,rfl,a,b,k⟩;refine⟨_,(Ac (Bm (Ak NB (Az BK U T.Ca Bv (Aa (pv 0) Ab)) (pv 1) (Ar _))
   (Ad Gn)
   Ao)
  (Ad (Ep PassesOwn.never U (V1 (pv 0)) (BJ (i:=3) Uu.nd U (Or.inl U))
   (Ad (Bm (Ak VV (pv 3) (pv 2) U)
    (Ad Gn)
    Ao))))),?_⟩;refine⟨_,U,_,U,(by rw[Aw];exact Cm b),_,U,U,_,U,?_⟩;refine Up (by rw[Aw]) ?_;refine⟨_,U,_,U,Aew (z:=tx t) (λi σ H2=>∃ v,σ=[some (.str (tx t)),some (.int (t.length:Int)),some (.str "#."),v]/\H2=H) ⟨none,U,U⟩ ?_ ?_⟩
 ·rintro i c σ H2 hc ⟨v,rfl,rfl⟩;rw[V2] at hc;refine⟨_,U,_,U,_,_,U,U,_,U,?_⟩;rw[occ (a c (AvX hc))];exact JS ⟨_,U,U⟩
 ·rintro σ H2 ⟨v,rfl,rfl⟩;exact k
inductive XN (K:NF)(vs:Na)(H:Hp)(Q:VK)(z3:XK):Prop
|mk(a:Addr)(cl:NN)(m:Nat)(n:Nat)(_:vs=[.ref a,.int 1,.str "#."])(_:SqL K H a (vS cl))(_:Cl cl m n)(_:∀ p,H p=none->Q (.ref p) (upd H p (.tup [.int (m:Int),.int (n:Int)])))
theorem XQ(T:Txt K mg t):Bh P w K mg base CX0 2 t.O5 t.O6 ["texts", "least", "signs"] (XN K):=by
 refine T.Ih.F.ok HN ?_;rintro _ _ _ _ H _ Q E s ⟨a,cl,m,n,rfl,f,C,k⟩;have c:(vS cl).length=n:=by rw[Be,C.hn]
 have j:0<cl.length:=by rw[C.hn];exact C.n1
 have h:=C.hm cl[0] (Awh j);have y:=C.n1;have z:=C.n40;have u:=C.m1;have l:=C.m40;refine⟨_,(Ac (Bm (PW.pt (pw_or (Ak GZ (Az (Ax (K:=K)) U T.Ca Bv (Aa (pv 0) Ab)) (pv 1) (Ar _)) (pw_or1 (Ak Hr (Az (Ax (K:=K)) U T.Ca Bv (Aa (pv 0) Ab)) (BX (v:=.int 40) U T.El.choose_spec ⟨_,U⟩) (Ar _)))))
   (Ad Gn)
   Ao)
  (Ac (Bb (i:=3) HN.nd U (Or.inl U) (Az BK U T.Ca Bv (Aa (Bw (Bf (K:=K)) (pv 0) Ah (λ_ _=>rfl)) Ab)))
  (Ac (Bm (PW.pt (pw_or (Ak GZ (pv 3) (pv 1) (Ar _)) (pw_or1 (Ak Hr (pv 3) (BX (v:=.int 40) U T.El.choose_spec ⟨_,U⟩) (Ar _)))))
   (Ad Gn)
   Ao)
  (Ac (Ep PassesOwn.never U (BP (K:=K) (pv 0)) (BJ (i:=4) HN.nd U (Or.inl U))
   (Ad (Bg (Al ((Adh T).mono Ap) s U T.Qg.m T.Qg.F.kp T.Qg.b .nil Aq (Aa (pv 4) (Aa (pv 3) (Aa (pv 2) Ab)))))))
  (Ad (Ay (CZ (Aa (pv 3) (Aa (Az (Ax (K:=K)) U T.Ca Bv (Aa (pv 0) Ab)) Ab))))))))),?_⟩;refine⟨_,U,_,_,U,.inl f,_,U,_,_,U,U,_,U,?_⟩;refine Ea (by rw[c];omega) ?_;refine⟨_,U,_,_,U,.inl f,_,_,U,U,_,U,?_⟩;refine Ea (by rw[c];omega) ?_;refine⟨_,U,_,_,_,_,U,U,f,BL Ap (Ae1 (AvM j)),_,U,(by rw[Aw,h];exact Cm l),?_⟩;rw[Aw,h];refine⟨_,U,_,U,_,_,U,U,_,U,?_⟩;refine Ea At ?_;refine⟨_,U,_,_,U,U,_,U,?_⟩;refine Ea At ?_;refine⟨_,U,_,U,⟨_,f⟩,Gb (K:=K) (a:=a) (xs:=vS cl) (λi σ H2=>∃ v,σ=[some (.ref a),some (.int 1),some (.str "#."),some (.int (m:Int)),v]/\H2=H) ⟨none,U,U⟩ (λi σ H2 _ ⟨_,_,e⟩=>e▸f) ?_ ?_⟩
 ·rintro i x σ H2 o ⟨v,rfl,rfl⟩;obtain⟨t,q,rfl⟩:=HF o;have d:=AvX q;refine⟨_,U,_,U,_,U,t,?_,C.sg t d,?_,⟨_,U,U⟩⟩
  ·rw[C.hm t d];rfl
  ·rw[C.hm t d];exact l
 ·rintro σ H2 ⟨v,rfl,rfl⟩;refine⟨_,U,_,U,_,_,U,.inl f,AH,λp r=>?_⟩;rw[c];exact k p r
inductive AgV (K:NF)(vs:Na)(H:Hp)(Q:VK)(z3:XK):Prop
|mk(a:Addr)(cl:NN)(m:Nat)(n:Nat)(_:vs=[.ref a])(_:SqL K H a (vS cl))(_:Cl cl m n)(_:∀ p,H p=none->Q (.ref p) (upd H p (.tup [.int (m:Int),.int (n:Int)])))
theorem Tf(T:Txt K mg t):Bh P w K mg base CX0 3 t.AbF t.AbG ["cloth"] (AgV K):=by refine T.measured.F.ok Ag8 ?_;rintro _ _ _ _ H _ Q E d ⟨a,cl,m,n,rfl,c,C,k⟩;exact⟨_,(Ad (Ay (Al ((XQ T).mono Ap) d U T.Ih.m T.Ih.F.kp T.Ih.b .nil Aq (Aa (pv 0) (Aa Ah (Aa Af Ab)))))),_,U,a,cl,m,n,U,c,C,k⟩
inductive Afl (K:NF)(vs:Na)(H:Hp)(Q:VK)(z3:XK):Prop
|mk(a:Addr)(cl:NN)(m:Nat)(n:Nat)(e:Nat)(_:vs=[.ref a,.int (e:Int)])(_:SqL K H a (vS cl))(_:Cl cl m n)(_:e<m)(_:∀ H',Ba H H'->Q (.str (tx (col cl e))) H')
theorem Afm(T:Txt K mg t):Bh P w K mg base CX0 1 t.ZC t.ZD ["cloth", "end"] (Afl K):=by
 refine T.Tw.F.ok AeL ?_;rintro _ _ _ _ H _ Q E z ⟨a,cl,m,n,e,rfl,f,C,y,k⟩;have s:=C.n40;have v:=C.m40;refine⟨_,(Ad (Ay (BR (K:=K) zI zS zV (DR (K:=K)) Af (Aa (De (CP.mk (Bj:=[1]) (Nc:=["text", "end"]) U As As (Cr (sc0:=Ag R9) U As) U rfl U As (λk j h=>match k,h with | 0,h=>by obtain rfl:=Option.some.inj h;exact⟨_,U,U,U⟩ | _+1,h=>by simp at h)) U (BP (K:=K) (pv 0)) (λ_ _ _ _ _=>.nil) (λ_ _ _ _ _=>(Bw JR (pv 0) (pv 1) (λ_ _=>rfl)))) Ab)))),?_⟩;refine⟨U,_,U,_,U,⟨_,f⟩,Dk (K:=K) (a:=a) (xs:=vS cl) (λi ys H2=>H2=H/\ys=vS ((cl.take i).map λt=>[t.getD e 0])) ⟨U,U⟩ ?_ ?_ ?_ ?_⟩
 ·rintro i ys H2 hi ⟨rfl,rfl⟩;refine⟨f,?_⟩;rw[Be,AvK,AvW];omega
 ·rw[Be,C.hn];exact Cm s
 ·rintro i x ys H2 hi q ⟨rfl,rfl⟩;obtain⟨t,l,rfl⟩:=HF q;have d:=AvX l;have c:=C.hm t d;have b:e<t.length:=At
  refine Eo.no ?_;refine⟨_,U,_,U,_,_,t[e],U,U,(by rw[Aw,c];exact Cm v),(by rw[Fw];exact Ai8 (AvM b)),?_⟩;refine CN.of hi ⟨U,?_⟩;rw[Ha,Dv,AvT,l,AvO];simp[List.getD,b]
 ·rintro ys H2 p ⟨rfl,rfl⟩ u;rw[Be,Awa];refine⟨_,_,((cl.map λt=>[t.getD e 0]).map tx),U,U,SqL.of (by rw[Ae,Gr]),?_,?_⟩
  ·have o:=Akb (λt:NI=>t.getD e 0) cl;rw[o,AvK,AvK,C.hn];have:n*(Str.length "")=0:=by rw[show Str.length "" = 0 from As];omega
   omega
  ·rw[show(("" : Str))=tx [] from As,GF];have r:(cl.map λt=>[t.getD e 0]).flatten=col cl e:=Qs (λt:NI=>t.getD e 0) cl;rw[r];exact k _ (.upd u)
inductive AkR (vs:Na)(H:Hp)(Q:VK)(z3:XK):Prop
|mk(t:NI)(_:vs=[.str (tx t)])(_:t.length<=40)(_:∀ H',Ba H H'->Q (.str (tx (t.map flip))) H')
theorem Rh(T:Txt K mg t):Bh P w K mg base CX0 1 t.Ss t.Su ["signs"] AkR:=by
 refine T.FW.F.ok Aar ?_;rintro _ _ _ _ H _ Q E n ⟨t,rfl,j,k⟩;refine⟨_,(Ad (Ay (BR (K:=K) zI zS zV (DR (K:=K)) Af (Aa (De (CP.mk (Bj:=[]) (Nc:=["sign"]) U As As (Cr (sc0:=Ag Le) U As) U rfl U As (λ_ _ h=>by simp at h)) U (V1 (pv 0)) (λ_ _ _ _ _=>.nil) (λ_ _ _ _ _=>(Rq (Ak Dd (pv 0) Af (Ar _)) Af Af))) Ab)))),?_⟩;refine⟨U,_,U,_,U,Wb (z:=tx t) (λi ys H2=>H2=H/\ys=vS ((t.take i).map λc=>[flip c])) ⟨U,U⟩ ?_ ?_ ?_ ?_⟩
 ·rintro i ys H2 hi ⟨rfl,rfl⟩;rw[Be,AvK,AvW];omega
 ·rw[Jr];exact Cm j
 ·rintro i c ys H2 hi hc ⟨rfl,rfl⟩;rw[V2] at hc;refine Eo.no ?_;have fin:∀ d,d=flip c->CN (tx t).cps.size (λi ys a=>a=H2/\ys=vS ((t.take i).map λc=>[flip c])) i (vS ((t.take i).map λc=>[flip c])++[.str (tx [d])]) H2:=λd m=>by
   subst m;refine CN.of hi ⟨U,?_⟩;rw[Dv,AvT,hc,AvO];rfl
  refine⟨_,U,U,_,U,?_⟩;refine Cw (λh=>?_) (λh=>?_)
  ·have e:c=35:=by
    rw[<- e35] at h;injection h with h;exact List.cons.inj (IK h) |>.1
   have:=fin 46 (by rw[e];rfl);rw[<- Ha,e46] at this;exact this
  ·have e:c≠35:=λz=>h (by rw[z];exact e35);have:=fin 35 (by unfold flip;rw[if_neg e]);rw[<- Ha,e35] at this;exact this
 ·rintro ys H2 p ⟨rfl,rfl⟩ l;rw[Jr,Awa];refine⟨_,_,((t.map λc=>[flip c]).map tx),U,U,SqL.of (by rw[Ae,Gr]),?_,?_⟩
  ·have b:=Akb flip t;rw[b,AvK,AvK];have:t.length*(Str.length "")=0:=by rw[show Str.length "" = 0 from As];omega
   omega
  ·rw[show(("" : Str))=tx [] from As,GF];have f:=Qs flip t;rw[f];exact k _ (.upd l)
inductive ApF (K:NF)(vs:Na)(H:Hp)(Q:VK)(z3:XK):Prop
|mk(a:Addr)(cl:NN)(m:Nat)(n:Nat)(_:vs=[.ref a])(_:SqL K H a (vS cl))(_:Cl cl m n)(_:∀ l H',Ba H H'->H l=none->H' l=some (.lst (vS (back cl)))->Q (.ref l) H')
theorem Aip(T:Txt K mg t):Bh P w K mg base CX0 4 t.AdK t.AdL ["cloth"] (ApF K):=by
 refine T.AaK.F.ok AhZ ?_;rintro _ _ _ _ H _ Q E o ⟨a,cl,m,n,rfl,j,C,k⟩;have z:=C.n40;have u:=C.m40;refine⟨_,(Ac (Bg (Al ((Tf T).mono Ap) o U T.measured.m T.measured.F.kp T.measured.b .nil Aq (Aa (pv 0) Ab)))
  (Ad (Ay (De (CP.mk (Bj:=[]) (Nc:=["text"]) U As As (Cr (sc0:=Ag Y5) U As) U rfl U As (λ_ _ h=>by simp at h)) U (BP (K:=K) (pv 0)) (λ_ _ _ _ _=>.nil) (λ_ _ _ _ _=>(Al ((Rh T).mono Ap) o U T.FW.m T.FW.F.kp T.FW.b .nil Aq (Aa (BR (K:=K) zI zS zV Abg Af (Aa (Cd Zr U T.Jm J9 (Aa (pv 0) Ab)) Ab)) Ab))))))),?_⟩;refine⟨_,U,a,cl,m,n,U,j,C,λp A=>?_⟩;have s1:Ba H (upd H p (.tup [.int (m:Int),.int (n:Int)])):=.upd A;refine⟨_,U,_,U,⟨_,s1.seq j⟩,Dk (K:=K) (a:=a) (xs:=vS cl) (λi ys H2=>Ba H H2/\ys=vS ((cl.take i).map λt=>t.reverse.map flip)) ⟨s1,U⟩ ?_ ?_ ?_ ?_⟩
 ·rintro i ys H2 hi ⟨d,rfl⟩;refine⟨d.seq j,?_⟩;rw[Be,AvK,AvW];omega
 ·rw[Be,C.hn];exact Cm z
 ·rintro i x ys H2 hi v ⟨d,rfl⟩;obtain⟨t,r,rfl⟩:=HF v;have l:=AvX r;have f:=C.hm t l;refine Eo.no ?_;refine⟨U,_,U,_,U,(by rw[Aw,f];exact Cm u),λq s=>?_⟩;refine⟨_,_,q,U,U,Ae,As,(by rw[Aw];omega),?_⟩;rw[Fw,show(("" : Str))=tx [] from As,show(t.reverse.map λc=>(⟨#[c]⟩:Str))=(t.reverse.map λc=>[c]).map tx by rw[Aw0];rfl,GF];have B:(t.reverse.map λc=>[c]).flatten=t.reverse:=(Qs id t.reverse).trans (Aw8 _);rw[B];refine⟨t.reverse,U,(by rw[Awr];omega),λH3 y=>?_⟩;refine CN.of hi ⟨((d.new s).over (d.free s)).trans y,?_⟩;rw[Dv,AvT,r,AvO];rfl
 ·rintro ys H2 p2 ⟨d,rfl⟩ e;rw[Be,Awa];exact k p2 _ (d.new e) (d.free e) Ae
inductive Aiq (K:NF)(vs:Na)(H:Hp)(Q:VK)(z3:XK):Prop
|mk(a:Addr)(cl:NN)(m:Nat)(n:Nat)(_:vs=[.ref a])(_:SqL K H a (vS cl))(_:Cl cl m n)(_:∀ l H',Ba H H'->H l=none->H' l=some (.lst (vS (Abx cl m)))->Q (.ref l) H')
theorem Adi(T:Txt K mg t):Bh P w K mg base CX0 4 t.Xg t.Xh ["cloth"] (Aiq K):=by
 refine T.Qf.F.ok Ut ?_;rintro _ _ _ _ H _ Q E f ⟨a,cl,m,n,rfl,l,C,k⟩;have u:=C.n40;have s:=C.m40;refine⟨_,(Ac (Bb (i:=1) Ut.nd U (Or.inl U) (Al ((Tf T).mono Ap) f U T.measured.m T.measured.F.kp T.measured.b .nil Aq (Aa (pv 0) Ab)))
  (Ad (Ay (De (CP.mk (Bj:=[0]) (Nc:=["end", "cloth"]) U As As (Cr (sc0:=Ag Qa) U As) U rfl U As (λk j h=>match k,h with | 0,h=>by obtain rfl:=Option.some.inj h;exact⟨_,U,U,U⟩ | _+1,h=>by simp at h)) U (Em U T.Fj (Aa (Bw (Gi (K:=K)) (pv 1) Ah (λ_ _=>rfl)) Ab)) (λ_ _ _ _ _=>.nil) (λ_ _ _ _ _=>(Al ((Rh T).mono Ap) f U T.FW.m T.FW.F.kp T.FW.b .nil Aq (Aa (Al ((Afm T).mono Ap) f U T.Tw.m T.Tw.F.kp T.Tw.b .nil Aq (Aa (pv 1) (Aa (pv 0) Ab))) Ab))))))),?_⟩;refine⟨_,U,a,cl,m,n,U,l,C,λp r=>?_⟩;have s1:Ba H (upd H p (.tup [.int (m:Int),.int (n:Int)])):=.upd r;refine⟨_,U,_,_,_,_,U,U,SqT.of Ae,BL Ap U,(m:Int),U,At,At,?_⟩;rw[AvZ];refine Gp (lo:=0) (n:=m) (λi ys H2=>Ba H H2/\ys=vS ((List.range i).map λe=>(col cl e).map flip)) ⟨s1,U⟩ ?_ ?_ ?_ ?_
 ·rintro i ys H2 hi ⟨c,rfl⟩;rw[Be,AvK,Awp];omega
 ·exact Cm s
 ·rintro i ys H2 hi ⟨c,rfl⟩;refine Eo.no ?_;refine⟨_,U,_,U,a,cl,m,n,i,(by rw[Aw3];rfl),c.seq l,C,hi,λH3 o=>?_⟩;refine⟨col cl i,U,(by unfold col;rw[AvK,C.hn];omega),λv q=>?_⟩;refine CN.of hi ⟨(c.trans o).trans q,?_⟩;rw[Dv,Aw1,AvO];rfl
 ·rintro ys H2 p2 ⟨c,rfl⟩ d;exact k p2 _ (c.new d) (c.free d) Ae
inductive Anp (K:NF)(t:Adr)(vs:Na)(H:Hp)(Q:VK)(E:XK):Prop
|mk(a:Addr)(cl:NN)(m:Nat)(n:Nat)(ac:Int)(al:Int)(_:vs=[.ref a,.int ac,.int al])(_:SqL K H a (vS cl))(_:Cl cl m n)(_:1<=ac)(_:1<=al)(_:(((m:Int)*ac<=40/\(n:Int)*al<=40)->∀ l H',Ba H H'->H l=none->H' l=some (.lst (vS (til cl ac.toNat al.toNat)))->Q (.ref l) H'))(_:(¬((m:Int)*ac<=40/\(n:Int)*al<=40)->∀ H',Ba H H'->E (.ref t.BZ) none H'))
theorem AdW{z:Int}(b:1<=m)(a:1<=z)(h:(m:Int)*z<=40):z<=40:=by have:1*z<=(m:Int)*z:=Ax4 At At;omega
theorem Aco{z:Int}(a:1<=z)(h:(m:Int)*z<=40):z.toNat*m<=40:=by
 have e:z=(z.toNat:Int):=At
 rw[e,<- Int.natCast_mul] at h;rw[AwH];omega
theorem Anq(cl:NN):∀ k:Nat,(List.replicate k (vS cl)).flatten=vS ((List.replicate k cl).flatten)
 | 0=>rfl
 | k+1=>by
  rw[Awt,Awl,Anq cl k,Awt,Awl];unfold vS;rw[AvO]
theorem Anr(T:Txt K mg t):Bh P w K mg base (CX1 P w) 4 t.Ajg t.Ajh ["cloth", "across", "along"] (Anp K t):=by
 refine T.Ajj.F.okX Ag9 ?_;rintro _ _ _ _ H _ Q E M ⟨a,cl,m,n,e,O,rfl,f,C,h1,h2,k1,k2⟩;have D:sizeLine=16777216:=yA;have A:=C.n1;have I:=C.n40;have N:=C.m1;have R:=C.m40;refine⟨_,(Ac (Bb (i:=3) Ag9.nd U (Or.inl U) (Al ((Tf T).mono Ap) M U T.measured.m T.measured.F.kp T.measured.b .nil Aq (Aa (pv 0) Ab)))
  (Ac (Bm (PW.pt (pw_or (Ak Hr (Aj Rt (Bw (Gi (K:=K)) (pv 3) Ah (λ_ _=>rfl)) (pv 1)) (BX (v:=.int 40) U T.El.choose_spec ⟨_,U⟩) (Ar _)) (pw_or1 (Ak Hr (Aj Rt (Bw (Gi (K:=K)) (pv 3) Ah (λ_ _=>rfl)) (pv 2)) (BX (v:=.int 40) U T.El.choose_spec ⟨_,U⟩) (Ar _)))))
   (Ad (Bx CQ U (λ_ _ z=>z) F.excBase_ValueError Cy F.excBase_ValueError T.LR.q U T.Qk (Aa Af Ab)))
   Ao)
  (Ad (Ay (Aj Aes (PE.nox (De (CP.mk (Bj:=[1]) (Nc:=["text", "across"]) U As As (Cr (sc0:=Ag AeP) U As) U rfl U As (λk j h=>match k,h with | 0,h=>by obtain rfl:=Option.some.inj h;exact⟨_,U,U,U⟩ | _+1,h=>by simp at h)) U (BP (K:=K) (pv 0)) (λ_ _ _ _ _=>.nil) (λ_ _ _ _ _=>(Aj Mt (pv 0) (pv 1))))) (pv 2)))))),?_⟩;refine⟨_,U,a,cl,m,n,U,f,C,λp L=>?_⟩;have s1:Ba H (upd H p (.tup [.int (m:Int),.int (n:Int)])):=.upd L;have y:SqT K (upd H p (.tup [.int (m:Int),.int (n:Int)])) p [.int (m:Int),.int (n:Int)]:=SqT.of Ae;refine⟨_,U,_,_,_,_,U,U,y,BL Ap U,_,U,_,_,U,U,.inl ⟨At,At⟩,_,_,U,U,_,U,?_⟩;refine Cw (λg1=>?_) (λg1=>?_)
 ·exact Ms ⟨Ap,k2 (λz=>At) _ s1⟩
 refine⟨_,U,_,_,_,_,U,U,y,BL Ap U,_,U,_,_,U,U,.inl ⟨At,At⟩,_,_,U,U,_,U,?_⟩;refine Cw (λg2=>?_) (λg2=>?_)
 ·exact⟨Ap,k2 (λz=>At) _ s1⟩
 have o:(m:Int)*e<=40:=At
 have c:(n:Int)*O<=40:=At
 have J:=AdW N h1 o;have B:=AdW A h2 c;have W:=Aco h1 o;have S:=Aco h2 c;refine⟨_,U,_,U,⟨_,s1.seq f⟩,Dk (K:=K) (a:=a) (xs:=vS cl) (λi ys H2=>H2=upd H p (.tup [.int (m:Int),.int (n:Int)])/\ys=vS (wid (cl.take i) e.toNat)) ⟨U,U⟩ ?_ ?_ ?_ ?_⟩
 ·rintro i ys H2 hi ⟨rfl,rfl⟩;refine⟨s1.seq f,?_⟩;unfold wid;rw[Be,AvK,AvW];omega
 ·rw[Be,C.hn];exact Cm I
 ·rintro i x ys H2 hi G ⟨rfl,rfl⟩;obtain⟨t,s,rfl⟩:=HF G;have d:=C.hm t (AvX s);refine Eo.no ?_;refine⟨_,U,_,U,t,e,U,U,At,At,(by rw[d,AwH];omega),?_⟩;refine CN.of hi ⟨U,?_⟩;unfold wid;rw[Dv,AvT,s,AvO];rfl
 ·rintro ys H2 q ⟨rfl,rfl⟩ u;rw[Be,Awa];refine⟨_,U,_,_,_,U,U,Ae,At,At,?_,λl r=>?_⟩
  ·rw[Be];unfold wid;rw[AvK,C.hn,AwH];omega
  ·rw[Anq];exact k1 ⟨o,c⟩ l _ ((s1.new u).new r) ((s1.new u).free r) Ae
theorem ApG{ns:NA}(h:k<=ns.length):Yq (vI ns) none (some (0+(k:Int)))=vI (ns.take k):=by unfold Yq;rw[Aw3,HT.Rx,HT.Ku,AwA,Cj,AwB h,Axh];unfold vI;rw[List.map_take]
theorem AtH{ns:NA}(h:k<ns.length):atI (vI ns) (0+(k:Int))=some (.int (ns.getD k 0)):=by
 refine BL At ?_;rw[z0];have e:ns.getD k 0=ns[k]:=by simp[List.getD,h]
 rw[e];exact JV (AvM h)
def Pcs (K:NF)(H:Hp)(as:NU)(ps:List (NN)):Prop:=as.length=ps.length/\∀ i a,as[i]?=some a->SqL K H a (vS (ps.getD i []))
theorem Asa{z:Int}(a:0<=z)(h:z.toNat<as.length):atI (as.map V.ref) z=some (.ref as[z.toNat]):=BL a (by rw[AvS,AvM h];rfl)
inductive Air (K:NF)(vs:Na)(H:Hp)(Q:VK)(z3:XK):Prop
|mk(a:Addr)(os:NA)(n:Int)(_:vs=[.ref a,.int n])(_:SqL K H a (vI os))(_:1<=os.length)(_:os.length<=40)(_:(∀ z∈os,0<=z/\z<n))(_:Q .non H)
theorem Ri(T:Txt K mg t):Bh P w K mg base CX0 1 t.Sx t.Sy ["owners", "pieces"] (Air K):=by
 refine T.FZ.F.ok Qv ?_;rintro _ _ _ _ H _ Q E l ⟨a,os,n,rfl,b,o1,d,h,k⟩;refine⟨_,(Ac (Bm (PW.pt (pw_or (Ak GZ (Az (Ax (K:=K)) U T.Ca Bv (Aa (pv 0) Ab)) Ah (Ar _)) (pw_or1 (Ak Hr (Az (Ax (K:=K)) U T.Ca Bv (Aa (pv 0) Ab)) (BX (v:=.int 40) U T.El.choose_spec ⟨_,U⟩) (Ar _)))))
   (Ad Gn)
   Ao)
  (Ad (Ep PassesOwn.never U (BP (K:=K) (pv 0)) (BJ (i:=2) Qv.nd U (Or.inl U))
   (Ad (Bm (PW.pt (pw_or (Ak GZ (pv 2) Ah (Ar _)) (pw_or1 (Ak Al4 (pv 2) (pv 1) (Ar _)))))
    (Ad Gn)
    Ao))))),?_⟩;refine⟨_,U,_,_,U,.inl b,_,_,U,U,_,U,?_⟩;refine Ea (by rw[Cj];omega) ?_;refine⟨_,U,_,_,U,.inl b,_,_,U,U,_,U,?_⟩;refine Ea (by rw[Cj];omega) ?_;refine⟨_,U,_,U,⟨_,b⟩,Gb (K:=K) (a:=a) (xs:=vI os) (λi σ H2=>∃ v,σ=[some (.ref a),some (.int n),v]/\H2=H) ⟨none,U,U⟩ (λi σ H2 _ ⟨_,_,e⟩=>e▸b) ?_ ?_⟩
 ·rintro i x σ H2 f ⟨v,rfl,rfl⟩;obtain⟨z,c,rfl⟩:=La f;have j:=h z (AvX c);refine⟨_,U,_,_,U,U,_,U,?_⟩;refine Ea At ?_;refine⟨_,U,_,U,_,_,U,U,_,U,?_⟩;refine Ea At ?_;exact⟨_,U,U⟩
 ·rintro σ H2 ⟨v,rfl,rfl⟩;exact k
inductive AkS (K:NF)(vs:Na)(H:Hp)(Q:VK)(z3:XK):Prop
|mk(a:Addr)(cl:NN)(m:Nat)(n:Nat)(_:vs=[.ref a,.int (m:Int),.int (n:Int)])(_:SqL K H a (vS cl))(_:cl.length=n)(_:m<=40)(_:(∀ t∈cl,t.length=m/\∀ c∈t,Sg c))(_:Q .non H)
theorem Acp(T:Txt K mg t):Bh P w K mg base CX0 1 t.Vd t.Ve ["piece", "ends", "picks"] (AkS K):=by
 refine T.M5.F.ok Lh ?_;rintro _ _ _ _ H _ Q E p ⟨a,cl,m,n,rfl,d,hn,j,hc,k⟩;refine⟨_,(Ac (Bm (Ak NB (Az (Ax (K:=K)) U T.Ca Bv (Aa (pv 0) Ab)) (pv 2) (Ar _))
   (Ad Gn)
   Ao)
  (Ad (Ep PassesOwn.never U (BP (K:=K) (pv 0)) (BJ (i:=3) Lh.nd U (Or.inl U))
   (Ac (Bm (Ak NB (Az BK U T.Ca Bv (Aa (pv 3) Ab)) (pv 1) (Ar _))
    (Ad Gn)
    Ao)
   (Ad (Ep PassesOwn.never U (V1 (pv 3)) (BJ (i:=4) Lh.nd U (Or.inl U))
    (Ad (Bm (Ak VV (pv 4) Af U)
     (Ad Gn)
     Ao)))))))),?_⟩;refine⟨_,U,_,_,U,.inl d,_,U,U,_,U,?_⟩;refine Up (by rw[Be,hn]) ?_;refine⟨_,U,_,U,⟨_,d⟩,Gb (K:=K) (a:=a) (xs:=vS cl) (λi σ H2=>∃ v b,σ=[some (.ref a),some (.int (m:Int)),some (.int (n:Int)),v,b]/\H2=H) ⟨none,none,U,U⟩ (λi σ H2 _ ⟨_,_,_,e⟩=>e▸d) ?_ ?_⟩
 ·rintro i x σ H2 l ⟨v,b,rfl,rfl⟩;obtain⟨u,h,rfl⟩:=HF l;obtain⟨f,o⟩:=hc u (AvX h);refine⟨_,U,_,U,(by rw[Aw,f];exact Cm j),_,U,U,_,U,?_⟩;refine Up (by rw[Aw,f]) ?_;refine⟨_,U,_,U,Aew (z:=tx u) (λi σ H3=>∃ b,σ=[some (.ref a),some (.int (m:Int)),some (.int (n:Int)),some (.str (tx u)),b]/\H3=H2) ⟨_,U,U⟩ ?_ ?_⟩
  ·rintro i c σ H3 hc ⟨b,rfl,rfl⟩;rw[V2] at hc;refine⟨_,U,_,_,U,U,_,U,?_⟩;rw[occ (o c (AvX hc))];exact JS ⟨_,U,U⟩
  ·rintro σ H3 ⟨b,rfl,rfl⟩;exact⟨_,_,U,U⟩
 ·rintro σ H2 ⟨v,b,rfl,rfl⟩;exact k
def Afn (os:NA)(i:Nat):NA:=(List.range i).map λk=>(plc os k:Int)
theorem Ans(os:NA)(i:Nat):(Afn os i).length=i:=by unfold Afn;rw[AvK,Awp]
theorem AkT(os:NA)(i:Nat):Afn os (i+1)=Afn os i++[(plc os i:Int)]:=by unfold Afn;rw[Aw1,AvO];rfl
theorem AgW{os:NA}(h:k<i):(Afn os i)[k]?=some (plc os k:Int):=by unfold Afn;rw[AvS,AwW h];rfl
inductive AkU (K:NF)(vs:Na)(H:Hp)(Q:VK)(z3:XK):Prop
|mk(a:Addr)(os:NA)(_:vs=[.ref a])(_:SqL K H a (vI os))(_:os.length<=40)(_:∀ l H',Ba H H'->H l=none->H' l=some (.lst (vI (Afn os os.length)))->Q (.ref l) H')
theorem Px(T:Txt K mg t):Bh P w K mg base CX0 1 t.QJ t.QK ["owners"] (AkU K):=by
 refine T.Fp.F.ok Y8 ?_;rintro _ _ _ _ H _ Q E o ⟨a,os,rfl,d,c,k⟩;refine⟨_,(Ad (Ay (De (CP.mk (Bj:=[0]) (Nc:=["k", "owners"]) U As As (Cr (sc0:=Ag JX) U As) U rfl U As (λk j h=>match k,h with | 0,h=>by obtain rfl:=Option.some.inj h;exact⟨_,U,U,U⟩ | _+1,h=>by simp at h)) U (Em U T.Fj (Aa (Az (Ax (K:=K)) U T.Ca Bv (Aa (pv 0) Ab)) Ab)) (λ_ _ _ _ _=>.nil) (λ_ _ _ _ _=>(BR (K:=K) zM F.slot_list_count F.type_list_count (Yu (K:=K)) (Hz (Abj (K:=K)) (pv 1) PB (Hy (pv 0))) (Aa (Bw (Bf (K:=K)) (pv 1) (pv 0) (λ_ _=>rfl)) Ab)))))),?_⟩;refine⟨_,U,_,_,U,.inl d,_,U,At,(by rw[Cj];omega),?_⟩;rw[AvZ,Cj];refine Gp (lo:=0) (n:=os.length) (λi ys H2=>Ba H H2/\ys=vI (Afn os i)) ⟨.refl _,U⟩ ?_ ?_ ?_ ?_
 ·rintro i ys H2 hi ⟨b,rfl⟩;rw[Cj,Ans];exact AvN _
 ·exact Cm c
 ·rintro i ys H2 hi ⟨b,rfl⟩;refine Eo.no ?_;refine⟨_,U,_,U,_,U,_,_,U,b.seq d,λp m=>?_⟩;rw[ApG At];have e:Ba H (upd H2 p (.lst (vI (os.take i)))):=b.new m;refine⟨.inl ⟨U,_,SqL.of Ae⟩,_,U,_,U,_,_,_,_,U,U,e.seq d,AtH hi,_,_,_,U,U,SqL.of Ae,?_⟩;refine CN.of hi ⟨e,?_⟩;rw[AkT,Ah8];rfl
 ·rintro ys H2 l ⟨b,rfl⟩ f;exact k l _ (b.new f) (b.free f) Ae
inductive AkV (vs:Na)(H:Hp)(Q:VK)(z3:XK):Prop
|mk(o:Int)(e:Int)(own:NI)(p:Nat)(_:vs=[.int o,.str (tx own),.int e,.int (p:Int)])(_:(o=e->p<own.length))(_:own.length<=40)(_:Q (.str ⟨#[Wq o e own p]⟩) H)
theorem Asb(h:i<u.length):atI (tx u).cps.toList (i:Int)=some (u.getD i 0):=by refine BL At ?_;rw[AvZ];show u.toArray.toList[i]?=_;simp[List.getD,h]
theorem Ais(T:Txt K mg t):Bh P w K mg base CX0 1 t.AdO t.AdP ["pick_owner", "own", "end_owner", "place"] AkV:=by
 refine T.AaL.F.ok Aib ?_;rintro _ _ _ _ H _ Q E c ⟨o,e,own,p,rfl,b,a,k⟩;refine⟨_,(Ac (Bm (Ak Dd (pv 0) (pv 2) (Ar _))
   (Ad (Ay (Bw JR (pv 1) (pv 3) (λ_ _=>rfl))))
   Ao)
  (Ad (Ay (Rq (Ak GZ (pv 2) (pv 0) (Ar _)) Af Af)))),?_⟩;unfold Wq at k;refine⟨_,U,_,U,U,_,U,?_⟩;refine Cw (λh=>?_) (λh=>?_)
 ·have h:o=e:=by injection h
  rw[if_pos h] at k;exact⟨_,U,_,U,_,_,_,U,U,(by rw[Aw];exact Cm a),Asb (b h),k⟩
 ·have h:¬o=e:=λz=>h (by rw[z]);rw[if_neg h] at k;refine⟨_,U,_,U,_,_,U,U,_,U,?_⟩;refine Cw (λh2=>?_) (λh2=>?_)
  ·rw[if_pos h2,e35] at k;exact k
  ·rw[if_neg h2,e46] at k;exact k
inductive ApH (K:NF)(vs:Na)(H:Hp)(Q:VK)(z3:XK):Prop
|mk(p:Addr)(pe:Addr)(po:Addr)(as:NU)(ps:List (NN))(es:NA)(os:NA)(_:vs=[.ref p,.ref pe,.ref po])(_:SqL K H p (as.map V.ref))(_:Pcs K H as ps)(_:SqL K H pe (vI es))(_:SqL K H po (vI os))(_:AhK ps es os)(_:∀ l H',Ba H H'->H l=none->H' l=some (.lst (vS (lay ps es os)))->Q (.ref l) H')
theorem YZ(T:Txt K mg t):Bh P w K mg base CX0 2 t.QG t.QH ["pieces", "ends", "picks"] (ApH K):=by
 refine T.J3.F.ok CV ?_;rintro _ _ _ _ H _ Q E M ⟨p,pe,X,as,ps,es,os,rfl,W,hA,y,v,C,k⟩;have a5:sizeLine=16777216:=yA;have al:=hA.1;have a4:=C.e1;have s:=C.e40;have a3:=C.o1;have S:=C.o40;have ml:(as.map V.ref).length=ps.length:=by rw[AvK,al]
 refine⟨_,(Ac (Bg (Al ((Ri T).mono Ap) M U T.FZ.m T.FZ.F.kp T.FZ.b .nil Aq (Aa (pv 1) (Aa (Az (Ax (K:=K)) U T.Ca Bv (Aa (pv 0) Ab)) Ab))))
  (Ac (Bg (Al ((Ri T).mono Ap) M U T.FZ.m T.FZ.F.kp T.FZ.b .nil Aq (Aa (pv 2) (Aa (Az (Ax (K:=K)) U T.Ca Bv (Aa (pv 0) Ab)) Ab))))
  (Ac (Ep PassesOwn.never U (Apk (K:=K) U T.Aag (Aa (pv 0) Ab)) (JQ U (CK (BJ (i:=3) CV.nd U (Or.inl U)) (CK (BJ (i:=4) CV.nd U (Or.inl U)) Hg)))
   (Ad (Bg (Al ((Acp T).mono Ap) M U T.M5.m T.M5.F.kp T.M5.b .nil Aq (Aa (pv 4) (Aa (BR (K:=K) zM F.slot_list_count F.type_list_count (Yu (K:=K)) (pv 1) (Aa (pv 3) Ab)) (Aa (BR (K:=K) zM F.slot_list_count F.type_list_count (Yu (K:=K)) (pv 2) (Aa (pv 3) Ab)) Ab)))))))
  (Ac (Bb (i:=5) CV.nd U (Or.inl U) (Al ((Px T).mono Ap) M U T.Fp.m T.Fp.F.kp T.Fp.b .nil Aq (Aa (pv 1) Ab)))
  (Ac (Bb (i:=6) CV.nd U (Or.inl U) (Al ((Px T).mono Ap) M U T.Fp.m T.Fp.F.kp T.Fp.b .nil Aq (Aa (pv 2) Ab)))
  (Ac (Bb (i:=7) CV.nd U (Or.inl U) (Cu Ab))
  (Ac (Ep PassesOwn.never U (Ae8 (K:=K) U T.AmR (Aa (pv 2) (Aa (pv 6) Ab))) (JQ U (CK (BJ (i:=8) CV.nd U (Or.inr U)) (CK (BJ (i:=9) CV.nd U (Or.inl U)) Hg)))
   (Ac (Bb (i:=10) CV.nd U (Or.inr U) (Bw (Bf (K:=K)) (Bw (Bf (K:=K)) (pv 0) (pv 8) (λ_ _=>rfl)) (pv 9) (λ_ _=>rfl)))
   (Ac (Ad9 (K:=K) (i:=11) (Mv.mk (Bj:=[8,10]) (Nc:=["end_owner", "k", "owner", "own"]) U As As (Cr (sc0:=Ag JW) U As) U rfl U rfl U As (λk j h=>match k,h with | 0,h=>by obtain rfl:=Option.some.inj h;exact⟨_,U,U,U⟩ | 1,h=>by obtain rfl:=Option.some.inj h;exact⟨_,U,U,U⟩ | _+2,h=>by simp at h)) U CV.nd U rfl (Ae8 (K:=K) U T.AmR (Aa (pv 1) (Aa (pv 5) Ab))) (λ_ _ _ _ _=>.nil) (λ_ _ _ _ _=>(Al ((Ais T).mono Ap) M U T.AaL.m T.AaL.F.kp T.AaL.b .nil Aq (Aa (pv 2) (Aa (pv 3) (Aa (pv 0) (Aa (pv 1) Ab)))))) U)
   (Ad (Bg (BR (K:=K) zM zL zQ DY (pv 7) (Aa (BR (K:=K) zI zS zV (DR (K:=K)) Af (Aa (pv 11) Ab)) Ab)))))))
  (Ad (Ay (pv 7)))))))))),?_⟩;refine⟨_,U,_,U,_,_,U,.inl W,pe,es,_,U,y,a4,s,(by rw[ml];exact C.e),?_⟩;refine⟨_,U,_,U,_,_,U,.inl W,X,os,_,U,v,a3,S,(by rw[ml];exact C.o),?_⟩;refine⟨_,U,_,U,⟨_,W⟩,Amo (K:=K) (a:=p) (xs:=as.map V.ref) (λi σ H2=>∃ v1 v2,σ=[some (.ref p),some (.ref pe),some (.ref X),v1,v2,none,none,none,none,none,none,none]/\Ba H H2) ⟨none,none,U,.refl _⟩ (λi σ H2 ⟨_,_,_,L⟩=>L.seq W) ?_ ?_⟩
 ·rintro i x σ H2 T2 Z ⟨v1,v2,rfl,L⟩ nT;obtain⟨a,ha,rfl⟩:∃ a,as[i]?=some a/\x=.ref a:=by
   rw[AvS] at Z;cases e:as[i]? with
   | none=>rw[e] at Z;cases Z
   | some b=>rw[e] at Z;cases Z;exact⟨b,U,U⟩
  have hi:i<ps.length:=by rw[<- al];exact(zC.mp ha).1
  have A:Ba H (upd H2 T2 (.tup [.int (i:Int),.ref a])):=L.new nT;refine⟨_,_,U,SqT.of Ae,U,_,_,U,_,_,U,U,?_⟩;refine⟨_,U,_,U,.inl ⟨U,_,A.seq y⟩,_,U,_,_,_,U,U,A.seq y,?_⟩;refine⟨_,U,.inl ⟨U,_,A.seq v⟩,_,U,_,_,_,U,U,A.seq v,?_⟩;refine⟨a,ps.getD i [],es.count (i:Int),os.count (i:Int),U,A.seq (hA.2 i a ha),C.hn i hi,Awe (List.count_le_length ..) s,C.hm i hi,?_⟩;exact⟨_,_,U,A⟩
 ·rintro σ H2 ⟨v1,v2,rfl,L⟩;refine⟨_,U,pe,es,U,L.seq y,s,λl1 H3 A a6 G=>?_⟩;have u3:=L.trans A;refine⟨_,U,X,os,U,u3.seq v,S,λl2 R s4 a7 D=>?_⟩;have u4:=u3.trans s4;refine⟨AvV _,λq hq=>?_⟩;have nq:H q=none:=u4.free hq;have u5:Ba H (upd R q (.lst [])):=u4.new hq;have w5:Ba R (upd R q (.lst [])):=.upd hq;refine⟨_,U,_,U,.l X,.l l2,U,trivial,⟨_,u5.seq v⟩,⟨_,SqL.of (w5 _ _ D)⟩,Amn (n:=os.length) (λi=>.int (os.getD i 0)) (λi=>.int (plc os i:Int))
   (λj σ f=>∃(v3 v4 v5 v6:Option V),σ=[some (.ref p),some (.ref pe),some (.ref X),v1,v2,some (.ref l1),some (.ref l2),some (.ref q),v3,v4,v5,v6]/\Ba H f/\Ba R f/\f q=some (.lst (vS ((lay ps es os).take j))))
   ⟨none,none,none,none,U,u5,w5,Ae⟩ (λj σ f B ⟨_,_,_,_,_,r,w6,_⟩=>⟨_,r.seq v,by rw[show os.getD j 0=os[j] by simp[List.getD,B]];exact JV (AvM B)⟩)
   (λj σ f B ⟨_,_,_,_,_,r,w6,_⟩=>⟨_,SqL.of (w6 _ _ D),JV (AgW B)⟩) (λσ f ⟨_,_,_,_,_,r,w6,_⟩=>⟨⟨_,r.seq v⟩,⟨_,SqL.of (w6 _ _ D)⟩,.inl ⟨_,r.seq v,by rw[Cj]⟩⟩) ?_ ?_⟩
  ·rintro j σ f N B ⟨v3,v4,v5,v6,rfl,r,w6,u⟩ nT;obtain⟨o,eo⟩:∃ o,o=os.getD j 0:=⟨_,U⟩;obtain⟨b,eb⟩:∃ b,b=plc os j:=⟨_,U⟩;obtain⟨o1,o2⟩:=C.own B;have oz:=C.o _ (getD_mem B);rw[<- eo,<- eb] at o2;rw[<- eo] at o1 oz;rw[<- eo,<- eb];have a0:(upd f N (.tup [.int o,.int (b:Int)])) q=some (.lst (vS ((lay ps es os).take j))):=(Ba.upd nT) _ _ u;have z:Ba H (upd f N (.tup [.int o,.int (b:Int)])):=r.new nT;have w7:Ba R (upd f N (.tup [.int o,.int (b:Int)])):=w6.new nT;have Y:(upd f N (.tup [.int o,.int (b:Int)])) N=some (.tup [.int o,.int (b:Int)]):=Ae;generalize upd f N (.tup [.int o,.int (b:Int)])=H7 at a0 z w7 Y ⊢;refine⟨_,_,U,SqT.of Y,U,_,_,U,_,_,U,U,?_⟩;have lo:o.toNat<as.length:=by rw[al];exact o1
   have sa:=z.seq (hA.2 _ _ (AvM lo));have a2:((ps.getD o.toNat []).getD b []).length<=40:=by
    rw[C.row o1 o2];exact Awe (List.count_le_length ..) s
   have ab:atI (vS (ps.getD o.toNat [])) (b:Int)=some (.str (tx ((ps.getD o.toNat []).getD b []))):=by
    refine BL At ?_;rw[AvZ];have e:(ps.getD o.toNat []).getD b []=(ps.getD o.toNat [])[b]:=by rw[Awv,AvM o2];rfl
    rw[e];exact Ae1 (AvM o2)
   refine⟨_,U,_,U,_,_,_,_,U,U,z.seq W,Asa oz.1 lo,_,U,_,_,_,_,U,U,sa,ab,?_⟩;refine⟨_,U,_,U,.l pe,.l l1,U,trivial,⟨_,z.seq y⟩,⟨_,SqL.of (w7 _ _ (s4 _ _ G))⟩,?_⟩;refine Agu (n:=es.length) (λi=>.int (es.getD i 0)) (λi=>.int (plc es i:Int)) (λi ys I=>Ba H7 I/\ys=vS (((FT ps es o b).take i).map λd=>[d])) ⟨.refl _,U⟩ ?_ ?_ ?_ ?_ ?_ ?_ ?_
   ·rintro i ys I hi ⟨c,rfl⟩;rw[Be,AvK,AvW];omega
   ·omega
   ·rintro i ys I hi ⟨c,_⟩;have e:es.getD i 0=es[i]:=by simp[List.getD,hi]
    exact⟨_,(z.trans c).seq y,by rw[e];exact JV (AvM hi)⟩
   ·rintro i ys I hi ⟨c,_⟩;exact⟨_,SqL.of ((w7.trans c) _ _ (s4 _ _ G)),JV (AgW hi)⟩
   ·rintro ys I ⟨c,_⟩;exact⟨⟨_,(z.trans c).seq y⟩,⟨_,SqL.of ((w7.trans c) _ _ (s4 _ _ G))⟩,.inl ⟨_,(z.trans c).seq y,by rw[Cj]⟩⟩
   ·rintro i ys I T8 hi ⟨c,rfl⟩ a1;refine Eo.no ?_;refine⟨_,U,_,U,_,U,_,U,o,es.getD i 0,(ps.getD o.toNat []).getD b [],plc es i,U,λh=>?_,a2,?_⟩
    ·rw[C.row o1 o2,show((o.toNat:Nat):Int)=o by omega,h];exact AhJ hi
    ·refine CN.of hi ⟨c.new a1,?_⟩;rw[AvT,V4 hi,Ha,Dv,AvO];rfl
   ·rintro ys I l8 ⟨c,rfl⟩ J;have e0:(FT ps es o b).take es.length=FT ps es o b:=Aws (by rw[Lb];exact AvN _);rw[e0];have u8:=(z.trans c).new (o:=.lst (vS ((FT ps es o b).map λd=>[d]))) J;have w8:=(w7.trans c).new (o:=.lst (vS ((FT ps es o b).map λd=>[d]))) J;have O:=(c.new (o:=.lst (vS ((FT ps es o b).map λd=>[d]))) J) _ _ a0;refine⟨_,U,.inl ⟨U,_,SqL.of O⟩,U,_,U,_,_,(((FT ps es o b).map λd=>[d]).map tx),U,U,SqL.of (by rw[Ae,Gr]),?_,?_⟩
    ·have e1:=Akb (λd:Nat=>d) (FT ps es o b);rw[e1,AvK,AvK,Lb];have:es.length*(Str.length "")=0:=by rw[show Str.length "" = 0 from As];omega
     omega
    ·rw[show(("" : Str))=tx [] from As,GF];have e2:((FT ps es o b).map λd=>[d]).flatten=FT ps es o b:=(Qs (λd:Nat=>d) (FT ps es o b)).trans (Aw8 _);rw[e2];refine⟨_,_,_,U,U,O,(by rw[Be,AvW];omega),?_⟩;refine⟨_,_,_,_,U,u8.over nq,w8.over hq,?_⟩;rw[Ae,Dv,AvT,AiL B,<- eo,<- eb];rfl
  ·rintro σ f ⟨v3,v4,v5,v6,rfl,r,w6,u⟩;have e0:(lay ps es os).take os.length=lay ps es os:=Aws (by rw[AeF];exact AvN _);rw[e0] at u;exact⟨_,U,k q f r nq u⟩
def rfa (t:Adr):Rf->Addr
 | .nop=>t.Br
 | .big=>t.BZ
 | .unk=>t.Dl
def Oi (t:Adr)(C dx r:Addr)(H:Hp)(Q:VK)(E:XK)(R:Res)(z:NI):Prop:=match R with
 | .ok x=>∀ l H',Cq r H H'->H l=none->H' l=some (.lst (vS x))->H' r=some (.ins C dx (pf l (tx z)))->Q .non H'
 | .no f=>∀ H',Cq r H H'->E (.ref (rfa t f)) none H'
theorem GD(s:Ba H H'):Cq r H H':=λb o _ e=>s b o e
theorem Oi.fin{l:Addr}(k:Oi t C dx r H Q E (.ok x) z)(a:Ba H H3)(h1:H r=some (.ins C dx []))(c:H3 l=none):Q .non (upd (upd H3 l (.lst (vS x))) r (.ins C dx (pf l (tx z)))):=by
 have i:=a _ _ h1;have d:l≠r:=λy=>AB
 have f:H l=none:=by
  cases e:H l with
  | none=>rfl
  | some o=>rw[a _ _ e] at c;cases c
 refine k l _ (λb o h e=>?_) f (by rw[Ai d];exact Ae) Ae;rw[Ai h,Ai (Bc (a b o e) c)];exact a b o e
inductive Ant (K:NF)(t:Adr)(vs:Na)(H:Hp)(Q:VK)(E:XK):Prop
|mk(r:Addr)(dx:Addr)(a:Addr)(x:NN)(z:NI)(_:vs=[.ref r,.str (tx z),.ref a])(_:H r=some (.ins t.Gk dx []))(_:SqL K H a (vS x))(_:Oi t t.Gk dx r H Q E (.ok x) z)
theorem XR(T:Txt K mg t):Bh P w K mg base CX0 3 t.Jg t.Oz ["self", "name", "known_cloth"] (Ant K t):=by refine T.Pk.F.ok WY ?_;rintro _ _ _ _ H _ Q E f ⟨r,dx,a,x,z,rfl,h1,d,k⟩;refine⟨_,(Ad (Bg (HJ (BX (v:=.ref t.Eg) U T.Ik U) T.Gz ((Ck T).mono Ap) f T.Cg.b .nil Aq (Aa (pv 0) (Aa (pv 2) (Aa (pv 1) Ab)))))),?_⟩;refine⟨U,_,U,_,U,_,U,t.Gk,r,dx,a,x,_,U,h1,T.AeU.c,T.S9,T.Pa,d,λl e=>?_⟩;exact k.fin (.refl _) h1 e
inductive ApJ (K:NF)(t:Adr)(vs:Na)(H:Hp)(Q:VK)(E:XK):Prop
|mk(r:Addr)(dx:Addr)(a:Addr)(rs:NN)(_:vs=[.ref r,.ref a])(_:H r=some (.ins t.HW dx []))(_:SqL K H a (vS rs))(_:rs≠[])(_:rs.length<=40)(_:(wz Pat.FQ rs).length<=1000000)(_:Oi t t.HW dx r H Q E (Aby rs) (wz Pat.FQ rs))
theorem XS(T:Txt K mg t):Bh P w K mg base (CX1 P w) 3 t.Kg t.Q7 ["self", "runs"] (ApJ K t):=by
 refine T.Ra.F.okX YH ?_;rintro _ _ _ _ H _ Q E A ⟨r,dx,a,rs,rfl,h1,e,o,s,hw,k⟩;refine⟨_,(Ac (Bm (Fl (Az (AdH (K:=K)) U T.AqC AlN (Aa (PE.nox (De (CP.mk (Bj:=[1]) (Nc:=["run", "runs"]) U As As (Cr (sc0:=Ag Ka) U As) U rfl U As (λk j h=>match k,h with | 0,h=>by obtain rfl:=Option.some.inj h;exact⟨_,U,U,U⟩ | _+1,h=>by simp at h)) U (BP (K:=K) (pv 1)) (λ_ _ _ _ _=>.nil) (λ_ _ _ _ _=>(Hx NB (Az BK U T.Ca Bv (Aa (pv 0) Ab)) (Az BK U T.Ca Bv (Aa (Bw (Bf) (pv 1) Ah (λ_ _=>rfl)) Ab)) (Ar _))))) Ab)))
   (Ad (Bx CQ U (λ_ _ z=>z) F.excBase_ValueError Cy F.excBase_ValueError T.BV.q U T.BW (Aa Af Ab)))
   Ao)
  (Ac (Bg (Al ((GC T).mono Ap) A U T.Dr.m T.Dr.F.kp T.Dr.b .nil Cv (Aa (Az BK U T.Ca Bv (Aa (Bw (Bf (K:=K)) (pv 1) Ah (λ_ _=>rfl)) Ab)) (Aa (Az (Ax (K:=K)) U T.Ca Bv (Aa (pv 1) Ab)) Ab))))
  (Ad (Bg (HJ (BX (v:=.ref t.Eg) U T.Ik U) T.Gz ((Ck T).mono Ap) A T.Cg.b .nil Aq (Aa (pv 0) (Aa (pv 1) (Aa (Al ((Fv T).mono Ap) A U T.written.m T.written.F.kp T.written.b .nil Aq (Aa Af (Aa (pv 1) Ab))) Ab)))))))),?_⟩;have D:∀ u∈rs,u.length<=1000000:=λu p=>by
  have:= Aq7 p;rw[Ain] at hw;lia
 obtain⟨n,f,B⟩:∃ n,rs[0]?=some n/\n.length=wdt rs:=by
  cases rs with
  | nil=>exact absurd U o
  | cons u rs=>exact⟨u,U,U⟩
 have C:=D n (AvX f);refine⟨_,U,_,U,⟨_,e⟩,Dk (xs:=vS rs) (λi ys H2=>H2=H/\ys=vB ((rs.take i).map λr=>decide (¬r.length=wdt rs))) ⟨U,U⟩ ?_ ?_ ?_ ?_⟩
 ·rintro i ys H2 hi ⟨rfl,rfl⟩;refine⟨e,?_⟩;rw[AhV,AvK,AvW];lia
 ·rw[Be];exact Cm s
 ·rintro i x ys H2 hi G ⟨rfl,rfl⟩;obtain⟨u,p,rfl⟩:=HF G;have J:=D u (AvX p);refine⟨_,U,_,U,(by exact big J),_,U,_,_,_,_,U,U,e,Aai f,_,U,(by exact big C),U,?_⟩;rw[show(!decide (V.int ((tx u).length:Int)=V.int ((tx n).length:Int)))=decide (¬u.length=wdt rs) by
   rw[Aw,Aw,B,<- decide_not];exact z6.mpr ⟨λz y=>z (by rw[y]),λz y=>z (by injection y with y;omega)⟩]
  exact CN.of hi ⟨U,by rw[AhW,AvT,p,AvO];rfl⟩
 ·rintro ys H2 q ⟨rfl,rfl⟩ M;rw[Be,Awa];refine⟨_,_,U,SqL.of Ae,_,U,?_⟩;have d:Ba H2 (upd H2 q (.lst (vB (rs.map λr=>decide (¬r.length=wdt rs))))):=.upd M;unfold Aby at k;refine AuY (λc=>?_) (λc=>?_)
  ·rw[if_pos c] at k;exact⟨Ap,k _ (GD d)⟩
  ·rw[if_neg (by rw[c];exact λz=>nomatch z)] at k;refine⟨_,U,_,_,_,_,U,U,d.seq e,Aai f,_,U,(by exact big C),_,U,_,_,U,.inl (d.seq e),wdt rs,rs.length,(by rw[Aw,B,Be];rfl),λI=>?_,λI H' s'=>?_⟩
   ·rw[if_neg At] at k;refine⟨U,_,U,_,U,_,U,a,Pat.FQ,rs,AE,d.seq e,o,hw,?_⟩;refine⟨t.HW,r,dx,a,rs,_,U,d _ _ h1,T.Aih.c,T.Vp,T.QT,d.seq e,λl L=>?_⟩;exact k.fin d h1 L
   ·rw[if_pos At] at k;exact k _ (GD (d.trans s'))
theorem lg(h:m<100):((m:Int)).natAbs.log2<1920:=by exact Axt (Nat.log2_le_self m) Au
theorem Anu:(("#" : Str))=tx [35]:=As
theorem ApK:(("." : Str))=tx [46]:=As
theorem Au1:(("twill" : Str))=tx twW:=As
theorem Au2:(("satin" : Str))=tx saW:=As
theorem Anv(h:k<=u.length):Ug u (some (k:Int)) none=u.drop k:=by unfold Ug;rw[HT.Ku,AwB h];exact Aws (by rw[Awk];exact AvN _)
theorem Asc{x y:NI}(a:z.length<=100)(c:x.length<=100)(b:y.length<=100):(wz z [x,y]).length<=1000000:=by rw[Ain];unfold cj;grind
inductive Anw (K:NF)(t:Adr)(vs:Na)(H:Hp)(Q:VK)(E:XK):Prop
|mk(r:Addr)(dx:Addr)(m:Nat)(n:Nat)(_:vs=[.ref r,.int (m:Int),.int (n:Int)])(_:H r=some (.ins t.Gm dx []))(_:m<100)(_:n<100)(_:Oi t t.Gm dx r H Q E (PK m n) (wz twW [dec m,dec n]))
theorem VG(T:Txt K mg t):Bh P w K mg base (CX1 P w) 3 t.Jh t.O1 ["self", "over", "under"] (Anw K t):=by
 refine T.Pn.F.okX Gj ?_;rintro _ _ _ _ H _ Q E f ⟨r,dx,m,n,rfl,h1,u,hn,k0⟩;refine⟨_,(Ac (Bm (PW.pt (pw_or (Ak GZ (pv 1) Ah (Ar _)) (pw_or1 (Ak GZ (pv 2) Ah (Ar _)))))
   (Ad (Bx CQ U (λ_ _ z=>z) F.excBase_ValueError Cy F.excBase_ValueError T.BV.q U T.BW (Aa Af Ab)))
   Ao)
  (Ac (Bb (i:=3) Gj.nd U (Or.inr U) (Aj Ex (pv 1) (pv 2)))
  (Ac (Bg (Al ((GC T).mono Ap) f U T.Dr.m T.Dr.F.kp T.Dr.b .nil Cv (Aa (pv 3) (Aa (pv 3) Ab))))
  (Ac (Bb (i:=4) Gj.nd U (Or.inr U) (Aj Am (Aj Mt Af (pv 1)) (Aj Mt Af (pv 2))))
  (Ac (PS.nox (AiC (i:=5) (CP.mk (Bj:=[3,4]) (Nc:=["y", "size", "first"]) U As As (Cr (sc0:=Ag Jc) U As) U rfl U As (λk j h=>match k,h with | 0,h=>by obtain rfl:=Option.some.inj h;exact⟨_,U,U,U⟩ | 1,h=>by obtain rfl:=Option.some.inj h;exact⟨_,U,U,U⟩ | _+2,h=>by simp at h)) U Gj.nd U rfl (Em U T.Fj (Aa (pv 3) Ab)) (λ_ _ _ _ _=>.nil) (λ_ _ _ _ _=>(Aj Am (Hz Ys (pv 2) (Hy (Aj Pz (pv 1) (pv 0))) PB) (Hz Ys (pv 2) PB (Hy (Aj Pz (pv 1) (pv 0)))))) U))
  (Ad (Bg (HJ (BX (v:=.ref t.Eg) U T.Ik U) T.Gz ((Ck T).mono Ap) f T.Cg.b .nil Aq (Aa (pv 0) (Aa (pv 5) (Aa (Al ((Fv T).mono Ap) f U T.written.m T.written.F.kp T.written.b .nil Aq (Aa Af (Aa (Cu (Aa (Cd Ec U T.Vn Nq (Aa (pv 1) Ab)) (Aa (Cd Ec U T.Vn Nq (Aa (pv 2) Ab)) Ab))) Ab))) Ab))))))))))),?_⟩;have k2:=λg=>by
  unfold PK at k0;rw[if_pos At] at k0;exact k0
 have k3:1<=m->1<=n->40<m+n->∀ H',Cq r H H'->E (.ref t.BZ) none H':=λg1 g2 g3=>by
  unfold PK at k0;rw[if_neg At,if_pos g3] at k0;exact k0
 refine⟨_,U,_,_,U,U,_,U,?_⟩;refine Cw (λy=>?_) (λy=>?_)
 ·exact⟨Ap,k2 (.inl Au) _ (λb o _ e=>e)⟩
 ·refine⟨_,U,_,_,U,U,_,U,?_⟩;refine Cw (λA=>?_) (λA=>?_)
  ·exact⟨Ap,k2 (.inr Au) _ (λb o _ e=>e)⟩
  ·refine⟨_,U,_,U,_,_,U,U,?_⟩;refine⟨_,U,_,U,m+n,m+n,U,λB=>?_,λB H' s'=>k3 Au Au Au _ (λb o _ e=>s' b o e)⟩;refine⟨_,U,[35],(m:Int),(by rw[Anu]),U,Au,Au,(big AD),?_⟩;refine⟨_,U,[46],(n:Int),(by rw[ApK]),U,Au,Au,(big AD),?_⟩;rw[AvZ,AvZ,rep1,rep1];refine⟨_,_,U,U,(by rw[Aw,Aw];exact big AD),?_⟩;rw[Bs];refine⟨_,U,_,U,AD,AD,?_⟩;rw[show((m:Int)+(n:Int)).toNat=m+n by omega];refine Gp (λi ys H2=>H2=H/\ys=vS ((List.range i).map (twT m n))) ⟨U,U⟩ ?_ ?_ ?_ ?_
   ·rintro i ys H2 hi ⟨rfl,rfl⟩;rw[Be,AvK,Awp];exact AvN _
   ·exact big Au
   ·rintro i ys H2 hi ⟨rfl,rfl⟩;have fl:(Aap m n).length=m+n:=Ag1;refine⟨_,U,_,U,_,U,_,_,U,U,_,U,Aap m n,U,big At,?_⟩;rw[show(m:Int)+(n:Int)-(0+(i:Int))=((m+n-i:Nat):Int) by omega,Anv At];refine⟨_,U,_,U,_,U,_,_,U,U,_,U,Aap m n,U,big At,?_⟩;rw[show(m:Int)+(n:Int)-(0+(i:Int))=((m+n-i:Nat):Int) by omega,Ar3 At];refine⟨_,_,U,U,(by rw[Aw,Aw];exact big AD),?_⟩;rw[Bs,ArI hi];exact(CN.of hi ⟨U,by rw[Aw1,AvO];exact Dv _ _⟩:CN (m+n) (λi ys H3=>H3=H2/\ys=vS ((List.range i).map (twT m n))) i (vS ((List.range i).map (twT m n))++[.str (tx (twT m n i))]) H2)
   ·rintro ys H2 q ⟨rfl,rfl⟩ D;refine⟨U,_,U,_,U,_,U,_,U,lg u,_,U,_,U,lg hn,AH,λp x=>?_⟩;have I:=(dec_is u).l2;have G:=(dec_is hn).l2;have s1:Ba H2 (upd H2 q (.lst (vS ((List.range (m+n)).map (twT m n))))):=.upd D;have a:(upd H2 q (.lst (vS ((List.range (m+n)).map (twT m n))))) q=some (.lst (vS ((List.range (m+n)).map (twT m n)))):=Ae;generalize upd H2 q (.lst (vS ((List.range (m+n)).map (twT m n))))=H3 at s1 a x ⊢;have d:Ba H3 (upd H3 p (.lst [.str (tx (dec m)),.str (tx (dec n))])):=.upd x;have s:(upd H3 p (.lst [.str (tx (dec m)),.str (tx (dec n))])) p=some (.lst (vS [dec m,dec n])):=Ae;refine⟨p,twW,[dec m,dec n],AE,SqL.of s,AA,Asc Ap Au Au,?_⟩;refine⟨t.Gm,r,dx,q,(List.range (m+n)).map (twT m n),_,U,d _ _ (s1 _ _ h1),T.AeY.c,T.SJ,T.Pb,SqL.of (d _ _ a),λl C=>?_⟩;unfold PK at k0;rw[if_neg At,if_neg At] at k0;exact k0.fin (s1.trans d) h1 C
theorem KR(T:Txt K mg t){p:Addr}(a:Pc t H p x z)(C:Cl x m n)(k:Q (.int ((m:Nat):Int)) H):R8 K "wide" t.Cz (Aju t) E Q (V.ref p) H:=by obtain⟨D,dx,l,b,h1,h2⟩:=id a;exact⟨p,dx,_,D,U,h1,(AaN _ _).1,(pcC T b).c,(pcC T b).wide,p,x,z,m,n,U,a,C,k⟩
theorem KY(T:Txt K mg t){p:Addr}(a:Pc t H p x z)(C:Cl x m n)(k:Q (.int ((n:Nat):Int)) H):R8 K "high" t.CG (Ajv t) E Q (V.ref p) H:=by obtain⟨D,dx,l,b,h1,h2⟩:=id a;exact⟨p,dx,_,D,U,h1,(AaN _ _).2.1,(pcC T b).c,(pcC T b).high,p,x,z,m,n,U,a,C,k⟩
theorem Gf(T:Txt K mg t){p:Addr}(a:Pc t H p x z)(k:∀ l,H l=none->Q (.ref l) (upd H l (.lst (vS x)))):R8 K "cloth" t.Cp (AgT t) E Q (V.ref p) H:=by obtain⟨D,dx,l,b,h1,h2⟩:=id a;exact⟨p,dx,_,D,U,h1,(AaN _ _).2.2.2.1,(pcC T b).c,(pcC T b).AtF,p,x,z,U,a,k⟩
theorem Im(T:Txt K mg t){p:Addr}(a:Pc t H p x z)(k:Q (.str (tx z)) H):R8 K "told" t.CJ (Ajw t) E Q (V.ref p) H:=by obtain⟨D,dx,l,b,h1,h2⟩:=id a;exact⟨p,dx,_,D,U,h1,(AaN _ _).2.2.2.2,(pcC T b).c,(pcC T b).told,p,x,z,U,a,k⟩
theorem Au3:(("beside" : Str))=tx beW:=As
theorem Au4:(("above" : Str))=tx abW:=As
theorem ApL:(("mirror" : Str))=tx miW:=As
theorem ApM:(("upend" : Str))=tx upW:=As
theorem ApN:(("back" : Str))=tx baW:=As
theorem Au5:(("quarter" : Str))=tx quW:=As
theorem Au6:(("tile" : Str))=tx tiW:=As
theorem Au7:(("lay" : Str))=tx laW:=As
inductive ApO (t:Adr)(vs:Na)(H:Hp)(Q:VK)(E:XK):Prop
|mk(p:Addr)(q:Addr)(x:NN)(y:NN)(zx:NI)(zy:NI)(m:Nat)(n:Nat)(m':Nat)(n':Nat)(_:vs=[.ref p,.ref q])(_:Pc t H p x zx)(_:Pc t H q y zy)(_:Cl x m n)(_:Cl y m' n') (_:(m=m'/\n=n'->Q .non H))(_:(¬(m=m'/\n=n')->E (.ref t.Br) none H))
theorem VH(T:Txt K mg t):Bh P w K mg base (CX1 P w) 2 t.O9 t.OD ["one", "other"] (ApO t):=by
 refine T.Ij.F.okX W7 ?_;rintro _ _ _ _ H _ Q E d ⟨p,q,x,y,k,j,m,n,h,i,rfl,e,f,C,D,k1,k2⟩;refine⟨_,(Ad (Bm (PW.pt (pw_or (Ak NB (Bu (K:=K) U (pv 0) ((Ej T).mono Ap) d T.Eh.b Aq) (Bu (K:=K) U (pv 1) ((Ej T).mono Ap) d T.Eh.b Aq) (Ar _)) (pw_or1 (Ak NB (Bu (K:=K) U (pv 0) ((Ek T).mono Ap) d T.Ei.b Aq) (Bu (K:=K) U (pv 1) ((Ek T).mono Ap) d T.Ei.b Aq) (Ar _)))))
   (Ad (Bx CQ U (λ_ _ z=>z) F.excBase_ValueError Cy F.excBase_ValueError T.BV.q U T.BW (Aa Af Ab)))
   Ao)),?_⟩;refine⟨_,U,KR T e C ?_⟩;refine⟨_,U,KR T f D ?_⟩;refine⟨U,_,U,?_⟩;by_cases a:m=h
 ·refine Up (by rw[a]) ?_;refine⟨_,U,KY T e C ?_⟩;refine⟨_,U,KY T f D ?_⟩;refine⟨U,_,U,?_⟩;by_cases c:n=i
  ·refine Up (by rw[c]) ?_;exact k1 ⟨a,c⟩
  ·refine Abh (λz=>c AD) ?_;exact⟨Ap,k2 (λz=>c z.2)⟩
 ·refine Abh (λz=>a AD) ?_;exact Ms ⟨Ap,k2 (λz=>a z.1)⟩
inductive Ait (K:NF)(t:Adr)(C:Addr)(mk:NN->NN->Res)(wd:NI)(vs:Na)(H:Hp)(Q:VK)(E:XK):Prop
|mk(r:Addr)(dx:Addr)(p:Addr)(q:Addr)(x:NN)(y:NN)(zx:NI)(zy:NI)(_:vs=[.ref r,.ref p,.ref q])(_:H r=some (.ins C dx []))(_:Pc t H p x zx)(_:Pc t H q y zy)(_:Clo x)(_:Clo y)(_:(wz wd [zx,zy]).length<=1000000)(_:Oi t C dx r H Q E (mk x y) (wz wd [zx,zy]))
theorem Um(T:Txt K mg t):Bh P w K mg base (CX1 P w) 3 t.Ia t.M3 ["self", "one", "other"] (Ait K t t.Fy PN beW):=by
 refine T.Nf.F.okX Lk ?_;rintro _ _ _ _ H _ Q E j ⟨r,dx,p,q,x,y,L,J,rfl,h1,B,N,C,D,hw,k⟩;refine⟨_,(Ac (Bm (Ak NB (Bu (K:=K) U (pv 1) ((Ek T).mono Ap) j T.Ei.b Aq) (Bu (K:=K) U (pv 2) ((Ek T).mono Ap) j T.Ei.b Aq) (Ar _))
   (Ad (Bx CQ U (λ_ _ z=>z) F.excBase_ValueError Cy F.excBase_ValueError T.BV.q U T.BW (Aa Af Ab)))
   Ao)
  (Ac (Bg (Al ((GC T).mono Ap) j U T.Dr.m T.Dr.F.kp T.Dr.b .nil Cv (Aa (Aj Ex (Bu (K:=K) U (pv 1) ((Ej T).mono Ap) j T.Eh.b Aq) (Bu (K:=K) U (pv 2) ((Ej T).mono Ap) j T.Eh.b Aq)) (Aa (Bu (K:=K) U (pv 1) ((Ek T).mono Ap) j T.Ei.b Aq) Ab))))
  (Ac (PS.nox (Ad9 (K:=K) (i:=3) (Mv.mk (Bj:=[]) (Nc:=["left", "right"]) U As As (Cr (sc0:=Ag HQ) U As) U rfl U rfl U As (λ_ _ h=>by simp at h)) U Lk.nd U rfl (Ae8 (K:=K) U T.AmR (Aa (Bu (K:=K) U (pv 1) ((CT T).mono Ap) j T.CW.b Aq) (Aa (Bu (K:=K) U (pv 2) ((CT T).mono Ap) j T.CW.b Aq) Ab))) (λ_ _ _ _ _=>.nil) (λ_ _ _ _ _=>(Aj Am (pv 0) (pv 1))) U))
  (Ad (Bg (HJ (BX (v:=.ref t.Eg) U T.Ik U) T.Gz ((Ck T).mono Ap) j T.Cg.b .nil Aq (Aa (pv 0) (Aa (pv 3) (Aa (Al ((Fv T).mono Ap) j U T.written.m T.written.F.kp T.written.b .nil Aq (Aa Af (Aa (Cu (Aa (Bu (K:=K) U (pv 1) ((DG T).mono Ap) j T.DK.b Aq) (Aa (Bu (K:=K) U (pv 2) ((DG T).mono Ap) j T.DK.b Aq) Ab))) Ab))) Ab))))))))),?_⟩;have a0:=C.n40;unfold PN at k;refine⟨_,U,KY T B C ?_⟩;refine⟨_,U,KY T N D ?_⟩;refine⟨U,_,U,?_⟩;by_cases A:x.length=y.length
 case neg =>
  rw[if_pos A] at k;refine Abh (λz=>A AD) ?_;exact⟨Ap,k _ (GD (.refl _))⟩
 rw[if_neg (λz=>z A)] at k;refine Up (by rw[A]) ?_;refine⟨_,U,KR T B C ?_⟩;refine⟨_,U,KR T N D ?_⟩;refine⟨_,_,U,U,?_⟩;refine⟨_,U,KY T B C ?_⟩;refine⟨wdt x+wdt y,x.length,U,λc2=>?_,λc2 H' s'=>?_⟩
 case' refine_2 =>
  rw[if_pos c2] at k;exact k _ (GD s')
 rw[if_neg At] at k;refine⟨_,U,Gf T B λl1 W=>?_⟩;obtain⟨H1,G,s1,a⟩:=nu9 (o:=.lst (vS x)) (.refl _) W;rw[G];refine⟨_,U,Gf T (N.mono s1) λl2 Y=>?_⟩;obtain⟨H2,G,s2,s⟩:=nu9 (o:=.lst (vS y)) (.refl _) Y;rw[G];have a:=s2 _ _ a;refine⟨.l l1,.l l2,U,trivial,⟨_,SqL.of a⟩,⟨_,SqL.of s⟩,?_⟩;have zl:(List.zipWith (·++·) x y).length=x.length:=by rw[Axy,<- A,AwR]
 refine Agu (n:=x.length) (λi=>.str (tx (x.getD i []))) (λi=>.str (tx (y.getD i []))) (λi ys u=>Ba H2 u/\ys=vS ((List.zipWith (·++·) x y).take i)) ⟨.refl _,U⟩ ?_ ?_ ?_ ?_ ?_ ?_ ?_
 ·rintro i ys u hi ⟨f,rfl⟩;rw[Be,AvW];lia
 ·exact Cm a0
 ·rintro i ys u hi ⟨f,_⟩;have e:x.getD i []=x[i]:=by simp[List.getD,hi]
  exact⟨_,SqL.of (f _ _ a),by rw[e];exact Ae1 (AvM hi)⟩
 ·rintro i ys u hi ⟨f,_⟩;have d:i<y.length:=At
  have e:y.getD i []=y[i]:=by simp[List.getD,d]
  exact⟨_,SqL.of (f _ _ s),by rw[e];exact Ae1 (AvM d)⟩
 ·rintro ys u ⟨f,_⟩;exact⟨⟨_,SqL.of (f _ _ a)⟩,⟨_,SqL.of (f _ _ s)⟩,.inl ⟨_,SqL.of (f _ _ a),by rw[Be]⟩⟩
 ·rintro i ys u T8 hi ⟨f,rfl⟩ X;have d:i<y.length:=At
  have e1:x.getD i []=x[i]:=by simp[List.getD,hi]
  have e2:y.getD i []=y[i]:=by simp[List.getD,d]
  have w1:=C.hm _ (Awh hi);have w2:=D.hm _ (Awh d);rw[e1,e2];refine⟨_,U,_,U,_,_,U,U,(by rw[Aw,Aw,w1,w2];exact big Au),?_⟩;rw[Bs];refine CN.of hi ⟨f.new X,?_⟩;rw[Dv,AvT,List.getElem?_zipWith,AvM hi,AvM d];rfl
 ·rintro ys u l8 ⟨f,rfl⟩ Z;rw[Aws (by rw[zl];exact AvN _)];obtain⟨O,G,M,S⟩:=nu9 (o:=.lst (vS (List.zipWith (·++·) x y))) ((s1.trans s2).trans f) Z;rw[G];refine⟨U,_,U,_,U,_,U,Im T (B.mono M) ?_⟩;refine⟨_,U,Im T (N.mono M) ?_⟩;refine⟨AH,λI R=>?_⟩;have v9:Ba O (upd O I (.lst (vS [L,J]))):=.upd R;have a1:(upd O I (.lst (vS [L,J]))) I=some (.lst (vS [L,J])):=Ae;refine⟨I,beW,[L,J],AE,SqL.of a1,AA,hw,?_⟩;refine⟨t.Fy,r,dx,l8,_,_,U,(M.trans v9) _ _ h1,T.AbV.c,T.QV,T.MP,SqL.of (v9 _ _ S),λl hl=>?_⟩;exact k.fin (M.trans v9) h1 hl
theorem VJ(T:Txt K mg t):Bh P w K mg base (CX1 P w) 3 t.Ji t.O3 ["self", "one", "other"] (Ait K t t.GQ V5 abW):=by
 refine T.Pq.F.okX Xa ?_;rintro _ _ _ _ H _ Q E a ⟨r,dx,p,q,x,y,n,j,rfl,h1,e,u,C,D,hw,k⟩;refine⟨_,(Ac (Bm (Ak NB (Bu (K:=K) U (pv 1) ((Ej T).mono Ap) a T.Eh.b Aq) (Bu (K:=K) U (pv 2) ((Ej T).mono Ap) a T.Eh.b Aq) (Ar _))
   (Ad (Bx CQ U (λ_ _ z=>z) F.excBase_ValueError Cy F.excBase_ValueError T.BV.q U T.BW (Aa Af Ab)))
   Ao)
  (Ac (Bg (Al ((GC T).mono Ap) a U T.Dr.m T.Dr.F.kp T.Dr.b .nil Cv (Aa (Bu (K:=K) U (pv 1) ((Ej T).mono Ap) a T.Eh.b Aq) (Aa (Aj Ex (Bu (K:=K) U (pv 1) ((Ek T).mono Ap) a T.Ei.b Aq) (Bu (K:=K) U (pv 2) ((Ek T).mono Ap) a T.Ei.b Aq)) Ab))))
  (Ad (Bg (HJ (BX (v:=.ref t.Eg) U T.Ik U) T.Gz ((Ck T).mono Ap) a T.Cg.b .nil Aq (Aa (pv 0) (Aa (Aj Nk (Bu (K:=K) U (pv 1) ((CT T).mono Ap) a T.CW.b Aq) (Bu (K:=K) U (pv 2) ((CT T).mono Ap) a T.CW.b Aq)) (Aa (Al ((Fv T).mono Ap) a U T.written.m T.written.F.kp T.written.b .nil Aq (Aa Af (Aa (Cu (Aa (Bu (K:=K) U (pv 1) ((DG T).mono Ap) a T.DK.b Aq) (Aa (Bu (K:=K) U (pv 2) ((DG T).mono Ap) a T.DK.b Aq) Ab))) Ab))) Ab)))))))),?_⟩;unfold V5 at k;refine⟨_,U,KR T e C ?_⟩;refine⟨_,U,KR T u D ?_⟩;refine⟨U,_,U,?_⟩;by_cases h:wdt x=wdt y
 case neg =>
  rw[if_pos h] at k;refine Abh (λz=>h AD) ?_;exact⟨Ap,k _ (GD (.refl _))⟩
 rw[if_neg (λz=>z h)] at k;refine Up (by rw[h]) ?_;refine⟨_,U,KR T e C ?_⟩;refine⟨_,U,KY T e C ?_⟩;refine⟨_,U,KY T u D ?_⟩;refine⟨_,_,U,U,?_⟩;refine⟨wdt x,x.length+y.length,U,λS=>?_,λS H' s'=>?_⟩
 case' refine_2 =>
  rw[if_pos S] at k;exact k _ (GD s')
 rw[if_neg At] at k;refine⟨U,_,U,_,U,Gf T e λl1 J=>?_⟩;obtain⟨H1,f,s1,d⟩:=nu9 (o:=.lst (vS x)) (.refl _) J;rw[f];refine⟨_,U,Gf T (u.mono s1) λl2 L=>?_⟩;obtain⟨H2,f,R,B⟩:=nu9 (o:=.lst (vS y)) (.refl _) L;rw[f];have d:=R _ _ d;refine⟨_,_,_,_,U,U,d,B,(by rw[Be,Be];exact big Au),λW M=>?_⟩;rw[show vS x++vS y=vS (x++y) by unfold vS;rw[AvO]];obtain⟨A,f,s,I⟩:=nu9 (o:=.lst (vS (x++y))) (s1.trans R) M;rw[f];refine⟨_,U,Im T (e.mono s) ?_⟩;refine⟨_,U,Im T (u.mono s) ?_⟩;refine⟨AH,λi G=>?_⟩;have O:Ba A (upd A i (.lst (vS [n,j]))):=.upd G;have N:(upd A i (.lst (vS [n,j]))) i=some (.lst (vS [n,j])):=Ae;refine⟨i,abW,[n,j],AE,SqL.of N,AA,hw,?_⟩;refine⟨t.GQ,r,dx,W,_,_,U,(s.trans O) _ _ h1,T.AeZ.c,T.SM,T.Pg,SqL.of (O _ _ I),λl X=>?_⟩;exact k.fin (s.trans O) h1 X
inductive Afo (K:NF)(t:Adr)(C:Addr)(wd:NI)(mk:NN->NN)(vs:Na)(H:Hp)(Q:VK)(E:XK):Prop
|mk(r:Addr)(dx:Addr)(p:Addr)(x:NN)(zx:NI)(_:vs=[.ref r,.ref p])(_:H r=some (.ins C dx []))(_:Pc t H p x zx)(_:Clo x)(_:(wz wd [zx]).length<=1000000)(_:Oi t C dx r H Q E (.ok (mk x)) (wz wd [zx]))
theorem VL(T:Txt K mg t):Bh P w K mg base CX0 3 t.Ib t.M4 ["self", "inner"] (Afo K t t.Fz miW (List.map List.reverse)):=by
 refine T.Ng.F.ok Ln ?_;rintro _ _ _ _ H _ Q E j ⟨r,dx,p,x,f,rfl,h1,N,C,hw,k⟩;refine⟨_,(Ac (AiC (i:=2) (CP.mk (Bj:=[]) (Nc:=["text"]) U As As (Cr (sc0:=Ag HR) U As) U rfl U As (λ_ _ h=>by simp at h)) U Ln.nd U rfl (BP (K:=K) (Bu (K:=K) U (pv 1) ((CT T).mono Ap) j T.CW.b Aq)) (λ_ _ _ _ _=>.nil) (λ_ _ _ _ _=>(BR zI zS zV Abg Af (Aa (Cd Zr U T.Jm J9 (Aa (pv 0) Ab)) Ab))) U)
  (Ad (Bg (HJ (BX (v:=.ref t.Eg) U T.Ik U) T.Gz ((Ck T).mono Ap) j T.Cg.b .nil Aq (Aa (pv 0) (Aa (pv 2) (Aa (Al ((Fv T).mono Ap) j U T.written.m T.written.F.kp T.written.b .nil Aq (Aa Af (Aa (Cu (Aa (Bu (K:=K) U (pv 1) ((DG T).mono Ap) j T.DK.b Aq) Ab)) Ab))) Ab))))))),?_⟩;have I:=C.n40;have s:=C.m40;refine⟨_,U,Gf T N λl1 A=>?_⟩;obtain⟨H1,B,s1,d⟩:=nu9 (o:=.lst (vS x)) (.refl _) A;rw[B];refine⟨_,U,⟨_,SqL.of d⟩,Dk (xs:=vS x) (λi ys H2=>Ba H1 H2/\ys=vS ((x.take i).map List.reverse)) ⟨.refl _,U⟩ ?_ ?_ ?_ ?_⟩
 ·rintro i ys H2 hi ⟨a,rfl⟩;refine⟨SqL.of (a _ _ d),?_⟩;rw[Be,AvK,AvW];lia
 ·rw[Be];exact Cm I
 ·rintro i Z ys H2 hi S ⟨a,rfl⟩;obtain⟨u,O,rfl⟩:=HF S;have J:=C.hm u (AvX O);refine⟨U,_,U,_,U,(by rw[Aw,J];exact Cm s),λq R=>?_⟩;refine⟨_,_,q,U,U,Ae,As,(by rw[Aw];lia),?_⟩;rw[Fw,show(("" : Str))=tx [] from As,show(u.reverse.map λc=>(⟨#[c]⟩:Str))=(u.reverse.map λc=>[c]).map tx by rw[Aw0];rfl,GF];have X:(u.reverse.map λc=>[c]).flatten=u.reverse:=(Qs id u.reverse).trans (Aw8 _);rw[X];refine CN.of hi ⟨(a.new R).over (a.free R),?_⟩;rw[Dv,AvT,O,AvO];rfl
 rintro ys H2 W ⟨a,rfl⟩ D;rw[Be,Awa];obtain⟨n,B,G,z⟩:=nu9 (o:=.lst (vS (x.map List.reverse))) (s1.trans a) D;rw[B];refine⟨U,_,U,_,U,?_⟩;refine⟨_,U,Im T (N.mono G) ?_⟩;refine⟨AG,λe y=>?_⟩;have M:Ba n (upd n e (.lst (vS [f]))):=.upd y;have L:(upd n e (.lst (vS [f]))) e=some (.lst (vS [f])):=Ae;refine⟨e,miW,[f],AE,SqL.of L,AA,hw,?_⟩;refine⟨t.Fz,r,dx,W,_,_,U,(G.trans M) _ _ h1,T.Aca.c,T.QW,T.MT,SqL.of (M _ _ z),λl Y=>?_⟩;exact k.fin (G.trans M) h1 Y
theorem XX(T:Txt K mg t):Bh P w K mg base CX0 3 t.Jj t.O4 ["self", "inner"] (Afo K t t.GR upW List.reverse):=by refine T.Pr.F.ok Xb ?_;rintro _ _ _ _ H _ Q E e ⟨r,dx,p,x,d,rfl,h1,A,C,hw,k⟩;refine⟨_,(Ad (Bg (HJ (BX (v:=.ref t.Eg) U T.Ik U) T.Gz ((Ck T).mono Ap) e T.Cg.b .nil Aq (Aa (pv 0) (Aa (Abp (K:=K) U T.LK U T.Jm (Bu (K:=K) U (pv 1) ((CT T).mono Ap) e T.CW.b Aq)) (Aa (Al ((Fv T).mono Ap) e U T.written.m T.written.F.kp T.written.b .nil Aq (Aa Af (Aa (Cu (Aa (Bu (K:=K) U (pv 1) ((DG T).mono Ap) e T.DK.b Aq) Ab)) Ab))) Ab)))))),?_⟩;have D:=C.n40;refine⟨U,_,U,_,U,Gf T A λl1 n=>?_⟩;obtain⟨H1,q,s1,h⟩:=nu9 (o:=.lst (vS x)) (.refl _) n;rw[q];refine⟨l1,vS x,U,SqL.of h,(by rw[Be];lia),λB s=>?_⟩;rw[show(vS x).reverse=vS x.reverse by unfold vS;rw[List.map_reverse]];obtain⟨f,q,u,j⟩:=nu9 (o:=.lst (vS x.reverse)) s1 s;rw[q];refine⟨_,U,Im T (A.mono u) ?_⟩;refine⟨AG,λa i=>?_⟩;have z:Ba f (upd f a (.lst (vS [d]))):=.upd i;have y:(upd f a (.lst (vS [d]))) a=some (.lst (vS [d])):=Ae;refine⟨a,upW,[d],AE,SqL.of y,AA,hw,?_⟩;refine⟨t.GR,r,dx,B,_,_,U,(u.trans z) _ _ h1,T.Afa.c,T.SN,T.Ph,SqL.of (z _ _ j),λl G=>?_⟩;exact k.fin (u.trans z) h1 G
theorem Za(T:Txt K mg t):Bh P w K mg base CX0 6 t.Kh t.Q8 ["self", "inner"] (Afo K t t.Jd baW back):=by refine T.Rb.F.ok YJ ?_;rintro _ _ _ _ H _ Q E a ⟨r,dx,p,x,e,rfl,h1,u,C,hw,k⟩;refine⟨_,(Ad (Bg (HJ (BX (v:=.ref t.Eg) U T.Ik U) T.Gz ((Ck T).mono Ap) a T.Cg.b .nil Aq (Aa (pv 0) (Aa (Al ((Aip T).mono Ap) a U T.AaK.m T.AaK.F.kp T.AaK.b .nil Aq (Aa (Bu (K:=K) U (pv 1) ((CT T).mono Ap) a T.CW.b Aq) Ab)) (Aa (Al ((Fv T).mono Ap) a U T.written.m T.written.F.kp T.written.b .nil Aq (Aa Af (Aa (Cu (Aa (Bu (K:=K) U (pv 1) ((DG T).mono Ap) a T.DK.b Aq) Ab)) Ab))) Ab)))))),?_⟩;refine⟨U,_,U,_,U,Gf T u λl1 q=>?_⟩;have s1:Ba H (upd H l1 (.lst (vS x))):=.upd q;have h:(upd H l1 (.lst (vS x))) l1=some (.lst (vS x)):=Ae;refine⟨l1,x,wdt x,x.length,U,SqL.of h,C,λA f B y n=>?_⟩;have i:=s1.trans B;refine⟨_,U,Im T (u.mono i) ?_⟩;refine⟨AG,λd j=>?_⟩;have s:Ba f (upd f d (.lst (vS [e]))):=.upd j;have o:(upd f d (.lst (vS [e]))) d=some (.lst (vS [e])):=Ae;refine⟨d,baW,[e],AE,SqL.of o,AA,hw,?_⟩;refine⟨t.Jd,r,dx,A,_,_,U,(i.trans s) _ _ h1,T.Aii.c,T.Vq,T.QX,SqL.of (s _ _ n),λl z=>?_⟩;exact k.fin (i.trans s) h1 z
theorem Uo(T:Txt K mg t):Bh P w K mg base CX0 6 t.Hm t.Lq ["self", "inner"] (Afo K t t.Ew quW (λx=>Abx x (wdt x))):=by refine T.Ml.F.ok Ui ?_;rintro _ _ _ _ H _ Q E a ⟨r,dx,p,x,e,rfl,h1,u,C,hw,k⟩;refine⟨_,(Ad (Bg (HJ (BX (v:=.ref t.Eg) U T.Ik U) T.Gz ((Ck T).mono Ap) a T.Cg.b .nil Aq (Aa (pv 0) (Aa (Al ((Adi T).mono Ap) a U T.Qf.m T.Qf.F.kp T.Qf.b .nil Aq (Aa (Bu (K:=K) U (pv 1) ((CT T).mono Ap) a T.CW.b Aq) Ab)) (Aa (Al ((Fv T).mono Ap) a U T.written.m T.written.F.kp T.written.b .nil Aq (Aa Af (Aa (Cu (Aa (Bu (K:=K) U (pv 1) ((DG T).mono Ap) a T.DK.b Aq) Ab)) Ab))) Ab)))))),?_⟩;refine⟨U,_,U,_,U,Gf T u λl1 q=>?_⟩;have s1:Ba H (upd H l1 (.lst (vS x))):=.upd q;have h:(upd H l1 (.lst (vS x))) l1=some (.lst (vS x)):=Ae;refine⟨l1,x,wdt x,x.length,U,SqL.of h,C,λA f B y n=>?_⟩;have i:=s1.trans B;refine⟨_,U,Im T (u.mono i) ?_⟩;refine⟨AG,λd j=>?_⟩;have s:Ba f (upd f d (.lst (vS [e]))):=.upd j;have o:(upd f d (.lst (vS [e]))) d=some (.lst (vS [e])):=Ae;refine⟨d,quW,[e],AE,SqL.of o,AA,hw,?_⟩;refine⟨t.Ew,r,dx,A,_,_,U,(i.trans s) _ _ h1,T.YS.c,T.Pj,T.Mi,SqL.of (s _ _ n),λl z=>?_⟩;exact k.fin (i.trans s) h1 z
inductive ApP (K:NF)(t:Adr)(vs:Na)(H:Hp)(Q:VK)(E:XK):Prop
|mk(r:Addr)(dx:Addr)(p:Addr)(x:NN)(zx:NI)(a:Nat)(b:Nat)(_:vs=[.ref r,.ref p,.int (a:Int),.int (b:Int)])(_:H r=some (.ins t.HX dx []))(_:Pc t H p x zx)(_:Clo x)(_:a<100)(_:b<100)(_:(wz tiW [zx,dec a,dec b]).length<=1000000)(_:Oi t t.HX dx r H Q E (Zu x a b) (wz tiW [zx,dec a,dec b]))
theorem Yb(T:Txt K mg t):Bh P w K mg base (CX1 P w) 6 t.Kl t.Q9 ["self", "inner", "across", "along"] (ApP K t):=by
 refine T.Rg.F.okX Oo ?_;rintro _ _ _ _ H _ Q E d ⟨r,dx,p,x,f,a,b,rfl,h1,B,C,M,O,hw,k⟩;refine⟨_,(Ac (Bm (PW.pt (pw_or (Ak GZ (pv 2) Ah (Ar _)) (pw_or1 (Ak GZ (pv 3) Ah (Ar _)))))
   (Ad (Bx CQ U (λ_ _ z=>z) F.excBase_ValueError Cy F.excBase_ValueError T.BV.q U T.BW (Aa Af Ab)))
   Ao)
  (Ac (Bb (i:=4) Oo.nd U (Or.inl U) (Al ((Anr T).mono Ap) d U T.Ajj.m T.Ajj.F.kp T.Ajj.b .nil Cv (Aa (Bu (K:=K) U (pv 1) ((CT T).mono Ap) d T.CW.b Aq) (Aa (pv 2) (Aa (pv 3) Ab)))))
  (Ad (Bg (HJ (BX (v:=.ref t.Eg) U T.Ik U) T.Gz ((Ck T).mono Ap) d T.Cg.b .nil Aq (Aa (pv 0) (Aa (pv 4) (Aa (Al ((Fv T).mono Ap) d U T.written.m T.written.F.kp T.written.b .nil Aq (Aa Af (Aa (Cu (Aa (Bu (K:=K) U (pv 1) ((DG T).mono Ap) d T.DK.b Aq) (Aa (Cd Ec U T.Vn Nq (Aa (pv 2) Ab)) (Aa (Cd Ec U T.Vn Nq (Aa (pv 3) Ab)) Ab)))) Ab))) Ab)))))))),?_⟩;unfold Zu at k;have fin:=λg=>by
  rw[if_pos g] at k;exact k
 refine⟨_,U,_,_,U,U,_,U,?_⟩;refine Cw (λD=>?_) (λD=>?_)
 ·exact Ms ⟨Ap,fin (.inl Au) _ (GD (.refl _))⟩
 refine⟨_,U,_,_,U,U,_,U,?_⟩;refine Cw (λG=>?_) (λG=>?_)
 ·exact⟨Ap,fin (.inr Au) _ (GD (.refl _))⟩
 rw[if_neg At] at k;refine⟨_,U,Gf T B λl1 s=>?_⟩;have s1:Ba H (upd H l1 (.lst (vS x))):=.upd s;have j:(upd H l1 (.lst (vS x))) l1=some (.lst (vS x)):=Ae;refine⟨_,U,_,U,l1,x,wdt x,x.length,(a:Int),(b:Int),U,SqL.of j,C,Au,Au,λL I h J N o=>?_,λL H' s'=>?_⟩
 case' refine_2 =>
  rw[if_pos At] at k;exact k _ (GD (s1.trans s'))
 rw[if_neg At] at k;have u:=s1.trans J;refine⟨U,_,U,_,U,_,U,Im T (B.mono u) ?_⟩;refine⟨_,U,_,U,lg M,_,U,_,U,lg O,?_⟩;refine⟨AI,λe n=>?_⟩;have A:Ba h (upd h e (.lst (vS [f,dec a,dec b]))):=.upd n;have y:(upd h e (.lst (vS [f,dec a,dec b]))) e=some (.lst (vS [f,dec a,dec b])):=Ae;refine⟨e,tiW,[f,dec a,dec b],AE,SqL.of y,AA,hw,?_⟩;refine⟨t.HX,r,dx,I,_,_,U,(u.trans A) _ _ h1,T.Aij.c,T.Vr,T.QZ,SqL.of (A _ _ o),λl R=>?_⟩;exact k.fin (u.trans A) h1 R
theorem Anx(k:Nat):(List.replicate k [V.int 0,V.int 1]).flatten=vI (Ir k):=by
 induction k with
 | zero=>rfl
 | succ k a =>
  rw[Awt,Awl,a];rfl
theorem Zb(T:Txt K mg t):Bh P w K mg base (CX1 P w) 4 t.Lr t.Sq ["self", "upper", "lower"] (Ait K t t.Oq AhO laW):=by
 refine T.Tc.F.okX Q5 ?_;rintro _ _ _ _ H _ Q E d ⟨r,dx,p,q,x,y,j,h,rfl,h1,f,O,C,D,hw,k⟩;refine⟨_,(Ac (Bg (Al ((VH T).mono Ap) d U T.Ij.m T.Ij.F.kp T.Ij.b .nil Cv (Aa (pv 1) (Aa (pv 2) Ab))))
  (Ac (Bg (Al ((GC T).mono Ap) d U T.Dr.m T.Dr.F.kp T.Dr.b .nil Cv (Aa (Aj Rt Ah (Bu (K:=K) U (pv 1) ((Ej T).mono Ap) d T.Eh.b Aq)) (Aa (Aj Rt Ah (Bu (K:=K) U (pv 1) ((Ek T).mono Ap) d T.Ei.b Aq)) Ab))))
  (Ac (Bb (i:=3) Q5.nd U (Or.inl U) (Al ((YZ T).mono Ap) d U T.J3.m T.J3.F.kp T.J3.b .nil Aq (Aa (Cu (Aa (Bu (K:=K) U (pv 1) ((CT T).mono Ap) d T.CW.b Aq) (Aa (Bu (K:=K) U (pv 2) ((CT T).mono Ap) d T.CW.b Aq) Ab))) (Aa (Aj Aes (Cu (Aa Ah (Aa Ah Ab))) (Bu (K:=K) U (pv 1) ((Ej T).mono Ap) d T.Eh.b Aq)) (Aa (Aj Aes (Cu (Aa Ah (Aa Ah Ab))) (Bu (K:=K) U (pv 1) ((Ek T).mono Ap) d T.Ei.b Aq)) Ab)))))
  (Ad (Bg (HJ (BX (v:=.ref t.Eg) U T.Ik U) T.Gz ((Ck T).mono Ap) d T.Cg.b .nil Aq (Aa (pv 0) (Aa (pv 3) (Aa (Al ((Fv T).mono Ap) d U T.written.m T.written.F.kp T.written.b .nil Aq (Aa Af (Aa (Cu (Aa (Bu (K:=K) U (pv 1) ((DG T).mono Ap) d T.DK.b Aq) (Aa (Bu (K:=K) U (pv 2) ((DG T).mono Ap) d T.DK.b Aq) Ab))) Ab))) Ab))))))))),?_⟩;unfold AhO at k;have aa:=yA;refine⟨_,U,_,U,p,q,x,y,j,h,wdt x,x.length,wdt y,y.length,U,f,O,C,D,λW=>?_,λW=>?_⟩
 case' refine_2 =>
  rw[if_pos At] at k;exact k _ (GD (.refl _))
 rw[if_neg At] at k;refine⟨_,U,KR T f C ?_⟩;refine⟨_,_,U,U,.inl ⟨Ap,Ap⟩,?_⟩;refine⟨_,U,KY T f C ?_⟩;refine⟨_,_,U,U,.inl ⟨Ap,Ap⟩,?_⟩;refine⟨2*wdt x,2*x.length,AA,λz=>?_,λz H' s'=>?_⟩
 case' refine_2 =>
  rw[if_pos z] at k;exact k _ (GD s')
 rw[if_neg At] at k;refine⟨_,U,Gf T f λl1 a0=>?_⟩;obtain⟨H1,e,s1,a3⟩:=nu9 (o:=.lst (vS x)) (.refl _) a0;rw[e];refine⟨_,U,Gf T (O.mono s1) λl2 a6=>?_⟩;obtain⟨H2,e,s2,X⟩:=nu9 (o:=.lst (vS y)) (.refl _) a6;rw[e];refine⟨AH,λl3 S=>?_⟩;obtain⟨H3,e,s3,a1⟩:=nu9 (o:=.lst [V.ref l1,V.ref l2]) (.refl _) S;rw[e];refine⟨AH,λl4 a5=>?_⟩;obtain⟨H4,e,s4,I⟩:=nu9 (o:=.lst [V.int 0,V.int 1]) (.refl _) a5;rw[e];have u4:=((s1.trans s2).trans s3).trans s4;refine⟨_,U,KR T (f.mono u4) C ?_⟩;refine⟨_,_,_,U,U,I,Au,Au,AD,λl5 a8=>?_⟩;rw[AvZ,Anx];obtain⟨H5,e,s5,a9⟩:=nu9 (o:=.lst (vI (Ir (wdt x)))) (.refl _) a8;rw[e];refine⟨AH,λl6 a4=>?_⟩;obtain⟨J,e,B,M⟩:=nu9 (o:=.lst [V.int 0,V.int 1]) (.refl _) a4;rw[e];have u6:=(u4.trans s5).trans B;refine⟨_,U,KY T (f.mono u6) C ?_⟩;refine⟨_,_,_,U,U,M,Au,Au,AD,λn Y=>?_⟩;rw[AvZ,Anx];have Z:Ba J (upd J n (.lst (vI (Ir x.length)))):=.upd Y;have a7:(upd J n (.lst (vI (Ir x.length)))) n=some (.lst (vI (Ir x.length))):=Ae;have u7:=u6.trans Z;have N:=((s4.trans s5).trans B).trans Z;have D':Cl y (wdt x) x.length:=by rw[W.1,W.2];exact D
 refine⟨l3,l5,n,[l1,l2],[x,y],Ir (wdt x),Ir x.length,U,SqL.of (N _ _ a1),⟨U,λi a hi=>?_⟩,SqL.of ((B.trans Z) _ _ a9),SqL.of a7,AmC C D' z.1 z.2,λl8 A s9 ab L=>?_⟩
 ·rcases i with _ | _ | i
  ·cases hi;exact SqL.of (N _ _ (s3 _ _ (s2 _ _ a3)))
  ·cases hi;exact SqL.of (N _ _ (s3 _ _ X))
  ·simp at hi
 have s:=u7.trans s9;refine⟨U,_,U,_,U,_,U,Im T (f.mono s) ?_⟩;refine⟨_,U,Im T (O.mono s) ?_⟩;refine⟨AH,λu G=>?_⟩;have R:Ba A (upd A u (.lst (vS [j,h]))):=.upd G;have a2:(upd A u (.lst (vS [j,h]))) u=some (.lst (vS [j,h])):=Ae;refine⟨u,laW,[j,h],AE,SqL.of a2,AA,hw,?_⟩;refine⟨t.Oq,r,dx,l8,_,_,U,(s.trans R) _ _ h1,T.AmV.c,T.X8,T.SQ,SqL.of (R _ _ L),λl hl=>?_⟩;exact k.fin (s.trans R) h1 hl
def Oc (t:Adr)(H:Hp)(Q:VK)(E:XK)(R:Res)(z:NI):Prop:=match R with
 | .ok x=>∀ p H',Ba H H'->Pc t (nw H H') p x z->Q (.ref p) H'
 | .no f=>∀ H',Ba H H'->E (.ref (rfa t f)) none H'
theorem AdX(h1:H r=none)(h2:H dx=none)(s:Cq r (upd (upd H dx (.own r)) r (.ins C dx [])) H'):Ba H H':=λb o e=>by
 have n1:=Bc e h1;refine s b o n1 ?_;rw[Ai n1,Ai (Bc e h2)];exact e
theorem Ajx(s:Ba H H1):∀ b o,nw H1 H2 b=some o->nw H H2 b=some o:=AgO λb e=>by
 cases a:H b with
 | none=>rfl
 | some o=>rw[s _ _ a] at e;cases e
theorem Oc.same{R:Res}(k:Oc t H Q E R z)(s:Ba H H1):Oc t H1 Q E R z:=by
 cases R with
 | ok x=>exact λp H' s' a=>k p H' (s.trans s') (a.mono (Ajx s))
 | no f=>exact λH' s'=>k H' (s.trans s')
theorem Oc.make{R:Res}(k:Oc t H Q E R z)(i:C∈pcs t)(h1:H r=none)(h2:H dx=none):Oi t C dx r (upd (upd H dx (.own r)) r (.ins C dx [])) (λv H2=>v=.non/\Q (.ref r) H2) E R z:=by
 cases R with
 | ok x =>
  intro l H' a b d c;have j:H l=none:=by
   by_cases h:l=r
   ·rw[h];exact h1
   ·rw[Ai h] at b;by_cases e:l=dx
    ·rw[e];exact h2
    ·rw[Ai e] at b;exact b
  exact⟨U,k r H' (AdX h1 h2 a) ⟨C,dx,l,i,by rw[JK h1];exact c,by rw[JK j];exact d⟩⟩
 | no f=>exact λH' a=>k H' (AdX h1 h2 a)
inductive AtA (t:Adr) (H:Hp):Arg->V->Prop
 | num {n:Nat}:AtA t H (.num n) (.int (n:Int))
 | run {r:NI}:AtA t H (.run r) (.str (tx r))
 | cl {x:NN} {z:NI} {p:Addr}:Pc t H p x z->AtA t H (.cl x z) (.ref p)
theorem AtA.mono(s:∀ b o,H b=some o->H' b=some o){x:Arg}{v:V}(h:AtA t H x v):AtA t H' x v:=by
 cases h with
 | num=>exact .num
 | run=>exact .run
 | cl h=>exact .cl (h.mono s)
theorem FP(h1:H r=none)(h2:H dx=none):Ba H (upd (upd H dx (.own r)) r (.ins C dx [])):=λb o e=>by
 rw[Ai (Bc e h1),Ai (Bc e h2)];exact e
theorem Io:t.Gk∈pcs t/\t.HW∈pcs t/\t.Gm∈pcs t/\t.Fy∈pcs t/\t.GQ∈pcs t/\t.Fz∈pcs t/\t.GR∈pcs t/\t.Jd∈pcs t/\t.Ew∈pcs t/\t.HX∈pcs t/\t.Oq∈pcs t:=by simp[pcs]
inductive AtM (t:Adr)(vs:Na)(H:Hp)(Q:VK)(z3:XK):Prop
|mk(z:NI)(zx:NI)(x:NN)(p:Addr)(E:XK)(_:vs=[.str (tx z),.ref p])(_:(z=miW\/z=upW\/z=baW\/z=quW))(_:Pc t H p x zx)(_:Clo x)(_:(wz z [zx]).length<=1000000)(_:Oc t H Q E (AhN z x) (wz z [zx]))
theorem Rj{a:NI}(h:¬a=b):¬(V.str (tx a):V)=V.str (tx b):=λz=>h (by injection z with z;exact IK z)
theorem Acr(T:Txt K mg t):Bh P w K mg base CX0 8 t.Vh t.Vi ["word", "inner"] (AtM t):=by
 refine T.M7.F.ok AbA ?_;rintro _ _ _ _ H _ Q E i ⟨z,f,x,p,E',rfl,q,e,C,hw,k⟩;refine⟨_,(Ac (Bm (Ak Dd (pv 0) Af (Ar _))
   (Ad (Ay (Fb T.Aca.m ((VL T).mono Ap) i U T.AmU T.Ng.b .nil Aq (Aa (pv 1) Ab))))
   Ao)
  (Ac (Bm (Ak Dd (pv 0) Af (Ar _))
   (Ad (Ay (Fb T.Afa.m ((XX T).mono Ap) i U T.Ap5 T.Pr.b .nil Aq (Aa (pv 1) Ab))))
   Ao)
  (Ac (Bm (Ak Dd (pv 0) Af (Ar _))
   (Ad (Ay (Fb T.Aii.m ((Za T).mono Ap) i U T.ArT T.Rb.b .nil Aq (Aa (pv 1) Ab))))
   Ao)
  (Ad (Ay (Fb T.YS.m ((Uo T).mono Ap) i U T.AkF T.Ml.b .nil Aq (Aa (pv 1) Ab))))))),?_⟩;refine⟨_,U,U,_,U,?_⟩;by_cases j:z=miW
 ·subst j;exact⟨_,U,λr dx a c d=>⟨r,dx,p,x,f,U,Ae,e.mono (FP a c),C,hw,Oc.make k Io.2.2.2.2.2.1 a c⟩⟩
 refine Ea (Rj j) ?_;refine⟨_,U,U,_,U,?_⟩;by_cases l:z=upW
 ·subst l;exact⟨_,U,λr dx a c d=>⟨r,dx,p,x,f,U,Ae,e.mono (FP a c),C,hw,Oc.make k Io.2.2.2.2.2.2.1 a c⟩⟩
 refine Ea (Rj l) ?_;refine⟨_,U,U,_,U,?_⟩;by_cases n:z=baW
 ·subst n;exact⟨_,U,λr dx a c d=>⟨r,dx,p,x,f,U,Ae,e.mono (FP a c),C,hw,Oc.make k Io.2.2.2.2.2.2.2.1 a c⟩⟩
 have o:z=quW:=by
  rcases q with h | h | h | h
  ·exact absurd h j
  ·exact absurd h l
  ·exact absurd h n
  ·exact h
 subst o;exact⟨_,U,λr dx a c d=>⟨r,dx,p,x,f,U,Ae,e.mono (FP a c),C,hw,Oc.make k Io.2.2.2.2.2.2.2.2.1 a c⟩⟩
inductive AtO (t:Adr)(vs:Na)(H:Hp)(Q:VK)(E:XK):Prop
|mk(z:NI)(a:Arg)(b:Arg)(va:V)(vb:V)(_:vs=[.str (tx z),va,vb])(_:¬z=Pat.FQ)(_:¬z=saW)(_:Fit z [a,b])(_:AtA t H a va)(_:AtA t H b vb)(_:(wz z [wrA a,wrA b]).length<=1000000)(_:Oc t H Q E (made z [a,b]) (wz z [wrA a,wrA b]))
theorem Aa4(T:Txt K mg t):Bh P w K mg base (CX1 P w) 6 t.Vj t.Vk ["word", "one", "other"] (AtO t):=by
 refine T.M8.F.okX AbB ?_;rintro _ _ _ _ H _ Q E l ⟨z,a,b,N,M,rfl,p,q,F,A,B,hw,k⟩;refine⟨_,(Ac (Bm (Ak Dd (pv 0) Af (Ar _))
   (Ad (Ay (Fb T.AeY.m ((VG T).mono Ap) l U T.Ap3 T.Pn.b .nil Cv (Aa (pv 1) (Aa (pv 2) Ab)))))
   Ao)
  (Ac (Bm (Ak Dd (pv 0) Af (Ar _))
   (Ad Gn)
   Ao)
  (Ac (Bm (Ak Dd (pv 0) Af (Ar _))
   (Ad (Ay (Fb T.AbV.m ((Um T).mono Ap) l U T.AmT T.Nf.b .nil Cv (Aa (pv 1) (Aa (pv 2) Ab)))))
   Ao)
  (Ac (Bm (Ak Dd (pv 0) Af (Ar _))
   (Ad (Ay (Fb T.AeZ.m ((VJ T).mono Ap) l U T.Ap4 T.Pq.b .nil Cv (Aa (pv 1) (Aa (pv 2) Ab)))))
   Ao)
  (Ad (Ay (Fb T.AmV.m ((Zb T).mono Ap) l U T.AtB T.Tc.b .nil Cv (Aa (pv 1) (Aa (pv 2) Ab))))))))),?_⟩;have h:(∃ m n,(z=twW\/z=saW)/\a=.num m/\b=.num n/\m<100/\n<100)\/∃ x j y i,(z=beW\/z=abW\/z=laW)/\a=.cl x j/\b=.cl y i/\Clo x/\Clo y:=by
  generalize has:[a,b]=as at F;cases F with
  | rows h1 h2 u=>exact absurd U p
  | nums w h1 h2=>cases has;exact .inl ⟨_,_,w,U,U,h1,h2⟩
  | one w h1=>cases has
  | two w h1 h2=>cases has;exact .inr ⟨_,_,_,_,w,U,U,h1,h2⟩
  | tile h1 h2 u=>cases has
  | blk h1 h2 u=>cases has
 rcases h with ⟨m,n,w,rfl,rfl,G,hn⟩ | ⟨x,j,y,i,w,rfl,rfl,C,D⟩
 ·cases A;cases B;refine⟨_,U,U,_,U,?_⟩;by_cases f:z=twW
  ·subst f;exact⟨_,U,_,U,λr dx c d e=>⟨r,dx,m,n,U,Ae,G,hn,Oc.make k Io.2.2.1 c d⟩⟩
  exact absurd (w.resolve_left f) q
 ·obtain _ | _ | o:=A;obtain _ | _ | s:=B;have L:¬z=twW:=by rcases w with rfl | rfl | rfl <;> decide
  have I:¬z=saW:=AD
  refine⟨_,U,U,_,U,?_⟩;refine Ea (Rj L) ?_;refine⟨_,U,U,_,U,?_⟩;refine Ea (Rj I) ?_;refine⟨_,U,U,_,U,?_⟩;by_cases f:z=beW
  ·subst f;exact⟨_,U,_,U,λr dx c d e=>⟨r,dx,_,_,x,y,j,i,U,Ae,o.mono (FP c d),s.mono (FP c d),C,D,hw,Oc.make k Io.2.2.2.1 c d⟩⟩
  refine Ea (Rj f) ?_;refine⟨_,U,U,_,U,?_⟩;by_cases v:z=abW
  ·subst v;exact⟨_,U,_,U,λr dx c d e=>⟨r,dx,_,_,x,y,j,i,U,Ae,o.mono (FP c d),s.mono (FP c d),C,D,hw,Oc.make k Io.2.2.2.2.1 c d⟩⟩
  have J:=(w.resolve_left f).resolve_left v;subst J;exact⟨_,U,_,U,λr dx c d e=>⟨r,dx,_,_,x,y,j,i,U,Ae,o.mono (FP c d),s.mono (FP c d),C,D,hw,Oc.make k Io.2.2.2.2.2.2.2.2.2.2 c d⟩⟩
inductive AtQ (K:NF)(t:Adr)(vs:Na)(H:Hp)(Q:VK)(E:XK):Prop
|mk(z:NI)(a:Arg)(b:Arg)(c:Arg)(va:V)(vb:V)(vc:V)(l:Addr)(_:vs=[.str (tx z),.ref l])(_:SqL K H l [va,vb,vc])(_:¬z=Pat.FQ)(_:¬z=blW)(_:Fit z [a,b,c])(_:AtA t H a va)(_:AtA t H b vb)(_:AtA t H c vc)(_:(wz z [wrA a,wrA b,wrA c]).length<=1000000)(_:Oc t H Q E (made z [a,b,c]) (wz z [wrA a,wrA b,wrA c]))
theorem Yc(T:Txt K mg t):Bh P w K mg base (CX1 P w) 9 t.QL t.QM ["word", "things"] (AtQ K t):=by
 refine T.J4.F.okX Y9 ?_;rintro _ _ _ _ H _ Q E N ⟨z,a,b,c,o,i,j,l,rfl,s,p,q,F,O,R,hc,hw,k⟩;refine⟨_,(Ac (Bm (Ak Dd (pv 0) Af (Ar _))
   (Ad (Ay (Fb T.Aij.m ((Yb T).mono Ap) N U T.ArU T.Rg.b .nil Cv (Aa (Bw (Bf (K:=K)) (pv 1) Ah (λ_ _=>rfl)) (Aa (Bw (Bf (K:=K)) (pv 1) Ah (λ_ _=>rfl)) (Aa (Bw (Bf (K:=K)) (pv 1) Ah (λ_ _=>rfl)) Ab))))))
   Ao)
  (Ad Gn)),?_⟩;have I:atI [o,i,j] 0=some o:=BL Ap U;have S:atI [o,i,j] 1=some i:=BL Ap U;have J:atI [o,i,j] 2=some j:=BL Ap U;have e:(∃ x d m n,z=tiW/\a=.cl x d/\b=.num m/\c=.num n/\Clo x/\m<100/\n<100)\/∃ v G x d y A,z=blW/\a=.cl v G/\b=.cl x d/\c=.cl y A/\Clo v/\Clo x/\Clo y:=by
  generalize has:[a,b,c]=as at F;cases F with
  | rows h1 h2 u=>exact absurd U p
  | nums w h1 h2=>cases has
  | one w h1=>cases has
  | two w h1 h2=>cases has
  | tile h1 h2 u=>simp_all
  | blk h1 h2 u=>grind
 refine⟨_,U,U,_,U,?_⟩;rcases e with ⟨x,d,m,n,rfl,rfl,rfl,rfl,C,L,hn⟩ | ⟨v,G,x,d,y,A,rfl,rfl,rfl,rfl,B,C,D⟩
 ·obtain _ | _ | M:=O;cases R;cases hc;exact⟨_,U,_,_,_,_,U,U,s,I,_,U,_,_,_,_,U,U,s,S,_,U,_,_,_,_,U,U,s,J,λr dx f h W=>⟨r,dx,_,x,d,m,n,U,Ae,M.mono (FP f h),C,L,hn,hw,Oc.make k Io.2.2.2.2.2.2.2.2.2.1 f h⟩⟩
 ·exact absurd U q
def Kn (H:Hp)(kp:Addr)(kn:Kns):Prop:=∃ as:NU,H kp=some (.lst (as.map V.ref))/\as.length=kn.length/\∀(i:Nat)(a:Addr)(p:NI × NN),as[i]?=some a->kn[i]?=some p->∃ q,H a=some (.tup [.str (tx p.1),.ref q])/\H q=some (.lst (vS p.2))
theorem Kn.same{kn:Kns}(h:Kn H kp kn)(s:Ba H H'):Kn H' kp kn:=by obtain⟨as,h1,h2,d⟩:=h;refine⟨as,s _ _ h1,h2,λi a p g1 g2=>?_⟩;obtain⟨q,c,b⟩:=d i a p g1 g2;exact⟨q,s _ _ c,s _ _ b⟩
inductive Anz (t:Adr)(vs:Na)(H:Hp)(Q:VK)(E:XK):Prop
|mk(z:NI)(kp:Addr)(kn:Kns)(_:vs=[.str (tx z),.ref kp])(_:Kn H kp kn)(_:(∀ x q,known kn z=.ok x->H q=some (.lst (vS x))->Q (.ref q) H))(_:(known kn z=.no .unk->E (.ref t.Dl) none H))
theorem Aa5(T:Txt K mg t):Bh P w K mg base (CX1 P w) 1 t.Vf t.Vg ["name", "known"] (Anz t):=by
 refine T.M6.F.okX Lj ?_;rintro _ _ _ _ H _ Q E r ⟨z,kp,kn,rfl,⟨as,h1,h2,m⟩,k1,k2⟩;refine⟨_,(Ac (PS.nox (Ep PassesOwn.never U (BP (K:=K) (pv 1)) (JQ U (CK (BJ (i:=2) Lj.nd U (Or.inl U)) (CK (BJ (i:=3) Lj.nd U (Or.inl U)) Hg)))
   (Ad (Bm (Ak Dd (pv 2) (pv 0) (Ar _))
    (Ad (Ay (pv 3)))
    Ao))))
  (Ad (Bx CQ U (λ_ _ z=>z) F.excBase_ValueError Cy F.excBase_ValueError T.YQ.q U T.AdS (Aa Af Ab)))),?_⟩;refine⟨_,U,_,U,⟨_,SqL.of h1⟩,Gb (λi σ H2=>∃ f h,σ=[some (.str (tx z)),some (.ref kp),f,h]/\H2=H/\∀ p∈kn.take i,¬p.1=z) ⟨none,none,U,U,λp b=>by simp at b⟩ (λi σ H2 _ ⟨_,_,_,e,_⟩=>by rw[e];exact SqL.of h1) ?_ ?_⟩
 ·rintro i s σ H2 d ⟨f,h,rfl,rfl,no⟩;rw[AvS] at d;cases ea:as[i]? with
  | none=>simp_all
  | some a =>
   rw[ea] at d;cases d;have hi:i<kn.length:=by rw[<- h2];exact(zC.mp ea).1
   have k:=AvM hi;obtain⟨q,l,n⟩:=m i a _ ea k;refine⟨a,_,U,SqT.of l,U,_,_,U,_,_,U,U,?_⟩;refine⟨_,U,_,U,U,_,U,?_⟩;by_cases c:kn[i].1=z
   ·refine Gq (by rw[c]) ?_;refine⟨_,U,k1 kn[i].2 q ?_ n⟩;unfold known;have:kn.find? (λp=>decide (p.1=z))=some kn[i]:=by
     rw[List.find?_eq_some_iff_getElem];refine⟨by simpa using c,i,hi,U,λj o=>?_⟩;have:= no kn[j] (List.mem_iff_getElem?.mpr ⟨j,AB⟩)
     simpa using this
    rw[this]
   ·refine Ea (Rj c) ?_;refine⟨_,_,U,U,λp b=>?_⟩;rw[AvT,k] at b;rcases zG.mp b with b | b
    ·exact no p b
    ·rw[Option.toList_some,zF] at b;rw[b];exact c
 ·rintro σ H2 ⟨f,h,rfl,rfl,no⟩;rw[AvK,h2,Awa] at no;refine⟨Ap,k2 ?_⟩;unfold known;have:kn.find? (λp=>decide (p.1=z))=none:=List.find?_eq_none.mpr λp b=>by simpa using no p b
  rw[this]
def Nsb:Nat->Nd->Prop
 | d+1,.node z ts=>(¬z=saW/\¬z=blW)/\∀ x∈ts,Nsb d x
 | _,_=>True
inductive An0 (t:Adr)(d:Nat)(vs:Na)(H:Hp)(Q:VK)(E:XK):Prop
|mk(x:Nd)(v:V)(kp:Addr)(kn:Kns)(_:vs=[v,.ref kp])(_:Wd d x)(_:Nsb d x)(_:AtN H x v)(_:(wr d x).length<=1000000)(_:Kn H kp kn)(_:(∀ p∈kn,Clo p.2))(_:Oc t H Q E (out kn d x) (wr d x))
def AgX (t:Adr)(H:Hp)(as:List Arg)(vs:Na):Prop:=vs.length=as.length/\∀(i:Nat)(a:Arg)(v:V),as[i]?=some a->vs[i]?=some v->AtA t H a v
theorem AgX.snoc{ts:List Arg}{x:Arg}{v:V}(h:AgX t H ts vs)(a:AtA t H x v):AgX t H (ts++[x]) (vs++[v]):=by
 refine⟨by rw[AvL,AvL,h.1];rfl,λi y w g1 g2=>?_⟩;by_cases c:i<ts.length
 ·rw[Awg c] at g1;rw[Awg (by rw[h.1];exact c)] at g2;exact h.2 i y w g1 g2
 ·have e:i=ts.length:=by
   have:=(zC.mp g1).1;rw[AvL,Awz] at this;omega
  subst e;rw[Awi (AvN _),AwJ] at g1;rw[Awi (by rw[h.1];exact AvN _),h.1,AwJ] at g2;cases g1;cases g2;exact a
theorem AgX.mono(s:∀ b o,H b=some o->H' b=some o){ts:List Arg}(h:AgX t H ts vs):AgX t H' ts vs:=⟨h.1,λi x v g1 g2=>(h.2 i x v g1 g2).mono s⟩
theorem Ajy(s:Ba H1 H2):∀ b o,nw H H1 b=some o->nw H H2 b=some o:=λb o h=>by
 have g:=Nh h;rw[JK g.1];exact s _ _ g.2
theorem AgY{kn:Kns}:out kn (d+1) (.node z ts)=match args (out kn d) (wr d) ts with
  | .inl f=>.no f
  | .inr as=>made z as:=rfl
theorem ApQ(h:Wd (d+1) (.node z ts)):1<=ts.length/\ts.length<=40/\(¬z=Pat.FQ->ts.length<=3):=by
 cases h with
 | rows h1 h2 a=>rw[AvK];exact⟨zZ.mpr h1,h2,λc=>absurd U c⟩
 | nums w _ _=>exact⟨AA,AA,AA⟩
 | one w _=>exact⟨AA,AA,AA⟩
 | two w _ _=>exact⟨AA,AA,AA⟩
 | tile _ _ _=>exact⟨AA,AA,AA⟩
 | blk _ _ _=>exact⟨AA,AA,AA⟩
theorem An1(h:Wd (d+1) (.node z ts)){x:Nd}(a:ts[i]?=some x):(∃ n,x=.num n)\/(∃ r,x=.run r)\/Wd d x:=by
 cases h with
 | rows h1 h2 b =>
  rw[AvS] at a;cases e:(_:NN)[i]? with
  | none=>rw[e] at a;cases a
  | some r=>rw[e] at a;cases a;exact .inr (.inl ⟨r,U⟩)
 | nums w _ _ =>
  rcases yG.mp (AvX a) with rfl | h
  ·exact .inl ⟨_,U⟩
  ·exact .inl ⟨_,zF.mp h⟩
 | one w h1=>rw[zF.mp (AvX a)];exact .inr (.inr h1)
 | two w h1 h2 =>
  rcases yG.mp (AvX a) with rfl | h
  ·exact .inr (.inr h1)
  ·rw[zF.mp h];exact .inr (.inr h2)
 | tile h1 _ _ =>
  rcases yG.mp (AvX a) with rfl | h
  ·exact .inr (.inr h1)
  ·rcases yG.mp h with rfl | h
   ·exact .inl ⟨_,U⟩
   ·exact .inl ⟨_,zF.mp h⟩
 | blk h1 h2 b =>
  rcases yG.mp (AvX a) with rfl | h
  ·exact .inr (.inr h1)
  ·rcases yG.mp h with rfl | h
   ·exact .inr (.inr h2)
   ·rw[zF.mp h];exact .inr (.inr b)
theorem Acs(hk:8<=k)(T:Txt K mg t)(a6:Bh P w K mg base (CX1 P w) (k+1) t.KD t.KH ["node", "known"] (An0 t d)):Bh P w K mg base (CX1 P w) (k+2) t.KD t.KH ["node", "known"] (An0 t (d+1)):=by
 refine T.Ho.F.okX U3 ?_;rintro _ _ _ _ H _ Q E R ⟨x,v,kp,kn,rfl,W,NS,hv,hw,hK,hC,k0⟩;refine⟨_,(Ac (Bm (Ak Ahs (Bw (Gi (K:=K)) (pv 0) Ah (λ_ _=>rfl)) Rp (Ar _))
   (Ad (Ay (Fb T.AeU.m ((XR T).mono At) R U T.Ap2 T.Pk.b .nil Aq (Aa (Bw (Gi (K:=K)) (pv 0) Ah (λ_ _=>rfl)) (Aa (Al ((Aa5 T).mono At) R U T.M6.m T.M6.F.kp T.M6.b .nil Cv (Aa (Bw (Gi (K:=K)) (pv 0) Ah (λ_ _=>rfl)) (Aa (pv 1) Ab))) Ab)))))
   Ao)
  (Ac (Ab3 (i:=2) (E':=E) CQ (λ_ _ z=>z) (CP.mk (Bj:=[1]) (Nc:=["thing", "known"]) U As As (Cr (sc0:=Ag Qd) U As) U rfl U As (λk j h=>match k,h with | 0,h=>by obtain rfl:=Option.some.inj h;exact⟨_,U,U,U⟩ | _+1,h=>by simp at h)) U U3.nd U rfl (BP (K:=K) (Bw (Gi (K:=K)) (pv 0) Ah (λ_ _=>rfl))) (λ_ _ _ _ _=>.nil) (λ_ _ _ _ _=>(Rq (Fl (Az (Ad4 (K:=K)) U T.Xz Uq (Aa (pv 0) (Aa (Ai3 (v:=.ty "tuple") U T.Apz AlO U) Ab)))) (Al (a6.mono At) R U T.Ho.m T.Ho.F.kp T.Ho.b .nil AmO (Aa (pv 0) (Aa (pv 1) Ab))) (pv 0))) U)
  (Ac (Bm (Ak Dd (Bw (Gi (K:=K)) (pv 0) Ah (λ_ _=>rfl)) Af (Ar _))
   (Ad (Ay (Fb T.Aih.m ((XS T).mono At) R U T.ArS T.Ra.b .nil Cv (Aa (pv 2) Ab))))
   Ao)
  (Ac (Bm (Ak Dd (Az (Ax (K:=K)) U T.Ca Bv (Aa (pv 2) Ab)) Ah (Ar _))
   (Ad (Ay (Al ((Acr T).mono At) R U T.M7.m T.M7.F.kp T.M7.b .nil Aq (Aa (Bw (Gi (K:=K)) (pv 0) Ah (λ_ _=>rfl)) (Aa (Bw (Bf (K:=K)) (pv 2) Ah (λ_ _=>rfl)) Ab)))))
   Ao)
  (Ac (Bm (Ak Dd (Az (Ax (K:=K)) U T.Ca Bv (Aa (pv 2) Ab)) Ah (Ar _))
   (Ad (Ay (Al ((Yc T).mono At) R U T.J4.m T.J4.F.kp T.J4.b .nil Cv (Aa (Bw (Gi (K:=K)) (pv 0) Ah (λ_ _=>rfl)) (Aa (pv 2) Ab)))))
   Ao)
  (Ad (Ay (Al ((Aa4 T).mono At) R U T.M8.m T.M8.F.kp T.M8.b .nil Cv (Aa (Bw (Gi (K:=K)) (pv 0) Ah (λ_ _=>rfl)) (Aa (Bw (Bf (K:=K)) (pv 2) Ah (λ_ _=>rfl)) (Aa (Bw (Bf (K:=K)) (pv 2) Ah (λ_ _=>rfl)) Ab))))))))))),?_⟩;cases hv with
 | num=>cases W
 | run=>cases W
 | nam S =>
  rename_i z a;have Y:atI [V.str (tx z),V.non] 0=some (.str (tx z)):=BL Ap U;have a1:atI [V.str (tx z),V.non] 1=some .non:=BL Ap U;rw[AeH,AhP] at k0;refine⟨_,U,_,_,_,_,U,U,SqT.of S,a1,U,_,U,?_⟩;refine Gq U ?_;refine⟨_,U,_,_,_,_,U,U,SqT.of S,Y,_,U,_,_,_,_,U,U,SqT.of S,Y,_,U,z,kp,kn,U,hK,λxx q e hq=>?_,λe=>?_⟩
  ·rw[e] at k0;exact λr dx G J a9=>⟨r,dx,q,xx,z,U,Ae,SqL.of (FP G J _ _ hq),Oc.make k0 Io.1 G J⟩
  ·rw[e] at k0;exact k0 _ (.refl _)
 | node S hq hl hN =>
  rename_i z ts a q vs;have wl:=ApQ W;have Y:atI [V.str (tx z),V.ref q] 0=some (.str (tx z)):=BL Ap U;have a1:atI [V.str (tx z),V.ref q] 1=some (.ref q):=BL Ap U;refine⟨_,U,_,_,_,_,U,U,SqT.of S,a1,U,_,U,?_⟩;refine Ea (λz=>nomatch z) ?_;refine⟨_,U,_,_,_,_,U,U,SqT.of S,a1,_,U,⟨_,SqL.of hq⟩,?_⟩;refine Dk (K:=K) (a:=q) (xs:=vs) (λi ys H2=>Ba H H2/\∃ as,args (out kn d) (wr d) (ts.take i)=.inr as/\AgX t (nw H H2) as ys) ⟨.refl _,[],U,U,λi a v g=>by simp at g⟩ ?_ ?_ ?_ ?_
  ·rintro i ys H2 hi ⟨C,as,ea,Z⟩;refine⟨SqL.of (C _ _ hq),?_⟩;rw[Z.1,Abz ea,AvW];exact AwS _ _
  ·rw[hl];exact Cm wl.2.1
  ·rintro i xv ys H2 hi hx ⟨C,as,ea,Z⟩;refine Eo.no ?_;have a2:i<ts.length:=by rw[<- hl];exact hi
   have ex:=AvM a2;have et:ts.take (i+1)=ts.take i++[ts[i]]:=by rw[AvT,ex];rfl
   have I:=hN i _ xv ex hx;have N:=Apt (d:=d) (z:=z) (Awh a2);have a4:Nsb d ts[i]:=NS.2 _ (Awh a2);generalize ts[i]=x at ex et I N a4;have sn:=AdD (x:=x) ea;rw[<- et] at sn;rcases An1 W ex with ⟨n,rfl⟩ | ⟨r,rfl⟩ | Wx
   ·cases I;refine⟨_,U,_,_,false,.int _,.inl ⟨_,U,U⟩,_,U,?_⟩;refine JS ?_;refine⟨_,U,?_⟩;exact CN.of hi ⟨C,_,sn,Z.snoc .num⟩
   ·cases I;refine⟨_,U,_,_,false,.str _,.inl ⟨_,U,U⟩,_,U,?_⟩;refine JS ?_;refine⟨_,U,?_⟩;exact CN.of hi ⟨C,_,sn,Z.snoc .run⟩
   ·rw[AmD Wx] at sn;obtain⟨ra,ro,rfl,a7⟩:∃ ra ro,xv=.ref ra/\H2 ra=some (.tup ro):=by
     cases I with
     | num=>cases Wx
     | run=>cases Wx
     | nam h=>exact⟨_,_,U,C _ _ h⟩
     | node h _ _ _=>exact⟨_,_,U,C _ _ h⟩
    refine⟨_,U,_,_,true,.tup a7,.inl ⟨_,U,AgU K "tuple"⟩,_,U,?_⟩;refine Ms ?_;refine⟨_,U,_,U,x,.ref ra,kp,kn,U,Wx,a4,I.mono C,At,hK.same C,hC,?_⟩;cases eo:out kn d x with
    | ok r =>
     rw[eo] at sn;intro p H3 s3 hp;have u3:=C.trans s3;exact CN.of hi ⟨u3,_,sn,(Z.mono (Ajy s3)).snoc (.cl (hp.mono (Ajx C)))⟩
    | no f =>
     rw[eo] at sn;intro H3 s3;have en:args (out kn d) (wr d) ts=.inl f:=by
      have:=AiO (us:=ts.drop (i+1)) sn;rw[AwC] at this;exact this
     rw[AgY,en] at k0;exact k0 H3 (C.trans s3)
  ·rintro ys H2 l ⟨C,as,ea,Z⟩ a3;rw[hl,Awa] at ea;have F:=AmG (λW e=>AiT hC W e) W ea;have ew:=AiN ea;rw[AgY,ea] at k0;have a8:wr (d+1) (.node z ts)=wz z (as.map wrA):=by rw[ew];rfl
   rw[a8] at k0 hw;dsimp only at k0;have al:=Abz ea;have u3:Ba H (upd H2 l (.lst ys)):=C.new a3;have u:(upd H2 l (.lst ys)) l=some (.lst ys):=Ae;have A:AgX t (upd H2 l (.lst ys)) as ys:=(Z.mono (Ajy (.upd a3))).mono (λb o e=>(Nh e).2);have k3:=k0.same u3;generalize upd H2 l (.lst ys)=H3 at u3 u A k3 ⊢;have M:=u3 _ _ S;refine⟨_,U,_,_,_,_,U,U,SqT.of M,Y,U,_,U,?_⟩;rw[Afk];by_cases c:z=Pat.FQ
   ·refine Gq (by rw[c]) ?_;obtain⟨rs,rfl,r1,r2,r3⟩:∃ rs,as=rs.map Arg.run/\rs≠[]/\rs.length<=40/\∀ r∈rs,r≠[]/\∀ c∈r,Sg c:=by
     cases F with
     | rows h1 h2 h3=>exact⟨_,U,h1,h2,h3⟩
     | nums w _ _=>rcases w with rfl | rfl <;> exact absurd c Ap
     | one w _=>rcases w with rfl | rfl | rfl | rfl <;> exact absurd c Ap
     | two w _ _=>rcases w with rfl | rfl | rfl <;> exact absurd c Ap
     | tile _ _ _=>exact absurd c Ap
     | blk _ _ _=>exact absurd c Ap
    have ey:ys=vS rs:=by
     apply AwV;intro i;unfold vS;rw[AvS];cases e1:rs[i]? with
     | none =>
      have h1:=List.getElem?_eq_none_iff.mp e1;have h2:=A.1;rw[AvK] at h2;exact AwE At
     | some r =>
      have h1:=(zC.mp e1).1;have h2:=A.1;rw[AvK] at h2;have hy:i<ys.length:=At
      have:=A.2 i (.run r) ys[i] (by rw[AvS,e1];rfl) (AvM hy);rw[AvM hy];generalize ys[i]=yv at this ⊢;cases this;rfl
    have a5:(rs.map Arg.run).map wrA=rs:=by rw[Aw0];exact Aw8 _
    have em:made z (rs.map Arg.run)=Aby rs:=by unfold made;rw[if_pos c,Yz]
    rw[a5,c] at hw;rw[em,a5,c] at k3;refine⟨_,U,λr dx G J a9=>⟨r,dx,l,rs,U,Ae,SqL.of (by rw[<- ey];exact FP G J _ _ u),r1,r2,hw,Oc.make k3 Io.2.1 G J⟩⟩
   refine Ea (Rj c) ?_;have l3:=wl.2.2 c;rw[<- al,<- A.1] at l3;have l1:1<=ys.length:=by rw[A.1,al];exact wl.1
   refine⟨_,U,_,_,U,.inl (SqL.of u),U,_,U,?_⟩;obtain⟨s,D⟩:=A;rcases ys with _ | ⟨L,_ | ⟨O,_ | ⟨v3,_ | ⟨v4,ys⟩⟩⟩⟩
   ·simp at l1
   ·obtain⟨y,rfl⟩:∃ y,as=[y]:=List.length_eq_one_iff.mp s.symm;refine Gq U ?_;have g1:=D 0 y L U rfl;have c0:atI [L] 0=some L:=BL Ap U;obtain⟨x,zx,ww,rfl,Cx⟩:∃ x zx,(z=miW\/z=upW\/z=baW\/z=quW)/\y=.cl x zx/\Clo x:=by
     generalize has:[y]=as at F;cases F with
     | rows h1 h2 h3=>exact absurd U c
     | nums w h1 h2=>cases has
     | one w h1=>cases has;exact⟨_,_,w,U,h1⟩
     | two w h1 h2=>cases has
     | tile h1 h2 h3=>cases has
     | blk h1 h2 h3=>cases has
    obtain _ | _ | hp:=g1;have em:made z [.cl x zx]=AhN z x:=by unfold made;rw[if_neg c]
    rw[em] at k3;exact⟨_,U,_,_,_,_,U,U,SqT.of M,Y,_,U,_,_,_,_,U,U,SqL.of u,c0,z,zx,x,_,E,U,ww,hp,Cx,hw,k3⟩
   ·obtain⟨y,B,rfl⟩:∃ y B,as=[y,B]:=by
     rcases as with _ | ⟨y,_ | ⟨B,_ | ⟨X,as⟩⟩⟩
     ·simp at s
     ·simp at s
     ·exact⟨y,B,U⟩
     ·simp at s
    refine Ea (by show ¬(V.int 2:V)=V.int 1;decide) ?_;refine⟨_,U,_,_,U,.inl (SqL.of u),U,_,U,?_⟩;refine Ea (by show ¬(V.int 2:V)=V.int 3;decide) ?_;have c0:atI [L,O] 0=some L:=BL Ap U;have c1:atI [L,O] 1=some O:=BL Ap U;exact⟨_,U,_,_,_,_,U,U,SqT.of M,Y,_,U,_,_,_,_,U,U,SqL.of u,c0,_,U,_,_,_,_,U,U,SqL.of u,c1,z,y,B,L,O,U,c,NS.1.1,F,D 0 y L U rfl,D 1 B O U rfl,hw,k3⟩
   ·obtain⟨y,B,X,rfl⟩:∃ y B X,as=[y,B,X]:=by
     rcases as with _ | ⟨y,_ | ⟨B,_ | ⟨X,_ | ⟨b4,as⟩⟩⟩⟩
     ·simp at s
     ·simp at s
     ·simp at s
     ·exact⟨y,B,X,U⟩
     ·simp at s
    refine Ea (by show ¬(V.int 3:V)=V.int 1;decide) ?_;refine⟨_,U,_,_,U,.inl (SqL.of u),U,_,U,?_⟩;refine Gq U ?_;exact⟨_,U,_,_,_,_,U,U,SqT.of M,Y,_,U,z,y,B,X,L,O,v3,l,U,SqL.of u,c,NS.1.2,F,D 0 y L U rfl,D 1 B O U rfl,D 2 X v3 U rfl,hw,k3⟩
   ·simp at l3
theorem AdY(T:Txt K mg t):∀ d,Bh P w K mg base (CX1 P w) (d+9) t.KD t.KH ["node", "known"] (An0 t d)
 | 0=>⟨λ_ _ _ _ h=>(by obtain⟨x,v,kp,kn,_,W,_⟩:=h;cases W),λ_ _ _ _ _ _ _ _ _ _ _ _ _ h=>(by obtain⟨x,v,kp,kn,_,W,_⟩:=h;cases W)⟩
 | d+1=>Acs (k:=d+8) At T (AdY T d)
inductive ApR (t:Adr)(vs:Na)(H:Hp)(Q:VK)(E:XK):Prop
|mk(u:NI)(kp:Addr)(kn:Kns)(_:vs=[.str (tx u),.ref kp])(_:u.length<=1000000)(_:Kn H kp kn)(_:(∀ p∈kn,Clo p.2))(_:(∀ x,Pat.whole u=some x->Nsb 12 x))(_:Oc t H Q E (rdp kn u).1 (rdp kn u).2)
theorem Zc(T:Txt K mg t):Bh P w K mg base (CX1 P w) 31 t.S5 t.S6 ["text", "known"] (ApR t):=by
 refine T.KJ.F.okX Aas ?_;rintro _ _ _ _ H _ Q E a ⟨u,kp,kn,rfl,d,h,i,c,k⟩;refine⟨_,(Ad (Ay (Al ((AdY T 12).mono Ap) a U T.Ho.m T.Ho.F.kp T.Ho.b .nil Cv (Aa (Al ((Acl T).mono Ap) a U T.Qh.m T.Qh.F.kp T.Qh.b .nil Cv (Aa (pv 0) Ab)) (Aa (pv 1) Ab))))),?_⟩;unfold rdp at k;refine⟨_,U,u,U,d,λx v H1 e s1 f=>?_,λe H1 s1=>?_⟩
 ·rw[e] at k;have W:=Am6 e;exact⟨_,U,x,v,kp,kn,U,W.1,c x e,f.mono (λb o e=>(Nh e).2),At,h.same s1,i,k.same s1⟩
 ·rw[e] at k;exact k H1 s1
theorem AdZ(h:n<=6000):n<sizeLine:=Axt h Ap
theorem AgZ:∀(l:NI),(∀ c∈Hb l,dg c=true)/\(Hb l).length<=l.length
 | []=>⟨λc hc=>(by cases hc),AvN _⟩
 | a::l=>by
  have b:=AgZ l;unfold Hb at b ⊢;by_cases h:dg a=true
  ·simp_all
  ·simp_all
theorem An2(l:NI):stp AgN l=Hb l:=by
 unfold stp Hb
 congr 1
 funext c
 unfold dg;exact z6.mpr Ach
inductive Aiu (t:Adr)(vs:Na)(H:Hp)(Q:VK)(z3:XK):Prop
|mk(r:_)(dx:_)(u:_)(p:_)(_:vs=[.ref r])(_:Rd t H r dx u p)(_:Q (Adb (Hb (u.drop p))) (upd H r (.ins t.Bd dx (rf u (p+(Hb (u.drop p)).length)))))
theorem Yd(T:Txt K mg t):Bh P w K mg base CX0 3 t.Kc t.Ke ["self"] (Aiu t):=(Pu T).imp λvs H Q E ⟨r,dx,u,p,h1,h2,a⟩=>⟨r,dx,u,p,h1,h2,by rw[An2];exact a⟩
theorem fits{z:Int}(h:z.natAbs<=1000000):Builtin.Range.rangeFitsLong z=true:=by unfold Builtin.Range.rangeFitsLong;simp only [AwG,decide_eq_true_eq];omega
inductive An3 (vs:Na)(H:Hp)(Q:VK)(z3:XK):Prop
|mk(a:Int)(b:Int)(_:vs=[.int a,.int b])(_:a.natAbs<=400)(_:b.natAbs<=400)(_:∀ l H',Ba H H'->H l=none->H' l=some (.lst (vI (Uh a b)))->Q (.ref l) H')
theorem Zd(T:Txt K mg t):Bh P w K mg base CX0 1 t.QD t.QF ["start", "stop"] An3:=by
 refine T.J2.F.ok Y7 ?_;rintro _ _ _ _ H _ Q E i ⟨a,b,rfl,f,h,k⟩;refine⟨_,(Ac (Bm (Ak GZ (pv 0) (pv 1) (Ar _))
   (Ad (Ay (Cd Abl U T.LK Jt (Aa (Cd Akj U T.Fj AfY (Aa (Aj Ex (pv 0) Ah) (Aa (Aj Ex (pv 1) Ah) Ab))) Ab))))
   Ao)
  (Ad (Ay (Cd Abl U T.LK Jt (Aa (Cd Akk U T.Fj AfY (Aa (Aj Pz (pv 0) Ah) (Aa (Aj Pz (pv 1) Ah) (Aa (Al2 Ahr Ah) Ab)))) Ab))))),?_⟩;refine⟨_,U,_,U,_,_,U,U,_,U,?_⟩;refine Cw (λe=>?_) (λe=>?_)
 ·refine⟨_,U,_,_,U,U,_,U,_,_,U,U,_,_,U,λp d=>?_⟩;have rs:Builtin.Range.rangeSize (a+1) (b+1) 1=((b-a).toNat:Int):=by
   unfold Builtin.Range.rangeSize;grind
  refine⟨p,a+1,b+1,1,(b-a).toNat,U,Ae,?_,rs,Au,λl c=>?_⟩
  ·unfold Builtin.Range.small;rw[rs,fits At,fits At,fits At,fits At];simp only [show(1:Int)>0 by decide,Bool.true_and,Bool.or_eq_true];exact .inr (fits Au)
  ·have:Uh a b=Aao (a+1) 1 (b-a).toNat:=if_pos e;rw[<- this];exact k l _ ((Ba.upd d).new c) ((Ba.upd d).free c) Ae
 ·refine⟨_,U,_,_,U,U,_,U,_,_,U,U,_,U,_,_,_,U,Ap,Ap,λp d=>?_⟩;have rs:Builtin.Range.rangeSize (a-1) (b-1) (-1)=((a-b).toNat:Int):=by
   unfold Builtin.Range.rangeSize;grind
  refine⟨p,a-1,b-1,-1,(a-b).toNat,U,Ae,?_,rs,At,λl c=>?_⟩
  ·unfold Builtin.Range.small;rw[rs,fits At,fits At,fits Ap,fits At];simp only [show ¬((-1:Int)>0) by decide,Bool.true_and,Bool.or_eq_true];exact .inr (fits At)
  ·have:Uh a b=Aao (a-1) (-1) (a-b).toNat:=if_neg e;rw[<- this];exact k l _ ((Ba.upd d).new c) ((Ba.upd d).free c) Ae
def pfR (l:Addr):List (Str × V):=[("stops", .ref l)]
theorem Acu(l:Addr):(pfR l).lookup ("stops" : Str)=some (V.ref l):=rfl
theorem Ze(T:Txt K mg t):Bh P w K mg base CX0 1 t.Kf t.Q6 ["self", "stops"] (λvs H Q E=>∃(r dx l:Addr),vs=[.ref r,.ref l]/\H r=some (.ins t.HS dx [])/\Q .non (upd H r (.ins t.HS dx (pfR l)))):=by refine T.Hj.F.ok YF ?_;rintro _ _ _ _ H _ Q E a ⟨r,dx,l,rfl,h1,k⟩;refine⟨_,(Ad (HH (pv 0) (pv 1))),?_⟩;exact⟨_,U,_,U,_,_,_,_,U,h1,T.Ql.c,T.Gh,Ap,k⟩
def dst (ss:NA)(k:Nat):Int:=AeD (ss.getD (k+1) 0-ss.getD k 0)
def Acv (ss:NA)(k:Nat):Int:=1+((List.range k).map (dst ss)).sum
theorem Zf(ss:NA)(k:Nat):Acv ss (k+1)=Acv ss k+dst ss k:=by unfold Acv;rw[Aw1];simp;lia
theorem An4{i:Int}(a:0<=i)(h:i.toNat<ks.length):atI (vI ks) i=some (.int (ks.getD i.toNat 0)):=BL a (by
 rw[JV (AvM h)];simp[List.getD,h])
structure IsP (t:Adr)(H:Hp)(a dx l:Addr)(ss:NA):Prop where
 o:H a=some (.ins t.HS dx (pfR l))
 l:H l=some (.lst (vI ss))
 ne:1<=ss.length
 le:ss.length<=6000
inductive An5 (t:Adr)(vs:Na)(H:Hp)(Q:VK)(z3:XK):Prop
|mk(a:Addr)(dx:Addr)(l:Addr)(ss:NA)(_:vs=[.ref a])(_:IsP t H a dx l ss)(_:Q (.int (Acv ss (ss.length-1))) H)
theorem Afq(T:Txt K mg t):Bh P w K mg base CX0 1 t.Z8 t.Z9 ["self"] (An5 t):=by
 refine T.SX.F.ok K1 ?_;rintro _ _ _ _ H _ Q E j ⟨a,dx,l,ss,rfl,b,k⟩;have f:=b.ne;have h:=b.le;refine⟨_,(Ac (Bb (i:=1) K1.nd U (Or.inl U) Ah)
  (Ac (Ep PassesOwn.never U (AjN U T.Fj (Aa Ah (Aa (Az (Ax) U T.Ca Bv (Aa (Dt (K:=K) (pv 0) U) Ab)) Ab))) (BJ (i:=2) K1.nd U (Or.inl U))
   (Ad (AqV (i:=1) K1.nd U (Or.inl U) (Az Al7 U T.At7 Arv (Aa (Aj Pz (Bw (Bf (K:=K)) (Dt (K:=K) (pv 0) U) (pv 2) (λ_ _=>rfl)) (Bw (Bf (K:=K)) (Dt (K:=K) (pv 0) U) (Aj Pz (pv 2) Ah) (λ_ _=>rfl))) Ab)) AqW)))
  (Ad (Ay (pv 1))))),?_⟩;refine⟨_,U,_,_,_,_,_,U,b.o,T.Ql.c,T.Gh,Acu l,_,_,U,.inl (SqL.of b.l),_,_,U,⟨Ap,Ap,AD,by rw[Cj];lia⟩,?_⟩;rw[Cj];refine I9 (λi σ H2=>∃ v,σ=[some (.ref a),some (.int (Acv ss i)),v]/\H2=H) ⟨none,U,U⟩ ?_ ?_
 ·rintro i σ H2 hi ⟨v,rfl,rfl⟩;have d:=An4 (ks:=ss) (i:=1+(i:Int)) Au At;have e:=An4 (ks:=ss) (i:=1+(i:Int)-1) Au Au;rw[show(1+(i:Int)).toNat=i+1 by omega] at d;rw[show(1+(i:Int)-1).toNat=i by omega] at e;refine⟨_,U,_,U,_,_,_,_,_,U,b.o,T.Ql.c,T.Gh,Acu l,_,U,_,_,_,_,U,U,SqL.of b.l,d,?_⟩;refine⟨_,U,_,_,_,_,_,U,b.o,T.Ql.c,T.Gh,Acu l,_,U,_,_,U,U,_,_,_,_,U,U,SqL.of b.l,e,_,_,U,U,_,U,_,_,U,U,?_⟩;exact⟨some (.int (1+(i:Int))),by rw[Zf];rfl,U⟩
 ·rintro σ H2 ⟨v,rfl,rfl⟩;refine⟨_,U,?_⟩;grind
theorem AfT{z:Int}(h:ks.getLast?=some z):atI (vI ks) (-1)=some (.int z):=by
 have b:0<ks.length:=by
  cases ks with
  | nil=>cases h
  | cons a l=>exact Nat.succ_pos _
 rw[List.getLast?_eq_getElem?] at h;unfold atI ixN;rw[if_neg Ap,Cj];rw[if_pos At];rw[Option.bind_some]
 first
  | simp_all
  | (rw[show(-1+(ks.length:Int)).toNat=ks.length-1 by omega];exact JV h)
theorem An6:∀(ss:NA)(i:Nat),i+1<=ss.length->((Agy (ss.take (i+1))).length:Int)=Acv ss i:=by
 intro ss i
 induction i with
 | zero =>
  intro h;cases ss with
  | nil=>simp at h
  | cons s r=>simp[Agy,go,Acv]
 | succ i k =>
  intro h;have l:i+1<ss.length:=Au
  have e:=k Au;rw[Zf,<- e];cases ss with
  | nil=>simp at h
  | cons s r =>
   have b:i<r.length:=AB
   rw[AwI,AwI,AvT,AvM b];show((Agy (s::(r.take i++[r[i]]))).length:Int)=_;rw[Agy,AaH,Agy,AvQ,AvL,AvQ];have d:((Uh (lst s (r.take i)) r[i]).length:Int)=dst (s::r) i:=by
    rw[Abv];unfold dst;have f:(s::r).getD (i+1) 0=r[i]:=by simp[List.getD,b]
    have c:(s::r).getD i 0=lst s (r.take i):=by
     cases i with
     | zero=>simp[lst]
     | succ j =>
      have a:j<r.length:=Au
      rw[AvT,AvM a];show _=lst s (r.take j++[r[j]]);rw[lst_snoc];simp[List.getD,a]
    rw[f,c]
   lia
theorem AkW(ss:NA):∀{i j:Nat},i<=j->Acv ss i<=Acv ss j:=by
 intro i j h
 induction h with
 | refl=>exact Int.le_refl _
 | @step m _ a =>
  have:0<=dst ss m:=by unfold dst AeD;split <;> lia
  have e:=Zf ss m;grind
inductive ApS (t:Adr)(vs:Na)(H:Hp)(Q:VK)(z3:XK):Prop
|mk(a:Addr)(dx:Addr)(l:Addr)(ss:NA)(_:vs=[.ref a])(_:IsP t H a dx l ss)(_:Acv ss (ss.length-1)<=400)(_:(∀ s∈ss,s.natAbs<=400))(_:∀ q H',Ba H H'->H q=none->H' q=some (.lst (vI (Agy ss)))->Q (.ref q) H')
theorem Aa6(T:Txt K mg t):Bh P w K mg base CX0 2 t.RZ t.Sh ["self"] (ApS t):=by
 refine T.Mj.F.ok JZ ?_;rintro _ _ _ _ H _ Q E S ⟨a,dx,l,ss,rfl,h,Z,C,k⟩;have L:=h.ne;have N:=yA;refine⟨_,(Ac (Bb (i:=1) JZ.nd U (Or.inl U) (Cu (Aa (Bw (Bf (K:=K)) (Dt (K:=K) (pv 0) U) Ah (λ_ _=>rfl)) Ab)))
  (Ac (Ep PassesOwn.never U (BP (K:=K) (Hz (Abj (K:=K)) (Dt (K:=K) (pv 0) U) (Hy Ah) PB)) (BJ (i:=2) JZ.nd U (Or.inl U))
   (Ad (Bg (BR (K:=K) zM F.slot_list_extend F.type_list_extend Adz (pv 1) (Aa (Al ((Zd T).mono Ap) S U T.J2.m T.J2.F.kp T.J2.b .nil Aq (Aa (Bw (Bf (K:=K)) (pv 1) (Al2 Ahr Ah) (λ_ _=>rfl)) (Aa (pv 2) Ab))) Ab)))))
  (Ad (Ay (pv 1))))),?_⟩;obtain⟨d,r,rfl⟩:∃ d r,ss=d::r:=by
  cases ss with
  | nil=>simp at L
  | cons d r=>exact⟨d,r,U⟩
 refine⟨_,U,_,_,_,_,_,U,h.o,T.Ql.c,T.Gh,Acu l,_,_,_,_,U,U,SqL.of h.l,BL Ap U,AG,λq D=>?_⟩;have s1:Ba H (upd H q (.lst [.int d])):=.upd D;refine⟨_,U,_,_,_,_,_,U,s1 _ _ h.o,T.Ql.c,T.Gh,Acu l,_,U,_,_,U,SqL.of (s1 _ _ h.l),λp I=>?_⟩;have J:Yq (vI (d::r)) (some 1) none=vI r:=by
  unfold Yq;have W:HT.sIx (vI (d::r)).length 0 (some 1)=1:=by
   show HT.sIx (vI (d::r)).length 0 (some ((1:Nat):Int))=1;rw[HT.Ku,Cj];lia
  rw[W,HT.Rx,Cj,AvQ];show(vI r).take _=vI r;rw[Aws (by rw[Cj];omega)]
 rw[J];have M:Ba H (upd (upd H q (.lst [.int d])) p (.lst (vI r))):=s1.new I;have s:=Bc (Ae) I;refine⟨_,U,⟨_,SqL.of Ae⟩,?_⟩;refine Gb (λi σ H2=>∃ v,σ=[some (.ref a),some (.ref q),v]/\Ba H H2/\H2 p=some (.lst (vI r))/\H2 q=some (.lst (vI (d::go d (r.take i)))))
  ⟨none,U,M,Ae,by rw[Ai s,Ae];rfl⟩ (λi σ H2 _ ⟨_,_,_,e,_⟩=>SqL.of e) ?_ ?_
 ·rintro i xv σ H2 O ⟨v,rfl,A,u,f⟩;obtain⟨z,x,rfl⟩:=La O;have a0:=(zC.mp x).1;have bz:=C z (AvR _ (AvX x));have bl:(lst d (r.take i)).natAbs<=400:=by
   cases i with
   | zero=>exact C d AvP
   | succ j =>
    have G:j<r.length:=Au
    rw[AvT,AvM G];show(lst d (r.take j++[r[j]])).natAbs<=400;rw[lst_snoc];exact C _ (AvR _ (Awh G))
  have n:=An6 (d::r) (i+1) AD;have R:=AkW (d::r) (i:=i+1) (j:=(d::r).length-1) (by simp;lia);have X:(d::r).take (i+1+1)=d::(r.take i++[z]):=by rw[AwI,AvT,x];rfl
  rw[X,Agy,AaH,AvQ,AvL] at n;refine⟨_,U,.inl ⟨U,_,SqL.of f⟩,_,U,_,U,_,_,_,_,U,U,SqL.of f,AfT (Ak3 d (r.take i)),_,U,lst d (r.take i),z,U,bl,bz,λl2 H3 B Y y=>?_⟩;refine⟨q,l2,_,_,U,U,B _ _ f,y,(by rw[Cj,Cj,AvQ];lia),?_⟩;have np:=s.symm;refine⟨_,U,(A.trans B).over D,by rw[Ai np];exact B _ _ u,?_⟩;rw[Ae,AvT,x];show some (HO.lst (vI (d::go d (r.take i))++vI (Uh (lst d (r.take i)) z)))=some (HO.lst (vI (d::go d (r.take i++[z]))));rw[AaH];unfold vI;rw[<- AvO];rfl
 ·rintro σ H2 ⟨v,rfl,A,u,f⟩;refine⟨_,U,k q H2 A D ?_⟩;rw[f,Cj,Awa];rfl
end
inductive It where
 | pth (ss:NA)
 | tms (n:Nat) (xs:List It)
def psz (ss:NA):Int:=Acv ss (ss.length-1)
mutual
noncomputable def It.sz:It->Int
 | .pth ss=>psz ss
 | .tms n xs=>(n:Int)*szs xs
noncomputable def szs:List It->Int
 | []=>0
 | x::xs=>x.sz+szs xs
end
theorem Qo:∀ xs:List It,szs xs=(xs.map It.sz).sum
 | []=>by simp[szs]
 | x::xs=>by simp only [szs,AvU,Aw7];rw[Qo xs]
mutual
noncomputable def It.nu:It->NA
 | .pth ss=>Agy ss
 | .tms n xs=>(List.replicate n (nus xs)).flatten
noncomputable def nus:List It->NA
 | []=>[]
 | x::xs=>x.nu++nus xs
end
theorem Afr:∀ xs:List It,nus xs=(xs.map It.nu).flatten
 | []=>by simp[nus]
 | x::xs=>by simp only [nus,AvU,Awl];rw[Afr xs]
section
variable {K:NF}{base:Heap}{t:Adr}
def AtP (t:Adr)(H:Hp)(a:Addr)(ss:NA):Prop:=∃ dx l,IsP t H a dx l ss
theorem AtP.same(h:AtP t H a ss)(s:Ba H H'):AtP t H' a ss :=
 let ⟨dx,l,p⟩:=h
 ⟨dx,l,s _ _ p.o,s _ _ p.l,p.ne,p.le⟩
def tf (n:Nat)(l:Addr):List (Str × V):=[("count", .int (n:Int)),("inner", .ref l)]
theorem Aha(n:Nat)(l:Addr):(tf n l).lookup ("count" : Str)=some (V.int (n:Int)):=rfl
theorem Ahb(n:Nat)(l:Addr):(tf n l).lookup ("inner" : Str)=some (V.ref l):=rfl
def AtI (t:Adr)(H:Hp):Nat->Addr->It->Prop
 | _,a,.pth ss=>AtP t H a ss
 | 0,_,.tms _ _=>False
 | d+1,a,.tms n xs=>∃(dx li:Addr)(rs:NU),H a=some (.ins t.Ef dx (tf n li))/\H li=some (.lst (rs.map V.ref))/\n<=99/\rs.length=xs.length/\rs.length<=6000 /\
   ∀(i:Nat) r x,rs[i]?=some r->xs[i]?=some x->AtI t H d r x
theorem AtI.same{H H':Hp}(s:Ba H H'):∀(d:Nat)(a:Addr)(x:It),AtI t H d a x->AtI t H' d a x
 | 0,_,.pth _,h=>AtP.same h s
 | 0,_,.tms _ _,h=>h.elim
 | d+1,_,.pth _,h=>AtP.same h s
 | d+1,_,.tms n xs,h=>by
  obtain⟨dx,li,rs,h1,h2,f,e,k,b⟩:=h;exact⟨dx,li,rs,s _ _ h1,s _ _ h2,f,e,k,λi r x c j=>AtI.same s d r x (b i r x c j)⟩
structure Ahc (t:Adr)(H:Hp)(d:Nat)(rs:NU)(xs:List It):Prop where
 len:rs.length=xs.length
 le:rs.length<=6000
 at_:∀(i:Nat) r x,rs[i]?=some r->xs[i]?=some x->AtI t H d r x
theorem Ahc.same(h:Ahc t H d rs xs)(s:Ba H H'):Ahc t H' d rs xs:=⟨h.len,h.le,λi r x b a=>AtI.same s d r x (h.at_ i r x b a)⟩
inductive Aiv (t:Adr)(d:Nat)(vs:Na)(H:Hp)(Q:VK)(z3:XK):Prop
|mk(li:Addr)(rs:NU)(xs:List It)(_:vs=[.ref li])(_:H li=some (.lst (rs.map V.ref)))(_:Ahc t H d rs xs)(_:∀ H',Ba H H'->Q (.int (szs xs)) H')
def Aiw (t:Adr):Nat->Sp
 | 0=>λ_ _ _ _=>False
 | d+1=>λvs H Q _=>∃(a dx li:Addr)(n:Nat)(rs:NU)(xs:List It),vs=[.ref a]/\H a=some (.ins t.Ef dx (tf n li))/\H li=some (.lst (rs.map V.ref))/\n<=99/\Ahc t H d rs xs/\∀ H',Ba H H'->Q (.int ((n:Int)*szs xs)) H'
theorem Acw(T:Txt K mg t):Bh P w K mg base CX0 1 t.K3 t.K4 ["self"] (Aiw t 0) :=
 ⟨λ_ _ _ _ h=>h.elim,λ_ _ _ _ _ _ _ _ _ _ _ _ _ h=>h.elim⟩
theorem Adj(T:Txt K mg t)(e:Bh P w K mg base CX0 k t.K5 t.K6 ["row_items"] (Aiv t d)) :
  Bh P w K mg base CX0 (k+1) t.K3 t.K4 ["self"] (Aiw t (d+1)):=by
 refine T.Qm.F.ok AcE (λ_ _ _ _ H vs Q E l h=>?_) (len:=λvs H Q E h=>by obtain⟨a,dx,li,n,rs,xs,rfl,_⟩:=h;rfl);obtain⟨a,dx,li,n,rs,xs,rfl,f,j,hn,i,k⟩:=h;refine⟨_,(Ad (Ay (Aj Rt (Dt (K:=K) (pv 0) U) (Al (e.mono At) l U T.Hn.m T.Hn.F.kp T.Hn.b .nil Aq (Aa (Dt (K:=K) (pv 0) U) Ab))))),?_⟩;refine⟨_,U,_,_,_,_,_,U,f,T.J7.c,T.Mg,Aha n li,?_⟩;refine⟨_,U,_,_,_,_,_,U,f,T.J7.c,T.Mh,Ahb n li,?_⟩;refine⟨li,rs,xs,U,j,i,λH1 s1=>?_⟩;exact⟨_,_,U,U,.inl ⟨At,At⟩,k H1 s1⟩
theorem Vt(hk:1<=k)(T:Txt K mg t)(v:Bh P w K mg base CX0 k t.K3 t.K4 ["self"] (Aiw t d)) :
  Bh P w K mg base CX0 (k+1) t.K5 t.K6 ["row_items"] (Aiv t d):=by
 refine T.Hn.F.ok AcA ?_;rintro _ _ _ _ H _ Q E B ⟨li,rs,xs,rfl,D,y,N⟩;have R:=y.len;have W:=y.le;have G:sizeLine=16777216:=yA;refine⟨_,(Ad (Ay (Az (Akm (K:=K)) U T.At9 Arw (Aa (De (CP.mk (Bj:=[]) (Nc:=["item"]) U As As (Cr (sc0:=Ag Qc) U As) U rfl U As (λ_ _ h=>by simp at h)) U (BP (K:=K) (pv 0)) (λ_ _ _ _ _=>.nil) (λ_ _ _ _ _=>(Ag5 (pv 0) T.Ql.c T.SX.m ((Afq T).mono At) B T.SX.b Aq T.J7.c T.Qm.m (v.mono At) B T.Qm.b Aq))) Ab)))),?_⟩;refine⟨_,U,_,U,⟨_,SqL.of D⟩,Dk (K:=K) (a:=li) (xs:=rs.map V.ref) (λi ys H2=>Ba H H2/\ys=vI ((xs.take i).map It.sz)) ⟨.refl _,U⟩ ?_ ?_ ?_ ?_⟩
 ·rintro i ys H2 hi ⟨e,rfl⟩;refine⟨SqL.of (e _ _ D),?_⟩;rw[Cj,AvK,AvW];omega
 ·rw[AvK];omega
 ·rintro i x ys H2 hi A ⟨e,rfl⟩;rw[AvK] at hi;have f:i<xs.length:=At
  rw[AvS,AvM hi] at A;cases A;have q:=AtI.same e d _ _ (y.at_ i _ _ (AvM hi) (AvM f));refine Eo.no ?_;have fin:∀ H3,Ba H2 H3->∀ z:Int,z=(xs[i]).sz->CN (rs.map V.ref).length (λi ys H2=>Ba H H2/\ys=vI ((xs.take i).map It.sz)) i (vI ((xs.take i).map It.sz)++[.int z]) H3:=λH3 u z M=>by
   refine CN.of (by rw[AvK];exact hi) ⟨e.trans u,?_⟩;rw[M,Ah8,AvT,AvM f,AvO];rfl
  generalize j:xs[i]=x at q;cases x with
  | pth ss =>
   have s:AtP t H2 rs[i] ss:=by cases d <;> exact q
   obtain⟨dx,l,C⟩:=s;refine⟨_,U,_,dx,pfR l,U,U,.inl ⟨C.o,_,dx,l,_,U,C,?_⟩⟩;exact fin H2 (.refl _) _ (by rw[j];simp only [It.sz];rfl)
  | tms n ys =>
   cases d with
   | zero=>exact q.elim
   | succ d =>
    obtain⟨dx,l2,r,h1,h2,J,I,S,O⟩:=q;refine⟨_,U,_,dx,tf n l2,U,U,.inr ⟨h1,_,dx,l2,n,r,ys,U,h1,h2,J,⟨I,S,O⟩,λH3 u=>?_⟩⟩;exact fin H3 u _ (by rw[j];simp only [It.sz])
 ·rintro ys H2 p ⟨e,rfl⟩ L;rw[AvK,R,Awa];refine⟨_,_,U,SqL.of Ae,?_⟩;rw[<- Qo];exact N _ (e.new L)
theorem An7(T:Txt K mg t):∀ d:Nat,Bh P w K mg base CX0 (2*d+2) t.K5 t.K6 ["row_items"] (Aiv t d)
 | 0=>Vt (AvN 1) T (Acw T)
 | d+1=>Vt (k:=2*d+3) At T (Adj T (An7 T d))
end
mutual
noncomputable def It.Sm:It->Prop
 | .pth ss=>1<=ss.length/\∀ s∈ss,s.natAbs<=400
 | .tms n xs=>1<=n/\Sms xs
noncomputable def Sms:List It->Prop
 | []=>True
 | x::xs=>x.Sm/\Sms xs
end
theorem Sms.of_get:∀{xs:List It} {i:Nat} {x:It},Sms xs->xs[i]?=some x->x.Sm
 | [],i,x,_,e=>by simp at e
 | y::xs,0,x,h,e=>by
  simp only [Sms] at h;simp at e;rw[<- e];exact h.1
 | y::xs,i+1,x,h,e=>by
  simp only [Sms] at h;exact Sms.of_get h.2 (by simpa using e)
mutual
theorem It.Aix:∀ x:It,x.Sm->(x.nu.length:Int)=x.sz
 | .pth ss,h=>by
  simp only [It.Sm] at h;simp only [It.nu,It.sz];have:=An6 ss (ss.length-1) At;rw[show ss.length-1+1=ss.length by omega,Awa] at this;exact this
 | .tms n xs,h=>by
  simp only [It.Sm] at h;simp only [It.nu,It.sz];rw[len_rep,Int.natCast_mul,Ye xs h.2]
theorem Ye:∀ xs:List It,Sms xs->((nus xs).length:Int)=szs xs
 | [],_=>by simp[nus,szs]
 | x::xs,h=>by
  simp only [Sms] at h;simp only [nus,szs];rw[AvL,Int.natCast_add,It.Aix x h.1,Ye xs h.2]
end
theorem Sms.nn(h:Sms xs):0<=szs xs:=by rw[<- Ye xs h];omega
theorem It.Sm.nn{x:It}(h:x.Sm):0<=x.sz:=by rw[<- x.Aix h];omega
theorem An8(xs:List It)(x:It):nus (xs++[x])=nus xs++x.nu:=by rw[Afr,Afr,AvO,List.flatten_append];simp
theorem An9(xs:List It)(x:It):szs (xs++[x])=szs xs+x.sz:=by rw[Qo,Qo,AvO,List.sum_append];simp
theorem ApT(xs ys:List It):szs (xs++ys)=szs xs+szs ys:=by rw[Qo,Qo,Qo,AvO,List.sum_append]
theorem Sms.app:∀{xs ys:List It},Sms (xs++ys)->Sms xs/\Sms ys
 | [],ys,h=>⟨by simp only [Sms],h⟩
 | x::xs,ys,h=>by
  rw[Awy] at h;simp only [Sms] at h;have:=Sms.app h.2;exact⟨by simp only [Sms];exact⟨h.1,this.1⟩,this.2⟩
theorem Ajz(h:Sms xs)(i:Nat):szs (xs.take i)<=szs xs/\0<=szs (xs.take i):=by
 have e:xs=xs.take i++xs.drop i:=(AwC i xs).symm;have h':=h;rw[e] at h';have a:=Sms.app h';have b:szs xs=szs (xs.take i)+szs (xs.drop i):=by rw[<- ApT,AwC]
 have n1:=a.1.nn;have n2:=a.2.nn;omega
section
variable {K:NF}{base:Heap}{t:Adr}
inductive Aiy (t:Adr)(d:Nat)(vs:Na)(H:Hp)(Q:VK)(z3:XK):Prop
|mk(li:Addr)(rs:NU)(xs:List It)(_:vs=[.ref li])(_:H li=some (.lst (rs.map V.ref)))(_:Ahc t H d rs xs)(_:Sms xs)(_:szs xs<=400)(_:∀ q H',Ba H H'->H q=none->H' q=some (.lst (vI (nus xs)))->Q (.ref q) H')
def Aiz (t:Adr):Nat->Sp
 | 0=>λ_ _ _ _=>False
 | d+1=>λvs H Q _=>∃(a dx li:Addr)(n:Nat)(rs:NU)(xs:List It),vs=[.ref a]/\H a=some (.ins t.Ef dx (tf n li))/\H li=some (.lst (rs.map V.ref))/\n<=99/\Ahc t H d rs xs/\(It.tms n xs).Sm/\(It.tms n xs).sz<=400 /\
   ∀ q H',Ba H H'->H q=none->H' q=some (.lst (vI (It.tms n xs).nu))->Q (.ref q) H'
theorem Asd(n:Nat)(l:NA):(List.replicate n (vI l)).flatten=vI (List.replicate n l).flatten:=by
 induction n with
 | zero=>rfl
 | succ n a =>
  rw[Awt,Awt,Awl,Awl,a];unfold vI;rw[AvO]
theorem Yg(T:Txt K mg t):Bh P w K mg base CX0 1 t.Hh t.Hi ["self"] (Aiz t 0) :=
 ⟨λ_ _ _ _ h=>h.elim,λ_ _ _ _ _ _ _ _ _ _ _ _ _ h=>h.elim⟩
theorem Zg(T:Txt K mg t)(f:Bh P w K mg base CX0 k t.Jw t.Jx ["row_items"] (Aiy t d)) :
  Bh P w K mg base CX0 (k+1) t.Hh t.Hi ["self"] (Aiz t (d+1)):=by
 refine T.Km.F.ok YG (λ_ _ _ _ H vs Q E v h=>?_) (len:=λvs H Q E h=>by obtain⟨a,dx,li,n,rs,xs,rfl,_⟩:=h;rfl);obtain⟨a,dx,li,n,rs,xs,rfl,i,s,hn,r,e,u,k⟩:=h;have o:sizeLine=16777216:=yA;simp only [It.Sm] at e;simp only [It.sz] at u;have nn:=e.2.nn;have l:szs xs<=400:=by
  have:szs xs<=(n:Int)*szs xs:=by
   have h1:=Ax4 (show(1:Int)<=(n:Int) by omega) nn;omega
  omega
 have len:=Ye xs e.2;refine⟨_,(Ad (Ay (Aj Aes (Al (f.mono At) v U T.Gx.m T.Gx.F.kp T.Gx.b .nil Aq (Aa (Dt (K:=K) (pv 0) U) Ab)) (Dt (K:=K) (pv 0) U)))),?_⟩;refine⟨_,U,_,_,_,_,_,U,i,T.J7.c,T.Mh,Ahb n li,?_⟩;refine⟨li,rs,xs,U,s,r,e.2,l,λq H1 s1 y x=>?_⟩;refine⟨_,U,_,_,_,_,_,U,s1 _ _ i,T.J7.c,T.Mg,Aha n li,?_⟩;refine⟨q,(n:Int),vI (nus xs),U,U,x,At,At,?_,λp j=>?_⟩
 ·rw[Cj,AvZ];have:(nus xs).length<=400:=At
  have:(nus xs).length*n<=400*99:=Nat.mul_le_mul this hn;omega
 ·refine k p _ (s1.new j) (s1.free j) ?_;rw[Ae,AvZ,Asd];simp only [It.nu]
theorem Tg(hk:2<=k)(T:Txt K mg t)(I:Bh P w K mg base CX0 k t.Hh t.Hi ["self"] (Aiz t d)) :
  Bh P w K mg base CX0 (k+1) t.Jw t.Jx ["row_items"] (Aiy t d):=by
 refine T.Gx.F.ok Lf ?_;rintro _ _ _ _ H _ Q E R ⟨li,rs,xs,rfl,X,W,A,h4,kk⟩;have ln:=W.len;have Z:sizeLine=16777216:=yA;refine⟨_,(Ac (Bb (i:=1) Lf.nd U (Or.inl U) (Cu Ab))
  (Ac (Ep PassesOwn.never U (BP (K:=K) (pv 0)) (BJ (i:=2) Lf.nd U (Or.inl U))
   (Ad (Bg (BR (K:=K) zM F.slot_list_extend F.type_list_extend Adz (pv 1) (Aa (Ag5 (pv 2) T.Ql.c T.Mj.m ((Aa6 T).mono At) R T.Mj.b Aq T.J7.c T.Km.m (I.mono At) R T.Km.b Aq) Ab)))))
  (Ad (Ay (pv 1))))),?_⟩;refine⟨AvV _,λq M=>?_⟩;have s1:Ba H (upd H q (.lst [])):=.upd M;refine⟨_,U,_,U,⟨_,SqL.of (s1 _ _ X)⟩,?_⟩;refine Gb (K:=K) (a:=li) (xs:=rs.map V.ref) (λi σ H2=>∃ v,σ=[some (.ref li),some (.ref q),v]/\Ba H H2/\H2 q=some (.lst (vI (nus (xs.take i)))))
  ⟨none,U,s1,by rw[Ae];simp[nus,vI]⟩ (λi σ H2 _ ⟨_,_,j,_⟩=>SqL.of (j _ _ X)) ?_ ?_
 ·rintro i x σ H2 D ⟨v,rfl,j,e⟩;have hi:i<rs.length:=by
   have:=(zC.mp D).1
   rwa [AvK] at this
  have h:i<xs.length:=At
  rw[AvS,AvM hi] at D;cases D;have p:(xs[i]).Sm:=A.of_get (AvM h);have z:=AtI.same j d _ _ (W.at_ i _ _ (AvM hi) (AvM h));have Y:(xs.take (i+1))=xs.take i++[xs[i]]:=by rw[AvT,AvM h];rfl
  have p1:=Ajz A (i+1);have p0:=Ajz A i;have e7:szs (xs.take (i+1))=szs (xs.take i)+(xs[i]).sz:=by rw[Y,An9]
  have m0:=p.nn;have y:(xs[i]).sz<=400:=At
  have l1:=(xs[i]).Aix p;have sm:Sms (xs.take i):=by
   have h':=A;rw[<- AwC i xs] at h';exact h'.app.1
  have l0:=Ye _ sm;have fin:∀ l2 H3,Ba H2 H3->H2 l2=none->H3 l2=some (.lst (vI (xs[i]).nu))->∀(r:(vI (nus (xs.take i))).length+(vI (xs[i]).nu).length<=sizeLine),
    ∃ v,[some (V.ref li),some (.ref q),some (.ref rs[i])]=[some (.ref li),some (.ref q),v]/\Ba H (upd H3 q (.lst (vI (nus (xs.take i))++vI (xs[i]).nu)))/\(upd H3 q (.lst (vI (nus (xs.take i))++vI (xs[i]).nu))) q=some (.lst (vI (nus (xs.take (i+1))))):=λl2 H3 f n3 N _=>by
   refine⟨_,U,(j.trans f).over M,?_⟩;rw[Ae,Y,An8];unfold vI;rw[AvO]
  have r:(vI (nus (xs.take i))).length+(vI (xs[i]).nu).length<=sizeLine:=by rw[Cj,Cj];omega
  generalize a0:xs[i]=x at z p y fin r;refine⟨_,U,.inl ⟨U,_,SqL.of e⟩,_,U,?_⟩;cases x with
  | pth ss =>
   have G:AtP t H2 rs[i] ss:=by cases d <;> exact z
   obtain⟨dx,l,S⟩:=G;simp only [It.Sm] at p;simp only [It.sz] at y;refine⟨_,dx,pfR l,U,U,.inl ⟨S.o,_,dx,l,_,U,S,y,p.2,λl2 H3 f J s=>?_⟩⟩;exact⟨q,l2,_,_,U,U,f _ _ e,by rw[s];simp only [It.nu],r,fin l2 H3 f J (by rw[s];simp only [It.nu]) r⟩
  | tms n ys =>
   cases d with
   | zero=>exact z.elim
   | succ d =>
    obtain⟨dx,l2,C,h1,h2,h0,N,L,h5⟩:=z;refine⟨_,dx,tf n l2,U,U,.inr ⟨h1,_,dx,l2,n,C,ys,U,h1,h2,h0,⟨N,L,h5⟩,p,y,λO H3 f B u=>?_⟩⟩;exact⟨q,O,_,_,U,U,f _ _ e,u,r,fin O H3 f B u r⟩
 ·rintro σ H2 ⟨v,rfl,j,e⟩;refine⟨_,U,kk q H2 j M ?_⟩;rw[e,AvK,ln,Awa]
theorem AnA(T:Txt K mg t):∀ d:Nat,Bh P w K mg base CX0 (2*d+3) t.Jw t.Jx ["row_items"] (Aiy t d)
 | 0=>Tg (AvN 2) T ((Yg T).mono Ap)
 | d+1=>Tg (k:=2*d+4) At T (Zg T (AnA T d))
end
inductive Wk where
 | start | nought | Dw | point | more | done | full | bad | star | closed
deriving DecidableEq
def Wk.cl:Wk->Bool
 | .nought=>true
 | .Dw=>true
 | .full=>true
 | .more=>true
 | .done=>true
 | .closed=>true
 | _=>false
def fgr (s:Wk)(c:Nat):Wk :=
 if s=.start/\c=48 then .nought else if s=.start then .Dw else if s=.point/\c≠48 then .more else if s=.point\/s=.more then .done else if s=.Dw then .full else .bad
def wst (s:Wk)(d c:Nat):Wk × Nat :=
 if 48<=c/\c<=57 then (fgr s c,d)
 else if c=42/\(s=.Dw\/s=.full) then (.star,d)
 else if c=40/\s=.star/\d<8 then (.start,d+1)
 else if c=45/\s.cl=true/\s≠.closed then (.point,d)
 else if c=32/\s.cl=true then (.start,d)
 else if c=41/\s.cl=true/\0<d then (.closed,d-1)
 else (.bad,d)
def ApU:Wk->Nat->NI->Wk × Nat
 | s,d,[]=>(s,d)
 | s,d,c::u=>ApU (wst s d c).1 (wst s d c).2 u
def acc (s:Wk)(d:Nat)(u:NI):Bool:=decide ((ApU s d u).2=0) && (ApU s d u).1.cl
theorem JL(s:Wk)(d c:Nat)(u:NI):acc s d (c::u)=acc (wst s d c).1 (wst s d c).2 u:=rfl
theorem ApV(d c:Nat):(wst .bad d c).1=.bad:=by
 unfold wst;split
 ·simp[fgr]
 all_goals simp[Wk.cl]
theorem Hk:∀(u:NI)(d:Nat),acc .bad d u=false
 | [],d=>by simp[acc,ApU,Wk.cl]
 | c::u,d=>by rw[JL,ApV];exact Hk u _
theorem Afv(s:Wk)(d:Nat):acc s d []=(decide (d=0) && s.cl):=rfl
def NoF (u:NI):Prop:=∀ c,u[0]?=some c->¬(48<=c/\c<=57)
theorem Aj0(h:48<=c/\c<=57):wst s d c=(fgr s c,d):=by unfold wst;rw[if_pos h]
theorem Hl(h:48<=c/\c<=57):acc s d (c::u)=acc (fgr s c) d u:=by rw[JL,Aj0 h]
def qS (v:NI):Wk:=if v=[48] then .nought else if v.length=1 then .Dw else .full
def qP (v:NI):Wk:=if v.length=1/\v≠[48] then .more else .done
def okN (v:NI):Prop:=(1<=v.length/\v.length<=2)/\¬(v.length=2/\v[0]?=some 48)
theorem Ahd(a:s=.start\/s=.point)(h:NoF u):acc s d u=false:=by
 cases u with
 | nil=>rcases a with rfl | rfl <;> simp[Afv,Wk.cl]
 | cons c u =>
  have hc:=h c U;have:(wst s d c).1=.bad:=by
   unfold wst;rw[if_neg hc];rcases a with rfl | rfl <;> simp[Wk.cl]
  rw[JL,this];exact Hk _ _
theorem Aea{rest:NI}(f:∀ c∈v,48<=c/\c<=57)(l:NoF rest):(okN v->acc .start d (v++rest)=acc (qS v) d rest)/\(¬okN v->acc .start d (v++rest)=false):=by
 match v,f with
 | [],_=>exact⟨λh=>absurd h.1.1 AA,λ_=>Ahd (.inl U) l⟩
 | [a],f =>
  have i:=f a AA;refine⟨λ_=>?_,λh=>absurd ⟨⟨AA,AA⟩,AA⟩ h⟩;rw[Ax1,Hl i];unfold qS fgr;by_cases c:a=48 <;> simp[c]
 | [a,b],f =>
  have i:=f a AA;have j:=f b AA;have e:acc .start d ([a,b]++rest)=acc (fgr (fgr .start a) b) d rest:=by
   show acc .start d (a::b::rest)=_;rw[Hl i,Hl j]
  rw[e];by_cases c:a=48
  ·refine⟨λh=>absurd ⟨U,by rw[c];rfl⟩ h.2,λ_=>?_⟩;have:fgr (fgr .start a) b=.bad:=by simp[fgr,c]
   rw[this];exact Hk _ _
  ·refine⟨λ_=>?_,λh=>absurd ⟨⟨AA,AA⟩,λz=>c (by simpa using z.2)⟩ h⟩;have:fgr (fgr .start a) b=.full:=by simp[fgr,c]
   rw[this];simp[qS]
 | a::b::e::v,f =>
  have i:=f a AA;have j:=f b AA;have k:=f e AA;refine⟨λh=>absurd h.1.2 AA,λ_=>?_⟩;show acc .start d (a::b::e::(v++rest))=_;rw[Hl i,Hl j,Hl k];have:fgr (fgr (fgr .start a) b) e=.bad:=by
   by_cases c:a=48 <;> simp[fgr,c]
  rw[this];exact Hk _ _
theorem AkX{rest:NI}(f:∀ c∈v,48<=c/\c<=57)(l:NoF rest):(okN v->acc .point d (v++rest)=acc (qP v) d rest)/\(¬okN v->acc .point d (v++rest)=false):=by
 match v,f with
 | [],_=>exact⟨λh=>absurd h.1.1 AA,λ_=>Ahd (.inr U) l⟩
 | [a],f =>
  have i:=f a AA;refine⟨λ_=>?_,λh=>absurd ⟨⟨AA,AA⟩,AA⟩ h⟩;rw[Ax1,Hl i];unfold qP fgr;by_cases c:a=48 <;> simp[c]
 | [a,b],f =>
  have i:=f a AA;have j:=f b AA;have e:acc .point d ([a,b]++rest)=acc (fgr (fgr .point a) b) d rest:=by
   show acc .point d (a::b::rest)=_;rw[Hl i,Hl j]
  rw[e];by_cases c:a=48
  ·refine⟨λh=>absurd ⟨U,by rw[c];rfl⟩ h.2,λ_=>?_⟩;have:fgr (fgr .point a) b=.bad:=by simp[fgr,c]
   rw[this];exact Hk _ _
  ·refine⟨λ_=>?_,λh=>absurd ⟨⟨AA,AA⟩,λz=>c (by simpa using z.2)⟩ h⟩;have:fgr (fgr .point a) b=.done:=by simp[fgr,c]
   rw[this];simp[qP]
 | a::b::e::v,f =>
  have i:=f a AA;have j:=f b AA;have k:=f e AA;refine⟨λh=>absurd h.1.2 AA,λ_=>?_⟩;show acc .point d (a::b::e::(v++rest))=_;rw[Hl i,Hl j,Hl k];have:fgr (fgr (fgr .point a) b) e=.bad:=by
   by_cases c:a=48 <;> simp[fgr,c]
  rw[this];exact Hk _ _
def ai (d:Nat):NI->Bool
 | []=>decide (d=0)
 | c::v=>if c=32 then acc .start d v else if c=41 then (if 0<d then acc .closed (d-1) v else false) else false
theorem AnB(h:s.cl=true)(h1:s≠.closed->NoF u/\u[0]?≠some 45)(h2:s=.Dw\/s=.full->u.take 2≠[42,40]):acc s d u=ai d u:=by
 cases u with
 | nil=>simp[Afv,ai,h]
 | cons c u =>
  rw[JL];show _=if c=32 then acc .start d u else if c=41 then (if 0<d then acc .closed (d-1) u else false) else false
  by_cases j:48<=c/\c<=57
  ·rw[Aj0 j,if_neg At,if_neg At];by_cases hc:s=.closed
   ·subst hc;simp[fgr,Hk]
   ·exact absurd j ((h1 hc).1 c U)
  unfold wst;rw[if_neg j];by_cases f:c=42/\(s=.Dw\/s=.full)
  ·rw[if_pos f,if_neg At,if_neg At];have m:=h2 f.2;cases u with
   | nil=>simp[Afv,Wk.cl]
   | cons b u =>
    have n:b≠40:=λz=>m (by rw[f.1,z];rfl);rw[JL];have:(wst .star d b).1=.bad:=by
     unfold wst;split
     ·simp[fgr]
     ·simp[n,Wk.cl]
    rw[this];exact Hk _ _
  rw[if_neg f];have l:¬(c=40/\s=.star/\d<8):=λz=>by rw[z.2.1] at h;simp[Wk.cl] at h
  rw[if_neg l];have k:¬(c=45/\s.cl=true/\s≠.closed):=λz=>(h1 z.2.2).2 (by rw[z.1];rfl);rw[if_neg k];by_cases e:c=32
  ·rw[if_pos ⟨e,h⟩,if_pos e]
  ·rw[if_neg (λz=>e z.1),if_neg e];by_cases a:c=41
   ·rw[if_pos a];by_cases i:0<d
    ·rw[if_pos ⟨a,h,i⟩,if_pos i]
    ·rw[if_neg (λz=>i z.2.2),if_neg i];exact Hk _ _
   ·rw[if_neg (λz=>a z.1),if_neg a];exact Hk _ _
theorem AnC(a:s.cl=true)(hc:s≠.closed):acc s d (45::u)=acc .point d u:=by
 rw[JL];have:wst s d 45=(.point,d):=by
  unfold wst;simp[a,hc]
 rw[this]
theorem AkY:acc s d (42::40::u)=if (s=.Dw\/s=.full)/\d<8 then acc .start (d+1) u else false:=by
 rw[JL];by_cases h:s=.Dw\/s=.full
 ·have:wst s d 42=(.star,d):=by
   unfold wst;simp[h]
  rw[this,JL];by_cases a:d<8
  ·rw[if_pos ⟨h,a⟩];have:wst .star d 40=(.start,d+1):=by
    unfold wst;simp[a]
   rw[this]
  ·rw[if_neg (λz=>a z.2)];have:(wst .star d 40).1=.bad:=by
    unfold wst;simp[a,Wk.cl]
   rw[this];exact Hk _ _
 ·rw[if_neg (λz=>h z.1)];have:(wst s d 42).1=.bad:=by
   unfold wst;simp[h]
  rw[this];exact Hk _ _
theorem AnD:(qS v).cl=true/\qS v≠.closed:=by
 unfold qS;split
 ·exact⟨U,Ap⟩
 ·split <;> exact⟨U,Ap⟩
theorem AtS:(qP v).cl=true/\qP v≠.closed/\qP v≠.Dw/\qP v≠.full:=by unfold qP;split <;> exact⟨U,Ap,Ap,Ap⟩
theorem Ase:(qS v=.Dw\/qS v=.full)↔v≠[48]:=by
 unfold qS;split
 next h=>simp[h]
 next h =>
  split
  ·simp[h]
  ·simp[h]
section
variable {K:NF}{base:Heap}{t:Adr}
theorem Aeb(s:Ba H H'):Cq r H H':=λb o _ e=>s b o e
theorem AkZ(l:NI):l=Hb l++l.drop (Hb l).length/\NoF (l.drop (Hb l).length):=by
 induction l with
 | nil=>exact⟨U,λc hc=>by simp at hc⟩
 | cons a l b =>
  unfold Hb at b ⊢;rw[Aw2];by_cases h:dg a=true
  ·rw[if_pos h];refine⟨by rw[AvQ,List.drop_succ_cons,Awy];exact congrArg _ b.1,?_⟩;rw[AvQ,List.drop_succ_cons];exact b.2
  ·rw[if_neg h];refine⟨U,λc hc=>?_⟩;have:c=a:=by simpa using hc.symm
   rw[this];exact λz=>h (zN z)
theorem ApW(d:∀ c∈v,48<=c/\c<=57)(h:okN v):∃ n:Nat,Adb v=.int (n:Int)/\n=PySem.NumText.digitsVal v/\n<100/\(n=0↔v=[48]):=by
 refine⟨PySem.NumText.digitsVal v,by unfold Adb;exact if_pos h,U,?_⟩
 match v,d,h with
 | [],_,h=>exact absurd h.1.1 AA
 | [a],d,_ =>
  have f:=d a AA;have e:PySem.NumText.digitsVal [a]=a-48:=by show 0*10+(a-48)=_;omega
  rw[e];refine⟨At,⟨λz=>?_,λz=>?_⟩⟩
  ·rw[show a=48 by omega]
  ·injection z with z;omega
 | [a,b],d,h =>
  have f:=d a AA;have j:=d b AA;have e:PySem.NumText.digitsVal [a,b]=(a-48)*10+(b-48):=by show(0*10+(a-48))*10+(b-48)=_;omega
  have i:a≠48:=λz=>h.2 ⟨U,by rw[z];rfl⟩;rw[e];refine⟨At,⟨λz=>At,λz=>by simp at z⟩⟩
 | a::b::c::v,_,h=>exact absurd h.1.2 AA
theorem ApX(h:¬okN v):Adb v=.non:=by unfold Adb;exact if_neg h
def fg (u:NI)(p:Nat):NI:=Hb (u.drop p)
theorem AnE:∀ c∈fg u p,48<=c/\c<=57:=Ap9
theorem Afw(u:NI)(p:Nat):u.drop p=fg u p++u.drop (p+(fg u p).length)/\NoF (u.drop (p+(fg u p).length)):=by have:=AkZ (u.drop p);rw[AwD] at this;exact this
theorem AqD(h:p<=u.length):p+(fg u p).length<=u.length:=by have:=congrArg List.length (Afw u p).1;rw[Awk,AvL,Awk] at this;have h2:=(AgZ (u.drop p)).2;rw[Awk] at h2;unfold fg at *;omega
def vlN (v:NI):Nat:=PySem.NumText.digitsVal v
inductive PTr:NI->NI->NI->Prop where
 | stop {u:NI}:u[0]?≠some 45->PTr u [] u
 | step {v ns r:NI}:PTr (v.drop (Hb v).length) ns r->PTr (45::v) (vlN (Hb v)::ns) r
theorem PTr.det:∀{u ns r a b:NI},PTr u ns r->PTr u a b->ns=a/\r=b:=by
 intro u ns r a b h
 induction h generalizing a b with
 | stop h =>
  intro g;cases g with
  | stop _=>exact⟨U,U⟩
  | step _=>exact absurd U h
 | step _ c =>
  intro g;cases g with
  | stop g=>exact absurd U g
  | step g=>exact⟨by rw[(c g).1],(c g).2⟩
inductive AnF (t:Adr)(vs:Na)(H:Hp)(Q:VK)(E:XK):Prop
|mk(r:_)(dx:_)(u:_)(p:_)(_:vs=[.ref r])(_:Rd t H r dx u p)(_:(∀ n:Nat,okN (fg u p)->n<100->(n=0↔fg u p=[48])->n=vlN (fg u p)->Q (.int (n:Int)) (upd H r (.ins t.Bd dx (rf u (p+(fg u p).length))))))(_:(¬okN (fg u p)->∀ H',Cq r H H'->E (.ref t.Du) none H'))
theorem JM(T:Txt K mg t):Bh P w K mg base (CX1 P w) 4 t.Ls t.Lw ["reader"] (AnF t):=by
 refine T.Eb.F.okX Ks ?_;rintro _ _ _ _ H _ Q E f ⟨r,dx,u,p,rfl,a,k1,k2⟩;refine⟨_,(Ac (Bb (i:=1) Ks.nd U (Or.inl U) (Rv (pv 0) T.Bl.c T.Ge.m ((Yd T).mono Ap) f T.Ge.b .nil Aq))
  (Ac (Bm (Ak Ahs (pv 1) Rp (Ar _))
   (Ad (Bx CQ U (λ_ _ z=>z) F.excBase_ValueError Cy F.excBase_ValueError T.J6.q U T.KQ (Aa Af Ab)))
   Ao)
  (Ad (Ay (pv 1))))),?_⟩;refine⟨_,U,r,dx,rf u p,U,a.1,(DP u p).2.2.1,r,dx,u,p,U,a,?_⟩;by_cases c:okN (fg u p)
 ·obtain⟨n,e,d,hn,h⟩:=ApW AnE c;unfold fg at e;rw[e];refine⟨_,U,U,_,U,?_⟩;refine Ea (λz=>nomatch z) ?_;exact⟨_,U,k1 n c hn h d⟩
 ·have e:=ApX c;unfold fg at e;rw[e];refine⟨_,U,U,_,U,?_⟩;refine Gq U ?_;exact⟨Ap,k2 c _ Cq.upd⟩
theorem AnG:(("-" : Str))=tx [45]:=As
theorem AnH(h:(u.drop p).take [c].length=[c]):u.drop p=c::u.drop (p+1):=by
 cases e:u.drop p with
 | nil=>rw[e] at h;simp at h
 | cons a v =>
  rw[e] at h;have:a=c:=by simpa using h
  rw[<- AwD,e,this];rfl
theorem Afx(h:(u.drop p).take [c].length≠[c]):(u.drop p)[0]?≠some c:=λz=>by
 cases e:u.drop p with
 | nil=>rw[e] at z;simp at z
 | cons a v =>
  rw[e] at z h;have:a=c:=by simpa using z
  exact h (by rw[this];rfl)
theorem Afy(e:u.drop p=c::v):p+1<=u.length:=by have:=congrArg List.length e;rw[Awk,AvQ] at this;omega
inductive AnI (t:Adr)(vs:Na)(H:Hp)(Q:VK)(E:XK):Prop
|mk(r:_)(dx:_)(u:_)(p:_)(n0:_)(s:_)(d:_)(_:vs=[.ref r,.int ((n0:Nat):Int)])(_:Rd t H r dx u p)(_:u.length<=5000)(_:n0<100)(_:Wk.cl s=true)(_:s≠.closed)(_:NoF (u.drop p))(_:(s=.Dw\/s=.full->(u.drop p).take 2≠[42,40]))(_:(∀ a ns p' H',Cq r H H'->Rd t H' r dx u p'->p<=p'->H a=none->AtP t H' a ((n0::ns).map Int.ofNat)->(∀ n∈ns,n<100)->ns.length<=5000->PTr (u.drop p) ns (u.drop p')->acc s d (u.drop p)=ai d (u.drop p')->Q (.ref a) H'))(_:(∀ H',Cq r H H'->acc s d (u.drop p)=false->E (.ref t.Du) none H'))
theorem Adl(T:Txt K mg t):Bh P w K mg base (CX1 P w) 5 t.ZP t.ZQ ["reader", "first"] (AnI t):=by
 refine T.TJ.F.okX W4 ?_;rintro _ _ _ _ H _ Q E Y ⟨r,dx,u,p,I,s,d,rfl,X,u9,a8,hs,a1,hF,a5,k1,k2⟩;refine⟨_,(Ac (Bb (i:=2) W4.nd U (Or.inl U) (Cu (Aa (pv 1) Ab)))
  (Ac (Wf λhfr=>(VR (Ae3 CQ hfr) (Fl (Ds (pv 0) T.Bl.c T.Bq.m ((Di T).mono Ap) Y T.Bq.b .nil Aq (Aa Af Ab)))
   (Ad (Bg (BR (K:=K) zM zL zQ DY (pv 2) (Aa (Al ((JM T).mono Ap) Y U T.Eb.m T.Eb.F.kp T.Eb.b .nil Cv (Aa (pv 0) Ab)) Ab))))))
  (Ad (Ay (Fb T.Ql.m ((Ze T).mono Ap) Y U T.ArR T.Hj.b .nil Aq (Aa (pv 2) Ab)))))),?_⟩;refine⟨_,U,AG,λq R=>?_⟩;have k:q≠r:=λz=>by rw[z,X.1] at R;cases R
 refine⟨λm σ H2=>∃ done p2 B,σ=[some (.ref r),some (.int (I:Int)),some (.ref q)]/\Cq r H H2/\H2 q=some (.lst (vI ((I::done).map Int.ofNat)))/\Rd t H2 r dx u p2/\p+done.length<=p2/\(∀ n∈done,n<100) /\
   Wk.cl B=true/\B≠.closed/\NoF (u.drop p2)/\(B=.Dw\/B=.full->(u.drop p2).take 2≠[42,40])/\acc s d (u.drop p)=acc B d (u.drop p2)/\(∀ ns r,PTr (u.drop p2) ns r->PTr (u.drop p) (done++ns) r)/\m=u.length-p2,
  ⟨_,[],p,s,U,Aeb (Ba.upd R),Ae,⟨by rw[Ai k.symm];exact X.1,X.2⟩,AvN _,(λn hn=>by simp at hn),hs,a1,hF,a5,U,(λns r h=>h),U⟩,?_⟩;rintro m σ H2 ⟨done,p2,B,rfl,S,A,a,ab,L,C,J,a7,D,l,O,rfl⟩;have a9:=a.2.1;refine⟨_,U,r,dx,rf u p2,U,a.1,(DP u _).2.1,r,dx,u,p2,[45],(by rw[AnG];rfl),a,Ap,λYW=>?_,λa4=>?_⟩
 ·refine⟨_,U,?_⟩;refine Ms ?_;have y:=AnH YW;have N:=Afy y;rw[y,AnC C J] at l;have a2:(upd H2 r (.ins t.Bd dx (rf u (p2+[45].length)))) q=some (.lst (vI ((I::done).map Int.ofNat))):=by rw[Ai k];exact A
  have fr:=Afw u (p2+1);have fl:=AqD N;have np:=AkX (d:=d) (AnE (u:=u) (p:=p2+1)) fr.2;rw[<- fr.1] at np;refine⟨_,λσ' H' h=>h,?_⟩;refine⟨_,U,.inl ⟨U,_,SqL.of a2⟩,_,U,r,dx,u,p2+1,U,⟨Ae,N,a.2.2⟩,λn a0 hn _ hv=>?_,λa3 H' sb=>?_⟩
  ·rw[Ez];have Z:(upd H2 r (.ins t.Bd dx (rf u (p2+1+(fg u (p2+1)).length)))) q=some (.lst (vI ((I::done).map Int.ofNat))):=by rw[Ai k];exact A
   refine⟨_,_,_,U,U,Z,(by rw[Cj,AvK,AvQ];exact AdZ At),?_⟩;have W:=@AtS (fg u (p2+1));refine⟨u.length-(p2+1+(fg u (p2+1)).length),At,done++[n],p2+1+(fg u (p2+1)).length,qP (fg u (p2+1)),U,?_,?_,?_,by rw[AvL,Awz];omega,?_,W.1,W.2.1,fr.2,λz=>by rcases z with z | z;exact absurd z W.2.2.1;exact absurd z W.2.2.2,by rw[l,np.1 a0],(λns r h=>?_),U⟩
   ·intro b o v e;rw[Ai (Bc e R),Ai v];exact S b o v e
   ·rw[Ae];show some (HO.lst (vI ((I::done).map Int.ofNat)++[V.int (Int.ofNat n)]))=_;rw[Ah8,<- Awy,AvO];rfl
   ·refine⟨?_,fl,a.2.2⟩;rw[Ai k.symm,Ae]
   ·intro x f;rcases zG.mp f with f | f
    ·exact L x f
    ·rw[zF.mp f];exact hn
   ·rw[Awj];refine O _ _ ?_;rw[y,hv];refine PTr.step ?_;rw[AwD];exact h
  ·refine k2 H' (λb o v e=>sb b o v ?_) (by rw[l,np.2 a3]);rw[Ai v];exact S b o v e
 ·refine⟨_,U,?_⟩;refine JS ?_;have G:=Afx a4;refine⟨_,U,λx j f a6 aa=>⟨x,j,q,U,Ae,U,?_⟩⟩;rw[Ez];have nx:∀ b o,H2 b=some o->b≠x/\b≠j:=λb o e=>⟨Bc e f,Bc e a6⟩;have keep:∀ b o,H2 b=some o->(upd (upd H2 j (.own x)) x (.ins t.HS j (pfR q))) b=some o:=λb o e=>by rw[Ai (nx b o e).1,Ai (nx b o e).2];exact e
  refine k1 x done p2 _ (λb o v e=>keep b o (S b o v e)) ⟨keep _ _ a.1,a.2⟩ At ?_ ⟨j,q,Ae,keep _ _ A,AA,by rw[AvK,AvQ];omega⟩ L At ?_ ?_
  ·cases e:H x with
   | none=>rfl
   | some o =>
    by_cases M:x=r
    ·rw[M,a.1] at f;cases f
    ·rw[S x o M e] at f;cases f
  ·have:=O [] _ (PTr.stop G);rw[Awo] at this;exact this
  ·rw[l];exact AnB C (λ_=>⟨a7,G⟩) D
end
def ofN (ns:NI):NA:=ns.map Int.ofNat
mutual
noncomputable def It.tx:It->NI
 | .pth ss=>At4 (ss.map Int.toNat)
 | .tms n xs=>dec n++42::40::(Avm xs++[41])
noncomputable def Avm:List It->NI
 | []=>[]
 | x::xs=>x.tx++AtT xs
noncomputable def AtT:List It->NI
 | []=>[]
 | x::xs=>32::(x.tx++AtT xs)
end
def Gd:Nat->It->Prop
 | _,.pth ss=>∃ n0 ns,ss=ofN (n0::ns)/\(∀ n∈n0::ns,n<100)/\ns.length<=5000
 | 0,.tms _ _=>False
 | d+1,.tms n xs=>1<=n/\n<=99/\xs≠[]/\xs.length<=5000/\∀ x∈xs,Gd d x
def Aft (rest:NI):Prop:=∀ c,rest[0]?=some c->c=32\/c=41
section
variable {K:NF}{base:Heap}{t:Adr}
def AtJ (t:Adr)(H:Hp)(F:Addr->Prop):Nat->Addr->It->Prop
 | _,a,.pth ss=>AtP t H a ss
 | 0,_,.tms _ _=>False
 | d+1,a,.tms n xs=>∃(dx li:Addr)(rs:NU),H a=some (.ins t.Ef dx (tf n li))/\H li=some (.lst (rs.map V.ref))/\F li/\n<=99/\rs.length=xs.length/\rs.length<=6000 /\
   ∀(i:Nat) r x,rs[i]?=some r->xs[i]?=some x->AtJ t H F d r x
structure Kp (t:Adr)(H H':Hp)(F:Addr->Prop):Prop where
 kp:∀(b dx l:Addr),H b=some (.ins t.HS dx (pfR l))->H' b=some (.ins t.HS dx (pfR l))
 ks:∀(b:Addr)(ss:NA),1<=ss.length->H b=some (.lst (vI ss))->H' b=some (.lst (vI ss))
 kt:∀(b dx:Addr)(n:Nat)(l:Addr),H b=some (.ins t.Ef dx (tf n l))->H' b=some (.ins t.Ef dx (tf n l))
 kl:∀(b:Addr)(rs:NU),F b->H b=some (.lst (rs.map V.ref))->H' b=some (.lst (rs.map V.ref))
theorem AtJ.keep{H H':Hp}{F:Addr->Prop}(k:Kp t H H' F):∀(d:Nat)(a:Addr)(x:It),AtJ t H F d a x->AtJ t H' F d a x
 | 0,_,.pth _,⟨dx,l,h⟩=>⟨dx,l,k.kp _ _ _ h.o,k.ks _ _ h.ne h.l,h.ne,h.le⟩
 | 0,_,.tms _ _,h=>h.elim
 | d+1,_,.pth _,⟨dx,l,h⟩=>⟨dx,l,k.kp _ _ _ h.o,k.ks _ _ h.ne h.l,h.ne,h.le⟩
 | d+1,_,.tms n xs,⟨dx,li,rs,h1,h2,h0,h3,h4,h5,h6⟩=>⟨dx,li,rs,k.kt _ _ _ _ h1,k.kl _ _ h0 h2,h0,h3,h4,h5,λi r x c b=>AtJ.keep k d r x (h6 i r x c b)⟩
theorem AtJ.imp{H:Hp}{F c:Addr->Prop}(k:∀ b,F b->(∃ o,H b=some o)->c b):∀(d:Nat)(a:Addr)(x:It),AtJ t H F d a x->AtJ t H c d a x
 | 0,_,.pth _,h=>h
 | 0,_,.tms _ _,h=>h.elim
 | d+1,_,.pth _,h=>h
 | d+1,_,.tms n xs,⟨dx,li,rs,h1,h2,h0,h3,h4,h5,h6⟩=>⟨dx,li,rs,h1,h2,k _ h0 ⟨_,h2⟩,h3,h4,h5,λi r x f e=>AtJ.imp k d r x (h6 i r x f e)⟩
theorem AtJ.to{H:Hp}{F:Addr->Prop}:∀(d:Nat)(a:Addr)(x:It),AtJ t H F d a x->AtI t H d a x
 | 0,_,.pth _,h=>h
 | 0,_,.tms _ _,h=>h.elim
 | d+1,_,.pth _,h=>h
 | d+1,_,.tms n xs,⟨dx,li,rs,h1,h2,h0,h3,h4,h5,h6⟩=>⟨dx,li,rs,h1,h2,h3,h4,h5,λi r x c b=>AtJ.to d r x (h6 i r x c b)⟩
structure Afz (t:Adr)(H:Hp)(F:Addr->Prop)(d:Nat)(rs:NU)(xs:List It):Prop where
 len:rs.length=xs.length
 le:rs.length<=6000
 at_:∀(i:Nat) r x,rs[i]?=some r->xs[i]?=some x->AtJ t H F d r x
theorem Afz.snoc{x:It}(h:Afz t H F d rs xs)(k:AtJ t H F d a x)(l:rs.length<6000):Afz t H F d (rs++[a]) (xs++[x]):=by
 have e:=h.len;refine⟨by rw[AvL,AvL,e];rfl,by rw[AvL,Awz];omega,λi r y b c=>?_⟩;by_cases hi:i<rs.length
 ·rw[Awg hi] at b;rw[Awg At] at c;exact h.at_ i r y b c
 ·rw[Awi At] at b;rw[Awi At] at c;rw[e] at b;cases f:i-xs.length with
  | zero =>
   rw[f] at b c;cases b;cases c;exact k
  | succ j=>rw[f] at b;simp at b
theorem Afz.keep(h:Afz t H F d rs xs)(k:Kp t H H' F):Afz t H' F d rs xs:=⟨h.len,h.le,λi r x b a=>AtJ.keep k d r x (h.at_ i r x b a)⟩
theorem Kp.same(s:Ba H H'):Kp t H H' F:=⟨λb dx l e=>s _ _ e,λb ss _ e=>s _ _ e,λb dx n l e=>s _ _ e,λb rs _ e=>s _ _ e⟩
theorem Kp.but{c:Addr}{fs:List (Str × V)}(s:Cq r H H')(a:H r=some (.ins t.Bd c fs))(f:t.Bd≠t.HS)(d:t.Bd≠t.Ef):Kp t H H' F:=by
 refine⟨λb dx l e=>s _ _ (λz=>?_) e,λb ss _ e=>s _ _ (λz=>?_) e,λb dx n l e=>s _ _ (λz=>?_) e,λb rs _ e=>s _ _ (λz=>?_) e⟩
 ·rw[z,a] at e;injection e with e;injection e with e;exact f e
 ·rw[z,a] at e;cases e
 ·rw[z,a] at e;injection e with e;injection e with e;exact d e
 ·rw[z,a] at e;cases e
theorem Kp.app(a:H li=some (.lst (rs.map V.ref)))(i:¬F li):Kp t H (upd H li o) F:=by
 refine⟨λb dx l e=>?_,λb ss n e=>?_,λb dx n l e=>?_,λb h f e=>?_⟩
 ·rw[Ai (λz=>by rw[z,a] at e;cases e)];exact e
 ·rw[Ai (λz=>by
   rw[z,a] at e;injection e with e;injection e with e;cases ss with
   | nil=>simp at n
   | cons x y =>
    cases rs with
    | nil=>simp[vI] at e
    | cons c d =>
     unfold vI at e;rw[AvU,AvU] at e;injection e with e;cases e)]
  exact e
 ·rw[Ai (λz=>by rw[z,a] at e;cases e)];exact e
 ·rw[Ai (λz=>by rw[z] at f;exact i f)];exact e
theorem AqE(T:Txt K mg t):t.Bd≠t.HS:=λe=>by
 have h1:=T.DX.m.at_;have h2:=T.Hj.m.at_;rw[e,h2] at h1;injection h1 with h1;injection h1 with h1;injection h1 with h1;obtain⟨_,_,_,_,_,_,_,_,_,a,l1,_⟩:=T.DX.F.ex;obtain⟨_,_,_,_,_,_,_,_,_,b,l2,_⟩:=T.Hj.F.ex;rw[h1,l1,a,b] at l2;injection l2 with l2;injection l2 with _ _ l2 _;injection l2 with l2;have q:(("Reader.__init__" : Str))=("Path.__init__" : Str):=congrArg FuncData.qualname l2;exact absurd q As
theorem AqF(T:Txt K mg t):t.Bd≠t.Ef:=λe=>by
 have h1:=T.DX.m.at_;have h2:=T.FN.m.at_;rw[e,h2] at h1;injection h1 with h1;injection h1 with h1;injection h1 with h1;obtain⟨_,_,_,_,_,_,_,_,_,a,l1,_⟩:=T.DX.F.ex;obtain⟨_,_,_,_,_,_,_,_,_,b,l2,_⟩:=T.FN.F.ex;rw[h1,l1,a,b] at l2;injection l2 with l2;injection l2 with _ _ l2 _;injection l2 with l2;have q:(("Reader.__init__" : Str))=("Times.__init__" : Str):=congrArg FuncData.qualname l2;exact absurd q As
theorem Ni(T:Txt K mg t):Bh P w K mg base CX0 1 t.Jf t.Ow ["self", "count", "inner"] (λvs H Q E=>∃(r dx l:Addr)(n:Nat),vs=[.ref r,.int (n:Int),.ref l]/\H r=some (.ins t.Ef dx [])/\Q .non (upd H r (.ins t.Ef dx (tf n l)))):=by
 refine T.FN.F.ok WM ?_;rintro _ _ _ _ H _ Q E a ⟨r,dx,l,n,rfl,h1,k⟩;refine⟨_,(Ac (HH (K:=K) (pv 0) (pv 1))
  (Ad (HH (K:=K) (pv 0) (pv 2)))),?_⟩;refine⟨_,U,_,U,_,_,_,_,U,h1,T.J7.c,T.Mg,Ap,?_⟩;refine⟨_,U,_,U,_,_,_,_,U,Ae,T.J7.c,T.Mh,AF,?_⟩;rw[Ez];exact k
theorem Ala:(("*(" : Str))=tx [42,40]:=As
theorem Asg:((")" : Str))=tx [41]:=As
theorem Ash:((" " : Str))=tx [32]:=As
theorem Cq.none{r b:Addr}{H H':Hp}(s:Cq r H H')(n:H' b=none)(h:b≠r):H b=none:=by
 cases e:H b with
 | none=>rfl
 | some o=>rw[s b o h e] at n;cases n
theorem AnJ(h:1<=e):ai e (41::v)=acc .closed (e-1) v:=by show(if (41:Nat)=32 then acc .start e v else if (41:Nat)=41 then (if 0<e then acc .closed (e-1) v else false) else false)=acc .closed (e-1) v;rw[if_neg Ap,if_pos U,if_pos At]
theorem AqG(h1:c≠32)(h2:c≠41):ai e (c::v)=false:=by show(if c=32 then acc .start e v else if c=41 then (if 0<e then acc .closed (e-1) v else false) else false)=false;rw[if_neg h1,if_neg h2]
inductive RIm (R:NI->It->NI->Prop):NI->List It->NI->Prop where
 | nil {u:NI}:u[0]?≠some 32->RIm R u [] u
 | cons {v r' r:NI} {x:It} {xs:List It}:R v x r'->RIm R r' xs r->RIm R (32::v) (x::xs) r
theorem RIm.det{R:NI->It->NI->Prop}(f:∀ u x r x' d,R u x r->R u x' d->x=x'/\r=d):∀{u r d:NI} {xs c:List It},RIm R u xs r->RIm R u c d->xs=c/\r=d:=by
 intro u r d xs c h
 induction h generalizing c d with
 | nil h =>
  intro g;cases g with
  | nil _=>exact⟨U,U⟩
  | cons _ _=>exact absurd U h
 | cons a _ e =>
  intro g;cases g with
  | nil g=>exact absurd U g
  | cons b g =>
   obtain⟨rfl,rfl⟩:=f _ _ _ _ _ a b;exact⟨by rw[(e g).1],(e g).2⟩
def RI:Nat->NI->It->NI->Prop
 | _,u,.pth ss,r=>(u.drop (Hb u).length).take 2≠[42,40]/\∃ ns,ss=ofN (vlN (Hb u)::ns)/\PTr (u.drop (Hb u).length) ns r
 | 0,_,.tms _ _,_=>False
 | d+1,u,.tms n xs,r=>n=vlN (Hb u)/\∃ v x ys r',u.drop (Hb u).length=42::40::v/\xs=x::ys/\RI d v x r'/\RIm (RI d) r' ys (41::r)
theorem RI.det:∀(d:Nat)(u:NI)(x:It)(r:NI)(x':It)(c:NI),RI d u x r->RI d u x' c->x=x'/\r=c:=by
 intro d
 induction d with
 | zero =>
  intro u x r x' c h g;cases x with
  | tms _ _=>exact h.elim
  | pth ss =>
   cases x' with
   | tms _ _=>exact g.elim
   | pth b =>
    obtain⟨_,ns,rfl,h⟩:=h;obtain⟨_,i,rfl,g⟩:=g;have:=h.det g;exact⟨by rw[this.1],this.2⟩
 | succ d j =>
  intro u x r x' c h g;cases x with
  | pth ss =>
   cases x' with
   | pth b =>
    obtain⟨_,ns,rfl,h⟩:=h;obtain⟨_,i,rfl,g⟩:=g;have:=h.det g;exact⟨by rw[this.1],this.2⟩
   | tms _ _ =>
    obtain⟨_,v,x,ys,k,e,_⟩:=g;exact absurd (by rw[e];rfl) h.1
  | tms n xs =>
   cases x' with
   | pth b =>
    obtain⟨_,v,x,ys,k,e,_⟩:=h;exact absurd (by rw[e];rfl) g.1
   | tms q o =>
    obtain⟨rfl,v,x,ys,k,e,rfl,h1,h2⟩:=h;obtain⟨rfl,p,x',m,l,a,rfl,g1,g2⟩:=g;rw[e] at a;injection a with _ a;injection a with _ a;subst a;obtain⟨rfl,rfl⟩:=j _ _ _ _ _ h1 g1;obtain⟨rfl,f⟩:=RIm.det j h2 g2;injection f with _ f;exact⟨U,f⟩
def RIs (d:Nat)(u:NI)(xs:List It)(r:NI):Prop:=∃ x ys r',xs=x::ys/\RI d u x r'/\RIm (RI d) r' ys r
theorem RIs.det{r b:NI}{a:List It}(h:RIs d u xs r)(g:RIs d u a b):xs=a/\r=b:=by obtain⟨x,ys,i,rfl,h1,h2⟩:=h;obtain⟨x',f,e,rfl,g1,g2⟩:=g;obtain⟨rfl,rfl⟩:=RI.det d _ _ _ _ _ h1 g1;obtain⟨rfl,c⟩:=RIm.det (RI.det d) h2 g2;exact⟨U,c⟩
inductive Zh (t:Adr)(d:Nat)(vs:Na)(H:Hp)(Q:VK)(E:XK):Prop
|mk(r:Addr)(dx:Addr)(u:NI)(p:Nat)(e:Nat)(_:vs=[.ref r,.int (e:Int)])(_:e+d=8)(_:Rd t H r dx u p)(_:u.length<=5000)(_:(∀(li:Addr)(rs:NU)(xs:List It)(p':Nat)(H':Hp),Cq r H H'->Rd t H' r dx u p'->H li=none->H' li=some (.lst (rs.map V.ref))->Afz t H' (λb=>H b=none) d rs xs->(∀ x∈xs,Gd d x)->xs≠[]->xs.length<=5000->p<p'->(u.drop p')[0]?≠some 32->RIs d (u.drop p) xs (u.drop p')->acc .start e (u.drop p)=ai e (u.drop p')->Q (.ref li) H'))(_:(∀ H',Cq r H H'->acc .start e (u.drop p)=false->E (.ref t.Du) none H'))
inductive Ahe (t:Adr)(d:Nat)(vs:Na)(H:Hp)(Q:VK)(E:XK):Prop
|mk(r:Addr)(dx:Addr)(u:NI)(p:Nat)(e:Nat)(_:vs=[.ref r,.int (e:Int)])(_:e+d=8)(_:Rd t H r dx u p)(_:u.length<=5000)(_:(∀(a:Addr)(x:It)(p':Nat)(H':Hp),Cq r H H'->Rd t H' r dx u p'->p<p'->H a=none->AtJ t H' (λb=>H b=none) d a x->Gd d x->RI d (u.drop p) x (u.drop p')->acc .start e (u.drop p)=ai e (u.drop p')->Q (.ref a) H'))(_:(∀ H',Cq r H H'->acc .start e (u.drop p)=false->E (.ref t.Du) none H'))
def Zi (t:Adr):Nat->Sp
 | 0=>λvs H Q E=>∃(r dx:Addr)(u:NI)(p n:Nat),vs=[.ref r,.int (n:Int),.int ((9:Nat):Int)]/\Rd t H r dx u p/\∀ H',Cq r H H'->E (.ref t.Du) none H'
 | d+1=>λvs H Q E=>∃(r dx:Addr)(u:NI)(p n e:Nat),vs=[.ref r,.int (n:Int),.int (e:Int)]/\e+d=8/\1<=e/\Rd t H r dx u p/\u.length<=5000/\n<100 /\
   (∀(a:Addr)(xs:List It)(p':Nat)(H':Hp),Cq r H H'->Rd t H' r dx u p'->p<=p'->H a=none->1<=n->AtJ t H' (λb=>H b=none) (d+1) a (.tms n xs)->Gd (d+1) (.tms n xs)->RIs d (u.drop p) xs (41::u.drop p')->acc .start e (u.drop p)=acc .closed (e-1) (u.drop p')->Q (.ref a) H') /\
   (∀ H',Cq r H H'->n=0\/acc .start e (u.drop p)=false->E (.ref t.Du) none H')
theorem Aa8(T:Txt K mg t)(d:Bh P w K mg base (CX1 P w) 1 t.Ie t.Ig ["reader", "depth"] (λ_ _ _ _=>False)):Bh P w K mg base (CX1 P w) 3 t.K7 t.K8 ["reader", "count", "depth"] (Zi t 0):=by
 refine T.Lx.F.okX Ju (λ_ _ _ _ H vs Q E a h=>?_) (len:=λvs H Q E h=>by obtain⟨r,dx,u,p,n,rfl,_⟩:=h;rfl);obtain⟨r,dx,u,p,n,rfl,e,k⟩:=h;refine⟨_,(Ac (Bm (Ak Dd (pv 1) Ah (Ar _))
   (Ad (Bx CQ U (λ_ _ z=>z) F.excBase_ValueError Cy F.excBase_ValueError T.J6.q U T.KQ (Aa Af Ab)))
   Ao)
  (Ac (Bm (Ak Hr (pv 2) (BX (v:=.int 8) U T.OJ.choose_spec ⟨_,U⟩) (Ar _))
   (Ad (Bx CQ U (λ_ _ z=>z) F.excBase_ValueError Cy F.excBase_ValueError T.J6.q U T.KQ (Aa Af Ab)))
   Ao)
  (Ac (Bb (i:=3) Ju.nd U (Or.inl U) (Al (d.mono At) a U T.Fo.m T.Fo.F.kp T.Fo.b .nil Cv (Aa (pv 0) (Aa (pv 2) Ab))))
  (Ac (Bm (Hu (Fl (Ds (pv 0) T.Bl.c T.Bq.m ((Di T).mono At) a T.Bq.b .nil Aq (Aa Af Ab))))
   (Ad (Bx CQ U (λ_ _ z=>z) F.excBase_ValueError Cy F.excBase_ValueError T.J6.q U T.KQ (Aa Af Ab)))
   Ao)
  (Ad (Ay (Fb T.J7.m ((Ni T).mono At) a U T.Ajq T.FN.b .nil Aq (Aa (pv 1) (Aa (pv 3) Ab))))))))),?_⟩;refine⟨_,U,U,_,U,?_⟩;refine Cw (λ_=>⟨Ap,k H (Aeb (.refl _))⟩) (λ_=>?_);refine⟨_,U,_,_,U,U,_,U,?_⟩;exact Gq Ap ⟨Ap,k H (Aeb (.refl _))⟩
theorem Acx(hk:1<=k)(T:Txt K mg t)(Qp:Bh P w K mg base (CX1 P w) k t.Ie t.Ig ["reader", "depth"] (Zh t d)) :
  Bh P w K mg base (CX1 P w) (k+2) t.K7 t.K8 ["reader", "count", "depth"] (Zi t (d+1)):=by
 refine T.Lx.F.okX Ju (λ_ _ _ _ H vs Q E Y h=>?_) (len:=λvs H Q E h=>by obtain⟨r,dx,u,p,n,e,rfl,_⟩:=h;rfl);obtain⟨r,dx,u,p,n,e,rfl,he,e1,R,u9,n9,k1,k2⟩:=h;refine⟨_,(Ac (Bm (Ak Dd (pv 1) Ah (Ar _))
   (Ad (Bx CQ U (λ_ _ z=>z) F.excBase_ValueError Cy F.excBase_ValueError T.J6.q U T.KQ (Aa Af Ab)))
   Ao)
  (Ac (Bm (Ak Hr (pv 2) (BX (v:=.int 8) U T.OJ.choose_spec ⟨_,U⟩) (Ar _))
   (Ad (Bx CQ U (λ_ _ z=>z) F.excBase_ValueError Cy F.excBase_ValueError T.J6.q U T.KQ (Aa Af Ab)))
   Ao)
  (Ac (Bb (i:=3) Ju.nd U (Or.inl U) (Al (Qp.mono At) Y U T.Fo.m T.Fo.F.kp T.Fo.b .nil Cv (Aa (pv 0) (Aa (pv 2) Ab))))
  (Ac (Bm (Hu (Fl (Ds (pv 0) T.Bl.c T.Bq.m ((Di T).mono At) Y T.Bq.b .nil Aq (Aa Af Ab))))
   (Ad (Bx CQ U (λ_ _ z=>z) F.excBase_ValueError Cy F.excBase_ValueError T.J6.q U T.KQ (Aa Af Ab)))
   Ao)
  (Ad (Ay (Fb T.J7.m ((Ni T).mono At) Y U T.Ajq T.FN.b .nil Aq (Aa (pv 1) (Aa (pv 3) Ab))))))))),?_⟩;refine⟨_,U,U,_,U,?_⟩;refine Cw (λz=>⟨Ap,k2 H (Aeb (.refl _)) (.inl (by injection z with z;omega))⟩) (λn0=>?_);have n1:1<=n:=by
  rcases Nat.eq_zero_or_pos n with z | z
  ·exact absurd (by rw[z];rfl) n0
  ·exact z
 refine⟨_,U,_,_,U,U,_,U,?_⟩;refine Ea (λz=>At) ?_;refine⟨_,U,_,U,r,dx,u,p,e,U,he,R,u9,λli rs xs s H1 s1 j y M hA hG a1 O a2 G D f=>?_,λH1 s1 f=>k2 H1 s1 (.inr f)⟩;refine⟨_,U,r,dx,rf u _,U,j.1,(DP u _).2.1,r,dx,u,s,[41],(by rw[Asg];rfl),j,Ap,λYW=>?_,λN=>?_⟩
 ·refine⟨_,U,?_⟩;refine JS ?_;have o:=AnH YW;have a0:=Afy o;have Z:(upd H1 r (.ins t.Bd dx (rf u (s+[41].length)))) r=some (.ins t.Bd dx (rf u (s+[41].length))):=Ae;have I:Cq r H1 (upd H1 r (.ins t.Bd dx (rf u (s+[41].length)))):=Cq.upd;generalize upd H1 r (.ins t.Bd dx (rf u (s+[41].length)))=H2 at Z I ⊢;have S:li≠r:=λz=>by rw[z,R.1] at y;cases y
  have L:=I _ _ S M;have l:=hA.keep (Kp.but I j.1 (AqE T) (AqF T));refine⟨_,U,_,U,λx a J X a3=>⟨x,a,li,n,U,Ae,U,?_⟩⟩;rw[Ez];have B:Ba H2 (upd (upd H2 a (.own x)) x (.ins t.Ef a (tf n li))):=(Ba.upd X).over J;have C:(upd (upd H2 a (.own x)) x (.ins t.Ef a (tf n li))) x=some (.ins t.Ef a (tf n li)):=Ae;generalize upd (upd H2 a (.own x)) x (.ins t.Ef a (tf n li))=H3 at B C ⊢;have W:x≠r:=λz=>by rw[z,Z] at J;cases J
  have sH:Cq r H H2:=s1.trans I;have l9:=l.len;refine k1 x xs (s+1) H3 (sH.trans (Aeb B)) ⟨B _ _ Z,a0,R.2.2⟩ ?_ (sH.none J W) n1 ⟨a,li,rs,C,B _ _ L,y,At,l9,l.le,(l.keep (Kp.same B)).at_⟩ ⟨n1,At,a1,O,hG⟩ (by rw[o] at D;exact D) ?_
  ·omega
  ·rw[f,o];exact AnJ e1
 ·refine⟨_,U,?_⟩;refine Ms ?_;have A:=Afx N;refine⟨Ap,k2 H1 s1 (.inr ?_)⟩;rw[f];cases e9:u.drop s with
  | nil=>exact zJ At
  | cons c v =>
   rw[e9] at G A;exact AqG (λz=>G (by rw[z];rfl)) (λz=>A (by rw[z];rfl))
theorem AnK:ai e (32::v)=acc .start e v:=by show(if (32:Nat)=32 then acc .start e v else if (32:Nat)=41 then (if 0<e then acc .closed (e-1) v else false) else false)=acc .start e v;rw[if_pos rfl]
theorem AtU(h:(u.drop p).take [42,40].length=[42,40]):u.drop p=42::40::u.drop (p+2):=by
 cases e:u.drop p with
 | nil=>rw[e] at h;simp at h
 | cons a v =>
  cases v with
  | nil=>rw[e] at h;simp at h
  | cons b v =>
   rw[e] at h;have:a=42/\b=40:=by simpa using h
   rw[<- AwD,e,this.1,this.2];rfl
theorem AnL{a b:Nat}(e:u.drop p=a::b::v):p+2<=u.length:=by have:=congrArg List.length e;rw[Awk,AvQ,AvQ] at this;omega
theorem Vu(hk:5<=k)(T:Txt K mg t)(a3:Bh P w K mg base (CX1 P w) k t.K7 t.K8 ["reader", "count", "depth"] (Zi t d)) :
  Bh P w K mg base (CX1 P w) (k+1) t.Sv t.Sw ["reader", "depth"] (Ahe t d):=by
 refine T.Jk.F.okX W0 ?_;rintro _ _ _ _ H _ Q E X ⟨r,dx,u,p,e,rfl,he,J,u9,k1,k2⟩;have fr:=Afw u p;have fl:=AqD J.2.1;have np:=Aea (d:=e) (AnE (u:=u) (p:=p)) fr.2;rw[<- fr.1] at np;refine⟨_,(Ac (Bb (i:=2) W0.nd U (Or.inl U) (Al ((JM T).mono At) X U T.Eb.m T.Eb.F.kp T.Eb.b .nil Cv (Aa (pv 0) Ab)))
  (Ac (Bm (Fl (Ds (pv 0) T.Bl.c T.Bq.m ((Di T).mono At) X T.Bq.b .nil Aq (Aa Af Ab)))
   (Ad (Ay (Al (a3.mono At) X U T.Lx.m T.Lx.F.kp T.Lx.b .nil Cv (Aa (pv 0) (Aa (pv 2) (Aa (Aj Ex (pv 1) Ah) Ab))))))
   Ao)
  (Ad (Ay (Al ((Adl T).mono At) X U T.TJ.m T.TJ.F.kp T.TJ.b .nil Cv (Aa (pv 0) (Aa (pv 2) Ab))))))),?_⟩;refine⟨_,U,r,dx,u,p,U,J,λn N hn hz hv=>?_,λa1 H' B=>k2 H' B (np.2 a1)⟩;have j:=np.1 N;have f:(u.drop p).drop (Hb (u.drop p)).length=u.drop (p+(fg u p).length):=by rw[AwD];rfl
 have M:p<p+(fg u p).length:=by have:=N.1.1;omega
 have I:=@Ase (fg u p);have L:(upd H r (.ins t.Bd dx (rf u (p+(fg u p).length)))) r=some (.ins t.Bd dx (rf u (p+(fg u p).length))):=Ae;have y:Cq r H (upd H r (.ins t.Bd dx (rf u (p+(fg u p).length)))):=Cq.upd;generalize a5:p+(fg u p).length=p1 at j L y fl M fr np f ⊢;generalize hq:qS (fg u p)=q at j I;have O:q.cl=true/\q≠.closed:=by rw[<- hq];exact AnD
 have back:∀ b,(upd H r (.ins t.Bd dx (rf u p1))) b=none->H b=none:=λb h=>by
  by_cases o:b=r
  ·rw[o,L] at h;cases h
  ·exact y.none h o
 generalize upd H r (.ins t.Bd dx (rf u p1))=H1 at L y back ⊢;refine⟨_,U,r,dx,rf u p1,U,L,(DP u _).2.1,r,dx,u,p1,[42,40],(by rw[Ala];rfl),⟨L,fl,J.2.2⟩,Ap,λYW=>?_,λR=>?_⟩
 ·refine⟨_,U,?_⟩;refine Ms ?_;have A:=AtU YW;have S:=AnL A;have Y:=f.trans A;rw[A,AkY] at j;have v:(upd H1 r (.ins t.Bd dx (rf u (p1+[42,40].length)))) r=some (.ins t.Bd dx (rf u (p1+[42,40].length))):=Ae;have s:Cq r H1 (upd H1 r (.ins t.Bd dx (rf u (p1+[42,40].length)))):=Cq.upd;have G:∀ b,(upd H1 r (.ins t.Bd dx (rf u (p1+[42,40].length)))) b=none->H b=none:=λb h=>by
   by_cases o:b=r
   ·rw[o,v] at h;cases h
   ·exact back b (s.none h o)
  generalize upd H1 r (.ins t.Bd dx (rf u (p1+[42,40].length)))=H2 at v s G ⊢;refine⟨_,U,_,U,_,U,_,_,U,U,?_⟩;cases d with
  | zero =>
   refine⟨r,dx,u,p1+2,n,?_,⟨v,S,J.2.2⟩,λH' B=>k2 H' ((y.trans s).trans B) ?_⟩
   ·rw[show e=8 by omega];rfl
   ·rw[j,if_neg At]
  | succ d =>
   refine⟨r,dx,u,p1+2,n,e+1,U,At,At,⟨v,S,J.2.2⟩,u9,hn,λa xs W H' s1 D a2 na n1 hA hG a0 C=>?_,λH' B h=>k2 H' ((y.trans s).trans B) ?_⟩
   ·refine k1 a _ W H' ((y.trans s).trans s1) D At (G a na) (AtJ.imp (λb h _=>G b h) _ _ _ hA) hG ?_ ?_
    ·obtain⟨x,ys,r',rfl,q1,q2⟩:=a0;exact⟨hv,_,x,ys,r',Y,U,q1,q2⟩
    rw[j,if_pos ⟨I.mpr (λz=>by have:=hz.mpr z;omega),At⟩,C];exact AnB U (λz=>absurd U z) (λz=>by rcases z with z | z <;> cases z)
   ·rw[j];rcases h with h | h
    ·exact if_neg λz=>I.mp z.1 (hz.mp h)
    ·rw[h];split <;> rfl
 ·refine⟨_,U,?_⟩;refine JS ?_;refine⟨_,U,_,U,r,dx,u,p1,n,q,e,U,⟨L,fl,J.2.2⟩,u9,hn,O.1,O.2,fr.2,λ_=>R,λa ns W H' s1 D a2 na hA Z hl a4 C=>?_,λH' B h=>k2 H' (y.trans B) (by rw[j,h])⟩;refine k1 a (.pth (ofN (n::ns))) W H' (y.trans s1) D At (back a na) (by cases d <;> exact hA) ?_ ?_ (by rw[j,C])
  case refine_2 =>
   have q:((u.drop p).drop (Hb (u.drop p)).length).take 2≠[42,40]/\∃ l,ofN (n::ns)=ofN (vlN (Hb (u.drop p))::l)/\PTr ((u.drop p).drop (Hb (u.drop p)).length) l (u.drop W):=⟨by rw[f];exact R,ns,by rw[hv];rfl,by rw[f];exact a4⟩;cases d <;> exact q
  have g:∃ n0 l,ofN (n::ns)=ofN (n0::l)/\(∀ m∈n0::l,m<100)/\l.length<=5000:=⟨n,ns,U,λm hm=>by
   rcases yG.mp hm with z | z
   ·rw[z];exact hn
   ·exact Z m z,hl⟩
  cases d <;> exact g
theorem Th(hk:1<=k)(T:Txt K mg t)(W:Bh P w K mg base (CX1 P w) k t.Sv t.Sw ["reader", "depth"] (Ahe t d)) :
  Bh P w K mg base (CX1 P w) (k+1) t.Ie t.Ig ["reader", "depth"] (Zh t d):=by
 refine T.Fo.F.okX Uy ?_;rintro _ _ _ _ H _ Q E hr ⟨r,dx,u,p,e,rfl,he,hR,u9,k1,k2⟩;refine⟨_,(Ac (Bb (i:=2) Uy.nd U (Or.inl U) (Cu (Aa (Al (W.mono At) hr U T.Jk.m T.Jk.F.kp T.Jk.b .nil Cv (Aa (pv 0) (Aa (pv 1) Ab))) Ab)))
  (Ac (Wf λhfr=>(VR (Ae3 CQ hfr) (Fl (Ds (pv 0) T.Bl.c T.Bq.m ((Di T).mono At) hr T.Bq.b .nil Aq (Aa Af Ab)))
   (Ad (Bg (BR (K:=K) zM zL zQ DY (pv 2) (Aa (Al (W.mono At) hr U T.Jk.m T.Jk.F.kp T.Jk.b .nil Cv (Aa (pv 0) (Aa (pv 1) Ab))) Ab))))))
  (Ad (Ay (pv 2))))),?_⟩;refine⟨_,U,_,U,r,dx,u,p,e,U,he,hR,u9,λa x0 p1 H1 s1 A a0 na hA ab a6 a9=>?_,λH1 s1 D=>k2 H1 s1 D⟩;refine⟨AG,λli j=>?_⟩;have Z:Ba H1 (upd H1 li (.lst [.ref a])):=.upd j;have J:(upd H1 li (.lst [.ref a])) li=some (.lst ([a].map V.ref)):=Ae;have v:li≠r:=λz=>by rw[z,A.1] at j;cases j
 have R:H li=none:=s1.none j v;have a1:Afz t (upd H1 li (.lst [.ref a])) (λb=>H b=none/\b≠li) d [a] [x0]:=⟨U,AA,λi b x e1 e2=>by
  cases i with
  | zero =>
   cases e1;cases e2;exact AtJ.keep (Kp.same Z) d _ _ (AtJ.imp (λb D ⟨o,ho⟩=>⟨D,λz=>by rw[z,j] at ho;cases ho⟩) d _ _ hA)
  | succ i=>simp at e1⟩
 generalize upd H1 li (.lst [.ref a])=af at Z J a1 ⊢;refine⟨λm σ H2=>∃(q:Nat)(rs:NU)(xs:List It),σ=[some (.ref r),some (.int (e:Int)),some (.ref li)]/\Cq r H H2/\Rd t H2 r dx u q/\p+xs.length<=q/\xs≠[]/\(∀ x∈xs,Gd d x)/\acc .start e (u.drop p)=ai e (u.drop q)/\H2 li=some (.lst (rs.map V.ref))/\Afz t H2 (λb=>H b=none/\b≠li) d rs xs/\(∀ ys r,RIm (RI d) (u.drop q) ys r->RIs d (u.drop p) (xs++ys) r)/\m=u.length-q,
  ⟨_,p1,[a],[x0],U,s1.trans (Aeb Z),⟨Z _ _ A.1,A.2⟩,a0,AA,(λx G=>by rw[zF.mp G];exact ab),a9,J,a1,(λys r h=>⟨x0,ys,_,U,a6,h⟩),U⟩,?_⟩;rintro m σ H2 ⟨q,rs,xs,rfl,s3,f,ac,S,L,s,M,l,N,rfl⟩;have q9:=f.2.1;refine⟨_,U,r,dx,rf u q,U,f.1,(DP u _).2.1,r,dx,u,q,[32],(by rw[Ash];rfl),f,Ap,λYW=>?_,λO=>?_⟩
 ·refine⟨_,U,?_⟩;refine Ms ?_;have B:=AnH YW;have aa:=Afy B;rw[B,AnK] at s;have C:(upd H2 r (.ins t.Bd dx (rf u (q+[32].length)))) r=some (.ins t.Bd dx (rf u (q+[32].length))):=Ae;have n:(upd H2 r (.ins t.Bd dx (rf u (q+[32].length)))) li=some (.lst (rs.map V.ref)):=by rw[Ai v];exact M
  have s4:Cq r H2 (upd H2 r (.ins t.Bd dx (rf u (q+[32].length)))):=Cq.upd;generalize upd H2 r (.ins t.Bd dx (rf u (q+[32].length)))=H4 at C n s4 ⊢;refine⟨_,λσ' H' h=>h,?_⟩;refine⟨_,U,.inl ⟨U,_,SqL.of n⟩,_,U,_,U,r,dx,u,q+1,e,U,he,⟨C,aa,f.2.2⟩,u9,λb y p5 Y s5 I ae nb hB a4 a5 a3=>?_,λY s5 D=>k2 Y ((s3.trans s4).trans s5) (by rw[s,D])⟩;have X:=s5 _ _ v n;have ag:=I.2.1;have ah:rs.length<=5000:=by
   have:=l.len;omega
  refine⟨_,_,_,U,U,X,(by rw[AvK];exact AdZ At),?_⟩;have sB:Cq r H2 Y:=s4.trans s5;have a8:=l.keep (Kp.but sB f.1 (AqE T) (AqF T));have a2:AtJ t Y (λb=>H b=none/\b≠li) d b y:=AtJ.imp (λc hc _=>⟨(s3.trans s4).none hc (λz=>by rw[z,C] at hc;cases hc),λz=>by rw[z,n] at hc;cases hc⟩) d _ _ hB;have nF:¬(H li=none/\li≠li):=λz=>z.2 U;have a7:=(a8.snoc a2 At).keep (Kp.app (o:=.lst (rs.map V.ref++[V.ref b])) X nF);refine⟨u.length-p5,At,p5,rs++[b],xs++[y],U,?_,⟨?_,I.2⟩,by rw[AvL,Awz];omega,AA,?_,by rw[s,a3],?_,a7,(λys r h=>?_),U⟩
  ·intro c o hc ec;rw[Ai (Bc ec R)];exact sB c o hc (s3 c o hc ec)
  ·rw[Ai v.symm];exact I.1
  ·intro x G;rcases zG.mp G with G | G
   ·exact L x G
   ·rw[zF.mp G];exact a4
  ·rw[Ae,AvO];rfl
  ·rw[Awj];refine N _ _ ?_;rw[B];exact RIm.cons a5 h
 ·refine⟨_,U,?_⟩;refine JS ?_;have l0:1<=xs.length:=by
   cases xs with
   | nil=>exact absurd U S
   | cons _ _=>simp
  exact⟨_,U,k1 li rs xs q H2 s3 f R M ⟨l.len,l.le,λi r x e1 e2=>AtJ.imp (λb D _=>D.1) d _ _ (l.at_ i r x e1 e2)⟩ L S At At (Afx O) (by have:=N [] _ (RIm.nil (Afx O));rw[Awo] at this;exact this) s⟩
theorem Asj{ps:NX}:Bh P w K mg base CX k f fd ps (λ_ _ _ _=>False):=⟨λ_ _ _ _ h=>h.elim,λ_ _ _ _ _ _ _ _ _ _ _ _ _ h=>h.elim⟩
theorem Aec(T:Txt K mg t):∀ d:Nat,Bh P w K mg base (CX1 P w) (4*d+7) t.Ie t.Ig ["reader", "depth"] (Zh t d)
 | 0=>Th (k:=6) Ap T (Vu (k:=5) Ap T ((Aa8 T Asj).mono Ap))
 | d+1=>Th (k:=4*d+10) At T (Vu (k:=4*d+9) At T (Acx (k:=4*d+7) At T (Aec T d)))
def Wri (u:NI):Prop:=u=[]\/acc .start 0 u=true
def Prs (u:NI)(xs:List It):Prop:=(u=[]/\xs=[])\/(u≠[]/\RIs 8 u xs [])
theorem Prs.det(h:Prs u xs)(g:Prs u ys):xs=ys:=by
 rcases h with h | h
 ·rcases g with g | g
  ·rw[h.2,g.2]
  ·exact absurd h.1 g.1
 ·rcases g with g | g
  ·exact absurd g.1 h.1
  ·exact(h.2.det g.2).1
inductive ApZ (t:Adr)(vs:Na)(H:Hp)(Q:VK)(E:XK):Prop
|mk(u:NI)(_:vs=[.str (tx u)])(_:u.length<=5000)(_:(∀(li:Addr)(rs:NU)(xs:List It)(H':Hp),Wri u->Ba H H'->H li=none->H' li=some (.lst (rs.map V.ref))->Ahc t H' 8 rs xs->(∀ x∈xs,Gd 8 x)->Prs u xs->Q (.ref li) H'))(_:(∀ H',¬Wri u->Ba H H'->E (.ref t.Du) none H'))
theorem Af1(T:Txt K mg t):Bh P w K mg base (CX1 P w) 40 t.AbH t.AbI ["text"] (ApZ t):=by
 refine T.Xw.F.okX RC ?_;rintro _ _ _ _ H _ Q E G ⟨u,rfl,Y,k1,k2⟩;refine⟨_,(Ac (Bm (Ak Dd (pv 0) Af (Ar _))
   (Ad (Ay (Cu Ab)))
   Ao)
  (Ac (Bb (i:=1) RC.nd U (Or.inl U) (Fb T.Bl.m ((Mm T).mono Ap) G U T.AgH T.DX.b .nil Aq (Aa (pv 0) Ab)))
  (Ac (Bb (i:=2) RC.nd U (Or.inl U) (Al ((Aec T 8).mono Ap) G U T.Fo.m T.Fo.F.kp T.Fo.b .nil Cv (Aa (pv 1) (Aa Ah Ab))))
  (Ac (Bm (Hu (Fl (Rv (pv 1) T.Bl.c T.Ey.m ((Ko T).mono Ap) G T.Ey.b .nil Aq)))
   (Ad (Bx CQ U (λ_ _ z=>z) F.excBase_ValueError Cy F.excBase_ValueError T.J6.q U T.KQ (Aa Af Ab)))
   Ao)
  (Ad (Ay (pv 2))))))),?_⟩;refine⟨_,U,U,_,U,?_⟩;by_cases f:u=[]
 ·refine Gq (by rw[f];exact congrArg V.str As) ?_;refine⟨AvV _,λli a=>?_⟩;exact k1 li [] [] _ (.inl f) (.upd a) a Ae ⟨U,AA,λi r x A _=>by simp at A⟩ (λx O=>by simp at O) (.inl ⟨f,U⟩)
 refine Ea (λz=>?_) ?_
 ·injection z with z;exact f (IK (z.trans As))
 refine⟨_,U,λr dx k D Z=>⟨r,dx,u,U,Ae,U,?_⟩⟩;rw[Ez];have J:Rd t (upd (upd H dx (.own r)) r (.ins t.Bd dx (rf u 0))) r dx u 0:=⟨Ae,AvV _,At⟩;have s1:Ba H (upd (upd H dx (.own r)) r (.ins t.Bd dx (rf u 0))):=(Ba.upd D).over k;generalize upd (upd H dx (.own r)) r (.ins t.Bd dx (rf u 0))=H1 at J s1 ⊢;have B:∀{H'},Cq r H1 H'->Ba H H':=λj b o e=>j b o (Bc e k) (s1 b o e);refine⟨_,U,r,dx,u,0,0,U,Ap,J,Y,λli rs xs s H' j h C a I W R S N p n d=>?_,λH' j M=>k2 H' (λz=>?_) (B j)⟩
 ·rw[AwA] at d;refine⟨_,U,r,dx,rf u s,U,h.1,(DP u _).1,r,dx,u,s,U,h,_,U,?_⟩;by_cases y:s=u.length
  ·rw[zN y];refine JS ?_;rw[y,AwZ] at d;exact⟨_,U,k1 li rs xs H' (.inr (by rw[d];rfl)) (B j) (s1.free C) a ⟨I.len,I.le,λi r x A X=>AtJ.to 8 _ _ (I.at_ i r x A X)⟩ W (.inr ⟨f,by rw[y,AwZ,AwA] at n;exact n⟩)⟩
  ·rw[zJ y];refine Ms ⟨Ap,k2 H' (λz=>?_) (B j)⟩;rcases z with z | z
   ·exact f z
   ·rw[d] at z;cases L:u.drop s with
    | nil =>
     have h1:=congrArg List.length L;rw[Awk,Awn] at h1;have h2:=h.2.1;omega
    | cons c v =>
     rw[L] at z p;by_cases l:c=41
     ·rw[l] at z;have:ai 0 (41::v)=false:=rfl;rw[this] at z;cases z
     ·rw[AqG (λq=>p (by rw[q];rfl)) l] at z;cases z
 ·rcases z with z | z
  ·exact f z
  ·rw[AwA,z] at M;cases M
end
theorem Sms.Ai0:∀{xs:List It},(∀ x∈xs,x.Sm)->Sms xs
 | [],_=>by simp only [Sms]
 | x::xs,h=>by
  exact⟨h x AvP,Sms.Ai0 λy a=>h y (AvR _ a)⟩
theorem Gd.sm:∀(d:Nat)(x:It),Gd d x->x.Sm
 | d,.pth ss,h=>by
  have b:∃ a ns,ss=ofN (a::ns)/\(∀ n∈a::ns,n<100)/\ns.length<=5000:=by cases d <;> exact h
  obtain⟨a,ns,rfl,hn,_⟩:=b;refine⟨by simp[ofN],λs f=>?_⟩;obtain⟨n,c,rfl⟩:=yF.mp f;have:= hn n c;show n<=400;lia
 | 0,.tms n xs,h=>h.elim
 | d+1,.tms n xs,h=>by
  obtain⟨h1,_,_,_,e⟩:=h;exact⟨h1,Sms.Ai0 λy i=>Gd.sm d y (e y i)⟩
section
variable {K:NF}{base:Heap}{t:Adr}
structure Rw (u:NI)(xs:List It):Prop where
 w:Wri u
 g:∀ x∈xs,Gd 8 x
 r:Prs u xs
inductive Aqa (t:Adr)(vs:Na)(H:Hp)(Q:VK)(E:XK):Prop
|mk(u:NI)(_:vs=[.str (tx u)])(_:u.length<=5000)(_:(∀ xs q H',Rw u xs->szs xs<=400->Ba H H'->H q=none->H' q=some (.lst (vI (nus xs)))->Q (.ref q) H'))(_:(∀ xs H',Rw u xs->400<szs xs->Ba H H'->E (.ref t.BZ) none H'))(_:(∀ H',¬Wri u->Ba H H'->E (.ref t.Du) none H'))
theorem Af2(T:Txt K mg t):Bh P w K mg base (CX1 P w) 41 t.V8 t.V9 ["text"] (Aqa t):=by
 refine T.DW.F.okX Zx ?_;rintro _ _ _ _ H _ Q E f ⟨u,rfl,p,k1,k2,k3⟩;refine⟨_,(Ac (Bb (i:=1) Zx.nd U (Or.inl U) (Al ((Af1 T).mono Ap) f U T.Xw.m T.Xw.F.kp T.Xw.b .nil Cv (Aa (pv 0) Ab)))
  (Ac (Bm (Ak Hr (Al ((An7 T 8).mono Ap) f U T.Hn.m T.Hn.F.kp T.Hn.b .nil Aq (Aa (pv 1) Ab)) (BX (v:=.int 400) U T.AbS.choose_spec ⟨_,U⟩) (Ar _))
   (Ad (Bx CQ U (λ_ _ z=>z) F.excBase_ValueError Cy F.excBase_ValueError T.LR.q U T.Qk (Aa Af Ab)))
   Ao)
  (Ad (Ay (Al ((AnA T 8).mono Ap) f U T.Gx.m T.Gx.F.kp T.Gx.b .nil Aq (Aa (pv 1) Ab)))))),?_⟩;refine⟨_,U,u,U,p,λli rs xs H1 hw s1 r a j e h=>?_,λH1 hw s1=>k3 H1 hw s1⟩;refine⟨_,U,li,rs,_,U,a,j,λH2 d=>?_⟩;refine⟨_,_,U,U,_,U,?_⟩;refine Cw (λc=>?_) (λc=>?_)
 ·exact⟨Ap,k2 xs H2 ⟨hw,e,h⟩ c (s1.trans d)⟩
 ·have k:=Int.not_lt.mp c;exact⟨_,U,li,rs,xs,U,d _ _ a,j.same d,Sms.Ai0 λx n=>Gd.sm 8 x (e x n),k,λq H3 o l s=>k1 xs q H3 ⟨hw,e,h⟩ k ((s1.trans d).trans o) ((s1.trans d).free l) s⟩
structure NL (H:Hp)(y:Addr)(rs:NU)(tss:NV):Prop where
 h:H y=some (.lst (rs.map V.ref))
 l:rs.length=tss.length
 r:∀(i:Nat)(a:Addr)(ks:NA),rs[i]?=some a->tss[i]?=some ks->H a=some (.lst (vI ks))
theorem NL.same(N:NL H y rs tss)(s:Ba H H'):NL H' y rs tss:=⟨s _ _ N.h,N.l,λi a ks h1 h2=>s _ _ (N.r i a ks h1 h2)⟩
theorem NL.at{H:Hp}{y:Addr}{rs:NU}{tss:NV}(N:NL H y rs tss){i:Nat}{a:V}(h:(rs.map V.ref)[i]?=some a):∃ r ks,a=.ref r/\rs[i]?=some r/\tss[i]?=some ks/\H r=some (.lst (vI ks)):=by
 rw[AvS] at h;cases e:rs[i]? with
 | none=>rw[e] at h;cases h
 | some r =>
  rw[e] at h;cases h;have hi:i<tss.length:=by rw[<- N.l];exact(zC.mp e).1
  exact⟨r,tss[i],U,U,AvM hi,N.r i r _ e (AvM hi)⟩
def AnN (c:Nat):Prop:=1<=c/\c<=40
def Aj1 (th:NA)(tss:NV):Prop:=AnN th.length/\AnN tss.length/\(∀ v∈th,0<=v/\v<40)/\∀ ks∈tss,Rs ks
def Aqb (tr:NA)(n:Nat):Prop:=AnN tr.length/\∀ v∈tr,0<=v/\v<(n:Int)
def Bd3 (th:NA)(tss:NV)(tr:NA):Prop:=th.length<=1000/\tss.length<=1000/\tr.length<=1000/\∀ ks∈tss,ks.length<=2000
theorem Ft.set{tr:NA}(F:Ft th tss tr):Aj1 th tss:=⟨⟨F.m1,F.m40⟩,⟨F.t1,F.t40⟩,F.hth,F.hti⟩
theorem Ft.trd{tr:NA}(F:Ft th tss tr):Aqb tr tss.length:=⟨⟨F.n1,F.n40⟩,F.htr⟩
theorem AtX{tr:NA}(h:Aj1 th tss)(g:Aqb tr tss.length):Ft th tss tr:=⟨h.1.1,h.1.2,h.2.1.1,h.2.1.2,g.1.1,g.1.2,h.2.2.1,h.2.2.2,g.2⟩
inductive Alb (t:Adr)(vs:Na)(H:Hp)(Q:VK)(E:XK):Prop
|mk(c:Nat)(_:vs=[.int (c:Int)])(_:(AnN c->Q .non H))(_:(¬AnN c->E (.ref t.Ce) none H))
theorem Kq(T:Txt K mg t):Bh P w K mg base (CX1 P w) 1 t.UW t.Va ["count"] (Alb t):=by
 refine T.Et.F.okX Ab5 ?_;rintro _ _ _ _ H _ Q E a ⟨c,rfl,k1,k2⟩;refine⟨_,(Ad (Bm (PW.pt (pw_or (Ak GZ (pv 0) Ah (Ar _)) (pw_or1 (Ak Hr (pv 0) (BX (v:=.int 40) U T.El.choose_spec ⟨_,U⟩) (Ar _)))))
   (Ad (Bx CQ U (λ_ _ z=>z) F.excBase_ValueError Cy F.excBase_ValueError T.Ht.q U T.Jo (Aa Af Ab)))
   Ao)),?_⟩;refine⟨_,U,_,_,U,U,_,U,?_⟩;refine Cw (λh=>Ms ⟨Ap,k2 λz=>?_⟩) (λg1=>?_)
 ·have:=z.1;omega
 refine⟨_,U,_,_,U,U,_,U,?_⟩;refine Cw (λh=>⟨Ap,k2 λz=>?_⟩) (λg2=>k1 ⟨At,At⟩);have:=z.2;omega
inductive Alc (t:Adr)(vs:Na)(H:Hp)(Q:VK)(E:XK):Prop
|mk(v:Int)(_:vs=[.int v])(_:(0<=v/\v<40->Q .non H))(_:(¬(0<=v/\v<40)->E (.ref t.Ce) none H))
theorem Rm(T:Txt K mg t):Bh P w K mg base (CX1 P w) 1 t.Vb t.Vc ["shaft"] (Alc t):=by
 refine T.Gw.F.okX Ab6 ?_;rintro _ _ _ _ H _ Q E a ⟨v,rfl,k1,k2⟩;refine⟨_,(Ad (Bm (PW.pt (pw_or (Ak GZ (pv 0) Ah (Ar _)) (pw_or1 (Ak Al4 (pv 0) (BX (v:=.int 40) U T.AcI.choose_spec ⟨_,U⟩) (Ar _)))))
   (Ad (Bx CQ U (λ_ _ z=>z) F.excBase_ValueError Cy F.excBase_ValueError T.Ht.q U T.Jo (Aa Af Ab)))
   Ao)),?_⟩;refine⟨_,U,_,_,U,U,_,U,?_⟩;refine Cw (λh=>Ms ⟨Ap,k2 λz=>?_⟩) (λg1=>?_)
 ·omega
 refine⟨_,U,_,_,U,U,_,U,?_⟩;refine Cw (λh=>⟨Ap,k2 λz=>?_⟩) (λg2=>k1 ⟨At,At⟩);omega
def RsI (ks:NA)(i:Nat):Prop:=(∀(j:Nat)(a:Int),j<i->ks[j]?=some a->0<=a/\a<40)/\∀(j:Nat)(a b:Int),j+1<i->ks[j]?=some a->ks[j+1]?=some b->a<b
theorem RsI.all(h:RsI ks ks.length):Rs ks:=⟨λi a b f d=>h.2 i a b (zC.mp d).1 f d,λk hk=>by
 obtain⟨j,c,e⟩:=Ax0 hk;exact h.1 j k c (by rw[<- e];exact AvM c)⟩
theorem RsI.step(hi:i<ks.length)(h:RsI ks i)(h1:0<=ks[i]/\ks[i]<40)(h2:∀ j a,j+1=i->ks[j]?=some a->a<ks[i]):RsI ks (i+1):=by
 refine⟨λj a f c=>?_,λj a b f c d=>?_⟩
 ·by_cases e:j<i
  ·exact h.1 j a e c
  ·have:j=i:=At
   subst this;rw[AvM hi] at c;cases c;exact h1
 ·by_cases e:j+1<i
  ·exact h.2 j a b e c d
  ·have:j+1=i:=At
   subst this;rw[AvM hi] at d;cases d;exact h2 j a U c
inductive Aqc (t:Adr)(vs:Na)(H:Hp)(Q:VK)(E:XK):Prop
|mk(a:Addr)(ks:NA)(_:vs=[.ref a])(_:H a=some (.lst (vI ks)))(_:ks.length<=2000)(_:(Rs ks->Q .non H))(_:(¬Rs ks->E (.ref t.Ce) none H))
theorem Adm(T:Txt K mg t):Bh P w K mg base (CX1 P w) 2 t.ZF t.ZG ["tie"] (Aqc t):=by
 refine T.Tz.F.okX Wy ?_;rintro _ _ _ _ H _ Q E x ⟨a,ks,rfl,e,y,k1,k2⟩;refine⟨_,(Ad (Wf λhfr=>(Ep (Ae3 CQ hfr) U (Em U T.Fj (Aa (Az (Ax (K:=K)) U T.Ca Bv (Aa (pv 0) Ab)) Ab)) (BJ (i:=1) Wy.nd U (Or.inl U))
   (Ac (Bg (Al ((Rm T).mono Ap) x U T.Gw.m T.Gw.F.kp T.Gw.b .nil Cv (Aa (Bw (Bf (K:=K)) (pv 0) (pv 1) (λ_ _=>rfl)) Ab)))
   (Ad (Bm (PW.pt (pw_and (Ak Hr (pv 1) Ah (Ar _)) (pw_and1 (Ak AsM (Bw (Bf (K:=K)) (pv 0) (pv 1) (λ_ _=>rfl)) (Bw (Bf (K:=K)) (pv 0) (Aj Pz (pv 1) Ah) (λ_ _=>rfl)) (Ar _)))))
    (Ad (Bx CQ U (λ_ _ z=>z) F.excBase_ValueError Cy F.excBase_ValueError T.Ht.q U T.Jo (Aa Af Ab)))
    Ao)))))),?_⟩;refine⟨_,U,_,_,U,.inl (SqL.of e),_,U,At,(by rw[Cj];omega),?_⟩;rw[AvZ,Cj];refine I9 (lo:=0) (n:=ks.length) (λi σ H2=>∃ v,σ=[some (.ref a),v]/\H2=H/\RsI ks i) ⟨none,U,U,λj a h=>absurd h At,λj a b h=>absurd h At⟩ ?_ ?_
 ·rintro i σ H2 hi ⟨v,rfl,rfl,R⟩;have f:atI (vI ks) (0+(i:Int))=some (.int ks[i]):=BL At (by rw[z0];exact JV (AvM hi));refine⟨_,U,_,U,_,_,_,_,U,U,SqL.of e,f,ks[i],U,λl=>?_,λo=>k2 λz=>o (z.2 _ (Awh hi))⟩;refine⟨_,U,_,_,U,U,_,U,?_⟩;by_cases p:i=0
  ·subst p;refine Ea At ?_;exact JS ⟨_,U,U,R.step hi l λj a k=>absurd k At⟩
  ·have c:i-1<ks.length:=At
   have r:atI (vI ks) (0+(i:Int)-1)=some (.int ks[i-1]):=BL At (by rw[show(0+(i:Int)-1).toNat=i-1 by omega];exact JV (AvM c));refine Gq At ?_;refine⟨_,U,_,U,_,_,_,_,U,U,SqL.of e,f,_,U,_,U,_,_,U,U,_,_,_,_,U,U,SqL.of e,r,_,_,U,U,_,U,?_⟩;refine Cw (λs=>?_) (λu=>?_)
   ·refine⟨Ap,k2 λz=>?_⟩;have:=z.1 (i-1) ks[i-1] ks[i] (AvM c) (by rw[show i-1+1=i by omega];exact AvM hi);omega
   ·refine⟨_,U,U,R.step hi l λj a k d=>?_⟩;have:j=i-1:=At
    subst this;rw[AvM c] at d;cases d;omega
 ·rintro σ H2 ⟨v,rfl,rfl,R⟩;exact k1 R.all
inductive Ahf (t:Adr)(vs:Na)(H:Hp)(Q:VK)(E:XK):Prop
|mk(x:Addr)(y:Addr)(rs:NU)(th:NA)(tss:NV)(_:vs=[.ref x,.ref y])(_:H x=some (.lst (vI th)))(_:NL H y rs tss)(_:th.length<=1000)(_:tss.length<=1000)(_:(∀ ks∈tss,ks.length<=2000))(_:(Aj1 th tss->Q .non H))(_:(¬Aj1 th tss->E (.ref t.Ce) none H))
theorem Yh(T:Txt K mg t):Bh P w K mg base (CX1 P w) 3 t.QB t.QC ["threading", "ties"] (Ahf t):=by
 refine T.J0.F.okX IW ?_;rintro _ _ _ _ H _ Q E p ⟨x,y,rs,th,tss,rfl,s,N,bl1,bl2,bl3,k1,k2⟩;refine⟨_,(Ac (Bg (Al ((Kq T).mono Ap) p U T.Et.m T.Et.F.kp T.Et.b .nil Cv (Aa (Az (Ax (K:=K)) U T.Ca Bv (Aa (pv 0) Ab)) Ab)))
  (Ac (Bg (Al ((Kq T).mono Ap) p U T.Et.m T.Et.F.kp T.Et.b .nil Cv (Aa (Az (Ax (K:=K)) U T.Ca Bv (Aa (pv 1) Ab)) Ab)))
  (Ac (Wf λhfr=>(Ep (Ae3 CQ hfr) U (BP (K:=K) (pv 0)) (BJ (i:=2) IW.nd U (Or.inl U))
   (Ad (Bg (Al ((Rm T).mono Ap) p U T.Gw.m T.Gw.F.kp T.Gw.b .nil Cv (Aa (pv 2) Ab))))))
  (Ad (Wf λhfr=>(Ep (Ae3 CQ hfr) U (BP (K:=K) (pv 1)) (BJ (i:=3) IW.nd U (Or.inl U))
   (Ad (Bg (Al ((Adm T).mono Ap) p U T.Tz.m T.Tz.F.kp T.Tz.b .nil Cv (Aa (pv 3) Ab)))))))))),?_⟩;refine⟨_,U,_,_,U,.inl (SqL.of s),th.length,(by rw[Cj] <;> rfl),λg1=>?_,λb=>k2 λz=>b z.1⟩;refine⟨_,U,_,_,U,.inl (SqL.of N.h),tss.length,(by rw[AvK,N.l] <;> rfl),λg2=>?_,λb=>k2 λz=>b z.2.1⟩;refine⟨_,U,_,U,⟨_,SqL.of s⟩,Gb (K:=K) (a:=x) (xs:=vI th) (λi σ H2=>∃ f j,σ=[some (.ref x),some (.ref y),f,j]/\H2=H/\∀ v∈th.take i,0<=v/\v<40) ⟨none,none,U,U,λv h=>(by simp at h)⟩ (λi σ H2 _ ⟨_,_,_,e,_⟩=>e▸SqL.of s) ?_ ?_⟩
 ·rintro i B σ H2 k ⟨f,j,rfl,rfl,d⟩;obtain⟨z,A,rfl⟩:=La k;refine⟨_,U,z,U,λg=>?_,λb=>k2 λw=>b (w.2.2.1 z (AvX A))⟩;refine⟨_,_,U,U,λv o=>?_⟩;rw[AvT,A] at o;rcases zG.mp o with h | h
  ·exact d v h
  ·have e:v=z:=by simpa using h
   rw[e];exact g
 ·rintro σ H2 ⟨f,j,rfl,rfl,d⟩;rw[Cj,Awa] at d;refine⟨_,U,_,U,⟨_,SqL.of N.h⟩,Gb (K:=K) (a:=y) (xs:=rs.map V.ref) (λi σ H3=>∃ f j,σ=[some (.ref x),some (.ref y),f,j]/\H3=H2/\∀ ks∈tss.take i,Rs ks) ⟨f,j,U,U,λks h=>(by simp at h)⟩ (λi σ H3 _ ⟨_,_,_,e,_⟩=>e▸SqL.of N.h) ?_ ?_⟩
  ·rintro i B σ H3 k ⟨f,j,rfl,rfl,c⟩;obtain⟨r,ks,rfl,_,n,q⟩:=N.at k;have u:=AvX n;refine⟨_,U,r,ks,U,q,bl3 ks u,λg=>?_,λb=>k2 λw=>b (w.2.2.2 ks u)⟩;refine⟨_,_,U,U,λv o=>?_⟩;rw[AvT,n] at o;rcases zG.mp o with h | h
   ·exact c v h
   ·have e:v=ks:=by simpa using h
    rw[e];exact g
  ·rintro σ H3 ⟨f,j,rfl,rfl,c⟩;rw[AvK,N.l,Awa] at c;exact k1 ⟨g1,g2,d,c⟩
inductive Af3 (t:Adr)(vs:Na)(H:Hp)(Q:VK)(E:XK):Prop
|mk(z:Addr)(tr:NA)(n:Nat)(_:vs=[.ref z,.int (n:Int)])(_:H z=some (.lst (vI tr)))(_:tr.length<=1000)(_:(Aqb tr n->Q .non H))(_:(¬Aqb tr n->E (.ref t.Ce) none H))
theorem VM(T:Txt K mg t):Bh P w K mg base (CX1 P w) 2 t.O7 t.O8 ["treading", "treadles"] (Af3 t):=by
 refine T.Ii.F.okX Mw ?_;rintro _ _ _ _ H _ Q E p ⟨z,tr,n,rfl,j,bl,k1,k2⟩;refine⟨_,(Ac (Bg (Al ((Kq T).mono Ap) p U T.Et.m T.Et.F.kp T.Et.b .nil Cv (Aa (Az (Ax (K:=K)) U T.Ca Bv (Aa (pv 0) Ab)) Ab)))
  (Ad (Wf λhfr=>(Ep (Ae3 CQ hfr) U (BP (K:=K) (pv 0)) (BJ (i:=2) Mw.nd U (Or.inl U))
   (Ad (Bm (PW.pt (pw_or (Ak GZ (pv 2) Ah (Ar _)) (pw_or1 (Ak Al4 (pv 2) (pv 1) (Ar _)))))
    (Ad (Bx CQ U (λ_ _ z=>z) F.excBase_ValueError Cy F.excBase_ValueError T.Ht.q U T.Jo (Aa Af Ab)))
    Ao)))))),?_⟩;refine⟨_,U,_,_,U,.inl (SqL.of j),tr.length,(by rw[Cj] <;> rfl),λg1=>?_,λb=>k2 λw=>b w.1⟩;refine⟨_,U,_,U,⟨_,SqL.of j⟩,Gb (K:=K) (a:=z) (xs:=vI tr) (λi σ H2=>∃ d,σ=[some (.ref z),some (.int (n:Int)),d]/\H2=H/\∀ v∈tr.take i,0<=v/\v<(n:Int)) ⟨none,U,U,λv h=>(by simp at h)⟩ (λi σ H2 _ ⟨_,_,e,_⟩=>e▸SqL.of j) ?_ ?_⟩
 ·rintro i r σ H2 f ⟨d,rfl,rfl,c⟩;obtain⟨v,o,rfl⟩:=La f;have k:=AvX o;refine⟨_,U,_,_,U,U,_,U,?_⟩;refine Cw (λh=>Ms ⟨Ap,k2 λw=>?_⟩) (λg3=>?_)
  ·have:=w.2 v k;omega
  refine⟨_,U,_,U,_,_,U,U,_,U,?_⟩;refine Cw (λh=>⟨Ap,k2 λw=>?_⟩) (λs=>?_)
  ·have:=w.2 v k;omega
  refine⟨_,U,U,λy l=>?_⟩;rw[AvT,o] at l;rcases zG.mp l with h | h
  ·exact c y h
  ·have e:y=v:=by simpa using h
   rw[e];omega
 ·rintro σ H2 ⟨d,rfl,rfl,c⟩;rw[Cj,Awa] at c;exact k1 ⟨g1,c⟩
def Aj2 (r:Addr)(H H':Hp):Prop:=∀ b o,b≠r->H b=some o->H' b=some o
def df (a b c:Addr):List (Str × V):=[("threading", .ref a),("ties", .ref b),("treading", .ref c)]
theorem AtY(a b c:Addr):(df a b c).lookup ("threading" : Str)=some (V.ref a):=rfl
theorem AtZ(a b c:Addr):(df a b c).lookup ("ties" : Str)=some (V.ref b):=rfl
theorem Aua(a b c:Addr):(df a b c).lookup ("treading" : Str)=some (V.ref c):=rfl
theorem NL.other{fs:List (Str × V)}(N:NL H y rs tss)(b:Aj2 r H H')(c:H r=some (.ins C dx fs)):NL H' y rs tss :=
 ⟨b _ _ (λe=>by have:=N.h;rw[e,c] at this;cases this) N.h,N.l,λi a ks h1 h2=>b _ _ (λe=>by have:=N.r i a ks h1 h2;rw[e,c] at this;cases this) (N.r i a ks h1 h2)⟩
structure IsD (t:Adr)(H:Hp)(d dx a b c:Addr)(qs:NU)(th:NA)(tss:NV)(tr:NA):Prop where
 o:H d=some (.ins t.GP dx (df a b c))
 ha:H a=some (.lst (vI th))
 hb:NL H b qs tss
 hc:H c=some (.lst (vI tr))
theorem IsD.same{d b c:Addr}{tr:NA}(D:IsD t H d dx a b c qs th tss tr)(s:Ba H H'):IsD t H' d dx a b c qs th tss tr:=⟨s _ _ D.o,s _ _ D.ha,D.hb.same s,s _ _ D.hc⟩
inductive Ald (t:Adr)(vs:Na)(H:Hp)(Q:VK)(E:XK):Prop
|mk(r:Addr)(dx:Addr)(x:Addr)(y:Addr)(z:Addr)(rs:NU)(th:NA)(tss:NV)(tr:NA)(_:vs=[.ref r,.ref x,.ref y,.ref z])(_:H r=some (.ins t.GP dx []))(_:H x=some (.lst (vI th)))(_:NL H y rs tss)(_:H z=some (.lst (vI tr)))(_:Bd3 th tss tr)(_:(Ft th tss tr->∀ a b c qs H',Aj2 r H H'->H a=none->H b=none->H c=none->(∀ q∈qs,H q=none)->IsD t H' r dx a b c qs th tss tr->Q .non H'))(_:(¬Ft th tss tr->E (.ref t.Ce) none H))
theorem Mq(T:Txt K mg t):Bh P w K mg base (CX1 P w) 4 t.Je t.Ot ["self", "threading", "ties", "treading"] (Ald t):=by
 refine T.Jp.F.okX WL ?_;rintro _ _ _ _ H _ Q E hr ⟨r,dx,x,y,z,rs,th,tss,tr,rfl,s,hx,N,W,B,kq,kb⟩;have a8:sizeLine=16777216:=yA;refine⟨_,(Ac (Bg (Al ((Yh T).mono Ap) hr U T.J0.m T.J0.F.kp T.J0.b .nil Cv (Aa (pv 1) (Aa (pv 2) Ab))))
  (Ac (Bg (Al ((VM T).mono Ap) hr U T.Ii.m T.Ii.F.kp T.Ii.b .nil Cv (Aa (pv 3) (Aa (Az (Ax (K:=K)) U T.Ca Bv (Aa (pv 2) Ab)) Ab))))
  (Ac (HH (K:=K) (pv 0) (Cd (Hf (K:=K)) U T.LK Jt (Aa (pv 1) Ab)))
  (Ac (PS.nox (HH (K:=K) (pv 0) (De (CP.mk (Bj:=[]) (Nc:=["tie"]) U As As (Cr (sc0:=Ag Jb) U As) U rfl U As (λ_ _ h=>by simp at h)) U (BP (K:=K) (pv 2)) (λ_ _ _ _ _=>.nil) (λ_ _ _ _ _=>(Cd (Hf (K:=K)) U T.LK Jt (Aa (pv 0) Ab))))))
  (Ad (HH (K:=K) (pv 0) (Cd (Hf (K:=K)) U T.LK Jt (Aa (pv 3) Ab)))))))),?_⟩;refine⟨_,U,_,U,x,y,rs,th,tss,U,hx,N,B.1,B.2.1,B.2.2.2,λg1=>?_,λb1=>kb λz=>b1 z.set⟩;refine⟨_,U,_,U,_,_,U,.inl (SqL.of N.h),z,tr,tss.length,(by rw[AvK,N.l] <;> rfl),W,B.2.2.1,λg2=>?_,λM=>kb λz=>M z.trd⟩;have F:Ft th tss tr:=AtX g1 g2;have k:=kq F;refine⟨_,U,_,_,U,.inl (SqL.of hx),λa Y=>?_⟩;have s1:Ba H (upd H a (.lst (vI th))):=.upd Y;have L:a≠r:=λe=>by rw[e,s] at Y;cases Y
 refine⟨_,U,_,_,_,_,U,s1 _ _ s,T.MK.c,T.Ma,Ap,?_⟩;generalize u:upd (upd H a (.lst (vI th))) r (.ins t.GP dx (Rn "threading" (.ref a) []))=H2;have M:Aj2 r H H2:=λb o nb e=>by rw[<- u,Ai nb];exact s1 _ _ e
 have n:H2 r=some (.ins t.GP dx [("threading", .ref a)]):=by rw[<- u];exact Ae
 have a2:H2 a=some (.lst (vI th)):=by rw[<- u,Ai L];exact Ae
 have I:∀ q,H2 q=none->H q=none:=λq d=>by
  have J:q≠r:=λe=>by rw[e,n] at d;cases d
  cases e:H q with
  | none=>rfl
  | some o=>rw[M q o J e] at d;cases d
 clear u;have N2:=N.other M s;refine⟨_,U,_,U,⟨_,SqL.of N2.h⟩,Dk (K:=K) (a:=y) (xs:=rs.map V.ref) (λi ys H3=>Ba H2 H3/\∃ qs:NU,ys=qs.map V.ref/\qs.length=i/\(∀ q∈qs,H2 q=none)/\∀(j:Nat)(q:Addr)(ks:NA),qs[j]?=some q->tss[j]?=some ks->H3 q=some (.lst (vI ks)))
  ⟨.refl _,[],U,U,λq d=>(by cases d),λj q ks h=>(by simp at h)⟩ ?_ ?_ ?_ ?_⟩
 ·rintro i ys H3 hi ⟨v,qs,rfl,d,_⟩;exact⟨SqL.of (v _ _ N2.h),by rw[AvK];omega⟩
 ·rw[AvK,N.l];have:=F.t40;omega
 ·rintro i xv ys H3 hi a1 ⟨v,qs,rfl,d,J,D⟩;obtain⟨r',a9,rfl,_,a5,a6⟩:=N2.at a1;refine Eo.no ?_;refine⟨_,U,_,_,U,.inl (SqL.of (v _ _ a6)),λl nl=>?_⟩;refine CN.of hi ⟨v.new nl,qs++[l],by rw[AvO];rfl,by rw[AvL,d];rfl,λq h=>?_,λj q ks h1 h2=>?_⟩
  ·rcases zG.mp h with h | h
   ·exact J q h
   ·rw[zF.mp h];exact v.free nl
  ·by_cases hj:j<qs.length
   ·rw[Awg hj] at h1;exact(Ba.upd nl) _ _ (D j q ks h1 h2)
   ·rw[Awi At] at h1;have e0:j=i:=by
     have:=(zC.mp h1).1;simp at this;omega
    rw[show j-qs.length=0 by omega] at h1;have e1:l=q:=by simpa using h1
    rw[e0,a5] at h2;cases h2;rw[<- e1];exact Ae
 ·rintro ys H3 b ⟨v,qs,rfl,d,J,D⟩ nb;rw[AvK,N.l] at d;have s4:Ba H2 (upd H3 b (.lst (qs.map V.ref))):=v.new nb;have R:b≠r:=λe=>by rw[e,v _ _ n] at nb;cases nb
  refine⟨_,U,_,_,_,_,U,s4 _ _ n,T.MK.c,T.Vo,AF,?_⟩;generalize p:upd (upd H3 b (.lst (qs.map V.ref))) r (.ins t.GP dx (Rn "ties" (.ref b) [("threading", .ref a)]))=A;have X:Aj2 r H2 A:=λb' o nb e=>by rw[<- p,Ai nb];exact s4 _ _ e
  have C:A r=some (.ins t.GP dx [("threading", .ref a),("ties", .ref b)]):=by rw[<- p];exact Ae
  have a7:A b=some (.lst (qs.map V.ref)):=by rw[<- p,Ai R];exact Ae
  have a3:∀(j:Nat)(q:Addr)(ks:NA),qs[j]?=some q->tss[j]?=some ks->A q=some (.lst (vI ks)):=λj q ks h1 h2=>by
   have f:q≠r:=λe=>by have:=J q (AvX h1);rw[e,n] at this;cases this
   rw[<- p,Ai f];exact(Ba.upd nb) _ _ (D j q ks h1 h2)
  clear p;have S:z≠r:=λe=>by rw[e,s] at W;cases W
  have a4:A z=some (.lst (vI tr)):=X _ _ S (M _ _ S W);refine⟨_,U,_,_,U,.inl (SqL.of a4),λc Z=>?_⟩;have O:Ba A (upd A c (.lst (vI tr))):=.upd Z;have a0:c≠r:=λe=>by rw[e,C] at Z;cases Z
  refine⟨_,U,_,_,_,_,U,O _ _ C,T.MK.c,T.MN,(by show 2<1000;decide),?_⟩;have f5:∀ q,A q=none->H q=none:=λq h=>I q (by
   have f:q≠r:=λe=>by rw[e,C] at h;cases h
   cases e:H2 q with
   | none=>rfl
   | some o=>rw[X q o f e] at h;cases h)
  refine k a b c qs _ (λb' o G e=>by rw[Ai G];exact O _ _ (X _ _ G (M _ _ G e))) Y (I b (v.free nb)) (f5 c Z) (λq h=>I q (J q h)) ⟨Ae,?_,⟨?_,d,λj q ks h1 h2=>?_⟩,?_⟩
  ·rw[Ai L];exact O _ _ (X _ _ L a2)
  ·rw[Ai R];exact O _ _ a7
  ·have f:q≠r:=λe=>by have:=J q (AvX h1);rw[e,n] at this;cases this
   rw[Ai f];exact O _ _ (a3 j q ks h1 h2)
  ·rw[Ai a0];exact Ae
end
def Wr (u:NI)(ks:NA):Prop:=∃ xs,Rw u xs/\szs xs<=400/\nus xs=ks
def Big (u:NI):Prop:=∃ xs,Rw u xs/\400<szs xs
inductive Rk:NI->Str->NA->Prop where
 | good {u:NI} {ks:NA}:Wr u ks->Rk u "" ks
 | no {u:NI} {ks:NA}:¬Wri u->Rk u "NoRow" ks
 | big {u:NI} {ks:NA}:Big u->Rk u "TooLarge" ks
section
variable {K:NF}{base:Heap}{t:Adr}
def Ahg (t:Adr)(wd:Str):Addr:=if wd = "NoRow" then t.Du else if wd = "TooLarge" then t.BZ else t.Ce
theorem Avt(t:Adr):Ahg t "NoRow" = t.Du:=if_pos U
theorem Au8(t:Adr):Ahg t "TooLarge" = t.BZ:=by unfold Ahg;rw[if_neg As,if_pos rfl]
inductive Asl (t:Adr)(vs:Na)(H:Hp)(Q:VK)(E:XK):Prop
|mk(u:NI)(wd:Str)(ks:NA)(_:vs=[.str (tx u)])(_:u.length<=5000)(_:Rk u wd ks)(_:(wd = "" -> ∀ q H',Ba H H'->H q=none->H' q=some (.lst (vI ks))->Q (.ref q) H'))(_:(wd ≠ "" -> ∀ H',Ba H H'->E (.ref (Ahg t wd)) none H'))
theorem Uc(T:Txt K mg t):Bh P w K mg base (CX1 P w) 41 t.V8 t.V9 ["text"] (Asl t):=(Af2 T).imp λvs H Q E ⟨u,wd,ks,e,h,R,k1,k2⟩=>by
 refine⟨u,e,h,λxs q H' a c s i d=>?_,λxs H' a c s=>?_,λH' hw s=>?_⟩
 ·cases R with
  | good R =>
   obtain⟨ys,b,_,rfl⟩:=R;rw[a.r.det b.r] at d;exact k1 U q H' s i d
  | no R=>exact absurd a.w R
  | big R =>
   obtain⟨ys,b,f⟩:=R;rw[a.r.det b.r] at c;lia
 ·cases R with
  | good R =>
   obtain⟨ys,b,f,_⟩:=R;rw[a.r.det b.r] at c;lia
  | no R=>exact absurd a.w R
  | big R =>
   have:= k2 As H' s;exact this
 ·cases R with
  | good R=>exact absurd R.choose_spec.1.w hw
  | no R =>
   have:= k2 As H' s;exact this
  | big R=>exact absurd R.choose_spec.1.w hw
end
def mT:NI->NI
 | []=>[]
 | n::r=>32::(dec n++mT r)
def Dp:NI->NI
 | []=>[]
 | n::r=>dec n++mT r
theorem AnO(h:n<100){rest:NI}(a:NoF rest):Hb (dec n++rest)=dec n:=by
 have d:=dec_is h;rw[Ajs (dec n++rest) (dec n).length (by rw[AvL];omega)]
 ·exact Axm
 ·rw[Axm];exact λc hc=>zN (d.dg c hc)
 ·intro c hc;rw[Awi (AvN _),AwJ] at hc;exact zJ (a c hc)
theorem Aqd(h:n<100):okN (dec n):=⟨⟨(dec_is h).l1,(dec_is h).l2⟩,(dec_is h).z⟩
theorem Aub(h:n<100):vlN (dec n)=n:=(dec_is h).v
theorem Acy(r:NI):NoF (mT r):=λc hc=>by
 cases r with
 | nil=>cases hc
 | cons n r =>
  have:32=c:=by simpa [mT] using hc
  lia
theorem Aj3(h:n<100){rest:NI}(a:NoF rest):acc .start d (dec n++rest)=acc (qS (dec n)) d rest:=(Aea (dec_is h).dg a).1 (Aqd h)
def itN (ns:NI):List It:=ns.map λn=>.pth (ofN [n])
theorem AnP(h:n<100){rest:NI}(a:NoF rest)(h2:rest.take 2≠[42,40])(b:rest[0]?≠some 45):RI d (dec n++rest) (.pth (ofN [n])) rest:=by
 have q:((dec n++rest).drop (Hb (dec n++rest)).length).take 2≠[42,40]/\∃ ns,ofN [n]=ofN (vlN (Hb (dec n++rest))::ns)/\PTr ((dec n++rest).drop (Hb (dec n++rest)).length) ns rest:=by
  rw[AnO h a,List.drop_left,Aub h];exact⟨h2,[],U,PTr.stop b⟩
 cases d <;> exact q
theorem AnQ(h:n<100):Gd d (.pth (ofN [n])):=by have g:∃ b a,ofN [n]=ofN (b::a)/\(∀ m∈b::a,m<100)/\a.length<=5000:=⟨n,[],U,λm c=>by rw[zF.mp c];exact h,Ap⟩;cases d <;> exact g
theorem Ale(r:NI):(mT r).take 2≠[42,40]/\(mT r)[0]?≠some 45:=by
 cases r with
 | nil=>exact⟨by simp[mT],by simp[mT]⟩
 | cons n r=>exact⟨by simp[mT],by simp[mT]⟩
theorem Aj4:∀(r:NI),(∀ n∈r,n<100)->RIm (RI 8) (mT r) (itN r) []
 | [],_=>RIm.nil (by simp[mT])
 | n::r,h=>RIm.cons (AnP (h n AvP) (Acy r) (Ale r).1 (Ale r).2) (Aj4 r λm a=>h m (AvR _ a))
theorem Aj5:∀(r:NI)(n:Nat),n<100->(∀ m∈r,m<100)->acc .start 0 (Dp (n::r))=true
 | [],n,h,_=>by
  show acc .start 0 (dec n++mT [])=true;rw[Aj3 h (Acy [])];show(decide (0=0) && (qS (dec n)).cl)=true;rw[AnD.1];rfl
 | m::r,n,h,hr=>by
  show acc .start 0 (dec n++mT (m::r))=true;rw[Aj3 h (Acy _),AnB AnD.1 (λ_=>⟨Acy _,(Ale _).2⟩) (λ_=>(Ale _).1)];exact Aj5 r m (hr m AvP) λx a=>hr x (AvR _ a)
theorem Aj6(h:n<100)(r:NI):Dp (n::r)≠[]:=λz=>by
 have:= congrArg List.length z;have l:=(dec_is h).l1;simp only [Dp,AvL,Awn] at this;lia
theorem Aj7:∀ ns:NI,nus (itN ns)=ofN ns
 | []=>rfl
 | n::r=>by
  show(It.pth (ofN [n])).nu++nus (itN r)=ofN (n::r);rw[Aj7 r];rfl
theorem Aj8:∀ ns:NI,szs (itN ns)=(ns.length:Int)
 | []=>rfl
 | n::r=>by
  show(It.pth (ofN [n])).sz+szs (itN r)=_;rw[Aj8 r];show(1:Int)+0+(r.length:Int)=((r.length+1:Nat):Int);lia
theorem Aqe(h:∀ n∈ns,n<100)(c:ns.length<=400):Wr (Dp ns) (ofN ns):=by
 refine⟨itN ns,⟨?_,λx b=>?_,?_⟩,by rw[Aj8];lia,Aj7 ns⟩
 ·cases ns with
  | nil=>exact .inl U
  | cons n r=>exact .inr (Aj5 r n (h n AvP) λm a=>h m (AvR _ a))
 ·obtain⟨n,hn,rfl⟩:=yF.mp b;exact AnQ (h n hn)
 ·cases ns with
  | nil=>exact .inl ⟨U,U⟩
  | cons n r =>
   refine .inr ⟨Aj6 (h n AvP) r,.pth (ofN [n]),itN r,mT r,U,AnP (h n AvP) (Acy r) (Ale r).1 (Ale r).2,?_⟩;exact Aj4 r λm a=>h m (AvR _ a)
def c47:NI->Prop
 | []=>True
 | a::r=>(a=32->r[0]?≠some 47)/\c47 r
def c44:NI->Prop
 | []=>True
 | a::r=>(a=44->r[0]?≠some 32)/\c44 r
theorem c47.at:∀{u:NI},c47 u->∀ i,u[i]?=some 32->u[i+1]?≠some 47
 | [],_,i,h=>by simp at h
 | a::r,h,0,e=>by
  have:a=32:=by simpa using e
  exact h.1 this
 | a::r,h,i+1,e=>by
  exact c47.at h.2 i e
theorem c44.at:∀{u:NI},c44 u->∀ i,u[i]?=some 44->u[i+1]?≠some 32
 | [],_,i,h=>by simp at h
 | a::r,h,0,e=>by
  have:a=44:=by simpa using e
  exact h.1 this
 | a::r,h,i+1,e=>by
  exact c44.at h.2 i e
theorem c47.app:∀{a b:NI},c47 a->c47 b->(a.getLast?=some 32->b[0]?≠some 47)->c47 (a++b)
 | [],b,_,hb,_=>hb
 | [x],b,ha,hb,h=>⟨λe=>h (by rw[e];rfl),hb⟩
 | x::y::r,b,ha,hb,h=>⟨λe=>by
   have:= ha.1 e
   simpa using this,c47.app ha.2 hb (λe=>h AB)⟩
theorem Af4:∀{u:NI},47∉u->c47 u
 | [],_=>trivial
 | a::r,h=>⟨λ_ e=>h (AvR _ (AvX e)),Af4 λz=>h (AvR _ z)⟩
theorem Af5:∀{u:NI},44∉u->c44 u
 | [],_=>trivial
 | a::r,h=>⟨λe=>absurd AB h,Af5 λz=>h (AvR _ z)⟩
structure Cl2 (u:NI):Prop where
 a:c47 u
 b:c44 u
 f:u[0]?≠some 47
 l:u.length<=2500
theorem Auc:∀(us:NN),(∀ u∈us,Cl2 u)->c47 (jnS [44,32] us)/\(jnS [44,32] us)[0]?≠some 47
 | [],_=>⟨trivial,by simp[jnS]⟩
 | [u],h=>⟨(h u AvP).a,(h u AvP).f⟩
 | u::v::r,h=>by
  have c:=Auc (v::r) λx d=>h x (AvR _ d);have b:=h u AvP;refine⟨b.a.app ⟨(λe=>by cases e),λ_=>c.2,c.1⟩ (λ_=>AA),?_⟩;show(u++([44,32]++jnS [44,32] (v::r)))[0]?≠some 47;cases u with
  | nil=>simp
  | cons a u=>exact b.f
theorem Acz:((" / " : Str))=tx [32,47,32]:=As
theorem Af6:((", " : Str))=tx [44,32]:=As
def fw:NX->Str
 | [] => ""
 | w::r=>if w = "" then fw r else w
theorem Af7:∀(a b:NX),(∀ w∈a,w = "")->fw (a++b)=fw b
 | [],b,_=>rfl
 | w::a,b,h=>by
  rw[Awy,fw,if_pos (h w AvP)];exact Af7 a b λx c=>h x (AvR _ c)
theorem Asm(a b:NX){w:Str}(h:∀ w∈a,w = "") (hw:w ≠ ""):fw (a++w::b)=w:=by rw[Af7 a _ h,fw,if_neg hw]
structure Rc where
 u:NI
 wd:Str
 ks:NA
structure Rc.Ok (r:Rc):Prop where
 k:Rk r.u r.wd r.ks
 c:Cl2 r.u
 l:r.ks.length<=400
 n:∀ z∈r.ks,0<=z/\z<100
section
variable {K:NF}{base:Heap}{t:Adr}
def Cps (H0 H:Hp)(qs:NU)(tss:NV)(i:Nat):Prop:=qs.length=i/\(∀ q∈qs,H0 q=none)/\∀(j:Nat)(q:Addr)(ks:NA),qs[j]?=some q->tss[j]?=some ks->H q=some (.lst (vI ks))
theorem Cps.nil(a H:Hp)(tss:NV):Cps a H [] tss 0:=⟨U,λq b=>(by cases b),λj q ks h=>(by simp at h)⟩
theorem Cps.Avu{b:Hp}(C:Cps b H qs tss i){l:Addr}{a:NA}(s:Ba H H')(c:H' l=some (.lst (vI a)))(e:b l=none)(hk:tss[i]?=some a):Cps b H' (qs++[l]) tss (i+1):=by
 refine⟨by rw[AvL,C.1];rfl,λq h=>?_,λj q ks h1 h2=>?_⟩
 ·rcases zG.mp h with h | h
  ·exact C.2.1 q h
  ·rw[zF.mp h];exact e
 ·have m:=C.1;by_cases d:j<qs.length
  ·rw[Awg d] at h1;exact s _ _ (C.2.2 j q ks h1 h2)
  ·rw[Awi At] at h1;have k:j=i:=by
    have:=(zC.mp h1).1;simp at this;omega
   rw[show j-qs.length=0 by omega] at h1;have f:l=q:=by simpa using h1
   rw[k,hk] at h2;cases h2;rw[<- f];exact c
def drT (r0:Rc)(rs:List Rc)(r2:Rc):NI:=jnS [32,47,32] [r0.u,jnS [44,32] (rs.map Rc.u),r2.u]
inductive Aqf (t:Adr)(vs:Na)(H:Hp)(Q:VK)(E:XK):Prop
|mk(r0:Rc)(rs:List Rc)(r2:Rc)(_:vs=[.str (tx (drT r0 rs r2))])(_:r0.Ok)(_:rs≠[])(_:rs.length<=100)(_:(∀ r∈rs,r.Ok))(_:r2.Ok)(_:(drT r0 rs r2).length<=1000000)(_:(∀ wd H',fw (r0.wd::rs.map Rc.wd++[r2.wd])=wd->wd ≠ "" -> Ba H H'->E (.ref (Ahg t wd)) none H'))(_:(fw (r0.wd::rs.map Rc.wd++[r2.wd]) = "" -> (Ft r0.ks (rs.map Rc.ks) r2.ks->∀(d dx a b c:Addr)(qs:NU)(H':Hp),Ba H H'->IsD t H' d dx a b c qs r0.ks (rs.map Rc.ks) r2.ks->Q (.ref d) H')/\(¬Ft r0.ks (rs.map Rc.ks) r2.ks->∀ H',Ba H H'->E (.ref t.Ce) none H')))
theorem Aa9(T:Txt K mg t):Bh P w K mg base (CX1 P w) 42 t.K9 t.KC ["text"] (Aqf t):=by
 refine T.Ly.F.okX Es ?_;rintro _ _ _ _ H _ Q E Y ⟨r0,rs,r2,rfl,O0,a2,rl,Os,O2,dl,kE,kQ⟩;have af:sizeLine=16777216:=yA;have a5:rs.map Rc.u≠[]:=λz=>a2 (List.map_eq_nil_iff.mp z);have Cs:∀ u∈rs.map Rc.u,Cl2 u:=λu I=>by
  obtain⟨r,f,rfl⟩:=yF.mp I;exact(Os r f).c
 have jl:(jnS [44,32] (rs.map Rc.u)).length<=1000000:=by
  have:(drT r0 rs r2).length=r0.u.length+(3+((jnS [44,32] (rs.map Rc.u)).length+(3+r2.u.length))):=by
   unfold drT;simp[jnS];omega
  omega
 refine⟨_,(Ac (Bb (i:=1) Es.nd U (Or.inl U) (BR (K:=K) zI zY z7 Tv (pv 0) (Aa (BX (v:=.str " / ") U T.QS.choose_spec ⟨_,U⟩) Ab)))
  (Ac (Bm (Ak NB (Az (Ax (K:=K)) U T.Ca Bv (Aa (pv 1) Ab)) Ah (Ar _))
   (Ad (Bx CQ U (λ_ _ z=>z) F.excBase_ValueError Cy F.excBase_ValueError T.Ht.q U T.Jo (Aa Af Ab)))
   Ao)
  (Ac (Bb (i:=2) Es.nd U (Or.inl U) (Al ((Uc T).mono Ap) Y U T.DW.m T.DW.F.kp T.DW.b .nil Cv (Aa (Bw (Bf (K:=K)) (pv 1) Ah (λ_ _=>rfl)) Ab)))
  (Ac (Ab3 (i:=3) (E':=E) CQ (λ_ _ z=>z) (CP.mk (Bj:=[]) (Nc:=["tie"]) U As As (Cr (sc0:=Ag Kw) U As) U rfl U As (λ_ _ h=>by simp at h)) U Es.nd U rfl (BP (K:=K) (BR (K:=K) zI zY z7 Tv (Bw (Bf (K:=K)) (pv 1) Ah (λ_ _=>rfl)) (Aa (BX (v:=.str ", ") U T.S7.choose_spec ⟨_,U⟩) Ab))) (λ_ _ _ _ _=>.nil) (λ_ _ _ _ _=>(Al ((Uc T).mono Ap) Y U T.DW.m T.DW.F.kp T.DW.b .nil AmO (Aa (pv 0) Ab))) U)
  (Ad (Ay (Fb T.MK.m ((Mq T).mono Ap) Y U T.Ajp T.Jp.b .nil Cv (Aa (pv 2) (Aa (pv 3) (Aa (Al ((Uc T).mono Ap) Y U T.DW.m T.DW.F.kp T.DW.b .nil Cv (Aa (Bw (Bf (K:=K)) (pv 1) Ah (λ_ _=>rfl)) Ab)) Ab)))))))))),?_⟩;refine⟨_,U,U,[32,47,32],[r0.u,jnS [44,32] (rs.map Rc.u),r2.u],U,congrArg (λz=>[V.str z]) Acz,Ap,Ap,(by unfold drT at dl;omega),AA,AeC λw hw=>?_,λlp a8=>?_⟩
 ·simp only [Awb,Awc,or_false] at hw;rcases hw with z | z | z <;> rw[z]
  ·exact Yx O0.c.a.at
  ·exact Yx (Auc _ Cs).1.at
  ·exact Yx O2.c.a.at
 obtain⟨H1,R,s1,hp⟩:=nu9 (o:=.lst (vS [r0.u,jnS [44,32] (rs.map Rc.u),r2.u])) (.refl _) a8;rw[R];refine⟨_,U,_,_,U,.inl (SqL.of hp),U,_,U,?_⟩;refine Up U ?_;have l0:=O0.c.l;have l2:=O2.c.l;refine⟨_,U,_,_,_,_,U,U,SqL.of hp,U,r0.u,r0.wd,r0.ks,U,At,O0.k,λN q0 H2 G ah a3=>?_,λN H2 G=>kE r0.wd H2 (by show fw (r0.wd::_)=_;rw[fw,if_neg N]) N (s1.trans G)⟩;have S:=G _ _ hp;have aj:(rs.map Rc.u).length<=100:=by rw[AvK];exact rl
 refine⟨_,U,_,_,_,_,U,U,SqL.of S,U,U,[44,32],rs.map Rc.u,U,congrArg (λz=>[V.str z]) Af6,Ap,Ap,At,a5,AeC λu I=>Amz (Cs u I).b.at,λlt a6=>?_⟩;obtain⟨H3,R,s3,ht⟩:=nu9 (o:=.lst (vS (rs.map Rc.u))) (.refl _) a6;rw[R];have a7:=(s1.trans G).trans s3;refine⟨_,U,⟨_,SqL.of ht⟩,Dk (K:=K) (a:=lt) (xs:=vS (rs.map Rc.u)) (λi ys L=>Ba H3 L/\(∀ r∈rs.take i,r.wd = "")/\∃ qs:NU,ys=qs.map V.ref/\Cps H3 L qs (rs.map Rc.ks) i) ⟨.refl _,(λr f=>by simp at f),[],U,Cps.nil _ _ _⟩ ?_ ?_ ?_ ?_⟩
 ·rintro i ys L hi ⟨s,_,qs,rfl,C⟩;exact⟨SqL.of (s _ _ ht),by rw[AvK,C.1];exact AvN _⟩
 ·rw[Be];omega
 ·rintro i xv ys L hi a4 ⟨s,hw,qs,rfl,C⟩;obtain⟨u,I,rfl⟩:=HF a4;rw[AvS] at I;obtain⟨r,f,rfl⟩:=zU.mp I;have O:=Os r (AvX f);have lu:=O.c.l;refine Eo.no ?_;refine⟨_,U,r.u,r.wd,r.ks,U,At,O.k,λZ q X B nq hq=>?_,λZ X B=>?_⟩
  ·refine CN.of hi ⟨s.trans B,λx n=>?_,qs++[q],by rw[AvO];rfl,C.Avu B hq (s.free nq) (by rw[AvS,f];rfl)⟩;rw[AvT,f] at n;rcases zG.mp n with n | n
   ·exact hw x n
   ·rw[show x=r by simpa using n];exact Z
  ·refine kE r.wd X ?_ Z ((a7.trans s).trans B);have ab:i<rs.length:=(zC.mp f).1;have er:rs=rs.take i++r::rs.drop (i+1):=by
    have e1:rs[i]=r:=(zC.mp f).2;rw[<- e1,<- AwP ab,AwC]
   have e2:(r0.wd::rs.map Rc.wd++[r2.wd])=(r0.wd::(rs.take i).map Rc.wd)++r.wd::((rs.drop (i+1)).map Rc.wd++[r2.wd]):=by
    conv=>lhs;rw[er]
    simp
   rw[e2];refine Asm _ _ (λx n=>?_) Z;rcases yG.mp n with z | z
   ·rw[z];exact N
   ·obtain⟨y,hy,rfl⟩:=yF.mp z;exact hw y hy
 rintro ys L lz ⟨s,hw,A,rfl,C4⟩ a1;rw[Be,AvK,Awa] at hw;rw[Be,AvK] at C4;obtain⟨X,R,B,ac⟩:=nu9 (o:=.lst (A.map V.ref)) (.refl _) a1;rw[R];have Z5:NL X lz A (rs.map Rc.ks):=⟨ac,by rw[C4.1,AvK],λj q ks h1 h2=>B _ _ (C4.2.2 j q ks h1 h2)⟩;have p:=(s3.trans s).trans B;have a9:∀ w∈r0.wd::rs.map Rc.wd,w = "" := λx n=>by
  rcases yG.mp n with z | z
  ·rw[z];exact N
  ·obtain⟨y,hy,rfl⟩:=yF.mp z;exact hw y hy
 have eF:fw (r0.wd::rs.map Rc.wd++[r2.wd])=r2.wd:=by
  rw[Af7 _ _ a9];show(if r2.wd = "" then ("" : Str) else r2.wd)=r2.wd;split
  next h=>exact h.symm
  next=>rfl
 refine⟨_,U,_,U,_,U,_,_,_,_,U,U,SqL.of (p _ _ S),U,r2.u,r2.wd,r2.ks,U,At,O2.k,λw2 q2 M J ag aa=>?_,λw2 M J=>kE r2.wd M eF w2 (((s1.trans G).trans p).trans J)⟩;refine λd dx nd a0 ae=>?_;have W:Ba M (upd (upd M dx (.own d)) d (.ins t.GP dx [])):=(Ba.upd a0).over nd;have kk:=kQ (by rw[eF];exact w2);have u6:=((s1.trans G).trans p).trans J;have b3:Bd3 r0.ks (rs.map Rc.ks) r2.ks:=⟨by have:=O0.l;omega,by rw[AvK];omega,by have:=O2.l;omega,λks hk=>by
  obtain⟨r,f,rfl⟩:=yF.mp hk;have:=(Os r f).l;omega⟩
 refine⟨d,dx,q0,lz,q2,A,r0.ks,rs.map Rc.ks,r2.ks,U,Ae,W _ _ (J _ _ (p _ _ a3)),(Z5.same J).same W,W _ _ aa,b3,λF a b c qs H7 b7 _ _ _ _ D=>⟨U,?_⟩,λnF=>kk.2 nF _ (u6.trans W)⟩;have s7:Ba M H7:=λb o e=>b7 b o (λz=>by rw[z,nd] at e;cases e) (W _ _ e);exact kk.1 F d dx a b c qs H7 (u6.trans s7) D
inductive Aqg (t:Adr)(vs:Na)(H:Hp)(Q:VK)(E:XK):Prop
|mk(u:NI)(_:vs=[.str (tx u)])(_:u.length<=1000000)(_:(∀ ws,ws≠[]->jnS [32,47,32] ws=u->Agw [32,47,32] ws->ws.length≠3))(_:∀ H',Ba H H'->E (.ref t.Ce) none H')
theorem AaA(T:Txt K mg t):Bh P w K mg base (CX1 P w) 42 t.K9 t.KC ["text"] (Aqg t):=by
 refine T.Ly.F.okX Es ?_;rintro _ _ _ _ H _ Q E a ⟨u,rfl,s,n,k⟩;have l:sizeLine=16777216:=yA;obtain⟨ws,e,d,f⟩:=Apl (sp:=[32,47,32]) Ap u.length u (AvN _);refine⟨_,(Ac (Bb (i:=1) Es.nd U (Or.inl U) (BR (K:=K) zI zY z7 Tv (pv 0) (Aa (BX (v:=.str " / ") U T.QS.choose_spec ⟨_,U⟩) Ab)))
  (Ac (Bm (Ak NB (Az (Ax (K:=K)) U T.Ca Bv (Aa (pv 1) Ab)) Ah (Ar _))
   (Ad (Bx CQ U (λ_ _ z=>z) F.excBase_ValueError Cy F.excBase_ValueError T.Ht.q U T.Jo (Aa Af Ab)))
   Ao)
  (Ac (Bb (i:=2) Es.nd U (Or.inl U) (Al ((Uc T).mono Ap) a U T.DW.m T.DW.F.kp T.DW.b .nil Cv (Aa (Bw (Bf (K:=K)) (pv 1) Ah (λ_ _=>rfl)) Ab)))
  (Ac (Ab3 (i:=3) (E':=E) CQ (λ_ _ z=>z) (CP.mk (Bj:=[]) (Nc:=["tie"]) U As As (Cr (sc0:=Ag Kw) U As) U rfl U As (λ_ _ h=>by simp at h)) U Es.nd U rfl (BP (K:=K) (BR (K:=K) zI zY z7 Tv (Bw (Bf (K:=K)) (pv 1) Ah (λ_ _=>rfl)) (Aa (BX (v:=.str ", ") U T.S7.choose_spec ⟨_,U⟩) Ab))) (λ_ _ _ _ _=>.nil) (λ_ _ _ _ _=>(Al ((Uc T).mono Ap) a U T.DW.m T.DW.F.kp T.DW.b .nil AmO (Aa (pv 0) Ab))) U)
  (Ad (Ay (Fb T.MK.m ((Mq T).mono Ap) a U T.Ajp T.Jp.b .nil Cv (Aa (pv 2) (Aa (pv 3) (Aa (Al ((Uc T).mono Ap) a U T.DW.m T.DW.F.kp T.DW.b .nil Cv (Aa (Bw (Bf (K:=K)) (pv 1) Ah (λ_ _=>rfl)) Ab)) Ab)))))))))),?_⟩;refine⟨_,U,U,[32,47,32],ws,by rw[d],congrArg (λz=>[V.str z]) Acz,Ap,Ap,(by rw[d];omega),e,f,λx c=>?_⟩;obtain⟨H1,r,s1,p⟩:=nu9 (o:=.lst (vS ws)) (.refl _) c;rw[r];refine⟨_,U,_,_,U,.inl (SqL.of p),U,_,U,?_⟩;have j:=n ws e d f;refine Abh (λz=>j ?_) ⟨Ap,k H1 s1⟩;injection z with z;rw[Be] at z;omega
theorem Aud{ps:NX}{s1 a:Sp}(F:Bh P w K mg base CX k f fd ps s1)(G:Bh P w K mg base CX k f fd ps a):Bh P w K mg base CX k f fd ps (λvs H Q E=>s1 vs H Q E\/a vs H Q E) :=
 ⟨λvs H Q E h=>h.elim (F.len vs H Q E) (G.len vs H Q E),λA outer s H args us vs Q E e b c d h=>h.elim (F.run A outer s H args us vs Q E e b c d) (G.run A outer s H args us vs Q E e b c d)⟩
inductive Aqh (vs:Na)(H:Hp)(Q:VK)(z3:XK):Prop
|mk(x:Addr)(l:Addr)(th:NA)(ks:NA)(_:vs=[.ref x,.ref l])(_:H x=some (.lst (vI th)))(_:H l=some (.lst (vI ks)))(_:th.length<=40)(_:∀ H',Ba H H'->Q (.str (tx (shd th ks))) H')
theorem Af8(T:Txt K mg t):Bh P w K mg base CX0 1 t.ZJ t.ZK ["threading", "lifted"] Aqh:=by
 refine T.T7.F.ok AeN ?_;rintro _ _ _ _ H _ Q E v ⟨x,l,th,ks,rfl,e,n,c,k⟩;refine⟨_,(Ad (Ay (BR zI zS zV (DR (K:=K)) Af (Aa (De (CP.mk (Bj:=[1]) (Nc:=["shaft", "lifted"]) U As As (Cr (sc0:=Ag RB) U As) U rfl U As (λk j h=>match k,h with | 0,h=>by obtain rfl:=Option.some.inj h;exact⟨_,U,U,U⟩ | _+1,h=>by simp at h)) U (BP (K:=K) (pv 0)) (λ_ _ _ _ _=>.nil) (λ_ _ _ _ _=>(Rq (Ak (Abi) (pv 0) (pv 1) U) Af Af))) Ab)))),?_⟩;refine⟨U,_,U,_,U,⟨_,SqL.of e⟩,Dk (xs:=vI th) (λi ys H2=>H2=H/\ys=vS ((th.take i).map λs=>[if s∈ks then 35 else 46])) ⟨U,U⟩ ?_ ?_ ?_ ?_⟩
 ·rintro i ys H2 hi ⟨rfl,rfl⟩;refine⟨SqL.of e,?_⟩;rw[Be,AvK,AvW];lia
 ·rw[Cj];exact Cm c
 ·rintro i u ys H2 hi b ⟨rfl,rfl⟩;obtain⟨z,q,rfl⟩:=La b;have fin:∀ d,d=(if z∈ks then 35 else 46)->CN (vI th).length (λi ys a=>a=H2/\ys=vS ((th.take i).map λs=>[if s∈ks then 35 else 46])) i (vS ((th.take i).map λs=>[if s∈ks then 35 else 46])++[.str (tx [d])]) H2:=λd r=>by
   subst r;refine CN.of hi ⟨U,?_⟩;rw[Dv,AvT,q,AvO];rfl
  refine⟨_,U,_,U,_,_,U,.inl (SqL.of n),U,AiD _,_,U,?_⟩;rw[AhA];refine Cw (λh=>?_) (λh=>?_)
  ·have:= fin 35 (by rw[if_pos h]);exact this
  ·have:= fin 46 (by rw[if_neg h]);exact this
 ·rintro ys H2 p ⟨rfl,rfl⟩ o;rw[Cj,Awa];refine⟨_,_,((th.map λs=>[if s∈ks then 35 else 46]).map tx),U,U,SqL.of (by rw[Ae,Gr]),?_,?_⟩
  ·have f:=Akb (λs:Int=>if s∈ks then 35 else 46) th;rw[f,AvK,AvK];have:th.length*(Str.length "")=0:=by rw[show Str.length "" = 0 from As];lia
   lia
  ·rw[show(("" : Str))=tx [] from As,GF];have m:=Qs (λs:Int=>if s∈ks then 35 else 46) th;rw[m];exact k _ (.upd o)
inductive AnR (t:Adr)(vs:Na)(H:Hp)(Q:VK)(z3:XK):Prop
|mk(d:Addr)(dx:Addr)(a:Addr)(b:Addr)(c:Addr)(qs:NU)(th:NA)(tss:NV)(tr:NA)(_:vs=[.ref d])(_:IsD t H d dx a b c qs th tss tr)(_:Ft th tss tr)(_:∀ l H',Ba H H'->H l=none->H' l=some (.lst (vS (wv th tss tr)))->Q (.ref l) H')
theorem AnS(T:Txt K mg t):Bh P w K mg base CX0 2 t.Aje t.Ajf ["draft"] (AnR t):=by
 refine T.Aji.F.ok AmP ?_;rintro _ _ _ _ H _ Q E A ⟨d,dx,a,b,c,qs,th,tss,tr,rfl,D,F,k⟩;have q:=F.n40;refine⟨_,(Ad (Ay (De (CP.mk (Bj:=[0]) (Nc:=["treadle", "draft"]) U As As (Cr (sc0:=Ag AeM) U As) U rfl U As (λk j h=>match k,h with | 0,h=>by obtain rfl:=Option.some.inj h;exact⟨_,U,U,U⟩ | _+1,h=>by simp at h)) U (BP (K:=K) (Dt (pv 0) U)) (λ_ _ _ _ _=>.nil) (λ_ _ _ _ _=>(Al ((Af8 T).mono Ap) A U T.T7.m T.T7.F.kp T.T7.b .nil Aq (Aa (Dt (pv 1) U) (Aa (Bw (Bf) (Dt (pv 1) U) (pv 0) (λ_ _=>rfl)) Ab))))))),?_⟩;refine⟨_,U,_,_,_,_,_,U,D.o,T.MK.c,T.MN,Aua a b c,_,U,⟨_,SqL.of D.hc⟩,Dk (xs:=vI tr) (λi ys H2=>Ba H H2/\ys=vS (wv th tss (tr.take i))) ⟨.refl _,U⟩ ?_ ?_ ?_ ?_⟩
 ·rintro i ys H2 hi ⟨e,rfl⟩;refine⟨SqL.of (e _ _ D.hc),?_⟩;rw[Be,AhL,AvW];lia
 ·rw[Cj];exact Cm q
 ·rintro i B ys H2 hi s ⟨e,rfl⟩;obtain⟨v,x,rfl⟩:=La s;have u:=F.htr v (AvX x);have f:=D.same e;have p:v.toNat<qs.length:=by rw[f.hb.l];lia
  have n:=f.hb.r v.toNat qs[v.toNat] _ (AvM p) (Apo u);refine⟨_,U,_,_,_,_,_,U,f.o,T.MK.c,T.Ma,AtY a b c,_,U,_,_,_,_,_,U,f.o,T.MK.c,T.Vo,AtZ a b c,_,U,_,_,_,_,U,U,SqL.of f.hb.h,BL u.1 (by rw[AvS,AvM p];rfl),
   a,qs[v.toNat],th,_,U,f.ha,n,F.m40,λH3 z=>?_⟩;refine CN.of hi ⟨e.trans z,?_⟩;rw[Dv];unfold wv;rw[AvT,x,AvO];rfl
 ·rintro ys H2 l ⟨e,rfl⟩ y;rw[Cj,Awa];exact k l _ (e.new y) (e.free y) Ae
end
theorem Aqi(h1:u.head?≠some 32)(h2:u.getLast?≠some 32):trim u=u:=by
 unfold trim;have d:u.dropWhile (λc=>decide (c=32))=u:=by
  cases u with
  | nil=>rfl
  | cons a u=>rw[List.dropWhile_cons_of_neg (by simpa using h1)]
 rw[d];have b:u.reverse.dropWhile (λc=>decide (c=32))=u.reverse:=by
  cases e:u.reverse with
  | nil=>rfl
  | cons a v =>
   rw[List.dropWhile_cons_of_neg];have:u.getLast?=some a:=by rw[<- List.head?_reverse,e];rfl
   rw[this] at h2
   simpa using h2
 rw[b,List.reverse_reverse]
theorem Ac0(u:NI):(trim u).length<=u.length:=by unfold trim;rw[Awr];refine Awe (AwY _).length_le ?_;rw[Awr];exact(AwY _).length_le
inductive Lo where
 | ok (x:NN)
 | no (wd:Str)
def wdR:Rf->Str
 | .nop => "NoPattern"
 | .big => "TooLarge"
 | .unk => "Unknown"
def Avw:Res->Lo
 | .ok x=>.ok x
 | .no f=>.no (wdR f)
def Sep (x:Nat):Prop:=x=61\/x=58
structure D3 (r0:Rc)(rs:List Rc)(r2:Rc):Prop where
 o0:r0.Ok
 ne:rs≠[]
 l:rs.length<=100
 os:∀ r∈rs,r.Ok
 o2:r2.Ok
def fwd (r0:Rc)(rs:List Rc)(r2:Rc):Str:=fw (r0.wd::rs.map Rc.wd++[r2.wd])
inductive DrO:NI->Lo->Prop where
 | no {r0:Rc} {rs:List Rc} {r2:Rc}:D3 r0 rs r2->fwd r0 rs r2 ≠ "" -> DrO (drT r0 rs r2) (.no (fwd r0 rs r2))
 | bad {r0:Rc} {rs:List Rc} {r2:Rc}:D3 r0 rs r2->fwd r0 rs r2 = "" -> ¬Ft r0.ks (rs.map Rc.ks) r2.ks->DrO (drT r0 rs r2) (.no "NoDraft")
 | ok {r0:Rc} {rs:List Rc} {r2:Rc}:D3 r0 rs r2->fwd r0 rs r2 = "" -> Ft r0.ks (rs.map Rc.ks) r2.ks->DrO (drT r0 rs r2) (.ok (wv r0.ks (rs.map Rc.ks) r2.ks))
 | part {u:NI}:(∀ ws,ws≠[]->jnS [32,47,32] ws=u->Agw [32,47,32] ws->ws.length≠3)->DrO u (.no "NoDraft")
inductive LnP (kn:Kns) (z:NI):Nat->NI->Lo->Prop where
 | name {c:Nat} {u:NI}:Pat.isName z=false->LnP kn z c u (.no "NoPattern")
 | twice {c:Nat} {u:NI}:Pat.isName z=true->(∃ q∈kn,q.1=z)->LnP kn z c u (.no "Twice")
 | pat {u:NI}:Pat.isName z=true->(∀ q∈kn,¬q.1=z)->(∀ x,Pat.whole u=some x->Nsb 12 x)->LnP kn z 61 u (Avw (rdp kn u).1)
 | dra {u:NI} {o:Lo}:Pat.isName z=true->(∀ q∈kn,¬q.1=z)->DrO u o->LnP kn z 58 u o
inductive LnO (kn:Kns):NI->NI->Lo->Prop where
 | part {l z:NI}:(∀ x∈l,¬Sep x)->LnO kn l z (.no "NoPattern")
 | line {a b:NI} {c:Nat} {o:Lo}:(∀ x∈a,¬Sep x)->Sep c->LnP kn (trim a) c (trim b) o->LnO kn (a++c::b) (trim a) o
inductive Bo where
 | ok (kn:Kns)
 | no (wd:Str)
inductive BkO:Kns->NN->Bo->Prop where
 | nil {kn:Kns}:BkO kn [] (.ok kn)
 | skip {kn:Kns} {l:NI} {ls:NN} {o:Bo}:trim l=[]\/(trim l).head?=some 59->BkO kn ls o->BkO kn (l::ls) o
 | line {kn:Kns} {l:NI} {ls:NN} {z:NI} {x:NN} {o:Bo}:trim l≠[]->¬(trim l).head?=some 59->LnO kn (trim l) z (.ok x)->Clo x->BkO (kn++[(z,x)]) ls o->BkO kn (l::ls) o
 | stop {kn:Kns} {l:NI} {ls:NN} {z:NI} {wd:Str}:trim l≠[]->¬(trim l).head?=some 59->LnO kn (trim l) z (.no wd)->BkO kn (l::ls) (.no wd)
section
variable {K:NF}{base:Heap}{t:Adr}
def cl6 (t:Adr)(wd:Str):Addr:=if wd = "NoPattern" then t.Br else if wd = "Unknown" then t.Dl else if wd = "Twice" then t.Fd else Ahg t wd
theorem AnT(t:Adr):cl6 t "NoPattern" = t.Br:=if_pos U
theorem Aue(t:Adr):cl6 t "Twice" = t.Fd:=by unfold cl6;rw[if_neg As,if_neg As,if_pos rfl]
theorem Auf(t:Adr)(f:Rf):cl6 t (wdR f)=rfa t f:=by
 cases f with
 | nop=>exact AnT t
 | big =>
  show cl6 t "TooLarge" = _;rfl
 | unk =>
  show cl6 t "Unknown" = _;rfl
theorem AnU:∀{ws:NX},fw ws ≠ "" -> fw ws∈ws
 | [],h=>absurd U h
 | w::ws,h=>by
  unfold fw at h ⊢;split
  ·rename_i c;rw[if_pos c] at h;exact AvR _ (AnU h)
  ·simp_all
theorem Asn(t:Adr)(h:Rk u wd ks)(hw:wd ≠ ""):cl6 t wd=Ahg t wd:=by
 cases h with
 | good _=>exact absurd U hw
 | no _ =>
  unfold cl6;rw[if_neg As,if_neg As,if_neg As]
 | big _ =>
  unfold cl6;rw[if_neg As,if_neg As,if_neg As]
theorem D3.cl{rs:List Rc}(D:D3 r0 rs r2)(t:Adr)(h:fwd r0 rs r2 ≠ ""):cl6 t (fwd r0 rs r2)=Ahg t (fwd r0 rs r2):=by
 have m:=AnU h;have:∃ r:Rc,r.Ok/\r.wd=fwd r0 rs r2:=by
  rcases zG.mp m with m | m
  ·rcases yG.mp m with m | m
   ·exact⟨r0,D.o0,m.symm⟩
   ·obtain⟨r,a,e⟩:=yF.mp m;exact⟨r,D.os r a,e⟩
  ·exact⟨r2,D.o2,(zF.mp m).symm⟩
 obtain⟨r,O,e⟩:=this;rw[<- e] at h ⊢;exact Asn t O.k h
def LoQ (t:Adr)(H:Hp)(Q:VK)(E:XK)(z:NI):Lo->Prop
 | .ok x=>∀ a q H',Ba H H'->nw H H' a=some (.tup [.str (tx z),.ref q])->nw H H' q=some (.lst (vS x))->Q (.ref a) H'
 | .no wd=>∀ H',Ba H H'->E (.ref (cl6 t wd)) none H'
inductive Aqj (t:Adr)(vs:Na)(H:Hp)(Q:VK)(E:XK):Prop
|mk(u:NI)(o:Lo)(_:vs=[.str (tx u)])(_:u.length<=1000000)(_:DrO u o)(_:(∀ x,o=.ok x->∀(d dx a b c:Addr)(qs:NU)(th:NA)(tss:NV)(tr:NA) H',Ba H H'->IsD t H' d dx a b c qs th tss tr->Ft th tss tr->wv th tss tr=x->Q (.ref d) H'))(_:(∀ wd,o=.no wd->∀ H',Ba H H'->E (.ref (cl6 t wd)) none H'))
theorem Ac1(T:Txt K mg t):Bh P w K mg base (CX1 P w) 42 t.K9 t.KC ["text"] (Aqj t):=(Aud (Aa9 T) (AaA T)).imp λvs H Q E h=>by
 obtain⟨u,o,e,i,D,m,j⟩:=h;cases D with
 | no D h =>
  refine .inl ⟨_,_,_,e,D.o0,D.ne,D.l,D.os,D.o2,i,λwd H' f _ s=>?_,λz=>absurd z h⟩;have:= j _ U H' s;rw[D.cl t h] at this;rw[<- f];exact this
 | bad D h n =>
  refine .inl ⟨_,_,_,e,D.o0,D.ne,D.l,D.os,D.o2,i,λwd H' f k _=>absurd (f.symm.trans h) k,λ_=>⟨λF=>absurd F n,λ_ H' s=>?_⟩⟩;have:= j _ U H' s;exact this
 | ok D h F=>exact .inl ⟨_,_,_,e,D.o0,D.ne,D.l,D.os,D.o2,i,λwd H' f k _=>absurd (f.symm.trans h) k,λ_=>⟨λF d dx a b c qs H' s I=>m _ U d dx a b c qs _ _ _ H' s I F U,λn=>absurd F n⟩⟩
 | part h =>
  refine .inr ⟨_,e,i,h,λH' s=>?_⟩;have:= j _ U H' s;exact this
theorem Dc{v a:V}(b:v=a)(h:σ.set i (some a)=σ')(k:Kt σ' H):Hw i v σ H Kt:=by subst b;subst h;exact k
theorem Ud:(Str.ofString " ")=tx [32]:=As
theorem Aed:(Str.ofString "\n")=tx [10]:=As
theorem Alf:(Str.ofString ";")=tx [59]:=As
theorem Alh:(Str.ofString "=")=tx [61]:=As
theorem Aee:(Str.ofString "=:")=tx [61,58]:=As
theorem Ali(h:k<=u.length):Ug u (some (k:Int)) none=u.drop k:=by unfold Ug;rw[HT.Ku,AwB h];exact Aws (by rw[Awk];exact AvN _)
theorem AnV{c A B:Prop}[Decidable c](hc:¬c)(h:A):if (!decide c)=true then A else B:=by rw[zJ hc];exact Ms h
inductive Aso (t:Adr)(vs:Na)(H:Hp)(Q:VK)(E:XK):Prop
|mk(u:NI)(_:vs=[.str (tx u)])(_:(∀ a b c,u=a++c::b->(∀ x∈a,¬Sep x)->Sep c->∀ H',Ba H H'->Q (.int (a.length:Int)) H'))(_:((∀ x∈u,¬Sep x)->∀ H',Ba H H'->E (.ref t.Br) none H'))
theorem Yi(T:Txt K mg t):Bh P w K mg base (CX1 P w) 1 t.QQ t.QR ["line"] (Aso t):=by
 refine T.J5.F.okX Ja ?_;rintro _ _ _ _ H _ Q E n ⟨u,rfl,m,k⟩;refine⟨_,(Ac (PS.nox (Ep PassesOwn.never U (Amr U T.Aag (Aa (pv 0) Ab)) (JQ U (CK (BJ (i:=1) Ja.nd U (Or.inl U)) (CK (BJ (i:=2) Ja.nd U (Or.inl U)) Hg)))
   (Ad (Bm (Ak Ym (pv 2) Af U)
    (Ad (Ay (pv 1)))
    Ao))))
  (Ad (Bx CQ U (λ_ _ z=>z) F.excBase_ValueError Cy F.excBase_ValueError T.BV.q U T.BW (Aa Af Ab)))),?_⟩;rw[Aee];refine⟨_,U,_,U,Ak0 (λi σ H2=>∃ h j,σ=[some (.str (tx u)),h,j]/\Ba H H2/\∀ x∈u.take i,¬Sep x) ⟨none,none,U,.refl _,λx b=>by simp at b⟩ ?_ ?_⟩
 ·rintro i x σ H2 T0 b ⟨h,j,rfl,e,hi⟩ l;refine⟨T0,_,U,SqT.of Ae,U,_,_,U,_,_,U,U,?_⟩;have f:Ba H (upd H2 T0 (.tup [.int (i:Int),.str (tx [x])])):=e.new l;generalize upd H2 T0 (.tup [.int (i:Int),.str (tx [x])])=H3 at f ⊢;refine⟨_,U,_,_,U,U,?_⟩;rw[<- Ha,Acg];refine⟨_,U,?_⟩;have d:=(zC.mp b).1;refine Cw (λc=>?_) (λc=>?_)
  ·have:= m (u.take i) (u.drop (i+1)) x (by rw[<- (zC.mp b).2,<- AwP d,AwC]) hi (by unfold Sep;simpa using c) H3 f;rw[AvW,AwB (Awx d)] at this;exact⟨_,U,this⟩
  ·refine⟨_,_,U,f,λy a=>?_⟩;rw[AvT,b] at a;rcases zG.mp a with a | a
   ·exact hi y a
   ·rw[show y=x by simpa using a];unfold Sep
    simpa using c
 ·rintro σ H2 ⟨h,j,rfl,e,hi⟩;rw[Awa] at hi;exact⟨Ap,k hi H2 e⟩
theorem Aef{b:Hp}(k:LoQ t H Q E z (.ok x))(d:Ba H b)(c:b l9=some (.lst (vS x)))(e:H l9=none)(a:b q9=none):Q (.ref q9) (upd b q9 (.tup [.str (tx z),.ref l9])):=by
 refine k q9 l9 _ (d.new a) ?_ ?_
 ·rw[JK (d.free a)];exact Ae
 ·rw[JK e,Ai (Bc c a)];exact c
inductive AnW (t:Adr)(vs:Na)(H:Hp)(Q:VK)(E:XK):Prop
|mk(l:NI)(kp:Addr)(kn:Kns)(z:NI)(o:Lo)(_:vs=[.str (tx l),.ref kp])(_:l.length<=1000000)(_:Kn H kp kn)(_:kn.length<=1000)(_:(∀ p∈kn,Clo p.2))(_:LnO kn l z o)(_:LoQ t H Q E z o)
theorem Asp{a d n:NI}{i:Nat}(e:a++c::b=d++i::n)(m:∀ x∈a,¬Sep x)(hc:Sep c)(h:∀ x∈d,¬Sep x)(k:Sep i):a=d/\c=i/\b=n:=by
 induction a generalizing d with
 | nil =>
  cases d with
  | nil=>injection e with f j;exact⟨U,f,j⟩
  | cons y d =>
   injection e with f _;exact absurd (f▸hc) (h y AvP)
 | cons x a p =>
  cases d with
  | nil =>
   injection e with f _;exact absurd (f▸k) (m x AvP)
  | cons y d =>
   injection e with f j;obtain⟨r,q,o⟩:=p j (λv l=>m v (AvR _ l)) (λv l=>h v (AvR _ l));exact⟨by rw[f,r],q,o⟩
theorem Adn(T:Txt K mg t):Bh P w K mg base (CX1 P w) 43 t.ZX t.ZZ ["line", "known"] (AnW t):=by
 refine T.TX.F.okX Kz ?_;rintro _ _ _ _ H _ Q E A ⟨l,kp,kn,z,o,rfl,S,hK,a4,hC,L,k⟩;refine⟨_,(Ac (Bb (i:=2) Kz.nd U (Or.inl U) (Al ((Yi T).mono Ap) A U T.J5.m T.J5.F.kp T.J5.b .nil Cv (Aa (pv 0) Ab)))
  (Ac (Bb (i:=3) Kz.nd U (Or.inr U) (BR (K:=K) zI F.slot_str_strip F.type_str_strip Abr (Hz Ys (pv 0) PB (Hy (pv 2))) (Aa Af Ab)))
  (Ac (Bm (Hu (Fl (Al ((VF T).mono Ap) A U T.J1.m T.J1.F.kp T.J1.b .nil Aq (Aa (pv 3) Ab))))
   (Ad (Bx CQ U (λ_ _ z=>z) F.excBase_ValueError Cy F.excBase_ValueError T.BV.q U T.BW (Aa Af Ab)))
   Ao)
  (Ac (Bm (Fl (Az (AdH (K:=K)) U T.AqC AlN (Aa (PE.nox (De (CP.mk (Bj:=[3]) (Nc:=["pair", "name"]) U As As (Cr (sc0:=Ag RJ) U As) U rfl U As (λk j h=>match k,h with | 0,h=>by obtain rfl:=Option.some.inj h;exact⟨_,U,U,U⟩ | _+1,h=>by simp at h)) U (BP (K:=K) (pv 1)) (λ_ _ _ _ _=>.nil) (λ_ _ _ _ _=>(Hx Dd (Bw (Gi (K:=K)) (pv 0) Ah (λ_ _=>rfl)) (pv 1) (Ar _))))) Ab)))
   (Ad (Bx CQ U (λ_ _ z=>z) F.excBase_ValueError Cy F.excBase_ValueError T.AeT.q U T.Ajo (Aa Af Ab)))
   Ao)
  (Ac (Bb (i:=4) Kz.nd U (Or.inl U) (BR (K:=K) zI F.slot_str_strip F.type_str_strip Abr (Hz Ys (pv 0) (Hy (Aj Ex (pv 2) Ah)) PB) (Aa Af Ab)))
  (Ac (Bm (Ak Dd (Bw JR (pv 0) (pv 2) (λ_ _=>rfl)) Af (Ar _))
   (Ad (Ay (CZ (Aa (pv 3) (Aa (Bu (K:=K) U (Al ((Zc T).mono Ap) A U T.KJ.m T.KJ.F.kp T.KJ.b .nil Cv (Aa (pv 4) (Aa (pv 1) Ab))) ((CT T).mono Ap) A T.CW.b Aq) Ab)))))
   Ao)
  (Ad (Ay (CZ (Aa (pv 3) (Aa (Al ((AnS T).mono Ap) A U T.Aji.m T.Aji.F.kp T.Aji.b .nil Aq (Aa (Al ((Ac1 T).mono Ap) A U T.Ly.m T.Ly.F.kp T.Ly.b .nil Cv (Aa (pv 4) Ab)) Ab)) Ab))))))))))),?_⟩;rw[Ud,Alh];have a3:sizeLine=16777216:=yA;refine⟨_,U,l,U,λa b c X ha hc H1 s1=>?_,λa0 H1 s1=>?_⟩
 rotate_left
 ·cases L with
  | part _ =>
   have:=k H1 s1;rw[AnT] at this;exact this
  | line _ hc _=>exact absurd hc (a0 _ AA)
 obtain⟨rfl,O⟩:z=trim a/\LnP kn (trim a) c (trim b) o:=by
  cases L with
  | part h=>exact absurd hc (h _ (by rw[X];simp))
  | line h1 h2 h3 =>
   obtain⟨rfl,rfl,rfl⟩:=Asp X h1 h2 ha hc;exact⟨U,h3⟩
 subst X;have W:=S;rw[AvL,AvQ] at W;refine Dc U rfl ?_;have ec:Ug (a++c::b) none (some (a.length:Int))=a:=by
  unfold Ug;rw[HT.Rx,HT.Ku,AwB AA,Axh,AwA,AwQ (AvN _),Awa]
 refine⟨_,U,_,U,_,U,_,U,big S,?_⟩;rw[ec];refine⟨U,_,_,U,U,(by rw[Aw];omega),?_⟩;rw[AeB];refine Dc U rfl ?_;have a2:=Ac0 a;refine⟨_,U,trim a,U,At,λH2 s2=>⟨_,U,?_⟩⟩;have u2:=s1.trans s2;clear L;generalize trim a=z at O k a2 ⊢;cases hn:Pat.isName z with
 | false =>
  refine Ms ⟨Ap,?_⟩;cases O with
  | name _ =>
   have:=k H2 u2;rw[AnT] at this;exact this
  | twice h _=>rw[hn] at h;cases h
  | pat h _ _=>rw[hn] at h;cases h
  | dra h _ _=>rw[hn] at h;cases h
 | true =>
  refine JS ?_;obtain⟨as,k1,k2,k3⟩:=hK.same u2;refine⟨_,U,_,U,⟨_,SqL.of k1⟩,Dk (K:=K) (a:=kp) (xs:=as.map V.ref) (λi ys G=>G=H2/\ys=vB ((kn.take i).map λp=>decide (p.1=z))) ⟨U,U⟩ ?_ ?_ ?_ ?_⟩
  ·rintro i ys G hi ⟨rfl,rfl⟩;refine⟨SqL.of k1,?_⟩;rw[AhV,AvK,AvW];exact AwS _ _
  ·rw[AvK,k2];omega
  ·rintro i xv ys G hi hx ⟨rfl,rfl⟩;rw[AvS] at hx;obtain⟨q,ea,rfl⟩:=zU.mp hx;have C:i<kn.length:=by rw[<- k2];exact(zC.mp ea).1
   obtain⟨q2,e1,e2⟩:=k3 i q _ ea (AvM C);refine Eo.no ?_;refine⟨_,U,_,_,_,_,U,U,SqT.of e1,BL Ap U,_,U,U,?_⟩;refine CN.of hi ⟨U,?_⟩;rw[AhW,AvT,AvM C,AvO]
   congr 2
   show[_]=[_]
   congr 1
   exact z6.mpr ⟨λh=>by injection h with h;exact IK h,λh=>congrArg (λu=>V.str (tx u)) h⟩
  ·rintro ys G q ⟨rfl,rfl⟩ hq;refine⟨_,_,U,SqL.of Ae,?_⟩;rw[AvK,k2,Awa];have v:Ba H (upd G q (.lst (vB (kn.map λp=>decide (p.1=z))))):=u2.new hq;generalize upd G q (.lst (vB (kn.map λp=>decide (p.1=z))))=H3 at v ⊢;refine⟨_,U,?_⟩;by_cases N:∃ q∈kn,q.1=z
   ·rw[show((kn.map λp=>decide (p.1=z)).any id)=true by
     obtain⟨q,y,n⟩:=N;rw[Axq,Axz];exact⟨q,y,zN n⟩]
    refine Ms ⟨Ap,?_⟩;cases O with
    | name h=>rw[hn] at h;cases h
    | twice _ _ =>
     have:=k H3 v;rw[Aue] at this;exact this
    | pat _ h _=>exact absurd N λ⟨q,h1,h2⟩=>h q h1 h2
    | dra _ h _=>exact absurd N λ⟨q,h1,h2⟩=>h q h1 h2
   ·rw[show((kn.map λp=>decide (p.1=z)).any id)=false by
     rw[Axq,Axs];exact λq y n=>N ⟨q,y,of_decide_eq_true n⟩]
    refine JS ?_;have ed:Ug (a++c::b) (some ((a.length:Int)+1)) none=b:=by
     rw[show((a.length:Int)+1)=((a.length+1:Nat):Int) by omega,Ali AA,List.drop_append];simp
    refine⟨_,U,_,U,_,_,U,U,_,U,_,U,big S,?_⟩;rw[ed];refine⟨U,_,_,U,U,(by rw[Aw];omega),?_⟩;rw[AeB];refine Dc U rfl ?_;have tb:=Ac0 b;refine⟨_,U,_,U,_,_,c,U,U,(by rw[Aw];exact big S),BL At (by rw[Fw,AvZ,Awi (AvN _),AwJ];rfl),U,_,U,?_⟩;cases O with
    | name h=>rw[hn] at h;cases h
    | twice _ h=>exact absurd h N
    | pat _ _ a1 =>
     refine Gq U ?_;refine⟨_,U,_,U,_,U,trim b,kp,kn,U,At,hK.same v,hC,a1,?_⟩;generalize hR:rdp kn (trim b)=R at k ⊢;obtain⟨R1,R2⟩:=R;cases R1 with
     | ok x =>
      intro pc B r hp;have Z:=hp.mono (λb o e=>(Nh e).2);refine Gf T Z λl9 J=>?_;have M:=v.trans r;exact⟨AH,λq9 s=>Aef k (M.new J) Ae (M.free J) s⟩
     | no f =>
      intro B r;have:=k B (v.trans r);rw[Auf] at this;exact this
    | dra _ _ D =>
     refine Ea Ap ?_;refine⟨_,U,_,U,trim b,o,U,At,D,λx ex d dx a b c qs th tss tr B r I F Y=>?_,λwd Y B r=>?_⟩
     ·refine⟨d,dx,a,b,c,qs,th,tss,tr,U,I,F,λl9 H5 s5 n9 h9=>?_⟩;rw[Y] at h9;rw[ex] at k;have M:=v.trans r;exact⟨AH,λq9 s=>Aef k (M.trans s5) h9 (M.free n9) s⟩
     ·rw[Y] at k;exact k B (v.trans r)
def BoQ (t:Adr)(H:Hp)(Q:VK)(E:XK):Bo->Prop
 | .ok kn=>∀ q H',Ba H H'->Kn (nw H H') q kn->Q (.ref q) H'
 | .no wd=>∀ H',Ba H H'->E (.ref (cl6 t wd)) none H'
inductive AnX (t:Adr)(vs:Na)(H:Hp)(Q:VK)(E:XK):Prop
|mk(u:NI)(bs:NN)(o:Bo)(_:vs=[.str (tx u)])(_:u.length<=1000000)(_:bs≠[])(_:jn 10 bs=u)(_:(∀ b∈bs,10∉b))(_:bs.length<=900)(_:BkO [] bs o)(_:BoQ t H Q E o)
theorem AqH{c:Nat}{w:NI}:∀{ws:NN},w∈ws->w.length<=(jn c ws).length
 | [],h=>by simp at h
 | [v],h=>by rw[zF.mp h];exact AvN _
 | v::x::r,h=>by
  show _<=(v++c::jn c (x::r)).length;rw[AvL,AvQ];rcases yG.mp h with rfl | h
  ·lia
  ·have:= AqH (c:=c) h;lia
theorem Ado(T:Txt K mg t):Bh P w K mg base (CX1 P w) 44 t.ZV t.ZW ["text"] (AnX t):=by
 refine T.TV.F.okX Ky ?_;rintro _ _ _ _ H _ Q E hr ⟨u,bs,o,rfl,hu,a0,hj,a1,a8,hB,k⟩;refine⟨_,(Ac (Bb (i:=1) Ky.nd U (Or.inl U) (Cu Ab))
  (Ac (Wf λhfr=>(Ep (Ae3 CQ hfr) U (BP (K:=K) (BR (K:=K) zI zY z7 Amw (pv 0) (Aa Af Ab))) (BJ (i:=2) Ky.nd U (Or.inl U))
   (Ac (Bb (i:=3) Ky.nd U (Or.inl U) (BR (K:=K) zI F.slot_str_strip F.type_str_strip Abr (pv 2) (Aa Af Ab)))
   (Ad (Bm (PW.pt (pw_and (Ak NB (pv 3) Af (Ar _)) (pw_and1 (Hu (Fl (BR (K:=K) zI F.slot_str_startswith F.type_str_startswith Ak1 (pv 3) (Aa Af Ab)))))))
    (Ad (Bg (BR (K:=K) zM zL zQ DY (pv 1) (Aa (Al ((Adn T).mono Ap) hr U T.TX.m T.TX.F.kp T.TX.b .nil Cv (Aa (pv 3) (Aa (pv 1) Ab))) Ab))))
    Ao)))))
  (Ad (Ay (pv 1))))),?_⟩;rw[Aed,Ud,Alf];have a7:=yA;refine⟨AA,λq N=>?_⟩;obtain⟨H1,e9,s1,h1⟩:=nu9 (o:=.lst []) (.refl _) N;rw[e9];refine⟨_,U,U,u,10,bs,U,U,Ap,Au,a0,hj,a1,λl hl=>?_⟩;have R:Ba H1 (upd H1 l (.lst (vS bs))):=.upd hl;have h2:(upd H1 l (.lst (vS bs))) l=some (.lst (vS bs)):=Ae;have a5:=Bc h1 hl;generalize upd H1 l (.lst (vS bs))=H2 at R h2 ⊢;refine⟨_,U,⟨_,SqL.of h2⟩,Gb (K:=K) (λi σ G=>∃(X S:Option V)(d:Kns),σ=[some (.str (tx u)),some (.ref q),X,S]/\Ba H G/\G l=some (.lst (vS bs))/\Kn (nw H G) q d/\d.length<=i/\(∀ p∈d,Clo p.2)/\BkO d (bs.drop i) o) ⟨none,none,[],U,s1.trans R,h2,⟨[],by rw[JK N];exact R _ _ h1,U,λi a p g=>by simp at g⟩,AvV _,(λp v=>by simp at v),hB⟩ (λi σ G _ ⟨_,_,_,_,_,h,_⟩=>SqL.of h) ?_ ?_⟩
 ·rintro i xv σ G hx ⟨X,S,d,rfl,n,M,A,Z,D,hB⟩;obtain⟨b,hb,rfl⟩:=HF hx;have hi:=(zC.mp hb).1;have ed:bs.drop i=b::bs.drop (i+1):=by
   rw[AwP hi];have:= AvM hi;rw[hb] at this;injection this with this;rw[<- this]
  rw[ed] at hB;have bl:=AqH (c:=10) (AvX hb);rw[hj] at bl;have tl:=Ac0 b;refine⟨_,U,U,_,_,U,U,(by rw[Aw];lia),?_⟩;rw[AeB];refine⟨_,U,U,_,U,?_⟩;by_cases sk:trim b=[]\/(trim b).head?=some 59
  ·have hB:BkO d (bs.drop (i+1)) o:=by
    cases hB with
    | skip _ h=>exact h
    | line h1 h2 _ _ _=>exact absurd sk λz=>z.elim h1 h2
    | stop h1 h2 _=>exact absurd sk λz=>z.elim h1 h2
   by_cases B:trim b=[]
   ·rw[B];exact JS ⟨_,_,d,U,n,M,A,At,D,hB⟩
   ·refine AnV (Rj B) ?_;have c2:=sk.resolve_left B;refine⟨_,U,U,_,_,U,U,?_⟩;rw[AdA];refine⟨_,U,?_⟩;rw[zN c2];exact JS ⟨_,_,d,U,n,M,A,At,D,hB⟩
  ·have B:¬trim b=[]:=λz=>sk (.inl z);have a2:¬(trim b).head?=some 59:=λz=>sk (.inr z);refine AnV (Rj B) ?_;refine⟨_,U,U,_,_,U,U,?_⟩;rw[AdA];refine⟨_,U,?_⟩;rw[zJ a2];obtain⟨z,lo,hL,hg⟩:∃ z lo,LnO d (trim b) z lo/\((∃ x,lo=.ok x/\Clo x/\BkO (d++[(z,x)]) (bs.drop (i+1)) o)\/∃ wd,lo=.no wd/\o=.no wd):=by
    cases hB with
    | skip h _=>exact absurd h sk
    | line _ _ h1 h2 h3=>exact⟨_,_,h1,.inl ⟨_,U,h2,h3⟩⟩
    | stop _ _ h1=>exact⟨_,_,h1,.inr ⟨_,U,U⟩⟩
   have C:=A.same (λb o e=>(Nh e).2);have a3:∃ zs,G q=some (.lst zs):=by obtain⟨as,g,_⟩:=C;exact⟨_,g⟩
   refine⟨_,U,a3.elim λzs hz=>.inl ⟨U,_,SqL.of hz⟩,_,U,_,U,trim b,q,d,z,lo,U,At,C,At,D,hL,?_⟩;rcases hg with ⟨x,rfl,hX,hB⟩ | ⟨wd,rfl,rfl⟩
   rotate_left
   ·exact λG' s'=>k G' (n.trans s')
   intro O q9 G' s' n1 n2;obtain⟨as,g1,g2,g3⟩:=A;have r:=Nh g1;have W:=n.trans s';have a6:=s' _ _ r.2;refine⟨q,_,_,U,U,a6,(by rw[AvK];omega),?_⟩;have f:=Nh n1;have L:=Nh n2;have Y:O≠q:=λz=>by rw[z,r.2] at f;cases f.1
   have a4:q9≠q:=λz=>AB
   have sF:Ba H (upd G' q (.lst (as.map V.ref++[.ref O]))):=λb o e=>by
    rw[Ai (Bc e N)];exact W b o e
   have lq:l≠q:=λz=>a5 z.symm;refine⟨_,_,d++[(z,x)],U,sF,by rw[Ai lq];exact s' _ _ M,⟨as++[O],by rw[JK N,Ae,AvO];rfl,AB,λj a p' y J=>?_⟩,AB,(λp v=>by
    rcases zG.mp v with v | v
    ·exact D p v
    ·rw[zF.mp v];exact hX),hB⟩
   by_cases cj:j<as.length
   ·rw[Awg cj] at y;rw[Awg (by rw[<- g2];exact cj)] at J;obtain⟨q8,f1,f2⟩:=g3 j a p' y J;have I:=Nh f1;have s:=Nh f2;have aq:a≠q:=λz=>AD
    refine⟨q8,by rw[JK I.1,Ai aq];exact s' _ _ I.2,?_⟩;rw[JK s.1,Ai]
    ·exact s' _ _ s.2
    ·intro z;have e:=s.2;rw[z,r.2] at e;injection e with e;injection e with e;have h0:(as.map V.ref)[j]?=some (.ref a):=by rw[AvS,y];rfl
     rw[e] at h0;unfold vS at h0;cases h:p'.2[j]? with
     | none=>simp_all
     | some x=>simp_all
   ·rw[Awi At] at y;rw[Awi (by rw[<- g2];omega),<- g2] at J;have j0:j-as.length=0:=by
     grind
    rw[j0] at y J;cases y;cases J;exact⟨q9,by rw[JK (n.free f.1),Ai Y];exact f.2,by rw[JK (n.free L.1),Ai a4];exact L.2⟩
 ·rintro σ G ⟨X,S,d,rfl,n,M,A,Z,D,hB⟩;rw[Be,AwZ] at hB;cases hB;exact⟨_,U,k q G n A⟩
end
def ldA (u:NI):NI:=u.flatMap λc=>[c,46]
def ldB (u:NI):NI:=u.flatMap λc=>[35,c]
def ld2 (x y:NN):NN:=(x.zip y).flatMap λq=>[ldA q.1,ldB q.2]
theorem Ti(h:i<2*k):(Ir k).getD i 0=((i%2:Nat):Int):=by
 unfold Ir;rw[Awv,AiK [(0:Int),1] k i (by simp;omega)];have:i%2=0\/i%2=1:=At
 rcases this with e | e <;> simp[e]
theorem Ahh{k:Nat}:∀{i:Nat},i<=2*k->((Ir k).take i).count 0=(i+1) / 2/\((Ir k).take i).count 1=i / 2
 | 0,_=>AA
 | i+1,h=>by
  have b:=Ahh (k:=k) (i:=i) At;have a:i<(Ir k).length:=by rw[Gs];omega
  rw[V3 a,V3 a,b.1,b.2,Ti At];have:i%2=0\/i%2=1:=At
  rcases this with e | e
  ·rw[e];simp;omega
  ·rw[e];simp;omega
theorem Af9(h:i<2*k):plc (Ir k) i=i / 2:=by
 unfold plc;rw[Ti h];have:=Ahh (k:=k) (i:=i) At;have e:i%2=0\/i%2=1:=At
 rcases e with e | e
 ·rw[e];show((Ir k).take i).count 0=_;rw[this.1];omega
 ·rw[e];exact this.2
theorem Aqk(h:k<2*u.length):(ldA u)[k]?=some (if k%2=0 then u.getD (k / 2) 0 else 46):=by
 unfold ldA;have e:=Ws (h:=2) (f:=λc:Nat=>[c,46]) u (λx _=>rfl) (k / 2) (k%2) At;rw[show k / 2*2+k%2=k by omega] at e;rw[e];have hk:k / 2<u.length:=At
 rw[AvM hk];show[u[k / 2],46][k%2]?=_;have b:u.getD (k / 2) 0=u[k / 2]:=by rw[Awv,AvM hk];rfl
 rw[b];have:k%2=0\/k%2=1:=At
 rcases this with a | a <;> rw[a] <;> rfl
theorem Aql(h:k<2*u.length):(ldB u)[k]?=some (if k%2=0 then 35 else u.getD (k / 2) 0):=by
 unfold ldB;have e:=Ws (h:=2) (f:=λc:Nat=>[35,c]) u (λx _=>rfl) (k / 2) (k%2) At;rw[show k / 2*2+k%2=k by omega] at e;rw[e];have hk:k / 2<u.length:=At
 rw[AvM hk];show[35,u[k / 2]][k%2]?=_;have b:u.getD (k / 2) 0=u[k / 2]:=by rw[Awv,AvM hk];rfl
 rw[b];have:k%2=0\/k%2=1:=At
 rcases this with a | a <;> rw[a] <;> rfl
theorem Aj9(u:NI):(ldA u).length=2*u.length:=by unfold ldA;rw[Ld (h:=2) u λx _=>rfl];omega
theorem AjA(u:NI):(ldB u).length=2*u.length:=by unfold ldB;rw[Ld (h:=2) u λx _=>rfl];omega
theorem Aqm{y:NN}(C:Cl x m n)(D:Cl y m n):lay [x,y] (Ir m) (Ir n)=ld2 x y:=by
 have w:(x.zip y).length=n:=by rw[List.length_zip,C.hn,D.hn,AwR]
 have l2:(ld2 x y).length=2*n:=by
  unfold ld2;rw[Ld (h:=2) _ λq _=>rfl,w];omega
 apply AwV;intro j;by_cases d:j<2*n
 ·have p:j<(Ir n).length:=by rw[Gs];exact d
  rw[AiL p,Ti d,Af9 d];have c:j / 2<x.length:=by rw[C.hn];omega
  have i:j / 2<y.length:=by rw[D.hn];omega
  have e:=Ws (h:=2) (f:=λq:NI × NI=>[ldA q.1,ldB q.2]) (x.zip y) (λq _=>rfl) (j / 2) (j%2) At;rw[show j / 2*2+j%2=j by omega] at e;show _=(ld2 x y)[j]?;unfold ld2;rw[e];have v:(x.zip y)[j / 2]?=some (x[j / 2],y[j / 2]):=List.getElem?_zip_eq_some.mpr ⟨AvM c,AvM i⟩;rw[v];show _=[ldA x[j / 2],ldB y[j / 2]][j%2]?;have s:=C.hm _ (Awh c);have r:=D.hm _ (Awh i);have ex:x.getD (j / 2) []=x[j / 2]:=by rw[Awv,AvM c];rfl
  have u:y.getD (j / 2) []=y[j / 2]:=by rw[Awv,AvM i];rfl
  have l:j%2=0\/j%2=1:=At
  rcases l with o | o
  ·rw[o];show some (FT [x,y] (Ir m) 0 (j / 2))=some (ldA x[j / 2])
   congr 1
   apply AwV;intro k;by_cases hk:k<2*m
   ·rw[V4 (by rw[Gs];exact hk),Aqk (by rw[s];exact hk),Ti hk,Af9 hk];show some (Wq 0 ((k%2:Nat):Int) (x.getD (j / 2) []) (k / 2))=_;rw[ex];unfold Wq;have b:k%2=0\/k%2=1:=At
    rcases b with a | a
    ·rw[a];rfl
    ·rw[a];rfl
   ·rw[AwE (by rw[Lb,Gs];omega),AwE (by rw[Aj9,s];omega)]
  ·rw[o];show some (FT [x,y] (Ir m) 1 (j / 2))=some (ldB y[j / 2])
   congr 1
   apply AwV;intro k;by_cases hk:k<2*m
   ·rw[V4 (by rw[Gs];exact hk),Aql (by rw[r];exact hk),Ti hk,Af9 hk];show some (Wq 1 ((k%2:Nat):Int) (y.getD (j / 2) []) (k / 2))=_;rw[u];unfold Wq;have b:k%2=0\/k%2=1:=At
    rcases b with a | a
    ·rw[a];rfl
    ·rw[a];rfl
   ·rw[AwE (by rw[Lb,Gs];omega),AwE (by rw[AjA,r];omega)]
 ·rw[AwE (by rw[AeF,Gs];omega),AwE (by rw[l2];omega)]
section
variable {K:NF}{base:Heap}{t:Adr}
inductive AnY (vs:Na)(H:Hp)(Q:VK)(z3:XK):Prop
|mk(z:Int)(m:Nat)(n:Nat)(_:vs=[.int z,.int (m:Int),.int (n:Int)])(_:1<=m)(_:m<=40)(_:1<=n)(_:n<=40)(_:∀ l x H',Ba H H'->H l=none->H' l=some (.lst (vS x))->Cl x m n->Q (.ref l) H')
theorem Alj{z:Int}:∃ c,atI ((tx [46,35]).cps.toList) (z%2)=some c/\Sg c:=by
 have h:z%2=0\/z%2=1:=At
 rw[Fw];rcases h with h | h
 ·exact⟨46,by rw[h];exact BL Ap U,.inr U⟩
 ·exact⟨35,by rw[h];exact BL Ap U,.inl U⟩
theorem Ahi(T:Txt K mg t):Bh P w K mg base CX0 1 t.AbN t.AbO ["number", "ends", "picks"] AnY:=by
 refine T.Xx.F.ok Gu ?_;rintro _ _ _ _ H _ Q E a ⟨z,m,n,rfl,O,I,n1,v,k⟩;refine⟨_,(Ac (Bb (i:=3) Gu.nd U (Or.inl U) (Cu Ab))
  (Ac (Ep PassesOwn.never U (Em U T.Fj (Aa (pv 2) Ab)) (BJ (i:=4) Gu.nd U (Or.inl U))
   (Ac (Bb (i:=5) Gu.nd U (Or.inl U) Af)
   (Ac (Ep PassesOwn.never U (Em U T.Fj (Aa (pv 1) Ab)) (BJ (i:=6) Gu.nd U (Or.inl U))
    (Ac (Bb (i:=5) Gu.nd U (Or.inl U) (Aj Am (pv 5) (Bw JR Af (Aj Dh (pv 0) Ah) (λ_ _=>rfl))))
    (Ad (Bb (i:=0) Gu.nd U (Or.inl U) (Aj EY (pv 0) Ah)))))
   (Ad (Bg (BR (K:=K) zM zL zQ DY (pv 3) (Aa (pv 5) Ab)))))))
  (Ad (Ay (pv 3))))),?_⟩;have M:sizeLine=16777216:=yA;have N:(Str.ofString ".#")=tx [46,35]:=As
 refine⟨AvV _,λq D=>?_⟩;have s1:Ba H (upd H q (.lst [])):=.upd D;have s:(upd H q (.lst [])) q=some (.lst (vS [])):=Ae;generalize upd H q (.lst [])=H1 at s1 s ⊢;refine⟨_,U,_,U,At,At,?_⟩;rw[AvZ];refine I9 (lo:=0) (n:=n) (λi σ H2=>∃(y:Int)(J L l:Option V)(x:NN),σ=[some (.int y),some (.int (m:Int)),some (.int (n:Int)),some (.ref q),J,L,l]/\Ba H H2/\H2 q=some (.lst (vS x))/\x.length=i/\∀ r∈x,r.length=m/\∀ c∈r,Sg c) ⟨z,none,none,none,[],U,s1,s,U,λr h=>by simp at h⟩ ?_ ?_
 ·rintro i σ H2 hi ⟨y,J,L,l,x,rfl,A,b,B,f⟩;refine⟨_,U,_,U,At,At,?_⟩;rw[AvZ];refine I9 (lo:=0) (n:=m) (λj σ H3=>∃(y:Int)(l:Option V)(u:NI),σ=[some (.int y),some (.int (m:Int)),some (.int (n:Int)),some (.ref q),some (.int (0+(i:Int))),some (.str (tx u)),l]/\H3=H2/\u.length=j/\∀ c∈u,Sg c) ⟨y,_,[],by rw[show(("" : Str))=tx [] from As] <;> rfl,U,U,λc h=>by simp at h⟩ ?_ ?_
  ·rintro j σ H3 R ⟨y,l,u,rfl,rfl,G,C⟩;obtain⟨c,hc,sc⟩:=Alj (z:=y);rw[N];refine⟨_,U,_,U,_,_,U,U,(by show(0:Int)<2;decide),_,_,c,U,U,(by rw[Aw];exact big Ap),hc,?_⟩;refine⟨_,_,U,U,(by rw[Ha,Aw,Aw];exact big (by simp only [AvQ,Awn];omega)),?_⟩;rw[Ha,Bs];refine⟨_,U,_,_,U,U,⟨Ap,Ap⟩,?_⟩;refine⟨_,_,u++[c],U,U,by rw[AvL,G];rfl,λd p=>?_⟩;rcases zG.mp p with p | p
   ·exact C d p
   ·rw[zF.mp p];exact sc
  ·rintro σ H3 ⟨y,l,u,rfl,rfl,G,C⟩;refine⟨_,U,.inl ⟨U,_,SqL.of b⟩,_,U,_,_,_,U,U,b,(by rw[Be];omega),?_⟩;rw[Dv];refine⟨y,_,_,_,x++[u],U,A.over (by
    cases e:H q with
    | none=>rfl
    | some o=>exact absurd (D.symm.trans e) (λz=>nomatch z)),Ae,by rw[AvL,B];rfl,λr a=>?_⟩
   rcases zG.mp a with a | a
   ·exact f r a
   ·rw[zF.mp a];exact⟨G,C⟩
 ·rintro σ H2 ⟨y,J,L,l,x,rfl,A,b,B,f⟩;exact⟨_,U,k q x H2 A D b ⟨B,λr a=>(f r a).1,λr a=>(f r a).2,O,I,n1,v⟩⟩
inductive Alk (vs:Na)(H:Hp)(Q:VK)(z3:XK):Prop
|mk(c:_)(_:vs=[.str ⟨#[c]⟩])(_:Q (.str (tx [flip c])) H)
theorem Yj(T:Txt K mg t):Bh P w K mg base CX0 1 t.Aaa t.Aab ["sign"] Alk:=by
 refine T.Jl.F.ok AeQ ?_;rintro _ _ _ _ H _ Q E a ⟨c,rfl,k⟩;refine⟨_,(Ac (Bm (Ak Dd (pv 0) Af (Ar _))
   (Ad (Ay Af))
   Ao)
  (Ad (Ay Af))),?_⟩;refine⟨_,U,U,_,U,?_⟩;refine Cw (λh=>?_) (λh=>?_)
 ·have e:c=35:=AtG.mp (h.trans e35.symm);rw[e] at k;rw[show(("." : Str))=tx [46] from As];exact k
 ·have e:¬c=35:=λz=>h (by rw[z];exact e35);rw[show flip c=35 by unfold flip;rw[if_neg e]] at k;rw[show(("#" : Str))=tx [35] from As];exact k
inductive AnZ (K:NF)(vs:Na)(H:Hp)(Q:VK)(z3:XK):Prop
|mk(z:NI)(a:Addr)(x:NN)(_:vs=[.str (tx z),.ref a])(_:(z=miW\/z=upW\/z=baW\/z=quW))(_:SqL K H a (vS x))(_:Clo x)(_:∀ l y H',Ba H H'->H l=none->H' l=some (.lst (vS y))->AhN z x=.ok y->Q (.ref l) H')
theorem Ip:∀ l:NN,((l.map tx).map (·.length)).sum=l.flatten.length:=λl=>by
 induction l with
 | nil=>rfl
 | cons x l a=>rw[AvU,AvU,Aw7,a,Awl,AvL,Aw]
theorem AfA:(Str.length "")=0:=As
theorem AfB:(("" : Str))=tx []:=As
theorem Adp(T:Txt K mg t):Bh P w K mg base CX0 2 t.Xq t.Xr ["word", "rows"] (AnZ K):=by
 refine T.Qj.F.ok AcD ?_;rintro _ _ _ _ H _ Q E W ⟨z,a,x,rfl,hz,v,C,k⟩;refine⟨_,(Ac (Bm (Ak Dd (pv 0) Af (Ar _))
   (Ad (Ay (Abp (K:=K) U T.LK U T.Jm (pv 1))))
   Ao)
  (Ac (Bm (Ak Dd (pv 0) Af (Ar _))
   (Ad (Ay (De (CP.mk (Bj:=[]) (Nc:=["row"]) U As As (Cr (sc0:=Ag GK) U As) U rfl U As (λ_ _ h=>by simp at h)) U (BP (K:=K) (pv 1)) (λ_ _ _ _ _=>.nil) (λ_ _ _ _ _=>(BR (K:=K) zI zS zV (DR (K:=K)) Af (Aa (Agr U T.LK U T.Jm (pv 0)) Ab))))))
   Ao)
  (Ac (Bm (Ak Dd (pv 0) Af (Ar _))
   (Ad (Ay (De (CP.mk (Bj:=[]) (Nc:=["row"]) U As As (Cr (sc0:=Ag GK) U As) U rfl U As (λ_ _ h=>by simp at h)) U (BP (K:=K) (pv 1)) (λ_ _ _ _ _=>.nil) (λ_ _ _ _ _=>(BR (K:=K) zI zS zV (DR (K:=K)) Af (Aa (De (CP.mk (Bj:=[]) (Nc:=["sign"]) U As As (Agp As) U rfl U As (λ_ _ h=>by simp at h)) U (Aph U T.Jm (Aa (pv 0) Ab)) (λ_ _ _ _ _=>.nil) (λ_ _ _ _ _=>(Al ((Yj T).mono Ap) W U T.Jl.m T.Jl.F.kp T.Jl.b .nil Aq (Aa (pv 0) Ab)))) Ab))))))
   Ao)
  (Ad (Ay (Ami (Mu.mk (Bj:=[1]) (Nc:=["k", "rows"]) U rfl As (Cr (sc0:=Ag GK) U As) U rfl U As (λk j h=>match k,h with | 0,h=>by obtain rfl:=Option.some.inj h;exact⟨_,U,U,U⟩ | _+1,h=>by simp at h)) U (Em U T.Fj (Aa (Az BK U T.Ca Bv (Aa (Bw (Bf (K:=K)) (pv 1) Ah (λ_ _=>rfl)) Ab)) Ab)) (λ_ _ _ _ _=>.nil) (λ_ _ _ _ _=>(BR (K:=K) zI zS zV (DR (K:=K)) Af (Aa (De (CP.mk (Bj:=[0]) (Nc:=["row", "k"]) U As As (Agt (sc0:=Ag GK) U As) U rfl U As (λk j h=>match k,h with | 0,h=>by obtain rfl:=Option.some.inj h;exact⟨_,U,U,U⟩ | _+1,h=>by simp at h)) U (BP (K:=K) (pv 1)) (λ_ _ _ _ _=>.nil) (λ_ _ _ _ _=>(Al ((Yj T).mono Ap) W U T.Jl.m T.Jl.F.kp T.Jl.b .nil Aq (Aa (Bw JR (pv 0) (pv 1) (λ_ _=>rfl)) Ab)))) Ab))))))))),?_⟩;have Y:sizeLine=16777216:=yA;have B:=C.n40;have r:=C.m40;refine⟨_,U,U,_,U,?_⟩;rw[ApM];by_cases N:z=upW
 ·subst N;refine Gq U ?_;refine⟨_,U,a,vS x,U,v,(by rw[Be];omega),λl p=>?_⟩;rw[show(vS x).reverse=vS x.reverse by unfold vS;rw[List.map_reverse]];exact k l x.reverse _ (.upd p) p Ae U
 refine Ea (Rj N) ?_;refine⟨_,U,U,_,U,?_⟩;rw[ApL];by_cases O:z=miW
 ·subst O;refine Gq U ?_;refine⟨_,U,_,U,⟨_,v⟩,Dk (K:=K) (a:=a) (xs:=vS x) (λi ys H2=>Ba H H2/\ys=vS ((x.take i).map List.reverse)) ⟨.refl _,U⟩ ?_ ?_ ?_ ?_⟩
  ·rintro i ys H2 hi ⟨d,rfl⟩;refine⟨d.seq v,?_⟩;rw[Be,AvK,AvW];omega
  ·rw[Be];exact Cm B
  ·rintro i X ys H2 hi I ⟨d,rfl⟩;obtain⟨u,s,rfl⟩:=HF I;have f:=C.hm u (AvX s);refine Eo.no ?_;refine⟨U,_,U,_,U,(by rw[Aw,f];omega),λq hq=>?_⟩;have Z:((tx u).cps.toList.reverse.map λc=>V.str ⟨#[c]⟩)=vS (u.reverse.map λc=>[c]):=by
    rw[Fw];unfold vS;rw[Aw0];rfl
   rw[Z];obtain⟨H3,L,J,G⟩:=nu9 (o:=.lst (vS (u.reverse.map λc=>[c]))) d hq;rw[L];have y:(u.reverse.map λc=>[c]).flatten=u.reverse:=(Qs id u.reverse).trans (Aw8 _);refine⟨_,_,((u.reverse.map λc=>[c]).map tx),U,U,SqL.of (by rw[G,Gr]),(by rw[Ip,y,Awr,AfA,f,AwT];omega),?_⟩;rw[AfB,GF,y];refine CN.of hi ⟨J,?_⟩;rw[Dv,AvT,s,AvO];rfl
  ·rintro ys H2 l ⟨d,rfl⟩ p;rw[Be,Awa];exact k l _ _ (d.new p) (d.free p) Ae U
 refine Ea (Rj O) ?_;refine⟨_,U,U,_,U,?_⟩;rw[ApN];by_cases R:z=baW
 ·subst R;refine Gq U ?_;refine⟨_,U,_,U,⟨_,v⟩,Dk (K:=K) (a:=a) (xs:=vS x) (λi ys H2=>Ba H H2/\ys=vS (back (x.take i))) ⟨.refl _,U⟩ ?_ ?_ ?_ ?_⟩
  ·rintro i ys H2 hi ⟨d,rfl⟩;refine⟨d.seq v,?_⟩;unfold back;rw[Be,AvK,AvW];omega
  ·rw[Be];exact Cm B
  ·rintro i X ys H2 hi I ⟨d,rfl⟩;obtain⟨u,s,rfl⟩:=HF I;have f:=C.hm u (AvX s);refine Eo.no ?_;refine⟨U,_,U,_,U,(by rw[Aw,f];exact Cm r),?_⟩;refine Aky (z:=tx u) (λj ys H3=>H3=H2/\ys=vS (((u.reverse.take j).map flip).map λc=>[c])) ⟨U,U⟩ ?_ ?_ ?_ ?_
   ·rintro j ys H3 A ⟨rfl,rfl⟩;rw[Be,AvK,AvK,AvW];omega
   ·rw[Jr,f];exact Cm r
   ·rintro j c ys H3 A hc ⟨rfl,rfl⟩;refine Eo.no ?_;rw[Jr] at A hc;rw[V2] at hc;refine⟨_,U,c,U,?_⟩;rw[Jr];refine CN.of A ⟨U,?_⟩;rw[Dv,AvT,Axg A,hc,AvO,AvO];rfl
   ·rintro ys H3 l ⟨rfl,rfl⟩ p;rw[Jr,show u.reverse.take u.length=u.reverse from Aws (by rw[Awr];exact AvN _)];obtain⟨H4,L,J,G⟩:=nu9 (o:=.lst (vS ((u.reverse.map flip).map λc=>[c]))) d p;rw[L];have y:((u.reverse.map flip).map λc=>[c]).flatten=u.reverse.map flip:=(Qs id (u.reverse.map flip)).trans (Aw8 _);refine⟨_,_,(((u.reverse.map flip).map λc=>[c]).map tx),U,U,SqL.of (by rw[G,Gr]),(by rw[Ip,y,AvK,Awr,AfA,f,AwT];omega),?_⟩;rw[AfB,GF,y];refine CN.of hi ⟨J,?_⟩;unfold back;rw[Dv,AvT,s,AvO];rfl
  ·rintro ys H2 l ⟨d,rfl⟩ p;rw[Be,Awa];exact k l _ _ (d.new p) (d.free p) Ae U
 refine Ea (Rj R) ?_;have c4:z=quW:=by
  rcases hz with h | h | h | h
  ·exact absurd h O
  ·exact absurd h N
  ·exact absurd h R
  ·exact h
 subst c4;obtain⟨u0,S,D⟩:=C.at C.n1;refine⟨_,U,_,_,_,_,U,U,v,Aai (i:=0) S,_,U,(by rw[Aw,D];exact Cm r),_,U,At,(by rw[Aw,D];omega),?_⟩;rw[Aw,D,AvZ];refine Gp (lo:=0) (n:=wdt x) (λi ys H2=>Ba H H2/\ys=vS ((List.range i).map λe=>(col x e).map flip)) ⟨.refl _,U⟩ ?_ ?_ ?_ ?_
 ·rintro i ys H2 hi ⟨d,rfl⟩;rw[Be,AvK,Awp];exact AvN _
 ·exact Cm r
 ·rintro i ys H2 hi ⟨d,rfl⟩;refine Eo.no ?_;have cl:(col x i).length=x.length:=by unfold col;rw[AvK]
  refine⟨U,_,U,_,U,⟨_,d.seq v⟩,Dk (K:=K) (a:=a) (xs:=vS x) (λj ys H3=>H3=H2/\ys=vS ((((col x i).take j).map flip).map λc=>[c])) ⟨U,U⟩ ?_ ?_ ?_ ?_⟩
  ·rintro j ys H3 A ⟨rfl,rfl⟩;refine⟨d.seq v,?_⟩;rw[Be,AvK,AvK,AvW];omega
  ·rw[Be];exact Cm B
  ·rintro j X ys H3 A I ⟨rfl,rfl⟩;obtain⟨u,s,rfl⟩:=HF I;have f:=C.hm u (AvX s);have M:i<u.length:=by rw[f];exact hi
   refine Eo.no ?_;refine⟨_,U,_,U,_,_,u[i],U,U,(by rw[Aw,f];exact Cm r),BL At (by rw[z0,Fw];exact AvM M),u[i],U,?_⟩;refine CN.of A ⟨U,?_⟩;have ec:(col x i)[j]?=some u[i]:=by
    unfold col;rw[AvS,s];show some (u.getD i 0)=_;rw[Awv,AvM M];rfl
   rw[Dv,AvT,ec,AvO,AvO];rfl
  ·rintro ys H3 l ⟨rfl,rfl⟩ p;rw[Be,Aws (by rw[cl];exact AvN _)];obtain⟨H4,L,J,G⟩:=nu9 (o:=.lst (vS (((col x i).map flip).map λc=>[c]))) d p;rw[L];have y:(((col x i).map flip).map λc=>[c]).flatten=(col x i).map flip:=(Qs id ((col x i).map flip)).trans (Aw8 _);refine⟨_,_,((((col x i).map flip).map λc=>[c]).map tx),U,U,SqL.of (by rw[G,Gr]),(by rw[Ip,y,AvK,cl,AfA,AwT];omega),?_⟩;rw[AfB,GF,y];refine CN.of hi ⟨J,?_⟩;rw[Dv,Aw1,AvO];rfl
 ·rintro ys H2 l ⟨d,rfl⟩ p;exact k l _ _ (d.new p) (d.free p) Ae U
inductive Aoa (K:NF)(vs:Na)(H:Hp)(Q:VK)(z3:XK):Prop
|mk(a:Addr)(b:Addr)(x:NN)(y:NN)(_:vs=[.ref a,.ref b])(_:SqL K H a (vS x))(_:SqL K H b (vS y))(_:Clo x)(_:Cl y (wdt x) x.length)(_:∀ l H',Ba H H'->H l=none->H' l=some (.lst (vS (ld2 x y)))->Q (.ref l) H')
theorem Ahj(T:Txt K mg t):Bh P w K mg base CX0 1 t.AbP t.AbQ ["one", "other"] (Aoa K):=by
 refine T.Xy.F.ok RL ?_;rintro _ _ _ _ H _ Q E hr ⟨a,b,x,y,rfl,hA,hB,C,D,k⟩;refine⟨_,(Ac (Bb (i:=2) RL.nd U (Or.inl U) (Cu Ab))
  (Ac (Ep PassesOwn.never U (Em U T.Fj (Aa (Az (Ax (K:=K)) U T.Ca Bv (Aa (pv 0) Ab)) Ab)) (BJ (i:=3) RL.nd U (Or.inl U))
   (Ac (Bg (BR (K:=K) zM zL zQ DY (pv 2) (Aa (BR (K:=K) zI zS zV (DR (K:=K)) Af (Aa (De (CP.mk (Bj:=[]) (Nc:=["sign"]) U As As (Cr (sc0:=Ag Qe) U As) U rfl U As (λ_ _ h=>by simp at h)) U (V1 (Bw (Bf (K:=K)) (pv 0) (pv 3) (λ_ _=>rfl))) (λ_ _ _ _ _=>.nil) (λ_ _ _ _ _=>(Aj Am (pv 0) Af))) Ab)) Ab)))
   (Ad (Bg (BR (K:=K) zM zL zQ DY (pv 2) (Aa (BR (K:=K) zI zS zV (DR (K:=K)) Af (Aa (De (CP.mk (Bj:=[]) (Nc:=["sign"]) U As As (Cr (sc0:=Ag Qe) U As) U rfl U As (λ_ _ h=>by simp at h)) U (V1 (Bw (Bf (K:=K)) (pv 1) (pv 3) (λ_ _=>rfl))) (λ_ _ _ _ _=>.nil) (λ_ _ _ _ _=>(Aj Am Af (pv 0)))) Ab)) Ab))))))
  (Ad (Ay (pv 2))))),?_⟩;rw[AfB];have a0:sizeLine=16777216:=yA;have a1:=C.n40;have v:=C.m40;have zl:(x.zip y).length=x.length:=by rw[List.length_zip,D.hn,AwR]
 refine⟨AvV _,λq J=>?_⟩;have s1:Ba H (upd H q (.lst [])):=.upd J;have B:(upd H q (.lst [])) q=some (.lst (vS [])):=Ae;generalize upd H q (.lst [])=H1 at s1 B ⊢;refine⟨_,U,_,_,U,.inl (s1.seq hA),_,U,At,(by rw[Be];omega),?_⟩;rw[Be,AvZ];refine I9 (lo:=0) (n:=x.length) (λj σ H3=>∃(Y:Option V),σ=[some (.ref a),some (.ref b),some (.ref q),Y]/\Ba H H3/\H3 q=some (.lst (vS (((x.zip y).take j).flatMap λq=>[ldA q.1,ldB q.2])))) ⟨none,U,s1,B⟩ ?_ ?_
 ·rintro j σ H3 S ⟨Y,rfl,G,d⟩;have A:j<y.length:=by rw[D.hn];exact S
  have ex:=AvM S;have R:=AvM A;have wx:=C.hm _ (Awh S);have wy:=D.hm _ (Awh A);have X:(x.zip y)[j]?=some (x[j],y[j]):=List.getElem?_zip_eq_some.mpr ⟨ex,R⟩;generalize x[j]=f at ex wx X;generalize y[j]=m at R wy X;have lz:(((x.zip y).take j).flatMap λq=>[ldA q.1,ldB q.2]).length<=80:=by
   rw[Ld (h:=2) _ λq _=>rfl,AvW];omega
  generalize ew:(((x.zip y).take j).flatMap λq=>[ldA q.1,ldB q.2])=s at d lz;have en:((x.zip y).take (j+1)).flatMap (λq=>[ldA q.1,ldB q.2])=s++[ldA f,ldB m]:=by
   rw[AvT,X,List.flatMap_append,ew];rfl
  refine⟨_,U,.inl ⟨U,_,SqL.of d⟩,U,_,U,_,U,_,_,_,_,U,U,G.seq hA,(by rw[Aw3];exact Aai ex),_,U,Wb (z:=tx f) (λe ys I=>I=H3/\ys=vS ((f.take e).map λc=>[c,46])) ⟨U,U⟩ ?_ ?_ ?_ ?_⟩
  ·rintro e ys I u ⟨rfl,rfl⟩;rw[Be,AvK,AvW];omega
  ·rw[Jr,wx];exact Cm v
  ·rintro e cc ys I u l ⟨rfl,rfl⟩;rw[V2] at l;refine Eo.no ?_;rw[show(("." : Str))=tx [46] from As];refine⟨_,U,_,_,U,U,(by rw[Ha,Aw,Aw];exact big (by show 2<=1000000;decide)),?_⟩;rw[Ha,Bs];refine CN.of u ⟨U,?_⟩;rw[Dv,AvT,l,AvO];rfl
  ·rintro ys I p ⟨rfl,rfl⟩ np;rw[Jr,Awa];obtain⟨M,W,s5,h5⟩:=nu9 (o:=.lst (vS (f.map λc=>[c,46]))) (.refl _) np;rw[W];have ef:(f.map λc=>[c,46]).flatten=ldA f:=by unfold ldA;rw[List.flatMap_def]
   have la:=Aj9 f;refine⟨_,_,((f.map λc=>[c,46]).map tx),U,U,SqL.of (by rw[h5,Gr]),(by rw[Ip,ef,Aw,Awn,AwT];omega),?_⟩;rw[GF,ef];refine⟨_,_,_,U,U,s5 _ _ d,(by rw[Be];omega),?_⟩;rw[Dv];have O:Ba H (upd M q (.lst (vS (s++[ldA f])))):=(G.trans s5).over J;have r:(upd M q (.lst (vS (s++[ldA f])))) q=some (.lst (vS (s++[ldA f]))):=Ae;generalize upd M q (.lst (vS (s++[ldA f])))=H6 at O r ⊢;refine⟨_,U,.inl ⟨U,_,SqL.of r⟩,U,_,U,_,U,_,_,_,_,U,U,O.seq hB,(by rw[Aw3];exact Aai R),_,U,Wb (z:=tx m) (λe ys L=>L=H6/\ys=vS ((m.take e).map λc=>[35,c])) ⟨U,U⟩ ?_ ?_ ?_ ?_⟩
   ·rintro e ys L u ⟨rfl,rfl⟩;rw[Be,AvK,AvW];omega
   ·rw[Jr,wy];exact Cm v
   ·rintro e cc ys L u l ⟨rfl,rfl⟩;rw[V2] at l;refine Eo.no ?_;rw[show(("#" : Str))=tx [35] from As];refine⟨_,U,_,_,U,U,(by rw[Ha,Aw,Aw];exact big (by show 2<=1000000;decide)),?_⟩;rw[Ha,Bs];refine CN.of u ⟨U,?_⟩;rw[Dv,AvT,l,AvO];rfl
   ·rintro ys L p7 ⟨rfl,rfl⟩ N;rw[Jr,Awa];obtain⟨H8,W,s8,h8⟩:=nu9 (o:=.lst (vS (m.map λc=>[35,c]))) (.refl _) N;rw[W];have Z:(m.map λc=>[35,c]).flatten=ldB m:=by unfold ldB;rw[List.flatMap_def]
    have lb:=AjA m;refine⟨_,_,((m.map λc=>[35,c]).map tx),U,U,SqL.of (by rw[h8,Gr]),(by rw[Ip,Z,Aw,Awn,AwT];omega),?_⟩;rw[GF,Z];refine⟨_,_,_,U,U,s8 _ _ r,(by rw[Be,AvL];exact Awd (show s.length+1<1000 by omega) Ap),?_⟩;rw[Dv];refine⟨_,U,(O.trans s8).over J,?_⟩;rw[Ae,en,Awj];rfl
 ·rintro σ H3 ⟨Y,rfl,G,d⟩;rw[Aws (by rw[zl];exact AvN _)] at d;exact⟨_,U,k q H3 G J d⟩
end
def nmT (w k:Nat):NI:=match w with
 | 0=>[111,111,97+k%26,97+k / 26%26]
 | 1=>[97+k%26,97+k / 26%26,111,111]
 | _=>[111,97+k%26,97+k / 26%26,111]
theorem Aob:∀ w∈List.range 3,∀ k∈List.range 61,Pat.isName (nmT w k)=true:=As
theorem Aqn:∀ w∈List.range 3,∀ j∈List.range 61,∀ k∈List.range 61,nmT w j=nmT w k->j=k:=As
theorem AjB{w:Nat}(hw:w<3)(hk:k<61):Pat.isName (nmT w k)=true:=Aob w (yH.mpr hw) k (yH.mpr hk)
theorem Asr{w:Nat}(hw:w<3)(a:j<61)(hk:k<61)(e:nmT w j=nmT w k):j=k:=Aqn w (yH.mpr hw) j (yH.mpr a) k (yH.mpr hk) e
theorem Aoc{w:Nat}:(nmT w k).length=4:=by unfold nmT;split <;> rfl
structure Kno (kn:Kns):Prop where
 n:∀ p∈kn,Pat.isName p.1=true/\p.1.length=4
 c:∀ p∈kn,Clo p.2
 k:∀ p∈kn,known kn p.1=.ok p.2
theorem Aod{kn:Kns}(h:∀ p∈kn,¬p.1=z):known kn z=.no .unk:=by unfold known;rw[List.find?_eq_none.mpr λp a=>by simpa using h p a]
theorem Kno.add{kn:Kns}(K:Kno kn)(b:Pat.isName z=true/\z.length=4)(d:∀ p∈kn,¬p.1=z)(C:Clo x):Kno (kn++[(z,x)]):=by
 refine⟨λp a=>?_,λp a=>?_,λp a=>?_⟩
 ·rcases zG.mp a with h | h
  ·exact K.n p h
  ·rw[zF.mp h];exact b
 ·rcases zG.mp a with h | h
  ·exact K.c p h
  ·rw[zF.mp h];exact C
 ·unfold known;rcases zG.mp a with h | h
  ·have:= K.k p h;unfold known at this;cases e:kn.find? λq=>decide (q.1=p.1) with
   | none=>simp_all
   | some q=>grind
  ·grind
structure PtO (kn:Kns)(u:NI)(x:NN):Prop where
 r:(rdp kn u).1=.ok x/\∀ x,Pat.whole u=some x->Nsb 12 x
 c:Clo x
 f:∃ c v,u=c::(v++[41])/\c≠32/\v.length<=300
theorem Aoe(W:Wd 12 nd)(h:Wt nd u)(n:Nsb 12 nd):∀ x,Pat.whole u=some x->Nsb 12 x:=λx e=>by
 have:= Ag4 (g:=0) W h;rw[show bl 0++u=u from U,e] at this;cases this;exact n
theorem AaO:Nsb d (.nam z):=by cases d <;> trivial
theorem AaP:Nsb d (.num n):=by cases d <;> trivial
theorem AfC{r:NI}:Nsb d (.run r):=by cases d <;> trivial
theorem Ahk{kn:Kns}(W:Wd 12 nd)(h:Wt nd u)(n:Nsb 12 nd)(e:out kn 12 nd=.ok x):(rdp kn u).1=.ok x/\∀ x,Pat.whole u=some x->Nsb 12 x:=by refine⟨?_,Aoe W h n⟩;have:= AmL (kn:=kn) (g:=0) W h;rw[show bl 0++u=u from rfl] at this;rw[this];exact e
theorem Ahl:∀{r:NI} {rs:NN},WtL ((r::rs).map Nd.run) (jnS [44,32] (r::rs))
 | r,[]=>by
  have:= WtL.one (Wt.run (r:=r) (g:=0));rw[show r++bl 0=r from Awo r] at this;exact this
 | r,s::rs=>by
  have:= WtL.cons (g:=1) (Wt.run (r:=r) (g:=0)) (Ahl (r:=s) (rs:=rs));rw[show r++bl 0=r from Awo r] at this;exact this
theorem Alm{kn:Kns}{rs:NN}(C:Clo rs):out kn (d+1) (.node Pat.FQ (rs.map Nd.run))=.ok rs/\Wd (d+1) (.node Pat.FQ (rs.map Nd.run)):=by
 have a:rs≠[]:=λe=>by have:= C.n1;rw[e] at this;simp at this
 have b:∀ r∈rs,r≠[]/\∀ c∈r,Sg c:=λr h=>⟨λe=>by have:= C.hm r h;have:= C.m1;rw[e] at *;simp at *;lia,C.sg r h⟩;refine⟨?_,.rows a C.n40 b⟩;show(match args (out kn d) (wr d) (rs.map Nd.run) with | .inl f=>_ | .inr as=>_)=_;rw[Yy];show made Pat.FQ (rs.map Arg.run)=_;unfold made;rw[if_pos U,Yz];unfold Aby;have e:((rs.map λr=>decide (¬r.length=wdt rs)).any id)=false:=by
  rw[Axq,Axs];intro r h;simp[C.hm r h]
 rw[e,if_neg (λz=>nomatch z),if_neg (by have:=C.m40;have:=C.n40;omega)]
theorem AaQ(sp:NI):∀ us:NN,(jnS sp us).length<=(us.map λu=>u.length+sp.length).sum
 | []=>AvN _
 | [u]=>by simp[jnS]
 | u::v::r=>by
  have:= AaQ sp (v::r);show(u++(sp++jnS sp (v::r))).length<=_;rw[AvL,AvL,AvU,Aw7];lia
theorem Aqo{kn:Kns}{rs:NN}(C:Clo rs)(b:rs.length<=4)(e:∀ r∈rs,r.length<=4):PtO kn (Pat.FQ++(40::(jnS [44,32] rs++[41]))) rs:=by
 refine⟨?_,C,114,[111,119,115,40]++jnS [44,32] rs,U,Ap,?_⟩
 ·obtain⟨r,a,rfl⟩:∃ r a,rs=r::a:=by
   cases rs with
   | nil=>have:= C.n1;simp at this
   | cons r a=>exact⟨r,a,U⟩
  have o:=Alm (kn:=kn) (d:=11) C;exact Ahk o.2 (Wt.node (g1:=0) (g2:=0) (g3:=0) Ahl) ⟨Ap,λx c=>by obtain⟨r,_,rfl⟩:=yF.mp c;exact AfC⟩ o.1
 ·have this:(jnS [44,32] rs).length<=(rs.map λu=>u.length+2).sum:=AaQ _ _;have s:(rs.map λu=>u.length+2).sum<=rs.length*6:=by
   clear this b C
   induction rs with
   | nil=>exact AvN _
   | cons r rs f =>
    grind
  rw[AvL];show 4+_<=_;lia
theorem Nj(h:n<100):(dec n).length<=2:=(dec_is h).l2
theorem Aof{kn:Kns}{a b:Nat}(i:1<=a)(d:a<=4)(j:1<=b)(f:b<=4):PtO kn (twW++(40::(dec a++(44::(dec b++[41]))))) ((List.range (a+b)).map (twT a b)):=by
 have e:PK a b=.ok ((List.range (a+b)).map (twT a b)):=by
  unfold PK;rw[if_neg At,if_neg At]
 refine⟨?_,AdF e,116,[119,105,108,108,40]++(dec a++(44::dec b)),?_,Ap,?_⟩
 ·have h:=Wt.node (z:=twW) (g1:=0) (g2:=0) (g3:=0) (WtL.cons (g:=0) (Wt.num (n:=a) (g:=0)) (WtL.one (Wt.num (n:=b) (g:=0))));have:= Ahk (kn:=kn) (Wd.nums (.inl U) At At) h ⟨Ap,λx c=>by simp only [Awb,Awc,or_false] at c;rcases c with rfl | rfl <;> exact AaP⟩ e
  simpa [bl] using this
 ·simp[twW]
 ·have:= Nj (show a<100 by omega);have:= Nj (show b<100 by omega);simp;lia
theorem AaR{kn:Kns}(h:known kn z=.ok x):arg (out kn d) (wr d) (.nam z)=.inr (.cl x z):=by
 unfold arg
 try dsimp only
 rw[AeH,h,AhP]
theorem Ai1{kn:Kns}{n2:NI}{y r:NN}{g:Nat}(K:Kno kn)(b:z=beW\/z=abW\/z=laW)(h1:(n1,x)∈kn)(h2:(n2,y)∈kn)(e:made z [.cl x n1,.cl y n2]=.ok r)(C:Clo r)(j:g<=1)(hk:k<=1):PtO kn (z++(40::(bl g++(n1++(44::(n2++(bl k++[41]))))))) r:=by
 refine⟨?_,C,?_⟩
 ·have h:=Wt.node (z:=z) (g1:=0) (g2:=g) (g3:=0) (WtL.cons (g:=0) (Wt.nam (z:=n1) (g:=0)) (WtL.one (Wt.nam (z:=n2) (g:=k))));have W:Wd 12 (.node z [.nam n1,.nam n2]):=.two b (.nam (K.n _ h1).1) (.nam (K.n _ h2).1);have o:out kn 12 (.node z [.nam n1,.nam n2])=.ok r:=by
   show(match args (out kn 11) (wr 11) [.nam n1,.nam n2] with | .inl f=>_ | .inr as=>_)=_;unfold args;rw[AaR (K.k _ h1)];unfold args;rw[AaR (K.k _ h2)];exact e
  have:= Ahk W h ⟨by rcases b with rfl | rfl | rfl <;> decide,λx d=>by simp only [Awb,Awc,or_false] at d;rcases d with rfl | rfl <;> exact AaO⟩ o
  simpa [bl] using this
 ·have l1:=(K.n _ h1).2;have l2:=(K.n _ h2).2;have a:∃ c v,z=c::v/\c≠32/\v.length<=10:=by rcases b with rfl | rfl | rfl <;> exact⟨_,_,U,Ap,Ap⟩
  obtain⟨c,v,rfl,hc,i⟩:=a;refine⟨c,v++(40::(bl g++(n1++(44::(n2++bl k))))),AA,hc,?_⟩;simp only [AvL,AvQ,bl,Awu];dsimp only at l1 l2;lia
theorem Ass{kn:Kns}{r:NN}(K:Kno kn)(a:z=miW\/z=upW\/z=baW\/z=quW)(h1:(n1,x)∈kn)(e:AhN z x=.ok r):PtO kn (z++(40::(n1++[41]))) r:=by
 refine⟨?_,Wu (K.c _ h1) e,?_⟩
 ·have h:=Wt.node (z:=z) (g1:=0) (g2:=0) (g3:=0) (WtL.one (Wt.nam (z:=n1) (g:=0)));rw[show n1++bl 0=n1 from Awo _] at h;have W:Wd 12 (.node z [.nam n1]):=.one a (.nam (K.n _ h1).1);have o:out kn 12 (.node z [.nam n1])=.ok r:=by
   show(match args (out kn 11) (wr 11) [.nam n1] with | .inl f=>_ | .inr as=>_)=_;unfold args;rw[AaR (K.k _ h1)];show made z [.cl x n1]=_;rw[<- e];rcases a with rfl | rfl | rfl | rfl <;> rfl
  have:= Ahk W h ⟨by rcases a with rfl | rfl | rfl | rfl <;> decide,λx d=>by rw[zF.mp d];exact AaO⟩ o
  simpa [bl] using this
 ·have l1:=(K.n _ h1).2;have b:∃ c v,z=c::v/\c≠32/\v.length<=10:=by rcases a with rfl | rfl | rfl | rfl <;> exact⟨_,_,U,Ap,Ap⟩
  obtain⟨c,v,rfl,hc,i⟩:=b;refine⟨c,v++(40::n1),AA,hc,?_⟩;grind
theorem Aqp{kn:Kns}{r:NN}{a:Nat}(K:Kno kn)(h1:(n1,x)∈kn)(b:a<100)(e:Zu x a 1=.ok r):PtO kn (tiW++(40::(n1++(44::(dec a++(44::(dec 1++[41]))))))) r:=by
 refine⟨?_,Ag3 (K.c _ h1) e,116,[105,108,101,40]++(n1++(44::(dec a++(44::dec 1)))),by simp[tiW],Ap,?_⟩
 ·have h:=Wt.node (z:=tiW) (g1:=0) (g2:=0) (g3:=0) (WtL.cons (g:=0) (Wt.nam (z:=n1) (g:=0)) (WtL.cons (g:=0) (Wt.num (n:=a) (g:=0)) (WtL.one (Wt.num (n:=1) (g:=0)))));have W:Wd 12 (.node tiW [.nam n1,.num a,.num 1]):=.tile (.nam (K.n _ h1).1) b Ap;have o:out kn 12 (.node tiW [.nam n1,.num a,.num 1])=.ok r:=by
   show(match args (out kn 11) (wr 11) [.nam n1,.num a,.num 1] with | .inl f=>_ | .inr as=>_)=_;unfold args;rw[AaR (K.k _ h1)];exact e
  have:= Ahk W h ⟨Ap,λx d=>by simp only [Awb,Awc,or_false] at d;rcases d with rfl | rfl | rfl;exact AaO;exact AaP;exact AaP⟩ o
  simpa [bl] using this
 ·have l1:=(K.n _ h1).2;have:= Nj b;have:= Nj (show 1<100 by decide);simp only [AvL,AvQ,Awn];dsimp only at l1;lia
theorem Aog(g:Nat)(u:NI):(bl g++u).dropWhile (λc=>decide (c=32))=u.dropWhile λc=>decide (c=32):=by
 induction g with
 | zero=>rfl
 | succ g a =>
  show((32::bl g)++u).dropWhile _=_;exact a
theorem Ast(g:Nat):(bl g).reverse=bl g:=List.reverse_replicate
theorem Qq(g k:Nat)(u:NI):trim (bl g++(u++bl k))=trim u:=by
 unfold trim;rw[Aog,List.dropWhile_append];split
 ·rename_i h;have e:u.dropWhile (λc=>decide (c=32))=[]:=by simpa using h
  rw[e];have:= Aog k [];rw[Awo] at this;rw[this];rfl
 ·rw[List.reverse_append,Ast,Aog]
def En (u:NI):Prop:=u.head?≠some 32/\u.getLast?≠some 32
theorem En.t(h:En u):trim u=u:=Aqi h.1 h.2
theorem Aoh(hc:c≠32)(a:d≠32):En (c::(v++[d])):=⟨by simpa using hc,by rw[<- Awy,AwX];simpa using a⟩
theorem En.app(d:En u)(b:En v)(nu:u≠[])(c:v≠[]){x:NI}:En (u++(x++v)):=by
 refine⟨?_,?_⟩
 ·cases u with
  | nil=>exact absurd U nu
  | cons a u=>exact d.1
 ·rw[AwX,AwX];cases e:v.getLast? with
  | none=>exact absurd (List.getLast?_eq_none_iff.mp e) c
  | some a =>
   have:= b.2;rw[e] at this
   simpa using this
structure Nm (z:NI):Prop where
 n:Pat.isName z=true
 l:z.length=4
theorem Nm.let(N:Nm z):z≠[]/\∀ c∈z,97<=c/\c<=122:=by have:= PX N.n;exact⟨this.1,λc hc=>of_decide_eq_true (this.2 c hc)⟩
theorem Nm.en(N:Nm z):En z:=⟨λe=>by have:= N.let.2 32 (List.mem_of_head? e);omega,λe=>by have:= N.let.2 32 (List.mem_of_getLast? e);omega⟩
theorem Nm.sep(N:Nm z)(g:Nat):∀ x∈z++bl g,¬Sep x:=λx a h=>by
 rcases zG.mp a with a | a
 ·have:= N.let.2 x a
  unfold Sep at h;lia
 ·rw[V6 a] at h;unfold Sep at h;lia
theorem Nm.tr(N:Nm z)(g:Nat):trim (z++bl g)=z:=(Qq 0 g z).trans N.en.t
theorem Aoi{kn:Kns}{g:Nat}{o:Lo}(N:Nm z)(hc:Sep c)(a:En b)(h:LnP kn z c b o):LnO kn (z++(bl g++(c::(bl k++b)))) z o:=by
 have d:trim (bl k++b)=b:=by
  have:= Qq k 0 b;rw[show b++bl 0=b from Awo _] at this;rw[this,a.t]
 have:= LnO.line (b:=bl k++b) (N.sep g) hc (by rw[N.tr g,d];exact h);rw[N.tr g,Awj] at this;exact this
theorem Auh(ws:NN):ws.length<=(jnS [32,47,32] ws).count 47+1:=by
 induction ws with
 | nil=>exact AvV _
 | cons w r a =>
  cases r with
  | nil=>simp
  | cons v r =>
   have e:(jnS [32,47,32] (w::v::r)).count 47=w.count 47+(1+(jnS [32,47,32] (v::r)).count 47):=by
    show(w++([32,47,32]++jnS [32,47,32] (v::r))).count 47=_;rw[Axp,Axp];rfl
   rw[e,AvQ];lia
theorem AfD(h:u.count 47<=1):DrO u (.no "NoDraft"):=.part λws _ e _ l=>by
 have:= Auh ws;rw[e] at this;lia
def rcN (ns:NI):Rc:=⟨Dp ns, "", ofN ns⟩
theorem Aoj:∀{ns:NI} {c:Nat},(∀ n∈ns,n<100)->c∈mT ns->c=32\/48<=c/\c<=57
 | [],c,_,h=>by simp[mT] at h
 | n::r,c,h,hc=>by
  rcases yG.mp hc with z | z
  ·exact .inl z
  ·rcases zG.mp z with z | z
   ·exact .inr ((dec_is (h n AvP)).dg c z)
   ·exact Aoj (λm a=>h m (AvR _ a)) z
theorem Yk(h:∀ n∈ns,n<100)(hc:c∈Dp ns):c=32\/48<=c/\c<=57:=by
 cases ns with
 | nil=>simp[Dp] at hc
 | cons n r =>
  rcases zG.mp hc with z | z
  ·exact .inr ((dec_is (h n AvP)).dg c z)
  ·exact Aoj (λm a=>h m (AvR _ a)) z
theorem Aok:∀{ns:NI},(∀ n∈ns,n<100)->(mT ns).length<=3*ns.length
 | [],_=>AvN _
 | n::r,h=>by
  have:= Aok λm a=>h m (AvR _ a);have d:=(dec_is (h n AvP)).l2;rw[mT,AvQ,AvL,AvQ];lia
theorem Mr(h:∀ n∈ns,n<100):(Dp ns).length<=3*ns.length:=by
 cases ns with
 | nil=>exact AvN _
 | cons n r =>
  have:= Aok λm a=>h m (AvR _ a);have d:=(dec_is (h n AvP)).l2;rw[Dp,AvL,AvQ];lia
theorem Ac2(h:∀ n∈ns,n<100)(d:ns.length<=40):(rcN ns).Ok:=by
 have f:=Mr h;have no:∀ c,c=47\/c=44->c∉Dp ns:=λc hc a=>by have:= Yk h a;lia
 exact⟨.good (Aqe h At),⟨Af4 (no _ (.inl U)),Af5 (no _ (.inr U)),λe=>no _ (.inl U) (AvX e),by show(Dp ns).length<=_;lia⟩,by show(ofN ns).length<=_;unfold ofN;rw[AvK];omega,λz b=>by
  obtain⟨n,hn,rfl⟩:=yF.mp b;grind⟩
theorem Aol(h:decide (u=[])=false/\acc .start 0 u=false)(h1:47∉u)(h2:44∉u)(b:u.length<=100):(Rc.mk u "NoRow" []).Ok :=
 ⟨.no (λz=>z.elim (λe=>AB) (λe=>AB)),⟨Af4 h1,Af5 h2,λe=>h1 (AvX e),AD⟩,AvV _,λz a=>by cases a⟩
def Ai2:NI:=[57,42,40,57,42,40,57,42,40,48,41,41,41]
theorem rw_big9:Rw Ai2 [.tms 9 [.tms 9 [.tms 9 [.pth (ofN [0])]]]]:=by
 refine⟨.inr Ap,λx b=>?_,.inr ⟨Ap,_,[],[],U,?_,RIm.nil AA⟩⟩
 ·rw[zF.mp b];refine⟨Ap,Ap,AA,AA,λy a=>?_⟩;rw[zF.mp a];refine⟨Ap,Ap,AA,AA,λy a=>?_⟩;rw[zF.mp a];refine⟨Ap,Ap,AA,AA,λy a=>?_⟩;rw[zF.mp a];exact AnQ Ap
 ·refine⟨Ap,[57,42,40,57,42,40,48,41,41,41],_,[],[41],U,U,?_,RIm.nil AA⟩;refine⟨Ap,[57,42,40,48,41,41,41],_,[],[41,41],U,U,?_,RIm.nil AA⟩;refine⟨Ap,[48,41,41,41],_,[],[41,41,41],U,U,?_,RIm.nil AA⟩;exact⟨Ap,[],U,PTr.stop Ap⟩
theorem Asu:(Rc.mk Ai2 "TooLarge" []).Ok :=
 ⟨.big ⟨_,rw_big9,Ap⟩,⟨Af4 Ap,Af5 Ap,Ap,Ap⟩,AvV _,λz a=>by cases a⟩
theorem AjC{a:Rc}(b:r0.Ok)(h1:a.Ok)(h2:r2.Ok):D3 r0 [a] r2:=⟨b,AA,AA,λr c=>by rw[zF.mp c];exact h1,h2⟩
theorem rc0:(rcN [0]).Ok:=Ac2 Ap Ap
theorem Asv:(rcN [0,1]).Ok:=Ac2 Ap Ap
theorem Aom:DrO [48,32,49,32,47,32,48,32,47,32,48,32,49] (.no "NoDraft"):=by
 have e:[48,32,49,32,47,32,48,32,47,32,48,32,49]=drT (rcN [0,1]) [rcN [0]] (rcN [0,1]):=As
 refine .bad (AjC Asv rc0 Asv) As λF=>?_;have:= (F.htr 1 Ap).2;exact absurd this Ap
theorem Aui:DrO [48,32,48,49,32,47,32,48,32,47,32,48] (.no "NoRow"):=by
 have e:[48,32,48,49,32,47,32,48,32,47,32,48]=drT ⟨[48,32,48,49], "NoRow", []⟩ [rcN [0]] (rcN [0]):=As
 have f:fwd ⟨[48,32,48,49], "NoRow", []⟩ [rcN [0]] (rcN [0]) = "NoRow" := by decide +kernel
 have:= DrO.no (AjC (Aol (u:=[48,32,48,49]) Ap Ap Ap Ap) rc0 rc0) (by rw[f];decide +kernel);exact this
theorem Asw:DrO ([48,32,47,32,48,32,47,32]++Ai2) (.no "TooLarge"):=by
 have e:[48,32,47,32,48,32,47,32]++Ai2=drT (rcN [0]) [rcN [0]] ⟨Ai2, "TooLarge", []⟩:=As
 have f:fwd (rcN [0]) [rcN [0]] ⟨Ai2, "TooLarge", []⟩ = "TooLarge" := by decide +kernel
 have:= DrO.no (AjC rc0 rc0 Asu) (by rw[f];decide +kernel);exact this
theorem Auj:DrO [48,32,49,32,47,32,48,61,48,32,47,32,48] (.no "NoRow"):=by
 have e:[48,32,49,32,47,32,48,61,48,32,47,32,48]=drT (rcN [0,1]) [⟨[48,61,48], "NoRow", []⟩] (rcN [0]):=As
 have f:fwd (rcN [0,1]) [⟨[48,61,48], "NoRow", []⟩] (rcN [0]) = "NoRow" := by decide +kernel
 have:= DrO.no (AjC Asv (Aol (u:=[48,61,48]) Ap Ap Ap Ap) rc0) (by rw[f];decide +kernel);exact this
structure Flt (kn:Kns)(u:NI)(wd:Str):Prop where
 e:∃ z,LnO kn (trim u) z (.no wd)
 ne:trim u≠[]
 sc:¬(trim u).head?=some 59
 n:10∉u
 l:u.length<=300
 w:wd ≠ ""
theorem Yl{kn:Kns}(h:LnO kn u z (.no wd))(a:En u)(h2:(u≠[]/\¬u.head?=some 59)/\10∉u/\u.length<=300)(w:wd ≠ ""):Flt kn u wd:=by have t:=a.t;exact⟨⟨z,by rw[t];exact h⟩,by rw[t];exact h2.1.1,by rw[t];exact h2.1.2,h2.2.1,h2.2.2,w⟩
theorem Tj(N:Nm z)(h:10∉v/\v.length<=200):(z++v≠[]/\¬(z++v).head?=some 59)/\10∉z++v/\(z++v).length<=300:=by
 have L:=N.let
 refine⟨⟨λe=>L.1 (List.append_eq_nil_iff.mp e).1,λe=>?_⟩,λe=>?_,?_⟩
 ·cases z with
  | nil=>exact L.1 U
  | cons a z =>
   simp_all
 ·rcases zG.mp e with e | e
  ·have:= L.2 10 e;lia
  ·exact h.1 e
 ·rw[AvL,N.l];lia
theorem Jq{kn:Kns}(N:Nm z)(h:LnP kn z c b (.no wd))(hc:Sep c)(a:En b)(nb:b≠[])(d:10∉b/\b.length<=100)(w:wd ≠ ""):Flt kn (z++(32::c::32::b)) wd:=by have L:=Aoi (g:=1) (k:=1) N hc a h;refine Yl L (N.en.app (x:=[32,c,32]) a N.let.1 nb) (Tj N ⟨?_,by simp;lia⟩) w;unfold Sep at hc;grind
theorem AjD{kn:Kns}(N:Nm z)(h:LnP kn z c [] (.no wd))(hc:Sep c)(hk:k<=1)(w:wd ≠ ""):Flt kn (z++(32::c::bl k)) wd:=by
 have L:=Aoi (g:=1) (k:=0) N hc ⟨AA,AA⟩ h;have a:c≠32/\c≠10:=by unfold Sep at hc;lia
 have E:En (z++[32,c]):=N.en.app (x:=[32]) ⟨by simpa using a.1,by simpa using a.1⟩ N.let.1 AA
 have T:trim (z++(32::c::bl k))=z++[32,c]:=by
  have:= Qq 0 k (z++[32,c]);rw[show bl 0++(z++[32,c]++bl k)=z++(32::c::bl k) by simp[bl]] at this;rw[this,E.t]
 have f:=Tj N (v:=[32,c]) ⟨by simp only [Awb,Awc,not_or];exact⟨Ap,λe=>a.2 e.symm,not_false⟩,AA⟩;have b:=Tj N (v:=32::c::bl k) ⟨by
  simp only [Awb,not_or];exact⟨Ap,λe=>a.2 e.symm,λe=>by have:= V6 e;lia⟩,by simp[bl];lia⟩
 exact⟨⟨z,by rw[T];exact L⟩,by rw[T];exact f.1.1,by rw[T];exact f.1.2,b.2.1,b.2.2,w⟩
theorem Ue{kn:Kns}{f:Rf}(N:Nm z)(a:∀ q∈kn,¬q.1=z)(h:(rdp kn u).1=.no f)(hn:∀ x,Pat.whole u=some x->Nsb 12 x):LnP kn z 61 u (.no (wdR f)):=by have:= LnP.pat N.n a hn;rw[h] at this;exact this
theorem Aqq{kn:Kns}{a:NI}(b:z=miW\/z=upW\/z=baW\/z=quW)(N:Nm a)(c:∀ q∈kn,¬q.1=a):(rdp kn (z++(40::(a++[41])))).1=.no .unk/\∀ x,Pat.whole (z++(40::(a++[41])))=some x->Nsb 12 x:=by
 have h:=Wt.node (z:=z) (g1:=0) (g2:=0) (g3:=0) (WtL.one (Wt.nam (z:=a) (g:=0)));rw[show a++bl 0=a from Awo _] at h;have W:Wd 12 (.node z [.nam a]):=.one b (.nam N.n);have o:out kn 12 (.node z [.nam a])=.no .unk:=by
  show(match args (out kn 11) (wr 11) [.nam a] with | .inl f=>_ | .inr as=>_)=_;unfold args arg
  try dsimp only
  rw[AeH,Aod c]
 have:= AmL (kn:=kn) (g:=0) W h;rw[o] at this;have e:bl 0++(z++(bl 0++(40::(bl 0++(a++(41::bl 0))))))=z++(40::(a++[41])):=by simp[bl]
 rw[e] at this;refine⟨by rw[this],?_⟩;have ns:=Aoe W h ⟨by rcases b with rfl | rfl | rfl | rfl <;> decide,λx d=>by rw[zF.mp d];exact AaO⟩;exact ns
def fA:List (NI × Str):=[([114,111,119,115,40,35,41], "NoPattern"),([63,32,61,32,114,111,119,115,40,35,41], "NoPattern"),(miW++[32,61,32,114,111,119,115,40,35,41], "NoPattern")]
def too:NI:=[116,111,111,108,111,110,103,116,111,111,108,111,110,103,116,111,111,108,111,110,103,32,61,32,114,111,119,115,40,35,41]
def Auk:NI:=[98,101,115,105,100,101,40,114,111,119,115,40,35,41,44,114,111,119,115,40,35,44,46,41,41]
def bad2:NI:=[116,119,105,108,108,40,50,48,44,50,49,41]
def Aul:NI:=[98,97,99,107,40,114,111,119,115,40,35,41,41,32,58,32,48]
theorem ns1:∀ x,Pat.whole Auk=some x->Nsb 12 x:=λx e=>by
 have b:some (Nd.node beW [.node Pat.FQ [.run [35]],.node Pat.FQ [.run [35],.run [46]]])=some x:=e;cases b;refine⟨Ap,λy a=>?_⟩;simp only [Awb,Awc,or_false] at a;rcases a with rfl | rfl
 ·exact⟨Ap,λy a=>by rw[zF.mp a];exact AfC⟩
 ·refine⟨Ap,λy a=>?_⟩;simp only [Awb,Awc,or_false] at a;rcases a with rfl | rfl <;> exact AfC
theorem ns2:∀ x,Pat.whole bad2=some x->Nsb 12 x:=λx e=>by
 have b:some (Nd.node twW [.num 20,.num 21])=some x:=e;cases b;refine⟨Ap,λy a=>?_⟩;simp only [Awb,Awc,or_false] at a;rcases a with rfl | rfl <;> exact AaP
theorem ns3:∀ x,Pat.whole Aul=some x->Nsb 12 x:=λx e=>by
 have a:none=some x:=e;cases a
theorem ns0:∀ x,Pat.whole []=some x->Nsb 12 x:=λx e=>by
 have a:none=some x:=e;cases a
def fB (z a:NI):List (NI × Str):=[(too, "NoPattern"),(z++(32::61::32::(miW++(40::(a++[41])))), "Unknown"),(z++(32::61::32::Auk), "NoPattern"),(z++(32::61::32::bad2), "TooLarge"),
 (z++(32::58::32::[48,32,49,32,47,32,48]), "NoDraft"),(z++(32::58::32::[48,32,49,32,47,32,48,32,47,32,48,32,49]), "NoDraft"),
 (z++(32::58::32::[48,32,48,49,32,47,32,48,32,47,32,48]), "NoRow"),(z++(32::58::32::([48,32,47,32,48,32,47,32]++Ai2)), "TooLarge"),
 (z++(32::61::bl 1), "NoPattern"),(z++(32::58::bl 0), "NoDraft"),(z++(32::61::32::(baW++(40::(z++[41])))), "Unknown"),
 (z++(32::58::32::[48,32,49,32,47,32,48,61,48,32,47,32,48]), "NoRow"),(z++(32::58::32::[48,32,61,32,48]), "NoDraft"),
 (z++(32::61::32::Aul), "NoPattern")]
theorem wP:("NoPattern" : Str) ≠ "" := by decide +kernel
theorem wU:("Unknown" : Str) ≠ "" := by decide +kernel
theorem wL:("TooLarge" : Str) ≠ "" := by decide +kernel
theorem wD:("NoDraft" : Str) ≠ "" := by decide +kernel
theorem wR:("NoRow" : Str) ≠ "" := by decide +kernel
theorem wT:("Twice" : Str) ≠ "" := by decide +kernel
theorem Aum{kn:Kns}:∀ p∈fA,Flt kn p.1 p.2:=λp b=>by
 rcases yG.mp b with rfl | b
 ·exact Yl (z:=[]) (.part (by unfold Sep;decide)) AJ Ap wP
 rcases yG.mp b with rfl | b
 ·exact Yl (LnO.line (a:=[63,32]) (by unfold Sep;decide) (.inl U) (.name As)) AJ Ap wP
 ·rw[zF.mp b];exact Yl (LnO.line (a:=miW++[32]) (by unfold Sep;decide) (.inl U) (.name As)) AJ Ap wP
theorem Aun{kn:Kns}{a:NI}(N:Nm z)(M:Nm a)(i:∀ q∈kn,¬q.1=z)(r:∀ q∈kn,¬q.1=a):∀ p∈fB z a,Flt kn p.1 p.2:=λp b=>by
 have j:∀{u:NI} {wd:Str},DrO u (.no wd)->LnP kn z 58 u (.no wd):=λh=>.dra N.n i h;have m:∀{y c:NI} (M:Nm c),(y=miW\/y=baW)->En (y++(40::(c++[41])))/\10∉y++(40::(c++[41]))/\(y++(40::(c++[41]))).length<=100:=λ{y c} M h=>by
  have L:=M.let
  have k:10∉c:=λe=>by have:= L.2 10 e;lia
  have l:=M.l;rcases h with rfl | rfl
  ·refine⟨by have:= Aoh (c:=109) (d:=41) (v:=[105,114,114,111,114,40]++c) Ap Ap;exact this,?_,by simp[miW];lia⟩;simp[miW,k]
  ·refine⟨by have:= Aoh (c:=98) (d:=41) (v:=[97,99,107,40]++c) Ap Ap;exact this,?_,by simp[baW];lia⟩;simp[baW,k]
 have s:=m M (.inl U);have o:=m N (.inr U);unfold fB at b;rcases yG.mp b with rfl | b
 ·exact Yl (LnO.line (a:=too.take 22) (by unfold Sep;decide) (.inl U) (.name As)) AJ Ap wP
 rcases yG.mp b with rfl | b
 ·exact Jq N (Ue N i (Aqq (.inl U) M r).1 (Aqq (.inl U) M r).2) (.inl U) s.1 AA s.2 wU
 rcases yG.mp b with rfl | b
 ·exact Jq N (Ue (f:=.nop) N i AE ns1) (.inl U) AJ Ap Ap wP
 rcases yG.mp b with rfl | b
 ·exact Jq N (Ue (f:=.big) N i AE ns2) (.inl U) AJ Ap Ap wL
 rcases yG.mp b with rfl | b
 ·exact Jq N (j (AfD Ap)) (.inr U) AJ Ap Ap wD
 rcases yG.mp b with rfl | b
 ·exact Jq N (j Aom) (.inr U) AJ Ap Ap wD
 rcases yG.mp b with rfl | b
 ·exact Jq N (j Aui) (.inr U) AJ Ap Ap wR
 rcases yG.mp b with rfl | b
 ·exact Jq N (j Asw) (.inr U) AJ Ap Ap wL
 rcases yG.mp b with rfl | b
 ·exact AjD N (Ue (f:=.nop) N i AE ns0) (.inl U) Ap wP
 rcases yG.mp b with rfl | b
 ·exact AjD N (j (AfD Ap)) (.inr U) Ap wD
 rcases yG.mp b with rfl | b
 ·exact Jq N (Ue N i (Aqq (.inr (.inr (.inl U))) N i).1 (Aqq (.inr (.inr (.inl U))) N i).2) (.inl U) o.1 AA o.2 wU
 rcases yG.mp b with rfl | b
 ·exact Jq N (j Auj) (.inr U) AJ Ap Ap wR
 rcases yG.mp b with rfl | b
 ·exact Jq N (j (AfD Ap)) (.inr U) AJ Ap Ap wD
 ·rw[zF.mp b];exact Jq N (Ue (f:=.nop) N i AE ns3) (.inl U) AJ Ap Ap wP
theorem Auo{kn:Kns}(K:Kno kn){p q:NI × NN}(a:p∈kn)(b:q∈kn):Flt kn (p.1++[32,61,32,110,111]) "Twice" /\ Flt kn (q.1++[32,58,32,48,32,47,32,48]) "Twice" := by
 have N:Nm p.1:=⟨(K.n p a).1,(K.n p a).2⟩;have M:Nm q.1:=⟨(K.n q b).1,(K.n q b).2⟩;exact⟨Jq N (.twice N.n ⟨p,a,U⟩) (.inl U) AJ Ap Ap wT,Jq M (.twice M.n ⟨q,b,U⟩) (.inr U) AJ Ap Ap wT⟩
section
variable {K:NF}{base:Heap}{t:Adr}
inductive Aup (K:NF)(vs:Na)(H:Hp)(Q:VK)(z3:XK):Prop
|mk(a:Addr)(ns:NA)(i:Int)(_:vs=[.ref a,.int i])(_:SqL K H a (vI ns))(_:0<=i)(_:∀ c:Int,((ns.length:Int)<=i->c=0)->Q (.int c) H)
theorem Zj(T:Txt K mg t):Bh P w K mg base CX0 1 t.AgB t.AgC ["script", "k"] (Aup K):=by
 refine T.Ny.F.ok AkA ?_;rintro _ _ _ _ H _ Q E d ⟨a,ns,i,rfl,c,hi,k⟩;refine⟨_,(Ac (Bm (Ak GZ (pv 1) (Az (Ax) U T.Ca Bv (Aa (pv 0) Ab)) (Ar _))
   (Ad (Ay (Bw (Bf) (pv 0) (pv 1) (λ_ _=>rfl))))
   Ao)
  (Ad (Ay Ah))),?_⟩;refine⟨_,U,_,U,_,_,U,.inl c,_,_,U,U,_,U,?_⟩;refine Cw (λh1=>?_) (λh1=>?_)
 ·rw[Cj] at h1;have b:i.toNat<ns.length:=Au
  exact⟨_,U,_,U,_,_,_,_,U,U,c,BL hi (JV (AvM b)),k _ λh=>Au⟩
 ·exact k 0 λ_=>rfl
def abc:NI:=[97,98,99,100,101,102,103,104,105,106,107,108,109,110,111,112,113,114,115,116,117,118,119,120,121,122]
theorem Asx:Str.ofString "abcdefghijklmnopqrstuvwxyz" = tx abc:=As
theorem Aon:∀ k∈List.range 26,abc[k]?=some (97+k):=Ap
theorem Avx:Str.ofString "o" = tx [111]:=As
inductive Aoo (vs:Na)(H:Hp)(Q:VK)(z3:XK):Prop
|mk(k:Nat)(z:Int)(_:vs=[.int (k:Int),.int z])(_:k<61)(_:∀ H',Ba H H'->Q (.str (tx (nmT (z%3).toNat k))) H')
theorem Aak(T:Txt K mg t):Bh P w K mg base CX0 1 t.AbL t.AbM ["k", "way"] Aoo:=by
 refine T.LC.F.ok RK ?_;rintro _ _ _ _ H _ Q E f ⟨k,z,rfl,hk,e⟩;refine⟨_,(Ac (Bb (i:=2) RK.nd U (Or.inl U) Af)
  (Ac (Bb (i:=3) RK.nd U (Or.inl U) (Aj Am (Bw JR (pv 2) (Aj Dh (pv 0) Ah) (λ_ _=>rfl)) (Bw JR (pv 2) (Aj Dh (Aj EY (pv 0) Ah) Ah) (λ_ _=>rfl))))
  (Ad (Ay (Bw (Bf (K:=K)) (Cu (Aa (Aj Am Af (pv 3)) (Aa (Aj Am (pv 3) Af) (Aa (Aj Am (Aj Am Af (pv 3)) Af) Ab)))) (Aj Dh (pv 1) Ah) (λ_ _=>rfl)))))),?_⟩;rw[Asx,Avx];have i1:atI ((tx abc).cps.toList) ((k:Int)%26)=some (97+k%26):=by
  exact BL Au (by exact Aon _ (yH.mpr Au))
 have i2:atI ((tx abc).cps.toList) ((k:Int) / 26%26)=some (97+k / 26%26):=by
  exact BL Au (by exact Aon _ (yH.mpr At))
 have a:(tx abc).length<=sizeLine:=Ap
 refine⟨_,U,_,U,_,_,U,U,Ap,_,_,_,U,U,a,i1,_,U,_,U,_,_,U,U,⟨Ap,Ap⟩,_,_,U,U,Ap,_,_,_,U,U,a,i2,_,_,U,U,(by show 1+1<=sizeLine;decide),?_⟩;rw[Ha,Ha,Bs];have b:∀{u v:NI},u.length+v.length<=100->(tx u).length+(tx v).length<=sizeLine:=λh=>by exact Awe h Ap
 refine⟨_,U,_,_,U,U,b (by show 2+2<=100;decide),_,U,_,_,U,U,b (by show 2+2<=100;decide),_,U,_,_,U,U,b (by show 1+2<=100;decide),_,_,U,U,(by rw[Bs];exact b (by show 3+1<=100;decide)),?_⟩;refine⟨AI,λp d=>⟨_,U,_,_,U,U,Ap,p,_,_,_,U,U,SqL.of Ae,?_,e _ (.upd d)⟩⟩;have c:z%3=0\/z%3=1\/z%3=2:=Au
 rcases c with h | h | h <;> rw[h] <;> exact BL Ap U
inductive Aqr (vs:Na)(H:Hp)(Q:VK)(z3:XK):Prop
|mk(z:Int)(b:Nat)(n:Nat)(_:vs=[.int z,.int (b:Int),.int (n:Int)])(_:1<=b)(_:b<=100)(_:n<=40)(_:∀ l ds H',Ba H H'->H l=none->H' l=some (.lst (vI (ofN ds)))->ds.length=n->(∀ d∈ds,d<b)->Q (.ref l) H')
theorem N5(T:Txt K mg t):Bh P w K mg base CX0 1 t.Xu t.Xv ["number", "base", "many"] Aqr:=by
 refine T.Fq.F.ok Jv ?_;rintro _ _ _ _ H _ Q E s ⟨z,b,n,rfl,u,q,k,o⟩;refine⟨_,(Ac (Bb (i:=3) Jv.nd U (Or.inl U) (Cu Ab))
  (Ac (Ep PassesOwn.never U (Em U T.Fj (Aa (pv 2) Ab)) (BJ (i:=4) Jv.nd U (Or.inl U))
   (Ac (Bg (BR (K:=K) zM zL zQ DY (pv 3) (Aa (Aj Dh (pv 0) (pv 1)) Ab)))
   (Ad (Bb (i:=0) Jv.nd U (Or.inl U) (Aj EY (pv 0) (pv 1))))))
  (Ad (Ay (pv 3))))),?_⟩;refine⟨AB,λl e=>?_⟩;have m:=yA;have s1:Ba H (upd H l (.lst [])):=.upd e;have h1:(upd H l (.lst [])) l=some (.lst (vI (ofN []))):=Ae;refine⟨_,U,_,U,Au,Au,?_⟩;rw[AvZ];refine I9 (λi σ H2=>∃(y:Int)(f:Option V)(ds:NI),σ=[some (.int y),some (.int (b:Int)),some (.int (n:Int)),some (.ref l),f]/\Ba H H2/\H2 l=some (.lst (vI (ofN ds)))/\ds.length=i/\∀ d∈ds,d<b) ⟨z,none,[],U,s1,h1,U,λd h=>by simp at h⟩ ?_ ?_
 ·rintro i σ H2 hi ⟨y,f,ds,rfl,a,h2,c,j⟩;have p:=AwF y (show(b:Int)≠0 by lia);have r:=Axa y (show(0:Int)<b by omega);refine⟨_,U,.inl ⟨U,_,SqL.of h2⟩,_,U,_,U,_,_,U,U,At,_,_,_,U,U,h2,(by rw[Cj];unfold ofN;rw[AvK];lia),?_⟩;refine⟨_,U,_,U,_,_,U,U,⟨At,Au⟩,?_⟩;refine⟨_,_,ds++[(y%b).toNat],U,a.over e,?_,by rw[AvL,c];rfl,λd h=>?_⟩
  ·rw[Ae];unfold ofN vI;rw[AvO,AvO];show _=some (HO.lst (_++[V.int (((y%b).toNat:Nat):Int)]));rw[Axr p]
  ·grind
 ·rintro σ H2 ⟨y,f,ds,rfl,a,h2,c,j⟩;exact⟨_,U,o l ds H2 a e h2 c j⟩
theorem Asy:Str.ofString "rows(" = tx (Pat.FQ++[40]):=As
theorem Avy:Str.ofString "twill(" = tx (twW++[40]):=As
theorem Avz:Str.ofString "beside(" = tx (beW++[40]):=As
theorem Av0:Str.ofString "above( " = tx (abW++[40,32]):=As
theorem Av1:Str.ofString "tile(" = tx (tiW++[40]):=As
theorem Av2:Str.ofString "lay(" = tx (laW++[40]):=As
theorem w_c:Str.ofString "," = tx [44]:=As
theorem w_o:Str.ofString "(" = tx [40]:=As
theorem w_e:Str.ofString ")" = tx [41]:=As
theorem Av3:Str.ofString " )" = tx [32,41]:=As
theorem w_1:Str.ofString ",1)" = tx (44::(dec 1++[41])):=As
theorem w_n:Str.ofString "" = tx []:=As
theorem Auq:Str.ofString ".#" = tx [46,35]:=As
theorem Av4:Str.ofString "mirror" = tx miW:=As
theorem w_up:Str.ofString "upend" = tx upW:=As
theorem Av5:Str.ofString "back" = tx baW:=As
theorem Av6:Str.ofString "quarter" = tx quW:=As
theorem ln9(h:u.length+v.length<=1000):(tx u).length+(tx v).length<=sizeLine:=by rw[Aw,Aw];exact Awe h Ap
theorem Tn(sp:NI):∀ us:NN,Txt.join (tx sp) (us.map tx)=tx (jnS sp us)
 | []=>by simp[Txt.join,Builtin.Str.glued,tx,Str.empty,jnS]
 | u::us=>by
  have a:∀(us:NN)(u:NI),u++(us.map λy=>sp++y).flatten=jnS sp (u::us):=λus=>by
   induction us with
   | nil=>intro u;simp[jnS]
   | cons v r b =>
    intro u;rw[AvU,Awl,Awj,b v];rfl
  rw[Acm,a]
theorem Aop{p:Prop}[Decidable p]:atI ((tx [46,35]).cps.toList) (if decide p=true then (1:Int) else 0)=some (if p then 35 else 46):=by
 rw[Fw];by_cases h:p
 ·rw[zN h,if_pos U,if_pos h];exact BL Ap U
 ·rw[zJ h,if_neg (λz=>nomatch z),if_neg h];exact BL Ap U
theorem Aqs{y x:Nat}(a:y<=m+n):twl m n y x=if ((x:Int)-(y:Int))%((m:Int)+(n:Int))<(m:Int) then 35 else 46:=by
 have e:(((x+(m+n)-y)%(m+n):Nat):Int)=((x:Int)-(y:Int))%((m:Int)+(n:Int)):=by
  rw[Int.natCast_emod,show((x+(m+n)-y:Nat):Int)=((x:Int)-(y:Int))+((m+n:Nat):Int) by omega,Int.add_emod_right];rfl
 unfold twl;rw[<- e];by_cases h:(x+(m+n)-y)%(m+n)<m
 ·rw[if_pos h,if_pos At]
 ·rw[if_neg h,if_neg At]
theorem AaS{k:Nat}:∀{x:NN},(∀ r∈x,r.length<=k)->x.flatten.length<=k*x.length
 | [],_=>AvV _
 | r::x,h=>by
  have:=AaS λy a=>h y (AvR _ a);have:=h r AvP;rw[Awl,AvL,AvQ,Nat.mul_add];omega
inductive Aqt (vs:Na)(H:Hp)(Q:VK)(z3:XK):Prop
|mk(z:Int)(kp:Addr)(kn:Kns)(_:vs=[.int z,.ref kp])(_:Kn H kp kn)(_:kn.length<=100)(_:Kno kn)(_:∀ p l u x H',Ba H H'->H p=none->H l=none->H' p=some (.tup [.str (tx u),.ref l])->H' l=some (.lst (vS x))->PtO kn u x->Q (.ref p) H')
theorem Ac3(T:Txt K mg t):Bh P w K mg base CX0 3 t.Vl t.Vm ["cell", "made"] Aqt:=by
 refine T.M9.F.ok Dy ?_;rintro _ _ _ _ H _ Q E R ⟨z,kp,kn,rfl,hK,X,L,kQ⟩;refine⟨_,(Ac (Bb (i:=2) Dy.nd U (Or.inr U) (Aj Ex Ah (Aj Dh (Aj EY (pv 0) Ah) Ah)))
  (Ac (Bb (i:=3) Dy.nd U (Or.inr U) (Aj Ex Ah (Aj Dh (Aj EY (pv 0) Ah) Ah)))
  (Ac (Bm (PW.pt (pw_or (Ak Dd (Aj Dh (pv 0) Ah) Ah (Ar _)) (pw_or1 (Ak Dd (Az (Ax (K:=K)) U T.Ca Bv (Aa (pv 1) Ab)) Ah (Ar _)))))
   (Ac (Bb (i:=4) Dy.nd U (Or.inl U) (Al ((Ahi T).mono Ap) R U T.Xx.m T.Xx.F.kp T.Xx.b .nil Aq (Aa (Aj EY (pv 0) Ah) (Aa (pv 2) (Aa (pv 3) Ab)))))
   (Ad (Ay (CZ (Aa (Aj Am (Aj Am Af (BR (K:=K) zI zS zV (DR (K:=K)) Af (Aa (pv 4) Ab))) Af) (Aa (pv 4) Ab))))))
   Ao)
  (Ac (Bm (Ak Dd (Aj Dh (pv 0) Ah) Ah (Ar _))
   (Ac (Amj (i:=4) (Mu.mk (Bj:=[2,3]) (Nc:=["y", "a", "b"]) U rfl As (Cr (sc0:=Ag Gg) U As) U rfl U As (λk j h=>match k,h with | 0,h=>by obtain rfl:=Option.some.inj h;exact⟨_,U,U,U⟩ | 1,h=>by obtain rfl:=Option.some.inj h;exact⟨_,U,U,U⟩ | _+2,h=>by simp at h)) U Dy.nd U rfl (Em U T.Fj (Aa (Aj Ex (pv 2) (pv 3)) Ab)) (λ_ _ _ _ _=>.nil) (λ_ _ _ _ _=>(BR (K:=K) zI zS zV (DR (K:=K)) Af (Aa (De (CP.mk (Bj:=[0,1,2]) (Nc:=["x", "y", "a", "b"]) U As As (Agt (sc0:=Ag Gg) U As) U rfl U As (λk j h=>match k,h with | 0,h=>by obtain rfl:=Option.some.inj h;exact⟨_,U,U,U⟩ | 1,h=>by obtain rfl:=Option.some.inj h;exact⟨_,U,U,U⟩ | 2,h=>by obtain rfl:=Option.some.inj h;exact⟨_,U,U,U⟩ | _+3,h=>by simp at h)) U (Em U T.Fj (Aa (Aj Ex (pv 1) (pv 2)) Ab)) (λ_ _ _ _ _=>.nil) (λ_ _ _ _ _=>(Bw JR Af (Cd Yn U T.Ajk Ae0 (Aa (Hx GZ (Aj Dh (Aj Pz (pv 0) (pv 1)) (Aj Ex (pv 2) (pv 3))) (pv 2) (Ar _)) Ab)) (λ_ _=>rfl)))) Ab))) U)
   (Ad (Ay (CZ (Aa (Aj Am (Aj Am (Aj Am (Aj Am Af (Cd Ec U T.Vn Nq (Aa (pv 2) Ab))) Af) (Cd Ec U T.Vn Nq (Aa (pv 3) Ab))) Af) (Aa (pv 4) Ab))))))
   Ao)
  (Ac (Vw (Bw (Bf (K:=K)) (pv 1) (Aj Dh (Aj EY (pv 0) Ah) (Az (Ax (K:=K)) U T.Ca Bv (Aa (pv 1) Ab))) (λ_ _=>rfl)) (JQ U (CK (BJ (i:=5) Dy.nd U (Or.inl U)) (CK (BJ (i:=6) Dy.nd U (Or.inr U)) Hg))))
  (Ac (Vw (Bw (Bf (K:=K)) (pv 1) (Aj Dh (Aj EY (pv 0) Ah) (Az (Ax (K:=K)) U T.Ca Bv (Aa (pv 1) Ab))) (λ_ _=>rfl)) (JQ U (CK (BJ (i:=7) Dy.nd U (Or.inl U)) (CK (BJ (i:=8) Dy.nd U (Or.inr U)) Hg))))
  (Ac (Bm (PW.pt (pw_and (Ak Dd (Aj Dh (pv 0) Ah) Ah (Ar _)) (pw_and (Ak Dd (Az (Ax (K:=K)) U T.Ca Bv (Aa (pv 6) Ab)) (Az (Ax (K:=K)) U T.Ca Bv (Aa (pv 8) Ab)) (Ar _)) (pw_and1 (Ak GZ (Aj Ex (Az BK U T.Ca Bv (Aa (Bw (Bf (K:=K)) (pv 6) Ah (λ_ _=>rfl)) Ab)) (Az BK U T.Ca Bv (Aa (Bw (Bf (K:=K)) (pv 8) Ah (λ_ _=>rfl)) Ab))) Ah (Ar _))))))
   (Ad (Ay (CZ (Aa (Aj Am (Aj Am (Aj Am (Aj Am Af (pv 5)) Af) (pv 7)) Af) (Aa (De (CP.mk (Bj:=[6,8]) (Nc:=["j", "one", "two"]) U As As (Cr (sc0:=Ag Gg) U As) U rfl U As (λk j h=>match k,h with | 0,h=>by obtain rfl:=Option.some.inj h;exact⟨_,U,U,U⟩ | 1,h=>by obtain rfl:=Option.some.inj h;exact⟨_,U,U,U⟩ | _+2,h=>by simp at h)) U (Em U T.Fj (Aa (Az (Ax (K:=K)) U T.Ca Bv (Aa (pv 6) Ab)) Ab)) (λ_ _ _ _ _=>.nil) (λ_ _ _ _ _=>(Aj Am (Bw (Bf (K:=K)) (pv 1) (pv 0) (λ_ _=>rfl)) (Bw (Bf (K:=K)) (pv 2) (pv 0) (λ_ _=>rfl))))) Ab)))))
   Ao)
  (Ac (Bm (PW.pt (pw_and (Ak Dd (Aj Dh (pv 0) Ah) Ah (Ar _)) (pw_and (Ak Dd (Az BK U T.Ca Bv (Aa (Bw (Bf (K:=K)) (pv 6) Ah (λ_ _=>rfl)) Ab)) (Az BK U T.Ca Bv (Aa (Bw (Bf (K:=K)) (pv 8) Ah (λ_ _=>rfl)) Ab)) (Ar _)) (pw_and1 (Ak GZ (Aj Ex (Az (Ax (K:=K)) U T.Ca Bv (Aa (pv 6) Ab)) (Az (Ax (K:=K)) U T.Ca Bv (Aa (pv 8) Ab))) Ah (Ar _))))))
   (Ad (Ay (CZ (Aa (Aj Am (Aj Am (Aj Am (Aj Am Af (pv 5)) Af) (pv 7)) Af) (Aa (Aj Nk (pv 6) (pv 8)) Ab)))))
   Ao)
  (Ac (Bm (PW.pt (pw_and (Ak Dd (Aj Dh (pv 0) Ah) Ah (Ar _)) (pw_and1 (Ak GZ (Aj Rt (Az BK U T.Ca Bv (Aa (Bw (Bf (K:=K)) (pv 6) Ah (λ_ _=>rfl)) Ab)) (pv 2)) Ah (Ar _)))))
   (Ad (Ay (CZ (Aa (Aj Am (Aj Am (Aj Am (Aj Am Af (pv 5)) Af) (Cd Ec U T.Vn Nq (Aa (pv 2) Ab))) Af) (Aa (De (CP.mk (Bj:=[2]) (Nc:=["row", "a"]) U As As (Cr (sc0:=Ag Gg) U As) U rfl U As (λk j h=>match k,h with | 0,h=>by obtain rfl:=Option.some.inj h;exact⟨_,U,U,U⟩ | _+1,h=>by simp at h)) U (BP (K:=K) (pv 6)) (λ_ _ _ _ _=>.nil) (λ_ _ _ _ _=>(Aj Mt (pv 0) (pv 1)))) Ab)))))
   Ao)
  (Ac (Bm (PW.pt (pw_and (Ak Dd (Aj Dh (pv 0) Ah) Ah (Ar _)) (pw_and (Ak GZ (Az (Ax (K:=K)) U T.Ca Bv (Aa (pv 6) Ab)) Ah (Ar _)) (pw_and1 (Ak GZ (Az BK U T.Ca Bv (Aa (Bw (Bf (K:=K)) (pv 6) Ah (λ_ _=>rfl)) Ab)) Ah (Ar _))))))
   (Ad (Ay (CZ (Aa (Aj Am (Aj Am (Aj Am (Aj Am Af (pv 5)) Af) (pv 5)) Af) (Aa (Al ((Ahj T).mono Ap) R U T.Xy.m T.Xy.F.kp T.Xy.b .nil Aq (Aa (pv 6) (Aa (pv 6) Ab))) Ab)))))
   Ao)
  (Ac (Bb (i:=9) Dy.nd U (Or.inl U) (Bw (Bf (K:=K)) (Cu (Aa Af (Aa Af (Aa Af (Aa Af Ab))))) (Aj Pz (pv 2) Ah) (λ_ _=>rfl)))
  (Ad (Ay (CZ (Aa (Aj Am (Aj Am (Aj Am (pv 9) Af) (pv 5)) Af) (Aa (Al ((Adp T).mono Ap) R U T.Qj.m T.Qj.F.kp T.Qj.b .nil Aq (Aa (pv 9) (Aa (pv 6) Ab))) Ab)))))))))))))))),?_⟩;have a8:sizeLine=16777216:=yA;rw[Asy,Avy,Avz,Av0,Av1,Av2,w_c,w_o,w_e,Av3,w_1,w_n,Auq,Av4,w_up,Av5,Av6,Af6];have d:∀{H1:Hp} {l:Addr} {u:NI} {x:NN},Ba H H1->H1 l=some (.lst (vS x))->H l=none->PtO kn u x->Ahy Q [.str (tx u),.ref l] H1:=λ{H1 l u x} s1 h1 n1 O=>⟨AH,λp hp=>kQ p l u x _ (s1.new hp) (s1.free hp) n1 Ae (by rw[Ai (Bc h1 hp)];exact h1) O⟩;obtain⟨a,ha,ea⟩:∃ a:Nat,a<4/\(1+z / 6%4)=((1+a:Nat):Int):=⟨(z / 6%4).toNat,At,At⟩;obtain⟨b,hb,eb⟩:∃ a:Nat,a<4/\(1+z / 24%4)=((1+a:Nat):Int):=⟨(z / 24%4).toNat,At,At⟩;have da:=Nj (show 1+a<100 by omega);have db:=Nj (show 1+b<100 by omega);refine⟨_,U,_,_,U,U,⟨Ap,Ap⟩,_,_,U,U,Ap,_,_,U,U,?_⟩;rw[ea];refine Dc U rfl ?_;refine⟨_,U,_,_,U,U,⟨Ap,Ap⟩,_,_,U,U,Ap,_,_,U,U,?_⟩;rw[eb];refine Dc U rfl ?_;obtain⟨as,G,W,a3⟩:=id hK;refine⟨_,U,_,_,U,U,Ap,U,_,U,?_⟩;refine(λhA=>Cw (λ_=>hA) (λ_=>⟨_,U,_,_,U,.inl (SqL.of G),U,_,U,Cw (λ_=>hA) (λc0=>?_)⟩)) ?_
 rotate_left
 rotate_left
 ·refine⟨_,U,_,_,U,U,⟨Ap,Ap⟩,_,U,_,U,z / 96,1+a,1+b,U,At,At,At,At,λl x H1 s1 B X C=>?_⟩;refine Dc U rfl ?_;have C':=C.clo;have O:=Aqo (kn:=kn) C' (by rw[C.hn];omega) (λr R=>by rw[C.hm r R];omega);have lt:(jnS [44,32] x).length<=300:=by
   obtain⟨c,v,e,_,hv⟩:=O.f;have:=congrArg List.length e;simp only [AvL,AvQ,Awn] at this;omega
  refine⟨U,_,U,_,_,x.map tx,U,U,SqL.of (by rw[X,Gr]),?_,?_⟩
  ·have:=AaS (k:=4) (x:=x) (λr R=>by rw[C.hm r R];omega);have:=C.hn;rw[Ip,AvK,Aw];show _+_*2<=_;omega
  rw[Tn];refine⟨_,_,U,U,ln9 (by show 5+_<=_;omega),?_⟩;rw[Bs];refine⟨_,_,U,U,ln9 (by rw[AvL];show 5+_+1<=_;omega),?_⟩;rw[Bs];refine⟨_,U,?_⟩;rw[show Pat.FQ++[40]++jnS [44,32] x++[41]=Pat.FQ++(40::(jnS [44,32] x++[41])) by simp];exact d s1 X B O
 refine⟨_,U,_,_,U,U,Ap,U,_,U,?_⟩;refine Cw (λ_=>?_) (λ_=>?_)
 ·refine⟨_,U,_,U,_,_,U,U,_,U,At,At,?_⟩;rw[show(((1+a:Nat):Int)+((1+b:Nat):Int))=((1+a+(1+b):Nat):Int) by omega,AvZ];refine Gp (lo:=0) (n:=1+a+(1+b)) (λi ys H2=>Ba H H2/\ys=vS ((List.range i).map (twT (1+a) (1+b)))) ⟨.refl _,U⟩ ?_ ?_ ?_ ?_
  ·rintro i ys H2 hi ⟨Z,rfl⟩;rw[Be,AvK,Awp];exact AvN _
  ·exact Cm At
  ·rintro i ys H2 hi ⟨Z,rfl⟩;refine Eo.no ?_;refine⟨U,_,U,_,U,_,_,U,U,_,U,At,At,?_⟩;rw[show(((1+a:Nat):Int)+((1+b:Nat):Int))=((1+a+(1+b):Nat):Int) by omega,AvZ];refine Gp (lo:=0) (n:=1+a+(1+b)) (λj ys H3=>H3=H2/\ys=vS ((List.range j).map λx=>[twl (1+a) (1+b) i x])) ⟨U,U⟩ ?_ ?_ ?_ ?_
   ·rintro j ys H3 hj ⟨rfl,rfl⟩;rw[Be,AvK,Awp];exact AvN _
   ·exact Cm At
   ·rintro j ys H3 hj ⟨rfl,rfl⟩;refine Eo.no ?_;refine⟨_,U,_,U,_,_,U,U,_,U,_,U,_,_,U,U,_,_,U,U,At,_,U,_,_,U,U,.inr ⟨_,U,?_⟩⟩;refine⟨_,_,twl (1+a) (1+b) i j,U,U,(by rw[Aw];exact big Ap),?_,?_⟩
    ·rw[Aop,Aqs At,Aw3,Aw3]
    ·rw[Ha];refine CN.of hj ⟨U,?_⟩;rw[Dv,Aw1,AvO];rfl
   ·rintro ys H3 l ⟨rfl,rfl⟩ B;obtain⟨H4,e9,s3,h3⟩:=nu9 (o:=.lst (vS ((List.range (1+a+(1+b))).map λx=>[twl (1+a) (1+b) i x]))) Z B;rw[e9];have e2:((List.range (1+a+(1+b))).map λx=>[twl (1+a) (1+b) i x]).flatten=twT (1+a) (1+b) i:=Qs _ _;have lt:(twT (1+a) (1+b) i).length<=8:=by unfold twT;rw[AvK,Awp];omega
    refine⟨_,_,(((List.range (1+a+(1+b))).map λx=>[twl (1+a) (1+b) i x]).map tx),U,U,SqL.of (by rw[h3,Gr]),(by rw[Ip,e2,Aw,Awn,AwT];omega),?_⟩;rw[GF,e2];refine CN.of hi ⟨s3,?_⟩;rw[Dv,Aw1,AvO];rfl
  ·rintro ys H2 l ⟨Z,rfl⟩ B;refine Dc U rfl ?_;have O:=Aof (kn:=kn) (a:=1+a) (b:=1+b) At At At At;refine⟨_,U,_,U,lg At,?_⟩;rw[AeE];refine⟨_,_,U,U,ln9 (by show 6+_<=_;omega),?_⟩;rw[Bs];refine⟨_,_,U,U,ln9 (by rw[AvL];show 6+_+1<=_;omega),?_⟩;rw[Bs];refine⟨_,U,_,U,lg At,?_⟩;rw[AeE];refine⟨_,_,U,U,ln9 (by rw[AvL,AvL];show 6+_+1+_<=_;omega),?_⟩;rw[Bs];refine⟨_,_,U,U,ln9 (by rw[AvL,AvL,AvL];show 6+_+1+_+1<=_;omega),?_⟩;rw[Bs];refine⟨_,U,?_⟩;rw[show twW++[40]++dec (1+a)++[44]++dec (1+b)++[41]=twW++(40::(dec (1+a)++(44::(dec (1+b)++[41])))) by simp];exact d (Z.new B) Ae (Z.free B) O
 have n0:0<kn.length:=by
  rw[<- W];rcases Nat.eq_zero_or_pos as.length with h | h
  ·exact absurd (by rw[AvK,h];rfl) c0
  ·exact h
 obtain⟨i,hi,ei⟩:∃ i:Nat,i<kn.length/\z / 24%((as.map V.ref).length:Int)=(i:Int):=⟨(z / 24%(kn.length:Int)).toNat,by have:=Axa (z / 24) (show(0:Int)<kn.length by omega);have:=AwF (z / 24) (show(kn.length:Int)≠0 by omega);omega,by rw[AvK,W,Axr (AwF _ At)]⟩;obtain⟨j,hj,ej⟩:∃ i:Nat,i<kn.length/\z / 96%((as.map V.ref).length:Int)=(i:Int):=⟨(z / 96%(kn.length:Int)).toNat,by have:=Axa (z / 96) (show(0:Int)<kn.length by omega);have:=AwF (z / 96) (show(kn.length:Int)≠0 by omega);omega,by rw[AvK,W,Axr (AwF _ At)]⟩;have A:i<as.length:=At
 have a5:j<as.length:=At
 obtain⟨I,a1,q⟩:=a3 i as[i] kn[i] (AvM A) (AvM hi);obtain⟨q2,a2,N⟩:=a3 j as[j] kn[j] (AvM a5) (AvM hj);have M:=Awh hi;have Y:=Awh hj;have t1:atI (as.map V.ref) (i:Int)=some (V.ref as[i]):=BL At (by rw[AvZ,AvS,AvM A];rfl);have t2:atI (as.map V.ref) (j:Int)=some (V.ref as[j]):=BL At (by rw[AvZ,AvS,AvM a5];rfl);generalize as[i]=g1 at a1 t1;generalize as[j]=g2 at a2 t2;generalize kn[i]=p1 at a1 q M;generalize kn[j]=p2 at a2 N Y;obtain⟨n1,x⟩:=p1;obtain⟨n2,y⟩:=p2;dsimp only at a1 q a2 N;have C:=L.c _ M;have D:=L.c _ Y;dsimp only at C D;have l1:=(L.n _ M).2;have l2:=(L.n _ Y).2;dsimp only at l1 l2;have lp:(0:Int)<((as.map V.ref).length:Int):=by rw[AvK];omega
 have a0:=C.n40;have aa:=C.m40;have a9:=D.n40;have ab:=D.m40;have hd:∀{x:NN},Clo x->∃ u,atI (vS x) 0=some (.str (tx u))/\u.length=wdt x:=λ{x} C=>by
  cases x with
  | nil=>have:=C.n1;simp at this
  | cons u x=>exact⟨u,BL Ap U,U⟩
 obtain⟨u,hu,lu⟩:=hd C;obtain⟨v,hv,lv⟩:=hd D;have su:(tx u).length<=sizeLine:=by rw[Aw];omega
 have sv:(tx v).length<=sizeLine:=by rw[Aw];omega
 refine⟨_,U,_,U,_,_,U,U,⟨Ap,Ap⟩,_,U,_,_,U,.inl (SqL.of G),_,_,U,U,lp,kp,_,_,_,U,U,SqL.of G,(by rw[ei];exact t1),g1,_,U,SqT.of a1,U,_,_,U,_,_,U,U,?_⟩;refine⟨_,U,_,U,_,_,U,U,⟨Ap,Ap⟩,_,U,_,_,U,.inl (SqL.of G),_,_,U,U,lp,kp,_,_,_,U,U,SqL.of G,(by rw[ej];exact t2),g2,_,U,SqT.of a2,U,_,_,U,_,_,U,U,?_⟩;refine⟨_,U,_,_,U,U,Ap,U,_,U,?_⟩;refine(λs=>Cw (λ_=>⟨_,U,_,_,U,.inl (SqL.of q),_,U,_,_,U,.inl (SqL.of N),U,_,U,Cw (λJ=>⟨_,U,I,_,_,_,U,U,SqL.of q,hu,_,U,su,_,U,q2,_,_,_,U,U,SqL.of N,hv,_,U,sv,_,_,U,U,_,_,U,U,_,U,Cw (λS=>?_) (λ_=>s)⟩) (λ_=>s)⟩) (λ_=>s)) ?_
 rotate_left
 ·have hh:x.length=y.length:=by
   injection J with J;rw[Be,Be] at J;omega
  have hw:wdt x+wdt y<17:=by
   rw[Aw,Aw,lu,lv] at S;omega
  have e:PN x y=.ok (List.zipWith (·++·) x y):=by
   unfold PN;rw[if_neg (λz=>z hh),if_neg At]
  have O:=Ai1 (g:=0) (k:=0) (r:=List.zipWith (·++·) x y) L (.inl U) M Y e (Ab0 C D e) Ap Ap;have zl:(List.zipWith (·++·) x y).length=x.length:=by rw[Axy,<- hh,AwR]
  refine⟨_,U,_,_,U,U,ln9 (by show 7+_<=_;omega),?_⟩;rw[Bs];refine⟨_,_,U,U,ln9 (by rw[AvL];show 7+_+1<=_;omega),?_⟩;rw[Bs];refine⟨_,U,_,_,U,U,ln9 (by rw[AvL,AvL];show 7+_+1+_<=_;omega),?_⟩;rw[Bs];refine⟨_,_,U,U,ln9 (by rw[AvL,AvL,AvL];show 7+_+1+_+1<=_;omega),?_⟩;rw[Bs];refine⟨_,U,_,_,U,.inl (SqL.of q),_,U,At,(by rw[Be];omega),?_⟩;rw[Be,AvZ];refine Gp (lo:=0) (n:=x.length) (λi ys H2=>H2=H/\ys=vS ((List.zipWith (·++·) x y).take i)) ⟨U,U⟩ ?_ ?_ ?_ ?_
  ·rintro i ys H2 hi ⟨rfl,rfl⟩;rw[Be,AvW];omega
  ·exact Cm a0
  ·rintro i ys H2 hi ⟨rfl,rfl⟩;refine Eo.no ?_;have A:i<y.length:=At
   have l1:=C.hm _ (Awh hi);have l2:=D.hm _ (Awh A);refine⟨_,U,_,U,I,_,_,_,U,U,SqL.of q,(by rw[Aw3];exact Aai (AvM hi)),?_⟩;refine⟨_,U,_,U,q2,_,_,_,U,U,SqL.of N,(by rw[Aw3];exact Aai (AvM A)),?_⟩;refine⟨_,_,U,U,(by rw[Aw,Aw];exact big At),?_⟩;rw[Bs];refine CN.of hi ⟨U,?_⟩;rw[Dv,AvT,List.getElem?_zipWith,AvM hi,AvM A];rfl
  ·rintro ys H2 p ⟨rfl,rfl⟩ np;rw[show(List.zipWith (·++·) x y).take x.length=List.zipWith (·++·) x y from Aws (by rw[zl];exact AvN _)];rw[show beW++[40]++n1++[44]++n2++[41]=beW++(40::(bl 0++(n1++(44::(n2++(bl 0++[41])))))) by simp[bl]];exact d (.upd np) Ae np O
 refine JS ?_;refine⟨_,U,_,_,U,U,Ap,U,_,U,?_⟩;refine(λs=>Cw (λ_=>⟨_,U,I,_,_,_,U,U,SqL.of q,hu,_,U,su,_,U,q2,_,_,_,U,U,SqL.of N,hv,_,U,sv,U,_,U,Cw (λJ=>⟨_,U,_,_,U,.inl (SqL.of q),_,U,_,_,U,.inl (SqL.of N),_,_,U,U,_,_,U,U,_,U,Cw (λS=>?_) (λ_=>s)⟩) (λ_=>s)⟩) (λ_=>s)) ?_
 rotate_left
 ·have hw:wdt x=wdt y:=by
   injection J with J;rw[Aw,Aw,lu,lv] at J;omega
  have hh:x.length+y.length<17:=by
   rw[Be,Be] at S;omega
  have e:V5 x y=.ok (x++y):=by
   unfold V5;rw[if_neg (λz=>z hw),if_neg At]
  have O:=Ai1 (g:=1) (k:=0) (r:=x++y) L (.inr (.inl U)) M Y e (AdE C D e) Ap Ap;refine⟨_,U,_,_,U,U,ln9 (by show 7+_<=_;omega),?_⟩;rw[Bs];refine⟨_,_,U,U,ln9 (by rw[AvL];show 7+_+1<=_;omega),?_⟩;rw[Bs];refine⟨_,U,_,_,U,U,ln9 (by rw[AvL,AvL];show 7+_+1+_<=_;omega),?_⟩;rw[Bs];refine⟨_,_,U,U,ln9 (by rw[AvL,AvL,AvL];show 7+_+1+_+1<=_;omega),?_⟩;rw[Bs];refine⟨_,U,_,U,I,q2,_,_,U,U,q,N,(by rw[Be,Be];omega),λl B=>?_⟩;rw[show abW++[40,32]++n1++[44]++n2++[41]=abW++(40::(bl 1++(n1++(44::(n2++(bl 0++[41])))))) by simp[bl]];refine d (.upd B) ?_ B O;rw[Ae];unfold vS;rw[AvO]
 refine JS ?_;refine⟨_,U,_,_,U,U,Ap,U,_,U,?_⟩;refine(λs=>Cw (λ_=>⟨_,U,I,_,_,_,U,U,SqL.of q,hu,_,U,su,_,U,_,_,U,U,.inl ⟨At,by rw[Aw];omega⟩,_,_,U,U,_,U,Cw (λS=>?_) (λ_=>s)⟩) (λ_=>s)) ?_
 rotate_left
 ·have hw:wdt x*(1+a)<17:=by
   rw[Aw,lu] at S;omega
  have e:Zu x (1+a) 1=.ok (wid x (1+a)):=by
   unfold Zu;rw[if_neg At,if_neg At];unfold til;simp
  have O:=Aqp (a:=1+a) L M At e;refine⟨_,U,_,_,U,U,ln9 (by show 5+_<=_;omega),?_⟩;rw[Bs];refine⟨_,_,U,U,ln9 (by rw[AvL];show 5+_+1<=_;omega),?_⟩;rw[Bs];refine⟨_,U,_,U,lg At,?_⟩;rw[AeE];refine⟨_,_,U,U,ln9 (by rw[AvL,AvL];show 5+_+1+_<=_;omega),?_⟩;rw[Bs];refine⟨_,_,U,U,ln9 (by have h1:(dec 1).length<=2:=Nj Ap;have h5:(tiW++[40]).length=5:=rfl;simp only [AvL,AvQ,Awn] at h5 ⊢;omega),?_⟩;rw[Bs];refine⟨_,U,_,U,⟨_,SqL.of q⟩,Dk (K:=K) (a:=I) (xs:=vS x) (λi ys H2=>H2=H/\ys=vS (wid (x.take i) (1+a))) ⟨U,U⟩ ?_ ?_ ?_ ?_⟩
  ·rintro i ys H2 hi ⟨rfl,rfl⟩;refine⟨SqL.of q,?_⟩;unfold wid;rw[Be,AvK,AvW];omega
  ·rw[Be];exact Cm a0
  ·rintro i xv ys H2 hi hx ⟨rfl,rfl⟩;obtain⟨r,a6,rfl⟩:=HF hx;have ac:=C.hm r (AvX a6);refine Eo.no ?_;have:r.length*(1+a)<=40*4:=Nat.mul_le_mul At At;refine⟨_,U,_,U,_,_,U,U,At,At,(by rw[AvZ];omega),?_⟩;rw[AvZ];refine CN.of hi ⟨U,?_⟩;unfold wid;rw[Dv,AvT,a6,AvO];rfl
  ·rintro ys H2 p ⟨rfl,rfl⟩ np;rw[Be,Awa];rw[show tiW++[40]++n1++[44]++dec (1+a)++(44::(dec 1++[41]))=tiW++(40::(n1++(44::(dec (1+a)++(44::(dec 1++[41])))))) by simp];exact d (.upd np) Ae np O
 refine JS ?_;refine⟨_,U,_,_,U,U,Ap,U,_,U,?_⟩;refine(λs=>Cw (λ_=>⟨_,U,_,_,U,.inl (SqL.of q),_,_,U,U,_,U,Cw (λJ=>⟨_,U,I,_,_,_,U,U,SqL.of q,hu,_,U,su,_,_,U,U,_,U,Cw (λS=>?_) (λ_=>s)⟩) (λ_=>s)⟩) (λ_=>s)) ?_
 rotate_left
 ·have hw:wdt x<9:=by
   rw[Aw,lu] at S;omega
  have hh:x.length<9:=by
   rw[Be] at J;omega
  have e:AhO x x=.ok (ld2 x x):=by
   unfold AhO;rw[if_neg AA,if_neg At,Aqm C C]
  have O:=Ai1 (g:=0) (k:=1) (r:=ld2 x x) L (.inr (.inr U)) M M e (AiS C C e) Ap Ap;refine⟨_,U,_,_,U,U,ln9 (by show 4+_<=_;omega),?_⟩;rw[Bs];refine⟨_,_,U,U,ln9 (by rw[AvL];show 4+_+1<=_;omega),?_⟩;rw[Bs];refine⟨_,U,_,_,U,U,ln9 (by rw[AvL,AvL];show 4+_+1+_<=_;omega),?_⟩;rw[Bs];refine⟨_,_,U,U,ln9 (by rw[AvL,AvL,AvL];show 4+_+1+_+2<=_;omega),?_⟩;rw[Bs];refine⟨_,U,_,U,I,I,x,x,U,SqL.of q,SqL.of q,C,C,λl H1 s1 B X=>?_⟩;rw[show laW++[40]++n1++[44]++n1++[32,41]=laW++(40::(bl 0++(n1++(44::(n1++(bl 1++[41])))))) by simp[bl]];exact d s1 X B O
 refine JS ?_;obtain⟨wz,hz,e9⟩:∃ wz,(wz=miW\/wz=upW\/wz=baW\/wz=quW)/\atI [V.str (tx miW),V.str (tx upW),V.str (tx baW),V.str (tx quW)] (((1+a:Nat):Int)-1)=some (V.str (tx wz)):=by
  rw[show(((1+a:Nat):Int)-1)=(a:Int) by omega];have a4:a=0\/a=1\/a=2\/a=3:=At
  rcases a4 with rfl | rfl | rfl | rfl
  ·exact⟨miW,.inl U,BL Ap U⟩
  ·exact⟨upW,.inr (.inl U),BL Ap U⟩
  ·exact⟨baW,.inr (.inr (.inl U)),BL Ap U⟩
  ·exact⟨quW,.inr (.inr (.inr U)),BL Ap U⟩
 have lz:wz.length<=7:=by rcases hz with rfl | rfl | rfl | rfl <;> decide
 refine⟨(by show 4<=sizeLine;decide),λp9 a7=>⟨_,U,_,_,U,U,p9,_,_,_,U,U,SqL.of Ae,e9,?_⟩⟩;have s9:Ba H (upd H p9 (.lst [V.str (tx miW),V.str (tx upW),V.str (tx baW),V.str (tx quW)])):=.upd a7;generalize upd H p9 (.lst [V.str (tx miW),V.str (tx upW),V.str (tx baW),V.str (tx quW)])=H9 at s9 ⊢;refine Dc U rfl ?_;refine⟨_,U,_,_,U,U,ln9 (by show _+1<=_;omega),?_⟩;rw[Bs];refine⟨_,U,_,_,U,U,ln9 (by rw[AvL];show _+1+_<=_;omega),?_⟩;rw[Bs];refine⟨_,_,U,U,ln9 (by rw[AvL,AvL];show _+1+_+1<=_;omega),?_⟩;rw[Bs];refine⟨_,U,_,U,wz,I,x,U,hz,SqL.of (s9 _ _ q),C,λl r H1 s1 B X e=>?_⟩;rw[show wz++[40]++n1++[41]=wz++(40::(n1++[41])) by simp];exact d (s9.trans s1) X (s9.free B) (Ass L hz M e)
end
section
variable {pr one other:NN}{w h:Nat} (C:Cl pr m n) (C1:Cl one w h) (C2:Cl other w h)
include C C1 C2
end
theorem Aur{tr:NA}(F:Ft th tss tr):Cl (wv th tss tr) th.length tr.length:=by
 refine⟨AhL _ _ _,λt a=>?_,λt a c hc=>?_,F.m1,F.m40,F.n1,F.n40⟩
 ·unfold wv at a;obtain⟨v,_,rfl⟩:=yF.mp a;exact Apn _ _
 ·unfold wv at a;obtain⟨v,_,rfl⟩:=yF.mp a;unfold shd at hc;obtain⟨s,_,rfl⟩:=yF.mp hc;split
  ·exact .inl U
  ·exact .inr U
section
variable {K:NF}{base:Heap}{t:Adr}
theorem AjE:∀ ds:NI,mT ds=((ds.map dec).map λy=>[32]++y).flatten
 | []=>rfl
 | n::r=>by
  rw[mT,AjE r];rfl
theorem Aqu(ds:NI):Txt.join (tx [32]) ((ds.map dec).map tx)=tx (Dp ds):=by
 cases ds with
 | nil=>exact Tn [32] []
 | cons n r =>
  rw[AvU,Acm,<- AjE];rfl
theorem AjF:∀{ds:NI},(∀ d∈ds,d<100)->(ds.map dec).flatten.length<=2*ds.length
 | [],_=>AvN _
 | n::r,h=>by
  have:= AjF λm a=>h m (AvR _ a);have:= Nj (h n AvP);grind
theorem Zk{e:TE}{l:Addr}(m:∀ k:VK,k (.ref l) H->e σ H k)(f:H l=some (.lst (vI (ofN ds))))(a:∀ d∈ds,d<100)(b:ds.length<=40)(k:∀ H',Ba H H'->Q (.str (tx (Dp ds))) H') :
  tBM K "str" (rJoin K) (tC (V.str (tx [32]))) (AlA (Ad1 (Al1 K e) [] AaD (tCB Ru (AlA (AqO 0) AoB))) AoB) σ H Q:=by
 refine⟨U,m _ ⟨_,U,⟨_,SqL.of f⟩,Dk (xs:=vI (ofN ds)) (λi ys H2=>H2=H/\ys=vS ((ds.take i).map dec)) ⟨U,U⟩ ?_ ?_ ?_ ?_⟩⟩
 ·rintro i ys H2 hi ⟨rfl,rfl⟩;refine⟨SqL.of f,?_⟩;rw[Be,AvK,AvW];exact AwS _ _
 ·rw[Cj];unfold ofN;rw[AvK];exact Cm b
 ·rintro i o ys H2 hi n ⟨rfl,rfl⟩;obtain⟨z,c,rfl⟩:=La n;unfold ofN at c;rw[AvS] at c;obtain⟨d,h,rfl⟩:=zU.mp c;refine⟨_,U,_,U,lg (a d (AvX h)),?_⟩;show CN _ _ _ (_++[V.str (Str.ofString (toString ((d:Nat):Int)))]) _;rw[AeE];refine CN.of hi ⟨U,?_⟩;rw[Dv,AvT,h,AvO];rfl
 ·rintro ys H2 p ⟨rfl,rfl⟩ np;have j:(ofN ds).length=ds.length:=AvK _;rw[Cj,j,Awa];refine⟨_,_,(ds.map dec).map tx,U,U,SqL.of (by rw[Ae,Gr]),?_,?_⟩
  ·have:= AjF a;rw[Ip,AvK,AvK];show _+_*1<=_;lia
  ·rw[Aqu];exact k _ (.upd np)
def S4 (p:Nat->Bool):NI:=(List.range 4).filter p
theorem Aeg{p:Nat->Bool}:(∀ d∈S4 p,d<4)/\(S4 p).length<=4:=⟨λd a=>yH.mp (z8.mp a).1,Awe (List.length_filter_le _ _) Ap⟩
theorem Aoq{p:Nat->Bool}:∀ n,n<=40->Rs (ofN ((List.range n).filter p))/\∀ k∈ofN ((List.range n).filter p),k<n
 | 0,_=>⟨ArF,λk h=>by cases h⟩
 | n+1,h=>by
  have a:=Aoq (p:=p) n Au;rw[Aw1,Ax2];cases e:p n with
  | false =>
   rw[List.filter_cons_of_neg (by rw[e];decide),List.filter_nil,Awo];exact⟨a.1,λk hk=>by have:= a.2 k hk;omega⟩
  | true =>
   rw[List.filter_cons_of_pos e];unfold ofN at a ⊢;rw[AvO];refine⟨ArG a.1 a.2 AD (by show(n:Int)<40;lia),λk hk=>?_⟩;rcases zG.mp hk with hk | hk
   ·have:= a.2 k hk;omega
   ·have:k=(n:Int):=zF.mp hk;lia
theorem Aus{p:Nat->Bool}:Rs (ofN (S4 p)):=(Aoq 4 Ap).1
structure DtO (u:NI)(x:NN):Prop where
 r:DrO u (.ok x)
 c:Clo x
 e:En u
 z:u≠[]
 n:10∉u
 l:u.length<=300
theorem AjG:∀{ns:NI},(∀ n∈ns,n<100)->(mT ns).getLast?≠some 32
 | [],_=>by simp[mT]
 | n::r,h=>by
  have f:=AjG λm b=>h m (AvR _ b);have d:=dec_is (h n AvP);have i:dec n≠[]:=λe=>by have:= d.l1;rw[e] at this;simp at this
  rw[mT,<- Awy,AwX];cases e:(mT r).getLast? with
  | some c=>simp_all
  | none =>
   intro z;have z:(32::dec n).getLast?=some 32:=z;rw[List.getLast?_cons,Option.some.injEq] at z;cases a:(dec n).getLast? with
   | none=>simp_all
   | some c =>
    rw[a] at z;have:= d.dg c (List.mem_of_getLast? a);have z:c=32:=z;lia
theorem AjH(h:∀ n∈ns,n<100)(b:ns≠[]):En (Dp ns)/\Dp ns≠[]:=by
 cases ns with
 | nil=>exact absurd U b
 | cons n r =>
  have nn:=Aj6 (h n AvP) r;have d:=dec_is (h n AvP);refine⟨⟨λe=>?_,λe=>?_⟩,nn⟩
  ·rw[Dp] at e;cases a:dec n with
   | nil=>have:= d.l1;rw[a] at this;simp at this
   | cons c v =>
    rw[a] at e;have:= d.dg c (by rw[a];exact AvP);grind
  ·have:= AjG h;rw[mT,List.getLast?_cons] at this;rw[Dp] at e;rw[e] at this;exact this U
theorem AjI{sp:NI}{c:Nat}:∀{us:NN},c∈jnS sp us->c∈sp\/∃ u∈us,c∈u
 | [],h=>by simp[jnS] at h
 | [u],h=>.inr ⟨u,AvP,h⟩
 | u::v::r,h=>by
  rcases zG.mp h with h | h
  ·simp_all
  ·rcases zG.mp h with h | h
   ·exact .inl h
   ·rcases AjI h with h | ⟨x,a,hc⟩
    ·exact .inl h
    ·exact .inr ⟨x,AvR _ a,hc⟩
theorem Aut{th tr:NI}{ps:List (Nat->Bool)}(h1:1<=th.length)(G:th.length<=5)(B:∀ d∈th,d<4)(p1:1<=ps.length)(y:ps.length<=3)(o:1<=tr.length)(I:tr.length<=4)(k:∀ d∈tr,d<ps.length) :
  DtO (jnS [32,47,32] [Dp th,jnS [44,32] (ps.map λp=>Dp (S4 p)),Dp tr]) (wv (ofN th) (ps.map λp=>ofN (S4 p)) (ofN tr)):=by
 have l1:(ofN th).length=th.length:=AvK _;have l2:(ofN tr).length=tr.length:=AvK _;have F:Ft (ofN th) (ps.map λp=>ofN (S4 p)) (ofN tr):=⟨Au,Au,AB,AD,Au,Au,λv n=>by
   obtain⟨d,e,rfl⟩:=yF.mp n;grind,λks hk=>by
   obtain⟨p,_,rfl⟩:=yF.mp hk;exact Aus,λv n=>by
   obtain⟨d,e,rfl⟩:=yF.mp n;grind⟩
 have i:∀ d∈th,d<100:=λd e=>by have:= B d e;omega
 have f:∀ d∈tr,d<100:=λd e=>AD
 have j:∀(p:Nat->Bool),∀ d∈S4 p,d<100:=λp d e=>by have:= Aeg.1 d e;omega
 have D:D3 (rcN th) (ps.map λp=>rcN (S4 p)) (rcN tr):=⟨Ac2 i Au,λz=>AB,AD,λr h=>by
   obtain⟨p,_,rfl⟩:=yF.mp h;exact Ac2 (j p) (by have:= (Aeg (p:=p)).2;lia),Ac2 f Au⟩
 have q:fwd (rcN th) (ps.map λp=>rcN (S4 p)) (rcN tr) = "" := by
  unfold fwd;have:= Af7 ((rcN th).wd::(ps.map λp=>rcN (S4 p)).map Rc.wd) [(rcN tr).wd] (λw hw=>by
   rcases yG.mp hw with z | z
   ·exact z
   ·obtain⟨r,k,rfl⟩:=yF.mp z;obtain⟨p,_,rfl⟩:=yF.mp k;rfl)
  rw[this];rfl
 have O:=DrO.ok D q (by rw[Aw0];exact F);unfold drT at O;rw[Aw0,Aw0] at O;have C:=Aur F;have n1:=Mr i;have n2:=Mr f;have nm:∀ c∈Dp th++Dp tr,c=32\/48<=c/\c<=57:=λc hc=>by
  rcases zG.mp hc with h | h
  ·exact Yk i h
  ·exact Yk f h
 have l:=AjH i (λz=>by rw[z] at h1;simp at h1);have x:=AjH f (λz=>by rw[z] at o;simp at o);have m:jnS [32,47,32] [Dp th,jnS [44,32] (ps.map λp=>Dp (S4 p)),Dp tr]=Dp th++(([32,47,32]++(jnS [44,32] (ps.map λp=>Dp (S4 p))++[32,47,32]))++Dp tr):=by
  simp[jnS]
 have s:∀ c∈jnS [44,32] (ps.map λp=>Dp (S4 p)),c≠10:=λc hc z=>by
  rcases AjI hc with h | ⟨u,A,h⟩
  ·rw[z] at h;revert h;decide
  ·obtain⟨p,_,rfl⟩:=yF.mp A;have:= Yk (j p) h;lia
 have E:(jnS [44,32] (ps.map λp=>Dp (S4 p))).length<=14*ps.length:=by
  refine Awe (AaQ _ _) (?_:((ps.map λp=>Dp (S4 p)).map λu=>u.length+2).sum<=_);clear m s O q D F C k p1 y
  induction ps with
  | nil=>exact AvN _
  | cons p r H =>
   have a:=Mr (j p);have b:=(Aeg (p:=p)).2;grind
 refine⟨O,C.clo,?_,?_,?_,?_⟩
 ·rw[m];exact l.1.app x.1 l.2 x.2
 ·exact λz=>l.2 (List.append_eq_nil_iff.mp z).1
 ·rw[m];intro z;rcases zG.mp z with z | z
  ·have:= nm 10 (Axb _ z);omega
  ·rcases zG.mp z with z | z
   ·rcases zG.mp z with z | z
    ·revert z;decide
    ·rcases zG.mp z with z | z
     ·exact s 10 z U
     ·revert z;decide
   ·have:= nm 10 (Aw4 _ z);omega
 ·grind
theorem Aqv(N:NL G y rs tss)(j:G q=some (.lst (vI ks)))(b:∀ r∈rs,r≠y)(f:q≠y):NL (upd G y (.lst (rs.map V.ref++[.ref q]))) y (rs++[q]) (tss++[ks]):=by
 refine⟨by rw[Ae,AvO];rfl,by rw[AvL,AvL,N.l];rfl,λi a d h1 h2=>?_⟩;have h:=N.l;by_cases c:i<rs.length
 ·rw[Awg c] at h1;rw[Awg At] at h2;rw[Ai (b a (AvX h1))];exact N.r i a d h1 h2
 ·rw[Awi At] at h1;rw[Awi At,<- h] at h2;have e:i-rs.length=0:=by
   have:=(zC.mp h1).1;rw[Awz] at this;omega
  rw[e] at h1 h2;cases h1;cases h2;rw[Ai f];exact j
inductive Aln (vs:Na)(H:Hp)(Q:VK)(z3:XK):Prop
|mk(z:Int)(_:vs=[.int z])(_:∀ p l u x H',Ba H H'->H p=none->H l=none->H' p=some (.tup [.str (tx u),.ref l])->H' l=some (.lst (vS x))->DtO u x->Q (.ref p) H')
theorem AfE(T:Txt K mg t):Bh P w K mg base CX0 2 t.Aac t.Aad ["cell"] Aln:=by
 refine T.TY.F.ok Fg ?_;rintro _ _ _ _ H _ Q E hr ⟨z,rfl,kQ⟩;refine⟨_,(Ac (Bb (i:=1) Fg.nd U (Or.inl U) (Al ((N5 T).mono Ap) hr U T.Fq.m T.Fq.F.kp T.Fq.b .nil Aq (Aa (pv 0) (Aa Ah (Aa (Aj Ex Ah (Aj Dh (pv 0) Ah)) Ab)))))
  (Ac (Bb (i:=2) Fg.nd U (Or.inr U) (Cu Ab))
  (Ac (Ep PassesOwn.never U (BP (K:=K) (Al ((N5 T).mono Ap) hr U T.Fq.m T.Fq.F.kp T.Fq.b .nil Aq (Aa (Aj EY (pv 0) Ah) (Aa Ah (Aa (Aj Ex Ah (Aj Dh (Aj EY (pv 0) Ah) Ah)) Ab))))) (BJ (i:=3) Fg.nd U (Or.inr U))
   (Ad (Bg (BR (K:=K) zM zL zQ DY (pv 2) (Aa (De (CP.mk (Bj:=[3]) (Nc:=["shaft", "bits"]) U As As (Cr (sc0:=Ag Gv) U As) U rfl U As (λk j h=>match k,h with | 0,h=>by obtain rfl:=Option.some.inj h;exact⟨_,U,U,U⟩ | _+1,h=>by simp at h)) U (Em U T.Fj (Aa Ah Ab)) (λ_ _ _ _ _=>.one (Ak Dd (Aj Dh (Aj EY (pv 1) (Bw (Bf (K:=K)) (Cu (Aa Ah (Aa Ah (Aa Ah (Aa Ah Ab))))) (pv 0) (λ_ _=>rfl))) Ah) Ah (Ar _))) (λ_ _ _ _ _=>(pv 0))) Ab)))))
  (Ac (Bb (i:=4) Fg.nd U (Or.inl U) (Al ((N5 T).mono Ap) hr U T.Fq.m T.Fq.F.kp T.Fq.b .nil Aq (Aa (Aj EY (pv 0) Ah) (Aa (Az (Ax (K:=K)) U T.Ca Bv (Aa (pv 2) Ab)) (Aa (Aj Ex Ah (Aj Dh (Aj EY (pv 0) Ah) Ah)) Ab)))))
  (Ac (Bb (i:=5) Fg.nd U (Or.inl U) (Cu Ab))
  (Ac (Ep PassesOwn.never U (BP (K:=K) (pv 4)) (BJ (i:=6) Fg.nd U (Or.inr U))
   (Ad (Bg (BR (K:=K) zM zL zQ DY (pv 5) (Aa (BR (K:=K) zI zS zV (DR (K:=K)) Af (Aa (De (CP.mk (Bj:=[2,6]) (Nc:=["shaft", "ties", "treadle"]) U As As (Cr (sc0:=Ag Gv) U As) U rfl U As (λk j h=>match k,h with | 0,h=>by obtain rfl:=Option.some.inj h;exact⟨_,U,U,U⟩ | 1,h=>by obtain rfl:=Option.some.inj h;exact⟨_,U,U,U⟩ | _+2,h=>by simp at h)) U (BP (K:=K) (pv 1)) (λ_ _ _ _ _=>.nil) (λ_ _ _ _ _=>(Bw JR Af (Cd Yn U T.Ajk Ae0 (Aa (Hx (Abi (K:=K)) (pv 0) (Bw (Bf (K:=K)) (pv 1) (pv 2) (λ_ _=>rfl)) U) Ab)) (λ_ _=>rfl)))) Ab)) Ab)))))
  (Ac (Bb (i:=7) Fg.nd U (Or.inl U) (Cu (Aa (BR (K:=K) zI zS zV (DR (K:=K)) Af (Aa (De (CP.mk (Bj:=[]) (Nc:=["one"]) U As As (Cr (sc0:=Ag Gv) U As) U rfl U As (λ_ _ h=>by simp at h)) U (BP (K:=K) (pv 1)) (λ_ _ _ _ _=>.nil) (λ_ _ _ _ _=>(Cd Ec U T.Vn Nq (Aa (pv 0) Ab)))) Ab)) Ab)))
  (Ac (Bg (BR (K:=K) zM zL zQ DY (pv 7) (Aa (BR (K:=K) zI zS zV (DR (K:=K)) Af (Aa (De (CP.mk (Bj:=[]) (Nc:=["tie"]) U As As (Cr (sc0:=Ag Gv) U As) U rfl U As (λ_ _ h=>by simp at h)) U (BP (K:=K) (pv 2)) (λ_ _ _ _ _=>.nil) (λ_ _ _ _ _=>(BR (K:=K) zI zS zV (DR (K:=K)) Af (Aa (De (CP.mk (Bj:=[]) (Nc:=["one"]) U As As (Agp As) U rfl U As (λ_ _ h=>by simp at h)) U (BP (K:=K) (pv 0)) (λ_ _ _ _ _=>.nil) (λ_ _ _ _ _=>(Cd Ec U T.Vn Nq (Aa (pv 0) Ab)))) Ab)))) Ab)) Ab)))
  (Ac (Bg (BR (K:=K) zM zL zQ DY (pv 7) (Aa (BR (K:=K) zI zS zV (DR (K:=K)) Af (Aa (De (CP.mk (Bj:=[]) (Nc:=["one"]) U As As (Cr (sc0:=Ag Gv) U As) U rfl U As (λ_ _ h=>by simp at h)) U (BP (K:=K) (pv 4)) (λ_ _ _ _ _=>.nil) (λ_ _ _ _ _=>(Cd Ec U T.Vn Nq (Aa (pv 0) Ab)))) Ab)) Ab)))
  (Ad (Ay (CZ (Aa (BR (K:=K) zI zS zV (DR (K:=K)) Af (Aa (pv 7) Ab)) (Aa (pv 5) Ab)))))))))))))),?_⟩;have ap:sizeLine=16777216:=yA;rw[Ud,Af6,Acz,w_n,Auq];obtain⟨m1,ax,an⟩:∃ n:Nat,n<5/\1+z%5=((1+n:Nat):Int):=⟨(z%5).toNat,At,At⟩;obtain⟨m2,b1,aj⟩:∃ n:Nat,n<3/\1+z / 5%3=((1+n:Nat):Int):=⟨(z / 5%3).toNat,At,At⟩;obtain⟨m3,b0,am⟩:∃ n:Nat,n<4/\1+z / 15%4=((1+n:Nat):Int):=⟨(z / 15%4).toNat,At,At⟩;refine⟨_,U,_,U,_,_,U,U,Ap,_,_,U,U,z,4,1+m1,(by rw[an];rfl),Ap,Ap,At,λl1 th H1 s1 ar a0 au ht=>?_⟩;refine Dc U rfl ?_;refine⟨AK,λT0 S=>?_⟩;have s2:Ba H1 (upd H1 T0 (.lst [])):=.upd S;have N2:NL (upd H1 T0 (.lst [])) T0 [] []:=⟨Ae,U,λi a ks h=>by simp at h⟩;have fT:H T0=none:=s1.free S;generalize upd H1 T0 (.lst [])=H2 at s2 N2 ⊢;refine Dc U rfl ?_;have u2:=s1.trans s2;refine⟨_,U,_,_,U,U,⟨Ap,Ap⟩,_,U,_,_,U,U,⟨Ap,Ap⟩,_,_,U,U,Ap,_,_,U,U,z / 7,16,1+m2,(by rw[aj];rfl),Ap,Ap,At,λl2 bs H3 s3 av a5 ak _=>?_⟩;have u3:=u2.trans s3;have ah:l1≠T0:=Bc a0 S;refine⟨_,U,⟨_,SqL.of a5⟩,Gb (K:=K) (a:=l2) (xs:=vI (ofN bs)) (λi σ G=>∃(v3:Option V)(rs:NU)(ps:List (Nat->Bool)),σ=[some (.int z),some (.ref l1),some (.ref T0),v3,none,none,none,none]/\Ba H G/\G l1=some (.lst (vI (ofN th)))/\G l2=some (.lst (vI (ofN bs)))/\NL G T0 rs (ps.map λp=>ofN (S4 p))/\(∀ r∈rs,r≠T0)/\ps.length=i) ⟨none,[],[],U,u3,(s2.trans s3) _ _ a0,a5,N2.same s3,λr h=>by simp at h,U⟩ (λi σ G _ ⟨_,_,_,_,_,_,h,_⟩=>SqL.of h) ?_ ?_⟩
 ·rintro i xv σ G hx ⟨v3,rs,ps,rfl,sG,D,I,N,Z,hp⟩;obtain⟨b,hb,rfl⟩:=La hx;have aw:=(zC.mp hb).1;have a7:(ofN bs).length=bs.length:=AvK _;have al:l2≠T0:=λe=>by
   have:=N.h;rw[<- e,I] at this;injection this with this;injection this with this;have h0:(vI (ofN bs))[i]?=some (.int b):=JV hb;rw[this,AvS] at h0;cases h:rs[i]? with
   | none=>rw[h] at h0;cases h0
   | some r=>rw[h] at h0;cases h0
  refine Dc U rfl ?_;refine⟨_,U,.inl ⟨U,_,SqL.of N.h⟩,_,U,Ap,Ap,?_⟩;refine Gp (lo:=0) (n:=4) (λj ys f=>Ba G f/\ys=vI (ofN ((List.range j).filter λs=>decide ((V.int (b / ([1,2,4,8].getD s 1)%2):V)=V.int 1)))) ⟨.refl _,U⟩ ?_ ?_ ?_ ?_
  ·rintro j ys f hj ⟨J,rfl⟩;have:(ofN ((List.range j).filter λs=>decide ((V.int (b / ([1,2,4,8].getD s 1)%2):V)=V.int 1))).length<=j:=by
    unfold ofN;rw[AvK];exact Awe (List.length_filter_le _ _) (by rw[Awp];exact AvN _)
   rw[Cj];exact this
  ·decide
  ·rintro j ys f hj ⟨J,rfl⟩;unfold Eo;have ao:atI [V.int 1,V.int 2,V.int 4,V.int 8] (0+(j:Int))=some (V.int ([1,2,4,8].getD j 1)):=by
    rw[Aw3];have h4:j=0\/j=1\/j=2\/j=3:=At
    rcases h4 with rfl | rfl | rfl | rfl <;> exact BL Ap U
   have pw:(0:Int)<[1,2,4,8].getD j 1/\[1,2,4,8].getD j (1:Int)<1073741824:=by
    have h4:j=0\/j=1\/j=2\/j=3:=At
    rcases h4 with rfl | rfl | rfl | rfl <;> decide
   refine⟨_,U,(by show 4<=sizeLine;decide),λq nq=>⟨_,U,q,_,_,_,U,U,SqL.of Ae,ao,_,_,U,U,pw,_,_,U,U,Ap,U,_,U,?_⟩⟩;have A:=J.new (o:=.lst [V.int 1,V.int 2,V.int 4,V.int 8]) nq;generalize upd f q (.lst [V.int 1,V.int 2,V.int 4,V.int 8])=G3 at A ⊢;refine Cw (λc=>⟨_,U,CN.of hj ⟨A,?_⟩⟩) (λc=>CN.of hj ⟨A,?_⟩)
   ·rw[Aw1,Ax2,List.filter_cons_of_pos (by exact zN c),List.filter_nil,Aw3];unfold ofN vI;rw[AvO,AvO];rfl
   ·rw[Aw1,Ax2,List.filter_cons_of_neg (by rw[zJ c];decide),List.filter_nil,Awo]
  ·rintro ys f q ⟨J,rfl⟩ nq;have hq:(upd f q (.lst (vI (ofN (S4 λs=>decide ((V.int (b / ([1,2,4,8].getD s 1)%2):V)=V.int 1)))))) q=some (.lst (vI (ofN (S4 λs=>decide ((V.int (b / ([1,2,4,8].getD s 1)%2):V)=V.int 1))))):=Ae;have A:=J.new (o:=.lst (vI (ofN (S4 λs=>decide ((V.int (b / ([1,2,4,8].getD s 1)%2):V)=V.int 1))))) nq;have qT:q≠T0:=λe=>by rw[e] at nq;have:=J _ _ N.h;rw[nq] at this;cases this
   show Ai9 (V.ref T0) [V.ref q] (upd f q (.lst (vI (ofN (S4 λs=>decide ((V.int (b / ([1,2,4,8].getD s 1)%2):V)=V.int 1)))))) _;generalize (λs=>decide ((V.int (b / ([1,2,4,8].getD s 1)%2):V)=V.int 1))=p at hq A ⊢;generalize upd f q (.lst (vI (ofN (S4 p))))=G3 at hq A ⊢;have N3:=N.same A;have rl:rs.length<=100:=by
    have e1:=N.l;rw[AvK] at e1;omega
   refine⟨_,_,_,U,U,N3.h,(by rw[AvK];omega),?_⟩;refine⟨_,rs++[q],ps++[p],U,(sG.trans A).over fT,?_,?_,?_,λr hr=>?_,by rw[AvL,hp];rfl⟩
   ·rw[Ai ah];exact A _ _ D
   ·rw[Ai al];exact A _ _ I
   ·rw[AvO];exact Aqv N3 hq Z qT
   ·rcases zG.mp hr with h | h
    ·exact Z r h
    ·rw[zF.mp h];exact qT
 rintro σ G ⟨v3,rs,ps,rfl,sG,D,I,N,Z,hp⟩;have pl:ps.length=1+m2:=by
  rw[hp,Cj];exact(AvK _).trans ak
 have Nl:=N.l;rw[AvK] at Nl;refine⟨_,U,_,_,U,U,⟨Ap,Ap⟩,_,U,_,_,U,.inl (SqL.of N.h),_,U,_,_,U,U,⟨Ap,Ap⟩,_,_,U,U,Ap,_,_,U,U,z / 3,ps.length,1+m3,(by rw[am,AvK,Nl];rfl),At,At,At,λl4 tr L J b2 W az a3=>?_⟩;refine Dc U rfl ?_;have u4:=sG.trans J;have h1:=J _ _ D;have N4:=N.same J;clear D I N sG a0 a5 s1 s2 s3 u2 u3 N2;refine⟨AK,λC Y=>?_⟩;have A:Ba L (upd L C (.lst [])):=.upd Y;have hR:(upd L C (.lst [])) C=some (.lst (vS (wv (ofN th) (ps.map λp=>ofN (S4 p)) (ofN (tr.take 0))))):=Ae;generalize upd L C (.lst [])=H5 at A hR ⊢;refine Dc U rfl ?_;have a7:(ofN tr).length=tr.length:=AvK _;have ay:(ofN th).length=th.length:=AvK _;refine⟨_,U,_,U,⟨_,SqL.of (A _ _ W)⟩,Gb (K:=K) (a:=l4) (xs:=vI (ofN tr)) (λi σ G=>∃(v6:Option V),σ=[some (.int z),some (.ref l1),some (.ref T0),v3,some (.ref l4),some (.ref C),v6,none]/\Ba L G/\G C=some (.lst (vS (wv (ofN th) (ps.map λp=>ofN (S4 p)) (ofN (tr.take i)))))) ⟨none,U,A,hR⟩ (λi σ G _ ⟨_,_,s,_⟩=>SqL.of (s _ _ W)) ?_ ?_⟩
 ·rintro i xv σ G hx ⟨v6,rfl,M,hG⟩;obtain⟨v,hv,rfl⟩:=La hx;have as:=(zC.mp hv).1;unfold ofN at hv;rw[AvS] at hv;obtain⟨d,R,rfl⟩:=zU.mp hv;have dp:=a3 d (AvX R);have dr:d<rs.length:=At
  have ed:(ps.map λp=>ofN (S4 p))[d]?=some (ofN (S4 ps[d])):=by rw[AvS,AvM dp];rfl
  have B:=(N4.same M).r d rs[d] _ (AvM dr) ed;refine Dc U rfl ?_;refine⟨_,U,.inl ⟨U,_,SqL.of hG⟩,U,_,U,_,U,⟨_,SqL.of (M _ _ h1)⟩,Dk (K:=K) (a:=l1) (xs:=vI (ofN th)) (λj ys f=>f=G/\ys=vS (((ofN th).take j).map λs=>[if s∈ofN (S4 ps[d]) then 35 else 46])) ⟨U,U⟩ ?_ ?_ ?_ ?_⟩
  ·rintro j ys f hj ⟨rfl,rfl⟩;refine⟨SqL.of (M _ _ h1),?_⟩;rw[Be,AvK,AvW];exact AwS _ _
  ·rw[Cj];exact Cm At
  ·rintro j xv ys f hj ac ⟨rfl,rfl⟩;obtain⟨s,hs,rfl⟩:=La ac;refine Eo.no ?_;refine⟨_,U,_,U,_,U,T0,_,_,_,U,U,SqL.of (N4.same M).h,BL (by show(0:Int)<=(d:Int);omega) (by rw[AvS];show Option.map _ (rs[(d:Int).toNat]?)=_;rw[AvZ,AvM dr];rfl),_,_,U,.inl (SqL.of B),U,AiD _,.inr ⟨_,U,?_⟩⟩;show AsY _ (V.int (if (inV (.int s) (vI (ofN (S4 ps[d]))))=true then 1 else 0)) _ _;rw[AhA];refine⟨_,_,_,U,U,(by rw[Aw];exact big Ap),Aop,?_⟩;rw[Ha];refine CN.of hj ⟨U,?_⟩;rw[Dv,AvT,hs,AvO];rfl
  ·rintro ys f p ⟨rfl,rfl⟩ np;rw[Cj,Awa];have e1:=Akb (λs:Int=>if s∈ofN (S4 ps[d]) then 35 else 46) (ofN th);have e2:=Qs (λs:Int=>if s∈ofN (S4 ps[d]) then 35 else 46) (ofN th);refine⟨_,_,(((ofN th).map λs=>[if s∈ofN (S4 ps[d]) then 35 else 46]).map tx),U,U,SqL.of (by rw[Ae,Gr]),?_,?_⟩
   ·rw[e1,AvK,AvK,Aw];show _+_*0<=_;omega
   ·rw[GF,e2];have sp:Ba f (upd f p (.lst (vS ((ofN th).map λs=>[if s∈ofN (S4 ps[d]) then 35 else 46])))):=.upd np;generalize upd f p (.lst (vS ((ofN th).map λs=>[if s∈ofN (S4 ps[d]) then 35 else 46])))=G3 at sp ⊢;refine⟨_,_,_,U,U,sp _ _ hG,(by rw[Be,AhL];unfold ofN;rw[AvK,AvW];omega),?_⟩;refine⟨_,U,(M.trans sp).over Y,?_⟩;rw[Ae,Dv,AvT,R]
    congr 3
    unfold ofN wv;rw[AvO,AvO]
    congr 1
    show[_]=[shd _ ((ps.map λp=>ofN (S4 p)).getD ((d:Nat):Int).toNat [])];rw[AvZ,Awv,ed];rfl
 rintro σ G ⟨v6,rfl,M,hG⟩;rw[Cj,a7,Awa] at hG;have t1:∀ d∈th,d<100:=λd R=>by have:=ht d R;omega
 have t2:∀ d∈tr,d<100:=λd R=>by have:=a3 d R;omega
 have t3:∀(p:Nat->Bool),∀ d∈S4 p,d<100:=λp d R=>by have:=Aeg.1 d R;omega
 refine Zk (l:=l1) (ds:=th) (λk h=>⟨_,U,h⟩) (M _ _ h1) t1 At λG1 g1=>?_;have v1:=M.trans g1;have ag:∀{y:Addr},G1 y=none->L y=none:=λh=>v1.free h;refine⟨AG,λy X=>?_⟩;have fP:=ag X;have a8:=g1 _ _ hG;have RP:C≠y:=Bc a8 X;have sP:Ba G1 (upd G1 y (.lst [V.str (tx (Dp th))])):=.upd X;have hP:(upd G1 y (.lst [V.str (tx (Dp th))])) y=some (.lst (vS [Dp th])):=Ae;generalize upd G1 y (.lst [V.str (tx (Dp th))])=f at sP hP ⊢;refine Dc U rfl ?_;have v2:Ba L f:=v1.trans sP;have af:=sP _ _ a8;have rl:rs.length<=3:=At
 refine⟨_,U,.inl ⟨U,_,SqL.of hP⟩,U,_,U,_,U,⟨_,SqL.of (N4.same v2).h⟩,Dk (K:=K) (a:=T0) (xs:=rs.map V.ref) (λi ys G3=>Ba f G3/\ys=vS ((ps.take i).map λp=>Dp (S4 p))) ⟨.refl _,U⟩ ?_ ?_ ?_ ?_⟩
 ·rintro i ys G3 hi ⟨s7,rfl⟩;refine⟨SqL.of (s7 _ _ (N4.same v2).h),?_⟩;rw[Be,AvK,AvW];exact AwS _ _
 ·rw[AvK];omega
 ·rintro i xv ys G3 hi hx ⟨s7,rfl⟩;rw[AvS] at hx;obtain⟨r,ab,rfl⟩:=zU.mp hx;have aq:=(zC.mp ab).1;have aa:i<ps.length:=At
  have B:=((N4.same v2).same s7).r i r (ofN (S4 ps[i])) ab (by rw[AvS,AvM aa];rfl);refine Eo.no ?_;refine Zk (l:=r) (ds:=S4 ps[i]) (λk h=>⟨_,U,h⟩) B (t3 _) (by have:=(Aeg (p:=ps[i])).2;omega) λG4 g4=>?_;refine CN.of hi ⟨s7.trans g4,?_⟩;rw[Dv,AvT,AvM aa,AvO];rfl
 rintro ys G3 p ⟨s7,rfl⟩ np;rw[show(rs.map V.ref).length=ps.length by rw[AvK];omega,Awa];obtain⟨G4,e9,s8,ae⟩:=nu9 (o:=.lst (vS (ps.map λp=>Dp (S4 p)))) s7 np;rw[e9];have fl:=AaS (k:=12) (x:=ps.map λp=>Dp (S4 p)) (λu hu=>by
  obtain⟨p,_,rfl⟩:=yF.mp hu;have:=Mr (t3 p);have:=(Aeg (p:=p)).2;omega)
 rw[AvK] at fl;refine⟨_,_,((ps.map λp=>Dp (S4 p)).map tx),U,U,SqL.of (by rw[ae,Gr]),(by rw[Ip,AvK,AvK,Aw];show _+_*2<=_;omega),?_⟩;rw[Tn];refine⟨_,_,_,U,U,s8 _ _ hP,(by rw[Be];show 1<sizeLine;decide),?_⟩;have v5:Ba L (upd G4 y (.lst (vS [Dp th]++[V.str (tx (jnS [44,32] (ps.map λp=>Dp (S4 p))))]))):=(v2.trans s8).over fP;have a1:(upd G4 y (.lst (vS [Dp th]++[V.str (tx (jnS [44,32] (ps.map λp=>Dp (S4 p))))]))) y=some (.lst (vS [Dp th,jnS [44,32] (ps.map λp=>Dp (S4 p))])):=Ae;have a9:(upd G4 y (.lst (vS [Dp th]++[V.str (tx (jnS [44,32] (ps.map λp=>Dp (S4 p))))]))) C=_:=(Ai RP).trans (s8 _ _ af);generalize upd G4 y (.lst (vS [Dp th]++[V.str (tx (jnS [44,32] (ps.map λp=>Dp (S4 p))))]))=G5 at v5 a1 a9 ⊢;refine⟨_,U,.inl ⟨U,_,SqL.of a1⟩,?_⟩;refine Zk (l:=l4) (ds:=tr) (λk h=>⟨_,U,h⟩) (v5 _ _ W) t2 At λG6 g6=>?_;refine⟨_,_,_,U,U,g6 _ _ a1,(by rw[Be];show 2<sizeLine;decide),?_⟩;have v7:Ba L (upd G6 y (.lst (vS [Dp th,jnS [44,32] (ps.map λp=>Dp (S4 p))]++[V.str (tx (Dp tr))]))):=(v5.trans g6).over fP;have a6:(upd G6 y (.lst (vS [Dp th,jnS [44,32] (ps.map λp=>Dp (S4 p))]++[V.str (tx (Dp tr))]))) y=some (.lst (vS [Dp th,jnS [44,32] (ps.map λp=>Dp (S4 p)),Dp tr])):=Ae;have a2:(upd G6 y (.lst (vS [Dp th,jnS [44,32] (ps.map λp=>Dp (S4 p))]++[V.str (tx (Dp tr))]))) C=_:=(Ai RP).trans (g6 _ _ a9);generalize upd G6 y (.lst (vS [Dp th,jnS [44,32] (ps.map λp=>Dp (S4 p))]++[V.str (tx (Dp tr))]))=G7 at v7 a6 a2 ⊢;have O:=Aut (th:=th) (tr:=tr) (ps:=ps) At At ht At At At At a3;have lO:=O.l;have n1:=Mr t1;have n2:=Mr t2;have lJ:(jnS [44,32] (ps.map λp=>Dp (S4 p))).length<=300:=by
  refine Awe ?_ lO;simp[jnS];omega
 refine⟨U,_,U,_,_,[Dp th,jnS [44,32] (ps.map λp=>Dp (S4 p)),Dp tr].map tx,U,U,SqL.of (by rw[a6,Gr]),?_,?_⟩
 ·rw[Ip,AvK,Aw];simp only [Awl,List.flatten_nil,AvL,AvQ,Awn];omega
 ·rw[Tn];refine⟨_,U,AH,λp9 a4=>?_⟩;have w7:=u4.trans v7;refine kQ p9 C _ _ _ (w7.new a4) (w7.free a4) (u4.free Y) Ae ?_ O;rw[Ai (Bc a2 a4)];exact a2
end
structure PL (H:Hp)(rs:NU)(ps:List (NI × Str)):Prop where
 l:rs.length=ps.length
 r:∀(i:Nat)(a:Addr)(p:NI × Str),rs[i]?=some a->ps[i]?=some p->H a=some (.tup [.str (tx p.1),.str p.2])
theorem PL.same(N:PL H rs ps)(s:Ba H H'):PL H' rs ps:=⟨N.l,λi a p h1 h2=>s _ _ (N.r i a p h1 h2)⟩
theorem PL.add{p:NI × Str}(N:PL H rs ps)(h:H a=some (.tup [.str (tx p.1),.str p.2])):PL H (rs++[a]) (ps++[p]):=by
 have d:=N.l;refine⟨by rw[AvL,AvL,d];rfl,λi b q h1 h2=>?_⟩;by_cases c:i<rs.length
 ·rw[Awg c] at h1;rw[Awg At] at h2;exact N.r i b q h1 h2
 ·rw[Awi At] at h1;rw[Awi At,<- d] at h2;have e:i-rs.length=0:=by
   have:=(zC.mp h1).1;rw[Awz] at this;omega
  rw[e] at h1 h2;cases h1;cases h2;exact h
section
variable {K:NF}{base:Heap}{t:Adr}
theorem Dm(N:PL G rs ps)(k:∀ p G',Ba G G'->PL G' (rs++[p]) (ps++[(u,wd)])->Q (.ref p) G'):Ahy Q [.str (tx u),.str wd] G :=
 ⟨AH,λp np=>k p _ (.upd np) ((N.same (.upd np)).add Ae)⟩
theorem fa1:Str.ofString "rows(#)" = tx [114,111,119,115,40,35,41]:=As
theorem fa2:Str.ofString "? = rows(#)" = tx [63,32,61,32,114,111,119,115,40,35,41]:=As
theorem fa3:Str.ofString "mirror = rows(#)" = tx [109,105,114,114,111,114,32,61,32,114,111,119,115,40,35,41]:=As
theorem fb1:Str.ofString "toolongtoolongtoolong = rows(#)" = tx [116,111,111,108,111,110,103,116,111,111,108,111,110,103,116,111,111,108,111,110,103,32,61,32,114,111,119,115,40,35,41]:=As
theorem fb2:Str.ofString " = mirror(" = tx [32,61,32,109,105,114,114,111,114,40]:=As
theorem fb3:Str.ofString " = beside(rows(#),rows(#,.))" = tx [32,61,32,98,101,115,105,100,101,40,114,111,119,115,40,35,41,44,114,111,119,115,40,35,44,46,41,41]:=As
theorem fb4:Str.ofString " = twill(20,21)" = tx [32,61,32,116,119,105,108,108,40,50,48,44,50,49,41]:=As
theorem fb5:Str.ofString " : 0 1 / 0" = tx [32,58,32,48,32,49,32,47,32,48]:=As
theorem fb6:Str.ofString " : 0 1 / 0 / 0 1" = tx [32,58,32,48,32,49,32,47,32,48,32,47,32,48,32,49]:=As
theorem fb7:Str.ofString " : 0 01 / 0 / 0" = tx [32,58,32,48,32,48,49,32,47,32,48,32,47,32,48]:=As
theorem fb8:Str.ofString " : 0 / 0 / 9*(9*(9*(0)))" = tx [32,58,32,48,32,47,32,48,32,47,32,57,42,40,57,42,40,57,42,40,48,41,41,41]:=As
theorem fb9:Str.ofString " = " = tx [32,61,32]:=As
theorem Av7:Str.ofString " :" = tx [32,58]:=As
theorem Av8:Str.ofString " = back(" = tx [32,61,32,98,97,99,107,40]:=As
theorem Av9:Str.ofString " : 0 1 / 0=0 / 0" = tx [32,58,32,48,32,49,32,47,32,48,61,48,32,47,32,48]:=As
theorem AvA:Str.ofString " : 0 = 0" = tx [32,58,32,48,32,61,32,48]:=As
theorem AvB:Str.ofString " = back(rows(#)) : 0" = tx [32,61,32,98,97,99,107,40,114,111,119,115,40,35,41,41,32,58,32,48]:=As
theorem fc1:Str.ofString " = no" = tx [32,61,32,110,111]:=As
theorem fc2:Str.ofString " : 0 / 0" = tx [32,58,32,48,32,47,32,48]:=As
theorem JN{l:Addr}{new:NU}(c:G l=some (.lst (rs.map V.ref)))(N:PL G (rs++new) ps)(e:rs.length+new.length<=100)(k:∀ l' G',Ba G G'->G' l'=some (.lst ((rs++new).map V.ref))->PL G' (rs++new) ps->Q (.ref l') G'):AlB (λy H1=>Atf (.ref l) y H1 Q) (new.map V.ref) G:=by have d:sizeLine=16777216:=yA;refine⟨(by rw[AvK];omega),λb nb=>⟨_,_,_,_,U,U,(by rw[Ai (Bc c nb)];exact c),Ae,(by rw[AvK,AvK];omega),λl' a=>?_⟩⟩;have s1:Ba G (upd G b (.lst (new.map V.ref))):=.upd nb;exact k l' _ (s1.new a) (by rw[Ae,AvO]) (N.same (s1.new a))
theorem AjJ(N:PL G rs ps)(e:0<rs.length)(z:Int):∃(a:Addr)(p:NI × Str),atI (rs.map V.ref) (z%((rs.map V.ref).length:Int))=some (.ref a)/\p∈ps/\G a=some (.tup [.str (tx p.1),.str p.2]):=by
 have b:=AwF z (show((rs.map V.ref).length:Int)≠0 by rw[AvK];omega);have d:=Axa z (show(0:Int)<((rs.map V.ref).length:Int) by rw[AvK];omega);rw[AvK] at b d ⊢;have f:=N.l;have hi:(z%(rs.length:Int)).toNat<rs.length:=At
 have c:(z%(rs.length:Int)).toNat<ps.length:=At
 exact⟨_,_,BL b (by rw[AvS,AvM hi];rfl),Awh c,N.r _ _ _ (AvM hi) (AvM c)⟩
inductive Alo (vs:Na)(H:Hp)(Q:VK)(z3:XK):Prop
|mk(z:Int)(nm:NI)(af:NI)(kp:Addr)(kn:Kns)(_:vs=[.int z,.str (tx nm),.str (tx af),.ref kp])(_:Kn H kp kn)(_:kn.length<=100)(_:Kno kn)(_:Nm nm)(_:Nm af)(_:(∀ q∈kn,¬q.1=nm))(_:(∀ q∈kn,¬q.1=af))(_:∀ p u wd H',Ba H H'->H' p=some (.tup [.str (tx u),.str wd])->Flt kn u wd->Q (.ref p) H')
theorem AfF(T:Txt K mg t):Bh P w K mg base CX0 1 t.Aae t.Aaf ["cell", "name", "after", "made"] Alo:=by
 refine T.Ua.F.ok Ed ?_;rintro _ _ _ _ H _ Q E hr ⟨z,nm,m,kp,kn,rfl,hK,hl,KN,N,M,hz,ha,kQ⟩;refine⟨_,(Ac (Bb (i:=4) Ed.nd U (Or.inl U) (Cu (Aa (CZ (Aa Af (Aa Af Ab))) (Aa (CZ (Aa Af (Aa Af Ab))) (Aa (CZ (Aa Af (Aa Af Ab))) Ab)))))
  (Ac (Bb (i:=4) Ed.nd U (Or.inl U) (Aj Nk (pv 4) (Cu (Aa (CZ (Aa Af (Aa Af Ab))) (Aa (CZ (Aa (Aj Am (Aj Am (Aj Am (pv 1) Af) (pv 2)) Af) (Aa Af Ab))) Ab)))))
  (Ac (Bb (i:=4) Ed.nd U (Or.inl U) (Aj Nk (pv 4) (Cu (Aa (CZ (Aa (Aj Am (pv 1) Af) (Aa Af Ab))) (Aa (CZ (Aa (Aj Am (pv 1) Af) (Aa Af Ab))) Ab)))))
  (Ac (Bb (i:=4) Ed.nd U (Or.inl U) (Aj Nk (pv 4) (Cu (Aa (CZ (Aa (Aj Am (pv 1) Af) (Aa Af Ab))) (Aa (CZ (Aa (Aj Am (pv 1) Af) (Aa Af Ab))) Ab)))))
  (Ac (Bb (i:=4) Ed.nd U (Or.inl U) (Aj Nk (pv 4) (Cu (Aa (CZ (Aa (Aj Am (pv 1) Af) (Aa Af Ab))) (Aa (CZ (Aa (Aj Am (pv 1) Af) (Aa Af Ab))) Ab)))))
  (Ac (Bb (i:=4) Ed.nd U (Or.inl U) (Aj Nk (pv 4) (Cu (Aa (CZ (Aa (Aj Am (pv 1) Af) (Aa Af Ab))) (Aa (CZ (Aa (Aj Am (pv 1) Af) (Aa Af Ab))) (Aa (CZ (Aa (Aj Am (Aj Am (Aj Am (pv 1) Af) (pv 1)) Af) (Aa Af Ab))) Ab))))))
  (Ac (Bb (i:=4) Ed.nd U (Or.inl U) (Aj Nk (pv 4) (Cu (Aa (CZ (Aa (Aj Am (pv 1) Af) (Aa Af Ab))) (Aa (CZ (Aa (Aj Am (pv 1) Af) (Aa Af Ab))) Ab)))))
  (Ac (Bb (i:=4) Ed.nd U (Or.inl U) (Aj Nk (pv 4) (Cu (Aa (CZ (Aa (Aj Am (pv 1) Af) (Aa Af Ab))) Ab))))
  (Ac (Bm (Ak Hr (Az (Ax (K:=K)) U T.Ca Bv (Aa (pv 3) Ab)) Ah (Ar _))
   (Ad (Bb (i:=4) Ed.nd U (Or.inl U) (Aj Nk (pv 4) (Cu (Aa (CZ (Aa (Aj Am (Bw (Gi (K:=K)) (Bw (Bf (K:=K)) (pv 3) (Aj Dh (Aj EY (pv 0) Ah) (Az (Ax (K:=K)) U T.Ca Bv (Aa (pv 3) Ab))) (λ_ _=>rfl)) Ah (λ_ _=>rfl)) Af) (Aa Af Ab))) (Aa (CZ (Aa (Aj Am (Bw (Gi (K:=K)) (Bw (Bf (K:=K)) (pv 3) Ah (λ_ _=>rfl)) Ah (λ_ _=>rfl)) Af) (Aa Af Ab))) Ab))))))
   Ao)
  (Ad (Ay (Bw (Bf (K:=K)) (pv 4) (Aj Dh (pv 0) (Az (Ax (K:=K)) U T.Ca Bv (Aa (pv 4) Ab))) (λ_ _=>rfl))))))))))))),?_⟩;have b7:sizeLine=16777216:=yA;have b:=N.l;have bb:=M.l;rw[w_e,fa1,fa2,fa3,fb1,fb2,fb3,fb4,fb5,fb6,fb7,fb8,fb9,Av7,Av8,Av9,AvA,AvB,fc1,fc2];refine Dm (rs:=[]) (ps:=[]) (u:=[114,111,119,115,40,35,41]) ⟨U,λi a p h=>by simp at h⟩ λp1 G1 s1 N1=>?_;refine Dm N1 λp2 G2 s2 N2=>?_;refine Dm N2 λf G3 s3 N3=>?_;have S3:=(s1.trans s2).trans s3;refine⟨AI,λl nl=>?_⟩;have N4:=N3.same (Ba.upd (o:=.lst [.ref p1,.ref p2,.ref f]) nl);have S4:=S3.new (o:=.lst [.ref p1,.ref p2,.ref f]) nl;have a0:(upd G3 l (.lst [.ref p1,.ref p2,.ref f])) l=some (.lst ([p1,p2,f].map V.ref)):=Ae;generalize upd G3 l (.lst [.ref p1,.ref p2,.ref f])=G at N4 S4 a0 ⊢;refine Dc (σ':=[some (.int z),some (.str (tx nm)),some (.str (tx m)),some (.ref kp),some (.ref l)]) U rfl ?_;clear N1 N2 N3 s1 s2 s3 S3 nl;refine⟨_,U,?_⟩;refine Dm N4 λA g4 s4 n4=>?_;refine⟨_,U,_,_,U,U,ln9 (by rw[b];exact Awm U),?_⟩;rw[Bs];refine⟨_,U,_,_,U,U,ln9 (by simp only [AvL,AvQ,Awn];omega),?_⟩;rw[Bs];refine⟨_,_,U,U,ln9 (by simp only [AvL,AvQ,Awn];omega),?_⟩;rw[Bs];rw[show nm++[32,61,32,109,105,114,114,111,114,40]++m++[41]=nm++(32::61::32::(miW++(40::(m++[41])))) by simp[miW]];refine Dm n4 λy g5 s5 n5=>?_;refine JN (rs:=[p1,p2,f]) (new:=[A,y]) ((s4.trans s5) _ _ a0) n5 (Awm U) λl0 H0 t0 av az=>?_;have T0:=(S4.trans (s4.trans s5)).trans t0;refine Dc (σ':=[some (.int z),some (.str (tx nm)),some (.str (tx m)),some (.ref kp),some (.ref l0)]) U rfl ?_;clear S4 a0 N4 s4 s5 n4 n5 t0;refine⟨_,U,?_⟩;refine⟨_,U,_,_,U,U,ln9 (by rw[b];exact Awm U),?_⟩;rw[Bs];refine Dm az λD g6 s6 n6=>?_;refine⟨_,U,_,_,U,U,ln9 (by rw[b];exact Awm U),?_⟩;rw[Bs];refine Dm n6 λC g7 s7 n7=>?_;refine JN (rs:=[p1,p2,f,A,y]) (new:=[D,C]) ((s6.trans s7) _ _ av) n7 (Awm U) λl1 H1 t1 L ah=>?_;have T1:=(T0.trans (s6.trans s7)).trans t1;refine Dc (σ':=[some (.int z),some (.str (tx nm)),some (.str (tx m)),some (.ref kp),some (.ref l1)]) U rfl ?_;clear T0 av az s6 s7 n6 n7 t1;refine⟨_,U,?_⟩;refine⟨_,U,_,_,U,U,ln9 (by rw[b];exact Awm U),?_⟩;rw[Bs];refine Dm ah λO g8 S n8=>?_;refine⟨_,U,_,_,U,U,ln9 (by rw[b];exact Awm U),?_⟩;rw[Bs];refine Dm n8 λW g9 s9 n9=>?_;refine JN (rs:=[p1,p2,f,A,y,D,C]) (new:=[O,W]) ((S.trans s9) _ _ L) n9 (Awm U) λl2 H2 t2 R ac=>?_;have T2:=(T1.trans (S.trans s9)).trans t2;refine Dc (σ':=[some (.int z),some (.str (tx nm)),some (.str (tx m)),some (.ref kp),some (.ref l2)]) U rfl ?_;clear T1 L ah S s9 n8 n9 t2;refine⟨_,U,?_⟩;refine⟨_,U,_,_,U,U,ln9 (by rw[b];exact Awm U),?_⟩;rw[Bs];refine Dm ac λd bd a4 b1=>?_;refine⟨_,U,_,_,U,U,ln9 (by rw[b];exact Awm U),?_⟩;rw[Bs];refine Dm b1 λj b9 a6 ao=>?_;refine JN (rs:=[p1,p2,f,A,y,D,C,O,W]) (new:=[d,j]) ((a4.trans a6) _ _ R) ao (Awm U) λl3 H3 t3 a9 b0=>?_;have T3:=(T2.trans (a4.trans a6)).trans t3;refine Dc (σ':=[some (.int z),some (.str (tx nm)),some (.str (tx m)),some (.ref kp),some (.ref l3)]) U rfl ?_;clear T2 R ac a4 a6 b1 ao t3;refine⟨_,U,?_⟩;refine⟨_,U,_,_,U,U,ln9 (by rw[b];exact Awm U),?_⟩;rw[Bs];refine Dm b0 λr b8 X ak=>?_;refine⟨_,U,_,_,U,U,ln9 (by rw[b];exact Awm U),?_⟩;rw[Bs];refine Dm ak λk be Z au=>?_;refine⟨_,U,_,_,U,U,ln9 (by rw[b];exact Awm U),?_⟩;rw[Bs];refine⟨_,U,_,_,U,U,ln9 (by simp only [AvL,AvQ,Awn];omega),?_⟩;rw[Bs];refine⟨_,_,U,U,ln9 (by simp only [AvL,AvQ,Awn];omega),?_⟩;rw[Bs];rw[show nm++[32,61,32,98,97,99,107,40]++nm++[41]=nm++(32::61::32::(baW++(40::(nm++[41])))) by simp[baW]];refine Dm au λq bc Y ap=>?_;refine JN (rs:=[p1,p2,f,A,y,D,C,O,W,d,j]) (new:=[r,k,q]) (((X.trans Z).trans Y) _ _ a9) ap (Awm U) λl4 H4 t4 aq ay=>?_;have T4:=(T3.trans ((X.trans Z).trans Y)).trans t4;refine Dc (σ':=[some (.int z),some (.str (tx nm)),some (.str (tx m)),some (.ref kp),some (.ref l4)]) U rfl ?_;clear T3 a9 b0 X Z Y ak au ap t4;refine⟨_,U,?_⟩;refine⟨_,U,_,_,U,U,ln9 (by rw[b];exact Awm U),?_⟩;rw[Bs];refine Dm ay λx bg a3 aw=>?_;refine⟨_,U,_,_,U,U,ln9 (by rw[b];exact Awm U),?_⟩;rw[Bs];refine Dm aw λv ba a7 ar=>?_;refine JN (rs:=[p1,p2,f,A,y,D,C,O,W,d,j,r,k,q]) (new:=[x,v]) ((a3.trans a7) _ _ aq) ar (Awm U) λl5 H5 t5 an al=>?_;have T5:=(T4.trans (a3.trans a7)).trans t5;refine Dc (σ':=[some (.int z),some (.str (tx nm)),some (.str (tx m)),some (.ref kp),some (.ref l5)]) U rfl ?_;clear T4 aq ay a3 a7 aw ar t5;refine⟨_,U,?_⟩;refine⟨_,U,_,_,U,U,ln9 (by rw[b];exact Awm U),?_⟩;rw[Bs];refine Dm al λI bf a5 ag=>?_;refine JN (rs:=[p1,p2,f,A,y,D,C,O,W,d,j,r,k,q,x,v]) (new:=[I]) (a5 _ _ an) ag (Awm U) λl6 H6 t6 ax b6=>?_;have T6:=(T5.trans a5).trans t6;refine Dc (σ':=[some (.int z),some (.str (tx nm)),some (.str (tx m)),some (.ref kp),some (.ref l6)]) U rfl ?_;clear T5 an al a5 ag t6;have N7:PL H6 [p1,p2,f,A,y,D,C,O,W,d,j,r,k,q,x,v,I] (fA++fB nm m):=b6;have J:H6 l6=some (.lst ([p1,p2,f,A,y,D,C,O,W,d,j,r,k,q,x,v,I].map V.ref)):=ax;have F7:∀ p∈fA++fB nm m,Flt kn p.1 p.2:=λp s=>by
  rcases zG.mp s with h | h
  ·exact Aum p h
  ·exact Aun N M hz ha p h
 obtain⟨as,B,ae,aj⟩:=hK.same T6;refine⟨_,U,_,_,U,.inl (SqL.of B),_,_,U,U,_,U,?_⟩;generalize b4:[p1,p2,f,A,y,D,C,O,W,d,j,r,k,q,x,v,I]=rs at N7 J;have a8:rs.length=17:=by rw[<- b4];rfl
 generalize fA++fB nm m=ps at N7 F7;refine Cw (λc=>?_) (λc=>?_)
 ·rw[AvK,ae] at c;have n0:0<kn.length:=At
  obtain⟨i,hi,ei⟩:∃ i:Nat,i<kn.length/\z / 16%((as.map V.ref).length:Int)=(i:Int):=⟨(z / 16%(kn.length:Int)).toNat,by have:=Axa (z / 16) (show(0:Int)<kn.length by omega);have:=AwF (z / 16) (show(kn.length:Int)≠0 by omega);omega,by rw[AvK,ae,Axr (AwF _ At)]⟩;have ab:i<as.length:=At
  have aa:0<as.length:=At
  obtain⟨q1,a1,_⟩:=aj i as[i] kn[i] (AvM ab) (AvM hi);obtain⟨q2,a2,_⟩:=aj 0 as[0] kn[0] (AvM aa) (AvM n0);have m1:=Awh hi;have m2:=Awh n0;have t1:atI (as.map V.ref) (i:Int)=some (V.ref as[i]):=BL At (by rw[AvZ,AvS,AvM ab];rfl);have t2:atI (as.map V.ref) 0=some (V.ref as[0]):=BL Ap (by rw[AvS];show Option.map _ as[0]?=_;rw[AvM aa];rfl);generalize as[i]=g1 at a1 t1;generalize as[0]=g2 at a2 t2;generalize kn[i]=k1 at a1 m1;generalize kn[0]=k2 at a2 m2;have FC:=Auo KN m1 m2;have z1:=(KN.n _ m1).2;have z2:=(KN.n _ m2).2;have lp:(0:Int)<((as.map V.ref).length:Int):=by rw[AvK];omega
  refine⟨_,U,?_⟩;refine⟨_,U,_,U,_,_,U,U,⟨Ap,Ap⟩,_,U,_,_,U,.inl (SqL.of B),_,_,U,U,lp,kp,_,_,_,U,U,SqL.of B,(by rw[ei];exact t1),g1,_,_,_,U,U,SqT.of a1,BL Ap U,_,_,U,U,ln9 (by rw[z1];exact Awm U),?_⟩;rw[Bs];refine Dm N7 λb3 G8 S N8=>?_;refine⟨_,U,kp,_,_,_,U,U,SqL.of (S _ _ B),t2,g2,_,_,_,U,U,SqT.of (S _ _ a2),BL Ap U,_,_,U,U,ln9 (by rw[z2];exact Awm U),?_⟩;rw[Bs];refine Dm N8 λb5 G9 s9 N9=>?_;refine JN (rs:=rs) (new:=[b3,b5]) ((S.trans s9) _ _ J) (by rw[Awj] at N9;exact N9) (by rw[a8];exact Awm U) λl8 H8 t8 am b2=>?_;have T8:=(T6.trans (S.trans s9)).trans t8;obtain⟨a,p,e,s,h⟩:=AjJ b2 (by rw[AvL];omega) z;refine⟨_,U,_,U,_,U,_,_,U,.inl (SqL.of am),_,_,U,U,(by rw[AvK,AvL,a8];show(0:Int)<((17+2:Nat):Int);decide),l8,_,_,_,U,U,SqL.of am,e,kQ _ _ _ _ T8 h ?_⟩;rcases zG.mp s with s | s
  ·rcases zG.mp s with s | s
   ·exact F7 p s
   ·rw[zF.mp s];exact FC.1
  ·rw[zF.mp s];exact FC.2
 ·obtain⟨a,p,e,s,h⟩:=AjJ N7 At z;exact⟨_,U,_,U,_,U,_,_,U,.inl (SqL.of J),_,_,U,U,(by rw[AvK,a8];decide),l6,_,_,_,U,U,SqL.of J,e,kQ _ _ _ _ T6 h (F7 p s)⟩
end
structure Wv (w i:Nat)(ls:NN)(kn:Kns)(due:Str):Prop where
 k:Kno kn
 f:∀ p∈kn,∃ j,j<i/\p.1=nmT w j
 l:ls.length=i
 c:kn.length<=i
 n:∀ b∈ls,10∉b/\b.length<=1000
 g:due = "" -> ∀ rest o,BkO kn rest o->BkO [] (ls++rest) o
 d:due ≠ "" -> ∀ rest,BkO [] (ls++rest) (.no due)
theorem Ac4(h:∀ b∈ls,10∉b/\b.length<=1000)(a:10∉b/\b.length<=1000):∀ x∈ls++[b],10∉x/\x.length<=1000:=λx c=>by
 rcases zG.mp c with h1 | h1
 ·exact h x h1
 ·rw[zF.mp h1];exact a
theorem Aor{rest:NN}:ls++[b]++rest=ls++b::rest:=AA
theorem Wv.skip{w:Nat}{kn:Kns}(W:Wv w i ls kn due)(h:trim b=[]\/(trim b).head?=some 59)(m:10∉b/\b.length<=1000):Wv w (i+1) (ls++[b]) kn due:=by
 refine⟨W.k,λp a=>?_,by rw[AvL,W.l];rfl,Nat.le_succ_of_le W.c,Ac4 W.n m,λe rest o B=>?_,λe rest=>?_⟩
 ·obtain⟨j,q,e⟩:=W.f p a;exact⟨j,Au,e⟩
 ·rw[Aor];exact W.g e _ _ (.skip h B)
 ·rw[Aor];exact W.d e _
theorem Wv.fresh{w:Nat}{kn:Kns}(W:Wv w i ls kn due)(hw:w<3)(hi:i<=j)(a:j<61):∀ q∈kn,¬q.1=nmT w j:=λq c e=>by
 obtain⟨d,h1,b⟩:=W.f q c;have:= Asr hw Au a (b.symm.trans e);lia
theorem AqI{w:Nat}(hw:w<3)(hk:k<61):Nm (nmT w k):=⟨AjB hw hk,Aoc⟩
theorem Wv.line{w:Nat}{kn:Kns}(W:Wv w i ls kn due)(hw:w<3)(hi:i<61)(h1:trim b≠[])(h2:¬(trim b).head?=some 59)(L:LnO kn (trim b) (nmT w i) (.ok x))(C:Clo x)(a:10∉b/\b.length<=1000):Wv w (i+1) (ls++[b]) (kn++[(nmT w i,x)]) due:=by
 refine⟨W.k.add ⟨AjB hw hi,Aoc⟩ (W.fresh hw (AvN _) hi) C,λp m=>?_,by rw[AvL,W.l];rfl,(by rw[AvL];exact Nat.succ_le_succ W.c),Ac4 W.n a,λe rest o B=>?_,λe rest=>?_⟩
 ·rcases zG.mp m with h | h
  ·obtain⟨j,q,e⟩:=W.f p h;exact⟨j,Au,e⟩
  ·rw[zF.mp h];exact⟨i,Au,U⟩
 ·rw[Aor];exact W.g e _ _ (.line h1 h2 L C B)
 ·rw[Aor];exact W.d e _
theorem Wv.fault{w:Nat}{kn:Kns}(W:Wv w i ls kn due)(F:Flt kn u wd)(e:trim b=trim u)(m:10∉b/\b.length<=1000):Wv w (i+1) (ls++[b]) kn (if due = "" then wd else due):=by
 refine⟨W.k,λp a=>?_,by rw[AvL,W.l];rfl,Nat.le_succ_of_le W.c,Ac4 W.n m,λe rest o B=>?_,λr rest=>?_⟩
 ·obtain⟨j,q,e⟩:=W.f p a;exact⟨j,Au,e⟩
 ·by_cases c:due = ""
  ·rw[if_pos c] at e;exact absurd e F.w
  ·rw[if_neg c] at e;exact absurd e c
 ·rw[Aor];by_cases c:due = ""
  ·rw[if_pos c];obtain⟨z,h⟩:=F.e;exact W.g c _ _ (.stop (by rw[e];exact F.ne) (by rw[e];exact F.sc) (by rw[e];exact h))
  ·rw[if_neg c];exact W.d c _
theorem AfG{g:Nat}(a:g<=2)(hk:k<=2)(h:10∉u/\u.length<=900):10∉bl g++(u++bl k)/\(bl g++(u++bl k)).length<=1000:=by
 refine⟨λe=>?_,?_⟩
 ·rcases zG.mp e with e | e
  ·have:= V6 e;omega
  ·rcases zG.mp e with e | e
   ·exact h.1 e
   ·have:= V6 e;omega
 ·unfold bl;grind
structure Md (G:Hp)(L M:Addr)(kn:Kns)(as qs:NU):Prop where
 h:G M=some (.lst (as.map V.ref))
 la:as.length=kn.length
 lq:qs.length=kn.length
 e:∀(i:Nat)(a q:Addr)(p:NI × NN),as[i]?=some a->qs[i]?=some q->kn[i]?=some p->G a=some (.tup [.str (tx p.1),.ref q])/\G q=some (.lst (vS p.2))/\(a≠L/\a≠M)/\q≠L/\q≠M
theorem Md.kn{G:Hp}{L M:Addr}{kn:Kns}{as qs:NU}(D:Md G L M kn as qs):Kn G M kn:=⟨as,D.h,D.la,λi a p h1 h2=>by
 have hi:i<qs.length:=by
  have:= (zC.mp h2).1;rw[D.lq];exact this
 have:= D.e i a qs[i] p h1 (AvM hi) h2;exact⟨_,this.1,this.2.1⟩⟩
theorem Md.same{b:Hp}{kn:Kns}(D:Md G L M kn as qs)(s:Ba G b):Md b L M kn as qs:=⟨s _ _ D.h,D.la,D.lq,λi a q p h1 h2 c=>by
 have:= D.e i a q p h1 h2 c;exact⟨s _ _ this.1,s _ _ this.2.1,this.2.2⟩⟩
theorem Md.AvC{kn:Kns}(D:Md G L M kn as qs)(n:M≠L):Md (upd G L o) L M kn as qs:=⟨by rw[Ai n];exact D.h,D.la,D.lq,λi a q p h1 h2 b=>by
 have:= D.e i a q p h1 h2 b;exact⟨by rw[Ai this.2.2.1.1];exact this.1,by rw[Ai this.2.2.2.1];exact this.2.1,this.2.2⟩⟩
theorem Md.push{kn:Kns}{p:NI × NN}(D:Md G L M kn as qs)(h1:G a=some (.tup [.str (tx p.1),.ref q]))(h2:G q=some (.lst (vS p.2)))(n1:a≠L/\a≠M)(n2:q≠L/\q≠M):Md (upd G M (.lst (as.map V.ref++[.ref a]))) L M (kn++[p]) (as++[a]) (qs++[q]):=by
 have f:=D.la;have h:=D.lq;refine⟨by rw[Ae,AvO];rfl,by rw[AvL,AvL,f];rfl,by rw[AvL,AvL,h];rfl,λi b r v g1 g2 g3=>?_⟩;by_cases c:i<kn.length
 ·rw[Awg At] at g1 g2 g3;have:= D.e i b r v g1 g2 g3;exact⟨by rw[Ai this.2.2.1.2];exact this.1,by rw[Ai this.2.2.2.2];exact this.2.1,this.2.2⟩
 ·rw[Awi At] at g1 g2 g3;have d:i-kn.length=0:=by
   grind
  rw[f,d] at g1;rw[h,d] at g2;rw[d] at g3;cases g1;cases g2;cases g3;exact⟨by rw[Ai n1.2];exact h1,by rw[Ai n2.2];exact h2,n1,n2⟩
theorem Aos(N:Nm z)(h:10∉v):(z++v≠[]/\¬(z++v).head?=some 59)/\10∉z++v:=by
 have f:=Tj N (v:=[]) ⟨AA,AA⟩;rw[Awo] at f;have L:=N.let
 refine⟨⟨λe=>L.1 (List.append_eq_nil_iff.mp e).1,λe=>?_⟩,λe=>?_⟩
 ·simp_all
 ·rcases zG.mp e with e | e
  ·exact f.2.1 e
  ·exact h e
theorem Aot(c:Nat):∀ ls:NN,jnS [c] ls=jn c ls
 | []=>rfl
 | [w]=>rfl
 | w::v::r=>by
  show w++([c]++jnS [c] (v::r))=w++c::jn c (v::r);rw[Aot c (v::r)];rfl
theorem Aou{k:Nat}:∀{x:NN},(∀ r∈x,r.length<=k)->(x.map λu=>u.length+1).sum<=(k+1)*x.length
 | [],_=>AvV _
 | r::x,h=>by
  have:= Aou λy a=>h y (AvR _ a);have:= h r AvP;rw[AvU,Aw7,AvQ];lia
theorem Aeh{G:Prop}(C:St->Hp->Prop)(a:(∀ σ H,C σ H->R σ H)->G)(rest:∀ σ H,C σ H->R σ H):G:=a rest
section
variable {K:NF}{base:Heap}{t:Adr}
theorem Aov{G:Prop}{R:Int->Prop}(a:(∀ z,R z)->G)(rest:∀ z,R z):G:=a rest
theorem AjK(h:σ=σ')(k:R σ' H):R σ H:=by subst h;exact k
theorem Auy(ns:NA):(Yq (vI ns) none (some 60)).length<=60/\(Yq (vI ns) none (some 60)).length<=ns.length:=by refine⟨?_,by have:=Zo (vI ns) none (some 60);rw[Cj] at this;exact this⟩;unfold Yq;rw[AvW,HT.Rx,show(60:Int)=((60:Nat):Int) from U,HT.Ku];omega
theorem AvD:Str.ofString "; = " = tx [59,32,61,32]:=As
theorem AfH(g:Nat):(List.replicate g [32]).flatten=bl g:=by
 induction g with
 | zero=>rfl
 | succ g a=>rw[Awt,Awl,a];rfl
theorem Asz{p:Prop}[Decidable p]:atI ((tx [61,58]).cps.toList) (if decide p=true then (1:Int) else 0)=some (if p then 58 else 61):=by
 rw[Fw];by_cases h:p
 ·rw[zN h,if_pos U,if_pos h];exact BL Ap U
 ·rw[zJ h,if_neg (λz=>nomatch z),if_neg h];exact BL Ap U
inductive Aow (K:NF)(vs:Na)(H:Hp)(Q:VK)(z3:XK):Prop
|mk(a:Addr)(ns:NA)(_:vs=[.ref a])(_:SqL K H a (vI ns))(_:ns.length<=63)(_:∀ p m bs kn u due H',Ba H H'->H' p=some (.tup [.str (tx u),.ref m,.str due])->Kn H' m kn->bs≠[]->jn 10 bs=u->(∀ b∈bs,10∉b)->bs.length<=100->u.length<=100000->(due = "" -> BkO [] bs (.ok kn))->(due ≠ "" -> BkO [] bs (.no due))->Q (.ref p) H')
theorem Ac5(T:Txt K mg t):Bh P w K mg base CX0 4 t.Nt t.Nu ["script"] (Aow K):=by
 refine T.MF.F.ok Bp ?_;rintro _ _ _ _ H _ Q E hr ⟨a,ns,rfl,hS,az,kQ⟩;refine⟨_,(Ac (Bb (i:=1) Bp.nd U (Or.inl U) (Al ((Zj T).mono Ap) hr U T.Ny.m T.Ny.F.kp T.Ny.b .nil Aq (Aa (pv 0) (Aa Ah Ab))))
  (Ac (Bb (i:=2) Bp.nd U (Or.inl U) (Cu Ab))
  (Ac (Bb (i:=3) Bp.nd U (Or.inl U) (Cu Ab))
  (Ac (Bb (i:=4) Bp.nd U (Or.inl U) Af)
  (Ac (Bb (i:=5) Bp.nd U (Or.inl U) (Al2 Ahr Ah))
  (Ac (Bm (Ak Dd (Aj Dh (Al ((Zj T).mono Ap) hr U T.Ny.m T.Ny.F.kp T.Ny.b .nil Aq (Aa (pv 0) (Aa Ah Ab))) Ah) Ah (Ar _))
   (Ad (Bb (i:=5) Bp.nd U (Or.inl U) (Aj Dh (Aj EY (Al ((Zj T).mono Ap) hr U T.Ny.m T.Ny.F.kp T.Ny.b .nil Aq (Aa (pv 0) (Aa Ah Ab))) Ah) (Az (Ax (K:=K)) U T.Ca Bv (Aa (pv 0) Ab)))))
   Ao)
  (Ac (Ep PassesOwn.never U (Em U T.Fj (Aa (Az (Ax (K:=K)) U T.Ca Bv (Aa (Hz (Abj (K:=K)) (pv 0) PB (Hy Ah)) Ab)) Ab)) (BJ (i:=6) Bp.nd U (Or.inl U))
   (Ac (Bb (i:=7) Bp.nd U (Or.inl U) (Aj EY (Bw (Bf (K:=K)) (pv 0) (pv 6) (λ_ _=>rfl)) Ah))
   (Ac (Bb (i:=8) Bp.nd U (Or.inl U) (Al ((Aak T).mono Ap) hr U T.LC.m T.LC.F.kp T.LC.b .nil Aq (Aa (pv 6) (Aa (pv 1) Ab))))
   (Ac (Bb (i:=9) Bp.nd U (Or.inl U) Af)
   (Ac (Bm (Ak Dd (Aj Dh (Bw (Bf (K:=K)) (pv 0) (pv 6) (λ_ _=>rfl)) Ah) Ah (Ar _))
    (Ad (Bb (i:=9) Bp.nd U (Or.inl U) (Aj Am Af (pv 8))))
    Ao)
   (Ac (Bm (PW.pt (pw_and (Ak Hr (Aj Dh (Bw (Bf (K:=K)) (pv 0) (pv 6) (λ_ _=>rfl)) Ah) Ah (Ar _)) (pw_and1 (PW.pt (pw_or (Ak Dd (pv 6) (pv 5) (Ar _)) (pw_or1 (Ak Dd (Aj Dh (Aj Ex (pv 7) (Aj Rt Ah (pv 6))) Ah) Ah (Ar _))))))))
    (Ac (Vw (Al ((AfF T).mono Ap) hr U T.Ua.m T.Ua.F.kp T.Ua.b .nil Aq (Aa (Aj Ex (pv 7) (Aj Rt Ah (pv 6))) (Aa (pv 8) (Aa (Al ((Aak T).mono Ap) hr U T.LC.m T.LC.F.kp T.LC.b .nil Aq (Aa (Aj Ex (pv 6) Ah) (Aa (pv 1) Ab))) (Aa (pv 3) Ab))))) (JQ U (CK (BJ (i:=9) Bp.nd U (Or.inl U)) (CK (BJ (i:=10) Bp.nd U (Or.inl U)) Hg))))
    (Ad (Bm (Ak Dd (pv 4) Af (Ar _))
     (Ad (Bb (i:=4) Bp.nd U (Or.inl U) (pv 10)))
     Ao)))
    (Ad (Bm (Ak Hr (Aj Dh (Bw (Bf (K:=K)) (pv 0) (pv 6) (λ_ _=>rfl)) Ah) Ah (Ar _))
     (Ac (Vw (Al ((Ac3 T).mono Ap) hr U T.M9.m T.M9.F.kp T.M9.b .nil Aq (Aa (pv 7) (Aa (pv 3) Ab))) (JQ U (CK (BJ (i:=9) Bp.nd U (Or.inl U)) (CK (BJ (i:=11) Bp.nd U (Or.inl U)) Hg))))
     (Ac (Bm (Ak Dd (Aj Dh (Bw (Bf (K:=K)) (pv 0) (pv 6) (λ_ _=>rfl)) Ah) Ah (Ar _))
      (Ad (Vw (Al ((AfE T).mono Ap) hr U T.TY.m T.TY.F.kp T.TY.b .nil Aq (Aa (Aj Dh (pv 7) Ah) Ab)) (JQ U (CK (BJ (i:=9) Bp.nd U (Or.inl U)) (CK (BJ (i:=11) Bp.nd U (Or.inl U)) Hg)))))
      Ao)
     (Ac (Bb (i:=12) Bp.nd U (Or.inl U) (Aj Am (Aj Mt Af (Aj Dh (pv 7) Ah)) (Bw JR Af (Cd Yn U T.Ajk Ae0 (Aa (Hx Dd (Aj Dh (Bw (Bf (K:=K)) (pv 0) (pv 6) (λ_ _=>rfl)) Ah) Ah (Ar _)) Ab)) (λ_ _=>rfl))))
     (Ac (Bb (i:=9) Bp.nd U (Or.inl U) (Aj Am (Aj Am (Aj Am (pv 8) (pv 12)) (Aj Mt Af (Aj Dh (Aj EY (pv 7) Ah) Ah))) (pv 9)))
     (Ad (Bg (BR (K:=K) zM zL zQ DY (pv 3) (Aa (CZ (Aa (pv 8) (Aa (pv 11) Ab))) Ab))))))))
     Ao)))
   (Ad (Bg (BR (K:=K) zM zL zQ DY (pv 2) (Aa (Aj Am (Aj Am (Aj Mt Af (Aj Dh (pv 7) Ah)) (pv 9)) (Aj Mt Af (Aj Dh (Aj EY (pv 7) Ah) Ah))) Ab))))))))))
  (Ad (Ay (CZ (Aa (BR (K:=K) zI zS zV (DR (K:=K)) Af (Aa (pv 2) Ab)) (Aa (pv 3) (Aa (pv 4) Ab))))))))))))),?_⟩;have au:sizeLine=16777216:=yA;rw[Ud,Aee,AvD,Aed];refine⟨_,U,a,ns,0,U,hS,Ap,λA _=>?_⟩;refine Dc U rfl ?_;refine⟨AK,λL nL=>?_⟩;have s1:Ba H (upd H L (.lst [])):=.upd nL;have h1:(upd H L (.lst [])) L=some (.lst (vS [])):=Ae;generalize upd H L (.lst [])=H1 at s1 h1 ⊢;refine Dc U rfl ?_;refine⟨AK,λM nM=>?_⟩;have s2:Ba H1 (upd H1 M (.lst [])):=.upd nM;have D2:Md (upd H1 M (.lst [])) L M [] [] []:=⟨Ae,U,U,λi a q p h=>by simp at h⟩;have LM:L≠M:=Bc h1 nM;have fL:H L=none:=nL;have fM:H M=none:=s1.free nM;generalize upd H1 M (.lst [])=H2 at s2 D2 ⊢;have u2:=s1.trans s2;have Y:=s2 _ _ h1;refine Dc U rfl ?_;refine Dc U rfl ?_;refine⟨_,U,?_⟩;refine Dc (σ':=[some (.ref a),some (.int A),some (.ref L),some (.ref M),some (.str ""),some (.int (-1)),none,none,none,none,none,none,none]) U rfl ?_;apply Aov
 ·intro rest;refine⟨_,U,a,ns,1,U,u2.seq hS,Ap,λc1 e1=>⟨_,_,U,U,Ap,U,_,U,Cw (λc=>?_) (λ_=>?_)⟩⟩
  ·have n2:2<=ns.length:=by
    rcases Nat.lt_or_ge ns.length 2 with h | h
    ·rw[e1 At] at c;injection c with c;exact absurd c Ap
    ·exact h
   refine⟨_,U,a,ns,1,U,u2.seq hS,Ap,λc2 _=>⟨_,_,U,U,⟨Ap,Ap⟩,_,U,_,_,U,.inl (u2.seq hS),_,_,U,U,(by rw[Cj];omega),?_⟩⟩;generalize c2 / 24%(((vI ns).length:Nat):Int)=sp;refine Dc (σ':=[some (.ref a),some (.int A),some (.ref L),some (.ref M),some (.str ""),some (.int sp),none,none,none,none,none,none,none]) U rfl ?_;exact rest sp
  ·exact rest (-1)
 intro s;have cl:=Auy ns;refine⟨_,U,_,U,a,_,U,u2.seq hS,λp0 an=>⟨_,_,U,.inl (SqL.of Ae),_,U,At,At,?_⟩⟩;have s3:Ba H2 (upd H2 p0 (.lst (Yq (vI ns) none (some 60)))):=.upd an;generalize upd H2 p0 (.lst (Yq (vI ns) none (some 60)))=H3 at s3 ⊢;rw[AvZ];generalize (Yq (vI ns) none (some 60)).length=n at cl ⊢;have hw:(A%3).toNat<3:=At
 refine I9 (lo:=0) (n:=n) (λi σ G=>∃(v6 v7 v8 v9 I J y:Option V)(due:Str)(ls:NN)(kn:Kns)(as qs:NU),σ=[some (.ref a),some (.int A),some (.ref L),some (.ref M),some (.str due),some (.int s),v6,v7,v8,v9,I,J,y]/\Ba H G/\G L=some (.lst (vS ls))/\Md G L M kn as qs/\Wv (A%3).toNat i ls kn due) ⟨_,_,_,_,_,_,_, "", [],[],[],[],U,u2.trans s3,s3 _ _ Y,D2.same s3,⟨⟨λp h=>(by cases h),λp h=>(by cases h),λp h=>(by cases h)⟩,λp h=>(by cases h),U,AvN _,λb h=>(by cases h),λ_ rest o B=>B,λe=>absurd U e⟩⟩ ?_ ?_
 ·rintro i σ G hi ⟨v6,v7,v8,v9,I,J,y,due,ls,kn,as,qs,rfl,sG,a5,D,W⟩;have aq:i<ns.length:=At
  have hz:atI (vI ns) (i:Int)=some (.int ns[i]):=BL At (by rw[AvZ];exact JV (AvM aq));generalize ns[i]=z at hz;have ac:kn.length<=100:=by have:=W.c;omega
  have N:=AqI (k:=i) hw At;have a7:=N.l;refine Dc (σ':=[some (.ref a),some (.int A),some (.ref L),some (.ref M),some (.str due),some (.int s),some (.int (i:Int)),v7,v8,v9,I,J,y]) (congrArg V.int (Aw3 _)) U ?_;refine⟨_,U,_,U,a,_,_,_,U,U,sG.seq hS,hz,_,_,U,U,⟨Ap,Ap⟩,?_⟩;refine Dc (σ':=[some (.ref a),some (.int A),some (.ref L),some (.ref M),some (.str due),some (.int s),some (.int (i:Int)),some (.int (z / 8)),v8,v9,I,J,y]) U rfl ?_;refine⟨_,U,_,U,i,A,U,At,λG1 g1=>?_⟩;have F0:=W.fresh hw (AvN i) At;have F1:=W.fresh (j:=i+1) hw At At;have N1:=AqI (k:=i+1) hw At;generalize a9:nmT (A%3).toNat i=nm at N a7 F0 ⊢;refine Dc (σ':=[some (.ref a),some (.int A),some (.ref L),some (.ref M),some (.str due),some (.int s),some (.int (i:Int)),some (.int (z / 8)),some (.str (tx nm)),v9,I,J,y]) U rfl ?_;show AsB (Aal (tC _) (Hw 9)) _ _ _ _;show Aal (tC _) (Hw 9) _ _ _;show Al0 (Hw 9) _ _ _ _;refine Dc U rfl ?_;refine AjK (σ':=[some (.ref a),some (.int A),some (.ref L),some (.ref M),some (.str due),some (.int s),some (.int (i:Int)),some (.int (z / 8)),some (.str (tx nm)),some (.str (Str.ofString "")),I,J,y]) U ?_;have u1:=sG.trans g1;have Z:=g1 _ _ a5;have D1:=D.same g1;apply Aeh (λσ G=>∃(u:NI)(a1:Str)(a0:Kns)(a4 a6:NU)(I J y:Option V),σ=[some (.ref a),some (.int A),some (.ref L),some (.ref M),some (.str a1),some (.int s),some (.int (i:Int)),some (.int (z / 8)),some (.str (tx nm)),some (.str (tx u)),I,J,y]/\Ba H G/\G L=some (.lst (vS ls))/\Md G L M a0 a4 a6/\u.length<=900/\∀ g k,g<=2->k<=2->Wv (A%3).toNat (i+1) (ls++[bl g++(u++bl k)]) a0 a1)
  ·intro rest;have X:=u1.seq hS;refine⟨_,U,_,U,a,_,_,_,U,U,X,hz,_,_,U,U,Ap,U,_,U,?_⟩;by_cases c1:z%8=1
   ·refine Gq (by rw[c1]) ?_;refine⟨_,U,_,_,U,U,ln9 (by show 4+_<=_;omega),?_⟩;rw[Bs];refine Dc (σ':=[some (.ref a),some (.int A),some (.ref L),some (.ref M),some (.str due),some (.int s),some (.int (i:Int)),some (.int (z / 8)),some (.str (tx nm)),some (.str (tx ([59,32,61,32]++nm))),I,J,y]) U rfl ?_;refine⟨_,U,_,U,a,_,_,_,U,U,X,hz,_,_,U,U,Ap,_,_,U,U,_,U,?_⟩;refine Ea At ?_;refine JS ?_;refine⟨_,U,_,U,a,_,_,_,U,U,X,hz,_,_,U,U,Ap,_,_,U,U,_,U,?_⟩;refine Ea At ?_;generalize S:[some (.ref a),some (.int A),some (.ref L),some (.ref M),some (.str due),some (.int s),some (.int (i:Int)),some (.int (z / 8)),some (.str (tx nm)),some (.str (tx ([59,32,61,32]++nm))),I,J,y]=σ';refine rest σ' G1 ⟨[59,32,61,32]++nm,due,kn,as,qs,I,J,y,S.symm,u1,Z,D1,by rw[AvL,a7];decide,λg k hg hk=>W.skip (.inr ?_) (AfG hg hk ⟨?_,by rw[AvL,a7];decide⟩)⟩
    ·have E:En ([59,32,61,32]++nm):=by
      have:=En.app (u:=[59]) (v:=nm) (x:=[32,61,32]) ⟨Ap,Ap⟩ N.en Ap N.let.1
      exact this
     rw[Qq,E.t];rfl
    ·have:=(Tj N (v:=[]) ⟨AA,AA⟩).2.1;rw[Awo] at this;simp[this]
   refine Ea (λe=>c1 (by injection e)) ?_;refine⟨_,U,_,U,a,_,_,_,U,U,X,hz,_,_,U,U,Ap,_,_,U,U,_,U,?_⟩;by_cases c2:1<z%8
   ·refine Gq c2 ?_;refine(λhF hN=>⟨_,U,_,U,U,_,U,Cw (λ_=>hF) (λ_=>⟨_,U,_,U,_,_,U,U,.inl ⟨Ap,Ap⟩,_,_,U,U,_,_,U,U,Ap,U,_,U,Cw (λ_=>hF) (λ_=>hN)⟩)⟩) ?_ ?_
    ·refine Ms ?_;refine⟨_,U,_,U,_,_,U,U,.inl ⟨Ap,Ap⟩,_,_,U,U,_,U,_,U,_,_,U,U,_,U,i+1,A,U,At,λG2 g2=>?_⟩;refine⟨_,U,_,nm,_,M,kn,U,(D1.same g2).kn,ac,W.k,N,N1,F0,F1,λp u wd G3 g3 hp F=>?_⟩;refine⟨p,_,U,SqT.of hp,U,_,_,U,_,_,U,U,?_⟩;have u3:=(u1.trans g2).trans g3;have a2:=g2.trans g3;have lu:=F.l;have a3:∀ g k,g<=2->k<=2->Wv (A%3).toNat (i+1) (ls++[bl g++(u++bl k)]) kn (if due = "" then wd else due):=λg k hg hk=>W.fault F (Qq g k u) (AfG hg hk ⟨F.n,At⟩);refine⟨_,U,U,_,U,?_⟩;by_cases c3:due = ""
     ·refine Gq (by rw[c3]) ?_;rw[if_pos c3] at a3;refine⟨_,U,?_⟩;refine Dc (σ':=[some (.ref a),some (.int A),some (.ref L),some (.ref M),some (.str wd),some (.int s),some (.int (i:Int)),some (.int (z / 8)),some (.str (tx nm)),some (.str (tx u)),some (.str wd),J,y]) U rfl ?_;generalize S:[some (.ref a),some (.int A),some (.ref L),some (.ref M),some (.str wd),some (.int s),some (.int (i:Int)),some (.int (z / 8)),some (.str (tx nm)),some (.str (tx u)),some (.str wd),J,y]=σ';exact rest σ' G3 ⟨u,wd,kn,as,qs,_,J,y,S.symm,u3,a2 _ _ Z,D1.same a2,At,a3⟩
     ·refine Ea (λe=>c3 (by injection e)) ?_;rw[if_neg c3] at a3;refine AjK (R:=λσ H=>_) (σ':=[some (.ref a),some (.int A),some (.ref L),some (.ref M),some (.str due),some (.int s),some (.int (i:Int)),some (.int (z / 8)),some (.str (tx nm)),some (.str (tx u)),some (.str wd),J,y]) U ?_;generalize S:[some (.ref a),some (.int A),some (.ref L),some (.ref M),some (.str due),some (.int s),some (.int (i:Int)),some (.int (z / 8)),some (.str (tx nm)),some (.str (tx u)),some (.str wd),J,y]=σ';exact rest σ' G3 ⟨u,due,kn,as,qs,_,J,y,S.symm,u3,a2 _ _ Z,D1.same a2,At,a3⟩
    ·refine⟨_,U,_,U,a,_,_,_,U,U,X,hz,_,_,U,U,Ap,_,_,U,U,_,U,?_⟩;refine Gq c2 ?_;have aa:∀{l:Addr},G1 l=none->l≠L/\l≠M:=λh=>⟨λe=>(by rw[e,Z] at h;cases h),λe=>(by rw[e,D1.h] at h;cases h)⟩;refine⟨_,U,_,U,_,M,kn,U,D1.kn,ac,W.k,λp l u x G2 g2 np nl hp hl O=>?_⟩;refine⟨p,_,U,SqT.of hp,U,_,_,U,_,_,U,U,?_⟩;have O2:LnP kn nm 61 u (.ok x)/\En u/\u≠[]/\10∉u/\u.length<=310:=by
      obtain⟨c,v,e,hc,hv⟩:=O.f;refine⟨?_,?_,?_,?_,?_⟩
      ·have:=LnP.pat (u:=u) N.n F0 O.r.2;rw[O.r.1] at this;exact this
      ·rw[e];exact Aoh hc Ap
      ·rw[e];simp
      ·intro af;have w0:=AhT af (by unfold Pat.good Pat.letter Pat.Dw;decide);have:=O.r.1;unfold rdp at this;rw[w0] at this;cases this
      ·rw[e];simp;omega
     apply Aeh (λσ G=>∃(u:NI)(x:NN)(l:Addr)(I y:Option V),σ=[some (.ref a),some (.int A),some (.ref L),some (.ref M),some (.str due),some (.int s),some (.int (i:Int)),some (.int (z / 8)),some (.str (tx nm)),some (.str (tx u)),I,some (.ref l),y]/\Ba G1 G/\G l=some (.lst (vS x))/\(l≠L/\l≠M)/\Clo x/\LnP kn nm (if (V.int (z%8):V)=V.int 7 then 58 else 61) u (.ok x)/\En u/\u≠[]/\10∉u/\u.length<=310)
     ·intro a8;refine⟨_,U,_,U,a,_,_,_,U,U,g2.seq X,hz,_,_,U,U,Ap,U,_,U,?_⟩;refine Cw (λc7=>?_) (λc7=>?_)
      ·refine⟨_,U,_,_,U,U,Ap,_,U,λp' l' u' x' G3 g3 ax ak am ae O'=>?_⟩;refine⟨p',_,U,SqT.of am,U,_,_,U,_,_,U,U,?_⟩;refine AjK (R:=λσ H=>_) (σ':=[some (.ref a),some (.int A),some (.ref L),some (.ref M),some (.str due),some (.int s),some (.int (i:Int)),some (.int (z / 8)),some (.str (tx nm)),some (.str (tx u')),I,some (.ref l'),y]) U ?_;generalize S:[some (.ref a),some (.int A),some (.ref L),some (.ref M),some (.str due),some (.int s),some (.int (i:Int)),some (.int (z / 8)),some (.str (tx nm)),some (.str (tx u')),I,some (.ref l'),y]=σ';exact a8 σ' G3 ⟨u',x',l',I,y,S.symm,g2.trans g3,ae,aa (g2.free ak),O'.c,by rw[if_pos c7];exact .dra N.n F0 O'.r,O'.e,O'.z,O'.n,by have:=O'.l;omega⟩
      ·refine AjK (R:=λσ H=>_) (σ':=[some (.ref a),some (.int A),some (.ref L),some (.ref M),some (.str due),some (.int s),some (.int (i:Int)),some (.int (z / 8)),some (.str (tx nm)),some (.str (tx u)),I,some (.ref l),y]) U ?_;generalize S:[some (.ref a),some (.int A),some (.ref L),some (.ref M),some (.str due),some (.int s),some (.int (i:Int)),some (.int (z / 8)),some (.str (tx nm)),some (.str (tx u)),I,some (.ref l),y]=σ';exact a8 σ' G2 ⟨u,x,l,I,y,S.symm,g2,hl,aa nl,O.c,by rw[if_neg c7];exact O2.1,O2.2.1,O2.2.2.1,O2.2.2.2.1,O2.2.2.2.2⟩
     ·clear O2 O hl nl np hp g2;rintro σ G2 ⟨u,x,l,I,y,rfl,g2,hl,nl,C,LP,Eu,nu,ar,lu⟩;have ag:=g2.seq X;refine⟨_,U,_,_,U,U,Ap,_,_,U,U,At,At,(by show 1*_<=_;omega),?_⟩;rw[AfH];refine⟨_,U,_,U,a,_,_,_,U,U,ag,hz,_,_,U,U,Ap,U,.inr ⟨_,U,?_⟩⟩;refine⟨_,_,_,U,U,(by rw[Aw];exact big Ap),Asz,?_⟩;generalize hc:(if (V.int (z%8):V)=V.int 7 then 58 else 61)=c at LP ⊢;have sc:Sep c:=by rw[<- hc];split;exact .inr rfl;exact .inl U
      rw[Ha];refine⟨_,_,U,U,ln9 (by unfold bl;rw[Awu];show _+1<=_;omega),?_⟩;rw[Bs];generalize hg:(z / 8%2).toNat=g;have ay:g<=1:=At
      refine Dc (σ':=[some (.ref a),some (.int A),some (.ref L),some (.ref M),some (.str due),some (.int s),some (.int (i:Int)),some (.int (z / 8)),some (.str (tx nm)),some (.str (tx u)),I,some (.ref l),some (.str (tx (bl g++[c])))]) U rfl ?_;refine⟨_,U,_,U,_,_,U,U,ln9 (by unfold bl;rw[AvL,Awu];show _+(_+1)<=_;omega),?_⟩;rw[Bs];refine⟨_,U,_,_,U,U,⟨Ap,Ap⟩,_,_,U,U,Ap,_,_,U,U,At,At,(by show 1*_<=_;omega),?_⟩;rw[AfH];generalize hk:(z / 8 / 2%3).toNat=k;have k2:k<=2:=At
      refine⟨_,_,U,U,ln9 (by unfold bl;simp only [AvL,Awu,AvQ,Awn];omega),?_⟩;rw[Bs];refine⟨_,U,_,_,U,U,ln9 (by unfold bl;simp only [AvL,Awu,AvQ,Awn];omega),?_⟩;rw[Bs,show nm++(bl g++[c])++bl k++u=nm++(bl g++(c::(bl k++u))) by simp];generalize hT:nm++(bl g++(c::(bl k++u)))=T9;refine Dc (σ':=[some (.ref a),some (.int A),some (.ref L),some (.ref M),some (.str due),some (.int s),some (.int (i:Int)),some (.int (z / 8)),some (.str (tx nm)),some (.str (tx T9)),I,some (.ref l),some (.str (tx (bl g++[c])))]) U rfl ?_;have D2:=D1.same g2;have Y:=g2 _ _ Z;have aw:=D.la;refine⟨_,U,.inl ⟨U,_,SqL.of D2.h⟩,_,U,_,U,AH,λp np=>?_⟩;obtain⟨G3,e9,s3,al⟩:=nu9 (o:=.tup [.str (tx nm),.ref l]) (.refl _) np;rw[e9];have ap:p≠L/\p≠M:=⟨λe=>(by rw[e,Y] at np;cases np),λe=>(by rw[e,D2.h] at np;cases np)⟩;have D3:=D2.same s3;refine⟨_,_,_,U,U,D3.h,(by rw[AvK];omega),?_⟩;have D4:=D3.push (p:=(nm,x)) al (s3 _ _ hl) ap nl;have ab:(upd G3 M (.lst (as.map V.ref++[.ref p]))) L=some (.lst (vS ls)):=by rw[Ai LM];exact s3 _ _ Y
      have s4:Ba H (upd G3 M (.lst (as.map V.ref++[.ref p]))):=((u1.trans g2).trans s3).over fM;generalize upd G3 M (.lst (as.map V.ref++[.ref p]))=G4 at D4 ab s4 ⊢;have LN:LnO kn T9 nm (.ok x):=by rw[<- hT];exact Aoi N sc Eu LP
      have ah:c≠10:=by unfold Sep at sc;omega
      have nf:=Aos N (v:=bl g++(c::(bl k++u))) (λe=>(by
       rcases zG.mp e with e | e
       ·have:=V6 e;omega
       ·rcases yG.mp e with e | e
        ·exact ah e.symm
        ·rcases zG.mp e with e | e
         ·have:=V6 e;omega
         ·exact ar e))
      have lT:T9.length<=800:=by
       rw[<- hT];unfold bl;simp only [AvL,Awu,AvQ];omega
      have ET:En T9:=by
       have:=N.en.app (x:=bl g++(c::bl k)) Eu N.let.1 nu
       rw[<- hT,show bl g++(c::(bl k++u))=(bl g++(c::bl k))++u by simp];exact this
      rw[hT] at nf;generalize S:[some (.ref a),some (.int A),some (.ref L),some (.ref M),some (.str due),some (.int s),some (.int (i:Int)),some (.int (z / 8)),some (.str (tx nm)),some (.str (tx T9)),I,some (.ref l),some (.str (tx (bl g++[c])))]=σ';refine rest σ' G4 ⟨T9,due,kn++[(nm,x)],_,_,I,_,_,S.symm,s4,ab,D4,At,λg' k' aj ao=>?_⟩;have tT:trim (bl g'++(T9++bl k'))=T9:=(Qq g' k' T9).trans ET.t;have:=W.line (b:=bl g'++(T9++bl k')) (x:=x) hw At (by rw[tT];exact nf.1.1) (by rw[tT];exact nf.1.2) (by rw[tT,a9];exact LN) C (AfG aj ao ⟨nf.2,At⟩);rw[a9] at this;exact this
   ·refine Ea c2 ?_;refine JS ?_;refine⟨_,U,_,U,a,_,_,_,U,U,X,hz,_,_,U,U,Ap,_,_,U,U,_,U,?_⟩;refine Ea c2 ?_;generalize S:[some (.ref a),some (.int A),some (.ref L),some (.ref M),some (.str due),some (.int s),some (.int (i:Int)),some (.int (z / 8)),some (.str (tx nm)),some (.str (Str.ofString "")),I,J,y]=σ';exact rest σ' G1 ⟨[],due,kn,as,qs,I,J,y,by rw[<- S,w_n],u1,Z,D1,AvV _,λg k hg hk=>W.skip (.inl (Qq g k [])) (AfG hg hk ⟨AA,AvV _⟩)⟩
  ·rintro σ G2 ⟨u,a1,a0,a4,a6,I,J,y,rfl,s2,Y,D2,lu,W2⟩;have Wg:=W2 (z / 8%3).toNat (z / 8 / 3%3).toNat At At;have av:=W.l;refine⟨_,U,.inl ⟨U,_,SqL.of Y⟩,_,U,_,_,U,U,Ap,_,_,U,U,At,At,(by show 1*_<=_;omega),?_⟩;rw[AfH];refine⟨_,U,_,_,U,U,ln9 (by unfold bl;rw[Awu];omega),?_⟩;rw[Bs];refine⟨_,U,_,_,U,U,⟨Ap,Ap⟩,_,_,U,U,Ap,_,_,U,U,At,At,(by show 1*_<=_;omega),?_⟩;rw[AfH];refine⟨_,_,U,U,ln9 (by unfold bl;rw[AvL,Awu,Awu];omega),?_⟩;rw[Bs,Awj];refine⟨_,_,_,U,U,Y,(by rw[Be];omega),?_⟩;rw[Dv];exact⟨_,_,_,_,I,J,y,a1,_,a0,a4,a6,U,s2.over fL,Ae,D2.AvC (λe=>LM e.symm),Wg⟩
 ·rintro σ G ⟨v6,v7,v8,v9,I,J,y,due,ls,kn,as,qs,rfl,sG,a5,D,W⟩;have wl:=W.l;have fl:=AaS (k:=1000) (x:=ls) λr hr=>(W.n r hr).2;have su:=Aou (k:=1000) (x:=ls) λr hr=>(W.n r hr).2;have jl:(jnS [10] ls).length<=(ls.map λu=>u.length+1).sum:=AaQ _ _;refine⟨U,_,U,_,_,ls.map tx,U,U,SqL.of (by rw[a5,Gr]),(by rw[Ip,AvK,Aw];show _+_*1<=_;omega),?_⟩;rw[Tn];refine⟨_,U,_,U,AI,λp np=>?_⟩;have B:∃ bs,bs≠[]/\jn 10 bs=jnS [10] ls/\(∀ b∈bs,10∉b)/\bs.length<=100/\(due = "" -> BkO [] bs (.ok kn))/\(due ≠ "" -> BkO [] bs (.no due)):=by
   have g:due = "" -> BkO [] ls (.ok kn):=λe=>by
    have:=W.g e [] _ .nil;rw[Awo] at this;exact this
   have d:due ≠ "" -> BkO [] ls (.no due):=λe=>by
    have:=W.d e [];rw[Awo] at this;exact this
   cases ls with
   | nil=>exact⟨[[]],AA,U,λb hb=>by rw[zF.mp hb];simp,Ap,λe=>.skip (.inl U) (g e),λe=>.skip (.inl U) (d e)⟩
   | cons b r=>exact⟨b::r,AA,(Aot 10 _).symm,λb hb=>(W.n b hb).1,At,g,d⟩
  obtain⟨bs,b1,b2,b3,b4,b5,b6⟩:=B;exact kQ p M bs kn _ due _ (sG.new np) Ae (D.same (.upd np)).kn b1 b2 b3 b4 At b5 b6
end
def W6 (wd:Str):Prop:=wd = "NoPattern" \/ wd = "Twice" \/ wd = "Unknown" \/ wd = "TooLarge" \/ wd = "NoDraft" \/ wd = "NoRow"
theorem D3.w6{rs:List Rc}(D:D3 r0 rs r2)(h:fwd r0 rs r2 ≠ ""):W6 (fwd r0 rs r2):=by
 have m:=AnU h;have:∃ r:Rc,r.Ok/\r.wd=fwd r0 rs r2:=by
  rcases zG.mp m with m | m
  ·rcases yG.mp m with m | m
   ·exact⟨r0,D.o0,m.symm⟩
   ·obtain⟨r,a,e⟩:=yF.mp m;exact⟨r,D.os r a,e⟩
  ·exact⟨r2,D.o2,(zF.mp m).symm⟩
 obtain⟨r,O,e⟩:=this;rw[<- e] at h ⊢;have k:=O.k;generalize r.wd=wd at h k ⊢;cases k with
 | good _=>exact absurd U h
 | no _=>exact .inr (.inr (.inr (.inr (.inr U))))
 | big _=>exact .inr (.inr (.inr (.inl U)))
theorem As0{o:Lo}(h:DrO u o):∀{wd:Str},o=.no wd->W6 wd:=by
 intro wd e;cases h with
 | no D h=>cases e;exact D.w6 h
 | bad _ _ _=>cases e;exact .inr (.inr (.inr (.inr (.inl U))))
 | ok _ _ _=>cases e
 | part _=>cases e;exact .inr (.inr (.inr (.inr (.inl U))))
theorem As1{kn:Kns}{o:Lo}(h:LnP kn z c u o):∀{wd:Str},o=.no wd->W6 wd:=by
 intro wd e;cases h with
 | name _=>cases e;exact .inl U
 | twice _ _=>cases e;exact .inr (.inl U)
 | pat _ _ _ =>
  generalize (rdp kn u).1=R at e;cases R with
  | ok x=>cases e
  | no f =>
   cases e;cases f with
   | nop=>exact .inl U
   | big=>exact .inr (.inr (.inr (.inl U)))
   | unk=>exact .inr (.inr (.inl U))
 | dra _ _ D=>exact As0 D e
theorem As2{kn:Kns}(h:LnO kn l z (.no wd)):W6 wd:=by
 generalize e:(Lo.no wd)=o at h;cases h with
 | part _=>cases e;exact .inl U
 | line _ _ P=>exact As1 P e.symm
theorem As3{kn:Kns}{bs:NN}(h:BkO kn bs (.no wd)):W6 wd:=by
 generalize e:(Bo.no wd)=o at h
 induction h with
 | nil=>cases e
 | skip _ _ a=>exact a e
 | line _ _ _ _ _ a=>exact a e
 | stop _ _ L=>cases e;exact As2 L
section
variable {K:NF}{base:Heap}{t:Adr}
inductive Aox (t:Adr)(vs:Na)(H:Hp)(Q:VK)(z3:XK):Prop
|mk(u:NI)(bs:NN)(o:Bo)(_:vs=[.str (tx u)])(_:u.length<=1000000)(_:bs≠[])(_:jn 10 bs=u)(_:(∀ b∈bs,10∉b))(_:bs.length<=900)(_:BkO [] bs o)(_:(∀ kn,o=.ok kn->∀ p q H',Ba H H'->H' p=some (.tup [.str "", .ref q])->Kn H' q kn->Q (.ref p) H'))(_:(∀ wd,o=.no wd->∀ p H',Ba H H'->H' p=some (.tup [.str wd,.non])->Q (.ref p) H'))
theorem Ac6(T:Txt K mg t):Bh P w K mg base CX0 45 t.Nv t.Nx ["text"] (Aox t):=by
 refine T.MJ.F.ok Dz ?_;rintro _ _ _ _ H _ Q E n ⟨u,bs,o,rfl,j,r,h,k,l,B,v,d⟩;refine⟨_,(Ac (Bb (i:=1) Dz.nd U (Or.inl U) Af)
  (Ac (Bb (i:=2) Dz.nd U (Or.inl U) Rp)
  (Ac (AoY ⟨U,U,U⟩ U (AlT (AoX (i:=2) Dz.nd U (Or.inl U) (AlS ((Ado T).mono Ap) n U T.TV.m T.TV.F.kp T.TV.b .nil (Aa (pv 0) Ab)))) (.cons U T.BW T.BV.q NP (λ_=>(Ad (Bb (i:=1) Dz.nd U (Or.inl U) Af))) Ap (.cons U T.Ajo T.AeT.q NP (λ_=>(Ad (Bb (i:=1) Dz.nd U (Or.inl U) Af))) Ap (.cons U T.AdS T.YQ.q NP (λ_=>(Ad (Bb (i:=1) Dz.nd U (Or.inl U) Af))) Ap (.cons U T.Qk T.LR.q NP (λ_=>(Ad (Bb (i:=1) Dz.nd U (Or.inl U) Af))) Ap (.cons U T.Jo T.Ht.q NP (λ_=>(Ad (Bb (i:=1) Dz.nd U (Or.inl U) Af))) Ap (.cons U T.KQ T.J6.q NP (λ_=>(Ad (Bb (i:=1) Dz.nd U (Or.inl U) Af))) Ap .nil)))))))
  (Ad (Ay (CZ (Aa (pv 1) (Aa (pv 2) Ab)))))))),?_⟩;refine⟨_,U,u,bs,o,U,j,r,h,k,l,B,?_⟩;cases o with
 | ok kn =>
  intro q H1 s1 f;refine⟨_,U,_,U,AH,λp np=>?_⟩;exact v kn U p q _ (s1.new np) Ae ((f.same λb o e=>(Nh e).2).same (.upd np))
 | no wd =>
  intro H1 s1;have fin:∀{G:Hp} {p:Addr},Ba H G->G p=none->Q (.ref p) (upd G p (.tup [.str wd,.non])):=λs np=>d wd U _ _ (s.new np) Ae;rcases As3 B with rfl | rfl | rfl | rfl | rfl | rfl
  ·refine⟨t.Br,U,⟨_,_,T.BV.q⟩,λea a=>.inl ⟨Exn.has T.Ro,?_⟩⟩;exact⟨_,U,_,U,AH,λq c=>fin (s1.new a) c⟩
  ·refine⟨t.Fd,U,⟨_,_,T.AeT.q⟩,λea a=>.inr ⟨Exn.has T.X7,.inl ⟨Exn.has T.AcL,?_⟩⟩⟩;exact⟨_,U,_,U,AH,λq c=>fin (s1.new a) c⟩
  ·refine⟨t.Dl,U,⟨_,_,T.YQ.q⟩,λea a=>.inr ⟨Exn.has T.Ul,.inr ⟨Exn.has T.Aax,.inl ⟨Exn.has T.X6,?_⟩⟩⟩⟩;exact⟨_,U,_,U,AH,λq c=>fin (s1.new a) c⟩
  ·refine⟨t.BZ,U,⟨_,_,T.LR.q⟩,λea a=>.inr ⟨Exn.has T.S8,.inr ⟨Exn.has T.YM,.inr ⟨Exn.has T.VB,.inl ⟨Exn.has T.Uj,?_⟩⟩⟩⟩⟩;exact⟨_,U,_,U,AH,λq c=>fin (s1.new a) c⟩
  ·refine⟨t.Ce,U,⟨_,_,T.Ht.q⟩,λea a=>.inr ⟨Exn.has T.Uk,.inr ⟨Exn.has T.Aaw,.inr ⟨Exn.has T.X5,.inr ⟨Exn.has T.VD,.inl ⟨Exn.has T.X4,?_⟩⟩⟩⟩⟩⟩;exact⟨_,U,_,U,AH,λq c=>fin (s1.new a) c⟩
  ·refine⟨t.Du,U,⟨_,_,T.J6.q⟩,λea a=>.inr ⟨Exn.has T.X3,.inr ⟨Exn.has T.AcK,.inr ⟨Exn.has T.Aav,.inr ⟨Exn.has T.YL,.inr ⟨Exn.has T.Aau,.inl ⟨Exn.has T.AcJ,?_⟩⟩⟩⟩⟩⟩⟩;exact⟨_,U,_,U,AH,λq c=>fin (s1.new a) c⟩
inductive AfI (K:NF)(vs:Na)(H:Hp)(Q:VK)(z3:XK):Prop
|mk(a:Addr)(ns:NA)(_:vs=[.ref a])(_:SqL K H a (vI ns))(_:ns.length<=63)(_:∀ H',Q (.bl true) H')
theorem AfJ{K:NF}{ns:NA}(b:ns.length<=63)(c:SqL K H a (ns.map V.int)):AfI K [.ref a] H (λv _=>v=.bl true) λ_ _ _=>False:=⟨a,ns,U,c,b,λ_=>rfl⟩
theorem Aqx{p:Addr}{kn:Kns}(h:Kn H p kn)(g:Kn H q kn):At5 K H p q:=by
 obtain⟨as,h1,h2,r⟩:=h;obtain⟨cs,g1,g2,g3⟩:=g;refine⟨_,_,SqL.of h1,SqL.of g1,by rw[AvK,AvK,h2,g2],λi x y e f=>?_⟩;rw[AvS] at e f;obtain⟨a,ea,rfl⟩:=zU.mp e;obtain⟨b,m,rfl⟩:=zU.mp f;have hi:i<kn.length:=by rw[<- h2];exact(zC.mp ea).1
 obtain⟨w,s,u⟩:=r i a _ ea (AvM hi);obtain⟨z,o,l⟩:=g3 i b _ m (AvM hi);refine .tup (n:=49) (SqT.of s) (SqT.of o) U λj x y c d=>?_
 match j with
 | 0 =>
  cases c;cases d;exact .flat U
 | 1 =>
  cases c;cases d;refine .lst (n:=48) (SqL.of u) (SqL.of l) U λk x y c d=>?_;rw[c] at d;cases d;obtain⟨v,_,rfl⟩:=HF c;exact .flat U
 | j+2=>cases c
theorem As4(T:Txt K mg t):Bh P w K mg base CX0 46 t.AqB t.AmQ ["script"] (AfI K):=by
 have k:Bh P w K mg base CX0 4 t.Nt t.Nu _ _:=Ac5 T;have h:Bh P w K mg base CX0 45 t.Nv t.Nx _ _:=Ac6 T;refine T.law.F.ok YB ?_;rintro _ _ _ _ H _ Q E n ⟨a,ns,rfl,L,r,y⟩;refine⟨_,(Ac (Vw (Al (k.mono Ap) n U T.MF.m T.MF.F.kp T.MF.b .nil Aq (Aa (pv 0) Ab)) (JQ U (CK (BJ (i:=1) YB.nd U (Or.inl U)) (CK (BJ (i:=2) YB.nd U (Or.inl U)) (CK (BJ (i:=3) YB.nd U (Or.inl U)) Hg)))))
  (Ac (Vw (Al (h.mono Ap) n U T.MJ.m T.MJ.F.kp T.MJ.b .nil Aq (Aa (pv 1) Ab)) (JQ U (CK (BJ (i:=4) YB.nd U (Or.inl U)) (CK (BJ (i:=5) YB.nd U (Or.inl U)) Hg))))
  (Ac (Bm (Ak NB (pv 3) Af (Ar _))
   (Ad (Ay (Hx Dd (pv 4) (pv 3) (Ar _))))
   Ao)
  (Ad (Ay (Aho (Hx Dd (pv 4) Af (Ar _)) (Aho (Az (Ad4 (K:=K)) U T.Xz Uq (Aa (pv 5) (Aa (Ai3 (v:=.ty "list") U T.LK Jt U) Ab))) (Aly (Hx (ArP (K:=K) (n.AlW)) (pv 5) (pv 2) (Ar _)))))))))),?_⟩;refine⟨_,U,a,ns,U,L,r,λp m bs kn u due H1 s1 I G A s z N M C B=>?_⟩;refine⟨p,_,U,SqT.of I,U,_,_,U,_,_,U,_,_,U,U,?_⟩;by_cases c:due = ""
 ·refine⟨_,U,u,bs,.ok kn,U,At,A,s,z,At,C c,λj e l q H2 x d f=>?_,λwd e=>by cases e⟩;cases e;refine⟨l,_,U,SqT.of d,U,_,_,U,_,_,U,U,?_⟩;refine⟨_,U,U,_,U,?_⟩;refine Up (by rw[c]) ?_;obtain⟨as,o,D,J⟩:=id f;refine⟨_,U,U,_,U,Gq U ?_⟩;refine⟨_,U,_,_,true,.lst o,.inl ⟨_,U,AgU K "list"⟩,_,U,Ms ?_⟩;exact⟨_,U,_,U,q,m,U,U,Aqx f (G.same x),y _⟩
 ·refine⟨_,U,u,bs,.no due,U,At,A,s,z,At,B c,λj e=>(by cases e),λwd e l H2 x d=>?_⟩;cases e;refine⟨l,_,U,SqT.of d,U,_,_,U,_,_,U,U,?_⟩;refine⟨_,U,U,_,U,?_⟩;refine Abh (λe=>c (by injection e)) ?_;refine⟨_,U,_,U,U,?_⟩;rw[zN rfl];exact y _
end
theorem As5{K:NF}{t:Adr}(a:mg "law" = some (.ref fa)) (T:Txt K mg t):∃ fd:FuncData,(∀(s:Shared)(v:Value),BindsTo s fd ⟨[v],[]⟩ [("script", v)])/\∀ base:Heap,K.In base->base.Ns mainGlobals mg->Bh P w K mg base CX0 46 fa fd ["script"] (AfI K):=by have e:=a.symm.trans T.law.m;injection e with e;injection e with e;subst e;obtain⟨k,j,kV,f,i,l,h,n,d,b,lk,c⟩:=T.law.F.ex;exact⟨t.AmQ,λs v=>by rw[b];exact .of_eq U,λbase _ _=>As4 T⟩
end Mine
open PySem PySem.W PyProof.Rows
open Lean in
local macro_rules|`(universe $xs*)=>do return mkNullNode (← xs.mapM fun x=>do
  let n:=x.getId.toString.toList.foldl (fun n c=>n*62+(if c.toNat<58 then c.toNat+4 else if c.toNat<91 then c.toNat-65 else c.toNat-71)) 0
  `(def $(mkIdent (.mkSimple s!"tw{n}")):ident:=()))
namespace PySem.W.Fast
universe Qdgwc7PlRVG NlY4lcwmAOw NbTIdzX2wv8 T1x2kbpasNA SljYbIPnca1 Hpc9T8W6b1S VUTfAtr1PH9 U9aX4uqAzgT EEEUVqXwH5l Qg0bXNIcvoZ GvtSIJKWwPk GPrwc5Rntlz J6q9CwvO0ty IFXMkge3t7A N5lbbNiqQ8E HNgM5VjeEuH NXTAA9a9aqp BO1CDhnxdgI RncZheB48ij DFCoo5WJniB Mq6zv0hZLHU GhP8q8TMrIG VBnxcVkj91y Iva8R9ENR4w GSjj6hekllx V5sOhfMuIdu Noy8vvNSWrU ErFLfRUHNFr L9Q8IEvMRCu SiMtLVcYcuu FnlBk2dD4wg HIaap8bi1op DKM0JtV4nEm KzWEQvnAV28 UXUoq80POOe S0tqsZPnLLm FgyWmKyReby CcvgR0CCMDk QZB4JuIi99y MdZkbrM94KF Tygye6TmqfE OQSs1UQzQi8 StYUbfQ7OVt HDFoOZxgCnK HvC6EeDJVzC PsAIZbDdYuJ F76fFLdmpe7 EDrs3PWgotR KLesZDOdIah PPh332vCdtr MazY0cCsPZr O47L9JpE3hz GhY6J6VkdAa QmaVwcJpu3S EuaCsvhGWwA Vn3LaQZto2F UJQvNxF4pIK GoAiJwuGKD4 QaZMVZYx9VI P4yN62JQd5V OFUVRY8BM4f P8ftjegdDbe SPJC2dXLf6c Pld4lcRPUhU PnYNJooIhl2 Mlhf9u28nrg VQ5qCG36U6G MeecUEVl8gg COFFzINLPCX gI7uwqDqI9 DBTUhHNyrQL PlGDokf1yvc Dzs8Cq111Yw P2zdYDluuSN DMfXv5tTMV4 B9QfLkWbxGz TNIz7H7g2O5 Hnsx7FN2NR7 Ur1DXtgS3eb JNT8wSTqquP PeSFzL48o3Y R8pavQIZXI HuCevptPFQJ BXRc6MwD8Ct cGxWYSXFbm Tj460ENsHWB NffXRR2bFH0 Kw3svoYan6B Dc5NCbBBWJy P7Dr8CUKUNU Ska3oXmGynl EpN0frihFzy JHG96Uqpdvg SXKEr9mu04j P64p9btZeUq DdrzClAjEwI JahpWuMKglC Lrz50EtcDhN IoX6roucLYA S3LscbhH9Oh Jh1RMvUW3yo JmIbJlehdrR JHdYIyt3WdM U4NHxPjaim0 CIFsQMokD0c RZdNiH8RNEV EJz7r63cVwe NIncDh4XRHn Cy27FBz9hdY COpRv2khFey J4N2cIIcHP3 FSZXQlSvWYa USrOK15T88o Ohu6QXo3hU5 CxA6i4AB8HL BSf9xlNN5RU V1RNhdeMfoP BYFeUSKndLs GacMx7XSmFm P3EQvSiTUZY JfXflhSJR6G RdZtHq851uC RaEskelFeOp F4vcj3Ta2Ou SG8ztSPNCc6 Rfma71Be44h JpQ7KntcJjv RCnKPClmCjj Uq8duK2aJ4Z TVXXmPvABvT DPezlBcdwNa Qxp1VNYnzWO KwVuYGvzoWO SnIwRegjdW2 ToUoLKPzdxT Jfdz71Hruig NKkvPSOIV0e ENTe6Xf8bTu GNSwkYgdZpp Fx5ldwNj8tV A0od0vcMNQv BAlj3OoAtwa F01khcoxp9G SEtFDHwZxSM GdBPuApQMnk CHnGtRwHCz9 My4tNUa4rnU T92d0MOE70q JNBWC9FLxaq IwP8hLKnX9U BpsDMoWMb8j DFUGMdTBaH GMm4GgO444P K9ja5ZXgIpd HkXhpi8iUxq CqXW0D3GjZ FP5MK3ZiydU HkfAIP5lzam M48wggMWb6A Rxfs6Gen5Ug FG36n7WtA1E GI7xXuwf7Uq LlC3zTpi0y3 PaTpvMGZvEW RA4VVFCes6O HpQVDdn3T9R OuxTSDqQ9Qa L7cS55OXuzl S8vLTrIFISy Erj4661zw0D S0rcBSiCMck A5zNLdItnp2 Ce7WPmJ3JwC Bu4FRF9CbNw PLyt037yz9A L98XmPK6on8 Hpz8Xf8W3iy VS3ZmEDcAMj FqKri4zh9g6 OONmBrEoqpr RjchsST9Zwn Kn0IdElTd6d SH3qtW0FpUB DG9U40iYFz6 Nk1UqNukqOO O9a5qLR6i23 QPUCfBLjCfi HdQM3Hitoga RdA4ZYXdK8h Eh8WVOxWf5J QmNCADBySSx CJXzY2mtBDV RW0tKlHp7PA JEzwuAbk0Cf R2YHZL4O7IQ KzoH6IFnU1C GrdsbWfrPd NcVKtrc3THL Q3qC3PauxOW S3dGmlX31DC DK83vk7TqZt T9EZQDJBwvk Hy131HRyhGb JKEtsT1nCCE Ni1aqbdpiRO I5cao8S8DX9 LbQIGlQW8Cd F3KSzLyEnTQ OGbj67xcQ57 NicNnBDcMsm VphoS6NQI8O Jx01XWLPwv8 QU19VvOyRd8 RhDoV5b7IN1 Si4J5IVxwRd JcTxOxzfOq6 P7RDurQ582f SCEcUPpEpKc JMjAxU9uuly DMSJthriP0X MapijDOtjCH EL4Pu8m2HpW FWtN5AVMYP5 GJCesFUeOZc IauDxYhaS7j NEVAYBIVlyo E12zIXM3W0P FTKvwnk5Cny TqwkrW8OHS1 BNsj4dIOYgn U6vZ77nnPbD ES14S0D6Nf GBQ3W8OMFQ0 J1j5VfOeCRX NMfy5y48JTb RbV2lnJ9wc1 OUz3UqiuXWv SvIIyIdjaHc EWeHVP56p9j BPuzRyN45en TiJa08mGACA PkueIjXp8C0 bRT88NowP9 NaB1PKwNrrR PWC3F5ehOng Bu6IowK6Ovq KyN3r9ciKY3 UZbfqkjKp2d LZoH0Co0Mpr RBbeeCEKF7y SXCCpk2djA5 NJOMtsIeTMa LfqT9iX0cMx CVFactZsTw5 NyZCowFMMR4 OSeOPUKOmlP Ed3nGobcxUa Rvn5xPeJSxB Jx07B5yw5SL SOLrlTB2sVZ LMMz76oXQqV MApLnxPNspa Gv6QORyxBQM SnEzGbcBpjq IZC1p1mM2uB E0i0xLTyKgS Ffig4h6wNOG FSAKWPxJ2ez S91zIcdTcpb QRCoWxggkJu C4KqBZufSqY UtFgymaI3DH Cgv5PgNC9yz FHHTQE4KUhX TrdMfTzvpYV ZeOuiHxtek OYGPbVOvH7t CUyG1WaIkTa MIu4nQIPTUe OAk865Gdjvu MlUVw4nIrVH CvUh9oZq1kV MqYzbQkGsSy Kk7qlw4oDkq R3aWYjNghm4 VacxCZRQziB P9yiZ6cP8kY KYLO1d2wXd3 JnaExapXJ4D SbIPs5pHHBB HS2P8BfsAOf A9X0IxEtAoE KMtJA5ipkIK RvyKXFjEt2p N5uY54yXyyF QjU6Ima5F4O CyVBaqeO1L0 Ik41XxCWCQ6 CpenbBvOF3m EEaTzj6cGX6 TxlX2MEes8Q PWVVJjWdMwa LiNSUb5XvmQ SXQbJMvtTyQ SO3vHLwwJXd H6TSOzpXbWN SBEUOaOrLcj EqNwPOQDlec EMsHcXegyWk UFvRvN9JhlR QyI8iKO1QO8 LIlFDkiyQBm NlZrkomV2R2 ChYxmTLVgcj OlkZXxj1tEU P6D6tGxjlVf VulEdXfygvC Kn2uk0ZiVpg H5Pqs9T8SuC VD6gsZ6qT4I VSCc9hwQDEO Osc8XSN3fMl HweIfS2i5we Rl5meMPBoFz luB9p7RK3H NzwhZ7zgQGB PzjWBmJ1ssS LB6RLxuGA2 CM8gmbCRlx7 QSyqKSevM7Y PfpalDqachn B3f54AfCgVb IDxJS2G0uxU EmJhL3lNQw2 UX14nq0iFAs QPK8cAWsH5N Rpe7yXEPUqp LTTvUmOOrrM De7POvQ9jhn o6dGynG7FK CRE1U7QvaQk DD4Gr6nxyQK VXxY9qdBiyY NJenKUjmRT7 KupOPx4WVgq JzuayMwAs4I Oi505vteMhi BTjzDSb1lsy E4efmwoqn9w MHqJGeGMFiD GGkp9rhKh9p EtlVNe0k81T Djpf3IToLQR NiCjOJG5DAJ GsrNeXkatuL GAvdhPS4T4b UxU8RUb1evc CA9PEklBLwM JyiANT7nA1U DOfUBhx48wq HVRpOLOMYdf GgenOxqryZc PzeyyGOgGAt CXIe7kPKB8d Ux0kbQGEKbo JthhhKBvmTi BodjshnmxLd A6XRkykCQFS UVnsCONDkfE BEkQ1c5dUPl RJK54cUvByi RwQU4mVvXlW OYshwfEjoVB Pga7oHKfZDL PBK8nq6Nqkm F4sYutSsf7Y Nw13IS3XJHV GUkISwLtVVQ GUxrqmKRlLr T93KM5dliIQ E3XkqcWlzqi Ic4rsu2cA83 PmCIIcLTrBf LJpwkVjEk4q RGbbo7L7TVg Jt1gU8kmnEB KTC6KWltJWo cwrCZCm9Nn IJgwxj7mfu7 EkuCtRiX56L Gequy3cJW2O DmYP6969fpx Ey2mAQc1Hvi D8gkKzrXbfJ IAVUQo0s6zr DVSWY8FlMqG V7VvQ5IMcIm PnLk1jUNCMw KN4bEdAN3HP Ey8fk9OWiJa HNluKgG71ZB GUeZzkYPd9r Sc2OWEzPggK mm9Xd8W4uO EsDWadVxq9F Gbz7ohL559y M6hdcppzeAP A5DVuBZzdzb HF8laccNqwk TwUNEV4tyee Cp3m66TKP7D HHpNGkanhUJ OWRYN1iykPE JQPV66gIJl8 LTmjIeiowvt C3XgOmvRvnB RZjvxOphyHT UX3bgdeK3fy PYA2vj5eb0S I8BEpKzrSUP Ja4hc8TmehO VBS6IfCE6lB FcGJRfvmLlb qEdb9nKlpj BsJoUkuiFKX JLW5nnWRRcW PO0WiSSO6aa QPn7wB3LsvS IKILh63uqDf Gc7Hm6VbQnh LDN6RUJL6ap FGkclKHPiXN QVR5vEoeSRo VHYyIbpUTKL VXIRCbJODcQ SkrlPZG643e GXLMBO2gYQ5 VzRVyynPpYw FGFk6aTga4j Ne44Vt4Ml95 U0UsMMCrTez LoZ8RBSWOx4 RBTslxHwW58 DEHL94MzcdI JbsOcoHMjKL Klmgn9YPkhl DBVXEDB4oKn GVLQivJ6Jis PKgfqPJAife SxT9mBxeesz L2BsYFCO4Dc LVbjNrcuj2B JPyXA1MUrIR LjlUYIWG3F8 IEkrezlQYce OpE9lm8Cj0I GUb7K5Ni8As K1PAWjipazC QdtZ8eC77al Jgf7mi90SWD N1Gkk7jk1fh VNX6oK2lu7Z Glu1lcibHAj QfkUwbgcq4J O0VzmoFfIxI L5WCywX2gYI SQp7jDNjHu0 Oyqo1T5CTsG T9ZE4FpJq8i LqzDY8557ZT ViSZXaRdoC9 KFwF6XMetxh JYr0WL44WyI BPHlqlKTZvW Bgo3M6aofHS Ct1sxQcvuZx LKSom9v3T2m Swh2Jeukdhq VdVe9w6xcgb VQRqBCHUGhY IcvaMrUY7Yr PO03fei6I1H CFO0RwefL6W Jb3IRsDsO1F Iol9ZAYv0FS DKQf7oEy4XT PEUygMbbeU1 NAVu4KF3qp7 NkifD2Sbd8K JpWbwNBhr8y JN1i4QRwJXo UnV90OVkwIW Oi764uTtmuS xGkVFiMK1l VdzObwBR4t0 UByETgkvZf OdLWv9KGB71 UWWQx8QgYqP TuGMXmfRXqA LIJSd5T5KE1 Pb5qbSImRla sAZa2M2bRU NzSWeNqYJVK NmavudLx0Lb Q22igi655ni PgtMthNTwBM DrKeVfsp8oC URIM0l3RKAh OJnuNojNBqm CuweQ1Gw3FI KTVhpTP64Wq KrOOph2Y5p8 TdlMI3SWpkA TdNZdNmyUR0 NCGEmboNXsw nT4wsTYxDg UNLQXuCZ0ev TTgJD0PZEL8 KgdrNJfsyZs S3D7dgUeHTq R3M2CC1NhP1 MGXhlvJLHX4 K56dZV7KzTl G1wkvXQU54m I0JocHpnoD4 CEZ7d2psRka Hs45touaoys QmMthOxicXO MAWkgfGK8v1 HA8si7p014K C2XrweJHydk FeQLKJwZfWV IqSMt6wPp3X TfdUsEsDAbZ R52njbyCi5A SThGAGuQoZV ImCwk1rW143 QB8qyos1GWM QE4vz2SSxIw RENjKqxd5ec Vyeg1Tlgdx4 Kbkn7szaU1e ER8Arp6oHpN KSuvPRi1eAt Ru4oxZmg9PU BWcnNcaF9o5 KvGMra4qsOj SqlajDz9MxP U61ugZdCAB9 TLHpaNliAD8 PfiKdfJW7bJ HYvgwYGwQIR F5K5totxNJL LoUza2M4LTf QNee99MgpMw Di2R4tNWmMV CuGiGGbQAXH CyQEBJLgYxx Li2euOaQADe Dwyl0Nqpj81 EdzUwXMKx6v SSlClHk9Fqj HKXfX91yI5N Lpl0DEgMgLm JWuxxHIt9cW VhFipWYMfzC I1EqdJaVsya J7tDdCKIZTa LexJla1ZK88 LulAh0Jfdfd OqwPBubCnH0 K9R9xmHj9A1 NeBi9u5r23Y PX7T7E8EUcs EdNprVsxrVn E06HfqJAbXv N18olnKI1DC FHlvJMwJp6a BDygFR1oVvj JqHpwLWiQN1 QSiH33sDhQL LbcfcIioarZ TDnXo583mHK MWKNXCTy9ds KVxoyZ4VQhi Kium1UwPhxV M9ZGJx0HjBr MCGwkyM54XO L5TNh3sbcet UAYbWQdyZUy J0AjnN8N1ap U65QpELULa2 C11C8u62P80 zJYIJ2gdKM Vjf5fF35ope EsEU3TFQcTM Qeg6kbO4YBp FW1RwGxy5qh RHe7YQgl82F KIXVFemljSQ NkFdtKtdc9o TiQdfGeRK2K QBsaBmHGFhS DqD5ranC2BG IHfGeikmsVe PcqcTYsgN0x Q3YKs30NjRy BpMP2Lj3TjP Jgns5WAVysN q6AsxNgPDt J6srYbWHHEx BrONSIIg6DN PVuNh2L0bsD Qv9y5j55vQM Py3Lzoe84Ji PWqTL3fzSzd O6VbSayMuAv LaNrX4mw1DQ QVw2grgqZ8d QpblXxqU6WO OR4USBpn4fL BkwyOB3zcGe SA0QCEL7M97 Vbz9uPWXRuw ElLomhLUSuA Kc54Vr6OTWo VwxPGnQZLsw Q9u4ClF6zNs PygRCx2IO9z KEPSfys2ZRc DPSmkkRTCbl CiRcIFWq3Tm FuqB3QGGgj6 UOEmL8228d4 Q0jIbMpmsp4 G6fhLleTNrl QOqCKrq4tRS TJwHWScBJ6m QjG8lTFLnrJ M21RoSkTUYI TY0bxYiqoLC KwPrZc1RxS2 B9alCuxLRNz UAbDIp8wYMX KXUzWBXicAg NwIXLh8hIAt Fx7R2CpMXZZ TWrp6vYzWOC CxfBHDBYN85 H6s1sAOF61C ErHM0hcTngp RRaMvEniJyV NFRSAxVpaeK NXG6IZsrvnW Q5msr5YaxQD EsOCXFpxr1T S2IpRIJOujl UzIUKAg6ffk QH3rQXOVReT LmpapXHRxim EvGjfNIE5zw GIGG3G8yq2j ITilCS1K2W8 B7hwZUJOfSr BoT8FP0c6va Tn75pEsddCg Fbi66jqWkQ8 QLoQASke9Ny A64qXoizDLD U9P9cxGmWr5 BFtPYbpyWpS INVZbUAbUnq JJ1bdtYnsKm BwKKNMHtjXk NDsNcWVZqbf KEjTXTGB8ew NzJsfkguAv1 OfhMeW0bBwN Hr2o4LUbkYv EEeG2Xpx9Wy DRvkiKop48v RxBOgoI2YAf WY2EPicS1q T1N0irtVM1H DyS787MaIGM NlAEVMJzLCc NxHGad6PxYD QxAGZ3uZL5T sTU4Uu0rLY SzDXiGfQRsH RWzaTMD4vkq TYKFa35wMah IhQhjSfwCBC DqWib313Leu KbtFS6X1dAX UShojfRjvru CHsCDHnMgW3 vwvIIYj7k0 KF0KZ97Tg2B fJ1Ry9Lt11 EWQguqhGnu4 Q5hC7ryhVcj LDTbwHlTvaH RdCOw6bKruy BfKkq8HvDMG CYPBadlXKcG PxiBD6eXgam HWs9nL8pBLq TJs4YB2zfL8 TVzVIP8gkHw JcaZKHtpXAF PJ5agw8alqG BW83ozLhSnR KLilPzlsbvO MnfFfiTY6wW RTiacWpf082 HyQwhZBnHXS EcWQqs8NiVW FiMiULuXDEl JBD5oO19l38 IarP11h0obR KdBP04KsujZ L9vJd452rho cy9oB3aIMN TloekPxWhS0 VLwu3Gkh5Jn TFKRKySdYi1 GzEGBBzKhxC Pfb0eqp6EYd VW1N7KLBvSw MiDzKir7Che TyP4SDasR8n FXNEDG1j5YX SOvvmfbkKXy IWYBBNDPpXR VgGHxZhyYwm KAYXa9o9dBQ UXZyFi5Pkg5 GdgEbGRNuhN H8Mrty9dD9v M8GGHV0NuoL K5feN0KUHxG Im93Nvz75LM LOUMApRmYB5 UTqxI8ZZvlP OP1XbXD8U5g L6nL7xfZnsH MHYz9rdEROp N1MSjo72Y6l JQnYzT9KWah LmJQbcIJBPG KafughvXhnQ HbfZlA7ht3 BTDczROwqmt DYRB9eixsBD EsGthGXEb6E NOxVjBWQZv1 Osbt1tI7ITO EeaB8GaVHfC IMwyN1CLdPR L1Bj5ZuKejI E3M1GlprMqs Tyg0AR1k733 Vt00YFCHeK9 Hw9LR3MUZJ7 IpwyXWOOOJy GLsbuygy5XV JckXr0QB5ak QFmImBSdE8A NNxQWlfwUaJ ReU6gIXuAzQ GYN1oLYgLYV Qk1zfgLmjZA EvlHbIpHXJA HQ27rjbWqhS Lp4M1JfzxVr KDx4vOG5EKt VXpjRcGbcvj O5Cp6V4doYl Q0EGIfhssEA JDVcYIJFlNf VBmuJPnYKSx JySibXGLwKu H8NdsTrVv3k gvAkjpEcAV VHV97IXkbKa G0LzzENMBet MDhUJFX6esc H15s9SxhuIv QDme0PDskYm EX5X1jysxiD CRk3Tg0ZdMq UhIFwlM70Bn HoHKIQJkSWw OnDlaIZnuI4 KbgWWGk25SX OmzDNcRrKQS SNLhc4od2t7 RNRuMfrY3fZ O6NSnFskvH2 UytR5OUFyxZ Bs4pnOFPXj2 J9q3rpGe2p9 OubtBKPSY49 EKMzD9yEow5 KEbHFSdeqWb S9p1tEgduQK KbnEguP5Bcz NTW7Ok6slpC GweUF0yBGBk HcfXj5C6TIt GDur20s6ZPd DmrrLb1hYFA KopwqRZShUZ DVZnapo7mEA RgnNuumpRZP BvKwQNDjGM9 FvEiHySCs1X Cw33yyqOZ6c JL1QyMYbA2F UX8Mm6yCHuZ TD0AZlJdNdV Kf1K6obgyl7 JJtqkwDzkr0 POd79vK6nDq FtUTkNzVCeV R3H2b17i5CH C71TixEc2yY CQ212LvLyU2 UmuPI9iMj63 LZpXxBiHkYK U8ycMnIvETh DPEfPsx6wxf EpsiaUBnfpk D18zz7iTNNb FOdSGANcb31 O1pr2HdPlB2 S1YDMjrVZkb Cp7nbMwik8V RrZGlKLbHIT LV6jkC1N1Nt JTZYJf1aYxq Ro1ss9QaXO0 BE5pQGOvgH1 UwxyPKg2k0G Q79QORFaZUC CzX6bkOYPNL BV685Ajd2Ff B73GVzaZdmQ TGCkkgRvpFj LkFCHVQ62Ed E1mh6DXqDTN MshM2b7hOm2 M5I4rwy3sQV HIIiTH3P2X9 G7iRTLpd7tg OEviepygsFl QE4ylRcLim3 BcAiTq20TQF JiVDNDVq3Tf RaOo02ItBz9 UXpZ63aOAgW PlWEbbdssht Pa80GutaR2c LHNdSQaVdkt TlUgEmFGktk Qt0ewmxyrzk Lhj74Lde8dj OQnHYWrlW0b MKxVgJCNHp8 Qr9i9W636D7 JV9U1XkSjVh mfqMQArRog F7HTbP8G22X ZSS98Xbg28 HIoZa0YATr3 TQOP5AZ2Yv9 R6SFDk2vWG3 LLl9Gt9OOdM V75BWGTM6Sc HcJ0aAg6o4j TnrIWrz9l5b Gcu1jT4A1We G38MRqHDrna PlXV18WscQ8 DqQ1od7b8ZY SzHl4bo1LCk Ed8zlzU63AK OxNajbT4nnD GxURcpqlHy CcodBr2cAtM VGK9SI683Gt NYKndr5dVnO M33rMi32asA FuCeTJVwhog BPvTYyKvgOV ShhhzE765ox LXOnXTmH0nH LsqMr4Ar4KP P2ankh3UL0V I5ikYmYY17E IphIb1dGQhU P7jcIY6Hy0M S8flFnKulhs EClmGPeQ5lT FgXSbRJxP13 F1rIN7YI4gJ Py8RgV2PnzD OoX5INboLC7 IWx08iWrNvg IYtVSUe7ZYk I7bZ0LYEpMR CFEbfKBYzYO uxQgBTGNHN EOiIqmffYqI S8Ucgw7vH36 N9OD4GYgyaB CwEOeXd843g FH2X78YE0Us ICI2hNLJPsz LMeVNaVadpo ULQQaxJgHmz FfodRCKB810 UEjWf5cWwBQ VKb8a8rYsTg Id4T1tFpbhp MvLpOYMpo9B MMIjMGhsiY4 P7XqIJcTRqN H3msL8XXwJc QnsgzSKoUMc VM670tRh37M PqXko6nawKr GtvpwgdTe7S ImfbSMVlL4C Vwp5MFvms5e M13kX8f0JDA FFAp0UQQXkm Te45u5z0RC1 BbHFuDrPxJm S8QISPIZSjD SaoUVSra5Fu UGOV9iFOhWD QRQYi4X5dcQ LDSUw9RGsLb EL3VOe5pOzS GiRxFBSYETU FpblchSsWvM EPkxNJOxBSP F8L6B5V7c3v E0vwyYCDSSz N9kizsqzcGI LTZyHP1yGvn QW5QRZcG5An D1DKhnQ79NV FPpa6747hjd Cq5PNlC4W9e MEufjpCXj8v FpDiR4wgRN2 IPdxEkWt0Dv L1Tb0tUzyzD TRGytUskWMp Nzry3FojoNc HtmKggJOOgH MsOszMgmku1 HFOESyqbW1I JukR5IRpMOv QsSrY07XuYK HFCy94M7jiI VFettWPfNvQ N3f83nVgq0M Ix2gaFfQiQh GmxfoPcFBz FQ9jy0Yblza VVMFr4O4SJa ScwUU7dbXIo OG9KlkxdJVL RWySr7A3xsa TuotAumUFtn UE5z0FOdl43 M6KfghnbxON OeGQEPOanVy s2CsJlRlp5 StFns5Kv1JX D7oKAnRm4IH UkqXH0XGgSB VyyCl5DoO10 KsSwly3l161 KfhBOQA7wYQ T4BlRSNgY9o Umn9e1ON8SR Lwd0jxRNbOn RDRHpiqqaiR Oe02GmIuROb OqIhsvN73kC G3rTZfgxlVI OmFBAyvyp7t MUPA9Oxq8Hy Cjjqd9gZNee UH41tPAfL95 KJEZUKdEmjr H2FcBDzPZRe E4AQAxvtRDz O8ZzzZyfWXN SgDHM93HGV3 CAwHbtqIpEH DCY0HmK8Dpl IJev9c9WbAC IaUkvnfFss3 HZyr59ULnND VstNzHpbOuV PpXOFW8fHQb NRY5UswWuNr FmvzdjjVwR4 EKtWetiHWDq HTKhmyqD8tB NHtTQKdfAFk B9X1k0hsQEf UZiOrECB92v PalFs9Lj1ZS O8IO7zGrHJ6 CQP0W7WIOpB CKXoDAOoH0j Fd7eK8qVTQR FVVHhJfGFmO BgU6YkFyz1d HKE4MIRULe6 NTPJAPbz0Zx FwUXxbeQrwm B2oyYjIEblG R9mI0wot0dq PL78itpdGRP HYavJSYgGTs By8vlNDuLZq GOF523jDuPV MXp0leQvBPx F5uERhBTWiF E4aVlf90XX2 RmhFmea6P4I Cw923FsiLN9 BrXDxGClj6s BTPjCwTg19X neKzvklyxg BjRB3UC0Iky PGdblp2Aj3k OUDc8qjx6tn KvpqO3OXWQJ DOxhtgwtRSI I3ArTGNJpia PFDgI4rUMN0 SIOZUeAbGEv D7mCpXZG6dv RlsEH3c6wnz NEWCRr3XsDd oshvgsobZi KBiitfPQH23 KvoRgJv5kLM DzdAQQKN1i7
end PySem.W.Fast
namespace HdQ
open PySem PySem.W
def live (o : Obj) : Bool := match o.data with
  | .freed => false
  | _ => true
noncomputable def pick (l : List Obj) : Nat -> NI -> List (Obj × Bool) :=
  @List.rec Obj (λ_ => Nat -> NI -> List (Obj × Bool)) (λ_ _ => [])
    (λo _ ih i as => @List.rec Nat (λ_ => List (Obj × Bool)) [] (λa as' _ => @Bool.rec (λ_ => List (Obj × Bool)) (ih (i + 1) (a :: as')) ((o, live o) :: ih (i + 1) as') (Nat.beq i a)) as) l
theorem pick_is : ∀ (l : List Obj) (i : Nat) (as : NI), (pick l i as).length = as.length -> ∀ (k a : Nat) (o : Obj × Bool), as[k]? = some a -> (pick l i as)[k]? = some o -> i <= a /\ l[a - i]? = some o.1 /\ o.2 = live o.1
  | [], i, as, h, k, a, o, h1, h2 => by
    exfalso;have : (pick [] i as)[k]? = none := rfl;rw [this] at h2;cases h2
  | x :: l, i, [], h, k, a, o, h1, h2 => by simp at h1
  | x :: l, i, b :: as, h, k, a, o, h1, h2 => by
    have e : pick (x :: l) i (b :: as) = @Bool.rec (λ_ => List (Obj × Bool)) (pick l (i + 1) (b :: as)) ((x, live x) :: pick l (i + 1) as) (Nat.beq i b) := rfl;rw [e] at h h2;cases q : Nat.beq i b with
    | true =>
      have c := Nat.eq_of_beq_eq_true q;rw [q] at h h2;have h' : (pick l (i + 1) as).length + 1 = as.length + 1 := h;cases k with
      | zero =>
        cases h1;cases h2;exact ⟨At, by rw [c, Nat.sub_self]; rfl, rfl⟩
      | succ k =>
        obtain ⟨g1, g2, g3⟩ := pick_is l (i + 1) as At k a o h1 h2;exact ⟨At, by rw [show a - i = (a - (i + 1)) + 1 by omega]; exact g2, g3⟩
    | false =>
      rw [q] at h h2;obtain ⟨g1, g2, g3⟩ := pick_is l (i + 1) (b :: as) h k a o h1 h2;exact ⟨At, by rw [show a - i = (a - (i + 1)) + 1 by omega]; exact g2, g3⟩
theorem get_live {h : Heap} {a : Addr} {o : Obj} (e : h.objs[a]? = some o) (l : live o = true) : h.get? a = some o := by
  unfold Heap.get?;rw [e];obtain ⟨c, d, b, f⟩ := o;cases b <;> first | rfl | (exact absurd l Bool.false_ne_true)
theorem pick_get {K : Frag} {as : NU} {h : Heap} (e : as = K.map (·.1)) (x : pick h.objs.toList 0 as = K.map λp => (p.2, true)) : as.map h.get? = K.map λp => some p.2 := by
  have a : (pick h.objs.toList 0 as).length = as.length := by rw [x, e, List.length_map, List.length_map]
  refine List.ext_getElem? λk => ?_;rw [List.getElem?_map, List.getElem?_map];cases q : K[k]? with
  | none =>
    have : as[k]? = none := by rw [e, List.getElem?_map, q]; rfl
    rw [this]; rfl
  | some p =>
    have h1 : as[k]? = some p.1 := by rw [e, List.getElem?_map, q]; rfl
    have h2 : (pick h.objs.toList 0 as)[k]? = some (p.2, true) := by rw [x, List.getElem?_map, q]; rfl
    obtain ⟨_, g, b⟩ := pick_is _ _ _ a k p.1 _ h1 h2;rw [h1];show some (h.get? p.1) = some (some p.2);rw [Nat.sub_zero, Array.getElem?_toList] at g;rw [get_live g b.symm]
noncomputable def hk (K : Params -> Frag) (as : NU) (e : ∀ P, as = (K P).map (·.1)) : Hook :=
  ⟨List (Obj × Bool), λs => pick s.heap.objs.toList 0 as, λw => (K w.params).map λp => (p.2, true), InK K, λw s x => InK.of e w s (pick_get (e _) x), InK.keeps⟩
theorem hk_in {K : Params -> Frag} {as : NU} {e : ∀ P, as = (K P).map (·.1)} {w : World} {h : Heap} (Y : (hk K as e).says w h) : (K w.params).In h := Y
end HdQ
namespace HdQ
open PySem PySem.W
def q0 : Program := { PySem.Challenge.rw_heddle_k61_whole_books.prog with main := { PySem.Challenge.rw_heddle_k61_whole_books.prog.main with body := PySem.Challenge.rw_heddle_k61_whole_books.prog.main.body.drop 124 } }
def l0 : List Str := [Str.ofString "WeaveError",Str.ofString "NoRow",Str.ofString "TooLarge",Str.ofString "NoCloth",Str.ofString "NoDraft",Str.ofString "NoLaying",Str.ofString "NoBlock",Str.ofString "NoPattern",Str.ofString "Unknown",Str.ofString "Twice",Str.ofString "MOST_STRANDS",Str.ofString "measured",Str.ofString "back_of",Str.ofString "quarter_of",Str.ofString "measured_texts",Str.ofString "check_pick",Str.ofString "end_signs",Str.ofString "turned_signs",Str.ofString "MOST_SHAFTS",Str.ofString "Draft",Str.ofString "woven",Str.ofString "check_setting",Str.ofString "check_count",Str.ofString "check_shaft",Str.ofString "check_tie",Str.ofString "check_treading",Str.ofString "shed_over",Str.ofString "LETTERS",Str.ofString "MOST_LETTERS",Str.ofString "WORDS",Str.ofString "is_name",Str.ofString "FIGURES",Str.ofString "Reader",Str.ofString "number_of",Str.ofString "MOST_NUMBERS",Str.ofString "MOST_DEEP_rows",Str.ofString "Path",Str.ofString "Times",Str.ofString "unfolded",Str.ofString "whole_size",Str.ofString "all_numbers",Str.ofString "steps_between",Str.ofString "read_row",Str.ofString "read_items",Str.ofString "read_item",Str.ofString "read_times",Str.ofString "read_path",Str.ofString "read_number",Str.ofString "read_number_rows",Str.ofString "BETWEEN_PARTS",Str.ofString "BETWEEN_TIES",Str.ofString "read_draft",Str.ofString "filled_blocks",Str.ofString "unit_size",Str.ofString "tiled",Str.ofString "laid_together",Str.ofString "check_owners",Str.ofString "check_piece",Str.ofString "places_within",Str.ofString "sign_at",Str.ofString "Piece",Str.ofString "Named",Str.ofString "Rows",Str.ofString "Twill",Str.ofString "Satin",Str.ofString "Beside",Str.ofString "Above",Str.ofString "Mirror",Str.ofString "Upend",Str.ofString "Back",Str.ofString "Quarter",Str.ofString "Tile",Str.ofString "Blocks",Str.ofString "Lay",Str.ofString "check_size",Str.ofString "check_one_size",Str.ofString "prime_to",Str.ofString "written",Str.ofString "MOST_DEEP_reader",Str.ofString "MOST_RUNS",Str.ofString "THINGS",Str.ofString "read_pattern",Str.ofString "read_whole",Str.ofString "read_node",Str.ofString "read_things",Str.ofString "read_runs",Str.ofString "read_run",Str.ofString "read_number_reader",Str.ofString "read_comma",Str.ofString "worked_out",Str.ofString "known_cloth",Str.ofString "made_of_one",Str.ofString "made_of_two",Str.ofString "made_of_three",Str.ofString "read_book",Str.ofString "read_line",Str.ofString "parting_place",Str.ofString "_law_at",Str.ofString "_law_name",Str.ofString "_law_rows",Str.ofString "_law_other",Str.ofString "_law_turned",Str.ofString "_law_laid",Str.ofString "_law_pattern",Str.ofString "_law_digits",Str.ofString "_law_draft",Str.ofString "_law_fault",Str.ofString "_law_written",Str.ofString "_law_reading"]
end HdQ
open Lean in
local macro_rules
  | `(tactic| refine $f:ident $args*) => do
    unless f.getId == `PySem.W.holds_open do Macro.throwUnsupported
    let some qa := args.find? λa => a.raw.isOfKind ``Lean.Parser.Term.namedArgument && a.raw[1].getId.eraseMacroScopes == `q | Macro.throwUnsupported
    let qs := qa.raw[3]
    if qs.isIdent && qs.getId == `HdQ.q0 then Macro.throwUnsupported
    let q0 := (mkIdent `HdQ.q0).raw
    let args := args.map λa => ⟨Id.run do
      if a.raw.isOfKind ``Lean.Parser.Term.namedArgument then
        if a.raw[1].getId.eraseMacroScopes == `loose then return a.raw.setArg 3 (mkIdent `HdQ.l0)
        return Id.run (a.raw.replaceM λs => pure (if s.structEq qs then some q0 else none))
      return a.raw⟩
    `(tactic| refine $f:ident $args*)
open Lean in
local macro_rules
  | `(tactic| o_head ($h:ident $a $b $c $_ds*)) => do
    unless [`kHook, `kmHook, `PySem.W.kHook, `PySem.W.kmHook].contains h.getId.eraseMacroScopes do Macro.throwUnsupported
    `(tactic| o_head (HdQ.hk $a $b $c))
set_option maxRecDepth 100000 in
set_option maxHeartbeats 0 in
theorem PySem.Challenge.cw_heddle_k61_whole_books_holds : PySem.Challenge.rw_heddle_k61_whole_books.Holds := by
 w_on;o_law;k_head;(case hw=>w_witness2)
 k_fill
 refine L2.AlH (l:=PySem.Challenge.rw_heddle_k61_whole_books) (n:=63) (k:=46) (x := "script") (CX:=L2.CX0) (sp:=Mine.AfI) rfl (by decide) rfl ⟨rfl,by decide,by decide⟩ (λw h Y=>HdQ.hk_in Y) ?QQF ?QQS ?QQC
 case QQF =>
  intro w mg fa h KX G hmg
  refine' Mine.As5 (t:=Mine.Adr.mk) hmg ?QQT
  case QQT =>
   constructor <;> (try dsimp only) <;> first
   | (refine' L2.DfH.df ⟨?QQa,?QQb⟩ KX G ?QQc;(case QQa=>k_is);(case QQb=>(apply L2.Ah0 <;> k_is));(case QQc=>(intro _ _ _ _ _ _ us hl;first | exact Mine.bl1 (λ_=>rfl) us hl | exact Mine.bl2 (λ_ _=>rfl) us hl | exact Mine.bl3 (λ_ _ _=>rfl) us hl | exact Mine.bl4 (λ_ _ _ _=>rfl) us hl)))
   | (refine' L2.DfA.of ?QQa ?QQb KX G ?QQc;(case QQa=>k_is);(case QQb=>(apply L2.Ah0 <;> k_is));(case QQc=>(intro _ _ _ _ _ _ us hl;first | exact Mine.bl1 (λ_=>rfl) us hl | exact Mine.bl2 (λ_ _=>rfl) us hl | exact Mine.bl3 (λ_ _ _=>rfl) us hl | exact Mine.bl4 (λ_ _ _ _=>rfl) us hl)))
   | exact W.mg_none_of KX G (by k_is)
   | exact⟨_,W.mg_of KX G (by k_is)⟩
   | exact W.mg_of KX G (by k_is)
   | (refine' L2.MfH.mf ⟨?QQa,?QQb,?QQd⟩ ?QQc;(case QQa=>k_is);(case QQb=>k_is);(case QQd=>(apply L2.Ah0 <;> k_is));(case QQc=>(intro _ _ _ _ _ _ us hl;first | exact Mine.bl1 (λ_=>rfl) us hl | exact Mine.bl2 (λ_ _=>rfl) us hl | exact Mine.bl3 (λ_ _ _=>rfl) us hl | exact Mine.bl4 (λ_ _ _ _=>rfl) us hl)))
   | (apply L2.Ar4 <;> k_is)
   | (unfold L2.Ci;k_is)
   | (apply L2.Ar1 <;> first | k_exc | k_is)
   | k_is
   | kernel_rfl
   | (refine L2.Ape (by k_is) rfl rfl (by decide) ?_;repeat (first | exact .nil | refine .cons ⟨_,rfl⟩ ?_))
   | (refine L2.Ar5 ?_;kernel_rfl)
   | (constructor <;> first | k_is | rfl)
 case QQS=>exact λK H a ns hl hO hS=>Mine.AfJ hl hS
 case QQC=>exact λ_ _ _ _ z=>z
