import PyProof.Rows.All
import Wide.FinOn
import KE.KNestM
import OpenK.KOwn
import KE.KItem
import KE.IntText
import KE.KTabLook
import KE.KFromBytes
import KE.KIntText
import KE.KTab
import KE.KIsAll
import KE.KLam
import KE.KRevIter
import KE.KDictOf
import KE.KxBytes
import OpenK.KRaise
import Lean
import PyProof.EqAt
import PyProof.EqKinds
import PyProof.TupleCall
import PyProof.StrBlockL
import PyProof.EnumMake
import PyProof.CollectIter
import PyProof.JoinWalk
import PyProof.StrOps
import PyProof.StrLawsIdx
import PyProof.StrLawsIn
import PyProof.ListRange
import PyProof.Rows.Range3
import PyProof.Rows.SumAny
import KE.LcSums
import OpenK.KCls
import PyProof.LongRange
import PyProof.StrOps2
import PyProof.FitsBits
import PyProof.NeKinds
import PyProof.Rows.SortRev
import PyProof.Rows.SortWalk
import PyProof.Rows.CallKwBuiltin
import PyProof.Rows.MinMaxN
import PyProof.Rows.SetFrom
import PyProof.CollectWalk
import PyProof.DictWalks
import PyProof.TupleKey
import KE.KSortTup
import PyProof.Rows.SortRuns
import KE.KSortKey
import PyProof.Rows.StrNews
import PyProof.StrLawsChain
import Wide.Txt
import PyProof.Rows.ZipGen
import PyProof.Draws
import PyProof.Rows.SeqMore
import PyProof.ConsumeWalk
import KE.KUnpack
import PySem.Challenge.RW_heddle_k68_questions_refused
open Lean in
local macro_rules
|`($m:declModifiers def $i:declId $s:optDeclSig $v:declVal)=>do
 unless m.raw[4].isNone && ![`vE,`vN].contains i.raw[0].getId do Macro.throwUnsupported
 let m:=⟨m.raw.setArg 4 (mkNullNode #[.node .none ``Lean.Parser.Command.noncomputable #[mkAtom "noncomputable"]])⟩
 `($m:declModifiers def $i:declId $s:optDeclSig $v:declVal)
|`($m:declModifiers abbrev $i:declId $s:optDeclSig $v:declVal)=>do
 unless m.raw[4].isNone && ![`vE,`vN].contains i.raw[0].getId do Macro.throwUnsupported
 let m:=⟨m.raw.setArg 4 (mkNullNode #[.node .none ``Lean.Parser.Command.noncomputable #[mkAtom "noncomputable"]])⟩
 `($m:declModifiers abbrev $i:declId $s:optDeclSig $v:declVal)
theorem Ab{p:Prop}(h:p:=by decide):p:=h
theorem Ap{p:Prop}(h:p:=by decide +kernel):p:=h
theorem As{p:Prop}(h:p:=by lia):p:=h
theorem At{p:Prop}(h:p:=by simp):p:=h
theorem Au{p:Prop}(h:p:=by simp_all):p:=h
theorem Z.{u}{α:Sort u}{a:α}:a=a:=rfl
abbrev NN:=List (List Nat)
abbrev NL:=List Nat
abbrev NV:=List Int
abbrev NA:=PySem.W.Frag
abbrev NF:=List (PySem.Addr×PySem.Obj)
abbrev NS:=PySem.Value->PySem.Shared->Prop
abbrev NO:=List PySem.Addr
abbrev NR:=List PySem.Value
abbrev NU:=List PySem.Str
abbrev NW:=Option PySem.Value
abbrev NX:=PySem.Addr
abbrev NY:=PySem.FuncData
abbrev Na:=PySem.Shared
abbrev Nd:=PySem.Value
abbrev Nl:=PySem.Stmt
set_option Elab.async false
set_option linter.all false
set_option maxRecDepth 100000
namespace Zy
open PySem PySem.Spec PyProof.Rows PySem.W
def zA:=@wpAny_bind
def zB:=@Heap.get?_push_of_some
def zC:=@List.getElem?_eq_some_iff
def zD:=@Heap.get?_push_size
def zE:=@wpAny_pure
def zF:=@List.mem_singleton
def zG:=@List.mem_append
def zH:=@Heap.get?_update_other
def zI:=@F.plainAttrs_str
def zJ:=@Array.length_toList
def zK:=@decide_eq_true
def zL:=@Array.getElem?_toList
def zM:=@Array.getElem?_eq_getElem
def zN:=@Heap.get?_update_self
def zO:=@wpAny_mono
def zP:=@PySem.mem_of_lookup
def zQ:=@Obj.data_mapFields
def zR:=@F.slot_str_split
def zS:=@sizeLine_eq
def zT:=@wpAny_holding
def zU:=@wpAny_setField
def zV:=@wpAny_field
def zW:=@wpAny_truthy_bool
def zX:=@F.called_set
def zY:=@List.mem_map
def zZ:=@List.mem_cons
def z5:=@List.mem_range
def z6:=@wpAny_newObj_type
def z7:=@if_neg
def z8:=@if_pos
def z9:=@absurd
def yA:=@Heap.lt_size
def yB:=@Option.some.inj
def yC:=@PyProof.Rows.callWith_type1
def yD:=@Ne.symm
def yE:=@or_false
def yF:=@of_decide_eq_true
def yG:=@Heap.size_push
def yH:=@wpAny_Call_Name_kw
def yI:=@False.elim
def yJ:=@ne_true_of_eq_false
def yK:=@wpAny_seqItems
def yL:=@wpAny_call_entry
def yM:=@call_meets
def yN:=@Obj.isFreed_of_fields
def yO:=@F.entry_str_split
def yP:=@Calls.spliced_cons
def yQ:=@codeAny_mono
def yR:=@Calls.spliced_nil
end Zy
open Zy
namespace Zz
def AsY:=@Nat.le_refl
def AsZ:=@List.length_map
def Ata:=@Bool.and_eq_true
def Atb:=@Nat.ne_of_lt
def Atc:=@List.getElem?_eq_getElem
def Atd:=@List.size_toArray
def Ate:=@Nat.lt_of_lt_of_le
def Atf:=@Nat.le_trans
def Atg:=@Nat.zero_le
def Ath:=@List.mem_cons_of_mem
def Ati:=@zZ
def Atj:=@Bool.false_ne_true
def Atk:=@List.mem_cons_self
def Atl:=@List.not_mem_nil
def Atm:=@List.length_append
def Atn:=@List.getElem?_map
def Ato:=@List.mem_of_getElem?
def Atp:=@List.all_eq_true
def Atq:=@Nat.le_succ
def Atr:=@Nat.ne_of_gt
def Ats:=@Nat.le_of_lt
def Atu:=@List.getElem?_append_right
def Atv:=@List.getElem?_append_left
def Atw:=@List.map_cons
def Atx:=@List.mem_append_right
def Aty:=@Nat.lt_succ_self
def Atz:=@List.all_cons
def At0:=@Nat.lt_irrefl
def At1:=@List.length_range
def At2:=@List.length_cons
def At3:=@List.getD_eq_getElem?_getD
def At4:=@List.lookup_cons
def At5:=@Nat.lt_succ_of_lt
def At6:=@List.append_nil
def At7:=@Bool.not_eq_true'
def At8:=@List.map_append
def At9:=@List.getElem_mem
def AtA:=@List.getElem_of_mem
def AtB:=@List.length_take
def AtC:=@Nat.zero_add
def AtD:=@List.map_map
def AtE:=@Nat.le_of_eq
def AtF:=@List.take_of_length_le
def AtG:=@List.pairwise_map
def AtH:=@List.length_reverse
def AtI:=@Bool.eq_iff_iff
def AtJ:=@Int.toNat_natCast
def AtK:=@List.any_cons
def AtL:=@List.replicate_succ
def AtM:=@List.append_assoc
def AtN:=@List.find?_cons
def AtO:=@Bool.or_eq_true
def AtP:=@Bool.false_eq_true
def AtQ:=@List.filterMap_cons
def AtR:=@List.foldl_cons
def AtS:=@Nat.lt_of_le_of_lt
def AtT:=@Nat.lt_trans
def AtU:=@List.map_congr_left
def AtV:=@Nat.mod_lt
def AtW:=@List.take_append_drop
def AtX:=@Int.emod_nonneg
def AtY:=@Int.le_refl
def AtZ:=@zF
def Aua:=@List.filter_append
def Aub:=@Nat.le_of_ble_eq_true
def Auc:=@List.flatten_cons
def Aud:=@List.forIn_cons
def Aue:=@Nat.succ_pos
def Auf:=@Nat.sub_self
def Auh:=@List.nil_append
def Aui:=@Int.le_trans
def Auj:=@List.getElem_inj
def Auk:=@List.getElem?_set_ne
def Aul:=@List.of_mem_zip
def Aum:=@Nat.le_of_lt_succ
def Aun:=@Int.emod_lt_of_pos
def Auo:=@List.take_add_one
def Aup:=@Nat.mul_le_mul
def Auq:=@List.take_length
def Aur:=@List.mem_append_left
def Aus:=@List.getElem?_set_self
def Aut:=@List.any_eq_false
def Auu:=@List.getElem?_take_of_lt
def Auv:=@List.length_replicate
def Auw:=@Option.isSome_map
def Aux:=@List.drop_eq_getElem_cons
def Auy:=@List.perm_middle
def Auz:=@Nat.lt_trichotomy
def Au0:=@List.getElem?_eq_none
def Au1:=@List.pairwise_iff_getElem
def Au2:=@List.nodup_range
def Au3:=@List.ext_getElem
def Au4:=@List.getElem_map
def Au5:=@List.getElem_toArray
def Au6:=@List.takeWhile_append_dropWhile
def Au7:=@List.length_singleton
def Au8:=@List.zip_cons_cons
def Au9:=@List.eq_nil_of_length_eq_zero
def AuA:=@List.eraseIdx_eq_take_drop_succ
end Zz
open Zz
namespace L2
open PySem PySem.Spec PyProof.Rows
variable {xs vs:Nn}{us ds:NR}{H H':Hp}{a b it C dx:NX}{o o':HO}{u cd:Nd}{P prog:Program}{w:World}{h h':Heap}{x name m qual:Str}{e c tg l iter:Expr}{ch fp:NO}{sc scope:Scope}{X:Cx}{pins:NF}{σ:St}{s s':Na}{g':Array GenState}{t' i j n:Nat}{d':Drawn}{N ns ps:NU}{A:Around}{E:NS}{v y:V}{Q:Unit->Na->Prop}{t ta te tl:TE}{α κ:Type}{tb:TS}{R:V->V->Hp->Prop}{pos pos' p:Pos}{op:CmpOp}{tc:TT}{D:Ends}{f:Nd->Nd->Sem Nd}{es:List Expr}{body:List Nl}{pl:Sem Bool}{r:R2}{mA mg:Str->NW}{kw:List (Str×Nd)}{CX:CXT}{sp:Sp}
abbrev Key:=Sum Int Str
def Yi:Key->Nd->Bool
 | .inl k,v=>Value.isInt k v
 | .inr x,v=>Value.isStrOf x v
def ArK (w:World):Key->Int
 | .inl k=>hashInt k
 | .inr x=>hashStr w x
theorem BJ:∀{k:Key} {v:Nd},Yi k v=true->(∃i t,k=Sum.inl i/\v=Value.int i t)\/(∃x t,k=Sum.inr x/\v=Value.str x t)
 | .inl i,v,h=>by
  obtain⟨t,e⟩:=Value.isInt_shape h;exact .inl ⟨i,t,Z,e⟩
 | .inr x,v,h=>by
  obtain⟨t,e⟩:=Value.isStrOf_shape h;exact .inr ⟨x,t,Z,e⟩
theorem AfO(i:Int)(t:Tok):Yi (.inl i) (.int i t)=true:=by simp[Yi,Value.isInt]
theorem AfP(x:Str)(t:Tok):Yi (.inr x) (.str x t)=true:=by simp[Yi,Value.isStrOf]
theorem Anb(a b:Int):decide ((Sum.inl a:Key)=Sum.inl b)=(a == b):=by
 by_cases e:a=b
 ·subst e;simp
 ·simp_all
theorem Anc(a b:Str):decide ((Sum.inr a:Key)=Sum.inr b)=decide (a=b):=Au
theorem Ane(a:Int)(b:Str):decide ((Sum.inl a:Key)=Sum.inr b)=false:=decide_eq_false (λq=>nomatch q)
theorem Anf(a:Str)(b:Int):decide ((Sum.inr a:Key)=Sum.inl b)=false:=decide_eq_false (λq=>nomatch q)
def Ak (prog:Program)(w:World):PySem.KeyKind prog w Key where
 is:=Yi
 hash:=ArK w
 inj:=λv a b ha hb=>by
  rcases BJ ha with ⟨i,t,rfl,rfl⟩|⟨x,t,rfl,rfl⟩
  ·rcases BJ hb with ⟨j,u,rfl,e⟩|⟨y,u,rfl,e⟩
   ·injection e with e1 _;rw[e1]
   ·exact nomatch e
  ·rcases BJ hb with ⟨j,u,rfl,e⟩|⟨y,u,rfl,e⟩
   ·exact nomatch e
   ·injection e with e1 _;rw[e1]
 byValue:=λk v h=>by
  rcases BJ h with ⟨i,t,rfl,rfl⟩|⟨x,t,rfl,rfl⟩<;>rfl
 pyHash:=λhv h=>by
  rcases BJ hv with ⟨i,t,rfl,rfl⟩|⟨x,t,rfl,rfl⟩
  ·exact wpAny_pyHash_int h
  ·exact wpAny_pyHash_str h
 eqBool:=λhu hv h=>by
  rcases BJ hu with ⟨i,t,rfl,rfl⟩|⟨x,t,rfl,rfl⟩
  ·rcases BJ hv with ⟨j,u,rfl,rfl⟩|⟨y,u,rfl,rfl⟩
   ·rw[Anb]at h;exact wpAny_eqBool_int h
   ·rw[Ane]at h;exact SeqAt.EqAt.int_str i t y u _ _ _ _ h
  ·rcases BJ hv with ⟨j,u,rfl,rfl⟩|⟨y,u,rfl,rfl⟩
   ·rw[Anf]at h;exact SeqAt.EqAt.str_int x t j u _ _ _ _ h
   ·rw[Anc]at h;exact wpAny_eqBool_str h
 «strs»:=λk x t v h=>by
  rcases BJ h with ⟨i,u,rfl,e⟩|⟨y,u,rfl,e⟩
  ·exact nomatch e
  ·injection e with e1 _
   subst e1
   cases v<;>rfl
theorem AaO(prog:Program)(w:World)(i:Int)(t:Tok):(Ak prog w).is (.inl i) (.int i t)=true:=AfO i t
theorem AaP(prog:Program)(w:World)(x:Str)(t:Tok):(Ak prog w).is (.inr x) (.str x t)=true:=AfP x t
inductive V where
 |non|bl (b:Bool)|int (i:Int)|str (x:Str)|byt (b:Array UInt8)|flt (b:UInt64)|ref (a:NX)|ty (n:String)
 deriving DecidableEq
abbrev Nn:=List V
def RelV:V->Nd->Prop
 | .non,u=>u=Value.none
 | .bl b,u=>u=Value.bool b
 | .int i,u=>∃t,u=Value.int i t
 | .str x,u=>∃t,u=Value.str x t
 | .byt b,u=>∃t,u=Value.bytes b t
 | .flt b,u=>∃t,u=Value.float b t
 | .ref a,u=>u=Value.ref a
 | .ty n,u=>u=Value.type n
abbrev Vals:Nn->NR->Prop:=Paired RelV
theorem Vals.length(r:Vals xs us):xs.length=us.length:=Paired.length r
theorem Vals.get:∀{xs:Nn} {us:NR} {i:Nat} {x:V},Vals xs us->xs[i]?=some x->∃u,us[i]?=some u/\RelV x u
 |_,_,_,_,.nil,e=>by simp at e
 |_,_,0,_,.cons r _,e=>Au
 |_,_,i+1,x,.cons _ t,e=>by
  obtain⟨u,h1,h2⟩:=Vals.get t (by simpa using e);exact⟨u,by simpa using h1,h2⟩
theorem Vals.set{x:V}{u:Nd}(r:RelV x u):∀{xs:Nn} {us:NR} (i:Nat),Vals xs us->Vals (xs.set i x) (us.set i u)
 |_,_,_,.nil=>.nil
 |_,_,0,.cons _ t=>.cons r t
 |_,_,i+1,.cons q t=>.cons q (Vals.set r i t)
theorem Vals.append:∀{xs ys:Nn} {us ws:NR},Vals xs us->Vals ys ws->Vals (xs++ys) (us++ws)
 |_,_,_,_,.nil,s=>s
 |_,_,_,_,.cons r t,s=>.cons r (Vals.append t s)
theorem Vals.take:∀{xs:Nn} {us:NR} (n:Nat),Vals xs us->Vals (xs.take n) (us.take n)
 |_,_,0,_=>.nil
 |_,_,_+1,.nil=>.nil
 |_,_,n+1,.cons r t=>.cons r (Vals.take n t)
theorem Vals.drop:∀{xs:Nn} {us:NR} (n:Nat),Vals xs us->Vals (xs.drop n) (us.drop n)
 |_,_,0,r=>r
 |_,_,_+1,.nil=>.nil
 |_,_,n+1,.cons _ t=>Vals.drop n t
def Ju:Option V->NW->Prop
 |some v,some u=>RelV v u
 |none,none=>True
 |_,_=>False
def KV {κ:Type}:List (κ×V)->List (κ×Nd)->Prop:=Paired λ(p:κ×V)(q:κ×Nd)=>p.1=q.1/\RelV p.2 q.2
def kV:Key->V
 | .inl i=>.int i
 | .inr x=>.str x
inductive HO where
 |lst (xs:Nn)
 |tup (xs:Nn)
 |dK (kvs:List (Key×V))|dT (kvs:List (List Key×V))
 |set (S:Int->Bool) (n:Nat)
 |ins (C dx:NX) (fs:List (Str×V))
 |own (x:NX)
 |xd (fs:List (Str×V))
 |met (f x:NX)
 |rng (lo hi:Int)
 |frz (o:Obj) (u:HO)
 |tbl (ps:Array Nd)
 |ext (φ:Heap->Prop)
abbrev Hp:=NX->Option HO
def upd (H:Hp)(a:NX)(o:HO):Hp:=λb=>if b=a then some o else H b
theorem Ad:upd H a o a=some o:=by unfold upd;rw[z8 rfl]
theorem Af(h:b≠a):upd H a o b=H b:=by unfold upd;rw[z7 h]
theorem Aeq{u:HO}:upd (upd H a o) a u=upd H a u:=by
 funext b;unfold upd;split<;>rfl
theorem ApN{u:HO}(h:H a=some o)(h':H b=some u)(d:o≠u):a≠b:=by intro e;subst e;rw[h]at h';exact d (yB h')
theorem Az(h:H a=some o)(h':H b=none):a≠b:=by intro e;subst e;rw[h]at h';cases h'
section
variable (P:Program) (w:World)
def BV (H:Hp)(h:Heap)(a:NX):HO->Prop
 | .lst xs=>xs.length<=sizeLine/\∃(its:NR)(n:Nat),Vals xs its/\h.get? a=some {cls:=.type "list",data:=.seq its.toArray n}
 | .tup xs=>xs.length<=sizeLine/\∃its:NR,Vals xs its/\IsTup h a its.toArray
 | .dK kvs=>kvs.length<=sizeLine/\(a == sysModules)=false/\∃vs,KV kvs vs/\h.DictOf (Ak P w) a vs
 | .dT kvs=>kvs.length<=sizeLine/\(a == sysModules)=false/\∃xs:List (List Key×NX×Nd),
   Paired (λ(p:List Key×V)(q:List Key×NX×Nd)=>p.1=q.1/\H q.2.1=some (.tup (p.1.map kV))/\RelV p.2 q.2.2) kvs xs /\
   ∃o es ep,h.get? a=some o/\o.ExactDict/\o.data=.dict es ep/\es.toList=xs.map (entryOfKey (tupleKind (Ak P w)))/\(xs.map (·.1)).Nodup
 | .set S n=>h.SetOf (intKind P w) a S n
 | .ins C dx fs=>H dx=some (.own a)/\fs.length<=1000/\dx≠a/\h.get? a=some (W.instObj C dx) /\
   ∃mA,h.Ns1 dx mA/\(∀f,Ju (fs.lookup f) (mA f))/\PySem.Within mA (fs.map (·.1))
 | .own _=>∃o,h.get? a=some o
 | .xd fs=>∃mA,h.Ns1 a mA/\∀f,Ju (fs.lookup f) (mA f)
 | .rng lo hi=>∃t u v,h.get? a=some {cls:=.type "range",data:=.fields #[.int lo t,.int hi u,.int 1 v]}
 | .frz o u=>h.get? a=some o/\BV H h a u
 | .tbl ps=>h.get? a=some {cls:=.none,data:=.fields ps}
 | .met f x=>h.get? a=some (W.methodObj (.ref f) (.ref x))
 | .ext φ=>φ h/\(∃o,h.get? a=some o)/\∀h1 h2:Heap,φ h1->(∀o,h1.get? a=some o->h2.get? a=some o)->φ h2
def HOk (H:Hp)(h:Heap):Prop:=∀a o,H a=some o->BV P w H h a o
end
theorem BV.lt(x:BV P w H h a o):a<h.objs.size:=by
 cases o with
 |lst xs=>obtain⟨_,_,_,_,e⟩:=x;exact yA e
 |tup xs=>obtain⟨_,_,_,p⟩:=x;exact p.lt
 |dK kvs=>obtain⟨_,_,_,_,o,_,_,e,_⟩:=x;exact yA e
 |dT kvs=>obtain⟨_,_,_,_,o,_,_,e,_⟩:=x;exact yA e
 |set S n=>obtain⟨o,_,_,_,e,_⟩:=x;exact yA e
 |ins C dx fs=>obtain⟨_,_,_,e,_⟩:=x;exact yA e
 |own y=>obtain⟨_,e⟩:=x;exact yA e
 |xd fs=>obtain⟨_,⟨_,_,_,e,_⟩,_⟩:=x;exact yA e
 |rng lo hi=>obtain⟨_,_,_,e⟩:=x;exact yA e
 |frz b u=>obtain⟨e,_⟩:=x;exact yA e
 |tbl ps=>exact yA (x)
 |met f y=>exact yA (x)
 |ext c=>obtain⟨_,⟨_,e⟩,_⟩:=x;exact yA e
theorem Paired.AjX{α c:Type}{F G:α->c->Prop}:∀{l₁:List α} {l₂:List c},Paired F l₁ l₂->(∀a b,F a b->G a b)->Paired G l₁ l₂
 |_,_,.nil,_=>.nil
 |_,_,.cons r t,f=>.cons (f _ _ r) (Paired.AjX t f)
theorem BV.stay(x:BV P w H h a o)(k:∀b u,(b=a\/H b=some (.own a))->h.get? b=some u->h'.get? b=some u)
  (m:∀b,H b=some (.own a)->H' b=some (.own a)) (A:∀b xs,H b=some (.tup xs)->H' b=some (.tup xs)):BV P w H' h' a o:=by
 induction o with
 |lst xs=>obtain⟨z,its,n,r,e⟩:=x;exact⟨z,its,n,r,k _ _ (.inl Z) e⟩
 |tup xs=>obtain⟨z,its,r,i,e,c⟩:=x;exact⟨z,its,r,i,k _ _ (.inl Z) e,c⟩
 |dK kvs=>obtain⟨z,y,vs,r,i,es,ep,e,c⟩:=x;exact⟨z,y,vs,r,i,es,ep,k _ _ (.inl Z) e,c⟩
 |dT kvs =>
  obtain⟨z,y,xs,r,i,es,ep,e,c⟩:=x;exact⟨z,y,xs,Paired.AjX r λp q z=>⟨z.1,A _ _ z.2.1,z.2.2⟩,i,es,ep,k _ _ (.inl Z) e,c⟩
 |set S n=>obtain⟨i,es,ep,t,e,c⟩:=x;exact⟨i,es,ep,t,k _ _ (.inl Z) e,c⟩
 |ins C dx fs =>
  obtain⟨d,z,ne,e,mA,⟨j,es,ep,s,c⟩,r⟩:=x;exact⟨m _ d,z,ne,k _ _ (.inl Z) e,mA,⟨j,es,ep,k _ _ (.inr d) s,c⟩,r⟩
 |own y=>obtain⟨i,e⟩:=x;exact⟨i,k _ _ (.inl Z) e⟩
 |xd fs=>obtain⟨mA,⟨j,es,ep,e,c⟩,r⟩:=x;exact⟨mA,⟨j,es,ep,k _ _ (.inl Z) e,c⟩,r⟩
 |rng lo hi=>obtain⟨t,u,v,e⟩:=x;exact⟨t,u,v,k _ _ (.inl Z) e⟩
 |frz i u l=>obtain⟨e,q⟩:=x;exact⟨k _ _ (.inl Z) e,l q⟩
 |tbl ps =>
  have e:=x;exact k a _ (.inl Z) e
 |met f y =>
  have e:=x;exact k a _ (.inl Z) e
 |ext B=>obtain⟨p,⟨o,e⟩,st⟩:=x;exact⟨st _ _ p λo q=>k _ _ (.inl Z) q,⟨o,k _ _ (.inl Z) e⟩,st⟩
theorem HOk.lt(x:HOk P w H h)(e:H a=some o):a<h.objs.size:=(x a o e).lt
theorem HOk.fresh(x:HOk P w H h)(e:h.objs.size<=a):H a=none:=by
 cases q:H a with
 |none=>rfl
 |some u=>exact z9 (Ate (x.lt q) e) (At0 _)
theorem HOk.kept(x:HOk P w H h)(k:∀b u,h.get? b=some u->h'.get? b=some u):HOk P w H h':=λa o e =>
 (x a o e).stay (λb u _ q=>k b u q) (λ_ q=>q) λ_ _ q=>q
theorem HOk.laid(x:HOk P w H h)(k:∀b u,h.get? b=some u->h'.get? b=some u)(f:h.objs.size<=a)(new:BV P w (upd H a o) h' a o):HOk P w (upd H a o) h':=λb u e=>by
 have hn:=x.fresh f;by_cases d:b=a
 ·subst d;rw[Ad]at e;cases e;exact new
 ·rw[Af d]at e;exact(x b u e).stay (λc v _ q=>k c v q) (λc q=>by rw[Af (Az q hn)];exact q) λc xs q=>by rw[Af (Az q hn)];exact q
def Rd (H:Hp)(a:NX)(u:HO):Prop:=H a=some u\/∃o,H a=some (.frz o u)
theorem Rd.of{u:HO}(h:H a=some u):Rd H a u:=.inl h
theorem Rd.ok{u:HO}(r:Rd H a u)(x:HOk P w H h):BV P w H h a u:=by
 rcases r with r|⟨o,r⟩
 ·exact x a u r
 ·obtain⟨_,q⟩:=x a _ r;exact q
def Mut:Option HO->Prop
 |some (.lst _)=>True
 |some (.dK _)=>True
 |some (.dT _)=>True
 |some (.set _ _)=>True
 |some (.ins _ _ _)=>True
 |some (.ext _)=>True
 |_=>False
section
variable {x e:NX}
theorem HOk.write(ok:HOk P w H h)(d:Mut (H x))(o:e=x\/H e=some (.own x))(k:∀b u,b≠e->h.get? b=some u->h'.get? b=some u)(j:∃u,h'.get? e=some u)
  (new:BV P w (upd H x o') h' x o'):HOk P w (upd H x o') h':=λb u q=>by
 have f:∀c y,H c=some (.own y)->c≠x:=λc y r z=>by subst z;rw[r]at d;exact d
 have i:∀c xs,H c=some (.tup xs)->c≠x:=λc xs r z=>by subst z;rw[r]at d;exact d
 by_cases l:b=x
 ·subst l;rw[Ad]at q;cases q;exact new
 ·rw[Af l]at q;by_cases a:b=e
  ·have m:H b=some (.own x):=by
    rcases o with z|z
    ·exact z9 (a.trans z) l
    ·rw[a];exact z
   rw[q]at m;cases m;obtain⟨v,n⟩:=j;exact⟨v,by rw[a];exact n⟩
  ·refine(ok b u q).stay (λc v hc r=>k c v ?_ r) (λc r=>by rw[Af (f c b r)];exact r) λc xs r=>by rw[Af (i c xs r)];exact r
   grind
end
structure Un (fs ex:NO)(H H':Hp)(h h':Heap):Prop where
 keep:∀b o,h.get? b=some o->H b=none->b∉fs->b∉ex->h'.get? b=some o
 slot:∀b o,h.get? b=some o->H b=none->b∈fs->b∉ex->∃sl,h'.get? b=some {o with slots:=sl}
 free:∀b o,h.get? b=some o->H b=none->b∉ex->H' b=none
 there:∀b o,h.get? b=some o->b∉ex->∃o',h'.get? b=some o'
 tups:∀b xs,H b=some (.tup xs)->H' b=some (.tup xs)
 DN:∀b o u,H b=some (.frz o u)->H' b=some (.frz o u)
 El:∀b ps,H b=some (.tbl ps)->∃more,H' b=some (.tbl (ps++more))
section
variable {fs fs' ex ex':NO}{H1 H2:Hp}{h1 h2:Heap}{x e:NX}
theorem Un.any(u:Un fs ex H H1 h h1){ob:Obj}(q:h.get? b=some ob)(n:H b=none)(a:b∉ex):∃d,h1.get? b=some {ob with slots:=d}:=by
 by_cases c:b∈fs
 ·exact u.slot b ob q n c a
 ·exact⟨ob.slots,u.keep b ob q n c a⟩
theorem Un.trans(a:Un fs ex H H1 h h1)(b:Un fs ex H1 H2 h1 h2):Un fs ex H H2 h h2 where
 keep:=λc d q n hc e=>b.keep c d (a.keep c d q n hc e) (a.free c d q n e) hc e
 slot:=λc d q n hc e=>by
  obtain⟨m,e1⟩:=a.slot c d q n hc e;obtain⟨f,i⟩:=b.slot c _ e1 (a.free c d q n e) hc e;exact⟨f,i⟩
 free:=λc d q n e=>by
  obtain⟨o',e1⟩:=a.there c d q e;exact b.free c o' e1 (a.free c d q n e) e
 there:=λc d q e=>by
  obtain⟨o',e1⟩:=a.there c d q e;exact b.there c o' e1 e
 tups:=λc xs q=>b.tups c xs (a.tups c xs q)
 DN:=λc d xs q=>b.DN c d xs (a.DN c d xs q)
 El:=λc ps q=>by
  obtain⟨l,e1⟩:=a.El c ps q;obtain⟨j,i⟩:=b.El c _ e1;exact⟨l++j,by rw[i,Array.append_assoc]⟩
theorem Un.kept(k:∀b u,h.get? b=some u->h'.get? b=some u):Un fs ex H H h h':=
 ⟨λb a q _ _ _=>k b a q,λb a q _ _ _=>⟨a.slots,k b a q⟩,λ_ _ _ n _=>n,λb a q _=>⟨a,k b a q⟩,λ_ _ q=>q,λ_ _ _ q=>q,λ_ ps q=>⟨#[],by rw[q];simp⟩⟩
theorem Un.refl:Un fs ex H H h h:=Un.kept λ_ _ q=>q
theorem Un.laid(k:∀b u,h.get? b=some u->h'.get? b=some u)(c:h.objs.size<=a)(hn:H a=none):Un fs ex H (upd H a o) h h' where
 keep:=λb u q _ _ _=>k b u q
 slot:=λb u q _ _ _=>⟨u.slots,k b u q⟩
 free:=λb u q n _=>by rw[Af (Atb (Ate (yA q) c))];exact n
 there:=λb u q _=>⟨u,k b u q⟩
 tups:=λb xs q=>by rw[Af (Az q hn)];exact q
 DN:=λb u xs q=>by rw[Af (Az q hn)];exact q
 El:=λb ps q=>⟨#[],by rw[Af (Az q hn),q];simp⟩
theorem Un.write(f:Mut (H x))(l:e=x\/H e=some (.own x))(k:∀b u,b≠e->h.get? b=some u->h'.get? b=some u)(i:∃u,h'.get? e=some u):Un fs ex H (upd H x o) h h':=by
 have j:∀b,H b=none->b≠x:=λb n z=>by subst z;rw[n]at f;exact f
 have d:∀b,H b=none->b≠e:=λb n z=>by
  simp_all
 have c:∀b u,H b=some u->¬Mut (some u)->b≠x:=λb u q nm z=>Au
 refine⟨λb u q n _ _=>k b u (d b n) q,λb u q n _ _=>⟨u.slots,k b u (d b n) q⟩,λb u q n _=>by rw[Af (j b n)];exact n,λb u q _=>?_,
  λb xs q=>by rw[Af (c b _ q λz=>z)];exact q,λb u xs q=>by rw[Af (c b _ q λz=>z)];exact q,λb ps q=>⟨#[],by rw[Af (c b _ q λz=>z),q];simp⟩⟩;by_cases a:b=e
 ·simp_all
 ·exact⟨u,k b u a q⟩
end
def trk (h:Heap)(H:Hp):NO:=(List.range h.objs.size).filter λa=>(H a).isSome
def NP (h:Heap)(H:Hp):Heap:=W.hideAll h (trk h H)
theorem Yj(h:Heap)(H:Hp):(NP h H).objs.size=h.objs.size:=W.hideAll_size _ _
theorem AaQ{o:Obj}(e:h.get? b=some o)(n:H b=none):(NP h H).get? b=some o:=
 W.hideAll_get _ e λa=>by
  have q:=(List.mem_filter.mp a).2;rw[n]at q;simp at q
theorem Aer{o:Obj}(e:(NP h H).get? b=some o):h.get? b=some o/\H b=none:=by
 have a:=W.of_hideAll (trk h H) e;refine⟨a,?_⟩;cases q:H b with
 |none=>rfl
 |some x =>
  have c:b∈trk h H:=List.mem_filter.mpr ⟨z5.mpr (yA a),by simp[q]⟩;have z:(NP h H).get? b=none:=W.hideAll_none (trk h H) c;rw[z]at e;cases e
def AjY (g h:Heap)(L:NX):NF:=(List.range h.objs.size).filterMap λa=>if a=L\/(g.get? a).isSome=true then none else (h.get? a).map λo=>(a,o)
def rest(g h:Heap)(L d:NX):NF:=(AjY g h L).filter λp=>decide (p.1≠d)
structure Mod (K:NA)(mg:Str->NW)(base:Heap):Prop where
 kin:K.In base
 glob:base.Ns mainGlobals mg
 blt:∃mb,base.Ns builtinsNs mb/\∀x:Str,x≠"__name__" -> mb x=bootBuiltins x
 nolimit:base.NoLimit
structure Cx where
 prog:Program
 w:World
 K:NA
 mg:Str->NW
 base:Heap
 A:Around
 N:NU
 s₀:Na
 H₀:Hp
 env:Env
 outer:List Env
 stack:List Env
 ex:NO
 fn:Str->Bool
 calm:Bool
 pn:NF
 xe:Nd->Na->Prop
def frs (l:List Env):NO:=l.filterMap (·.frame)
abbrev Cx.fs (X:Cx):NO:=frs X.outer
def Vis (sc:Scope)(x:Str):Prop:=sc.names.lookup x=some .local\/sc.names.lookup x=some .cell\/sc.names.lookup x=some .free
def Ang (sc:Scope)(x:Str):Bool:=match sc.names.lookup x with
 |some .local=>true
 |some .cell=>true
 |some .free=>true
 |_=>false
theorem ApO(h:Ang sc x=true):Vis sc x:=by
 unfold Ang at h;unfold Vis;cases e:sc.names.lookup x with
 |none=>rw[e]at h;cases h
 |some k=>rw[e]at h;cases k<;>first|exact .inl Z|exact .inr (.inl Z)|exact .inr (.inr Z)|cases h
def Loc (sc:Scope)(x:Str):Prop:=sc.names.lookup x=some .local\/sc.names.lookup x=some .cell
def Look(env:Env)(h:Heap)(m:Str->NW)(x:Str)(u:Nd):Prop:=
 (env.kindOf x=some .local/\m x=some u)\/((env.kindOf x=some .cell\/env.kindOf x=some .free)/\∃c,env.cells.lookup x=some c/\h.IsCell c (some u))
structure Cx.Ok (X:Cx):Prop where
 mod:Mod X.K X.mg X.base
 kind:X.env.scope.kind=.function
 glob:X.env.globals=mainGlobals
 blt:X.env.builtins=builtinsNs
 above:X.s₀.heap.objs.size<=X.env.locals
 inj:∀x y c,X.env.cells.lookup x=some c->X.env.cells.lookup y=some c->x=y
 has:∀x,(X.env.kindOf x=some .cell\/X.env.kindOf x=some .free)->∃c,X.env.cells.lookup x=some c
 cab:∀x c,X.fn x=true->X.env.cells.lookup x=some c->X.s₀.heap.objs.size<=c
 hd:X.calm=true->X.A.handled=none
 frames:X.A.frames=some X.stack
 stk:X.stack=X.outer\/(X.stack=X.env::X.outer/\X.env.frame=some X.env.locals)
 exf:∀b∈X.ex,b≠X.env.locals/\∀x c,X.env.cells.lookup x=some c->c≠b
 bs:∀b o,X.base.get? b=some o->X.s₀.heap.get? b=some o/\X.H₀ b=none
 bsz:X.base.objs.size<=X.s₀.heap.objs.size
 Zw:∀b o,X.base.get? b=some o->b∉X.ex
 Zx:∀b∈X.ex,b∉X.fs
 Jv:X.s₀.heap.FunFrames X.base X.outer
 frf:∀b∈X.fs,X.H₀ b=none
structure Inv (X:Cx)(pins:NF)(σ:List (Option V))(H:Hp)(s:Na):Prop where
 ok:X.Ok
 os:s.os=X.s₀.os
 bare:AllBare s.gens
 base:Un X.fs X.ex X.H₀ H X.s₀.heap s.heap
 loc:∃m,s.heap.Ns X.env.locals m/\∀(i:Nat)(x:Str)(v:V),X.N[i]?=some x->σ[i]?=some (some v)->Vis X.env.scope x->∃u,RelV v u/\Look X.env s.heap m x u
 cell:∀x c,X.env.cells.lookup x=some c->∃v,s.heap.IsCell c v
 free:H X.env.locals=none
 Dm:∀x c,X.env.cells.lookup x=some c->H c=none
 pin:∀p∈X.pn++pins,s.heap.get? p.1=some p.2/\H p.1=none/\p.1≠X.env.locals/\p.1∉X.fs/\∀v,p.2.data≠.cell v
 hok:HOk X.prog X.w H s.heap
 len:σ.length=X.N.length
section
variable {σ:List (Option V)}
theorem Cx.Ok.ArN(ok:X.Ok){o:Obj}(e:X.base.get? b=some o):b∉X.fs:=λa=>by
 have:= (ok.Jv.mem a).1;rw[e]at this;cases this
theorem Inv.bs(I:Inv X pins σ H s):∀b o,X.base.get? b=some o->s.heap.get? b=some o/\H b=none:=λb o e =>
 ⟨I.base.keep b o (I.ok.bs b o e).1 (I.ok.bs b o e).2 (I.ok.ArN e) (I.ok.Zw b o e),I.base.free b o (I.ok.bs b o e).1 (I.ok.bs b o e).2 (I.ok.Zw b o e)⟩
theorem Inv.bk(I:Inv X pins σ H s):∀b o,X.base.get? b=some o->s.heap.get? b=some o:=λb o e=>(I.bs b o e).1
theorem Inv.mod(I:Inv X pins σ H s):Mod X.K X.mg X.base:=I.ok.mod
theorem Inv.kIn(I:Inv X pins σ H s):X.K.In s.heap:=I.ok.mod.kin.keeps I.bk
theorem Inv.nolimit(I:Inv X pins σ H s):s.heap.NoLimit:=I.ok.mod.nolimit.keeps I.bk
theorem Inv.lt(I:Inv X pins σ H s):X.env.locals<s.heap.objs.size:=let ⟨_,hn,_⟩:=I.loc;hn.lt
theorem Inv.sz(I:Inv X pins σ H s):X.s₀.heap.objs.size<=s.heap.objs.size:=Atf I.ok.above (Ats I.lt)
theorem Inv.Anh(I:Inv X pins σ H s)(h:s.heap.objs.size<=a):a∉X.fs:=λb=>by
 obtain⟨_,o,c,_⟩:=I.ok.Jv.mem b;exact z9 (Ate (yA c) (Atf I.sz h)) (At0 _)
theorem Inv.cne(I:Inv X pins σ H s):∀x c,X.env.cells.lookup x=some c->c≠X.env.locals:=λx c e z=>by
 obtain⟨v,o,f,d⟩:=I.cell x c e;obtain⟨m,⟨o',es,ep,a,b,_⟩,_⟩:=I.loc;grind
theorem Inv.Jv(I:Inv X pins σ H s):s.heap.FunFrames X.base X.outer:=by
 have all:∀(l:List Env),(∀b∈frs l,b∈X.fs)->X.s₀.heap.FunFrames X.base l->s.heap.FunFrames X.base l:=by
  intro l
  induction l with
  |nil=>intro _ _;trivial
  |cons env r h =>
   intro hs m;obtain⟨hk,⟨L,o,a,hn,j,f⟩,i⟩:=m;have d:=hs L (by unfold frs;rw[AtQ,a];exact Atk);obtain⟨n,e⟩:=I.base.slot L o j (I.ok.frf L d) d λz=>I.ok.Zx L z d;exact⟨hk,⟨L,_,a,hn,e,f⟩,h (λb c=>hs b (by unfold frs;rw[AtQ,a];exact Ath _ c)) i⟩
 exact all X.outer (λ_ c=>c) I.ok.Jv
theorem Inv.stack(I:Inv X pins σ H s):s.heap.FunFrames X.base X.stack:=by
 rcases I.ok.stk with e|⟨e,a⟩
 ·rw[e];exact I.Jv
 ·rw[e];obtain⟨m,hn,_⟩:=I.loc;refine .cons (by rw[I.ok.kind];decide) a hn ?_ I.Jv;exact Heap.get?_none_of_le (Atf I.ok.bsz I.ok.above)
theorem Inv.Zy(I:Inv X pins σ H s):∀b∈frs X.stack,b∈X.env.locals::X.fs:=λb a=>by
 rcases I.ok.stk with e|⟨e,c⟩
 ·rw[e]at a;exact Ath _ a
 ·rw[e]at a;unfold frs at a;rw[AtQ,c]at a;exact a
theorem Inv.Vb(I:Inv X pins σ H s):∀b∈frs X.stack,H b=none:=λb a=>by
 rcases zZ.mp (I.Zy b a) with e|a
 ·rw[e];exact I.free
 ·obtain⟨_,o,c,_⟩:=I.ok.Jv.mem a;exact I.base.free b o c (I.ok.frf b a) λz=>I.ok.Zx b z a
theorem Inv.step(I:Inv X pins σ H s)
  (t:∀b∈ch,(b∈X.ex\/X.s₀.heap.objs.size<=b)/\b≠X.env.locals/\(∀x c,X.env.cells.lookup x=some c->c≠b)/\∀p∈X.pn++pins,p.1≠b)
  (f:∀b o,b≠X.env.locals->b∉X.fs->b∉ch->s.heap.get? b=some o->H b=none->h'.get? b=some o)
  (slot:∀b o,b≠X.env.locals->b∈X.fs->b∉ch->s.heap.get? b=some o->H b=none->∃L,h'.get? b=some {o with slots:=L}) (free:∀b o,b∉ch->s.heap.get? b=some o->H b=none->H' b=none)
  (B:∀b o,b∉ch->s.heap.get? b=some o->∃o',h'.get? b=some o')
  (D:∀b xs,H b=some (.tup xs)->H' b=some (.tup xs)) (P:∀b o u,H b=some (.frz o u)->H' b=some (.frz o u)) (Q:∀b ps,H b=some (.tbl ps)->∃more,H' b=some (.tbl (ps++more)))
  (ns:∀m,s.heap.Ns X.env.locals m->h'.Ns X.env.locals m) (K:HOk X.prog X.w H' h') (R:AllBare g') :
  Inv X pins σ H' {s with heap:=h',gens:=g',drawn:=d',toks:=t'}:=by
 have E:∀b o,X.s₀.heap.get? b=some o->b≠X.env.locals:=λb o e=>Atb (Ate (yA e) I.ok.above);have y:∀b o,X.s₀.heap.get? b=some o->b∉X.ex->b∉ch:=λb o e a A=>by
  rcases(t b A).1 with z|z
  ·exact a z
  ·exact z9 (Ate (yA e) z) (At0 _)
 have h:∀x c,X.env.cells.lookup x=some c->∀v,s.heap.IsCell c v->h'.IsCell c v:=λx c e v ⟨o,C,G⟩=>by
  have j:=λz=>(t c z).2.2.1 x c e Z;by_cases hc:c∈X.fs
  ·obtain⟨L,q⟩:=slot c o (I.cne x c e) hc j C (I.Dm x c e);exact⟨_,q,G⟩
  ·exact⟨o,f c o (I.cne x c e) hc j C (I.Dm x c e),G⟩
 refine⟨I.ok,I.os,R,⟨λb o e n A a=>?_,λb o e n A a=>?_,λb o e n a=>?_,λb o e a=>?_,λb xs e=>D b xs (I.base.tups b xs e),λb o xs e=>P b o xs (I.base.DN b o xs e),λb ps e=>?_⟩,?_,λx c e=>?_,?_,λx c e=>?_,λp N=>?_,K,I.len⟩
 ·exact f b o (E b o e) A (y b o e a) (I.base.keep b o e n A a) (I.base.free b o e n a)
 ·obtain⟨L,e1⟩:=I.base.slot b o e n A a;obtain⟨J,F⟩:=slot b _ (E b o e) A (y b o e a) e1 (I.base.free b o e n a);exact⟨J,F⟩
 ·obtain⟨o',e1⟩:=I.base.there b o e a;exact free b o' (y b o e a) e1 (I.base.free b o e n a)
 ·obtain⟨o',e1⟩:=I.base.there b o e a;exact B b o' (y b o e a) e1
 ·obtain⟨U,e1⟩:=I.base.El b ps e;obtain⟨S,F⟩:=Q b _ e1;exact⟨U++S,by rw[F,Array.append_assoc]⟩
 ·obtain⟨m,hn,T⟩:=I.loc;refine⟨m,ns m hn,λi x v e1 F W=>?_⟩;obtain⟨u,r,l⟩:=T i x v e1 F W;refine⟨u,r,?_⟩;rcases l with l|⟨k,c,e,z⟩
  ·exact .inl l
  ·exact .inr ⟨k,c,e,h x c e _ z⟩
 ·obtain⟨v,z⟩:=I.cell x c e;exact⟨v,h x c e v z⟩
 ·obtain⟨m,⟨o,_,_,C,_⟩,_⟩:=I.loc;exact free _ o (λz=>(t _ z).2.1 Z) C I.free
 ·obtain⟨v,o,C,G⟩:=I.cell x c e;exact free c o (λz=>(t c z).2.2.1 x c e Z) C (I.Dm x c e)
 ·obtain⟨e,n,ne,O,d⟩:=I.pin p N;have j:=λz=>(t p.1 z).2.2.2 p N Z;exact⟨f p.1 p.2 ne O j e n,free p.1 p.2 j e n,ne,O,d⟩
theorem Inv.un(I:Inv X pins σ H s)(u:Un X.fs [] H H' s.heap h')(c:HOk X.prog X.w H' h'):Inv X pins σ H' {s with heap:=h',toks:=t'}:=by
 obtain⟨m,⟨o,es,ep,h,r⟩,_⟩:=id I.loc;obtain⟨t,j⟩:=u.any h I.free At;exact I.step (ch:=[]) (λ_ z=>nomatch z) (λb o _ d _ e n=>u.keep b o e n d At) (λb o _ d _ e n=>u.slot b o e n d At) (λb o _ e n=>u.free b o e n At) (λb o _ e=>u.there b o e At) u.tups u.DN u.El (λp i=>by
  obtain⟨o',es',f,a,l⟩:=i;rw[h]at a;cases a;exact⟨_,es',f,j,l⟩) c I.bare
theorem Inv.call(I:Inv X pins σ H s)(u:Un (frs X.stack) ch H H' s.heap h')(h:HOk X.prog X.w H' h')(y:AllBare g')
  (a:∀b∈ch,(b∈X.ex\/X.s₀.heap.objs.size<=b)/\b≠X.env.locals/\(∀x c,X.env.cells.lookup x=some c->c≠b)/\∀p∈X.pn++pins,p.1≠b) :
  Inv X pins σ H' {s with heap:=h',gens:=g',drawn:=d',toks:=t'}:=by
 obtain⟨m,⟨o,es,ep,j,r⟩,_⟩:=id I.loc;obtain⟨B,f⟩:=u.any j I.free λz=>(a _ z).2.1 Z;exact I.step a (λb o f t hc e n=>u.keep b o e n (λz=>(zZ.mp (I.Zy b z)).elim f t) hc) (λb o _ _ hc e n=>u.any e n hc) (λb o hc e n=>u.free b o e n hc) (λb o hc e=>u.there b o e hc) u.tups u.DN u.El (λA l=>by
  obtain⟨o',es',i,d,v⟩:=l;rw[j]at d;cases d;exact⟨_,es',i,f,v⟩) h y
theorem Inv.turned(I:Inv X pins σ H s)(k:∀b o,b≠it->s.heap.get? b=some o->h'.get? b=some o)(hn:H it=none)(d:it≠X.env.locals)
  (h1:it∈X.ex\/X.s₀.heap.objs.size<=it) (h2:∀x c,X.env.cells.lookup x=some c->c≠it) (i:∀p∈X.pn++pins,p.1≠it):Inv X pins σ H {s with heap:=h',toks:=t'}:=by
 have a:∀b u,H b=some u->b≠it:=λb u e z=>by grind
 refine I.step (ch:=[it]) (λb h=>?_) (λb o _ _ hc e _=>k b o (λz=>hc (by simp[z])) e) (λb o _ _ hc e _=>⟨o.slots,k b o (λz=>hc (by simp[z])) e⟩) (λ_ _ _ _ n=>n)
  (λb o hc e=>⟨o,k b o (λz=>hc (by simp[z])) e⟩) (λ_ _ e=>e) (λ_ _ _ e=>e) (λb ps e=>⟨#[],by rw[e];simp⟩) (λm f=>?_) (λb u e=>?_) I.bare
 ·have e:b=it:=by simpa using h
  subst e;exact⟨h1,d,h2,i⟩
 ·obtain⟨o,es,ep,j,r⟩:=f;exact⟨o,es,ep,k _ o (yD d) j,r⟩
 ·refine(I.hok b u e).stay (λc v hc q=>k c v ?_ q) (λ_ q=>q) λ_ _ q=>q;rcases hc with z|z
  ·rw[z];exact a b u e
  ·exact a c _ z
theorem Inv.tok(I:Inv X pins σ H s)(t:Nat):Inv X pins σ H {s with toks:=t}:=I.un (h':=s.heap) (t':=t) Un.refl I.hok
theorem Inv.kept(I:Inv X pins σ H s)(k:∀b u,s.heap.get? b=some u->h'.get? b=some u):Inv X pins σ H {s with heap:=h',toks:=t'}:=I.un (Un.kept k) (I.hok.kept k)
theorem Inv.laid(I:Inv X pins σ H s)(k:∀b u,s.heap.get? b=some u->h'.get? b=some u)(c:s.heap.objs.size<=a)(new:BV X.prog X.w (upd H a o) h' a o) :
  Inv X pins σ (upd H a o) {s with heap:=h',toks:=t'}:=I.un (Un.laid k c (I.hok.fresh c)) (I.hok.laid k c new)
theorem Inv.write{x e:NX}(I:Inv X pins σ H s)(d:Mut (H x))(c:e=x\/H e=some (.own x))(k:∀b u,b≠e->s.heap.get? b=some u->h'.get? b=some u)(a:∃u,h'.get? e=some u)
  (new:BV X.prog X.w (upd H x o) h' x o):Inv X pins σ (upd H x o) {s with heap:=h',toks:=t'}:=I.un (Un.write d c k a) (I.hok.write d c k a new)
theorem Inv.DY{Ahy:NF}(I:Inv X pins σ H s)(h:∀p∈Ahy,s.heap.get? p.1=some p.2/\H p.1=none/\p.1≠X.env.locals/\p.1∉X.fs/\∀v,p.2.data≠.cell v):Inv X Ahy σ H s:=
 ⟨I.ok,I.os,I.bare,I.base,I.loc,I.cell,I.free,I.Dm,λp a=>(zG.mp a).elim (λz=>I.pin p (Aur _ z)) (h p),I.hok,I.len⟩
theorem Vv(c:N.Nodup)(a:N[i]?=some x)(b:N[j]?=some x):i=j:=by obtain⟨h1,e1⟩:=zC.mp a;obtain⟨h2,d⟩:=zC.mp b;exact(Auj c).mp (e1.trans d.symm)
theorem Yk{M:Model}(I:Inv X pins σ H s)(hN:X.N.Nodup)(hi:X.N[i]?=some x)(l:Loc X.env.scope x)(r:RelV v u)
  (h:∀s',Inv X pins (σ.set i (some v)) H s'->(∃a,Heap.SameBut a s.heap s'.heap/\(a=X.env.locals\/X.env.cells.lookup x=some a))->Q () s') (hf:X.fn x=true\/X.env.scope.names.lookup x=some .local):wpAny M A (storeName X.env x u) Q E s:=by
 obtain⟨m,hn,hl⟩:=id I.loc;have L:(X.env.scope.kind == .class || (X.env.scope.kind == .module && X.env.locals != X.env.globals))=false:=by rw[I.ok.kind];rfl
 have B:i<σ.length:=by rw[I.len];exact(zC.mp hi).1
 have cne:=I.cne;have f:∀{a:NX} {h':Heap},(∃o,s.heap.get? a=some o/\H a=none)->Heap.SameBut a s.heap h'->HOk X.prog X.w H h':=λ{a h'} ha hs b ob e=>by
  obtain⟨_,_,P⟩:=ha;refine(I.hok b ob e).stay (λc O hc q=>(hs.2 c ?_).trans q) (λ_ q=>q) λ_ _ q=>q;rintro rfl;grind
 rcases l with hk|hk
 ·refine wpAny_storeName_local hk hn (λh' Y hs=>?_) L;obtain⟨oL,_,_,R,_⟩:=id hn;refine h _ ⟨I.ok,I.os,I.bare,⟨λb o e n C l=>?_,λb o e n C l=>?_,I.base.free,λb o e l=>?_,I.base.tups,I.base.DN,I.base.El⟩,⟨_,Y,λj y v' e1 t e3=>?_⟩,λy c e=>?_,I.free,I.Dm,λp S=>?_,f ⟨oL,R,I.free⟩ hs,by simpa using I.len⟩ ⟨_,hs,.inl Z⟩
  ·exact(hs.2 b (Atb (Ate (yA e) I.ok.above))).trans (I.base.keep b o e n C l)
  ·obtain⟨sl,e1⟩:=I.base.slot b o e n C l;exact⟨sl,(hs.2 b (Atb (Ate (yA e) I.ok.above))).trans e1⟩
  ·obtain⟨o',e1⟩:=I.base.there b o e l;exact⟨o',(hs.2 b (Atb (Ate (yA e) I.ok.above))).trans e1⟩
  ·by_cases F:j=i
   ·subst F;rw[hi]at e1;cases e1;rw[Aus B]at t;cases t;exact⟨u,r,.inl ⟨hk,At⟩⟩
   ·rw[Auk (yD F)]at t;obtain⟨u',U,q⟩:=hl j y v' e1 t e3;refine⟨u',U,?_⟩;rcases q with ⟨k,e⟩|⟨k,c,e,z⟩
    ·refine .inl ⟨k,?_⟩;have:y≠x:=λe=>F (Vv hN e1 (e▸hi));simp[this,e]
    ·exact .inr ⟨k,c,e,z.sameBut hs (cne y c e)⟩
  ·obtain⟨O,z⟩:=I.cell y c e;exact⟨O,z.sameBut hs (cne y c e)⟩
  ·obtain⟨e,n,ne,T,d⟩:=I.pin p S;exact⟨(hs.2 p.1 ne).trans e,n,ne,T,d⟩
 ·have D:X.fn x=true:=by
   simp_all
  obtain⟨c,hc⟩:=I.ok.has x (.inl hk);obtain⟨O,z⟩:=I.cell x c hc;refine wpAny_storeName_cell I.ok.kind hk hc z (λh' G hs=>?_);obtain⟨oc,J,W⟩:=id z;refine h {s with heap:=h'} ⟨I.ok,I.os,I.bare,⟨λb o e n C l=>?_,λb o e n C l=>?_,I.base.free,λb o e l=>?_,I.base.tups,I.base.DN,I.base.El⟩,⟨m,hn.sameBut hs (yD (cne x c hc)),λj y v' e1 t e3=>?_⟩,λy c' e=>?_,I.free,I.Dm,λp S=>?_,f ⟨oc,J,I.Dm x c hc⟩ hs,by simpa using I.len⟩ ⟨c,hs,.inr hc⟩
  ·exact(hs.2 b (Atb (Ate (yA e) (I.ok.cab x c D hc)))).trans (I.base.keep b o e n C l)
  ·obtain⟨sl,e1⟩:=I.base.slot b o e n C l;exact⟨sl,(hs.2 b (Atb (Ate (yA e) (I.ok.cab x c D hc)))).trans e1⟩
  ·obtain⟨o',e1⟩:=I.base.there b o e l;exact⟨o',(hs.2 b (Atb (Ate (yA e) (I.ok.cab x c D hc)))).trans e1⟩
  ·by_cases F:j=i
   ·subst F;rw[hi]at e1;cases e1;rw[Aus B]at t;cases t;exact⟨u,r,.inr ⟨.inl hk,c,hc,G⟩⟩
   ·rw[Auk (yD F)]at t;obtain⟨u',U,q⟩:=hl j y v' e1 t e3;refine⟨u',U,?_⟩;rcases q with q|⟨k,c',e,z'⟩
    ·exact .inl q
    ·refine .inr ⟨k,c',e,z'.sameBut hs ?_⟩;rintro rfl;exact F (Vv hN e1 (I.ok.inj _ _ _ e hc▸hi))
  ·by_cases K:c'=c
   ·subst K;exact⟨_,G⟩
   ·obtain⟨w2,z2⟩:=I.cell y c' e;exact⟨w2,z2.sameBut hs K⟩
  ·obtain⟨e,n,ne,T,d⟩:=I.pin p S;refine⟨(hs.2 p.1 ?_).trans e,n,ne,T,d⟩;intro q;rw[q,J]at e;have q':=yB e;exact d O (by rw[<-q'];exact W)
theorem O7{M:Model}(I:Inv X pins σ H s)(c:X.N.Nodup)(hi:X.N[i]?=some x)(b:Loc X.env.scope x)(r:RelV v u)
  (h:∀s',Inv X pins (σ.set i (some v)) H s'->Q () s') (d:X.fn x=true\/X.env.scope.names.lookup x=some .local:=by assumption):wpAny M A (storeName X.env x u) Q E s:=
 Yk I c hi b r (λs' a _=>h s' a) d
theorem Inv.call'(I:Inv X pins σ H s)(f:s'.os=s.os)(u:Un (frs X.stack) ch H H' s.heap s'.heap)(d:HOk X.prog X.w H' s'.heap)(h:AllBare s'.gens)
  (a:∀b∈ch,(b∈X.ex\/X.s₀.heap.objs.size<=b)/\b≠X.env.locals/\(∀x c,X.env.cells.lookup x=some c->c≠b)/\∀p∈X.pn++pins,p.1≠b):Inv X pins σ H' s':=by
 obtain⟨h',g',d',t',o'⟩:=s';have e:o'=s.os:=f;subst e;exact I.call u d h a
end
abbrev XK:=Nd->Option NX->Hp->Prop
abbrev St:=List (Option V)
abbrev VK:=V->Hp->Prop
abbrev TE:=St->Hp->VK->Prop
abbrev TT:=St->Hp->(Bool->Hp->Prop)->Prop
abbrev TA:=St->Hp->(Nn->Hp->Prop)->Prop
structure Ends where
 nx:St->Hp->Prop
 rt:VK
 bk:St->Hp->Prop:=λ_ _=>False
 ct:St->Hp->Prop:=λ_ _=>False
abbrev TS:=Ends->St->Hp->Prop
def EP (X:Cx)(pins:NF)(σ:St)(Q:VK)(u:Nd)(s':Na):Prop:=∃v H',Inv X pins σ H' s'/\RelV v u/\Q v H'
def TP (X:Cx)(pins:NF)(σ:St)(Q:Bool->Hp->Prop)(b:Bool)(s':Na):Prop:=∃H',Inv X pins σ H' s'/\Q b H'
def AP (X:Cx)(pins:NF)(σ:St)(Q:Nn->Hp->Prop)(us:NR)(s':Na):Prop:=∃vs H',Inv X pins σ H' s'/\Vals vs us/\Q vs H'
def SP (X:Cx)(pins:NF)(D:Ends)(f:Flow)(s':Na):Prop:=
 match f with
 | .next=>∃σ' H',Inv X pins σ' H' s'/\D.nx σ' H'
 | .brk=>∃σ' H',Inv X pins σ' H' s'/\D.bk σ' H'
 | .cont=>∃σ' H',Inv X pins σ' H' s'/\D.ct σ' H'
 | .ret u=>∃v σ' H',Inv X pins σ' H' s'/\RelV v u/\D.rt v H'
def PE (X:Cx)(e:Expr)(t:TE):Prop:=
 ∀(pins:NF)(s:Na)(σ:St)(H:Hp)(Q:VK),Inv X pins σ H s->t σ H Q->wpAny (model X.prog X.w) X.A (eval e X.env) (EP X pins σ Q) X.xe s
def PT (X:Cx)(e:Expr)(t:TT):Prop:=
 ∀(pins:NF)(s:Na)(σ:St)(H:Hp)(Q:Bool->Hp->Prop),Inv X pins σ H s->t σ H Q->wpAny (model X.prog X.w) X.A (isTrue e X.env (eval e X.env)) (TP X pins σ Q) X.xe s
def PW (X:Cx)(e:Expr)(t:TT):Prop:=
 ∀(whole:Sem Nd)(pins:NF)(s:Na)(σ:St)(H:Hp)(Q:Bool->Hp->Prop),Inv X pins σ H s->t σ H Q->wpAny (model X.prog X.w) X.A (isTrue e X.env whole) (TP X pins σ Q) X.xe s
theorem PW.pt{t:TT}(h:PW X e t):PT X e t:=h _
def PA (X:Cx)(es:List Expr)(t:TA):Prop:=
 ∀(pos:Pos)(pins:NF)(s:Na)(σ:St)(H:Hp)(Q:Nn->Hp->Prop),Inv X pins σ H s->t σ H Q->wpAny (model X.prog X.w) X.A (spliced (backTo pos (starEach es X.env))) (AP X pins σ Q) X.xe s
def PS (X:Cx)(st:Nl)(t:TS):Prop:=
 ∀(pins:NF)(s:Na)(σ:St)(H:Hp)(D:Ends),Inv X pins σ H s->t D σ H->wpAny (model X.prog X.w) X.A (exec st X.env) (SP X pins D) X.xe s
def PSs (X:Cx)(st:List Nl)(t:TS):Prop:=
 ∀(pins:NF)(s:Na)(σ:St)(H:Hp)(D:Ends),Inv X pins σ H s->t D σ H->wpAny (model X.prog X.w) X.A (execs st X.env) (SP X pins D) X.xe s
theorem thn{t:Sem α}{Q b:α->Na->Prop}{M:Model}(h:wpAny M A t Q E s)(c:∀a s,Q a s->b a s):wpAny M A t b E s:=zO h c λ_ _ x=>x
section
theorem bin{a b:Expr}{tb:TE}(i:PE X a ta)(n:PE X b tb)(I:Inv X pins σ H s)(h:ta σ H λx H1=>tb σ H1 λy H2=>R x y H2)
  {Q:α->Na->Prop}{f:Nd->Nd->Sem α}
  (m:∀v u d x y H2,Inv X pins σ H2 d->RelV x v->RelV y u->R x y H2->wpAny (model X.prog X.w) X.A (f v u) Q X.xe d) :
  wpAny (model X.prog X.w) X.A (eval a X.env) (λv s₁=>wpAny (model X.prog X.w) X.A (eval b X.env) (λu c=>wpAny (model X.prog X.w) X.A (f v u) Q X.xe c) X.xe s₁) X.xe s:=by
 refine thn (i pins s σ H _ I h) λv e ⟨x,H1,o,j,p⟩=>?_;refine thn (n pins e σ H1 _ o p) λu d ⟨y,H2,t,l,r⟩=>?_;exact m v u d x y H2 t j l r
inductive ApP (i:Nat)(σ:St)(H:Hp)(Q:VK):Prop
|mk(v:_)(_:σ[i]?=some (some v))(_:Q v H)
def tC (v:V):TE:=λ_ H Q=>Q v H
theorem Zz(p:X.N[i]?=some x)(j:Vis X.env.scope x)(d:(x == ("__debug__":Str))=false:=by decide) (f:(x == ("__classdict__":Str))=false:=by decide):PE X (.Name x pos) (ApP i):=by
 intro pins s σ H Q I h;obtain⟨v,e,h⟩:=h;obtain⟨m,hn,o⟩:=I.loc;obtain⟨u,r,l⟩:=o i x v p e j;have b:EP X pins σ Q u s:=⟨v,H,I,r,h⟩;rcases l with ⟨hk,n⟩|⟨hk,c,hc,a⟩
 ·exact wpAny_Name (wpAny_loadName_local I.ok.kind hk hn n b) d
 ·rcases hk with hk|hk
  ·exact wpAny_Name (wpAny_loadName_cell I.ok.kind hk hc a b) d
  ·exact wpAny_Name (wpAny_loadName_free I.ok.kind hk hc a b f) d
theorem DP{i j pos}:PE X (.Constant (.int i) j pos) (tC (.int i)):=λ_ _ _ H _ I h=>wpAny_Constant_int ⟨.int i,H,I.tok _,⟨_,Z⟩,h⟩
theorem ApQ{b j pos}:PE X (.Constant (.bool b) j pos) (tC (.bl b)):=λ_ _ _ H _ I h=>Constant_bool ⟨.bl b,H,I,Z,h⟩
theorem Ani{j pos}:PE X (.Constant .none j pos) (tC .non):=λ_ _ _ H _ I h=>Constant_none ⟨.non,H,I,Z,h⟩
theorem Be{x j pos}:PE X (.Constant (.str x) j pos) (tC (.str x)):=λ_ _ _ H _ I h=>Calls.Constant_str ⟨.str x,H,I.tok _,⟨_,Z⟩,h⟩
def Gl (X:Cx)(x:Str):Prop:=X.env.kindOf x=some .globalImplicit
theorem Lf{Q:NS}(I:Inv X pins σ H s)(b:Gl X x)(c:X.mg x=some u)(h:Q u s)
  (a:(x == ("__debug__":Str))=false:=by decide):wpAny (model X.prog X.w) X.A (eval (.Name x pos) X.env) Q E s:=
 Calls.Name_function_global I.ok.kind b (Calls.loadGlobal_global (by rw[I.ok.glob];exact I.mod.glob.keeps I.bk) c h) a
theorem Ck{Q:NS}(I:Inv X pins σ H s)(d:Gl X x)(b:X.mg x=none)(a:bootBuiltins x=some u)(h:Q u s)
  (hn:x≠"__name__":= by decide) (c:(x == ("__debug__":Str))=false:=by decide):wpAny (model X.prog X.w) X.A (eval (.Name x pos) X.env) Q E s:=by
 obtain⟨mb,h1,h2⟩:=I.mod.blt;exact Calls.Name_function_global I.ok.kind d (Calls.loadGlobal_builtin (by rw[I.ok.glob];exact I.mod.glob.keeps I.bk) b (by rw[I.ok.blt];exact h1.keeps I.bk) ((h2 x hn).trans a) h) c
theorem O8(c:Gl X x)(a:X.mg x=some u)(r:RelV v u)(b:(x == ("__debug__":Str))=false:=by decide):PE X (.Name x pos) (tC v):=
 λ_ _ _ H _ I h=>Lf I c a ⟨v,H,I,r,h⟩ b
theorem Aes(d:Gl X x)(b:X.mg x=none)(a:bootBuiltins x=some u)(r:RelV v u)(hn:x≠"__name__":= by decide) (c:(x == ("__debug__":Str))=false:=by decide):PE X (.Name x pos) (tC v):=
 λ_ _ _ H _ I h=>Ck I d b a ⟨v,H,I,r,h⟩ hn c
variable {a b:Expr}{tb:TE}
def PC (X:Cx)(op:CmpOp)(a b:Expr)(t:TE):Prop:=
 ∀(pins:NF)(s:Na)(σ:St)(H:Hp)(Q:VK),Inv X pins σ H s->t σ H Q ->
  wpAny (model X.prog X.w) X.A (eval a X.env) (λv s₁=>wpAny (model X.prog X.w) X.A (eval b X.env) (λu s₂=>wpAny (model X.prog X.w) X.A (compareOp op v u) (EP X pins σ Q) X.xe s₂) X.xe s₁) X.xe s
inductive ApR (Q:(Bool->Hp->Prop))(x:V)(H1:Hp):Prop
|mk(c:_)(_:x=.bl c)(_:Q c H1)
def tB (t:TE)(σ:St)(H:Hp)(Q:(Bool->Hp->Prop)):Prop:=t σ H (ApR Q)
theorem Anj(h:PC X op a b t)(h1:behindInMarks op b=false:=by rfl):PE X (.Compare a [op] [b] pos) t:=λpins s σ H Q I hw=>wpAny_Compare1 (h pins s σ H Q I hw) h1
theorem Ank(h:PC X op a b t)(h1:behindInMarks op b=false:=by rfl):PT X (.Compare a [op] [b] pos) (tB t):=by intro pins s σ H Q I hw;refine wpAny_isTrue_Compare1 (thn (h pins s σ H _ I hw) λv m h1=>thn h1 λu j h2=>thn h2 λc l ⟨x,H1,f,e,i⟩=>?_) h1;obtain⟨d,rfl,q⟩:=i;cases e;exact zW ⟨H1,f,q⟩
theorem Ahz(h:PE X e t)(f:∀whole,isTrue e X.env whole=(do let v <-whole;standAt e.pos;holding [v] (truthy v)):=by intro _;rfl):PT X e (tB t):=by intro pins s σ H Q I hw;refine isTrue_plain (thn (h pins s σ H _ I hw) λv i ⟨x,H1,b,a,c⟩=>?_) (f _);obtain⟨d,rfl,q⟩:=c;cases a;exact zW ⟨H1,b,q⟩
variable {tA tB':TT}{rest:List Expr}
abbrev Anl (u:TT)(σ:St)(Q:(Bool->Hp->Prop))(c:Bool)(H1:Hp):Prop:=if c=true then u σ H1 Q else Q false H1
def ArP (t:TT)(u:TT)(σ:St)(H:Hp)(Q:(Bool->Hp->Prop)):Prop:=t σ H (Anl u σ Q)
abbrev ApS (u:TT)(σ:St)(Q:(Bool->Hp->Prop))(c:Bool)(H1:Hp):Prop:=if c=true then Q true H1 else u σ H1 Q
def tOr (t:TT)(u:TT)(σ:St)(H:Hp)(Q:(Bool->Hp->Prop)):Prop:=t σ H (ApS u σ Q)
abbrev Anm (Q:(Bool->Hp->Prop))(c:Bool)(H1:Hp):Prop:=Q (!c) H1
def ArQ (t:TT)(σ:St)(H:Hp)(Q:(Bool->Hp->Prop)):Prop:=t σ H (Anm Q)
theorem pw_and1(b:PT X a tA):PW X (.BoolOp .And [a] pos) tA:=by
 intro f pins s σ H Q I h;refine isTrue_and (thn (b pins s σ H Q I h) λc d e=>?_);cases c with
 |true=>exact isTrue_and_nil e
 |false=>exact e
theorem pw_or1(b:PT X a tA):PW X (.BoolOp .Or [a] pos) tA:=by
 intro f pins s σ H Q I h;refine isTrue_or (thn (b pins s σ H Q I h) λc d e=>?_);cases c with
 |false=>exact isTrue_or_nil e
 |true=>exact e
theorem pw_and(j:PT X a tA)(f:PW X (.BoolOp .And (b::rest) pos) tB'):PW X (.BoolOp .And (a::b::rest) pos) (ArP tA tB'):=by
 intro l pins s σ H Q I h;refine isTrue_and (thn (j pins s σ H _ I h) λc i ⟨H1,d,e⟩=>?_);cases c with
 |true=>exact f l pins i σ H1 Q d e
 |false=>exact⟨H1,d,e⟩
theorem pw_or(j:PT X a tA)(f:PW X (.BoolOp .Or (b::rest) pos) tB'):PW X (.BoolOp .Or (a::b::rest) pos) (tOr tA tB'):=by
 intro l pins s σ H Q I h;refine isTrue_or (thn (j pins s σ H _ I h) λc i ⟨H1,d,e⟩=>?_);cases c with
 |true=>exact⟨H1,d,e⟩
 |false=>exact f l pins i σ H1 Q d e
theorem AcY(b:PT X a tA):PT X (.UnaryOp .Not a pos) (ArQ tA):=by intro pins s σ H Q I h;exact isTrue_not (b pins s σ H (λc H1=>Q (!c) H1) I h)
inductive AjZ (tb:TE)(σ:St)(Q:VK)(x:V)(H1:Hp):Prop
|mk(c:_)(_:x=.bl c)(_:if c=true then tb σ H1 Q else Q (.bl false) H1)
def ApT (ta:TE)(tb:TE)(σ:St)(H:Hp)(Q:VK):Prop:=ta σ H (AjZ tb σ Q)
inductive Ann (tb:TE)(σ:St)(Q:VK)(x:V)(H1:Hp):Prop
|mk(c:_)(_:x=.bl c)(_:if c=true then Q (.bl true) H1 else tb σ H1 Q)
def ArR (ta:TE)(tb:TE)(σ:St)(H:Hp)(Q:VK):Prop:=ta σ H (Ann tb σ Q)
inductive Aka (Q:VK)(x:V)(H1:Hp):Prop
|mk(c:_)(_:x=.bl c)(_:Q (.bl (!c)) H1)
def ApU (ta:TE)(σ:St)(H:Hp)(Q:VK):Prop:=ta σ H (Aka Q)
theorem Ah0{op}(h:PE X a t):PE X (.BoolOp op [a] pos) t:=λpins s σ H Q I hw=>BoolOp_one (h pins s σ H Q I hw)
theorem Ah1(j:PE X a ta)(f:PE X (.BoolOp .And (b::rest) pos) tb):PE X (.BoolOp .And (a::b::rest) pos) (ApT ta tb):=by
 intro pins s σ H Q I h;refine BoolOp_and (thn (j pins s σ H _ I h) λv i ⟨x,H1,e,l,d⟩=>?_);obtain⟨c,rfl,d⟩:=d;cases l;refine zW ?_;cases c with
 |true=>exact f pins i σ H1 Q e d
 |false=>exact⟨.bl false,H1,e,Z,d⟩
theorem ApV(j:PE X a ta)(f:PE X (.BoolOp .Or (b::rest) pos) tb):PE X (.BoolOp .Or (a::b::rest) pos) (ArR ta tb):=by
 intro pins s σ H Q I h;refine BoolOp_or (thn (j pins s σ H _ I h) λv i ⟨x,H1,e,l,d⟩=>?_);obtain⟨c,rfl,d⟩:=d;cases l;refine zW ?_;cases c with
 |false=>exact f pins i σ H1 Q e d
 |true=>exact⟨.bl true,H1,e,Z,d⟩
theorem Ah2(e:PE X a ta):PE X (.UnaryOp .Not a pos) (ApU ta):=by intro pins s σ H Q I h;refine UnaryOp_ (thn (e pins s σ H _ I h) λv i ⟨x,H1,d,f,b⟩=>?_);obtain⟨c,rfl,b⟩:=b;cases f;exact not_of (zW ⟨.bl (!c),H1,d,Z,b⟩)
abbrev ApW (ta:TE)(tb:TE)(σ:St)(Q:VK)(c:Bool)(H1:Hp):Prop:=if c=true then ta σ H1 Q else tb σ H1 Q
def tIf (t:TT)(ta:TE)(tb:TE)(σ:St)(H:Hp)(Q:VK):Prop:=t σ H (ApW ta tb σ Q)
theorem AaR(hc:PT X c tA)(l:PE X a ta)(j:PE X b tb):PE X (.IfExp c a b pos) (tIf tA ta tb):=by
 intro pins s σ H Q I h;refine wpAny_IfExp (thn (hc pins s σ H _ I h) λd i ⟨H1,e,f⟩=>?_);cases d with
 |true=>exact l pins i σ H1 Q e f
 |false=>exact j pins i σ H1 Q e f
end
def SqL (K:NA)(H:Hp)(a:NX)(xs:Nn):Prop:=
 Rd H a (.lst xs) \/
  ∃(o:Obj)(its:Array Nd)(n:Nat),K.lookup a=some o/\o.cls=.type "list" /\ o.dict=none/\o.data=.seq its n/\its.size<=sizeLine/\Vals xs its.toList
def SqT (K:NA)(H:Hp)(a:NX)(xs:Nn):Prop:=
 Rd H a (.tup xs) \/
  ∃(o:Obj)(its:Array Nd)(n:Nat),K.lookup a=some o/\o.cls=.type "tuple" /\ o.data=.seq its n/\its.size<=sizeLine/\Vals xs its.toList
def ArS:Nd->Option V
 | .none=>some .non
 | .bool b=>some (.bl b)
 | .int i _=>some (.int i)
 | .str x _=>some (.str x)
 | .bytes b _=>some (.byt b)
 | .float b _=>some (.flt b)
 | .ref a=>some (.ref a)
 | .type n=>some (.ty n)
 |_=>none
theorem RelV.abs{x:V}(r:RelV x u):ArS u=some x:=by
 cases x with
 |non=>cases r;rfl
 |bl _=>cases r;rfl
 |int _=>obtain⟨t,rfl⟩:=r;rfl
 |str _=>obtain⟨t,rfl⟩:=r;rfl
 |byt _=>obtain⟨t,rfl⟩:=r;rfl
 |flt _=>obtain⟨t,rfl⟩:=r;rfl
 |ref _=>cases r;rfl
 |ty _=>cases r;rfl
theorem RelV.inj{x:V}(r:RelV x u)(q:RelV y u):x=y:=yB (r.abs.symm.trans q.abs)
theorem Vals.inj:∀{xs ys:Nn} {us:NR},Vals xs us->Vals ys us->xs=ys:=by
 intro xs ys us h;induction h generalizing ys with
 |nil=>intro g;cases g;rfl
 |cons r _ b=>intro g;cases g with|cons a t'=>rw[r.inj a,b t']
section
variable {ys:Nn}
theorem SqL.of{K:NA}(h:H a=some (.lst xs)):SqL K H a xs:=.inl (.inl h)
def yS:=@SqL.of
theorem SqT.of{K:NA}(h:H a=some (.tup xs)):SqT K H a xs:=.inl (.inl h)
theorem Inv.list(I:Inv X pins σ H s)(h:SqL X.K H a xs):∃its:NR,Vals xs its/\PlainL s.heap a its.toArray/\xs.length<=sizeLine:=by
 rcases h with h|⟨o,its,n,hk,hc,b,hs,c,r⟩
 ·obtain⟨z,its,n,r,e⟩:=h.ok I.hok;exact⟨its,r,⟨_,n,e,Z,Z,Z⟩,z⟩
 ·refine⟨its.toList,r,⟨o,n,I.kIn a o hk,hc,b,by simpa using hs⟩,?_⟩;have e:=r.length;grind
theorem Inv.tuple(I:Inv X pins σ H s)(h:SqT X.K H a xs):∃its:NR,Vals xs its/\IsTup s.heap a its.toArray/\xs.length<=sizeLine:=by
 rcases h with h|⟨o,its,n,hk,hc,hs,b,r⟩
 ·obtain⟨z,its,r,p⟩:=h.ok I.hok;exact⟨its,r,p,z⟩
 ·refine⟨its.toList,r,⟨o,I.kIn a o hk,hc,n,by simpa using hs⟩,?_⟩;have e:=r.length;simp only [zJ]at e;lia
theorem Inv.Jw(I:Inv X pins σ H s)(h:SqL X.K H a xs)(h':SqL X.K H a ys):xs=ys:=by
 obtain⟨its,r,⟨o,n,e,_,_,d⟩,_⟩:=I.list h;obtain⟨its',f,⟨o',i,b,_,_,d'⟩,_⟩:=I.list h';rw[e]at b;cases b;rw[d]at d';injection d' with c _;have:its=its':=by simpa using congrArg Array.toList c
 subst this;exact r.inj f
end
abbrev Cx.wish (X:Cx)(E:NS):Cx:={X with xe:=E}
abbrev Cx.nox (X:Cx):Cx:=X.wish λ_ _=>False
theorem Cx.Ok.wish(ok:X.Ok)(E:NS):(X.wish E).Ok:=
 ⟨ok.mod,ok.kind,ok.glob,ok.blt,ok.above,ok.inj,ok.has,ok.cab,ok.hd,ok.frames,ok.stk,ok.exf,ok.bs,ok.bsz,ok.Zw,ok.Zx,ok.Jv,ok.frf⟩
theorem Cx.Ok.Cu(ok:(X.wish E).Ok):X.Ok:=
 ⟨ok.mod,ok.kind,ok.glob,ok.blt,ok.above,ok.inj,ok.has,ok.cab,ok.hd,ok.frames,ok.stk,ok.exf,ok.bs,ok.bsz,ok.Zw,ok.Zx,ok.Jv,ok.frf⟩
theorem Inv.wish(I:Inv X pins σ H s)(E:NS):Inv (X.wish E) pins σ H s:=⟨I.ok.wish E,I.os,I.bare,I.base,I.loc,I.cell,I.free,I.Dm,I.pin,I.hok,I.len⟩
theorem Inv.Cu(I:Inv (X.wish E) pins σ H s):Inv X pins σ H s:=⟨I.ok.Cu,I.os,I.bare,I.base,I.loc,I.cell,I.free,I.Dm,I.pin,I.hok,I.len⟩
theorem SP.Cu{f:Flow}(h:SP (X.wish E) pins D f s'):SP X pins D f s':=by
 cases f with
 |next=>obtain⟨σ',H',I,q⟩:=h;exact⟨σ',H',I.Cu,q⟩
 |brk=>obtain⟨σ',H',I,q⟩:=h;exact⟨σ',H',I.Cu,q⟩
 |cont=>obtain⟨σ',H',I,q⟩:=h;exact⟨σ',H',I.Cu,q⟩
 |ret u=>obtain⟨v,σ',H',I,r,q⟩:=h;exact⟨v,σ',H',I.Cu,r,q⟩
theorem PE.nox(h:PE X.nox e t):PE X e t:=λpins s σ H Q I hw =>
 zO (h pins s σ H Q (I.wish _) hw) (λ_ _ ⟨v,H',a,r,q⟩=>⟨v,H',a.Cu,r,q⟩) λ_ _ z=>yI z
theorem PSs.nox{st:List Nl}{t:TS}(h:PSs X.nox st t):PSs X st t:=λpins s σ H D I hw =>
 zO (h pins s σ H D (I.wish _) hw) (λ_ _ q=>q.Cu) λ_ _ z=>yI z
section
variable {st:Nl}{rest:List Nl}{t u:TS}
def Amr:TS:=λD σ H=>D.nx σ H
def ArT (t u:TS):TS:=λD σ H=>t {D with nx:=u D} σ H
theorem Akb:PSs X [] Amr:=λ_ _ σ H _ I h=>wpAny_execs_nil ⟨σ,H,I,h⟩
theorem BW(h1:PS X st t)(h2:PSs X rest u):PSs X (st::rest) (ArT t u):=by
 intro pins s σ H D I h;refine wpAny_execs_cons (thn (h1 pins s σ H {D with nx:=u D} I h) λf b q=>?_);cases f with
 |next =>
  obtain⟨σ',H',a,q⟩:=q;exact h2 pins b σ' H' D a q
 |ret v=>exact q
 |brk=>exact q
 |cont=>exact q
theorem Aq(h1:PS X st t):PSs X [st] t:=by
 intro pins s σ H D I h;refine wpAny_execs_cons (thn (h1 pins s σ H D I h) λf a q=>?_);cases f with
 |next=>exact wpAny_execs_nil q
 |ret v=>exact q
 |brk=>exact q
 |cont=>exact q
def Ano:TS:=λD σ H=>D.bk σ H
def ApX:TS:=λD σ H=>D.ct σ H
theorem Akc:PS X (.Pass pos) Amr:=λ_ _ σ H _ I h=>wpAny_Pass ⟨σ,H,I,h⟩
theorem Ah3:PS X (.Break pos) Ano:=λ_ _ σ H _ I h=>wpAny_Break ⟨σ,H,I,h⟩
theorem AaS:PS X (.Continue pos) ApX:=λ_ _ σ H _ I h=>wpAny_Continue ⟨σ,H,I,h⟩
theorem Inv.quiet(I:Inv X pins σ H s):interactive X.env=false:=by simp[interactive,I.ok.kind]
abbrev Akd (D:Ends)(σ:St)(z0:V)(H1:Hp):Prop:=D.nx σ H1
def ApY (te:TE)(D:Ends)(σ:St)(H:Hp):Prop:=te σ H (Akd D σ)
theorem Z0(c:PE X e te)(hs:swapsWith e none pos.line X.env=pure false:=by rfl):PS X (.Expr e pos) (ApY te):=by intro pins s σ H D I h;exact wpAny_Expr_any (thn (c pins s σ H _ I h) λv d ⟨x,H1,a,f,b⟩=>⟨σ,H1,a,b⟩) I.quiet hs
def ApZ (te:TE):TS:=λD σ H=>te σ H D.rt
theorem By(c:PE X e te):PS X (.Return (some e) pos) (ApZ te):=by intro pins s σ H D I h;exact wpAny_Return_some (thn (c pins s σ H _ I h) λv f ⟨x,H1,a,d,b⟩=>⟨x,σ,H1,a,d,b⟩)
def Aqa:TS:=λD _ H=>D.rt .non H
theorem Ake:PS X (.Return none pos) Aqa:=λ_ _ σ H _ I h=>wpAny_Return_none ⟨.non,σ,H,I,Z,h⟩
abbrev Anp (t:TS)(u:TS)(D:Ends)(σ:St)(b:Bool)(H1:Hp):Prop:=if b=true then t D σ H1 else u D σ H1
def ArU (c:TT)(t:TS)(u:TS)(D:Ends)(σ:St)(H:Hp):Prop:=c σ H (Anp t u D σ)
theorem Ams{a b:List Nl}(hc:PT X c tc)(l:PSs X a t)(j:PSs X b u):PS X (.If c a b pos) (ArU tc t u):=by
 intro pins s σ H D I h;refine wpAny_If (thn (hc pins s σ H _ I h) λd i ⟨H1,e,f⟩=>?_);cases d with
 |true=>exact l pins i σ H1 D e f
 |false=>exact j pins i σ H1 D e f
end
abbrev TG:=V->St->Hp->(St->Hp->Prop)->Prop
abbrev TGs:=Nn->St->Hp->(St->Hp->Prop)->Prop
def PG (X:Cx)(target:Expr)(t:TG):Prop:=
 ∀(pins:NF)(s:Na)(σ:St)(H:Hp)(v:V)(u:Nd)(Q:St->Hp->Prop),Inv X pins σ H s->RelV v u->t v σ H Q ->
  wpAny (model X.prog X.w) X.A (assign target X.env u) (λ_ s'=>∃σ' H',Inv X pins σ' H' s'/\Q σ' H') X.xe s
def PGs (X:Cx)(ts:List Expr)(t:TGs):Prop:=
 ∀(pins:NF)(s:Na)(σ:St)(H:Hp)(vs:Nn)(us:NR)(Q:St->Hp->Prop),Inv X pins σ H s->Vals vs us->t vs σ H Q ->
  wpAny (model X.prog X.w) X.A (assignInOrder ((assignEach ts X.env).map (·.2)) us) (λ_ s'=>∃σ' H',Inv X pins σ' H' s'/\Q σ' H') X.xe s
abbrev Ah4:=V->V->V->Hp->(Hp->Prop)->Prop
def Aqb (X:Cx)(t:Ah4):Prop:=
 ∀(pins:NF)(s:Na)(σ:St)(H:Hp)(o i v:V)(ov iv u:Nd)(Q:Hp->Prop),Inv X pins σ H s->RelV o ov->RelV i iv->RelV v u->t o i v H Q ->
  wpAny (model X.prog X.w) X.A (setItem ov iv u) (λ_ s'=>∃H',Inv X pins σ H' s'/\Q H') X.xe s
abbrev TIp:=V->V->Hp->VK->Prop
def PIp (X:Cx)(op:Operator)(t:TIp):Prop:=
 ∀(pins:NF)(s:Na)(σ:St)(H:Hp)(x y:V)(v u:Nd)(Q:VK),Inv X pins σ H s->RelV x v->RelV y u->t x y H Q ->
  wpAny (model X.prog X.w) X.A (inplaceOp op v u) (EP X pins σ Q) X.xe s
def Em (i:Nat):TG:=λv σ H Q=>Q (σ.set i (some v)) H
theorem Ea(d:X.N.Nodup)(hi:X.N[i]?=some x)(c:Loc X.env.scope x)(a:X.fn x=true\/X.env.scope.names.lookup x=some .local:=by exact .inl Z):PG X (.Name x pos) (Em i):=by intro pins s σ H v u Q I r h;exact wpAny_assign_Name (O7 I d hi c r (λs' b=>⟨_,H,b,h⟩) a)
inductive Anq (vs:Nn)(σ:St)(H:Hp)(Q:(St->Hp->Prop)):Prop
|mk(_:vs=[])(_:Q σ H)
inductive Aet (t:TG)(u:TGs)(vs:Nn)(σ:St)(H:Hp)(Q:(St->Hp->Prop)):Prop
|mk(v:_)(r:_)(_:vs=v::r)(_:t v σ H λσ' H'=>u r σ' H' Q)
theorem Vc:PGs X [] Anq:=by intro pins s σ H vs us Q I r h;obtain⟨e,h⟩:=h;exact assignInOrder_nil ⟨σ,H,I,h⟩
theorem En{t:TG}{u:TGs}(h1:PG X e t)(h2:PGs X es u)
  (hs:(assignEach (e::es) X.env).map (·.2)=assign e X.env::(assignEach es X.env).map (·.2):=by rfl):PGs X (e::es) (Aet t u):=by
 intro pins s σ H vs us Q I r h;obtain⟨v,i,e1,h⟩:=h;subst e1;cases r with
 |cons r c =>
  rw[hs];refine assignInOrder_cons (thn (h1 pins s σ H _ _ _ I r h) λ_ b ⟨a,H1,d,f⟩=>?_);exact h2 pins b a H1 _ _ Q d c f
inductive Anr (K:NA)(n:Nat)(t:TGs)(v:V)(σ:St)(H:Hp)(Q:(St->Hp->Prop)):Prop
|mk(a:_)(xs:_)(_:v=.ref a)(_:SqT K H a xs)(_:xs.length=n)(_:t xs σ H Q)
theorem Z1{k:Nat}{t:TGs}(hc:X.calm=true)(h:PGs X es t)
  (hn:(assignEach es X.env).length=n:=by rfl) (c:(assignEach es X.env).findIdx? (·.1)=none:=by rfl):PG X (.Tuple es k pos) (Anr X.K n t):=by
 intro pins s σ H v u Q I r hw;obtain⟨a,xs,e1,i,f,hw⟩:=hw;subst e1;cases r;obtain⟨its,rv,d,m⟩:=I.tuple i;refine assign_Tuple_tuple (I.ok.hd hc) d (by simp[hn,<-f,rv.length]) c λh' l=>?_;have j:Inv X pins σ H {s with heap:=h'}:=I.kept λb o e=>l b o (Atb (yA e)) e;exact h pins _ σ H xs _ Q j (by simpa using rv) hw
abbrev Ans (σ:St)(Q:(St->Hp->Prop))(H3:Hp):Prop:=Q σ H3
abbrev Ant (t:Ah4)(v:V)(σ:St)(Q:(St->Hp->Prop))(o:V)(i:V)(H2:Hp):Prop:=t o i v H2 (Ans σ Q)
abbrev Anu (ti:TE)(t:Ah4)(v:V)(σ:St)(Q:(St->Hp->Prop))(o:V)(H1:Hp):Prop:=ti σ H1 (Ant t v σ Q o)
def Aqc (to:TE)(ti:TE)(t:Ah4)(v:V)(σ:St)(H:Hp)(Q:(St->Hp->Prop)):Prop:=to σ H (Anu ti t v σ Q)
theorem Anv{o i:Expr}{to c:TE}{t:Ah4}(w:PE X o to)(hi:PE X i c)(hs:Aqb X t)
  (B:∀v,assign (.Subscript o i pos) X.env v=(do
   let a <-holding [v] (eval o X.env)
   let b <-holding [v,a] (eval i X.env)
   standAt pos
   holding [v,a,b] (setItem a b v)
   release [v,a,b] []):=by intro _;rfl):PG X (.Subscript o i pos) (Aqc to c t):=by
 intro pins s σ H v u Q I r h;rw[B];refine zA (zT (thn (w pins s σ H _ I h) λa f ⟨x,H1,l,C,m⟩=>?_));refine zA (zT (thn (hi pins f σ H1 _ l m) λb A ⟨y,H2,z,j,n⟩=>?_));refine zA (wpAny_standAt (zA (zT (thn (hs pins A σ H2 x y v a b u _ z C j r n) λ_ D ⟨p,d,e⟩=>?_))));exact wpAny_release ⟨σ,p,d,e⟩
abbrev Ah5 (g:TG)(D:Ends)(σ:St)(x:V)(H1:Hp):Prop:=g x σ H1 D.nx
def Ah6 (te:TE)(g:TG)(D:Ends)(σ:St)(H:Hp):Prop:=te σ H (Ah5 g D σ)
theorem Z2{g:TG}(f:PE X e te)(i:PG X tg g)(hs:swapsWithSole [tg] e pos.line X.env=pure false:=by rfl)(hw:swappedStores [tg] e X.env=pure none:=by rfl)
  (h1:(assignEach [tg] X.env).map (·.2)=[assign tg X.env]:=by rfl):PS X (.Assign [tg] e pos) (Ah6 te g):=by
 intro pins s σ H D I h;refine wpAny_Assign_stores (thn (f pins s σ H _ I h) λv a ⟨x,H1,c,b,d⟩=>?_) hs hw;rw[h1];exact thn (i pins a σ H1 x v _ c b d) λ_ j q=>q
theorem Hy(l:X.N.Nodup)(hi:X.N[i]?=some x)(j:Loc X.env.scope x)(f:PE X e te)(hs:swapsWith e (some (.Name x pos')) pos.line X.env=pure false:=by rfl)(b:X.fn x=true\/X.env.scope.names.lookup x=some .local:=by exact .inl Z) :
  PS X (.Assign [.Name x pos'] e pos) (Ah6 te (Em i)):=by
 intro pins s σ H D I h;refine wpAny_Assign_Name (thn (f pins s σ H _ I h) λv o ⟨y,H1,c,a,d⟩=>?_) hs;exact O7 c l hi j a (λn m=>⟨_,H1,m,d⟩) b
inductive ArV (i:Nat)(te:TE)(ti:TIp)(D:Ends)(σ:St)(H:Hp):Prop
|mk(x:_)(_:σ[i]?=some (some x))(_:te σ H λy H1=>ti x y H1 λz H2=>D.nx (σ.set i (some z)) H2)
theorem Anw{op:Operator}{j:TIp}(E:X.N.Nodup)(hi:X.N[i]?=some x)(f:Loc X.env.scope x)(P:PE X e te)(G:PIp X op j)(t:X.fn x=true\/X.env.scope.names.lookup x=some .local:=by exact .inl Z) :
  PS X (.AugAssign (.Name x pos') op e pos) (ArV i te j):=by
 intro pins s σ H D I h;obtain⟨v,e1,h⟩:=h;obtain⟨m,hn,O⟩:=I.loc;have vis:Vis X.env.scope x:=by rcases f with k|k;exact .inl k;exact .inr (.inl k)
 obtain⟨u,r,l⟩:=O i x v hi e1 vis;refine wpAny_AugAssign_Name ?_;have go:wpAny (model X.prog X.w) X.A (eval e X.env) (λw b=>wpAny (model X.prog X.w) X.A (inplaceOp op u w) (λr d=>wpAny (model X.prog X.w) X.A (storeName X.env x r) (λ_=>SP X pins D .next) X.xe d) X.xe b) X.xe s:=by
  refine thn (P pins s σ H _ I h) λw o ⟨y,H1,B,L,C⟩=>?_;refine thn (G pins o σ H1 v y u w _ B r L C) λz Q ⟨S,H2,J,p,F⟩=>?_;exact O7 J E hi f p (λR n=>⟨_,H2,n,F⟩) t
 rcases l with ⟨hk,K⟩|⟨hk,c,hc,a⟩
 ·exact wpAny_loadName_local I.ok.kind hk hn K go
 ·rcases hk with hk|hk
  ·exact wpAny_loadName_cell I.ok.kind hk hc a go
  ·rcases f with k|k
   ·have:X.env.scope.names.lookup x=some .free:=hk;rw[k]at this;cases this
   ·have:X.env.scope.names.lookup x=some .free:=hk;rw[k]at this;cases this
inductive ipI (f:Int->Int->Int)(x:V)(y:V)(H:Hp)(Q:VK):Prop
|mk(i:_)(j:_)(_:x=.int i)(_:y=.int j)(_:Q (.int (f i j)) H)
theorem Anx:PIp X .Add (ipI λi j=>i+j):=by intro pins s σ H x y v u Q I c b h;obtain⟨i,j,e1,a,q⟩:=h;subst e1;subst a;obtain⟨t,rfl⟩:=c;obtain⟨t',rfl⟩:=b;exact iadd_int ⟨.int _,H,I.tok _,⟨_,Z⟩,q⟩
def Ah7 (c:TT)(tb:TS):TS:=λD σ H=>∃W:Nat->St->Hp->Prop,(∃m,W m σ H)/\∀m σ H,W m σ H ->
 c σ H λb H1=>if b=true then ∃N:St->Hp->Prop,(∀σ' H',N σ' H'->∃m',m'<m/\W m' σ' H')/\tb {D with nx:=N,ct:=N,bk:=D.nx} σ H1 else D.nx σ H1
theorem Ah8(u:PassesOwn (model X.prog X.w) X.A X.env X.xe)(hc:PT X c tc)(B:PSs X body tb):PS X (.While c body [] pos) (Ah7 tc tb):=by
 intro pins s σ H D I h;obtain⟨W,⟨m0,F⟩,i⟩:=h;refine wpAny_While (codeAny_whileLoop (λn s'=>∃σ' H',Inv X pins σ' H' s'/\W n σ' H') ?_ m0 ⟨σ,H,I,F⟩);rintro n z ⟨d,H1,C,E⟩;refine wpAny_passesOwn u (thn (hc pins z d H1 _ C (i n d H1 E)) λb G ⟨H2,y,l⟩=>?_);cases b with
 |true =>
  obtain⟨N,x,l⟩:=l;refine wpAny_passesOwn u (thn (B pins G d H2 _ y l) λf J j=>?_);cases f with
  |next =>
   obtain⟨a,e,m,p⟩:=j;obtain⟨o,r,t⟩:=x a e p;exact⟨o,r,a,e,m,t⟩
  |cont =>
   obtain⟨a,e,m,p⟩:=j;obtain⟨o,r,t⟩:=x a e p;exact⟨o,r,a,e,m,t⟩
  |brk=>exact j
  |ret v=>exact j
 |false =>
  exact wpAny_execs_nil ⟨d,H2,y,l⟩
structure It where
 go:Nat->Hp->Prop
 yld:Nat->Hp->V->Hp->Prop
 stop:Nat->Hp->Prop
def Jx (X:Cx)(pins:NF)(H:Hp)(b:NX):Prop:=
 H b=none/\b≠X.env.locals/\b∉X.fs/\(b∈X.ex\/X.s₀.heap.objs.size<=b)/\(∀x c,X.env.cells.lookup x=some c->c≠b)/\∀p∈X.pn++pins,p.1≠b
theorem Inv.AfQ(I:Inv X pins σ H s)(a:s.heap.objs.size<=b)(hn:H' b=none):Jx X pins H' b:=by
 refine⟨hn,Atr (Ate I.lt a),I.Anh a,.inr (Atf I.sz a),λx c e z=>?_,λp d z=>?_⟩
 ·obtain⟨v,q⟩:=I.cell x c e;exact z9 (Ate q.lt Au) (At0 _)
 ·exact z9 (Ate (yA (I.pin p d).1) Au) (At0 _)
structure Turn (P:Program)(w:World)(K:NA)(tg:Expr)(J:It)(fp:NO)(it:NX)(tn:Nat->Heap->Prop):Prop where
 mem:it∈fp
 obj:∀i h,tn i h->∀b∈fp,∃o,h.get? b=some o/\∀v,o.data≠.cell v
 keep:∀i h h',tn i h->(∀b∈fp,∀o,h.get? b=some o->h'.get? b=some o)->tn i h'
 item:∀(X:Cx),X.prog=P->X.w=w->X.K=K->X.calm=true->∀(i:Nat)(pins:NF)(s:Na)(σ:St)(H:Hp)(E:NS),Inv X pins σ H s->(∀b∈fp,Jx X pins H b)->tn i s.heap->J.go i H ->
  wpAny (model P w) X.A (pyNext (.ref it)) (λr s1=>∃u,r=some u /\
   wpAny (model P w) X.A (letOwnedTupleGo tg (.ref it) u) (λ_ s2=>∃x H',Inv X pins σ H' s2/\RelV x u/\J.yld i H x H'/\tn (i+1) s2.heap/\∀b∈fp,H' b=none) E s1) E s
 done:∀(X:Cx),X.prog=P->X.w=w->X.K=K->X.calm=true->∀(i:Nat)(pins:NF)(s:Na)(σ:St)(H:Hp)(E:NS),Inv X pins σ H s->(∀b∈fp,Jx X pins H b)->tn i s.heap->J.stop i H ->
  wpAny (model P w) X.A (pyNext (.ref it)) (λr s1=>r=none/\Inv X pins σ H s1) E s
 self:∀(A:Around)(i:Nat)(s:Na)(Q:NS)(E:NS),tn i s.heap->Q (.ref it) s->wpAny (model P w) A (pyIter (.ref it)) Q E s
abbrev TI:=St->Hp->(It->Hp->Prop)->Prop
def PIE (X:Cx)(pins:NF)(σ:St)(tg:Expr)(R:It->Hp->Prop)(itv:Nd)(s2:Na):Prop:=
 ∃(it:NX)(fp:NO)(tn:Nat->Heap->Prop)(J:It)(H':Hp),itv=.ref it/\Inv X pins σ H' s2/\Turn X.prog X.w X.K tg J fp it tn/\tn 0 s2.heap/\(∀b∈fp,Jx X pins H' b)/\R J H'
def PI (X:Cx)(tg iter:Expr)(wi:TI):Prop:=
 ∀(pins:NF)(s:Na)(σ:St)(H:Hp)(R:It->Hp->Prop),Inv X pins σ H s->wi σ H R ->
  wpAny (model X.prog X.w) X.A (eval iter X.env) (λv s1=>wpAny (model X.prog X.w) X.A (pyIter v) (PIE X pins σ tg R) X.xe s1) X.xe s
theorem Aeu{M:Model}{o:Obj}{n:String}{vs:Array Nd}(c:s.heap.get? it=some o)(hc:o.cls=.type n)(b:o.data=.fields vs)
    (hn:["enumerate","zip","dict_itemiterator","dict_reverseitemiterator","odict_iterator","itertools.zip_longest","itertools.pairwise"].contains n=false) (a:Q () s):wpAny M A (letOwnedTupleGo tg (.ref it) u) Q E s:=by
  cases tg<;>first
    |exact zE a
    | (cases u<;>first
        |exact zE a
        | (refine zA (wpAny_load c ?_)
           rw[hc,b];show wpAny M A (if (["enumerate","zip","dict_itemiterator","dict_reverseitemiterator","odict_iterator","itertools.zip_longest","itertools.pairwise"].contains n && vs[0]? == some (rawInt _))=true then _ else _) Q E s;rw[z7 (by intro h;rw[hn,Bool.false_and]at h;cases h)];exact zE a))
def Itl (K:NA)(a:NX):It:=
 ⟨λi H=>∃xs x,SqL K H a xs/\xs[i]?=some x,λi H x H'=>H'=H/\∀xs,SqL K H a xs->xs[i]?=some x,λi H=>∃xs,SqL K H a xs/\xs.length<=i⟩
def Itr (lo:Int)(n:Nat):It:=⟨λi _=>i<n,λi H x H'=>H'=H/\x=.int (lo+i),λi _=>n<=i⟩
theorem AfR{K:NA}(a it:NX):Turn P w K tg (Itl K a) [it] it (λi h=>h.IsListIter it a i) where
 mem:=At
 obj:=λi h st b f=>by
  have e:b=it:=by simpa using f
  subst e;obtain⟨o,e,c,d⟩:=st;exact⟨o,e,λv z=>by grind⟩
 keep:=λi h h' st k=>st.at λo e=>k it At o e
 item:=by
  intro X t hw A hc i pins s σ H E I l st C;subst t hw A;obtain⟨xs,x,m,B⟩:=C;obtain⟨its,rv,p,Q⟩:=I.list m;obtain⟨u,G,O⟩:=rv.get B;obtain⟨r,n,R,y,F,D⟩:=l it At;refine wpAny_pyNext_list_item st p.isList (by simpa using G) λh' j S=>?_;have J:Inv X pins σ H {s with heap:=h'}:=I.turned (λb o f e=>(S.2 b f).trans e) r n y F D;obtain⟨o,e,c,d⟩:=id j;exact⟨u,Z,Aeu e c d Ab ⟨x,H,J,O,⟨Z,λys N=>by rw[I.Jw N m];exact B⟩,j,λb f=>(l b f).1⟩⟩
 done:=by
  intro X t hw A hc i pins s σ H E I l st C;subst t hw A;obtain⟨xs,m,B⟩:=C;obtain⟨its,rv,p,Q⟩:=I.list m;obtain⟨r,n,R,y,F,D⟩:=l it At;have T:=rv.length;exact wpAny_pyNext_list_end (I.ok.hd hc) st p.isList (by simp;lia) λh' L=>⟨Z,I.turned (λb o f e=>L b o f e) r n y F D⟩
 self:=λ_ _ _ _ _ st h=>wpAny_pyIter_listiter st h
theorem AcZ{K:NA}(it:NX)(lo:Int)(n:Nat):Turn P w K tg (Itr lo n) [it] it (λi h=>IsRangeIter h it (lo+(i:Nat)*1) ((n:Int)-(i:Nat)) 1) where
 mem:=At
 obj:=λi h st b a=>by
  simp_all
 keep:=λi h h' st k=>k it At _ st
 item:=by
  intro X l hw p hc i pins s σ H E I d st x;subst l hw p;obtain⟨j,f,C,m,u,r⟩:=d it At;have W:=Walks.range (prog:=X.prog) (w:=X.w) (I.ok.hd hc) it lo 1 n;refine W.item i s _ _ x st λv h' tk y c B=>?_;obtain⟨t,rfl⟩:=y;have z:Inv X pins σ H {s with heap:=h',toks:=tk}:=I.turned (λb o a e=>B b o (by simpa using a) e) j f m u r;refine⟨_,Z,Aeu c Z rfl Ab ⟨.int (lo+i),H,z,⟨t,?_⟩,⟨Z,Z⟩,c,λb a=>(d b a).1⟩⟩;rw[Int.mul_one]
 done:=by
  intro X l hw p hc i pins s σ H E I d st x;subst l hw p;obtain⟨j,f,C,m,u,r⟩:=d it At;exact wpAny_pyNext_range_end (I.ok.hd hc) st (by have:n<=i:=x;lia) λh' A=>⟨Z,I.turned (λb o a e=>A b o a e) j f m u r⟩
 self:=λ_ _ _ _ _ st h=>wpAny_pyIter_rangeiter st h
inductive Akf (K:NA)(R:(It->Hp->Prop))(x:V)(H1:Hp):Prop
|mk(a:_)(_:x=.ref a)(_:(∃xs,SqL K H1 a xs))(_:R (Itl K a) H1)
def Amt (K:NA)(tl:TE)(σ:St)(H:Hp)(R:(It->Hp->Prop)):Prop:=tl σ H (Akf K R)
theorem Akg(j:PE X l tl):PI X tg l (Amt X.K tl):=by
 intro pins s σ H R I h;refine thn (j pins s σ H _ I h) λv d ⟨x,H1,c,f,m⟩=>?_;obtain⟨a,e,⟨xs,n⟩,q⟩:=m;subst e;cases f;obtain⟨its,rv,p,r⟩:=c.list n;refine wpAny_pyIter_list p.isList ?_;refine⟨d.heap.objs.size,[d.heap.objs.size],_,_,H1,Z,c.kept λb o e=>zB _ e,AfR a _,⟨_,zD _ Z,Z,Z⟩,λb i=>?_,q⟩;have e:b=d.heap.objs.size:=by simpa using i
 subst e;exact c.AfQ (AsY _) (c.hok.fresh (AsY _))
theorem AaT{R:It->Hp->Prop}{lo hi:Int}{t u v:Tok}{tk:Nat}(I:Inv X pins σ H s)(h1 : -(2 ^ 62)<=lo)(h2:lo<2 ^ 62)(h : -(2 ^ 62)<=hi)(c:hi<2 ^ 62)
  (q:R (Itr lo (hi-lo).toNat) H):wpAny (model X.prog X.w) X.A (pyIter (.ref s.heap.objs.size)) (PIE X pins σ tg R) E {s with heap:=s.heap.push {cls:=.type "range",data:=.fields #[.int lo t,.int hi u,.int 1 v]},toks:=tk}:=by
 refine wpAny_pyIter_range (IsRange.new ..) (small_one h1 h2 h c) ?_;have a:Inv X pins σ H {s with heap:=s.heap.push {cls:=.type "range",data:=.fields #[.int lo t,.int hi u,.int 1 v]},toks:=tk}:=I.kept λb o e=>zB _ e;refine⟨(s.heap.push {cls:=.type "range",data:=.fields #[.int lo t,.int hi u,.int 1 v]}).objs.size,[(s.heap.push {cls:=.type "range",data:=.fields #[.int lo t,.int hi u,.int 1 v]}).objs.size],_,_,H,Z,
  a.kept λb o e=>zB _ e,AcZ _ lo (hi-lo).toNat,?_,λb f=>?_,q⟩
 ·have e1:lo+((0:Nat):Int)*1=lo:=At
  have d:(((hi-lo).toNat:Nat):Int)-((0:Nat):Int)=Builtin.Range.rangeSize lo hi 1:=by rw[rangeSize_one];split<;>lia
  rw[e1,d];exact zD _ Z
 ·have e:b=(s.heap.push {cls:=.type "range",data:=.fields #[.int lo t,.int hi u,.int 1 v]}).objs.size:=by simpa using f
  subst e;exact a.AfQ (AsY _) (a.hok.fresh (AsY _))
inductive Akh (R:(It->Hp->Prop))(vs:Nn)(H1:Hp):Prop
|mk(j:Int)(_:vs=[.int j])(_ : -(2 ^ 62)<=j)(_:j<2 ^ 62)(_:R (Itr 0 j.toNat) H1)
def Aqd (ta:TA)(σ:St)(H:Hp)(R:(It->Hp->Prop)):Prop:=ta σ H (Akh R)
inductive Aki (R:(It->Hp->Prop))(vs:Nn)(H1:Hp):Prop
|mk(i:Int)(j:Int)(_:vs=[.int i,.int j])(_:(-(2 ^ 62)<=i/\i<2 ^ 62 /\ -(2 ^ 62)<=j/\j<2 ^ 62))(_:R (Itr i (j-i).toNat) H1)
def Aqe (ta:TA)(σ:St)(H:Hp)(R:(It->Hp->Prop)):Prop:=ta σ H (Aki R)
theorem Yl{a:Expr}{ta:TA}(n:Gl X "range") (c:X.mg "range"=none) (d:PA X [a] ta) (hs:starEach [a] X.env=[(false,eval a X.env)]:=by rfl):PI X tg (.Call (.Name "range" p) [a] [] pos) (Aqd ta):=by
 intro pins s σ H R I h;refine Call_ (Ck I n c boot_range (yC (thn (d pos pins s σ H _ I h) λus o ⟨vs,H1,l,f,b⟩=>?_) hs Z));obtain⟨j,e,b,m,q⟩:=b;subst e;cases f with
 |cons r i =>
  cases i;obtain⟨t,rfl⟩:=r;exact call_range_1 (AaT l As As b m (by simpa using q))
theorem AfS{a b:Expr}{ta:TA}(y:Gl X "range") (l:X.mg "range"=none) (o:PA X [a,b] ta) (hs:starEach [a,b] X.env=[(false,eval a X.env),(false,eval b X.env)]:=by rfl) (c:starEach [b] X.env=[(false,eval b X.env)]:=by rfl) :
  PI X tg (.Call (.Name "range" p) [a,b] [] pos) (Aqe ta):=by
 intro pins s σ H R I h;refine Call_ (Ck I y l boot_range (yC (thn (o pos pins s σ H _ I h) λus z ⟨vs,H1,w,n,f⟩=>?_) (by rw[hs,c]) (by rw[c];rfl)));obtain⟨i,j,e,⟨f,x,m,u⟩,q⟩:=f;subst e;cases n with
 |cons r d =>
  cases d with
  |cons v d =>
   cases d;obtain⟨t,rfl⟩:=r;obtain⟨t',rfl⟩:=v;exact call_range_2 (AaT w f x m u q)
abbrev Ah9 (g:TG)(tb:TS)(D:Ends)(σ:St)(J:It)(H1:Hp):Prop:=∃W:Nat->Nat->St->Hp->Prop,(∃m,W 0 m σ H1)/\∀i m σ H,W i m σ H ->
 (J.stop i H/\D.nx σ H)\/(J.go i H/\∃N:St->Hp->Prop,(∀σ' H',N σ' H'->∃m',m'<m/\W (i+1) m' σ' H')/\∀x H',J.yld i H x H'->g x σ H' λσ2 H2=>tb {D with nx:=N,ct:=N,bk:=D.nx} σ2 H2)
def ArW (wi:TI)(g:TG)(tb:TS)(D:Ends)(σ:St)(H:Hp):Prop:=wi σ H (Ah9 g tb D σ)
def Vw (fp:NO)(h:Heap):NF:=fp.filterMap λb=>(h.get? b).map λo=>(b,o)
theorem NQ{o:Obj}(a:b∈fp)(e:h.get? b=some o):(b,o)∈Vw fp h:=List.mem_filterMap.mpr ⟨b,a,by rw[e];rfl⟩
theorem AfT{p:NX×Obj}(a:p∈Vw fp h):p.1∈fp/\h.get? p.1=some p.2:=by
 obtain⟨b,c,e⟩:=List.mem_filterMap.mp a;cases q:h.get? b with
 |none=>simp_all
 |some o =>
  rw[q]at e;have d:=yB e;subst d;exact⟨c,q⟩
theorem Inv.pinned(I:Inv X pins σ H s)(m:∀b∈fp,Jx X pins H b)(l:∀b∈fp,∃o,s.heap.get? b=some o/\∀v,o.data≠.cell v):Inv X (pins++Vw fp s.heap) σ H s:=
 I.DY λp f=>(zG.mp f).elim (λz=>I.pin p (Atx _ z)) λz=>by
  obtain⟨a,e⟩:=AfT z;obtain⟨j,h,i,_⟩:=m p.1 a;obtain⟨o,c,d⟩:=l p.1 a;rw[e]at c;cases c;exact⟨e,j,h,i,d⟩
theorem Inv.Vx{pl:NF}(I:Inv X (pins++pl) σ H s):Inv X pins σ H s:=I.DY λp a=>I.pin p (Atx _ (Aur _ a))
theorem AhA{wi:TI}{g:TG}(B:PassesOwn (model X.prog X.w) X.A X.env X.xe)(hc:X.calm=true)(hi:PI X tg iter wi)(hg:PG X tg g)(t:PSs X body tb)
  (hs:∀x,foldedSetIterable iter X.env x=pure x:=by intro _;rfl):PS X (.For tg iter body [] pos) (ArW wi g tb):=by
 intro pins s σ H D I h;refine wpAny_For (thn (hi pins s σ H _ I h) λv s1 h1=>thn h1 λa0 s2 h2=>?_) hs;obtain⟨it,fp,tn,J,H2,e,I2,T,R,f2,W,⟨m0,w0⟩,C⟩:=h2;subst e;have c:∀{H':Hp},(∀b∈fp,H' b=none)->∀b∈fp,Jx X pins H' b:=λhn b t=>⟨hn b t,(f2 b t).2⟩;refine codeAny_forLoop_any (λn s'=>∃i σ' H',Inv X pins σ' H' s'/\tn i s'.heap/\(∀b∈fp,H' b=none)/\W i n σ' H') ?_ m0 ⟨0,σ,H2,I2,R,λb t=>(f2 b t).1,w0⟩;rintro n Y ⟨i,p,K,I3,G,F,w3⟩;rcases C i n p K w3 with ⟨stop,qn⟩|⟨go,N,hN,step⟩
 ·refine wpAny_passesOwn B (thn (T.done X Z rfl Z hc i pins Y p K X.xe I3 (c F) G stop) λr s4 ⟨Q,I4⟩=>?_);subst Q;exact wpAny_execs_nil ⟨p,K,I4,qn⟩
 ·refine wpAny_passesOwn B (thn (T.item X Z rfl Z hc i pins Y p K X.xe I3 (c F) G go) λr s4 ⟨u,Q,h4⟩=>?_);subst Q;refine wpAny_passesOwn B (thn h4 λ_ s5 ⟨x,U,I5,r5,y5,z,L⟩=>?_);have S:=I5.pinned (c L) (T.obj _ _ z);refine wpAny_passesOwn B (thn (hg _ s5 p U x u _ S r5 (step x U y5)) λ_ s6 ⟨O,H6,I6,q6⟩=>?_);refine wpAny_passesOwn B (thn (t _ s6 O H6 _ I6 q6) λf P y=>?_);have again:∀{a:St} {j:Hp},Inv X (pins++Vw fp s5.heap) a j P->N a j->∃m,m<n/\∃i σ' H',Inv X pins σ' H' P/\tn i P.heap/\(∀b∈fp,H' b=none)/\W i m σ' H':=λ{a j} l E=>by
   obtain⟨m',hm,w7⟩:=hN a j E;refine⟨m',hm,i+1,a,j,l.Vx,T.keep _ _ _ z λb t o e=>(l.pin (b,o) (Atx _ (Atx _ (NQ t e)))).1,λb t=>?_,w7⟩;obtain⟨o,e,d⟩:=T.obj _ _ z b t;exact(l.pin (b,o) (Atx _ (Atx _ (NQ t e)))).2.1
  cases f with
  |next=>obtain⟨a,j,l,E⟩:=y;exact again l E
  |cont=>obtain⟨a,j,l,E⟩:=y;exact again l E
  |brk=>obtain⟨a,j,l,y⟩:=y;exact⟨a,j,l.Vx,y⟩
  |ret v=>obtain⟨x7,a,j,l,r7,y⟩:=y;exact⟨x7,a,j,l.Vx,r7,y⟩
theorem AfU{lo:Int}{g:TG}(Pv:Nat->St->Hp->Prop)(d:Pv 0 σ H)
  (hs:∀i σ H,i<n->Pv i σ H->g (.int (lo+i)) σ H λb H2=>tb {D with nx:=Pv (i+1),ct:=Pv (i+1),bk:=D.nx} b H2) (f:∀σ H,Pv n σ H->D.nx σ H) :
  ∃W:Nat->Nat->St->Hp->Prop,(∃m,W 0 m σ H)/\∀i m σ H,W i m σ H ->
   ((Itr lo n).stop i H/\D.nx σ H)\/((Itr lo n).go i H/\∃N:St->Hp->Prop,(∀σ' H',N σ' H'->∃c,c<m/\W (i+1) c σ' H')/\∀x H',(Itr lo n).yld i H x H'->g x σ H' λb H2=>tb {D with nx:=N,ct:=N,bk:=D.nx} b H2):=by
 refine⟨λi m σ H=>m=n-i/\i<=n/\Pv i σ H,⟨n,At,Atg _,d⟩,?_⟩;rintro i m σ H ⟨rfl,hi,p⟩;by_cases a:i<n
 ·refine .inr ⟨a,Pv (i+1),λσ' H' h=>⟨n-(i+1),As,Z,a,h⟩,λx H' y=>?_⟩;obtain⟨e,y⟩:=y;subst e y;exact hs i σ _ a p
 ·have e:i=n:=As
  subst e;exact .inl ⟨AsY _,f σ H p⟩
abbrev R2:=V->V->Hp->VK->Prop
def OpR (X:Cx)(f:Nd->Nd->Sem Nd)(r:R2):Prop:=
 ∀(pins:NF)(s:Na)(σ:St)(H:Hp)(x y:V)(v u:Nd)(Q:VK),Inv X pins σ H s->RelV x v->RelV y u->r x y H Q ->
  wpAny (model X.prog X.w) X.A (f v u) (EP X pins σ Q) X.xe s
def UnR (X:Cx)(f:Nd->Sem Nd)(r:V->Hp->VK->Prop):Prop:=
 ∀(pins:NF)(s:Na)(σ:St)(H:Hp)(x:V)(v:Nd)(Q:VK),Inv X pins σ H s->RelV x v->r x H Q ->
  wpAny (model X.prog X.w) X.A (f v) (EP X pins σ Q) X.xe s
def Bx (X:Cx)(f:Nd)(r:Nn->Hp->VK->Prop):Prop:=
 ∀(pins:NF)(s:Na)(σ:St)(H:Hp)(xs:Nn)(us:NR)(Q:VK),Inv X pins σ H s->Vals xs us->r xs H Q ->
  wpAny (model X.prog X.w) X.A (call f us) (EP X pins σ Q) X.xe s
def ArX (X:Cx)(r:V->Hp->(Bool->Hp->Prop)->Prop):Prop:=
 ∀(pins:NF)(s:Na)(σ:St)(H:Hp)(x:V)(v:Nd)(Q:Bool->Hp->Prop),Inv X pins σ H s->RelV x v->r x H Q ->
  wpAny (model X.prog X.w) X.A (truthy v) (TP X pins σ Q) X.xe s
abbrev Aqf (r:R2)(Q:VK)(x:V)(y:V)(H2:Hp):Prop:=r x y H2 Q
abbrev Amu (r:R2)(tb:TE)(σ:St)(Q:VK)(x:V)(H1:Hp):Prop:=tb σ H1 (Aqf r Q x)
def tOp (r:R2)(ta:TE)(tb:TE)(σ:St)(H:Hp)(Q:VK):Prop:=ta σ H (Amu r tb σ Q)
abbrev Aqg (r:V->Hp->VK->Prop)(Q:VK)(x:V)(H1:Hp):Prop:=r x H1 Q
def tUn (r:V->Hp->VK->Prop)(ta:TE)(σ:St)(H:Hp)(Q:VK):Prop:=ta σ H (Aqg r Q)
inductive rI (C:Int->Int->Prop)(g:Int->Int->V)(x:V)(y:V)(H:Hp)(Q:VK):Prop
|mk(i:_)(j:_)(_:x=.int i)(_:y=.int j)(_:C i j)(_:Q (g i j) H)
inductive rI0 (g:Int->Int->V)(x:V)(y:V)(H:Hp)(Q:VK):Prop
|mk(i:_)(j:_)(_:x=.int i)(_:y=.int j)(_:Q (g i j) H)
inductive rU (g:Int->V)(x:V)(H:Hp)(Q:VK):Prop
|mk(i:_)(_:x=.int i)(_:Q (g i) H)
section
variable {a b:Expr}{tb tc:TE}
theorem Anz(i:PE X a ta)(n:PE X b tb)(I:Inv X pins σ H s)
  (h:ta σ H λx H1=>tb σ H1 λy H2=>R x y H2) {Q:NS} 
  (m:∀v u d x y H2,Inv X pins σ H2 d->RelV x v->RelV y u->R x y H2->wpAny (model X.prog X.w) X.A (f v u) Q X.xe d) :
  wpAny (model X.prog X.w) X.A (eval a X.env) (λv s₁=>wpAny (model X.prog X.w) X.A (eval b X.env) (λu c=>wpAny (model X.prog X.w) X.A (f v u) Q X.xe c) X.xe s₁) X.xe s:=by
 refine thn (i pins s σ H _ I h) λv e ⟨x,H1,o,l,p⟩=>?_;refine thn (n pins e σ H1 _ o p) λu d ⟨y,H2,t,j,r⟩=>?_;exact m v u d x y H2 t l j r
theorem Cy{op:Operator}(j:OpR X (binaryOp op) r)(e:PE X a ta)(f:PE X b tb):PE X (.BinOp a op b pos) (tOp r ta tb):=by intro pins s σ H Q I h;exact wpAny_BinOp (Anz e f I h λv u c x y H2 l d i q=>j pins c σ H2 x y v u Q l d i q)
theorem AhB{op:UnaryOp}{r:V->Hp->VK->Prop}(f:UnR X (unaryOp op) r)(e:PE X a ta):PE X (.UnaryOp op a pos) (tUn r ta):=by intro pins s σ H Q I h;exact UnaryOp_ (thn (e pins s σ H _ I h) λv d ⟨x,H1,b,i,c⟩=>f pins d σ H1 x v Q b i c)
theorem opI{C:Int->Int->Prop}{g:Int->Int->Int}
  (rule:∀(i j:Int)(t u:Tok)(s:Na)(Q:NS)(E:NS),C i j->Q (.int (g i j) s.toks) {s with toks:=s.toks+1}->wpAny (model X.prog X.w) X.A (f (.int i t) (.int j u)) Q E s) :
  OpR X f (rI C λi j=>.int (g i j)):=by
 intro pins s σ H x y v u Q I a b h;obtain⟨i,j,rfl,rfl,hc,q⟩:=h;obtain⟨t,rfl⟩:=a;obtain⟨t',rfl⟩:=b;exact rule i j t t' s _ _ hc ⟨.int (g i j),H,I.tok _,⟨_,Z⟩,q⟩
theorem Aqh{g:Int->Int->Int}
  (rule:∀(i j:Int)(t u:Tok)(s:Na)(Q:NS)(E:NS),Q (.int (g i j) s.toks) {s with toks:=s.toks+1}->wpAny (model X.prog X.w) X.A (f (.int i t) (.int j u)) Q E s) :
  OpR X f (rI0 λi j=>.int (g i j)):=by
 intro pins s σ H x y v u Q I a b h;obtain⟨i,j,rfl,rfl,q⟩:=h;obtain⟨t,rfl⟩:=a;obtain⟨t',rfl⟩:=b;exact rule i j t t' s _ _ ⟨.int (g i j),H,I.tok _,⟨_,Z⟩,q⟩
theorem Akj{g:Int->Int->Bool}
  (rule:∀(i j:Int)(t u:Tok)(s:Na)(Q:NS)(E:NS),Q (.bool (g i j)) s->wpAny (model X.prog X.w) X.A (f (.int i t) (.int j u)) Q E s) :
  OpR X f (rI0 λi j=>.bl (g i j)):=by
 intro pins s σ H x y v u Q I a b h;obtain⟨i,j,rfl,rfl,q⟩:=h;obtain⟨t,rfl⟩:=a;obtain⟨t',rfl⟩:=b;exact rule i j t t' s _ _ ⟨.bl (g i j),H,I,Z,q⟩
def ArY (i j:Int):Prop:=0<j/\j<1073741824
def Akk (i j:Int):Prop:=(-(2 ^ 64)<i/\i<2 ^ 64)\/(-(2 ^ 64)<j/\j<2 ^ 64)
theorem Akk.ok{i j:Int}(h:Akk i j):IntMulOk i j:=by
 rcases h with ⟨h1,h2⟩|⟨h1,h2⟩
 ·exact .of_left (intBits_le_64 h1 h2)
 ·exact .of_right (intBits_le_64 h1 h2)
theorem Ada:OpR X (binaryOp .Add) (rI0 λi j=>.int (i+j)):=Aqh λ_ _ _ _ _ _ _ q=>add_int q
theorem An0:OpR X (binaryOp .Sub) (rI0 λi j=>.int (i-j)):=Aqh λ_ _ _ _ _ _ _ q=>sub_int q
theorem AhC:OpR X (binaryOp .Mult) (rI Akk λi j=>.int (i*j)):=opI λ_ _ _ _ _ _ _ hc q=>mul_int q hc.ok
theorem Vd:OpR X (binaryOp .FloorDiv) (rI ArY λi j=>.int (i / j)):=opI λi j _ _ _ _ _ hc q=>by
 have h1:=hc.1;have h2:=hc.2;exact floordiv_int As (by rw[Int.fdiv_eq_ediv_of_nonneg i As];exact q) (.inl (PyProof.noPylong_small As))
theorem Rw:OpR X (binaryOp .Mod) (rI (λ_ j=>0<j) λi j=>.int (i%j)):=opI λi j _ _ _ _ _ hc q=>by
 exact mod_int' As (by rw[Int.fmod_eq_emod_of_nonneg i As];exact q)
theorem unI{f:Nd->Sem Nd}{g:Int->Int}
  (rule:∀(i:Int)(t:Tok)(s:Na)(Q:NS)(E:NS),Q (.int (g i) s.toks) {s with toks:=s.toks+1}->wpAny (model X.prog X.w) X.A (f (.int i t)) Q E s) :
  UnR X f (rU λi=>.int (g i)):=by
 intro pins s σ H x v Q I a h;obtain⟨i,rfl,q⟩:=h;obtain⟨t,rfl⟩:=a;exact rule i t s _ _ ⟨.int (g i),H,I.tok _,⟨_,Z⟩,q⟩
theorem Adb:UnR X (unaryOp .USub) (rU λi=>.int (-i)):=unI λ_ _ _ _ _ q=>neg_int q
end
def AhD:V->V->Bool
 | .non,.non=>true|.non,.int _=>true|.int _,.non=>true|.non,.bl _=>true|.bl _,.non=>true|.non,.str _=>true|.str _,.non=>true
 | .int _,.int _=>true|.bl _,.bl _=>true|.str _,.str _=>true|.byt _,.byt _=>true
 | .int _,.str _=>true|.str _,.int _=>true|.bl _,.str _=>true|.str _,.bl _=>true
 |_,_=>false
inductive rEq (x:V)(y:V)(H:Hp)(Q:VK):Prop
|mk(_:AhD x y=true)(_:Q (.bl (decide (x=y))) H)
inductive rNe (x:V)(y:V)(H:Hp)(Q:VK):Prop
|mk(_:AhD x y=true)(_:Q (.bl (!decide (x=y))) H)
theorem Aev{i j:Int}:decide (V.int i=V.int j)=(i == j):=by rw[AtI];simp
theorem AhE{i j:Bool}:decide (V.bl i=V.bl j)=(i == j):=by rw[AtI];simp
theorem Aew{i j:Str}:decide (V.str i=V.str j)=(i == j):=by rw[AtI];simp
theorem Aex{i j:Array UInt8}:decide (V.byt i=V.byt j)=(i.toList == j.toList):=by rw[AtI];cases i;cases j;simp
section
variable {a b:Expr}{tb tc:TE}
theorem Ba{Q:VK}{k a:Bool}(I:Inv X pins σ H s)(q:Q (.bl k) H)(e:k=a):EP X pins σ Q (.bool a) s:=by subst e;exact⟨.bl k,H,I,Z,q⟩
theorem Amv:OpR X (compareOp .Eq) rEq:=by
 intro pins s σ H x y v u Q I b a h;obtain⟨hs,q⟩:=h;cases x with
 |non =>
  cases b;cases y with
  |non=>cases a;exact PySem.EqNone.eq_none_none (Ba I q At)
  |bl j=>cases a;exact PySem.EqNone.eq_none_bool (Ba I q At)
  |int j=>obtain⟨t',rfl⟩:=a;exact PySem.EqNone.eq_none_int (Ba I q At)
  |str j=>obtain⟨t',rfl⟩:=a;exact PySem.EqNone.eq_none_str (Ba I q At)
  |_=>exact z9 (show false=true from hs) Atj
 |bl i =>
  cases b;cases y with
  |non=>cases a;exact PySem.EqNone.eq_bool_none (Ba I q At)
  |bl j=>cases a;exact eq_bool (Ba I q AhE)
  |str j=>obtain⟨t',rfl⟩:=a;exact PySem.EqMixed.eq_bool_str (Ba I q At)
  |_=>exact z9 (show false=true from hs) Atj
 |int i =>
  obtain⟨t,rfl⟩:=b;cases y with
  |non=>cases a;exact PySem.EqNone.eq_int_none (Ba I q At)
  |int j=>obtain⟨t',rfl⟩:=a;exact eq_int (Ba I q Aev)
  |str j=>obtain⟨t',rfl⟩:=a;exact PySem.EqMixed.eq_int_str (Ba I q At)
  |_=>exact z9 (show false=true from hs) Atj
 |str i =>
  obtain⟨t,rfl⟩:=b;cases y with
  |non=>cases a;exact PySem.EqNone.eq_str_none (Ba I q At)
  |bl j=>cases a;exact PySem.EqMixed.eq_str_bool (Ba I q At)
  |int j=>obtain⟨t',rfl⟩:=a;exact PySem.EqMixed.eq_str_int (Ba I q At)
  |str j=>obtain⟨t',rfl⟩:=a;exact eq_str (Ba I q Aew)
  |_=>exact z9 (show false=true from hs) Atj
 |byt i =>
  obtain⟨t,rfl⟩:=b;cases y with
  |byt j=>obtain⟨t',rfl⟩:=a;exact W.eq_bytes (Ba I q Aex)
  |_=>exact z9 (show false=true from hs) Atj
 |_=>cases y<;>exact z9 (show false=true from hs) Atj
theorem Amw:OpR X (compareOp .NotEq) rNe:=by
 intro pins s σ H x y v u Q I b a h;obtain⟨hs,q⟩:=h;cases x with
 |non =>
  cases b;cases y with
  |non=>cases a;exact PySem.EqNone.ne_none_none (Ba I q At)
  |bl j=>cases a;exact PySem.EqNone.ne_none_bool (Ba I q At)
  |int j=>obtain⟨t',rfl⟩:=a;exact PySem.EqNone.ne_none_int (Ba I q At)
  |str j=>obtain⟨t',rfl⟩:=a;exact PySem.EqNone.ne_none_str (Ba I q At)
  |_=>exact z9 (show false=true from hs) Atj
 |bl i =>
  cases b;cases y with
  |non=>cases a;exact PySem.EqNone.ne_bool_none (Ba I q At)
  |bl j=>cases a;exact ne_bool (Ba I q (congrArg not AhE))
  |str j=>obtain⟨t',rfl⟩:=a;exact PySem.EqMixed.ne_bool_str (Ba I q At)
  |_=>exact z9 (show false=true from hs) Atj
 |int i =>
  obtain⟨t,rfl⟩:=b;cases y with
  |non=>cases a;exact PySem.EqNone.ne_int_none (Ba I q At)
  |int j=>obtain⟨t',rfl⟩:=a;exact ne_int (Ba I q (congrArg not Aev))
  |str j=>obtain⟨t',rfl⟩:=a;exact PySem.EqMixed.ne_int_str (Ba I q At)
  |_=>exact z9 (show false=true from hs) Atj
 |str i =>
  obtain⟨t,rfl⟩:=b;cases y with
  |non=>cases a;exact PySem.EqNone.ne_str_none (Ba I q At)
  |bl j=>cases a;exact PySem.EqMixed.ne_str_bool (Ba I q At)
  |int j=>obtain⟨t',rfl⟩:=a;exact PySem.EqMixed.ne_str_int (Ba I q At)
  |str j=>obtain⟨t',rfl⟩:=a;exact ne_str (Ba I q (congrArg not Aew))
  |_=>exact z9 (show false=true from hs) Atj
 |byt i =>
  obtain⟨t,rfl⟩:=b;cases y with
  |byt j=>obtain⟨t',rfl⟩:=a;exact W.ne_bytes (Ba I q (congrArg not Aex))
  |_=>exact z9 (show false=true from hs) Atj
 |_=>cases y<;>exact z9 (show false=true from hs) Atj
theorem Aqi:OpR X (compareOp .Lt) (rI0 λi j=>.bl (decide (i<j))):=Akj λ_ _ _ _ _ _ _ q=>lt_int q
theorem Aqj:OpR X (compareOp .LtE) (rI0 λi j=>.bl (decide (i<=j))):=Akj λ_ _ _ _ _ _ _ q=>le_int q
theorem Aqk:OpR X (compareOp .Gt) (rI0 λi j=>.bl (decide (j<i))):=Akj λ_ _ _ _ _ _ _ q=>gt_int q
theorem Aql:OpR X (compareOp .GtE) (rI0 λi j=>.bl (decide (j<=i))):=Akj λ_ _ _ _ _ _ _ q=>ge_int q
inductive AaU (x:V)(y:V)(H:Hp)(Q:VK):Prop
|mk(i:_)(j:_)(_:x=.str i)(_:y=.str j)(_:Q (.bl (!(Builtin.Str.occurrences j i 0 j.length 1).isEmpty)) H)
theorem AfV:OpR X (compareOp .In) AaU:=by intro pins s σ H x y v u Q I a b h;obtain⟨i,j,rfl,rfl,q⟩:=h;obtain⟨t,rfl⟩:=a;obtain⟨t',rfl⟩:=b;exact in_str (Ba I q Z)
inductive AhF (x:V)(y:V)(H:Hp)(Q:VK):Prop
|mk(_:y=.non)(_:Q (.bl (decide (x=.non))) H)
theorem An1:OpR X (compareOp .Is) AhF:=by
 intro pins s σ H x y v u Q I a b h;obtain⟨rfl,q⟩:=h;cases b;refine is_none_gen (Ba I q ?_);cases x<;>first
  |grind
  | (obtain⟨t,rfl⟩:=a;rfl)
inductive AfW (x:V)(y:V)(H:Hp)(Q:VK):Prop
|mk(_:y=.non)(_:Q (.bl (!decide (x=.non))) H)
theorem Akl:OpR X (compareOp .IsNot) AfW:=by
 intro pins s σ H x y v u Q I a b h;obtain⟨rfl,q⟩:=h;cases b;refine isnot_none_gen (Ba I q ?_);cases x<;>first
  |grind
  | (obtain⟨t,rfl⟩:=a;rfl)
inductive Vy (x:V)(y:V)(H:Hp)(Q:VK):Prop
|mk(i:_)(j:_)(_:x=.str i)(_:y=.str j)(_:Q (.bl (!(!(Builtin.Str.occurrences j i 0 j.length 1).isEmpty))) H)
theorem Z3:OpR X (compareOp .NotIn) Vy:=by intro pins s σ H x y v u Q I a b h;obtain⟨i,j,rfl,rfl,q⟩:=h;obtain⟨t,rfl⟩:=a;obtain⟨t',rfl⟩:=b;exact notIn_str (Ba I q Z)
theorem OpR.or{b:R2}(h:OpR X f r)(h':OpR X f b):OpR X f (λx y H Q=>r x y H Q\/b x y H Q):=by
 intro pins s σ H x y v u Q I a c q;rcases q with q|q
 ·exact h pins s σ H x y v u Q I a c q
 ·exact h' pins s σ H x y v u Q I a c q
theorem Adc(b:Expr)(h:op≠.In:=by decide)(h2:op≠.NotIn:=by decide):behindInMarks op b=false:=by
 have e1:(op == CmpOp.In)=false:=by grind
 have a:(op == CmpOp.NotIn)=false:=by grind
 cases b<;>simp[behindInMarks,e1,a]
theorem Akm(l:OpR X (compareOp op) r)(f:PE X a ta)(i:PE X b tb)(e:behindInMarks op b=false):PE X (.Compare a [op] [b] pos) (tOp r ta tb):=by intro pins s σ H Q I h;exact wpAny_Compare1 (Anz f i I h λv u c x y H2 m d j q=>l pins c σ H2 x y v u Q m d j q) e
inductive Akn (Q:(Bool->Hp->Prop))(x:V)(H':Hp):Prop
|mk(k:_)(_:x=.bl k)(_:Q k H')
def Aqm (t:TE)(σ:St)(H:Hp)(Q:(Bool->Hp->Prop)):Prop:=t σ H (Akn Q)
theorem Aey(D:OpR X (compareOp op) r)(n:PE X a ta)(p:PE X b tb)(i:behindInMarks op b=false):PT X (.Compare a [op] [b] pos) (Aqm (tOp r ta tb)):=by
 intro pins s σ H Q I h;refine wpAny_isTrue_Compare1 (thn (n pins s σ H _ I h) λv l ⟨x,H1,w,o,A⟩=>thn (p pins l σ H1 _ w A) λu d ⟨y,H2,E,m,B⟩ =>
  thn (D pins d σ H2 x y v u _ E o m B) λc F ⟨z,C,f,t,k,e,j⟩=>?_) i;subst e;cases t;exact zW ⟨C,f,j⟩
def Ako (K:NA)(x:V)(H:Hp)(k:Bool):Prop:=
 match x with
 | .non=>k=false
 | .bl b=>k=b
 | .int i=>k=(i != 0)
 | .str y=>y.length<=sizeLine/\k=((y.length:Int) != 0)
 | .byt y=>y.size<=sizeLine/\k=((y.size:Int) != 0)
 | .ref p=>(∃xs,SqL K H p xs/\k=!xs.isEmpty)\/(∃xs,SqT K H p xs/\k=!xs.isEmpty)\/∃kvs,H p=some (.dK kvs)/\k=!kvs.isEmpty
 |_=>False
theorem Ade{kvs:List (κ×V)}{vs:List (κ×Nd)}(r:KV kvs vs):(!vs.isEmpty)=!kvs.isEmpty:=by cases r<;>rfl
theorem Vz{its:NR}(r:Vals xs its):(!its.toArray.isEmpty)=!xs.isEmpty:=by cases r<;>simp
theorem Rx:(sizeLine:Nat)<2 ^ 63:=by rw[zS];decide
theorem An2:ArX X (λx H Q=>∃k,Ako X.K x H k/\Q k H):=by
 intro pins s σ H x v Q I d h;obtain⟨k,e,q⟩:=h;have hs:=zS;cases x with
 |non =>
  cases d;have a:=e;subst a;exact truthy_none ⟨H,I,q⟩
 |bl b =>
  cases d;have a:=e;subst a;exact zW ⟨H,I,q⟩
 |int i =>
  obtain⟨t,rfl⟩:=d;have a:=e;subst a;exact PySem.P.truthy_int ⟨H,I,q⟩
 |str y =>
  obtain⟨t,rfl⟩:=d;obtain⟨n,a⟩:y.length<=sizeLine/\k=((y.length:Int) != 0):=e;subst a;exact PySem.P.truthy_str As ⟨H,I.tok _,q⟩
 |byt y =>
  obtain⟨t,rfl⟩:=d;obtain⟨n,a⟩:y.size<=sizeLine/\k=((y.size:Int) != 0):=e;subst a;exact W.truthy_bytes As ⟨H,I.tok _,q⟩
 |ref p =>
  cases d;have a:=e;rcases a with ⟨xs,f,a⟩|⟨xs,f,a⟩|⟨kvs,f,a⟩
  ·subst a;obtain⟨its,r,pl,j⟩:=I.list f;have c:=r.length;exact wpAny_truthy_list pl.isList (by simp only [Atd];lia) ⟨H,I.tok _,by rw[Vz r];exact q⟩
  ·subst a;obtain⟨its,r,pl,j⟩:=I.tuple f;have c:=r.length;exact truthy_tuple pl (by simp only [Atd];lia) ⟨H,I.tok _,by rw[Vz r];exact q⟩
  ·subst a;obtain⟨j,l,vs,r,m⟩:kvs.length<=sizeLine/\(p == sysModules)=false/\∃vs,KV kvs vs/\s.heap.DictOf (Ak X.prog X.w) p vs:=I.hok p _ f;have c:=Paired.length r;exact wpAny_truthy_dict l m As ⟨H,I.tok _,by rw[Ade r];exact q⟩
 |_=>exact(e).elim
theorem AhG(c:PE X a ta)(i:∀whole,isTrue a X.env whole=(do let v <-whole;standAt a.pos;holding [v] (truthy v))) :
  PT X a (λσ H Q=>ta σ H λx H'=>∃k,Ako X.K x H' k/\Q k H'):=by
 intro pins s σ H Q I h;exact isTrue_plain (thn (c pins s σ H _ I h) λv b ⟨x,H1,e,d,f⟩=>An2 pins b σ H1 x v Q e d f) (i _)
inductive Z4 (x:V)(y:V)(H:Hp)(Q:VK):Prop
|mk(i:_)(j:_)(_:x=.str i)(_:y=.str j)(_:i.length+j.length<=sizeLine)(_:Q (.str (i++j)) H)
theorem Hz:OpR X (binaryOp .Add) Z4:=by intro pins s σ H x y v u Q I a c h;obtain⟨i,j,rfl,rfl,b,q⟩:=h;obtain⟨t,rfl⟩:=a;obtain⟨t',rfl⟩:=c;exact add_str (λt' tk=>⟨.str (i++j),H,I.tok _,⟨_,Z⟩,q⟩) b
theorem vals1{x:V}(r:Vals [x] us):∃u,us=[u]/\RelV x u:=by
 cases r with
 |cons b a=>cases a;exact⟨_,Z,b⟩
theorem vals2{x:V}(r:Vals [x,y] us):∃u a,us=[u,a]/\RelV x u/\RelV y a:=by
 cases r with
 |cons e d =>
  cases d with
  |cons c b=>cases b;exact⟨_,_,Z,e,c⟩
inductive Adf (xs:Nn)(H:Hp)(Q:VK):Prop
|mk(i:_)(_:xs=[.int i])(_:Q (.int (if i<0 then -i else i)) H)
theorem AhH:Bx X (.builtin "abs") Adf:=by intro pins s σ H xs us Q I r h;obtain⟨i,rfl,q⟩:=h;obtain⟨u,rfl,t,rfl⟩:=vals1 r;exact call_abs_int λu tk=>⟨.int (if i<0 then -i else i),H,I.tok _,⟨_,Z⟩,q⟩
inductive Sg (xs:Nn)(H:Hp)(Q:VK):Prop
|mk(i:_)(j:_)(_:xs=[.int i,.int j])(_:Q (.int (if j>i then j else i)) H)
theorem AfX(hc:X.calm=true):Bx X (.builtin "max") Sg:=by
 intro pins s σ H xs us Q I r h;obtain⟨i,j,rfl,q⟩:=h;obtain⟨u,b,rfl,⟨t,rfl⟩,⟨t',rfl⟩⟩:=vals2 r;refine max_two_ints (I.ok.hd hc) λh' tk k=>⟨_,H,I.kept k,?_,q⟩;by_cases a:j>i
 ·rw[z8 a,z8 a];exact⟨_,Z⟩
 ·rw[z7 a,z7 a];exact⟨_,Z⟩
inductive Sh (xs:Nn)(H:Hp)(Q:VK):Prop
|mk(i:_)(j:_)(_:xs=[.int i,.int j])(_:Q (.int (if j<i then j else i)) H)
theorem AfY(hc:X.calm=true):Bx X (.builtin "min") Sh:=by
 intro pins s σ H xs us Q I r h;obtain⟨i,j,rfl,q⟩:=h;obtain⟨u,b,rfl,⟨t,rfl⟩,⟨t',rfl⟩⟩:=vals2 r;refine min_two_ints (I.ok.hd hc) λh' tk k=>⟨_,H,I.kept k,?_,q⟩;by_cases a:j<i
 ·rw[z8 a,z8 a];exact⟨_,Z⟩
 ·rw[z7 a,z7 a];exact⟨_,Z⟩
inductive V0 (xs:Nn)(H:Hp)(Q:VK):Prop
|mk(i:_)(_:xs=[.int i])(_:i.natAbs.log2<1920)(_:Q (.str (toString i)) H)
theorem Z5:Bx X (.type "str") V0:=by intro pins s σ H xs us Q I r h;obtain⟨i,rfl,a,q⟩:=h;obtain⟨u,rfl,t,rfl⟩:=vals1 r;exact PySem.P.str_of_int a ⟨.str _,H,I.tok _,⟨_,Z⟩,q⟩
end
structure Adg (h:Heap)(x dx C:NX)(mA:Str->NW):Prop where
 obj:h.get? x=some (W.instObj C dx)
 ns:h.Ns1 dx mA
 ne:dx≠x
theorem AfZ(n:h.Ns1 dx mA):∃c,h.get? dx=some c/\∀name,W.lookIn name c=some (mA name):=by
 obtain⟨o,es,ep,f,d,hk,_,j⟩:=n;refine⟨o,f,λname=>?_⟩;have e:=j name;unfold nsFind findBy at e;rw[<-Array.find?_toList]at e;unfold W.lookIn;rw[d]
 try dsimp only
 split
 ·rename_i y q;rw[q]at e;exact congrArg some e
 ·rename_i q;rw[q]at e;have a:es.toList.any (·.refKey)=false:=by
   rw[Aut];intro y i;obtain⟨z,t,b⟩:=hk y (Array.mem_toList_iff.mp i);simp[DictEntry.refKey,b]
  have l:¬es.toList.any (·.refKey)=true:=by rw[a];exact Atj
  rw[z7 l];exact congrArg some e
theorem Adg.look{x:NX}(I:Adg h x dx C mA):∃a,W.InstAt h x (W.instObj C dx) C (some a)/\∀name,W.lookIn name a=some (mA name):=
 let ⟨a,ho,hl⟩:=AfZ I.ns
 ⟨a,⟨I.obj,Z,Z,ho⟩,hl⟩
section
variable {K:NA}{x f:NX}{v:Nd}
theorem get_map{a:Bool}{Q:NS}(X:K.In s.heap)(I:Adg s.heap x dx C mA)(i:W.plainGet K C name=true)(d:W.hasDictIn K C=true)
  (f:W.findIn K (.ref C) name=some none) (c:mA name=some v) (b:W.handedIn v=true) (h:Q v {s with toks:=s.toks+1}) :
  wpAny (model prog w) A (getAttr (.ref x) name a) Q E s:=by
 obtain⟨j,J,e⟩:=I.look;exact W.get_value X J (W.plainGet_of i).1 (W.findObj_own d f Z (by rw[e,c])) b h
theorem AhI{Q:Nd×NR->Na->Prop}(X:K.In s.heap)(I:Adg s.heap x dx C mA)(a:W.plainGet K C name=true)
  (i:W.findIn K (.ref C) name=some (some (.ref f))) (d:W.isFn K (.ref f)=true) (c:mA name=none) (h:Q (.ref f,[.ref x]) s) :
  wpAny (model prog w) A (getMethod (.ref x) name pl) Q E s:=by
 obtain⟨b,J,e⟩:=I.look;exact W.method_fn X J (W.plainGet_of a).1 (W.plainGet_of a).2 i (beq_iff_eq.mp d) (by show(W.lookIn name b).map (·.isSome)=some false;rw[e,c];rfl) h
theorem Akp(X:K.In s.heap)(I:Adg s.heap x dx C mA)
  (hs:W.findIn K (.ref C) "__setattr__"=some (some (.builtin "object.__setattr__"))) (l:W.plainOver K C=true) (n:W.takerIn K C name=some none) (o:W.hasDictIn K C=true)
  (hw:PySem.Within mA ns) (hsz:ns.length<=sizeLine)
  (h:∀h',Adg h' x dx C (λy=>if y=name then some v else mA y)->Heap.SameBut dx s.heap h'->Q () {s with heap:=h',toks:=s.toks+2}) :
  wpAny (model prog w) A (setAttr (.ref x) name v) Q E s:=by
 obtain⟨t,J,u⟩:=I.look;refine W.set_plain X J hs (W.osa_open X J l n λb=>?_);obtain⟨cd,hc,e⟩:=W.any_some o;have p:=I.obj;refine zA (zE (zA (zA (wpAny_loadPart p (zA (W.Looks.here (W.looks_clsIn X hc) ?_))))));rw[e];refine zE (zA (zE (zA ?_)));refine wpAny_nsSet1 I.ns λh' c a=>?_;obtain⟨r,j,m,d,i,f⟩:=c.count (PySem.Within.cons name v hw);refine zA (wpAny_lookBehind d (by rw[i];exact pastItsLine_dict (Atf f (by grind))) ?_);exact zE (h _ ⟨(a.2 _ (yD I.ne)).trans I.obj,c,I.ne⟩ a)
theorem AhJ{R:Result->Na->Prop}{vs:NR}(X:K.In s.heap)(c:W.makesIn K C=true)
  (hi:W.findIn K (.ref C) "__init__"=some (some (.ref f))) (b:W.typeIn K (.ref f)=some (.type "function"))
  (h:codeAny (model prog w) (A.under (.builtin "type.__call__" ⟨.ref C::vs,kw⟩)) (.call (.ref f) ⟨.ref (s.heap.objs.size+1)::vs,kw⟩) (W.InitBack (s.heap.objs.size+1) R)
   {s with heap:=(s.heap.push W.emptyDict).push (W.instObj C s.heap.objs.size)}) :
  codeAny (model prog w) A (.call (.ref C) ⟨vs,kw⟩) R s:=by
 exact W.make_core (W.makes_of X c) (W.looks_findIn X hi) (λa=>W.bind_fn X a b) (.inl Z) h
end
def Gn (f:Str)(v:V):List (Str×V)->List (Str×V)
 |[]=>[(f,v)]
 | (g,x)::r=>if g=f then (g,v)::r else (g,x)::Gn f v r
theorem Sq(f g:Str)(v:V):∀fs:List (Str×V),(Gn f v fs).lookup g=if g=f then some v else fs.lookup g
 |[]=>by
  show List.lookup g [(f,v)]=_;by_cases h:g=f
  ·simp_all
  ·simp_all
 | (k,x)::r=>by
  have b:=Sq f g v r;rw[show Gn f v ((k,x)::r)=(if k=f then (k,v)::r else (k,x)::Gn f v r) from rfl];by_cases hk:k=f
  ·rw[z8 hk];by_cases h:g=k
   ·simp_all
   ·have a:=beq_eq_false_iff_ne.mpr h;simp only [List.lookup,a,z7 (λe:g=f=>h (e.trans hk.symm))]
  ·rw[z7 hk];by_cases h:g=k
   ·simp_all
   ·have a:=beq_eq_false_iff_ne.mpr h;simp only [List.lookup,a];exact b
theorem Ry(f:Str)(v:V):∀fs:List (Str×V),f∈(Gn f v fs).map (·.1)/\∀g,g∈fs.map (·.1)->g∈(Gn f v fs).map (·.1)
 |[]=>⟨by simp[Gn],λg h=>by simp at h⟩
 | (k,x)::r=>by
  obtain⟨i1,i2⟩:=Ry f v r;rw[show Gn f v ((k,x)::r)=(if k=f then (k,v)::r else (k,x)::Gn f v r) from rfl];grind
theorem Ss(f:Str)(v:V):∀fs:List (Str×V),(Gn f v fs).length<=fs.length+1
 |[]=>by simp[Gn]
 | (k,x)::r=>by
  have a:=Ss f v r;rw[show Gn f v ((k,x)::r)=(if k=f then (k,v)::r else (k,x)::Gn f v r) from rfl];grind
theorem Ju.some_of{o:NW}(r:Ju (some v) o):∃u,o=some u/\RelV v u:=by
 cases o with
 |none=>exact(r).elim
 |some u=>exact⟨u,Z,r⟩
theorem Ju.none_of{o:NW}(r:Ju none o):o=none:=by
 cases o with
 |none=>rfl
 |some u=>exact(show False from r).elim
theorem Aga(r:RelV v u):W.handedIn u=true:=by
 cases v with
 |non=>cases (r);rfl
 |bl b=>cases (r);rfl
 |int i=>obtain⟨t,e⟩:=(r);cases e;rfl
 |str x=>obtain⟨t,e⟩:=(r);cases e;rfl
 |byt b=>obtain⟨t,e⟩:=(r);cases e;rfl
 |flt b=>obtain⟨t,e⟩:=(r);cases e;rfl
 |ref a=>cases (r);rfl
 |ty n=>cases (r);rfl
section
variable {fs fs':List (Str×V)}
theorem Eb(b:HOk P w H h)(e:H a=some (.ins C dx fs)):∃mA,Adg h a dx C mA/\(∀f,Ju (fs.lookup f) (mA f))/\PySem.Within mA (fs.map (·.1))/\fs.length<=1000/\H dx=some (.own a):=by obtain⟨d,z,ne,c,mA,n,r,q⟩:=(b a _ e);exact⟨mA,⟨c,n,ne⟩,r,q,z,d⟩
end
structure Cls (K:NA)(C:NX):Prop where
 pg:W.plainGet K C Str.empty=true
 hd:W.hasDictIn K C=true
 po:W.plainOver K C=true
 sa:W.findIn K (.ref C) "__setattr__"=some (some (.builtin "object.__setattr__"))
theorem Cls.get{K:NA}(c:Cls K C)(f:Str):W.plainGet K C f=true:=c.pg
def Bp (K:NA)(C:NX)(f:Str):Prop:=W.findIn K (.ref C) f=some none
theorem Bp.taker{K:NA}{f:Str}(n:Bp K C f):W.takerIn K C f=some none:=by unfold W.takerIn;rw[show W.findIn K (.ref C) f=some none from n];rfl
structure Meth (K:NA)(C:NX)(m:Str)(f:NX):Prop where
 at_:W.findIn K (.ref C) m=some (some (.ref f))
 fn:W.isFn K (.ref f)=true
 kp:W.keepIn K (.ref f)=true
section
variable {fs:List (Str×V)}{f:Str}
theorem V1{b:Bool}{Q:NS}(I:Inv X pins σ H s)(e:H a=some (.ins C dx fs))(c:Cls X.K C)(n:Bp X.K C f)(l:fs.lookup f=some v)
  (h:∀u s',Inv X pins σ H s'->RelV v u->Q u s'):wpAny (model X.prog X.w) A (getAttr (.ref a) f b) Q E s:=by
 obtain⟨mA,O,r,_,_,_⟩:=Eb I.hok e;obtain⟨u,i,d⟩:=Ju.some_of (by rw[<-l];exact r f);exact get_map I.kIn O (c.get f) c.hd n i (Aga d) (h u _ (I.tok _) d)
theorem V2{g:NX}{Q:Nd×NR->Na->Prop}(I:Inv X pins σ H s)(e:H a=some (.ins C dx fs))(c:Cls X.K C)(k:Meth X.K C m g)(l:fs.lookup m=none)
  (h:Q (.ref g,[.ref a]) s):wpAny (model X.prog X.w) A (getMethod (.ref a) m pl) Q E s:=by
 obtain⟨mA,O,r,_,_,_⟩:=Eb I.hok e;have hn:=Ju.none_of (by rw[<-l];exact r m);exact AhI I.kIn O (c.get m) k.at_ k.fn hn h
theorem V3(I:Inv X pins σ H s)(e:H a=some (.ins C dx fs))(c:Cls X.K C)(n:Bp X.K C f)(x:fs.length<1000)(t:RelV y u)
  (h:∀s',Inv X pins σ (upd H a (.ins C dx (Gn f y fs))) s'->Q () s'):wpAny (model X.prog X.w) A (setAttr (.ref a) f u) Q E s:=by
 obtain⟨mA,O,r,wi,_,i⟩:=Eb I.hok e;have p:(fs.map (·.1)).length<=sizeLine:=by rw[AsZ,zS];lia
 refine Akp I.kIn O c.sa c.po n.taker c.hd wi p λh' d m=>h _ ?_;have j:∃o,h'.get? dx=some o:=let ⟨o,_,_,e',_⟩:=d.ns;⟨o,e'⟩
 refine I.write (by rw[e];exact True.intro) (.inr i) (λb q l z=>(m.2 b l).trans z) j ?_;refine⟨by rw[Af O.ne];exact i,?_,O.ne,d.obj,_,d.ns,λg=>?_,λg v=>?_⟩
 ·have:= Ss f y fs;lia
 ·rw[Sq];by_cases q:g=f
  ·rw[z8 q,z8 q];exact t
  ·rw[z7 q,z7 q];exact r g
 ·by_cases q:g=f
  ·rw[q];exact(Ry f y fs).1
  ·refine(Ry f y fs).2 g (wi g λz=>v ?_);show(if g=f then some u else mA g)=none;rw[z7 q];exact z
theorem Inv.made(I:Inv X pins σ H s):Inv X pins σ (upd (upd H s.heap.objs.size (.own (s.heap.objs.size+1))) (s.heap.objs.size+1) (.ins C s.heap.objs.size []))
  {s with heap:=(s.heap.push W.emptyDict).push (W.instObj C s.heap.objs.size)}:=by
 have e1:(s.heap.push W.emptyDict).get? s.heap.objs.size=some W.emptyDict:=zD s.heap Z;have a:((s.heap.push W.emptyDict).push (W.instObj C s.heap.objs.size)).get? (s.heap.objs.size+1)=some (W.instObj C s.heap.objs.size):=by
  have:= zD (s.heap.push W.emptyDict) (o:=W.instObj C s.heap.objs.size) Z
  rwa [yG]at this
 have f:(s.heap.push W.emptyDict).Ns s.heap.objs.size (λ_=>none):=⟨W.emptyDict,#[],_,e1,Z,(λe d=>z9 d At),λ_=>rfl⟩;have c:=I.laid (o:=.own (s.heap.objs.size+1)) (t':=s.toks) (λb u q=>zB _ q) (AsY _) ⟨_,e1⟩;refine c.laid (λb u q=>zB _ q) (AtE (yG _ _)) ?_;have ne:s.heap.objs.size≠s.heap.objs.size+1:=Atb (Aty _);refine⟨by rw[Af ne,Ad],Atg _,ne,a,λ_=>none,(Heap.Ns1.of_empty f).at λo q=>zB _ q,λ_=>True.intro,λy h=>z9 rfl h⟩
theorem Akq{env:Env}{f:Str}{Q:NS}(a:attributeBase e f env (eval e env)=eval e env)
  (h:wpAny (model prog w) A (eval e env) (λo s₁=>wpAny (model prog w) A (getAttr o f true) Q E s₁) E s):wpAny (model prog w) A (eval (.Attribute e f pos) env) Q E s:=
 Attribute_any_ h (by rw[arm_eval_Attribute,a])
end
inductive An3 (K:NA)(f:Str)(Q:VK)(x:V)(H1:Hp):Prop
|mk(a:_)(C:_)(dx:_)(fs:_)(v:_)(_:x=.ref a)(_:H1 a=some (.ins C dx fs))(_:Cls K C)(_:Bp K C f)(_:fs.lookup f=some v)(_:Q v H1)
def Aqn (K:NA)(ta:TE)(f:Str)(σ:St)(H:Hp)(Q:VK):Prop:=ta σ H (An3 K f Q)
inductive An4 (K:NA)(f:Str)(D:Ends)(σ:St)(y:V)(x:V)(H2:Hp):Prop
|mk(a:_)(C:_)(dx:_)(fs:_)(_:x=.ref a)(_:H2 a=some (.ins C dx fs))(_:Cls K C)(_:Bp K C f)(_:fs.length<1000)(_:D.nx σ (upd H2 a (.ins C dx (Gn f y fs))))
abbrev An5 (K:NA)(ta:TE)(f:Str)(D:Ends)(σ:St)(y:V)(H1:Hp):Prop:=ta σ H1 (An4 K f D σ y)
def Aqo (K:NA)(ta:TE)(tv:TE)(f:Str)(D:Ends)(σ:St)(H:Hp):Prop:=tv σ H (An5 K ta f D σ)
def An6 (X:Cx)(op:Operator)(rd:V->V->Hp->VK->Prop):Prop:=
 ∀(pins:NF)(s:Na)(σ:St)(H:Hp)(x y:V)(u v:Nd)(Q:VK),Inv X pins σ H s->RelV x u->RelV y v->rd x y H Q->wpAny (model X.prog X.w) X.A (inplaceOp op u v) (EP X pins σ Q) X.xe s
inductive Agb (K:NA)(tv:TE)(rd:V->V->Hp->VK->Prop)(f:Str)(D:Ends)(σ:St)(x:V)(H1:Hp):Prop
|mk(a:_)(C:_)(dx:_)(fs:_)(v:_)(_:x=.ref a)(_:H1 a=some (.ins C dx fs))(_:Cls K C)(_:Bp K C f)(_:fs.lookup f=some v)(_:tv σ H1 λy H2=>rd v y H2 λz H3=>∃dx' fs',H3 a=some (.ins C dx' fs')/\fs'.length<1000/\D.nx σ (upd H3 a (.ins C dx' (Gn f z fs'))))
def Aez (K:NA)(ta:TE)(tv:TE)(rd:V->V->Hp->VK->Prop)(f:Str)(D:Ends)(σ:St)(H:Hp):Prop:=ta σ H (Agb K tv rd f D σ)
section
variable {o value:Expr}{f:Str}{tpos:Pos}{tv:TE}
theorem An7(o:PE X e ta)(j:attributeBase e f X.env (eval e X.env)=eval e X.env):PE X (.Attribute e f pos) (Aqn X.K ta f):=by intro pins s σ H Q I h;refine Akq j (thn (o pins s σ H _ I h) λu r ⟨x,H1,m,b,a,C,dx,fs,v,ex,ea,c,n,l,q⟩=>?_);subst ex;obtain rfl:u=Value.ref a:=b;exact V1 m ea c n l λu' p i d=>⟨v,H1,i,d,q⟩
theorem An8(j:PE X o ta)(d:PE X value tv)(hs:swapsWith value (some (.Attribute o f pos')) pos.line X.env=pure false):PS X (.Assign [.Attribute o f pos'] value pos) (Aqo X.K ta tv f):=by intro pins s σ H D I h;refine plainObj_wpAny_Assign_Attribute (thn (d pins s σ H _ I h) λu i ⟨y,H1,r,v,q⟩=>thn (j pins i σ H1 _ r q) λp w ⟨x,H2,m,b,a,C,dx,fs,ex,ea,c,n,l,t⟩=>?_) hs;subst ex;obtain rfl:p=Value.ref a:=b;exact V3 m ea c n l v λz e=>⟨σ,_,e,t⟩
theorem Agc{op:Operator}{e:V->V->Hp->VK->Prop}(J:PE X o ta)(i:PE X value tv)(b:An6 X op e):PS X (.AugAssign (.Attribute o f tpos) op value pos) (Aez X.K ta tv e f):=by intro pins s σ H D I h;refine wpAny_AugAssign_AttributeAny (thn (J pins s σ H _ I h) λO S ⟨x,H1,r,E,a,C,dx,fs,v,ex,ea,c,n,l,q⟩=>?_);subst ex;obtain rfl:O=Value.ref a:=E;refine V1 r ea c n l λu B A N=>thn (i pins B σ H1 _ A q) λP F ⟨y,H2,j,t,m⟩=>thn (b pins F σ H2 v y u P _ j N t m) λW Y ⟨z,T,p,w,Q,fs',d,R,L⟩=>?_;exact V3 p d c n R w λU G=>⟨σ,_,G,L⟩
inductive ArZ (x:V)(y:V)(H:Hp)(Q:VK):Prop
|mk(i:_)(j:_)(_:x=.int i)(_:y=.int j)(_:Q (.int (i+j)) H)
theorem An9:An6 X .Add ArZ:=by rintro pins s σ H x y u v Q I a b ⟨i,j,rfl,rfl,q⟩;obtain⟨t,rfl⟩:=(a);obtain⟨t',rfl⟩:=(b);exact PyProof.Rows.iadd_int ⟨.int (i+j),H,I.tok _,⟨_,Z⟩,q⟩
end
section
variable {Q:NS}{c:Nd}{b:Bool}
inductive Rz (K:NA) (H:Hp):V->Nd->Prop where
 |non:Rz K H .non (.type "NoneType")
 |bl (x:Bool):Rz K H (.bl x) (.type "bool")
 |int (i:Int):Rz K H (.int i) (.type "int")
 |str (x:Str):Rz K H (.str x) (.type "str")
 |flt (x:UInt64):Rz K H (.flt x) (.type "float")
 |lst {a:NX} {xs:Nn} (e:H a=some (.lst xs)):Rz K H (.ref a) (.type "list")
 |frz {a:NX} {o:Obj} {xs:Nn} (e:H a=some (.frz o (.lst xs))):Rz K H (.ref a) (.type "list")
 |tup {a:NX} {xs:Nn} (e:H a=some (.tup xs)):Rz K H (.ref a) (.type "tuple")
 |dK {a:NX} {kvs:List (Key×V)} (e:H a=some (.dK kvs)):Rz K H (.ref a) (.type "dict")
 |dT {a:NX} {kvs:List (List Key×V)} (e:H a=some (.dT kvs)):Rz K H (.ref a) (.type "dict")
 |ins {a C dx:NX} {fs:List (Str×V)} (e:H a=some (.ins C dx fs)) (cl:Cls K C) (ha:W.findIn K (.ref C) "__class__"=some (some (.builtin "object.__class__")))
   (hn:W.specialIn K (.builtin "object.__class__") "__get__"=some (some (.builtin "getset_descriptor.__get__"))) (htk:W.takesIn K (.builtin "object.__class__")=some true)
   (hm:W.mroIn K C (.type "object")=some true):Rz K H (.ref a) (.ref C)
theorem Ym{x:V}{t:Nd}(I:Inv X pins σ H s)(d:RelV x u)(ty:Rz X.K H x t)(e:W.kitOne X.K t c=some b)(h:∀tk,Q (.bool b) {s with toks:=tk}) :
  wpAny (model X.prog X.w) A (call (.builtin "isinstance") [u,c]) Q E s:=by
 cases ty with
 |non=>cases (d);exact W.kia_one W.kitx_none I.kIn True.intro e (λz=>nomatch z) h
 |bl y=>cases (d);exact W.kia_one W.kitx_bool I.kIn True.intro e (λz=>nomatch z) h
 |int i=>obtain⟨t,q⟩:=(d);cases q;exact W.kia_one W.kitx_int I.kIn True.intro e (λz=>nomatch z) h
 |str y=>obtain⟨t,q⟩:=(d);cases q;exact W.kia_one W.kitx_str I.kIn True.intro e (λz=>nomatch z) h
 |flt y=>obtain⟨t,q⟩:=(d);cases q;exact W.kia_one W.kitx_float I.kIn True.intro e (λz=>nomatch z) h
 | @lst a xs ea =>
  cases (show u=Value.ref a from d);obtain⟨_,_,n,_,h1⟩:=(I.hok a _ ea);exact W.kia_one W.kitx_list I.kIn ⟨_,h1,Z⟩ e (λz=>nomatch z) h
 | @frz a v xs ea =>
  cases (d);obtain⟨_,_,_,n,_,h1⟩:=(I.hok a _ ea);exact W.kia_one W.kitx_list I.kIn ⟨_,h1,Z⟩ e (λz=>nomatch z) h
 | @tup a xs ea =>
  cases (show u=Value.ref a from d);obtain⟨_,_,_,p⟩:=(I.hok a _ ea);obtain⟨o,h1,h2,_⟩:=p;exact W.kia_one W.kitx_tuple I.kIn ⟨o,h1,h2⟩ e (λz=>nomatch z) h
 | @dK a kvs ea =>
  cases (show u=Value.ref a from d);obtain⟨_,_,vs,_,p⟩:=(I.hok a _ ea);obtain⟨o,es,ep,h1,h2,_⟩:=p;exact W.kia_one W.kitx_dict I.kIn ⟨o,h1,h2.1⟩ e (λz=>nomatch z) h
 | @dT a kvs ea =>
  cases (show u=Value.ref a from d);obtain⟨_,_,xs,_,o,es,ep,h1,h2,_⟩:=(I.hok a _ ea);exact W.kia_one W.kitx_dict I.kIn ⟨o,h1,h2.1⟩ e (λz=>nomatch z) h
 | @ins a C dx fs ea j m hn f l =>
  cases (d);obtain⟨mA,O,_⟩:=Eb I.hok ea;obtain⟨r,J,_⟩:=O.look;exact W.kia_one (W.kitx_own (j.get _) j.hd m hn f l) I.kIn J e (λz=>nomatch z) h
end
structure BX (k:Nat)(A:Around):Prop where
 hd:A.handled=none
 dp:A.depth+3*k+5<recursionLimit
 un:A.units+16*k+200<cLine
theorem BX.mono{k:Nat}(r:BX k A)(h:j<=k):BX j A:=⟨r.hd,by have:=r.dp;lia,by have:=r.un;lia⟩
theorem BX.deeper{k:Nat}(r:BX (k+1) A)(env:Env):BX k (A.deeper env):=
 ⟨r.hd,by have:= r.dp;show A.depth+1+3*k+5<_;lia,by have:= r.un;show A.units+3+16*k+200<_;lia⟩
theorem Adh:(A.under (.builtin "type.__call__" ⟨.ref C::us,kw⟩)).depth=A.depth+1:=by
 first|rfl|grind
theorem Adi:(A.under (.builtin "type.__call__" ⟨.ref C::us,kw⟩)).units=A.units+1:=by
 first|rfl|grind
theorem BX.make{k:Nat}(r:BX (k+1) A)(C:NX)(us:NR)(kw:List (Str×Nd)):BX k (A.under (.builtin "type.__call__" ⟨.ref C::us,kw⟩)):=
 ⟨r.hd,by have:= r.dp;rw[Adh];lia,by have:= r.un;rw[Adi];lia⟩
theorem BX.depth{k:Nat}(r:BX k A):A.depth<recursionLimit:=by have:=r.dp;lia
theorem BX.units{k:Nat}(r:BX k A):A.units+64<cLine:=by have:=r.un;lia
def Asa:TA:=λ_ H Q=>Q [] H
abbrev Akr (Q:(Nn->Hp->Prop))(x:V)(xs:Nn)(H2:Hp):Prop:=Q (x::xs) H2
abbrev Aks (tr:TA)(σ:St)(Q:(Nn->Hp->Prop))(x:V)(H1:Hp):Prop:=tr σ H1 (Akr Q x)
def Aqp (ta:TE)(tr:TA)(σ:St)(H:Hp)(Q:(Nn->Hp->Prop)):Prop:=ta σ H (Aks tr σ Q)
section
variable {t:TA}
theorem Al:PA X [] Asa:=λ_ _ _ _ H Q I h=>yR ⟨[],H,I,.nil,h⟩
theorem Ae(c:PE X e te)(f:PA X es t)(hs:starEach (e::es) X.env=(false,eval e X.env)::starEach es X.env:=by rfl):PA X (e::es) (Aqp te t):=by intro pos pins s σ H Q I h;rw[hs];show wpAny _ _ (spliced ((false,eval e X.env)::backTo pos (starEach es X.env))) _ _ s;refine yP (thn (c pins s σ H _ I h) λu a ⟨x,H1,i,d,j⟩=>?_);exact thn (f pos pins a σ H1 _ i j) λus n ⟨xs,H2,m,b,l⟩=>⟨x::xs,H2,m,.cons d b,l⟩
inductive AnA (Q:VK)(xs:Nn)(H1:Hp):Prop
|mk(_:xs.length<=sizeLine)(_:∀p,H1 p=none->Q (.ref p) (upd H1 p (.tup xs)))
def Asb (t:TA)(σ:St)(H:Hp)(Q:VK):Prop:=t σ H (AnA Q)
inductive AnB (Q:VK)(xs:Nn)(H1:Hp):Prop
|mk(_:xs.length<=sizeLine)(_:∀p,H1 p=none->Q (.ref p) (upd H1 p (.lst xs)))
def Asc (t:TA)(σ:St)(H:Hp)(Q:VK):Prop:=t σ H (AnB Q)
theorem DQ{x1}(h:PA X es t):PE X (.Tuple es x1 pos) (Asb t):=by intro pins s σ H Q I f;refine wpAny_Tuple_spliced (thn (h pos pins s σ H _ I f) λus a ⟨xs,H1,c,r,z,q⟩=>⟨by rw[<-r.length];exact z,?_⟩);have d:=c.hok.fresh (AsY _);refine⟨.ref a.heap.objs.size,upd H1 a.heap.objs.size (.tup xs),c.laid (λb u e=>zB _ e) (AsY _) ?_,Z,q _ d⟩;exact⟨z,us,r,⟨_,zD _ Z,Z,_,Z⟩⟩
theorem Z6(h:PA X es t):PE X (.List es pos) (Asc t):=by intro pins s σ H Q I f;refine wpAny_List_spliced (thn (h pos pins s σ H _ I f) λus a ⟨xs,H1,c,r,z,q⟩=>⟨by rw[<-r.length];exact z,?_⟩);have d:=c.hok.fresh (AsY _);refine⟨.ref a.heap.objs.size,upd H1 a.heap.objs.size (.lst xs),c.laid (λb u e=>zB _ e) (AsY _) ?_,Z,q _ d⟩;exact⟨z,us,0,r,zD _ Z⟩
end
abbrev Sp:=Nn->Hp->VK->XK->Prop
abbrev CXT:=List Env->Hp->Na->XK->Nd->Na->Prop
structure V4 (P:Program)(w:World)(K:NA)(mg:Str->NW)(base:Heap)(A:Around)(outer:List Env)(s:Na)(H:Hp):Prop where
 frames:A.frames=some outer
 mod:Mod K mg base
 bs:∀b o,base.get? b=some o->s.heap.get? b=some o/\H b=none
 bsz:base.objs.size<=s.heap.objs.size
 Jv:s.heap.FunFrames base outer
 frf:∀b∈frs outer,H b=none
 hok:HOk P w H s.heap
 bare:AllBare s.gens
def CE (outer:List Env)(P:Program)(w:World)(H:Hp)(s:Na)(Q:VK)(u:Nd)(s':Na):Prop:=
 ∃v H',s'.os=s.os/\AllBare s'.gens/\Un (frs outer) [] H H' s.heap s'.heap/\HOk P w H' s'.heap/\RelV v u/\Q v H'
def CR (CX:CXT)(outer:List Env)(P:Program)(w:World)(H:Hp)(s:Na)(Q:VK)(E:XK)(r:Result)(s':Na):Prop:=
 match r with
 | .ok (.ret u)=>CE outer P w H s Q u s'
 | .ok _=>False
 | .error e=>CX outer H s E e s'
structure BR (P:Program)(w:World)(K:NA)(mg:Str->NW)(base:Heap)(CX:CXT)(k:Nat)(f:NX)(fd:NY)(ps:NU)(sp:Sp):Prop where
 len:∀vs H Q E,sp vs H Q E->vs.length=ps.length
 run:∀(A:Around)(outer:List Env)(s:Na)(H:Hp)(args:Args)(us:NR)(vs:Nn)(Q:VK)(E:XK),BX k A->V4 P w K mg base A outer s H->BindsTo s fd args (ps.zip us)->Vals vs us->sp vs H Q E ->
  codeAny (model P w) A (.call (.ref f) args) (CR CX outer P w H s Q E) s
theorem BR.mono{K:NA}{base:Heap}{k:Nat}{f:NX}{fd:NY}(F:BR P w K mg base CX j f fd ps sp)(h:j<=k) :
  BR P w K mg base CX k f fd ps sp:=⟨F.len,λA outer s H a us vs Q E b=>F.run A outer s H a us vs Q E (b.mono h)⟩
theorem BR.imp{K:NA}{base:Heap}{k:Nat}{f:NX}{fd:NY}{b:Sp}(F:BR P w K mg base CX k f fd ps sp)
  (h:∀vs H Q E,b vs H Q E->sp vs H Q E):BR P w K mg base CX k f fd ps b:=
 ⟨λvs H Q E q=>F.len vs H Q E (h _ _ _ _ q),λA outer s H a us vs Q E d i e c hs=>F.run A outer s H a us vs Q E d i e c (h _ _ _ _ hs)⟩
theorem V4.make{K:NA}{base:Heap}{outer:List Env}(e:V4 P w K mg base A outer s H)(C:NX)(us:NR)(kw:List (Str×Nd)) :
  V4 P w K mg base (A.under (.builtin "type.__call__" ⟨.ref C::us,kw⟩)) outer s H:=⟨by first|exact e.frames|grind,e.mod,e.bs,e.bsz,e.Jv,e.frf,e.hok,e.bare⟩
theorem Inv.env0(I:Inv X pins σ H s):V4 X.prog X.w X.K X.mg X.base X.A X.stack s H:=
 ⟨I.ok.frames,I.ok.mod,I.bs,Atf I.ok.bsz I.sz,I.stack,I.Vb,I.hok,I.bare⟩
theorem Inv.after{Q:VK}(I:Inv X pins σ H s)(h:CE X.stack X.prog X.w H s Q u s'):EP X pins σ Q u s':=by obtain⟨v,H',os,a,un,e,r,q⟩:=h;obtain⟨f,g,d,t,c⟩:=s';obtain rfl:c=s.os:=os;exact⟨v,H',I.call un e a (λb z=>z9 z At),r,q⟩
abbrev Akt (sp:Sp)(dvs:Nn)(E:XK)(Q:VK)(vs:Nn)(H1:Hp):Prop:=sp (vs++dvs) H1 Q E
def Amx (sp:Sp)(dvs:Nn)(E:XK)(t:TA)(σ:St)(H:Hp)(Q:VK):Prop:=t σ H (Akt sp dvs E Q)
abbrev Aku (C:NX)(sp:Sp)(dvs:Nn)(E:XK)(Q:VK)(vs:Nn)(H1:Hp):Prop:=∀x dx,H1 x=none->H1 dx=none->dx≠x ->
 sp (.ref x::(vs++dvs)) (upd (upd H1 dx (.own x)) x (.ins C dx [])) (λv H2=>v=.non/\Q (.ref x) H2) E
def Amy (C:NX)(sp:Sp)(dvs:Nn)(E:XK)(t:TA)(σ:St)(H:Hp)(Q:VK):Prop:=t σ H (Aku C sp dvs E Q)
def Binds(K:NA)(fd:NY)(ps:NU)(ds:NR):Prop:=
 ∀(s:Na)(us:NR),K.In s.heap->(us++ds).length=ps.length->BindsTo s fd ⟨us,[]⟩ (ps.zip (us++ds))
theorem Binds.all{K:NA}{fd:NY}(h:∀us:NR,us.length=ps.length->bindArgs fd ⟨us,[]⟩=pure (ps.zip us)):Binds K fd ps []:=λs us _ a=>by
 rw[At6]at a ⊢;exact .of_eq (h us a)
def Passes(CX:CXT)(X:Cx)(E:XK):Prop:=∀(pins:NF)(σ:St)(H:Hp)(s:Na)(e:Nd)(s':Na),Inv X pins σ H s->CX X.stack H s E e s'->X.xe e s'
section
variable {k:Nat}{f:NX}{fd:NY}{dvs:Nn}{E:XK}{apos:Pos}{o:Expr}{t:TA}
theorem Z7{Q:VK}(F:BR X.prog X.w X.K X.mg X.base CX k f fd ps sp)(c:BX k X.A)(d:Binds X.K fd ps ds)(l:Vals dvs ds)(j:Passes CX X E)
  (I:Inv X pins σ H s) (r:Vals vs us) (h:sp (vs++dvs) H Q E):wpAny (model X.prog X.w) X.A (call (.ref f) us) (EP X pins σ Q) X.xe s:=by
 have b:=r.append l;have i:(us++ds).length=ps.length:=by rw[<-b.length];exact F.len _ _ _ _ h
 refine wpAny_call (yQ (F.run X.A X.stack s H ⟨us,[]⟩ (us++ds) (vs++dvs) Q E c I.env0 (d s us I.kIn i) b h) λr s' a=>?_);cases r with
 |error e=>exact j pins σ H s e s' I a
 |ok fl =>
  cases fl with
  |ret u=>exact I.after a
  |next=>exact yI a
  |brk=>exact yI a
  |cont=>exact yI a
theorem Fq(F:BR X.prog X.w X.K X.mg X.base CX k f fd ps sp)(l:BX k X.A)(u:Gl X x)(d:X.mg x=some (.ref f))(hk:W.keepIn X.K (.ref f)=true)(m:Binds X.K fd ps ds)(i:Vals dvs ds)(n:Passes CX X E)
  (j:PA X (e::es) t) (a:(x == ("__debug__":Str))=false:=by decide) (o:starEach (e::es) X.env=(false,eval e X.env)::starEach es X.env:=by rfl) (b:(backTo pos (starEach es X.env)).any (·.1)=false:=by rfl) :
  PE X (.Call (.Name x p) (e::es) [] pos) (Amx sp dvs E t):=by
 intro pins s σ H Q I h;refine yH (Lf I u d ?_ a);refine W.callWith_K I.ok.mod.kin hk (thn (j pos pins s σ H _ I h) λus v ⟨vs,H1,c,r,q⟩=>⟨c.kIn,?_⟩) o b;exact Z7 F l m i n c r q
structure Mk (K:NA)(C f:NX):Prop where
 makes:W.makesIn K C=true
 init:W.findIn K (.ref C) "__init__"=some (some (.ref f))
 fn:W.isFn K (.ref f)=true
 kp:W.keepIn K (.ref C)=true
theorem AhK{Q:VK}(M:Mk X.K C f)(F:BR X.prog X.w X.K X.mg X.base CX k f fd ps sp)(m:BX (k+1) X.A)(n:Binds X.K fd ps ds)(l:Vals dvs ds)
  (o:Passes CX X E) (I:Inv X pins σ H s) (r:Vals vs us)
  (h:∀x dx,H x=none->H dx=none->dx≠x->sp (.ref x::(vs++dvs)) (upd (upd H dx (.own x)) x (.ins C dx [])) (λv H2=>v=.non/\Q (.ref x) H2) E) :
  wpAny (model X.prog X.w) X.A (call (.ref C) us) (EP X pins σ Q) X.xe s:=by
 have d:=h (s.heap.objs.size+1) s.heap.objs.size (I.hok.fresh (Atq _)) (I.hok.fresh (AsY _)) (Atb (Aty _));have b:=Inv.made (C:=C) I;have c:Vals (V.ref (s.heap.objs.size+1)::(vs++dvs)) (Value.ref (s.heap.objs.size+1)::(us++ds)):=.cons Z (r.append l);have p:(Value.ref (s.heap.objs.size+1)::us++ds).length=ps.length:=by
  have e:=c.length;rw[F.len _ _ _ _ d]at e;exact e.symm
 refine wpAny_call (AhJ I.kIn M.makes M.init (beq_iff_eq.mp M.fn) (yQ (F.run _ X.stack _ _ ⟨Value.ref (s.heap.objs.size+1)::us,[]⟩ (Value.ref (s.heap.objs.size+1)::(us++ds)) _ _ E (m.make C us [])
  (b.env0.make C us []) (n _ (Value.ref (s.heap.objs.size+1)::us) b.kIn p) c d) λr s' a=>?_));cases r with
 |error e=>exact o pins σ _ _ e s' b a
 |ok fl =>
  cases fl with
  |ret u =>
   obtain⟨v,H',i,rv,t,j⟩:=b.after a;subst t;exact⟨rv,⟨V.ref (s.heap.objs.size+1),H',i,Z,j⟩⟩
  |next=>exact yI a
  |brk=>exact yI a
  |cont=>exact yI a
theorem Akv(M:Mk X.K C f)(F:BR X.prog X.w X.K X.mg X.base CX k f fd ps sp)(l:BX (k+1) X.A)(u:Gl X x)(d:X.mg x=some (.ref C))(m:Binds X.K fd ps ds)(i:Vals dvs ds)(n:Passes CX X E)
  (j:PA X (e::es) t) (a:(x == ("__debug__":Str))=false:=by decide) (o:starEach (e::es) X.env=(false,eval e X.env)::starEach es X.env:=by rfl) (b:(backTo pos (starEach es X.env)).any (·.1)=false:=by rfl) :
  PE X (.Call (.Name x p) (e::es) [] pos) (Amy C sp dvs E t):=by
 intro pins s σ H Q I h;refine yH (Lf I u d ?_ a);refine W.callWith_K I.ok.mod.kin M.kp (thn (j pos pins s σ H _ I h) λus v ⟨vs,H1,c,r,q⟩=>⟨c.kIn,?_⟩) o b;exact AhK M F l m i n c r q
end
structure Bf (N P:NU)(sc:Scope):Prop where
 kind:sc.kind=.function
 co:sc.isCoroutine=false
 gen:sc.isGenerator=false
 nd:N.Nodup
 pre:N.take P.length=P
 par:∀x∈P,sc.names.lookup x=some .local\/sc.names.lookup x=some .cell
 AnC:∀y∈sc.names,y.2≠.free
theorem Yn{kindOf:Str->Option NameKind}{x:Str}:∀{binds:List (Str×Nd)} {m:Str->NW},(∀v,(x,v)∉binds)->bindL kindOf binds m x=m x
 |[],_,_=>rfl
 | (n,v)::r,m,h=>by
  unfold bindL;rw[Yn λw hw=>h w (Ath _ hw)];split
  ·have:x≠n:=by rintro rfl;exact h v Atk
   simp[this]
  ·rfl
theorem Yo{kindOf:Str->Option NameKind}{x:Str}:∀{binds:List (Str×Nd)} {m:Str->NW},(∀v,(x,v)∉binds)->bindC kindOf binds m x=m x
 |[],_,_=>rfl
 | (n,v)::r,m,h=>by
  unfold bindC;rw[Yo λw hw=>h w (Ath _ hw)];split
  ·rfl
  ·have:x≠n:=by rintro rfl;exact h v Atk
   simp[this]
theorem Yp{kindOf:Str->Option NameKind}{x:Str}{v:Nd}:∀{P:NU} {vs:NR} {i:Nat} {m:Str->NW},P.Nodup->P[i]?=some x->vs[i]?=some v->kindOf x=some .local ->
  bindL kindOf (P.zip vs) m x=some v
 |[],_,_,_,_,h,_,_=>by simp at h
 |_::_,[],_,_,_,_,h,_=>by simp at h
 |p::P,w::vs,0,m,nd,h1,h2,hk=>by
  simp at h1 h2;subst h1;subst h2;show bindL kindOf ((p,w)::P.zip vs) m p=_;unfold bindL;rw[Yn λv a=>(List.nodup_cons.mp nd).1 (Aul a).1,z8 hk];simp
 |p::P,w::vs,i+1,m,nd,h1,h2,hk=>by
  show bindL kindOf ((p,w)::P.zip vs) m x=_;exact Yp (List.nodup_cons.mp nd).2 (by simpa using h1) (by simpa using h2) hk
theorem Yq{kindOf:Str->Option NameKind}{x:Str}{v:Nd}:∀{P:NU} {vs:NR} {i:Nat} {m:Str->NW},P.Nodup->P[i]?=some x->vs[i]?=some v->kindOf x≠some .local ->
  bindC kindOf (P.zip vs) m x=some v
 |[],_,_,_,_,h,_,_=>by simp at h
 |_::_,[],_,_,_,_,h,_=>by simp at h
 |p::P,w::vs,0,m,nd,h1,h2,hk=>by
  simp at h1 h2;subst h1;subst h2;show bindC kindOf ((p,w)::P.zip vs) m p=_;unfold bindC;rw[Yo λv a=>(List.nodup_cons.mp nd).1 (Aul a).1,z7 hk];simp
 |p::P,w::vs,i+1,m,nd,h1,h2,hk=>by
  show bindC kindOf ((p,w)::P.zip vs) m x=_;exact Yq (List.nodup_cons.mp nd).2 (by simpa using h1) (by simpa using h2) hk
def start(N:NU)(vs:Nn):St:=vs.map some++List.replicate (N.length-vs.length) none
def O9 (CX:CXT)(P:Program)(w:World)(K:NA)(mg:Str->NW)(base:Heap)(N:NU)(qual:Str)(scope:Scope)(f:NX)(cd:Nd)(A:Around)(outer:List Env)(s:Na)(H:Hp)(E:XK):Cx where
 prog:=P
 w:=w
 K:=K
 mg:=mg
 base:=base
 A:=A.deeper (envOfC qual scope s.heap.objs.size f cd)
 N:=N
 s₀:=s
 H₀:=H
 env:=envOfC qual scope s.heap.objs.size f cd
 outer:=outer
 stack:=envOfC qual scope s.heap.objs.size f cd::outer
 ex:=[]
 calm:=true
 fn:=λ_=>true
 pn:=[]
 xe:=λe s'=>wpAny (model P w) (A.deeper (envOfC qual scope s.heap.objs.size f cd)) (leaving (envOfC qual scope s.heap.objs.size f cd) e) (λ_ s''=>CX outer H s E e s'') (λe' s''=>CX outer H s E e' s'') s'
theorem AaV(h:sc.names.lookup x=some .cell):∃c,(cellsFrom n sc.names []).lookup x=some c:=by have q:=W.cellsFrom_some sc.names n [] (.inl h);exact Option.isSome_iff_exists.mp q
theorem Yr{K:NA}{base:Heap}{f:NX}{outer:List Env}{o:Na}{E:XK}
  (S:Bf N ps scope) (B:A.handled=none) (d:V4 P w K mg base A outer s H) (G:vs.length=ps.length) (r:Vals vs us)
  (x:InCallC s s.heap.objs.size (bindL (envOfC qual scope s.heap.objs.size f cd).kindOf (ps.zip us) λ_=>none) (cellsFrom (s.heap.objs.size+1) scope.names []) (bindC (envOfC qual scope s.heap.objs.size f cd).kindOf (ps.zip us) λ_=>none) o) :
  Inv (O9 CX P w K mg base N qual scope f cd A outer s H E) [] (start N vs) H o:=by
 have D:ps.length<=N.length:=by have:= congrArg List.length S.pre;rw[AtB]at this;lia
 obtain⟨h1,tk,rfl,hk⟩:=x.done;have j:∀b:NX,b∉(O9 CX P w K mg base N qual scope f cd A outer s H E).ex:=λb z=>z9 (show b∈([]:NO) from z) At;refine⟨⟨d.mod,S.kind,Z,Z,AsY _,λy z c h1 h2=>?_,λy m=>?_,λy c _ h=>?_,λ_=>B,Around.frames_deeper d.frames,.inr ⟨Z,Z⟩,λb z=>z9 z (j b),d.bs,d.bsz,λb _ _=>j b,λb z=>z9 z (j b),d.Jv,d.frf⟩,
  rfl,d.bare,Un.kept hk,⟨_,x.toInCall.ns,λi y v h1 h2 F=>?_⟩,λy c h=>⟨_,x.cell y c h⟩,d.hok.fresh (AsY _),λy c h=>?_,λp l=>z9 (show p∈([]:NF) from l) At,d.hok.kept hk,?_⟩
 ·exact name_of_addr x.apart (zP h1) (zP h2)
 ·rcases m with m|m
  ·exact AaV m
  ·exact z9 Z (S.AnC _ (zP m))
 ·exact Ats (x.above y c (zP h))
 ·have hi:i<vs.length:=by
   unfold start at h2;by_cases hi:i<vs.length
   ·exact hi
   ·rw[Atu (by simpa using hi)]at h2;rw[List.getElem?_replicate]at h2;split at h2<;>cases h2
  have C:vs[i]?=some v:=by
   unfold start at h2;rw[Atv (by simpa using hi)]at h2;cases e:vs[i]? with
   |none=>simp_all
   |some a=>simp_all
  obtain⟨u,t,rv⟩:=r.get C;have l:ps[i]?=some y:=by
   rw[<-S.pre,Auu As];exact h1
  have n:ps.Nodup:=by rw[<-S.pre];exact S.nd.sublist (List.take_sublist _ _)
  refine⟨u,rv,?_⟩;rcases S.par y (Ato l) with k|k
  ·exact .inl ⟨k,Yp n l t k⟩
  ·obtain⟨c,e⟩:=AaV k;refine .inr ⟨.inl k,c,e,?_⟩;have q:=x.cell y c e;rw[Yq n l t (by show scope.names.lookup y≠_;rw[k];decide)]at q;exact q
 ·exact d.hok.fresh (Ats (x.above y c (zP h)))
 ·unfold start;show _=N.length;grind
theorem AhL{K:NA}{base:Heap}{k:Nat}{f:NX}{params:Arguments}{F kV j C a ct oc:Nd}{an R:Option NX}
  {m:Array (NW)} (lk:K.lookup f=some ⟨oc,R,.func (W.fnOf name qual params body scope F kV j C an a ct),m⟩) (z:W.codeIn K a qual=true) (S:Bf N ps scope)
  (len:∀vs H Q E,sp vs H Q E->vs.length=ps.length)
  (c:∀(A:Around)(outer:List Env)(s:Na)(H:Hp)(vs:Nn)(Q:VK)(E:XK),BX k (A.deeper (envOfC qual scope s.heap.objs.size f a))->sp vs H Q E ->
   ∃t,PSs (O9 CX P w K mg base N qual scope f a A outer s H E) body t/\t {nx:=λ_ H'=>Q .non H',rt:=Q} (start N vs) H) :
  BR P w K mg base CX (k+1) f (W.fnOf name qual params body scope F kV j C an a ct) ps sp:=by
 refine⟨len,λA outer s H L us vs Q E p l T r i=>?_⟩;have O:=len _ _ _ _ i;have G:=l.mod.kin.keeps λb o e=>(l.bs b o e).1;have B:=l.mod.nolimit.keeps λb o e=>(l.bs b o e).1;have d:∀y∈ps.zip us,scope.names.lookup y.1=some .local\/(scope.names.lookup y.1=some .cell/\((cellsFrom (s.heap.objs.size+1) scope.names []).lookup y.1).isSome=true):=λ⟨n,v⟩ X=>by
  rcases S.par n (Aul X).1 with q|q
  ·exact .inl q
  ·exact .inr ⟨q,W.cellsFrom_some _ _ _ (.inl q)⟩
 refine codeAny_call_function p.depth (G _ _ lk) Z S.co S.gen Z (W.codeRec_of G z) (T _ _ _ _ ?_);refine wpAny_newFunctionEnv_cells S.kind d λenv he D x=>?_;subst he;refine⟨B.keeps x.toInCall.keep,codeAny_func ?_⟩;obtain⟨t,Y,U⟩:=c A outer s H vs Q E (p.deeper _) i;have I:Inv (O9 CX P w K mg base N qual scope f a A outer s H E) [] (start N vs) H D:=Yr S p.hd l O r x;refine zO (Y [] D (start N vs) H _ I U) (λfl s' hs=>?_) λe s' hs=>hs;have h:∀{σ':St} {H':Hp} {v:V} {u:Nd},Inv (O9 CX P w K mg base N qual scope f a A outer s H E) [] σ' H' s'->RelV v u->Q v H'->CE outer P w H s Q u s':=
  λ{σ' H' v u} J rv q=>⟨v,H',J.os,J.bare,J.base,J.hok,rv,q⟩;cases fl with
 |ret u =>
  obtain⟨v,σ',H',J,rv,q⟩:=hs;exact h J rv q
 |next =>
  obtain⟨σ',H',J,q⟩:=hs;exact h (v:=V.non) J Z q
 |brk =>
  obtain⟨_,_,_,q⟩:=hs;exact yI q
 |cont =>
  obtain⟨_,_,_,q⟩:=hs;exact yI q
section
variable {t:TA}{id T:String}{r:Nn->Hp->VK->Prop}
abbrev Aqq (r:Nn->Hp->VK->Prop)(Q:VK)(vs:Nn)(H1:Hp):Prop:=r vs H1 Q
def tCB (r:Nn->Hp->VK->Prop)(t:TA)(σ:St)(H:Hp)(Q:VK):Prop:=t σ H (Aqq r Q)
theorem Jy(hc:Bx X (.builtin id) r)(o:Gl X x)(d:X.mg x=none)(c:bootBuiltins x=some (.builtin id))(i:PA X (e::es) t)(hn:x≠"__name__":= by decide) (a:(x == ("__debug__":Str))=false:=by decide)
  (n:starEach (e::es) X.env=(false,eval e X.env)::starEach es X.env:=by rfl) (b:(backTo pos (starEach es X.env)).any (·.1)=false:=by rfl):PE X (.Call (.Name x p) (e::es) [] pos) (tCB r t):=by
 intro pins s σ H Q I h;refine yH (Ck I o d c ?_ hn a);exact PyProof.Rows.callWith_builtin1 (thn (i pos pins s σ H _ I h) λus f ⟨vs,H1,l,j,m⟩=>hc pins f σ H1 vs us Q l j m) n b
theorem Agd(hc:Bx X (.type T) r)(o:Gl X x)(d:X.mg x=none)(c:bootBuiltins x=some (.type T))(i:PA X (e::es) t)(hn:x≠"__name__":= by decide) (a:(x == ("__debug__":Str))=false:=by decide)
  (n:starEach (e::es) X.env=(false,eval e X.env)::starEach es X.env:=by rfl) (b:(backTo pos (starEach es X.env)).any (·.1)=false:=by rfl):PE X (.Call (.Name x p) (e::es) [] pos) (tCB r t):=by
 intro pins s σ H Q I h;refine yH (Ck I o d c ?_ hn a);exact yC (thn (i pos pins s σ H _ I h) λus f ⟨vs,H1,l,j,m⟩=>hc pins f σ H1 vs us Q l j m) n b
end
end L2
namespace HT
open PySem PyProof.Rows
section
variable {prog:Program}{w:World}{A:Around}{E:NS}{s:Na}
theorem Akw{t b:NX}{vs ws:NR}{Q:NS}(r:IsTup s.heap t vs.toArray)(p:IsTup s.heap b ws.toArray)(j:vs≠[])
  (h1:ws=[]->Q (.ref t) s) (h2:ws≠[]->Q (.ref s.heap.objs.size) {s with heap:=s.heap.push {cls:=.type "tuple",data:=.seq (vs++ws).toArray} })
  (hsz:vs.length+ws.length<=sizeLine):wpAny (model prog w) A (binaryOp .Add (.ref t) (.ref b)) Q E s:=by
 obtain⟨⟨cls,dd,data,m⟩,i,hc,n,l⟩:=id r;obtain⟨⟨o,c,data2,d⟩,a,f,n2,h⟩:=id p;simp only at hc l f h;subst hc l f h;have e:vs.toArray++ws.toArray=(vs++ws).toArray:=At
 by_cases hw:ws=[]
 ·exact concat_meets ⟨_,i,Z⟩ ⟨_,a,Z⟩ noFill_tuple_add seq_tuple_add F.slot_tuple_add F.entry_tuple_add (F.args_tuple_add_2 _ _)
   (tuple_addW1 t b vs.toArray ws.toArray n n2 dd c m d (by simpa using j) (by simp[hw])) ⟨i,a,h1 hw⟩
 ·refine concat_meets ⟨_,i,Z⟩ ⟨_,a,Z⟩ noFill_tuple_add seq_tuple_add F.slot_tuple_add F.entry_tuple_add (F.args_tuple_add_2 _ _)
   (tuple_addW2 t b vs.toArray ws.toArray n n2 dd c m d (by simpa using j) (by simpa using hw) Au) ⟨i,a,?_⟩;rw[e];exact h2 hw
def sIx (n d:Nat):Option Int->Nat
 |none=>d
 |some v=>if v<0 then (v+(n:Int)).toNat else min v.toNat n
theorem AaW(n d:Nat):sIx n d none=d:=rfl
theorem Ae0(n d k:Nat):sIx n d (some (k:Int))=min k n:=by show(if (k:Int)<0 then ((k:Int)+(n:Int)).toNat else min (k:Int).toNat n)=min k n;rw[z7 As,AtJ]
theorem AnD(n d:Nat)(a:d<=n)(o:Option Int):sIx n d o<=n:=by
 cases o with
 |none=>exact a
 |some v =>
  show(if v<0 then (v+(n:Int)).toNat else min v.toNat n)<=n;grind
end
end HT
namespace L2
open PySem PySem.Spec PyProof.Rows
variable {X:Cx}{e a b o:Expr}{pos:Pos}{xs ys:Nn}{us its its':NR}{n j t':Nat}{i:Int}{α:Type}{pins:NF}{σ:St}{H:Hp}{s:Na}{p:NX}{y x:V}{u v:Nd}{T:String}
abbrev TO:=St->Hp->(Option Int->Hp->Prop)->Prop
def PO (X:Cx)(e:Option Expr)(t:TO):Prop:=
 ∀(pins:NF)(s:Na)(σ:St)(H:Hp)(Q:Option Int->Hp->Prop),Inv X pins σ H s->t σ H Q ->
  wpAny (model X.prog X.w) X.A (evalPart e X.env) (λu s'=>∃o H',Inv X pins σ H' s'/\IsPart u o/\Q o H') X.xe s
def Akx:TO:=λ_ H Q=>Q none H
def Aqr (t:TE):TO:=λσ H Q=>t σ H λx H1=>∃i,x=.int i/\Q (some i) H1
theorem intsAre_of{ns:NV}:∀{us:NR},Vals (ns.map V.int) us->IntsAre us ns:=by
 induction ns with
 |nil=>intro us r;cases r;exact .nil
 |cons n ns b =>
  intro us r;cases r with
  |cons a c =>
   obtain⟨t,e⟩:=a;subst e;exact .cons n t (b c)
section
variable {te:TE}{lo hi:Option Expr}{tl th:TO}{p2:Pos}
theorem Z8:PO X none Akx:=by intro pins s σ H Q I h;rw[evalPart_none];exact zE ⟨none,H,I,.none,h⟩
theorem Ve(h:PE X e te):PO X (some e) (Aqr te):=by intro pins s σ H Q I hw;refine thn (h pins s σ H _ I hw) λu d ⟨x,H1,b,a,c⟩=>?_;obtain⟨i,rfl,q⟩:=c;obtain⟨t,rfl⟩:=a;exact⟨some i,H1,b,.int i t,q⟩
def SlR (X:Cx)(r:V->Option Int->Option Int->Hp->VK->Prop):Prop:=
 ∀(pins:NF)(s:Na)(σ:St)(H:Hp)(x:V)(v vl vu:Nd)(lo hi:Option Int)(sl:NX)(Q:VK),Inv X pins σ H s->RelV x v->s.heap.IsSliceOf sl vl vu .none->IsPart vl lo->IsPart vu hi->r x lo hi H Q ->
  ∃T id,typeLookup (.type T) "__getitem__"=pure (some (.builtin id))/\s.TypeIs v T/\wpAny (model X.prog X.w) X.A (getItem v (.ref sl)) (EP X pins σ Q) X.xe s
abbrev Aqs (r:V->Option Int->Option Int->Hp->VK->Prop)(Q:VK)(x:V)(l:Option Int)(u:Option Int)(H3:Hp):Prop:=r x l u H3 Q
abbrev Aqt (r:V->Option Int->Option Int->Hp->VK->Prop)(th:TO)(σ:St)(Q:VK)(x:V)(l:Option Int)(H2:Hp):Prop:=th σ H2 (Aqs r Q x l)
abbrev Aqu (r:V->Option Int->Option Int->Hp->VK->Prop)(tl:TO)(th:TO)(σ:St)(Q:VK)(x:V)(H1:Hp):Prop:=tl σ H1 (Aqt r th σ Q x)
def tSl (r:V->Option Int->Option Int->Hp->VK->Prop)(te:TE)(tl:TO)(th:TO)(σ:St)(H:Hp)(Q:VK):Prop:=te σ H (Aqu r tl th σ Q)
theorem V5{r:V->Option Int->Option Int->Hp->VK->Prop}(o:SlR X r)(E:PE X e te)(D:PO X lo tl)(d:PO X hi th):PE X (.Subscript e (.Slice lo hi none p2) pos) (tSl r te tl th):=by intro pins s σ H Q I h;refine Subscript_ (thn (E pins s σ H _ I h) λv j ⟨x,H1,t,B,w⟩=>?_);refine wpAny_Slice (thn (D pins j σ H1 _ t w) λa A ⟨l,H2,z,pl,y⟩=>thn (d pins A σ H2 _ z y) λvu s3 ⟨u,c,f,p,i⟩=>?_);refine zE ?_;have n:Inv X pins σ c {s3 with heap:=s3.heap.push {cls:=.type "slice",data:=.fields #[a,vu,.none]} }:=f.kept λb G q=>zB _ q;obtain⟨T,id,m,C,F⟩:=o pins {s3 with heap:=s3.heap.push {cls:=.type "slice",data:=.fields #[a,vu,.none]} } σ c x v a vu l u s3.heap.objs.size Q n B (Heap.IsSliceOf.new ..) pl p i;exact tail_any C m F (by with_unfolding_all rfl)
def NT (xs:Nn)(lo hi:Option Int):Nn:=(xs.drop (HT.sIx xs.length 0 lo)).take (HT.sIx xs.length xs.length hi-HT.sIx xs.length 0 lo)
theorem AaX(xs:Nn)(lo hi:Option Int):(NT xs lo hi).length<=xs.length:=by unfold NT;rw[AtB,List.length_drop];lia
inductive Aqv (K:NA)(x:V)(y:V)(H:Hp)(Q:VK):Prop
|mk(a:_)(b:_)(xs:_)(ys:_)(_:x=.ref a)(_:y=.ref b)(_:SqT K H a xs)(_:SqT K H b ys)(_:xs≠[])(_:xs.length+ys.length<=sizeLine)(_:(ys=[]->Q (.ref a) H))(_:(ys≠[]->∀p,H p=none->Q (.ref p) (upd H p (.tup (xs++ys)))))
theorem Vals.Z9(r:Vals xs us):us=[]↔xs=[]:=by
 cases r with
 |nil=>simp
 |cons _ _=>simp
theorem Aky:OpR X (binaryOp .Add) (Aqv X.K):=by intro pins s σ H x y v u Q I i p h;obtain⟨a,b,xs,ys,rfl,rfl,j,l,n,f,m,o⟩:=h;cases i;cases p;obtain⟨its,d,p1,_⟩:=I.tuple j;obtain⟨e,c,p2,_⟩:=I.tuple l;refine HT.Akw p1 p2 (λz=>n (d.Z9.mp z)) (λz=>⟨.ref a,H,I,Z,m (c.Z9.mp z)⟩) (λz=>?_) (by rw[<-d.length,<-c.length];exact f);refine⟨.ref s.heap.objs.size,_,I.laid (λb r q=>zB _ q) (AsY _) ?_,Z,o (λw=>z (c.Z9.mpr w)) _ (I.hok.fresh (AsY _))⟩;exact⟨by rw[Atm];exact f,_,d.append c,IsTup.new _ _⟩
end
def ixN (n:Nat)(i:Int):Option Nat:=if 0<=i then (if i<n then some i.toNat else none) else if -(n:Int)<=i then some (i+n).toNat else none
def atI {α:Type}(xs:List α)(i:Int):Option α:=(ixN xs.length i).bind λj=>xs[j]?
theorem Ae1(h:ixN n i=some j):seqIndex? i n=some j/\j<n /\ -(n:Int)<=i/\i<n:=by
 unfold ixN at h;by_cases a:0<=i
 ·rw[z8 a]at h;by_cases h1:i<n
  ·rw[z8 h1]at h;have e:=yB h;exact⟨by rw[seqIndex_of a h1,e],As,As,h1⟩
  ·simp_all
 ·rw[z7 a]at h;by_cases h1 : -(n:Int)<=i
  ·rw[z8 h1]at h;have e:=yB h;exact⟨by rw[seqIndex_neg As h1,e],As,h1,As⟩
  ·simp_all
theorem OD{xs:List α}{v:α}(h:atI xs i=some v):∃j,seqIndex? i xs.length=some j/\xs[j]?=some v/\j<xs.length /\ -(xs.length:Int)<=i/\i<xs.length:=by
 unfold atI at h;cases e:ixN xs.length i with
 |none=>simp_all
 |some j =>
  rw[e]at h;obtain⟨h1,h2,a,b⟩:=Ae1 e;exact⟨j,h1,h,h2,a,b⟩
theorem Akz{xs:List α}{v:α}(h:xs[j]?=some v):atI xs (j:Int)=some v:=by
 have a:=(zC.mp h).1;have e:ixN xs.length (j:Int)=some j:=by
  unfold ixN;rw[z8 As,z8 As];simp
 unfold atI;rw[e];exact h
def Ae2 (b:Expr):Prop:=∀o i,subscripted b false o i=operate [o,i] (getItem o i)
def IxR (X:Cx)(r:R2):Prop:=
 ∀(value slice:Expr)(pins:NF)(s:Na)(σ:St)(H:Hp)(x y:V)(v u:Nd)(Q:VK),Inv X pins σ H s->RelV x v->RelV y u->r x y H Q ->
  subscripted slice false v u=operate [v,u] (getItem v u)->wpAny (model X.prog X.w) X.A (subscriptTail value slice v u) (EP X pins σ Q) X.xe s
def MtR (X:Cx)(id:String)(r:V->Nn->Hp->VK->Prop):Prop:=
 ∀(pins:NF)(s:Na)(σ:St)(H:Hp)(x:V)(xs:Nn)(v:Nd)(us:NR)(Q:VK),Inv X pins σ H s->RelV x v->Vals xs us->r x xs H Q ->
  wpAny (model X.prog X.w) X.A (call (.builtin id) (v::us)) (EP X pins σ Q) X.xe s
section
variable {ta tb:TE}
theorem Su{r:R2}(f:IxR X r)(e:PE X a ta)(i:PE X b tb)(hs:Ae2 b):PE X (.Subscript a b pos) (tOp r ta tb):=by intro pins s σ H Q I h;exact Subscript_ (Anz e i I h λv u c x y H2 l d j q=>f a b pins c σ H2 x y v u Q l d j q (hs _ _))
inductive Aqw (K:NA)(x:V)(y:V)(H:Hp)(Q:VK):Prop
|mk(p:_)(xs:_)(i:_)(v:_)(_:x=.ref p)(_:y=.int i)(_:SqL K H p xs)(_:atI xs i=some v)(_:Q v H)
inductive Asd (K:NA)(x:V)(y:V)(H:Hp)(Q:VK):Prop
|mk(p:_)(xs:_)(i:_)(v:_)(_:x=.ref p)(_:y=.int i)(_:SqT K H p xs)(_:atI xs i=some v)(_:Q v H)
inductive Ase (x:V)(y:V)(H:Hp)(Q:VK):Prop
|mk(z:_)(i:_)(c:_)(_:x=.str z)(_:y=.int i)(_:z.length<=sizeLine)(_:atI z.cps.toList i=some c)(_:Q (.str ⟨#[c]⟩) H)
theorem Ae3:IxR X (Aqw X.K):=by
 intro value b pins s σ H x y v u Q I A o h hs;obtain⟨p,xs,i,z,rfl,rfl,n,C,q⟩:=h;cases A;obtain⟨t,rfl⟩:=o;obtain⟨its,r,pl,D⟩:=I.list n;obtain⟨j,h1,h2,E,l,m⟩:=OD C;obtain⟨w,f,d⟩:=r.get h2;have B:=r.length;have hn:=Rx;have a:EP X pins σ Q w s:=⟨z,H,I,d,q⟩;by_cases e:0<=i
 ·have c:i.toNat=j:=by
   rw[seqIndex_of e m]at h1;exact yB h1
  exact item_listR pl.isList e As (by rw[c];simpa using f) a hs
 ·have c:(i+(its.toArray.size:Int)).toNat=j:=by
   rw[seqIndex_neg As l]at h1;rw[Atd,<-B];exact yB h1
  exact subscriptTail_builtinR pl.isList.typeIs slot_list_getitem.lookup
   (wpAny_getItem_list_neg pl.isList As Au As (by rw[c];simpa using f) ⟨Z,a⟩) hs
theorem AnE:IxR X (Asd X.K):=by
 intro value b pins s σ H x y v u Q I f e h hs;obtain⟨p,xs,i,z,rfl,rfl,d,n,q⟩:=h;cases f;obtain⟨t,rfl⟩:=e;obtain⟨its,r,pl,B⟩:=I.tuple d;obtain⟨j,h1,h2,C,o,A⟩:=OD n;obtain⟨w,l,c⟩:=r.get h2;have m:=r.length;have hn:=Rx;have a:EP X pins σ Q w s:=⟨z,H,I,c,q⟩;exact subscriptTail_builtinR pl.typeIs slot_tuple_getitem.lookup
  (getItem_tuple pl As As (by rw[Atd,<-m];exact h1) (by simpa using l) ⟨Z,a⟩) hs
theorem AnF:IxR X Ase:=by
 intro value a pins s σ H x y v u Q I b m h hs;obtain⟨z,i,c,rfl,rfl,n,l,q⟩:=h;obtain⟨t,rfl⟩:=b;obtain⟨t',rfl⟩:=m;obtain⟨j,h1,h2,o,d,e⟩:=OD l;have f:z.cps.toList.length=z.length:=by simp[Str.length]
 rw[f]at h1 d e;have hn:=Rx;exact tail_any (typeIs_str s z t) slot_str_getitem.lookup (getItem_str (by
  grind) (by rw[h1];simpa using h2) ⟨.str ⟨#[c]⟩,H,I.tok _,⟨_,Z⟩,q⟩) hs
theorem Adj(its:NR)(n j:Nat)(u:Nd):Obj.mapSeq (·.setIfInBounds j u) {cls:=.type "list",data:=.seq its.toArray n}={cls:=.type "list",data:=.seq (its.set j u).toArray n}:=by simp[Obj.mapSeq]
theorem Inv.lst(I:Inv X pins σ H s)(h:H p=some (.lst xs)) :
  ∃(its:NR)(n:Nat),Vals xs its/\s.heap.get? p=some {cls:=.type "list",data:=.seq its.toArray n}/\xs.length<=sizeLine:=by
 obtain⟨z,its,n,r,e⟩:=I.hok p _ h;exact⟨its,n,r,e,z⟩
theorem Inv.AnG{a:Nat}{f:Obj->Obj}(I:Inv X pins σ H s)(h:H p=some (.lst xs))
  (j:s.heap.get? p=some {cls:=.type "list",data:=.seq its.toArray n}) (c:f {cls:=.type "list",data:=.seq its.toArray n}={cls:=.type "list",data:=.seq its'.toArray a}) (r:Vals ys its') (i:ys.length<=sizeLine) (t:Nat) :
  Inv X pins σ (upd H p (.lst ys)) {s with heap:=s.heap.update p f,toks:=t}:=by
 have e:(s.heap.update p f).get? p=some {cls:=.type "list",data:=.seq its'.toArray a}:=by
  rw[zN f j (by rw[c]<;>rfl),c]
 refine I.write (by rw[h];trivial) (.inl Z) (λb u d q=>(zH _ _ (yD d)).trans q) ⟨_,e⟩ ?_;exact⟨i,its',a,r,e⟩
def Amz:V->V->V->Hp->(Hp->Prop)->Prop:=λo i v H Q=>∃p xs k j,o=.ref p/\i=.int k/\H p=some (.lst xs)/\ixN xs.length k=some j/\Q (upd H p (.lst (xs.set j v)))
theorem set_list:Aqb X Amz:=by
 intro pins s σ H o i v A z u Q I m y rv h;obtain⟨p,xs,k,j,rfl,rfl,e,w,q⟩:=h;cases m;obtain⟨t,rfl⟩:=y;obtain⟨its,n,r,a,x⟩:=I.lst e;obtain⟨h1,h2,l,d⟩:=Ae1 w;have b:=r.length;have hn:=Rx;have f:=
  I.AnG e a (Adj its n j u) (r.set rv j) (by rw[List.length_set];exact x) s.toks;by_cases c:0<=k
 ·have hk:k.toNat=j:=by
   rw[seqIndex_of c d]at h1;exact yB h1
  exact W.ki_setAt a c As (by rw[Atd,<-b];exact d) (by rw[hk];exact⟨_,f,q⟩)
 ·have hk:(k+(its.toArray.size:Int)).toNat=j:=by
   rw[seqIndex_neg As l]at h1;rw[Atd,<-b];exact yB h1
  exact W.ki_setBack a As (by rw[Atd,<-b];exact l) As (by rw[hk];exact⟨_,f,q⟩)
theorem ZC(lo hi:Option Int)(n:Nat):(sliceBounds lo hi none n).1=((HT.sIx n 0 lo:Nat):Int)/\(sliceBounds lo hi none n).2.1=((HT.sIx n n hi:Nat):Int)/\(sliceBounds lo hi none n).2.2=1:=by
 refine⟨?_,?_,Z⟩
 ·cases lo with
  |none=>simp[sliceBounds,HT.sIx]
  |some i =>
   simp only [sliceBounds,HT.sIx];grind
 ·cases hi with
  |none=>simp[sliceBounds,HT.sIx]
  |some i =>
   simp only [sliceBounds,HT.sIx];grind
theorem XQ(its:NR)(lo hi:Option Int):slicePick its.toArray lo hi none=((its.drop (HT.sIx its.length 0 lo)).take (HT.sIx its.length its.length hi-HT.sIx its.length 0 lo)).toArray:=by obtain⟨h1,h2,a⟩:=ZC lo hi its.toArray.size;unfold slicePick;rw[h1,h2,a];simp only [sliceRange_one,pick_run]<;>rfl
inductive Aqx (K:NA)(x:V)(lo:Option Int)(hi:Option Int)(H:Hp)(Q:VK):Prop
|mk(a:_)(xs:_)(_:x=.ref a)(_:SqL K H a xs)(_:∀p,H p=none->Q (.ref p) (upd H p (.lst (NT xs lo hi))))
theorem Ae4:SlR X (Aqx X.K):=by intro pins s σ H x v m o lo hi n Q I e hs pl j h;obtain⟨a,xs,rfl,i,q⟩:=h;cases e;obtain⟨its,r,d,f⟩:=I.list i;have c:=r.length;refine⟨"list",_,slot_list_getitem.lookup,d.isList.typeIs,?_⟩;refine wpAny_getItem_list_slice d.isList hs pl j .none At ?_ (by grind);rw[XQ,<-c];refine⟨.ref s.heap.objs.size,_,I.laid (λb l q=>zB _ q) (AsY _) ?_,Z,q _ (I.hok.fresh (AsY _))⟩;exact⟨Atf (AaX xs lo hi) f,_,0,(r.drop (HT.sIx xs.length 0 lo)).take (HT.sIx xs.length xs.length hi-HT.sIx xs.length 0 lo),zD _ Z⟩
def Cg:V->Bool
 | .non=>true
 | .bl _=>true
 | .int _=>true
 | .str _=>true
 |_=>false
def eqV:V->V->Bool
 | .non,.non=>true
 | .bl a,.bl b=>a == b
 | .bl a,.int b=>(if a then 1 else 0) == b
 | .int a,.bl b=>a == (if b then 1 else 0)
 | .int a,.int b=>a == b
 | .str a,.str b=>a == b
 |_,_=>false
theorem AhM{A:Around}(e:RelV y u)(c:RelV x v)(f:Cg y=true)(d:Cg x=true):SeqAt.EqAt A s u v (eqV y x):=by
 cases y with
 |non =>
  cases e;cases x with
  |non=>cases c;exact SeqAt.EqAt.same _
  |bl b=>cases c;exact SeqAt.EqAt.none_bool b
  |int b=>obtain⟨t,rfl⟩:=c;exact SeqAt.EqAt.none_int b t
  |str b=>obtain⟨t,rfl⟩:=c;exact SeqAt.EqAt.none_str b t
  |_=>exact z9 (show false=true from d) Atj
 |bl a =>
  cases e;cases x with
  |non=>cases c;exact SeqAt.EqAt.bool_none a
  |bl b=>cases c;exact SeqAt.EqAt.bool_bool a b
  |int b=>obtain⟨t,rfl⟩:=c;exact SeqAt.EqAt.bool_int a b t
  |str b=>obtain⟨t,rfl⟩:=c;exact SeqAt.EqAt.bool_str a b t
  |_=>exact z9 (show false=true from d) Atj
 |int a =>
  obtain⟨t',rfl⟩:=e;cases x with
  |non=>cases c;exact SeqAt.EqAt.int_none a t'
  |bl b=>cases c;exact SeqAt.EqAt.int_bool a t' b
  |int b=>obtain⟨t,rfl⟩:=c;exact SeqAt.EqAt.int_int a t' b t
  |str b=>obtain⟨t,rfl⟩:=c;exact SeqAt.EqAt.int_str a t' b t
  |_=>exact z9 (show false=true from d) Atj
 |str a =>
  obtain⟨t',rfl⟩:=e;cases x with
  |non=>cases c;exact SeqAt.EqAt.str_none a t'
  |bl b=>cases c;exact SeqAt.EqAt.str_bool a t' b
  |int b=>obtain⟨t,rfl⟩:=c;exact SeqAt.EqAt.str_int a t' b t
  |str b=>obtain⟨t,rfl⟩:=c;exact SeqAt.EqAt.str_str a t' b t
  |_=>exact z9 (show false=true from d) Atj
 |_=>exact z9 (show false=true from f) Atj
def eqU (x:V)(u:Nd):Bool:=match u with
 | .none=>eqV .non x
 | .bool b=>eqV (.bl b) x
 | .int i _=>eqV (.int i) x
 | .str z _=>eqV (.str z) x
 |_=>false
theorem AhN(r:RelV y u)(f:Cg y=true):eqU x u=eqV y x:=by
 cases y with
 |non=>cases r;rfl
 |bl b=>cases r;rfl
 |int i=>obtain⟨t,rfl⟩:=r;rfl
 |str z=>obtain⟨t,rfl⟩:=r;rfl
 |_=>exact z9 (show false=true from f) Atj
theorem OJ{x:V}:∀{xs:Nn} {us:NR},Vals xs us->xs.all Cg=true->us.any (eqU x)=xs.any λy=>eqV y x
 |_,_,.nil,_=>rfl
 |y::xs,u::us,.cons r t,f=>by
  rw[Atz,Ata]at f;rw[AtK,AtK,AhN r f.1,OJ t f.2]
theorem Jz{A:Around}{s:Na}{x:V}{v:Nd}(b:RelV x v)(c:Cg x=true):∀{xs:Nn} {us:NR},Vals xs us->xs.all Cg=true->∀u∈us,SeqAt.EqAt A s u v (eqU x u)
 |_,_,.nil,_=>λu a=>by cases a
 |y::xs,u::us,.cons r t,f=>λu' a=>by
  rw[Atz,Ata]at f;rcases zZ.mp a with rfl|a
  ·rw[AhN r f.1];exact AhM r b f.1 c
  ·exact Jz b c t f.2 u' a
def inV (x:V)(xs:Nn):Bool:=xs.any λy=>eqV y x
inductive rIn (K:NA)(neg:Bool)(x:V)(y:V)(H:Hp)(Q:VK):Prop
|mk(p:_)(xs:_)(_:y=.ref p)(_:(SqL K H p xs\/SqT K H p xs))(_:Cg x=true)(_:xs.all Cg=true)(_:Q (.bl (if neg then !inV x xs else inV x xs)) H)
theorem Age:OpR X (compareOp .In) (rIn X.K false):=by
 intro pins s σ H x y v u Q I b e h;obtain⟨p,xs,rfl,a,c,fs,q⟩:=h;cases e;rcases a with a|a
 ·obtain⟨its,r,pl,d⟩:=I.list a;refine SeqAt.in_listAt (eqU x) pl.isList (λw hw=>Jz b c r fs w (by simpa using hw)) ⟨.bl _,H,I,Z,?_⟩;rw[show its.toArray.any (eqU x)=its.any (eqU x) by simp,OJ r fs];exact q
 ·obtain⟨its,r,pl,d⟩:=I.tuple a;refine SeqAt.in_tupleAt (eqU x) pl (λw hw=>Jz b c r fs w (by simpa using hw)) ⟨.bl _,H,I,Z,?_⟩;rw[show its.toArray.any (eqU x)=its.any (eqU x) by simp,OJ r fs];exact q
theorem ZD:OpR X (compareOp .NotIn) (rIn X.K true):=by
 intro pins s σ H x y v u Q I b e h;obtain⟨p,xs,rfl,a,c,fs,q⟩:=h;cases e;rcases a with a|a
 ·obtain⟨its,r,pl,d⟩:=I.list a;refine SeqAt.notIn_listAt (eqU x) pl.isList (λw hw=>Jz b c r fs w (by simpa using hw)) ⟨.bl _,H,I,Z,?_⟩;rw[show its.toArray.any (eqU x)=its.any (eqU x) by simp,OJ r fs];exact q
 ·obtain⟨its,r,pl,d⟩:=I.tuple a;refine SeqAt.notIn_tupleAt (eqU x) pl (λw hw=>Jz b c r fs w (by simpa using hw)) ⟨.bl _,H,I,Z,?_⟩;rw[show its.toArray.any (eqU x)=its.any (eqU x) by simp,OJ r fs];exact q
inductive J0 (K:NA)(xs:Nn)(H:Hp)(Q:VK):Prop
|mk(p:_)(ys:_)(_:xs=[.ref p])(_:(SqL K H p ys\/SqT K H p ys))(_:Q (.int ys.length) H)
theorem ZF:Bx X (.builtin "len") (J0 X.K):=by
 intro pins s σ H xs us Q I r h;obtain⟨p,ys,rfl,b,q⟩:=h;obtain⟨u,rfl,d⟩:=vals1 r;cases d;have hn:=Rx;rcases b with b|b
 ·obtain⟨its,c,pl,e⟩:=I.list b;have a:=c.length;exact Calls.call_len_list pl.isList (by simp only [Atd]<;>lia) ⟨.int ys.length,H,I.tok _,⟨s.toks+1,by rw[Atd,a]⟩,q⟩
 ·obtain⟨its,c,pl,e⟩:=I.tuple b;have a:=c.length;exact len_tuple pl (by simp only [Atd]<;>lia) ⟨.int ys.length,H,I.tok _,⟨s.toks+1,by rw[Atd,a]⟩,q⟩
inductive V6 (xs:Nn)(H:Hp)(Q:VK):Prop
|mk(z:_)(_:xs=[.str z])(_:z.length<=sizeLine)(_:Q (.int z.length) H)
theorem ZG:Bx X (.builtin "len") V6:=by intro pins s σ H xs us Q I r h;obtain⟨z,rfl,a,q⟩:=h;obtain⟨u,rfl,t,rfl⟩:=vals1 r;have hn:=Rx;exact len_str As ⟨.int z.length,H,I.tok _,⟨_,Z⟩,q⟩
inductive J1 (K:NA)(xs:Nn)(H:Hp)(Q:VK):Prop
|mk(p:_)(ys:_)(_:xs=[.ref p])(_:(SqL K H p ys\/SqT K H p ys))(_:∀l,H l=none->Q (.ref l) (upd H l (.lst ys)))
theorem ZJ:Bx X (.type "list") (J1 X.K):=by
 intro pins s σ H xs us Q I r h;obtain⟨p,ys,rfl,i,q⟩:=h;obtain⟨u,rfl,t⟩:=vals1 r;cases t;have c:∀(its:NR),Vals ys its->ys.length<=sizeLine->∀(h':Heap)(c':Nat),(∀b o',s.heap.get? b=some o'->h'.get? b=some o') ->
   h'.get? s.heap.objs.size=some {cls:=.type "list",dict:=none,data:=.seq its.toArray c',slots:=#[]}->EP X pins σ Q (.ref s.heap.objs.size) {s with heap:=h'}:=λits a f h' c' j e =>
  ⟨.ref s.heap.objs.size,_,I.laid j (AsY _) (show BV X.prog X.w _ h' _ (.lst ys) from⟨f,its,c',a,e⟩),Z,q _ (I.hok.fresh (AsY _))⟩;rcases i with i|i
 ·obtain⟨its,a,pl,f⟩:=I.list i;have d:=a.length;obtain⟨o,m,hc,n,l⟩:=pl.isList;exact call_list_seq p (.inl Z) m hc l (λh' c' j e=>c its a f h' c' j e) (by simp only [Atd]<;>lia)
 ·obtain⟨its,a,pl,f⟩:=I.tuple i;have d:=a.length;obtain⟨o,m,hc,n,l⟩:=pl;exact call_list_seq p (.inr Z) m hc l (λh' c' j e=>c its a f h' c' j e) (by simp only [Atd]<;>lia)
def tyV (K:NA)(T:String)(x:V)(H:Hp):Prop:=match x with
 | .str _=>T="str"
 | .int _=>T="int"
 | .ref p=>(T="list" /\ ∃xs,SqL K H p xs)\/(T="tuple" /\ ∃o,K.lookup p=some o/\o.cls=.type "tuple" /\ o.dict=none) \/
   (T="dict" /\ ((∃kvs,H p=some (.dK kvs))\/∃kvs,H p=some (.dT kvs)))\/(T="set" /\ ∃S n,H p=some (.set S n))
 |_=>False
theorem AhO(I:Inv X pins σ H s)(r:RelV x v)(ty:tyV X.K T x H) :
  s.TypeIs v T/\∀a,v=.ref a->∃f,s.heap.get? a=some f/\f.dict=none:=by
 cases x with
 |str z =>
  obtain⟨t,rfl⟩:=r;cases (show T="str" from ty);exact⟨typeIs_str s z t,λ_ e=>nomatch e⟩
 |int i =>
  obtain⟨t,rfl⟩:=r;cases (show T="int" from ty);exact⟨typeIs_int s i t,λ_ e=>nomatch e⟩
 |ref p =>
  cases r;rcases ty with ⟨rfl,xs,h⟩|⟨rfl,o,hk,hc,b⟩|⟨rfl,hk⟩|⟨rfl,S,n,hk⟩
  ·obtain⟨its,_,pl,_⟩:=I.list h;refine⟨pl.isList.typeIs,λa e=>?_⟩;cases e;obtain⟨o,n,e,c,b,_⟩:=pl;exact⟨o,e,b⟩
  ·refine⟨⟨o,I.kIn p o hk,hc⟩,λa e=>?_⟩;cases e;exact⟨o,I.kIn _ o hk,b⟩
  ·have z:∃o,s.heap.get? p=some o/\o.ExactDict:=by
    rcases hk with ⟨kvs,hk⟩|⟨kvs,hk⟩
    ·obtain⟨_,_,_,_,o,_,_,e,ex,_⟩:=I.hok p _ hk;exact⟨o,e,ex⟩
    ·obtain⟨_,_,_,_,o,_,_,e,ex,_⟩:=I.hok p _ hk;exact⟨o,e,ex⟩
   obtain⟨o,e,ex⟩:=z;refine⟨⟨o,e,ex.1⟩,λa d=>?_⟩;cases d;exact⟨o,e,ex.2.1⟩
  ·obtain⟨o,_,_,_,e,ex,_⟩:=I.hok p _ hk;refine⟨⟨o,e,ex.1⟩,λa d=>?_⟩;cases d;exact⟨o,e,ex.2.1⟩
 |_=>exact yI ty
inductive AnH (K:NA)(T:String)(r:V->Nn->Hp->VK->Prop)(Q:VK)(x:V)(H1:Hp):Prop
|mk(_:tyV K T x H1)(_:r x [] H1 Q)
def Aqy (K:NA)(T:String)(r:V->Nn->Hp->VK->Prop)(to:TE)(σ:St)(H:Hp)(Q:VK):Prop:=to σ H (AnH K T r Q)
abbrev Aqz (r:V->Nn->Hp->VK->Prop)(Q:VK)(x:V)(xs:Nn)(H2:Hp):Prop:=r x xs H2 Q
inductive Aq0 (K:NA)(T:String)(r:V->Nn->Hp->VK->Prop)(t:TA)(σ:St)(Q:VK)(x:V)(H1:Hp):Prop
|mk(_:tyV K T x H1)(_:t σ H1 (Aqz r Q x))
def tBM (K:NA)(T:String)(r:V->Nn->Hp->VK->Prop)(to:TE)(t:TA)(σ:St)(H:Hp)(Q:VK):Prop:=to σ H (Aq0 K T r t σ Q)
variable {es:List Expr}{to:TE}{t:TA}{name:Str}{apos cpos:Pos}{id:String}{r:V->Nn->Hp->VK->Prop}
theorem AnI(j:PlainAttrs T)(slot:Slot T name id)(c:typeOf (.builtin id)=pure (.type "method_descriptor")) (f:MtR X id r) (m:PE X o to)
  (b:attributeBase o name X.env (eval o X.env)=eval o X.env:=by rfl) (a:(apos.endLine == cpos.line)=true:=by rfl):PE X (.Call (.Attribute o name apos) [] [] cpos) (Aqy X.K T r to):=by
 intro pins s σ H Q I h;refine wpAny_Call_method0_late b a (thn (m pins s σ H _ I h) λv i ⟨x,H1,e,d,ty,l⟩=>?_);obtain⟨h1,h2⟩:=AhO e d ty;exact⟨T,id,j,slot,c,h1,h2,Calls.callWith_builtin Z (PySem.evalArgs_none (f pins i σ H1 x [] v [] Q e d .nil l))⟩
theorem Aq1(u:PlainAttrs T)(slot:Slot T name id)(f:typeOf (.builtin id)=pure (.type "method_descriptor")) (n:MtR X id r) (C:PE X o to) (w:PA X (e::es) t)
  (c:attributeBase o name X.env (eval o X.env)=eval o X.env:=by rfl)
  (d:((backTo cpos (starEach (e::es) X.env)).all (λx=>!x.1) && (backToKw cpos (keywordEach [] X.env)).all (λx=>x.1.isSome)
   && decide ((e::es).length+([]:List Keyword).length+(if ([]:List Keyword).isEmpty then 0 else 1)<30))=true:=by rfl)
  (b:(apos.endLine == cpos.line)=true:=by rfl) (hs:starEach (e::es) X.env=(false,eval e X.env)::starEach es X.env:=by rfl) (a:(backTo cpos (starEach es X.env)).any (·.1)=false:=by rfl) :
  PE X (.Call (.Attribute o name apos) (e::es) [] cpos) (tBM X.K T r to t):=by
 intro pins s σ H Q I h;refine wpAny_Call_method_late c d b Z (thn (C pins s σ H _ I h) λv p ⟨x,H1,l,i,ty,A⟩=>?_);obtain⟨h1,h2⟩:=AhO l i ty;refine⟨T,id,u,slot,f,h1,h2,?_⟩;have j:=w cpos pins p σ H1 _ l A;rw[hs]at j ⊢;refine Calls.callWith_builtin (by show(false || (backTo cpos (starEach es X.env)).any (·.1))=false;rw[a]<;>rfl) (Calls.evalArgs_plain ?_);exact thn j λus m ⟨vs,H2,z,y,B⟩=>n pins m σ H2 x vs v us Q z i y B
end
def MtM (X:Cx)(id:String)(r:V->Nn->Hp->VK->Prop):Prop:=
 ∀(pins:NF)(s:Na)(σ:St)(H:Hp)(x:V)(xs:Nn)(v:Nd)(us:NR)(Q:VK),Inv X pins σ H s->RelV x v->Vals xs us->r x xs H Q ->
  wpAny (model X.prog X.w) X.A (call (.builtin id) (v::us)) (EP X pins σ Q) X.xe s
theorem Vals.one:∀{x:V} {us:NR},Vals [x] us->∃u,us=[u]/\RelV x u:=by intro _ _ h;cases h with|cons r t=>cases t;exact⟨_,Z,r⟩
theorem Vals.two:∀{x y:V} {us:NR},Vals [x,y] us->∃u v,us=[u,v]/\RelV x u/\RelV y v:=by intro _ _ _ h;cases h with|cons r t=>obtain⟨v,rfl,q⟩:=Vals.one t;exact⟨_,_,Z,r,q⟩
theorem Vals.rep{xs:Nn}{us:NR}(h:Vals xs us):∀k:Nat,Vals (List.replicate k xs).flatten (List.replicate k us).flatten
 | 0=>.nil
 |k+1=>by
  exact Vals.append h (Vals.rep h k)
theorem foldl_rep(its:NR):∀(k:Nat)(acc:NR),
  List.foldl (λc a=>c++a) acc.toArray (List.replicate k its.toArray)=(acc++(List.replicate k its).flatten).toArray
 | 0,acc=>At
 |k+1,acc=>by
  have e:acc.toArray++its.toArray=(acc++its).toArray:=At
  have b:(acc++its)++(List.replicate k its).flatten=acc++(List.replicate (k+1) its).flatten:=by
   rw[AtL,Auc,AtM]
  rw[<-b,<-foldl_rep its k (acc++its),<-e,AtL,AtR]
section
variable {l b:NX}{zs:Nn}
theorem Inv.Ak0{f:Array Nd->Array Nd}(I:Inv X pins σ H s)(h:H l=some (.lst xs))
  (e:s.heap.get? l=some {cls:=.type "list",data:=.seq its.toArray n}) (i:f its.toArray=its'.toArray) (b:Vals ys its') (d:ys.length<=sizeLine) :
  Inv X pins σ (upd H l (.lst ys)) {s with heap:=s.heap.update l (Obj.mapSeq f),toks:=t'}:=by
 have q:=PySem.IsL.update e f;rw[i]at q;refine I.write (by rw[h];exact trivial) (.inl Z) (λj u c a=>(zH s.heap (Obj.mapSeq f) (yD c)).trans a) ⟨_,q⟩ ?_;exact⟨d,its',_,b,q⟩
theorem Inv.AnJ(I:Inv X pins σ H s)(a:Vals ys its)(b:ys.length<=sizeLine) :
  Inv X pins σ (upd H s.heap.objs.size (.lst ys)) {s with heap:=s.heap.push {cls:=.type "list",data:=.seq its.toArray},toks:=t'}:=
 I.laid (λ_ _ q=>zB _ q) (AsY _) ⟨b,its,0,a,zD _ Z⟩
theorem Inv.fresh(I:Inv X pins σ H s):H s.heap.objs.size=none:=I.hok.fresh (AsY _)
theorem Inv.XR(I:Inv X pins σ H s)(a:H l=some (.lst xs)):xs.length<=sizeLine/\∃(its:NR)(n:Nat),Vals xs its/\xs.length=its.length/\s.heap.get? l=some {cls:=.type "list",data:=.seq its.toArray n}:=by obtain⟨z,its,n,r,e⟩:=I.hok l _ a;exact⟨z,its,n,r,r.length,e⟩
theorem AaY(h:n<=sizeLine):Builtin.List.listTooLong n=false:=by exact decide_eq_false As
end
inductive Ak1 (x:V)(vs:Nn)(H:Hp)(Q:VK):Prop
|mk(l:_)(xs:_)(y:_)(_:x=.ref l)(_:vs=[y])(_:H l=some (.lst xs))(_:xs.length<sizeLine)(_:Q .non (upd H l (.lst (xs++[y]))))
theorem R0:MtM X "list.append" Ak1:=by intro pins s σ H x vs v us Q I b rv h;obtain⟨l,xs,y,rfl,rfl,a,d,q⟩:=h;cases b;obtain⟨u,rfl,c⟩:=rv.one;obtain⟨z,its,n,r,f,e⟩:=I.XR a;refine yM F.slot_list_append ⟨_,e,Z⟩ F.entry_list_append (F.args_list_append_2 _ _) (PySem.list_append l its.toArray n u (by grind)) ⟨e,?_⟩;refine⟨.non,_,I.Ak0 a e At (r.append (.cons c .nil)) ?_,Z,q⟩;grind
inductive Ak2 (x:V)(vs:Nn)(H:Hp)(Q:VK):Prop
|mk(l:_)(b:_)(xs:_)(zs:_)(_:x=.ref l)(_:vs=[.ref b])(_:H l=some (.lst xs))(_:H b=some (.lst zs))(_:xs.length+zs.length<=sizeLine)(_:Q .non (upd H l (.lst (xs++zs))))
theorem Agf:MtM X "list.extend" Ak2:=by
 intro pins s σ H x vs v us Q I f rv h;obtain⟨l,b,xs,zs,rfl,rfl,d,hB,t,q⟩:=h;cases f;obtain⟨u,rfl,i⟩:=rv.one;cases i;obtain⟨z,its,n,r,w,e⟩:=I.XR d;obtain⟨p,a,n2,j,m,o⟩:=I.XR hB;have hsz:its.toArray.size+a.toArray.size<=sizeLine:=by grind
 have c:¬(!its.toArray.isEmpty && Builtin.List.listTooLong (its.toArray.size+a.toArray.size))=true:=by
  rw[AaY hsz,Bool.and_false];exact Atj
 refine yM F.slot_list_extend ⟨_,e,Z⟩ F.entry_list_extend (F.args_list_extend_2 _ _)
  (AutoSeq1.list_extend_list_list_0 l its.toArray n b a.toArray n2 c (by grind) As) ⟨e,o,?_⟩;refine⟨.non,_,I.Ak0 d e At (r.append j) ?_,Z,q⟩;rw[Atm];lia
inductive Asf (x:V)(y:V)(H:Hp)(Q:VK):Prop
|mk(l:_)(b:_)(xs:_)(zs:_)(_:x=.ref l)(_:y=.ref b)(_:H l=some (.lst xs))(_:H b=some (.lst zs))(_:xs.length+zs.length<=sizeLine)(_:∀p,H p=none->Q (.ref p) (upd H p (.lst (xs++zs))))
theorem AnK:OpR X (binaryOp .Add) Asf:=by
 intro pins s σ H x y v u Q I c m h;obtain⟨l,b,xs,zs,rfl,rfl,d,hB,p,q⟩:=h;cases c;cases m;obtain⟨z,its,n,r,t,e⟩:=I.XR d;obtain⟨o,a,n2,i,j,f⟩:=I.XR hB;refine PySem.P.add_list e f ?_ Au;have ea:its.toArray++a.toArray=(its++a).toArray:=At
 rw[ea];exact⟨.ref _,_,I.AnJ (r.append i) (by rw[Atm];lia),Z,q _ I.fresh⟩
inductive Asg (x:V)(y:V)(H:Hp)(Q:VK):Prop
|mk(l:_)(k:_)(xs:_)(_:x=.ref l)(_:y=.int k)(_:H l=some (.lst xs))(_ : -(2 ^ 63)<=k)(_:k<2 ^ 63)(_:xs.length*k.toNat<=sizeLine)(_:∀p,H p=none->Q (.ref p) (upd H p (.lst (List.replicate k.toNat xs).flatten)))
theorem len_rep(xs:List α)(k:Nat):(List.replicate k xs).flatten.length=k*xs.length:=Au
theorem AnL:OpR X (binaryOp .Mult) Asg:=by
 intro pins s σ H x y v u Q I p o h;obtain⟨l,k,xs,rfl,rfl,w,h1,h2,j,q⟩:=h;cases p;obtain⟨t,rfl⟩:=o;obtain⟨z,its,n,r,C,e⟩:=I.XR w;have c:its.toArray.size*k.toNat<=sizeLine:=by rw[Atd,<-C];exact j
 have i:¬its.toArray.size*k.toNat>(2 ^ 63-1) / 8:=by
  have:(sizeLine:Nat)<=(2 ^ 63-1) / 8:=Ab
  lia
 have d:¬(!Builtin.List.listFitsIndex k)=true:=by
  rw[fitsIndex_both h1 h2];exact Atj
 have f:¬Builtin.List.listTooLong (its.toArray.size*k.toNat)=true:=by
  rw[AaY c];exact Atj
 have b:List.foldl (λA B=>A++B) #[] (List.replicate (if its.toArray.isEmpty=true then 0 else k.toNat) its.toArray)=(List.replicate k.toNat its).flatten.toArray:=by
  have D:=λm=>by
   have:= foldl_rep its m [];exact this
  cases its with
  |nil=>simp
  |cons a E=>simp_all
 refine wpAny_binaryOp_repeat_ref Ab ⟨_,e,Z⟩ (λs'=>typeIs_int s' k t) noFill_list_mul F.fills_int_mul F.slot_int_rmul repeat_list F.slot_int_index.lookup
  (yM F.slot_int_rmul (typeIs_int s k t) F.entry_int_rmul (F.args_int_rmul_2 _ _) (int___rmul___int_list k t l its.toArray n)
   ⟨e,Z,⟨_,e,Z⟩,yM F.slot_list_mul ⟨_,e,Z⟩ F.entry_list_mul (F.args_list_mul_2 _ _) (AutoListH.list___mul___list_int_3 l its.toArray n k t d i f) ⟨e,?_⟩⟩);rw[b];exact⟨.ref _,_,I.AnJ (r.rep k.toNat) (by rw[len_rep,Nat.mul_comm];exact j),Z,q _ I.fresh⟩
end L2
namespace Att
open PySem PySem.W PySem.Calls PyProof.Rows
theorem U8{P:Params}{h:Heap}:∀(ns:NV)(vs:NR),WellAll P h vs (ns.map WData.int)->IntsAre vs ns:=by
 intro ns
 induction ns with
 |nil =>
  intro vs w;cases w;exact .nil
 |cons n ns c =>
  intro vs w;cases w with
  |cons a b =>
   cases a;exact .cons _ _ (c _ b)
theorem Agg{l:OpenLaw}{n:Nat}(hn:l.most=some n){P:Params}{h:Heap}{args:List WData}{b:NR}
  (c:l.row.toRowW.claim.pre args=true) (j:WellAll P h b args) :
  ∃a vs ns,b=[Value.ref a]/\args=[WData.list (ns.map WData.int)]/\h.get? a=some {cls:=.type "list",data:=.seq vs.toArray}/\IntsAre vs ns/\ns.length<=n:=by
 have o:WShape.hasAll [] args [.list .int]=true:=(pre_splitW c).1;have hc:l.pre.holds [] {args:=args}=true:=(pre_splitW c).2;obtain⟨d,r,rfl,h1,h2⟩:=hasAllW_cons o;obtain rfl:=hasAllW_nil h2;obtain⟨xs,rfl,t⟩:=hasW_list h1;obtain⟨ns,rfl⟩:=items_int t;have f:ns.length<=n:=by
  have i:(WTm.not (.lt (.lit (.int (n:Int))) (.len (.arg 0)))).holds [] {args:=[.list (ns.map .int)]}=true:=by
   have i:=(holds_andW hc).1;rw[hn]at i;exact i
  have m:=condW_of i (w_not (w_lt w_lit (w_len_list (w_arg Z))));rw[AsZ]at m;refine Nat.le_of_not_lt λq=>?_;have s:(n:Int)<((ns.length:Nat):Int):=As
  first
   | (rw[zK s]at m;exact z9 m Ab)
   |grind
 cases j with
 |cons u p =>
  cases p;cases u with
  |list v e=>exact⟨_,_,ns,Z,Z,v,U8 ns _ e,f⟩
theorem Agh(l:OpenLaw)(a:List WData):l.row.toRowW.claim.post a (.bool true) a=true:=
 postW_of
  (by first|rfl|decide|simp[WShape.has,WShape.arms,WShape.armsAll])
  (w_eq_bool (w_res Z) w_lit) Z
theorem Sv{l:OpenLaw}{n:Nat}{q:Program}{loose:NU}{XP:(Str->NW)->Heap->Prop}{YP:World->Heap->Prop}{d:DefRec}
  (hn:l.most=some n) (t:d.params.defaults=[])
  (call:∀(w:World)(b s₁:Na)(mg mb:Str->NW)(fa:NX)(o:Obj)(p cd e:Nd)(a:NX)(vs:NR)(ns:NV),
   Ground q loose [] XP w b mg mb s₁.heap->YP w s₁.heap ->
   s₁.heap.get? fa=some o->o.data=.func (docDef d.name d.params d.body d.scope p cd e)->s₁.heap.CodeRec cd d.name->mg d.name=some (.ref fa) ->
   s₁.heap.get? a=some {cls:=.type "list",data:=.seq vs.toArray}->IntsAre vs ns->ns.length<=n->s₁.gens=#[] ->
   codeAny (model l.prog w) callerA (.call (.ref fa) ⟨[.ref a],[]⟩) (λr s'=>r=.ok (.ret (.bool true))/\OldK s₁.heap s'.heap/\s'.os=s₁.os/\AllBare s'.gens) s₁) :
  WalkO q loose XP YP l.row.toRowW d [] (λf vs=>PySem.call f vs):=by
 intro w b s₁ mg mb G Y fa o p cd e F kV E B s v u K z y as j x I m C;obtain rfl:F=.none:=Dflts.none v t;obtain rfl:kV=.none:=Dflts.noKw v;obtain⟨a,vs,ns,rfl,rfl,i,c,h⟩:=Agg hn j m;refine enter_call (yQ (call w b s₁ mg mb fa o p cd e a vs ns G Y E (fd_plain B) s u i c h K) λr s' D=>?_);obtain⟨rfl,h2,J,A⟩:=D;exact⟨.inl ⟨.bool true,.bool true,[],Z,λ_=>rfl,.bool true,Agh l _,λ_=>⟨List.Pairwise.nil,λ_ H=>(nomatch H)⟩⟩,h2,J,A⟩
section
variable {prog:Program}{w:World}{A:Around}{E:NS}{s:Na}{K:Frag}
def ledger(h:Heap)(L d:NX):NF:=(List.range h.objs.size).filterMap λa=>if a=L\/a=d then none else (h.get? a).map λo=>(a,o)
end
end Att
namespace L2
open PySem PySem.Spec PyProof.Rows
variable {P prog:Program}{w:World}{mg mb m0 m:Str->NW}{CX:CXT}{a f c C D:NX}{x qual y:Str}{sp:Sp}{s₁ s s':Na}{l:W.OpenLaw}{n i:Nat}{loose ps Nc:NU}{XP:(Str->NW)->Heap->Prop}{YP:World->Heap->Prop}{d:DefRec}{X:Cx}{A:Around}{pos py spos px:Pos}{B:Prop}{H H':Hp}{xs ys:Nn}{scope:Scope}{env:Env}{R:Result->Na->Prop}{elt target iter tg:Expr}{ifs:List Expr}{t tc:TT}{pins:NF}{σ:St}{ex fp:NO}{h h' h₁:Heap}{o:HO}{Aw:NL}{cs:List (Str×NX)}{ye:NS}{te tl:TE}{J:It}{Er:NX->Nd->Na->Prop}{wi:TI}{tW tV:It->St->Hp->VK->Prop}{Pv:Nat->Nn->Hp->Prop}
theorem Ek:∀{vs:NR} {ns:NV},IntsAre vs ns->Vals (ns.map V.int) vs
 |_,_,.nil=>.nil
 |_,_,.cons n t h=>.cons ⟨t,Z⟩ (Ek h)
def Only(H:Hp):Prop:=∀b,H b=none\/∃o xs,H b=some (.frz o (.lst xs))
theorem AhQ{K:NA}{k:Nat}{fa:NX}{fd:NY}{vs:NR}{ns:NV}
  (Q:K.In s₁.heap) (A:s₁.heap.Ns mainGlobals mg) (c:s₁.heap.Ns builtinsNs mb) (L:∀x:Str,x≠"__name__" -> mb x=bootBuiltins x) (t:s₁.heap.NoLimit) (hg:s₁.gens=#[])
  (D:s₁.heap.get? a=some {cls:=.type "list",data:=.seq vs.toArray}) (hi:IntsAre vs ns) (R:ns.length<=sizeLine) (W:BX k callerA)
  (F:∀base:Heap,K.In base->base.Ns mainGlobals mg->BR P w K mg base CX k fa fd [x] sp) (j:∀(s:Na)(u:Nd),BindsTo s fd ⟨[u],[]⟩ [(x,u)])
  (G:∀H:Hp,Only H->SqL K H a (ns.map V.int)->sp [.ref a] H (λv _=>v=.bl true) λ_ _ _=>False)
  (E:∀H e s',CX [] H s₁ (λ_ _ _=>False) e s'->False) :
  codeAny (model P w) callerA (.call (.ref fa) ⟨[.ref a],[]⟩) (λr s'=>r=.ok (.ret (.bool true))/\OldK s₁.heap s'.heap/\s'.os=s₁.os/\AllBare s'.gens) s₁:=by
 have rv:=Ek hi;have l:=hi.length;have i:∀H:Hp,Only H->SqL K H a (ns.map V.int)->HOk P w H s₁.heap->(∀b,H b≠none->b=a)->(H a≠none->K.lookup a=none) ->
   codeAny (model P w) callerA (.call (.ref fa) ⟨[.ref a],[]⟩) (λr s'=>r=.ok (.ret (.bool true))/\OldK s₁.heap s'.heap/\s'.os=s₁.os/\AllBare s'.gens) s₁:=by
  intro H N hS y O Y;have S:∀{b:NX} {o:Obj},s₁.heap.get? b=some o->H b=none->(NP s₁.heap H).get? b=some o:=λe n=>AaQ e n;have J:∀{b:NX} {o:Obj} {es:Array DictEntry} {ep:Nat},s₁.heap.get? b=some o->o.data=.dict es ep->H b=none:=λ{b o es ep} e d=>by
   cases q:H b with
   |none=>rfl
   |some u =>
    have I:=O b (by rw[q];simp);subst I;rw[D]at e;cases e;have d':=d;cases d'
  have f:∀{b:NX} {m:Str->NW},s₁.heap.Ns b m->(NP s₁.heap H).Ns b m:=λ{b m} ⟨o,es,ep,e,d,r⟩=>⟨o,es,ep,S e (J e d),d,r⟩;have p:=λb o e=>S (Q b o e) (by
   cases q:H b with
   |none=>rfl
   |some u =>
    have I:=O b (by rw[q];simp);subst I;rw[Y (by rw[q];simp)]at e;cases e)
  have hM:Mod K mg (NP s₁.heap H):=⟨p,f A,⟨mb,f c,L⟩,let ⟨mc,h1,h2⟩:=t;⟨mc,f h1,h2⟩⟩;have e0:V4 P w K mg (NP s₁.heap H) callerA [] s₁ H:=⟨Z,hM,λb o e=>Aer e,AtE (Yj _ _),trivial,λb c=>z9 (show b∈([]:NO) from c) At,y,.of_eq hg⟩;refine yQ ((F _ p (f A)).run callerA [] s₁ H ⟨[.ref a],[]⟩ [.ref a] [.ref a] _ _ W e0 (j s₁ (.ref a)) (.cons Z .nil) (G H N hS)) λr s' h=>?_;cases r with
  |error e=>exact(E H e s' h).elim
  |ok fl =>
   cases fl with
   |next=>exact yI h
   |brk=>exact yI h
   |cont=>exact yI h
   |ret u =>
    obtain⟨v,H',os,B,un,C,X,q⟩:=h;have q':=q;subst q';obtain rfl:u=Value.bool true:=X;refine⟨Z,OldK.of_keep λb o e=>?_,os,B⟩;cases q:H b with
    |none=>exact un.keep b o e q (by intro z;exact z9 (show b∈([]:NO) from z) At) At
    |some u =>
     rcases N b with z|⟨ob,xs,z⟩
     ·rw[q]at z;cases z
     ·have U:=un.DN b ob _ z;obtain⟨e1,_⟩:=y b _ z;obtain⟨e2,_⟩:=C b _ U;rw[e]at e1;cases e1;exact e2
 cases hk:K.lookup a with
 |some o =>
  have e:=Q a o hk;rw[D]at e;cases e;refine i (λ_=>none) (λ_=>.inl Z) (.inr ⟨_,vs.toArray,_,hk,Z,Z,Z,by rw[Atd,l];exact R,by simpa using rv⟩) (λb u z=>Au) (λb z=>z9 Z z) λz=>z9 Z z
 |none =>
  refine i (λb=>if b=a then some (.frz {cls:=.type "list",data:=.seq vs.toArray} (.lst (ns.map V.int))) else none) (λb=>?_) (.inl (.inr ⟨{cls:=.type "list",data:=.seq vs.toArray},z8 Z⟩)) (λb u z=>?_) (λb z=>?_) λ_=>hk
  ·by_cases c:b=a
   ·exact .inr ⟨_,_,z8 c⟩
   ·exact .inl (z7 c)
  ·by_cases c:b=a
   ·have T:=(z8 c).symm.trans z;cases T;subst c;exact⟨D,by rw[AsZ];exact R,vs,_,rv,D⟩
   ·simp_all
  ·by_cases c:b=a
   ·exact c
   ·exact z9 (z7 c) z
abbrev KOf {K:NA} {h:Heap} (_:K.In h):NA:=K
theorem Ak3{k:Nat}{q:Program}{K:Params->NA}{CX:World->CXT}{sp:World->Sp}
  (hn:l.most=some n) (m:n<=sizeLine) (t:d.params.defaults=[]) (C:BX k callerA)
  (B:∀(w:World)(h:Heap),YP w h->(K w.params).In h)
  (F:∀(w:World)(mg:Str->NW)(fa:NX)(h:Heap),(K w.params).In h->h.Ns mainGlobals mg->mg d.name=some (.ref fa) ->
   ∃fd:NY,(∀(s:Na)(u:Nd),BindsTo s fd ⟨[u],[]⟩ [(x,u)]) /\
    ∀base:Heap,(K w.params).In base->base.Ns mainGlobals mg->BR l.prog w (K w.params) mg base (CX w) k fa fd [x] (sp w))
  (r:∀(w:World)(H:Hp)(a:NX)(ns:NV),ns.length<=n->Only H->SqL (K w.params) H a (ns.map V.int)->sp w [.ref a] H (λv _=>v=.bl true) λ_ _ _=>False)
  (p:∀(w:World)(H:Hp)(s:Na)(e:Nd)(s':Na),CX w [] H s (λ_ _ _=>False) e s'->False) :
  W.WalkO q loose XP YP l.row.toRowW d [] (λf vs=>PySem.call f vs):=by
 refine Att.Sv hn t λw z s₁ mg mb fa o P cd N a vs ns G Y R Q I y j i c O=>?_;have A:=B w _ Y;obtain⟨fd,E,D⟩:=F w mg fa _ A G.T.g y;exact AhQ A G.T.g G.T.b G.T.builtins G.T.nolimit O j i (Atf c m) C D E (λH J L=>r w H a ns c J L) λH e s'=>p w H s₁ e s'
theorem Aq2{k:Nat}{q:Program}{K:Params->NA}{sp:NA->Sp}
  (hn:l.most=some n) (c:n<=sizeLine) (i:d.params.defaults=[]) (o:BX k callerA)
  (m:∀(w:World)(h:Heap),YP w h->(K w.params).In h)
  (F:∀(w:World)(mg:Str->NW)(fa:NX)(h:Heap),(K w.params).In h->h.Ns mainGlobals mg->mg d.name=some (.ref fa) ->
   ∃fd:NY,(∀(s:Na)(u:Nd),BindsTo s fd ⟨[u],[]⟩ [(x,u)]) /\
    ∀base:Heap,(K w.params).In base->base.Ns mainGlobals mg->BR l.prog w (K w.params) mg base CX k fa fd [x] (sp (K w.params)))
  (b:∀(K:NA)(H:Hp)(a:NX)(ns:NV),ns.length<=n->Only H->SqL K H a (ns.map V.int)->sp K [.ref a] H (λv _=>v=.bl true) λ_ _ _=>False)
  (j:∀(H:Hp)(s:Na)(e:Nd)(s':Na),CX [] H s (λ_ _ _=>False) e s'->False) :
  W.WalkO q loose XP YP l.row.toRowW d [] (λf vs=>PySem.call f vs):=
 Ak3 hn c i o m F (λw H a ns h1 h2 p=>b (K w.params) H a ns h1 h2 p) λ_ H s e s'=>j H s e s'
def Ft (s:Nl):Arguments:=match s with
 | .FunctionDef _ a _ _ _ _ _ _ _ _=>a
 |_=>{posonlyargs:=[],args:=[],vararg:=none,kwonlyargs:=[],kw_defaults:=[],kwarg:=none,defaults:=[]}
def Bl (s:Nl):List Stmt:=match s with
 | .FunctionDef _ _ b _ _ _ _ _ _ _=>b
 |_=>[]
def Ac (s:Nl):Scope:=match s with
 | .FunctionDef _ _ _ _ _ _ sc _ _ _=>sc
 |_=>{kind:=.function,names:=[],isGenerator:=false,isCoroutine:=false}
abbrev CX0:CXT:=λ_ _ _ _ _ _=>False
abbrev E0:XK:=λ_ _ _=>False
theorem Am0:Passes CX0 X E0:=λ_ _ _ _ _ _ _ h=>h.elim
structure Fun (K:NA)(x qual:Str)(st:Nl)(f:NX)(fd:NY):Prop where
 ex:∃(oc:Nd)(od:Option NX)(kV doc pm:Nd)(an:Option NX)(cdv ct:Nd)(osl:Array (NW)),
  fd=W.fnOf x qual (Ft st) (Bl st) (Ac st) .none kV doc pm an cdv ct/\K.lookup f=some ⟨oc,od,.func fd,osl⟩/\W.codeIn K cdv qual=true
 kp:W.keepIn K (.ref f)=true
section
variable {K:NA}{base:Heap}
theorem Fun.ok{st:Nl}{fd:NY}{N:NU}{k:Nat}(F:Fun K x qual st f fd)(S:Bf N ps (Ac st))
  (b:∀(a:Nd)(A:Around)(outer:List Env)(s:Na)(H:Hp)(vs:Nn)(Q:VK)(E:XK),BX k (A.deeper (envOfC qual (Ac st) s.heap.objs.size f a))->sp vs H Q E ->
   ∃t,PSs (O9 CX0 P w K mg base N qual (Ac st) f a A outer s H E).nox (Bl st) t/\t {nx:=λ_ H'=>Q .non H',rt:=Q} (start N vs) H) (len:∀vs H Q E,sp vs H Q E->vs.length=ps.length:=by intro _ _ _ _ h;cases h;subst_vars;rfl):BR P w K mg base CX0 (k+1) f fd ps sp:=by
 obtain⟨n,m,kV,j,l,an,a,ct,e,rfl,lk,d⟩:=F.ex;refine AhL lk d S len λA outer s H vs Q E i c=>?_;obtain⟨t,h,q⟩:=b a A outer s H vs Q E i c;exact⟨t,h.nox,q⟩
theorem Fun.binds{st:Nl}{fd:NY}(F:Fun K x qual st f fd)
  (h:∀(kV b c:Nd)(an:Option NX)(a ct:Nd)(us:NR),us.length=ps.length->bindArgs (W.fnOf x qual (Ft st) (Bl st) (Ac st) .none kV b c an a ct) ⟨us,[]⟩=pure (ps.zip us)):Binds K fd ps []:=by
 obtain⟨j,i,kV,b,c,an,a,ct,d,rfl,lk,e⟩:=F.ex;exact .all (h kV b c an a ct)
theorem Adk{st:Nl}{i:Nd}{h an:Option NX}{d:Array (NW)}{kV b e a ct:Nd}(l:K.lookup f=some ⟨i,h,.func (W.fnOf x qual (Ft st) (Bl st) (Ac st) .none kV b e an a ct),d⟩)
  (c:W.codeIn K a qual=true) (k:W.keepIn K (.ref f)=true):Fun K x qual st f (W.fnOf x qual (Ft st) (Bl st) (Ac st) .none kV b e an a ct):=⟨⟨i,h,kV,b,e,an,a,ct,d,Z,l,c⟩,k⟩
end
theorem Ae5{k:Nat}(a:BX k A):A.units+1<cLine:=AtS (Nat.add_le_add_left (by decide:1<=64) _) a.units
theorem Agi(h:n<=1000):n<sizeLine:=AtS h Ab
theorem pv(i:Nat)(c:X.N[i]?=some x:=by rfl)(b:Ang X.env.scope x=true:=by rfl)(d:(x == ("__debug__":Str))=false:=by decide)
  (a:(x == ("__classdict__":Str))=false:=by decide):PE X (.Name x pos) (ApP i):=Zz c (ApO b) d a
theorem Agj{A:Prop}(h:B):if false=true then A else B:=by rw[z7 Atj];exact h
theorem AaZ{A:Prop}(h:A):if true=true then A else B:=by rw[z8 rfl];exact h
theorem Aq3{c A:Prop}[Decidable c](hc:c)(h:B):if (!decide c)=true then A else B:=by rw[zK hc];exact Agj h
def Ca (H H':Hp):Prop:=∀b o,H b=some o->H' b=some o
theorem Ca.refl(H:Hp):Ca H H:=λ_ _ h=>h
theorem Ca.trans{H1 H2:Hp}(a:Ca H H1)(b:Ca H1 H2):Ca H H2:=λc o h=>b c o (a c o h)
theorem Ca.free(e:Ca H H'){l:NX}(h:H' l=Option.none):H l=Option.none:=by
 cases q:H l with
 |none=>rfl
 |some o =>
  rw[e l o q]at h;cases h
theorem Ca.seq{K:NA}(e:Ca H H')(h:SqL K H a xs):SqL K H' a xs:=by
 rcases h with (h|⟨o,h⟩)|h
 ·exact .inl (.inl (e _ _ h))
 ·exact .inl (.inr ⟨o,e _ _ h⟩)
 ·exact .inr h
theorem V7(h:∀y∈scope.names,y.2=.free->∃c,env.cells.lookup y.1=some c) :
  ∃a,closureFor scope env=pure a/\(∀x c,a.lookup x=some c->env.cells.lookup x=some c/\(x,NameKind.free)∈scope.names) /\
   ∀x,(x,NameKind.free)∈scope.names->a.lookup x=env.cells.lookup x:=by
 have key:∀(l:List (Str×NameKind))(cs:List (Str×NX)),(∀y∈l,y.2=.free->∃c,env.cells.lookup y.1=some c) ->
   ∃a,(forIn l cs (λ(x:Str×NameKind)(cs:List (Str×NX))=>do
     if x.2 == .free then
      let c <-cellOf env x.1
      pure (ForInStep.yield ((x.1,c)::cs))
     else pure (ForInStep.yield cs)):Sem (List (Str×NX)))=pure a /\
    (∀x c,a.lookup x=some c->(env.cells.lookup x=some c/\(x,NameKind.free)∈l)\/cs.lookup x=some c) /\
    ∀x,((x,NameKind.free)∈l->a.lookup x=env.cells.lookup x)/\((cs.lookup x=env.cells.lookup x)->a.lookup x=env.cells.lookup x):=by
  intro l
  induction l with
  |nil=>intro cs _;exact⟨cs,Z,λx c e=>.inr e,λx=>⟨λz=>z9 z At,λz=>z⟩⟩
  |cons y r s =>
   intro cs o;obtain⟨n,k⟩:=y;by_cases hk:k=.free
   ·subst hk;obtain⟨c,hc⟩:=o (n,.free) Atk Z;obtain⟨a,e1,i,f⟩:=s ((n,c)::cs) λy m=>o y (Ath _ m);refine⟨a,?_,λx d e=>?_,λx=>⟨λz=>?_,λz=>?_⟩⟩
    ·rw[Aud];simp only [beq_self_eq_true,cellOf,hc];exact e1
    ·rcases i x d e with ⟨j,t⟩|z
     ·exact .inl ⟨j,Ath _ t⟩
     ·rw[At4]at z;by_cases p:x == n
      ·rw[p]at z;have b:x=n:=by simpa using p
       subst b;refine .inl ⟨?_,Atk⟩;rw[hc];exact z
      ·have b:(x == n)=false:=by simpa using p
       rw[b]at z;exact .inr z
    ·rcases zZ.mp z with z|z
     ·injection z with j _;subst j;refine(f x).2 ?_;rw[hc];simp
     ·exact(f x).1 z
    ·grind
   ·obtain⟨a,e1,i,f⟩:=s cs λy m=>o y (Ath _ m);grind
 obtain⟨a,e1,i,f⟩:=key scope.names [] h;refine⟨a,?_,λx c e=>?_,λx z=>(f x).1 z⟩
 ·unfold closureFor;have:= e1
  simpa using this
 ·grind
theorem Bv{env:Env}(hk:env.scope.kind=.function):∀{a:List (Str×NameKind)} {x:Str} {k:NameKind},a.lookup x=some k->k≠.free ->
  (a.map λ(n,k)=>if (k == NameKind.free && env.scope.kind == .function && env.kindOf n == some .cell) then (n,NameKind.cell) else (n,k)).lookup x=some k
 |[],_,_,h,_=>by simp at h
 | (n,k')::r,x,k,h,hf=>by
  have c:=@Bv env hk r x k;show List.lookup x ((if (k' == NameKind.free && env.scope.kind == .function && env.kindOf n == some .cell)=true then (n,NameKind.cell) else (n,k'))::_)=_;cases b:x == n with
  |true =>
   simp_all
  |false =>
   simp only [At4,b]at h;by_cases hc:(k' == NameKind.free && env.scope.kind == .function && env.kindOf n == some .cell)=true
   ·rw[z8 hc];simp only [At4,b];exact c h hf
   ·rw[z7 hc];simp only [At4,b];exact c h hf
theorem Cm{env:Env}(hk:env.scope.kind=.function):∀{a:List (Str×NameKind)} {x:Str},a.lookup x=some .free->env.kindOf x=some .cell ->
  (a.map λ(n,k)=>if (k == NameKind.free && env.scope.kind == .function && env.kindOf n == some .cell) then (n,NameKind.cell) else (n,k)).lookup x=some .cell
 |[],_,h,_=>by simp at h
 | (n,k')::r,x,h,hc=>by
  have d:=@Cm env hk r x;show List.lookup x ((if (k' == NameKind.free && env.scope.kind == .function && env.kindOf n == some .cell)=true then (n,NameKind.cell) else (n,k'))::_)=_;cases b:x == n with
  |true =>
   simp_all
  |false =>
   simp only [At4,b]at h;by_cases c:(k' == NameKind.free && env.scope.kind == .function && env.kindOf n == some .cell)=true
   ·rw[z8 c];simp only [At4,b];exact d h hc
   ·rw[z7 c];simp only [At4,b];exact d h hc
def cxG (X:Cx)(fn:Str->Bool)(Nc:NU)(scope:Scope)(cs:List (Str×NX))(C:NX)(fp:NO)(s:Na)(H:Hp)(ye:NS):Cx where
 prog:=X.prog
 w:=X.w
 K:=X.K
 mg:=X.mg
 base:=X.base
 A:=X.A
 N:=Nc
 s₀:=s
 H₀:=H
 env:=compEnvC scope cs C X.env
 outer:=X.stack
 stack:=X.stack
 ex:=fp
 fn:=fn
 calm:=X.calm
 pn:=[]
 xe:=ye
def Gp (X:Cx)(Nc:NU)(scope:Scope)(cl:List (Str×NX))(C:NX)(fp:NO)(s:Na)(H:Hp):Cx:=cxG X (λ_=>false) Nc scope cl C fp s H λ_ _=>False
def Ec (σ:St)(Aw:NL):St:=Aw.map λj=>(σ[j]?).join
structure J4 (X:Cx)(x:Str)(Nc:NU)(Aw:NL)(scope:Scope):Prop where
 kind:scope.kind=.function
 cell:∀y∈scope.names,y.2≠.cell
 names:∀y∈scope.names,y.2=.local->scope.names.lookup y.1=some .local
 fr:∀y∈scope.names,y.2=.free->X.env.scope.names.lookup y.1=some .cell/\scope.names.lookup y.1=some .free
 loc:scope.names.lookup x=some .local
 len:Nc.length=Aw.length+1
 hd:Nc[0]?=some x
 nd:Nc.Nodup
 cap:∀k j,Aw[k]?=some j->∃y,Nc[k+1]?=some y/\X.N[j]?=some y/\scope.names.lookup y=some .free
theorem ZK{it acc:Nd}(I:Nat->Na->Prop)
  (o:∀n s,I n s->wpAny (model prog w) A (pyNext it) (λr s₁=>match r with
   |none=>R (.ok .next) s₁
   |some v=>wpAny (model prog w) A (letOwnedTupleGo target it v) (λ_ j=>wpAny (model prog w) A (assign target env v) (λ_ d =>
     wpAny (model prog w) A (forIn ifs true λc r=>if r=true then do let ok <-isTrue c env (eval c env);pure (ForInStep.yield ok) else pure (ForInStep.yield r)) (λok a =>
      if ok=true then wpAny (model prog w) A (eval elt env) (λx i =>
       wpAny (model prog w) A (call (.builtin "list.append") [acc,x]) (λ_ b=>∃m,m<n/\I m b) (notedBy (model prog w) A env λe s'=>R (.error e) s') i) (notedBy (model prog w) A env λe s'=>R (.error e) s') a
      else ∃m,m<n/\I m a) (notedBy (model prog w) A env λe s'=>R (.error e) s') d) (notedBy (model prog w) A env λe s'=>R (.error e) s') j) (notedBy (model prog w) A env λe s'=>R (.error e) s') s₁) (notedBy (model prog w) A env λe s'=>R (.error e) s') s)
  (n:Nat) (h:I n s) :
  codeAny (model prog w) A (.compLoop (.ListComp elt [⟨target,iter,ifs,0⟩] scope pos) 0 it acc env) R s:=by
 refine codeAny_loop Z I (λn s u=>?_) n h;show wpAny _ A ((compTurn (.ListComp elt [⟨target,iter,ifs,0⟩] scope pos) 0 it acc env).onRaise (λx=>do noteFrame x env;theTreesLotGoes x)) _ _ s;refine wpAny_noted ?_;rw[compTurn_list];refine zA (wpAny_standAt (zA (zO (o n s u) (λr s₁ h₁=>?_) λ_ _ h'=>h')));cases r with
 |none=>exact zE h₁
 |some v =>
  refine zA (zO h₁ (λ_ j h₁=>?_) λ_ _ h'=>h');refine zA (zO h₁ (λ_ d l=>zA (zO l (λok a f=>?_) λ_ _ h'=>h')) λ_ _ h'=>h');cases ok with
  |false=>exact zE ⟨Z,f⟩
  |true =>
   exact zA (zA (zO f (λx i p=>zA (zO p (λ_ b t=>zE (zE ⟨Z,t⟩)) λ_ _ h'=>h')) λ_ _ h'=>h'))
def Vf:TT:=λ_ H Q=>Q true H
inductive PIf (X:Cx):List Expr->TT->Prop where
 |nil:PIf X [] Vf
 |one {c:Expr} {t:TT} (h:PT X c t):PIf X [c] t
theorem PIf.run(h:PIf X ifs t){Q:Bool->Hp->Prop}(I:Inv X pins σ H s)(a:t σ H Q) :
  wpAny (model X.prog X.w) X.A (forIn ifs true λc r=>if r=true then do let ok <-isTrue c X.env (eval c X.env);pure (ForInStep.yield ok) else pure (ForInStep.yield r)) (TP X pins σ Q) X.xe s:=by
 cases h with
 |nil=>exact wpAny_tests_nil ⟨H,I,a⟩
 |one h=>exact wpAny_tests_one (h pins s σ H Q I a)
def ZL (Aw:NL)(tc:TT)(te:TE)(J:It)(σ:St)(H:Hp)(Q:VK):Prop:=
 ∃W:Nat->Nat->Nn->Hp->Prop,(∃m,W 0 m [] H)/\∀i m ys H,W i m ys H ->
  (J.stop i H/\ys.length<=sizeLine/\∀p,H p=none->Q (.ref p) (upd H p (.lst ys))) \/
  (J.go i H/\ys.length<sizeLine/\∀x H',J.yld i H x H'->tc (some x::Ec σ Aw) H' λb H2 =>
   if b=true then te (some x::Ec σ Aw) H2 λy H3=>∃m',m'<m/\W (i+1) m' (ys++[y]) H3 else ∃m',m'<m/\W (i+1) m' ys H2)
abbrev Ak4 (Aw:NL)(tc:TT)(te:TE)(σ:St)(Q:VK)(J:It)(H1:Hp):Prop:=ZL Aw tc te J σ H1 Q
def Am1 (wi:TI)(Aw:NL)(tc:TT)(te:TE)(σ:St)(H:Hp)(Q:VK):Prop:=wi σ H (Ak4 Aw tc te σ Q)
theorem Un.track{fs:NO}(u:Un fs ex H H' h h')(f:h.objs.size<=a)(hn:H' a=none):Un fs ex H (upd H' a o) h h' where
 keep:=u.keep
 slot:=u.slot
 free:=λb c q n d=>by rw[Af (Atb (Ate (yA q) f))];exact u.free b c q n d
 there:=u.there
 tups:=λb xs q=>by rw[Af (Az (u.tups b xs q) hn)];exact u.tups b xs q
 DN:=λb c xs q=>by rw[Af (Az (u.DN b c xs q) hn)];exact u.DN b c xs q
 El:=λb ps q=>by
  obtain⟨m,e⟩:=u.El b ps q;exact⟨m,by rw[Af (Az e hn)];exact e⟩
theorem HOk.track(x:HOk P w H h)(hn:H a=none)(new:BV P w (upd H a o) h a o):HOk P w (upd H a o) h:=λb u e=>by
 by_cases d:b=a
 ·subst d;rw[Ad]at e;cases e;exact new
 ·rw[Af d]at e;exact(x b u e).stay (λc v _ q=>q) (λc q=>by rw[Af (Az q hn)];exact q) λc xs q=>by rw[Af (Az q hn)];exact q
structure Ak5 (X:Cx)(fn:Str->Bool)(scope:Scope)(cs:List (Str×NX))(C n:Nat):Prop where
 old:∀y c,cs.lookup y=some c->X.env.cells.lookup y=some c\/n<c/\c≠C
 cab:∀y c,fn y=true->cs.lookup y=some c->n<=c
 inj:∀a b c,cs.lookup a=some c->cs.lookup b=some c->n<=c->a=b
 has:∀y,(y,NameKind.cell)∈scope.names->∃c,cs.lookup y=some c
 fr:∀y,(y,NameKind.free)∈scope.names->cs.lookup y=X.env.cells.lookup y
structure Ys (X:Cx)(q:Nat)(Nc:NU)(Aw:NL)(scope:Scope):Prop where
 kind:scope.kind=.function
 names:∀y∈scope.names,y.2=.local->scope.names.lookup y.1=some .local
 fr:∀y∈scope.names,y.2=.free->X.env.scope.names.lookup y.1=some .cell/\scope.names.lookup y.1=some .free
 len:Nc.length=Aw.length+q
 cap:∀k j,Aw[k]?=some j->∃y,Nc[k+q]?=some y/\X.N[j]?=some y/\scope.names.lookup y=some .free
theorem Inv.clt(I:Inv X pins σ H s)(h:X.env.cells.lookup y=some c):c<s.heap.objs.size:=by obtain⟨v,q⟩:=I.cell y c h;exact q.lt
theorem Vg{fn:Str->Bool}{q:Nat}(I:Inv X pins σ H s)(O:Ys X q Nc Aw scope)
  (G:Ak5 X fn scope cs C s.heap.objs.size) (p:s.heap.objs.size<=C) (d:∀b∈fp,Jx X pins H b) (m:∀b∈fp,b<s.heap.objs.size):(cxG X fn Nc scope cs C fp s H ye).Ok where
 mod:=I.ok.mod
 kind:=O.kind
 glob:=I.ok.glob
 blt:=I.ok.blt
 above:=p
 inj:=λa b c e1 l=>by
  rcases G.old a c e1 with z|z
  ·rcases G.old b c l with j|j
   ·exact I.ok.inj a b c z j
   ·exact G.inj a b c e1 l (Ats j.1)
  ·exact G.inj a b c e1 l (Ats z.1)
 has:=λy u=>by
  obtain⟨k,t,hk⟩:∃k,(y,k)∈(relabel scope X.env).names/\(k=.cell\/k=.free):=u.elim (λh=>⟨_,zP h,.inl Z⟩) λh=>⟨_,zP h,.inr Z⟩;obtain⟨⟨n,r⟩,i,e⟩:=zY.mp t;have fr:r=.free->n=y->∃c,cs.lookup y=some c:=λz j=>by
   subst z j;rw[G.fr _ i];exact I.ok.has _ (.inl (O.fr _ i Z).1)
  dsimp only at e;split at e
  ·injection e with e1 _;refine fr ?_ e1;simp_all
  ·injection e with e1 l;subst e1 l;rcases hk with rfl|rfl
   ·exact G.has _ i
   ·exact fr Z rfl
 cab:=λy c z e=>G.cab y c z e
 hd:=I.ok.hd
 frames:=I.ok.frames
 stk:=.inl Z
 exf:=λb f=>⟨Atb (Ate (m b f) p),λy c e=>(G.old y c e).elim (λz=>(d b f).2.2.2.2.1 y c z) λz=>Atr (AtT (m b f) z.1)⟩
 bs:=I.bs
 bsz:=Atf I.ok.bsz I.sz
 Zw:=λb o e f=>by
  rcases(d b f).2.2.2.1 with z|z
  ·exact I.ok.Zw b o e z
  ·exact z9 (Ate (yA e) (Atf I.ok.bsz z)) (At0 _)
 Zx:=λb f z=>(zZ.mp (I.Zy b z)).elim (d b f).2.1 (d b f).2.2.1
 Jv:=I.stack
 frf:=I.Vb
theorem AhR(σ:St)(Aw:NL):(Ec σ Aw).length=Aw.length:=by unfold Ec;rw[AsZ]
theorem AhS{k:Nat}{v:V}(e:(Ec σ Aw)[k]?=some (some v)):∃j,Aw[k]?=some j/\σ[j]?=some (some v):=by
 unfold Ec at e;rw[Atn]at e;cases hk:Aw[k]? with
 |none=>simp_all
 |some j =>
  rw[hk]at e;have a:(σ[j]?).join=some v:=yB e;refine⟨j,Z,?_⟩;cases b:σ[j]? with
  |none=>rw[b]at a;cases a
  |some o=>rw[b]at a;rw[show o=some v from a]
theorem Un.but{fs:NO}{h1 h2:Heap}(u:Un fs ex H H' h h1)(hs:Heap.SameBut C h1 h2)(d:h.objs.size<=C):Un fs ex H H' h h2 where
 keep:=λb o q n c a=>(hs.2 b (Atb (Ate (yA q) d))).trans (u.keep b o q n c a)
 slot:=λb o q n c a=>by
  obtain⟨f,e⟩:=u.slot b o q n c a;exact⟨f,(hs.2 b (Atb (Ate (yA q) d))).trans e⟩
 free:=u.free
 there:=λb o q a=>by
  obtain⟨o',e⟩:=u.there b o q a;exact⟨o',(hs.2 b (Atb (Ate (yA q) d))).trans e⟩
 tups:=u.tups
 DN:=u.DN
 El:=u.El
theorem Adl{fn:Str->Bool}{q:Nat}{tk:Nat}(I:Inv X pins σ H s)(O:Ys X q Nc Aw scope)
  (G:Ak5 X fn scope cs C s.heap.objs.size) (E:s.heap.objs.size<=C) (t:∀b∈fp,Jx X pins H b) (x:∀b∈fp,b<s.heap.objs.size)
  (a:∀b o,s.heap.get? b=some o->h'.get? b=some o) (A:h'.Ns C m0) (D:∀y c,cs.lookup y=some c->s.heap.objs.size<c->∃v,h'.IsCell c v) :
  Inv (cxG X fn Nc scope cs C fp s H ye) [] (List.replicate q none++Ec σ Aw) H {s with heap:=h',toks:=tk} where
 ok:=Vg I O G E t x
 os:=rfl
 bare:=I.bare
 base:=Un.kept a
 loc:=by
  refine⟨m0,A,λi y v J d P=>?_⟩;rw[List.getElem?_append,Auv]at d;split at d
  ·simp_all
  ·obtain⟨j,L,hs⟩:=AhS d;obtain⟨z,f,B,h⟩:=O.cap _ j L;rw[Nat.sub_add_cancel As]at f;cases f.symm.trans (J);have mem:=zP h;have hk:=(O.fr _ mem Z).1;obtain⟨m,hn,N⟩:=I.loc;obtain⟨u,r,l⟩:=N j y v B hs (.inr (.inl hk));refine⟨u,r,?_⟩;rcases l with ⟨K,_⟩|⟨_,c,hc,o,w,n⟩
   ·cases hk.symm.trans (K)
   ·exact .inr ⟨.inl (Cm I.ok.kind h hk),c,(G.fr y mem).trans hc,o,a _ _ w,n⟩
 cell:=λy c e=>by
  rcases G.old y c e with z|z
  ·obtain⟨v,o,w,n⟩:=I.cell y c z;exact⟨v,o,a _ _ w,n⟩
  ·exact D y c e z.1
 free:=I.hok.fresh E
 Dm:=λy c e=>(G.old y c e).elim (I.Dm y c) λz=>I.hok.fresh (Ats z.1)
 pin:=λp F=>z9 (show p∈([]:NF) from F) At
 hok:=I.hok.kept a
 len:=by
  show(List.replicate q none++Ec σ Aw).length=Nc.length;rw[Atm,Auv,AhR,O.len,Nat.add_comm]
abbrev ZM (us:NR)(n:Nat):Obj:={cls:=.type "list",data:=.seq us.toArray n}
theorem Vh{sc0:Scope}(h:X.env.scope=sc0)(a:∀y∈scope.names,y.2=.free->sc0.names.lookup y.1=some .cell/\scope.names.lookup y.1=some .free) :
  ∀y∈scope.names,y.2=.free->X.env.scope.names.lookup y.1=some .cell/\scope.names.lookup y.1=some .free:=by
 rw[h];exact a
def ZP (g:TG)(q:Nat)(Aw:NL)(tc:TT)(te:TE)(J:It)(σ:St)(H:Hp)(Q:VK):Prop:=
 ∃W:Nat->Nat->Nn->Hp->Prop,(∃m,W 0 m [] H)/\∀i m ys H,W i m ys H ->
  (J.stop i H/\ys.length<=sizeLine/\∀p,H p=none->Q (.ref p) (upd H p (.lst ys))) \/
  (J.go i H/\ys.length<sizeLine/\∀x H',J.yld i H x H'->∀os:St,os.length=q->g x (os++Ec σ Aw) H' λσ2 H2=>∃os':St,os'.length=q/\σ2=os'++Ec σ Aw/\tc σ2 H2 λb H2 =>
   if b=true then te σ2 H2 λy H3=>∃m',m'<m/\W (i+1) m' (ys++[y]) H3 else ∃m',m'<m/\W (i+1) m' ys H2)
theorem Ak6{fn:Str->Bool}{q:Nat}{g:TG}{Q:VK}{it:NX}{tn:Nat->Heap->Prop}{tk:Nat}
   (O:Ys X q Nc Aw scope) (hc:X.calm=true) (G:Ak5 X fn scope cs C s.heap.objs.size)
  (am:PG (cxG X fn Nc scope cs C fp s H ye) target g) (hte:PE (cxG X fn Nc scope cs C fp s H ye) elt te) (htc:PIf (cxG X fn Nc scope cs C fp s H ye) ifs tc)
  (I:Inv X pins σ H s) (T:Turn X.prog X.w X.K target J fp it tn) (st:tn 0 s.heap) (a2:∀b∈fp,Jx X pins H b) (h:ZP g q Aw tc te J σ H Q)
  (f:s.heap.objs.size=D) (DC:D<C) (a3:∀b o,s.heap.get? b=some o->h₁.get? b=some o) (a6:h₁.get? D=some (ZM [] 0)) (ae:h₁.Ns C m0) (ag:∀y c,cs.lookup y=some c->s.heap.objs.size<c->∃v,h₁.IsCell c v)
  (ai:∀(s':Na)(m:Str->NW),s'.heap.Ns C m->(∀h',Heap.SameBut C s'.heap h'->∃H',Inv X pins σ H' {s' with heap:=h'}/\H' C=none/\Q (.ref D) H')->R (.ok .next) s')
  (P:∀e s',ye e s'->notedBy (model X.prog X.w) X.A (compEnvC scope cs C X.env) (λe s''=>R (.error e) s'') e s') :
  codeAny (model X.prog X.w) X.A (.compStart (.ListComp elt [⟨target,iter,ifs,0⟩] scope pos) 0 (.ref it) (.ref D) (compEnvC scope cs C X.env)) R {s with heap:=h₁,toks:=tk}:=by
 have t:∀b∈fp,b<D:=λb a=>by
  obtain⟨o,e,_⟩:=T.obj _ _ st b a;exact f▸yA e
 have a4:=T.keep _ _ _ st λb _ o e=>a3 b o e;have sC:=f▸Ats DC;have l:=Atb DC;generalize N:cxG X fn Nc scope cs C fp s H ye=Y at *;have I0:Inv Y [] (List.replicate q none++Ec σ Aw) H {s with heap:=h₁,toks:=tk}:=N▸Adl I O G sC a2 (λb a=>f▸t b a) a3 ae ag;have aj:=I.hok.fresh (AtE f);have ah:D∉Y.fs:=λz=>by
  obtain⟨_,o,e,_⟩:=I.stack.mem (by rw[<-N]at z;exact z);exact z9 (yA e) (by rw[f];exact At0 _)
 have af:∀y c,Y.env.cells.lookup y=some c->c≠D:=λy c e=>by
  rw[<-N]at e;exact(G.old y c e).elim (λz=>Atb (f▸I.clt z)) λz=>Atr (f▸z.1)
 have YC:Y.env.locals=C:=by rw[<-N];rfl
 have U:∀{H':Hp} {L:Obj},(∀b∈fp,H' b=none)->∀b∈fp,Jx Y [(D,L)] H' b:=λ{H' L} hn b a=>by
  have ex:b∈Y.ex:=by rw[<-N];exact a
  refine⟨hn b a,by rw[YC];exact Atb (AtT (t b a) DC),I0.ok.Zx b ex,.inl ex,(I0.ok.exf b ex).2,λp j=>?_⟩;have e:=zF.mp (by rw[<-N]at j;exact j);rw[e];exact Atr (t b a)
 obtain⟨W,⟨ab,w0⟩,a5⟩:=h;have u:codeAny (model X.prog X.w) X.A (.compLoop (.ListComp elt [⟨target,iter,ifs,0⟩] scope pos) 0 (.ref it) (.ref D) (compEnvC scope cs C X.env)) R {s with heap:=h₁,toks:=tk}:=by
  refine ZK (λn s'=>∃(i:Nat)(os:St)(H':Hp)(ys:Nn)(us:NR)(k:Nat),os.length=q/\Inv Y [] (os++Ec σ Aw) H' s'/\tn i s'.heap/\(∀b∈fp,H' b=none)/\s'.heap.get? D=some (ZM us k)/\H' D=none/\Vals ys us/\W i n ys H')
   ?_ ab ⟨0,_,H,[],[],0,Auv,I0,a4,λb a=>(a2 b a).1,a6,aj,.nil,w0⟩;rintro n s3 ⟨i,o3,H3,ys,us,k,ol,I3,a8,a7,ac,al,rv,w3⟩;have IP:Inv Y [(D,ZM us k)] (o3++Ec σ Aw) H3 s3:=I3.DY λp j=>by
   cases zF.mp j;exact⟨ac,al,YC▸l,ah,λv z=>by cases z⟩
  have S:∀{σ':St} {H':Hp} {s':Na} {pl:NF},Inv Y ([(D,ZM us k)]++pl) σ' H' s'->s'.heap.get? D=some (ZM us k)/\H' D=none:=λI'=>by
   have z:=I'.pin (D,ZM us k) (Atx _ (Aur _ Atk));exact⟨z.1,z.2.1⟩
  subst N;rcases a5 i n ys H3 w3 with ⟨stop,B,a9⟩|⟨go,B,step⟩
  ·
   refine zO (T.done (cxG X fn Nc scope cs C fp s H ye) Z rfl Z hc i _ s3 _ H3 (λ_ _=>False) IP (U a7) a8 stop) (λr s4 hr=>?_) λ_ _ z=>z.elim;obtain⟨rfl,E⟩:=hr;obtain⟨gD,nD⟩:=S (by simpa using E);obtain⟨m,hn,_⟩:=E.loc;refine ai s4 m hn λh' a0=>⟨upd H3 D (.lst ys),?_,(Af (yD l)).trans E.free,a9 D nD⟩;have nt:∀b L,H3 b=some L->b≠C:=λb L e z=>by
    subst z;cases e.symm.trans E.free
   have ak:HOk X.prog X.w H3 h':=λb L e=>(E.hok b L e).stay (λc v hc q=>(a0.2 c (hc.elim (λz=>z▸nt b L e) λz=>nt c _ z)).trans q) (λ_ q=>q) λ_ _ q=>q;exact I.call' E.os ((Un.but E.base a0 sC).track (AtE f) nD) (ak.track nD ⟨B,us,k,rv,(a0.2 D l).trans gD⟩) E.bare λb a=>by
    obtain⟨_,g1,_,g3,g4,g5⟩:=a2 b a;exact⟨g3,g1,g4,g5⟩
  ·
   refine zO (T.item (cxG X fn Nc scope cs C fp s H ye) Z rfl Z hc i _ s3 _ H3 (λ_ _=>False) IP (U a7) a8 go) (λr s4 hr=>?_) λ_ _ z=>z.elim;obtain⟨u0,rfl,h4⟩:=hr;refine zO h4 (λ_ s5 h5=>?_) λ_ _ z=>z.elim;obtain⟨x5,H5,I5,r5,y5,a1,aa⟩:=h5;refine zO (am _ s5 _ H5 x5 u0 _ (I5.pinned (U aa) (T.obj _ _ a1)) r5 (step x5 _ y5 o3 ol)) (λ_ s6 h6=>?_) P;obtain⟨ao,H6,I6,o6,l6,rfl,q6⟩:=h6;refine zO (htc.run I6 q6) (λb s7 h7=>?_) P;obtain⟨H7,I7,q7⟩:=h7;have Yt:∀{σ':St} {H':Hp} {s':Na},Inv (cxG X fn Nc scope cs C fp s H ye) ([(D,ZM us k)]++Vw fp s5.heap) σ' H' s'->tn (i+1) s'.heap/\∀b∈fp,H' b=none:=λI'=>by
    have p:=λ{b o} a e=>I'.pin (b,o) (Atx _ (Atx _ (NQ a e)));refine⟨T.keep _ _ _ a1 λb a o e=>(p a e).1,λb a=>?_⟩;obtain⟨o,e,d⟩:=T.obj _ _ a1 b a;exact(p a e).2.1
   cases b with
   |false =>
    obtain⟨m',hm,w7⟩:=(z7 Atj).mp q7;obtain⟨gD,nD⟩:=S I7;obtain⟨k1,k2⟩:=Yt I7;exact⟨m',hm,i+1,o6,H7,ys,us,k,l6,I7.DY (λp j=>nomatch j),k1,k2,gD,nD,rv,w7⟩
   |true =>
    refine zO (hte _ s7 _ H7 _ I7 q7) (λu8 s8 h8=>?_) P;obtain⟨y8,H8,I8,r8,m',hm,w8⟩:=h8;obtain⟨gD,nD⟩:=S I8;obtain⟨k1,k2⟩:=Yt I8;refine yM F.slot_list_append ⟨_,gD,Z⟩ F.entry_list_append (F.args_list_append_2 _ _) (PySem.list_append D us.toArray k u8 (by rw[Atd,<-rv.length];lia)) ⟨gD,?_⟩;have q:=PySem.IsL.update gD (·.push u8);rw[List.push_toArray]at q;have x:=λb (a:b≠D)=>zH s8.heap (Obj.mapSeq (·.push u8)) (yD a);exact⟨m',hm,i+1,o6,H8,ys++[y8],us++[u8],_,l6,(I8.DY (Ahy:=[]) (λp j=>nomatch j)).turned (λb o a e=>(x b a).trans e) nD l (.inr (AtE f)) af (λp j=>nomatch j),T.keep _ _ _ k1 λb a o e=>(x b (Atb (t b a))).trans e,k2,q,nD,rv.append (.cons r8 .nil),w8⟩
 exact codeAny_compStart_list u (T.self X.A 0 _ _ _ a4 u)
def Blk (X:Cx)(target iter elt:Expr)(ifs:List Expr)(scope:Scope)(pos:Pos)(Er:NX->Nd->Na->Prop)(tW:It->St->Hp->VK->Prop):Prop:=
 ∀{cl:List (Str×NX)} {pins:NF} {σ:St} {H:Hp} {s:Na} {J:It} {fp:NO} {it:NX} {tn:Nat->Heap->Prop} {Q:VK} {RR:Nd->NX->Option NX->Result->Na->Prop} {E:NS},
  (∀x c,cl.lookup x=some c->X.env.cells.lookup x=some c/\(x,NameKind.free)∈scope.names)->(∀x,(x,NameKind.free)∈scope.names->cl.lookup x=X.env.cells.lookup x) ->
  Inv X pins σ H s->Turn X.prog X.w X.K target J fp it tn->tn 0 s.heap->(∀b∈fp,Jx X pins H b)->tW J σ H Q ->
  (∀(D C:NX)(s':Na)(m:Str->NW),s'.heap.Ns C m->(∀h',Heap.SameBut C s'.heap h'->∃H',Inv X pins σ H' {s' with heap:=h'}/\H' C=none/\Q (.ref D) H')->s.heap.objs.size<=C->RR (.ref D) C X.env.frame (.ok .next) s') ->
  (∀(D C:NX)(e:Nd)(s':Na),Er C e s'->RR (.ref D) C X.env.frame (.error e) s') ->
  wpAny (model X.prog X.w) X.A (newList []) (λacc s₃=>wpAny (model X.prog X.w) X.A (newFunctionEnv scope X.env.globals cl [] X.env.qual none .none (some X.env)) (λcenv s₄ =>
   codeAny (model X.prog X.w) X.A (.compStart (.ListComp elt [⟨target,iter,ifs,0⟩] scope pos) 0 (.ref it) acc {cenv with scope:=relabel scope X.env}) (RR acc cenv.locals cenv.frame) s₄) E s₃) E s
theorem Aq6{q:Nat}{g:TG}(ye:NX->NO->Na->Hp->Nd->Na->Prop)
  (O:Ys X q Nc Aw scope) (d:∀y∈scope.names,y.2≠.cell) (hc:X.calm=true) (x:X.env.scope.kind=.function->∀f C fp s H,PG (cxG X (λ_=>false) Nc scope f C fp s H (ye C fp s H)) target g)
  (htc:∀f C fp s H,PIf (cxG X (λ_=>false) Nc scope f C fp s H (ye C fp s H)) ifs tc) (hte:∀f C fp s H,PE (cxG X (λ_=>false) Nc scope f C fp s H (ye C fp s H)) elt te)
  (p:∀{pins σ H s fp C cenv} {R:NS},Inv X pins σ H s->(∀b∈fp,Jx X pins H b)->s.heap.objs.size<=C->cenv.frame=X.env.frame->(∀e s',Er C e s'->R e s')->∀e s',ye C fp s H e s'->notedBy (model X.prog X.w) X.A cenv R e s') :
  Blk X target iter elt ifs scope pos Er (ZP g q Aw tc te):=by
 intro f pins σ H s J fp it tn Q RR E i v I T st j h n r;refine z6 (wpAny_newFunctionEnv d (by intro y t;simp at t) (λh₁ u l=>?_) O.kind);have lt:s.heap.objs.size<(s.heap.push (ZM [] 0)).objs.size:=Au
 have G:Ak5 X (λ_=>false) scope f (s.heap.push (ZM [] 0)).objs.size s.heap.objs.size:=⟨λy c e=>.inl (i y c e).1,λ_ _ z=>z9 z Atj,λa b c e _ z=>z9 (I.clt (i a c e).1) (Nat.not_lt.mpr z),λy t=>z9 Z (d _ t),v⟩;refine Ak6 (s:=s) O hc G (x I.ok.kind _ _ _ _ _) (hte _ _ _ _ _) (htc _ _ _ _ _) I T st j h Z lt (λb o e=>l.extBut b o (Atb (AtT (yA e) lt)) (zB _ (zB _ e)))
  (l.extBut _ _ (Atb lt) (zB _ (zD _ Z))) u (λy c e z=>z9 (I.clt (i y c e).1) (Nat.not_lt.mpr (Ats z)))
  (λs' m hn k=>n _ _ s' m hn k (Ats lt)) (p I j (Ats lt) Z λe s'=>r _ _ e s')
section
variable (hk:scope.kind=.function) (hn:∀y∈scope.names,y.2=.local->scope.names.lookup y.1=some .local)
 (hfr:∀y∈scope.names,y.2=.free->X.env.scope.names.lookup y.1=some .cell/\scope.names.lookup y.1=some .free) (hi:PI X target iter wi)
theorem Adm{Dn:Ends}(F:X.N.Nodup)(I:X.N[i]?=some y)(r:X.env.scope.names.lookup y=some .local)(j:Inv X pins σ H s)(hn:s'.heap.Ns C m)
  (E:∀h',Heap.SameBut C s'.heap h'->∃H',Inv X pins σ H' {s' with heap:=h'}/\H' C=none/\Em i (.ref D) σ H' λσ' H''=>Dn.nx σ' H'') (h:s.heap.objs.size<=C) :
  wpAny (model X.prog X.w) X.A (assign (.Name y py) X.env (.ref D)) (λ_ s''=>∃m,s''.heap.Ns C m/\∀h',Heap.SameBut C s''.heap h'->SP X pins Dn .next {s'' with heap:=h'}) X.xe s':=by
 obtain⟨H',v,nC,q⟩:=E s'.heap (.refl ..);have n:=Atr (Ate j.lt h);have f:∀y c,X.env.cells.lookup y=some c->c≠C:=λy c e=>Atb (Ate (j.clt e) h);refine wpAny_assign_Name (Yk (v) F I (.inl r) (show RelV (.ref D) (.ref D) from Z) (λJ t d=>?_) (.inr r));obtain⟨a,d,u⟩:=d;have G:=u.elim (λz=>z▸n) λz=>yD (f _ _ z);exact⟨m,hn.sameBut d G,λK l=>⟨_,H',t.turned (λb o B e=>(l.2 b B).trans e) nC n (.inr (Atf j.sz h)) f (λp x z=>z9 (Ate (yA (j.pin p x).1) h) (by rw[z];exact At0 _)),q⟩⟩
include hk hn hfr hi in
theorem Adn(B:Blk X target iter elt ifs scope pos (λ_ _ _=>False) tW)(hs:∀x,foldedSetIterable iter X.env x=pure x) :
  PE X (.ListComp elt [⟨target,iter,ifs,0⟩] scope pos) (λσ H Q=>wi σ H λJ H1=>tW J σ H1 Q):=by
 intro pins s σ H Q I h;rw[eval_ListComp];obtain⟨F,e1,o,r⟩:=V7 (scope:=scope) (env:=X.env) λy j c=>I.ok.has y.1 (.inl (hfr y j c).1);refine wpAny_comprehension_free (use:=none) Z hs e1 hk hn (thn (hi pins s σ H _ I h) λv t h1=>thn h1 λf E ⟨it,fp,tn,J,H2,e,l,T,a,p,n⟩=>?_);subst e;exact B (RR:=λacc C _=>compPost (model X.prog X.w) X.A X.xe none (EP X pins σ Q) acc C) o r l T a p n (λD C s' m hn i u=>⟨m,hn,λh' b=>by
  obtain⟨H',d,_,q⟩:=i h' b;exact⟨.ref D,H',d,Z,q⟩⟩) λ_ _ _ _ z=>z.elim
include hk hn hfr hi in
theorem AhT(B:Blk X target iter elt ifs scope pos (λ_ _ _=>False) tW)(p:X.N.Nodup)(c:X.N[i]?=some y)(o:X.env.scope.names.lookup y=some .local)
  (a:swapsWith (.ListComp elt [⟨target,iter,ifs,0⟩] scope pos) (some (.Name y py)) spos.line X.env=pure true) (hs:∀x,foldedSetIterable iter X.env x=pure x) :
  PS X (.Assign [.Name y py] (.ListComp elt [⟨target,iter,ifs,0⟩] scope pos) spos) (Ah6 (λσ H Q=>wi σ H λJ H1=>tW J σ H1 Q) (Em i)):=by
 intro pins s σ H Dn I h;rw[exec_Assign_Name_used _ _ _ _ a];refine zA (wpAny_standAt (zA ?_));obtain⟨K,e1,t,E⟩:=V7 (scope:=scope) (env:=X.env) λy c j=>I.ok.has y.1 (.inl (hfr y c j).1);show wpAny _ X.A (do let _ <-comprehension (.ListComp elt [⟨target,iter,ifs,0⟩] scope pos) scope X.env _ (newList []) false (eval iter X.env) (some (assign (.Name y py) X.env))) _ _ s;refine zA (zO (wpAny_comprehension_free (use:=some (assign (.Name y py) X.env)) (Q:=λ_ s'=>SP X pins Dn .next s') Z hs e1 hk hn
  (thn (hi pins s σ H _ I h) λv F h1=>thn h1 λn G ⟨it,fp,tn,J,H2,e,f,T,d,u,r⟩=>?_)) (λ_ s' b=>zE (zE b)) λ_ _ e=>e);subst e;exact B (RR:=λacc C _=>compPost (model X.prog X.w) X.A X.xe (some (assign (.Name y py) X.env)) (λ_ s'=>SP X pins Dn .next s') acc C) t E f T d u r (λD C s' m hn b l=>Adm p c o f hn b l) λ_ _ _ _ z=>z.elim
end
theorem J4.g(O:J4 X x Nc Aw scope):Ys X 1 Nc Aw scope:=⟨O.kind,O.names,O.fr,O.len,O.cap⟩
theorem Blk.imp(B:Blk X target iter elt ifs scope pos Er tV)(h:∀{J σ H Q},tW J σ H Q->tV J σ H Q):Blk X target iter elt ifs scope pos Er tW:=
 λa b c d e f w=>B a b c d e f (h w)
theorem Aq7{Q:VK}(h:ZL Aw tc te J σ H Q):ZP (Em 0) 1 Aw tc te J σ H Q:=by
 obtain⟨W,c,a⟩:=h;refine⟨W,c,λi m ys H w=>(a i m ys H w).imp id λ⟨g,l,k⟩=>⟨g,l,λx H' y os b=>?_⟩⟩
 match os,b with
 |[o],_=>exact⟨[some x],Z,Z,k x H' y⟩
theorem AhU{fn:Str->Bool}(hk:X.env.scope.kind=.function)(b:Nc.Nodup)(hi:Nc[i]?=some x)(a:scope.names.lookup x=some .local) :
  PG (cxG X fn Nc scope cs C fp s H ye) (.Name x px) (Em i):=Ea b hi (.inl (Bv hk a nofun)) (.inr (Bv hk a nofun))
section
variable (O:J4 X x Nc Aw scope) (hc:X.calm=true) (hi:PI X (.Name x px) iter wi)
 (htc:∀cl C fp s H,PIf (Gp X Nc scope cl C fp s H) ifs tc) (hte:∀cl C fp s H,PE (Gp X Nc scope cl C fp s H) elt te)
include O hc htc hte in
theorem Aq8:Blk X (.Name x px) iter elt ifs scope pos (λ_ _ _=>False) (ZL Aw tc te):=
 Blk.imp (Aq6 (λ_ _ _ _ _ _=>False) O.g O.cell hc (λk _ _ _ _ _=>AhU k O.nd O.hd O.loc) htc hte λ_ _ _ _ _ _ _ z=>z.elim) Aq7
include O hc hi htc hte in
theorem ZQ(hs:∀x,foldedSetIterable iter X.env x=pure x:=by intro _;rfl):PE X (.ListComp elt [⟨.Name x px,iter,ifs,0⟩] scope pos) (Am1 wi Aw tc te):=Adn O.kind O.names O.fr hi (Aq8 O hc htc hte) hs
end
theorem Ak8(O:J4 X x Nc Aw scope)(hc:X.calm=true)
  (c:X.N.Nodup) (d:X.N[i]?=some y) (b:X.env.scope.names.lookup y=some .local) (hi:PI X (.Name x px) iter wi)
  (htc:∀cl C fp s H,PIf (Gp X Nc scope cl C fp s H) ifs tc) (hte:∀cl C fp s H,PE (Gp X Nc scope cl C fp s H) elt te)
  (a:swapsWith (.ListComp elt [⟨.Name x px,iter,ifs,0⟩] scope pos) (some (.Name y py)) spos.line X.env=pure true) (hs:∀x,foldedSetIterable iter X.env x=pure x:=by intro _;rfl) :
  PS X (.Assign [.Name y py] (.ListComp elt [⟨.Name x px,iter,ifs,0⟩] scope pos) spos) (Ah6 (Am1 wi Aw tc te) (Em i)):=AhT O.kind O.names O.fr hi (Aq8 O hc htc hte) c d b a hs
def Its (x:Str):It:=⟨λi _=>i<x.cps.size,λi H v H'=>H'=H/\∃c,x.cps[i]?=some c/\v=.str ⟨#[c]⟩,λi _=>x.cps.size<=i⟩
theorem Agk{K:NA}(it:NX)(x:Str)(t:Tok):Turn P w K tg (Its x) [it] it (λi h=>i<=x.cps.size/\h.IsStrIter it "str_ascii_iterator" x t i) where
 mem:=At
 obj:=λi h st b a=>by
  have e:b=it:=by simpa using a
  subst e;obtain⟨_,o,e,c,d⟩:=st;exact⟨o,e,λv z=>by grind⟩
 keep:=λi h h' st k=>by
  obtain⟨u,o,e,c,d⟩:=st;exact⟨u,o,k it At o e,c,d⟩
 item:=by
  intro X A hw B hc i pins s σ H E I l st f;obtain⟨u,st⟩:=st;have f:i<x.cps.size:=f;obtain⟨n,m,G,p,y,r⟩:=l it At;have C:x.cps[i]?=some x.cps[i]:=At
  refine wpAny_pyNext_ascii_item st C λh' j J=>?_;have D:Inv X pins σ H {s with heap:=h',toks:=s.toks+1}:=I.turned (λb o a e=>(J.2 b a).trans e) n m p y r;obtain⟨o,e,c,d⟩:=id j;exact⟨_,Z,Aeu e c d Ab ⟨.str ⟨#[x.cps[i]]⟩,H,D,⟨_,Z⟩,⟨Z,_,C,Z⟩,⟨f,j⟩,λb a=>(l b a).1⟩⟩
 done:=by
  intro X A hw B hc i pins s σ H E I l st f;subst A hw B;obtain⟨u,st⟩:=st;have f:x.cps.size<=i:=f;obtain⟨n,m,G,p,y,r⟩:=l it At;exact wpAny_pyNext_ascii_end (I.ok.hd hc) st (by simp;lia) λh' F=>⟨Z,I.turned (λb o a e=>F b o a e) n m p y r⟩
 self:=λ_ _ _ _ _ st h=>wpAny_pyIter_striter_ascii st.2 h
theorem Agl{K:NA}(it:NX)(x:Str)(t:Tok):Turn P w K tg (Its x) [it] it (λi h=>i<=x.cps.size/\h.IsStrIter it "str_iterator" x t i) where
 mem:=At
 obj:=λi h st b a=>by
  have e:b=it:=by simpa using a
  subst e;obtain⟨_,o,e,c,d⟩:=st;exact⟨o,e,λv z=>by grind⟩
 keep:=λi h h' st k=>by
  obtain⟨u,o,e,c,d⟩:=st;exact⟨u,o,k it At o e,c,d⟩
 item:=by
  intro X A hw B hc i pins s σ H E I l st f;obtain⟨u,st⟩:=st;have f:i<x.cps.size:=f;obtain⟨n,m,G,p,y,r⟩:=l it At;have C:x.cps[i]?=some x.cps[i]:=At
  refine wpAny_pyNext_wide_item st C λh' j J=>?_;have D:Inv X pins σ H {s with heap:=h',toks:=s.toks+1}:=I.turned (λb o a e=>(J.2 b a).trans e) n m p y r;obtain⟨o,e,c,d⟩:=id j;exact⟨_,Z,Aeu e c d Ab ⟨.str ⟨#[x.cps[i]]⟩,H,D,⟨_,Z⟩,⟨Z,_,C,Z⟩,⟨f,j⟩,λb a=>(l b a).1⟩⟩
 done:=by
  intro X A hw B hc i pins s σ H E I l st f;subst A hw B;obtain⟨u,st⟩:=st;have f:x.cps.size<=i:=f;obtain⟨n,m,G,p,y,r⟩:=l it At;exact wpAny_pyNext_wide_end (I.ok.hd hc) st (by simp;lia) λh' F=>⟨Z,I.turned (λb o a e=>F b o a e) n m p y r⟩
 self:=λ_ _ _ _ _ st h=>wpAny_pyIter_striter_wide st.2 h
inductive AnN (R:(It->Hp->Prop))(x:V)(H1:Hp):Prop
|mk(z:_)(_:x=.str z)(_:R (Its z) H1)
def Asj (tl:TE)(σ:St)(H:Hp)(R:(It->Hp->Prop)):Prop:=tl σ H (AnN R)
theorem AnO{l:Expr}(m:PE X l tl):PI X tg l (Asj tl):=by
 intro pins s σ H R I h;refine thn (m pins s σ H _ I h) λv a ⟨x,H1,d,i,n⟩=>?_;obtain⟨z,e,q⟩:=n;subst e;obtain⟨t,rfl⟩:=i;have c:∀b∈[a.heap.objs.size],Jx X pins H1 b:=λb j=>by
  have e:b=a.heap.objs.size:=by simpa using j
  subst e;exact d.AfQ (AsY _) (d.hok.fresh (AsY _))
 cases f:z.cps.all (·<128)
 ·refine wpAny_pyIter_wide f ?_;exact⟨a.heap.objs.size,[a.heap.objs.size],_,_,H1,Z,d.kept λb o e=>zB _ e,Agl _ z t,⟨Atg _,_,zD _ Z,Z,Z⟩,c,q⟩
 ·refine wpAny_pyIter_ascii f ?_;exact⟨a.heap.objs.size,[a.heap.objs.size],_,_,H1,Z,d.kept λb o e=>zB _ e,Agk _ z t,⟨Atg _,_,zD _ Z,Z,Z⟩,c,q⟩
def CN (n:Nat)(Pv:Nat->Nn->Hp->Prop)(i:Nat)(ys:Nn)(H:Hp):Prop:=∃m',m'<n-i/\m'=n-(i+1)/\i+1<=n/\Pv (i+1) ys H
theorem CN.of(h:i<n)(p:Pv (i+1) ys H):CN n Pv i ys H:=⟨n-(i+1),As,Z,h,p⟩
def Sw (n:Nat)(Pv:Nat->Nn->Hp->Prop)(tc:TT)(te:TE)(σ:St)(i:Nat)(ys:Nn)(H:Hp):Prop:=
 tc σ H λb H2=>if b=true then te σ H2 λy H3=>CN n Pv i (ys++[y]) H3 else CN n Pv i ys H2
theorem Sw.no(h:te σ H λy H3=>CN n Pv i (ys++[y]) H3):Sw n Pv Vf te σ i ys H:=by unfold Sw Vf;exact AaZ h
theorem Lg{K:NA}{Q:VK}(Pv:Nat->Nn->Hp->Prop)(c:Pv 0 [] H)(h:∀i ys H,i<=xs.length->Pv i ys H->SqL K H a xs/\ys.length<=i)
  (l:xs.length<=sizeLine) (hs:∀i x ys H,i<xs.length->xs[i]?=some x->Pv i ys H->Sw xs.length Pv tc te (some x::Ec σ Aw) i ys H)
  (d:∀ys H p,Pv xs.length ys H->H p=none->Q (.ref p) (upd H p (.lst ys))):ZL Aw tc te (Itl K a) σ H Q:=by
 refine⟨λi m ys H=>m=xs.length-i/\i<=xs.length/\Pv i ys H,⟨xs.length,At,Atg _,c⟩,?_⟩;rintro i m ys H ⟨rfl,hi,p⟩;obtain⟨q,n⟩:=h i ys H hi p;by_cases b:i<xs.length
 ·refine .inr ⟨⟨xs,xs[i],q,At⟩,As,λx H' y=>?_⟩;obtain⟨e,y⟩:=y;subst e;exact hs i x ys _ b (y xs q) p
 ·have e:i=xs.length:=As
  subst e;exact .inl ⟨⟨xs,q,AsY _⟩,As,λj f=>d ys H j p f⟩
theorem Ado{ys:NU}:∀{us:NR},Vals (ys.map V.str) us->StrsAre us ys:=by
 induction ys with
 |nil=>intro us r;cases r;exact .nil
 |cons n ns b =>
  intro us r;cases r with
  |cons a c =>
   obtain⟨t,e⟩:=a;subst e;exact .cons n t (b c)
inductive rJoin (K:NA)(x:V)(vs:Nn)(H:Hp)(Q:VK):Prop
|mk(z:_)(a:_)(ys:_)(_:x=.str z)(_:vs=[.ref a])(_:SqL K H a (ys.map V.str))(_:(ys.map (·.length)).sum+ys.length*z.length<=16777216)(_:Q (.str (Txt.join z ys)) H)
theorem Ak9:MtR X "str.join" (rJoin X.K):=by intro pins s σ H x vs v us Q I b rv h;obtain⟨z,a,ys,rfl,rfl,e,d,q⟩:=h;obtain⟨t,rfl⟩:=b;obtain⟨u,rfl,c⟩:=rv.one;cases c;obtain⟨its,r,pl,f⟩:=I.list e;exact join_list pl.isList (Ado (by simpa using r)) d λt' k=>⟨.str _,H,I.tok _,⟨_,Z⟩,q⟩
inductive Aq9 (K:NA)(vs:Nn)(H:Hp)(Q:VK):Prop
|mk(x:_)(t:_)(b:_)(_:Rz K H x t)(_:((∃n,vs=[x,.ty n]/\W.kitOne K t (.type n)=some b)\/(∃a,vs=[x,.ref a]/\W.kitOne K t (.ref a)=some b)))(_:Q (.bl b) H)
theorem AhV:Bx X (.builtin "isinstance") (Aq9 X.K):=by
 intro pins s σ H xs us Q I rv h;obtain⟨x,t,b,ty,f,q⟩:=h;rcases f with ⟨n,rfl,e⟩|⟨a,rfl,e⟩
 ·obtain⟨j,i,rfl,d,c⟩:=rv.two;cases c;exact Ym I d ty e λtk=>⟨.bl b,H,I.tok _,Z,q⟩
 ·obtain⟨j,i,rfl,d,c⟩:=rv.two;cases c;exact Ym I d ty e λtk=>⟨.bl b,H,I.tok _,Z,q⟩
theorem AhW{x:V}(h:Cg x=true):eqV x x=true:=by
 cases x with
 |non=>rfl
 |bl b=>simp[eqV]
 |int i=>simp[eqV]
 |str z=>simp[eqV]
 |_=>exact z9 (show false=true from h) Atj
open PySem
def tx (l:NL):Str:=⟨l.toArray⟩
theorem Cv(l:NL):(tx l).length=l.length:=by simp[tx,Str.length]
theorem ZR(l:NL):(tx l).cps.toList=l:=by simp[tx]
theorem AnP(l:NL)(i:Nat):(tx l).cps[i]?=l[i]?:=by simp[tx]
theorem ZS(a b:NL):tx a++tx b=tx (a++b):=by show Str.append (tx a) (tx b)=_;simp[tx,Str.append]
theorem AhX{a b:NL}(h:tx a=tx b):a=b:=by
 have:=congrArg (λz:Str=>z.cps.toList) h
 simpa [tx]using this
end L2
namespace PySem
open Sem (wp)
open Builtin Builtin.Str Builtin.Int
namespace RV
end RV
end PySem
namespace L2
open PySem PySem.Spec PyProof.Rows
variable {X:Cx}{H H':Hp}{p order:Array Nat}{o oe:Obj}{G:Array GenState->Array GenState->Prop}{B h h2 h':Heap}{a C f ea Ch I S:NX}{ns hs:NV}{i n j ep mask finger moves:Nat}{v:Int}{α κ:Type}{tg e value:Expr}{l:List Env}{tl ta tv td ty:TE}{es es' es1:Array (Int×Nd)}{t t' t1:SetTable}{x qual m:Str}{apos cpos np pos pos' tpos:Pos}{T nid nC nD:String}{env:Env}{fl tb cd u d':Nd}{A:Around}{E E' Q₁:NS}{s s':Na}{Q:Unit->Na->Prop}{had b led gv:Bool}{P prog:Program}{w:World}{pins:NF}{σ:St}{bmB ds us:NR}{mg:Str->NW}{N ps ys:NU}{scope sc:Scope}{sp:Sp}{dvs:Nn}{d:Drawn}{D:List (Str×Str)}{pl c:Sem Bool}{CX:CXT}{y:V}{kvs:List (List Key×V)}{xs:List (List Key×NX×Nd)}{ks:List KS}{trs:List (TE×TE)}{its out items:Array Nd}{xl:List (Int×Nd)}{fp wr:NO}{R:Result->Na->Prop}{ow:Array (Option Nat)}{kl:List (List KS)}
theorem Adp(hc:X.calm=true:=by rfl):Bx X (.builtin "max") Sg:=AfX hc
theorem Adq(hc:X.calm=true:=by rfl):Bx X (.builtin "min") Sh:=AfY hc
theorem Ca.upd{p:NX}{o:HO}(h:H p=none):Ca H (L2.upd H p o):=λb o' e=>by rw[Af (Az e h)];exact e
theorem Ca.new{H1:Hp}{p:NX}{o:HO}(e:Ca H H1)(h:H1 p=none):Ca H (L2.upd H1 p o):=e.trans (.upd h)
theorem nu9{G B:Hp}{o:HO}(s:Ca G B)(n:B a=none):∃N,upd B a o=N/\Ca G N/\N a=some o:=⟨_,Z,s.new n,Ad⟩
theorem ZV:bootBuiltins "len"=some (.builtin "len"):=Ap
theorem Mp:bootBuiltins "isinstance"=some (.builtin "isinstance"):=Ap
theorem AnQ:bootBuiltins "abs"=some (.builtin "abs"):=Ap
theorem AhY:bootBuiltins "min"=some (.builtin "min"):=Ap
theorem AhZ:bootBuiltins "max"=some (.builtin "max"):=Ap
theorem AnR:bootBuiltins "sum"=some (.builtin "sum"):=Ap
theorem Gs:bootBuiltins "sorted"=some (.builtin "sorted"):=Ap
theorem AnS:bootBuiltins "any"=some (.builtin "any"):=Ap
theorem AnT:bootBuiltins "all"=some (.builtin "all"):=Ap
theorem ZW:bootBuiltins "list"=some (.type "list"):=Ap
theorem AnU:bootBuiltins "str"=some (.type "str"):=Ap
theorem AnV:bootBuiltins "int"=some (.type "int"):=Ap
theorem Aba:bootBuiltins "tuple"=some (.type "tuple"):=Ap
theorem Abb:bootBuiltins "reversed"=some (.type "reversed"):=Ap
theorem Pa:bootBuiltins "enumerate"=some (.type "enumerate"):=Ap
theorem AnW:bootBuiltins "zip"=some (.type "zip"):=Ap
theorem Abd:bootBuiltins "range"=some (.type "range"):=Ap
theorem Aia:bootBuiltins "set"=some (.type "set"):=Ap
structure Df (K:NA)(mg:Str->NW)(x:Str)(st:Nl)(ps:NU)(f:NX)(fd:NY):Prop where
 F:Fun K x x st f fd
 m:mg x=some (.ref f)
 b:Binds K fd ps []
def vS (cl:NN):Nn:=cl.map λt=>V.str (tx t)
def vI (ns:NV):Nn:=ns.map V.int
theorem AnX(a:NN):(vS a).length=a.length:=by unfold vS;rw[AsZ]
theorem J5(ns:NV):(vI ns).length=ns.length:=by unfold vI;rw[AsZ]
theorem AnY{n:Int}(h:ns[i]?=some n):(vI ns)[i]?=some (.int n):=by unfold vI;rw[Atn,h];rfl
theorem Aib{v:V}(h:(vI ns)[i]?=some v):∃t,ns[i]?=some t/\v=.int t:=by
 unfold vI at h;rw[Atn]at h;cases e:ns[i]? with
 |none=>simp_all
 |some t=>rw[e]at h;exact⟨t,Z,(yB h).symm⟩
theorem Ed(ns:NV):(vI ns).all Cg=true:=by unfold vI;rw[List.all_map];exact List.all_eq_true.mpr λ_ _=>rfl
theorem Vi(a:NN):(vS a).all Cg=true:=by unfold vS;rw[List.all_map];exact List.all_eq_true.mpr λ_ _=>rfl
theorem ZX{xs:List α}{i:Int}{v:α}(a:0<=i)(h:xs[i.toNat]?=some v):atI xs i=some v:=by
 have e:i=(i.toNat:Int):=As
 rw[e];exact Akz h
section
variable {K:NA}
theorem Pb(a:X.K=K:=by rfl):IxR X (Aqw K):=by subst a;exact Ae3
theorem V8(a:X.K=K:=by rfl):OpR X (compareOp .In) (rIn K false):=by subst a;exact Age
theorem Mq(a:X.K=K:=by rfl):OpR X (compareOp .NotIn) (rIn K true):=by subst a;exact ZD
theorem Dk(a:X.K=K:=by rfl):Bx X (.builtin "len") (J0 K):=by subst a;exact ZF
theorem Mr(a:X.K=K:=by rfl):Bx X (.type "list") (J1 K):=by subst a;exact ZJ
theorem R1(a:X.K=K:=by rfl):Bx X (.builtin "isinstance") (Aq9 K):=by subst a;exact AhV
theorem Pg(a:X.K=K:=by rfl):MtR X "str.join" (rJoin K):=by subst a;exact Ak9
theorem Aic(a:X.K=K:=by rfl):SlR X (Aqx K):=by subst a;exact Ae4
theorem J7{l:Expr}(b:PE X l tl)(a:X.K=K:=by rfl):PI X tg l (Amt K tl):=by subst a;exact Akg b
theorem Agm{a:Expr}(d:PE X a ta)(c:∀whole,isTrue a X.env whole=(do let v <-whole;standAt a.pos;holding [v] (truthy v)))(b:X.K=K:=by rfl) :
  PT X a (λσ H Q=>ta σ H λx H'=>∃k,Ako K x H' k/\Q k H'):=by subst b;exact AhG d c
variable {o:Expr}{es:List Expr}{to:TE}{t:TA}{name:Str}{id:String}{r:V->Nn->Hp->VK->Prop}
theorem AkA(e:PlainAttrs T)(slot:Slot T name id)(c:typeOf (.builtin id)=pure (.type "method_descriptor")) (h:MtR X id r) (f:PE X o to)
  (b:attributeBase o name X.env (eval o X.env)=eval o X.env:=by rfl) (a:(apos.endLine == cpos.line)=true:=by rfl) (d:X.K=K:=by rfl):PE X (.Call (.Attribute o name apos) [] [] cpos) (Aqy K T r to):=by
 subst d;exact AnI e slot c h f b a
theorem Eo(j:PlainAttrs T)(slot:Slot T name id)(f:typeOf (.builtin id)=pure (.type "method_descriptor")) (h:MtR X id r) (m:PE X o to) (l:PA X (e::es) t)
  (c:attributeBase o name X.env (eval o X.env)=eval o X.env:=by rfl)
  (d:((backTo cpos (starEach (e::es) X.env)).all (λx=>!x.1) && (backToKw cpos (keywordEach [] X.env)).all (λx=>x.1.isSome)
   && decide ((e::es).length+([]:List Keyword).length+(if ([]:List Keyword).isEmpty then 0 else 1)<30))=true:=by rfl)
  (b:(apos.endLine == cpos.line)=true:=by rfl) (hs:starEach (e::es) X.env=(false,eval e X.env)::starEach es X.env:=by rfl) (a:(backTo cpos (starEach es X.env)).any (·.1)=false:=by rfl) (i:X.K=K:=by rfl) :
  PE X (.Call (.Attribute o name apos) (e::es) [] cpos) (tBM K T r to t):=by
 subst i;exact Aq1 j slot f h m l c d b hs a
end
abbrev exO (C t:NX)(tb:Nd):Obj:={cls:=.ref C,data:=.fields #[.ref t,tb,.none,.none,.bool false,.none]}
structure Fx (B:Heap)(l:List Env)(e C t:NX)(fl:Nd)(h:Heap):Prop where
 st:B.StaysIn h
 ne:B.get? e=none
 fr:h.FunFrames B l
 ob:∃(T:NX)(oT:Obj)(ts:Array Nd),h.get? e=some (exO C t (.ref T))/\B.get? T=none/\T≠e/\h.get? T=some oT/\oT.data=.fields ts/\ts[3]?=some fl
theorem Fx.outer{e t:NX}(x:Fx B (env::l) e C t fl h):Fx B l e C t fl h:=⟨x.st,x.ne,x.fr.2.2,x.ob⟩
section
variable {M:Model}{e t L:NX}
theorem ZZ(x:Fx B l e C t fl s.heap)(k:∀h',Fx B l e C t .none h'->s.heap.UpToSlots h'->Q () {s with heap:=h'}):wpAny M A (setFlight (.ref e) none) Q E s:=by
 obtain⟨st,ne,fr,T,v,r,n,j,h,m,d,u⟩:=x;have i:3<r.size:=(Array.getElem?_eq_some_iff.mp u).1;unfold setFlight;refine zA (zV n Z (x:=.ref T) Z ?_);rw[z8 (show(Value.ref T != Value.none)=true by simp)];refine zU m d i (k _ ?_ ?_)
 all_goals
  have c:∀b,b≠T->(s.heap.update T (Obj.mapFields (·.setIfInBounds 3 ((none:Option NX).elim Value.none λf=>rawInt f)))).get? b=s.heap.get? b:=λb a=>zH _ _ (yD a);have p:∀b o,s.heap.get? b=some o->(∀vs,o.data≠.fields vs)->b≠T:=λb o a hn q=>by
   rw[q,m]at a;cases a;exact hn r d
 ·refine⟨λb o a=>(c b λq=>by rw[q,j]at a;cases a).trans (st b o a),ne,fr.of_keeps λb o a hn=>⟨o,(c b (p b o a hn)).trans a,Z⟩,T,_,_,(c e (yD h)).trans n,j,h,
   zN _ m (yN (zQ d _)),zQ d _,?_⟩;simp[i]
 ·exact λb o a hn=>⟨o.slots,(c b (p b o a hn)).trans a⟩
theorem Abe(hfr:A.frames=some (env::l))(D:env.frame=some L)(st:B.StaysIn s.heap)(ne:B.get? e=none)(fr:s.heap.FunFrames B (env::l))
  (j:s.heap.get? e=some (exO C t tb)) (k:∀h',Fx B (env::l) e C t (rawInt L) h'->s.heap.UpToSlots h'->Q () {s with heap:=h'}) :
  wpAny M A (do let a <-frameOf env;let pl <-entryPlaceOf L had;let b <-EntryCells.newEntry tb a .none (rawInt L) .none pl;setField (.ref e) 1 b) Q E s:=by
 have z:e∉(env::l).filterMap (·.frame):=λm=>by
  obtain⟨_,o,y,hn⟩:=fr.mem m;rw[j]at y;cases y;exact hn _ Z
 refine zA (wpAny_frameOf_fun hfr fr D λh1 i=>zA (wpAny_entryPlaceOf λpl n=>?_));unfold EntryCells.newEntry newFields;refine zA (z6 ?_ (n.sizeOk5 _ _ _ _ _));have w:h1.get? e=some (exO C t tb):=(i.2.1 e z).trans j;have h:B.StaysIn h1:=λb o c=>(i.2.1 b λm=>by rw[(fr.mem m).1]at c;cases c).trans (st b o c);have TE:h1.objs.size≠e:=Atr (yA w);generalize x:({cls:=.type "traceback",dict:=none,data:=.fields ([tb,.ref L,.none,rawInt L,.none]++(if pl.isEmpty then List.replicate 6 Value.none else pl)).toArray}:Obj)=f;have v:(h1.push f).get? e=some (exO C t tb):=zB f w;refine zU (s:={s with heap:=h1.push f}) v rfl (by show 1<6;decide) (k _ ?_ ?_)
 all_goals
  have p:∀b o,b≠e->h1.get? b=some o->((h1.push f).update e (Obj.mapFields (·.setIfInBounds 1 (Value.ref h1.objs.size)))).get? b=some o:=λb o c q =>
   (zH _ _ (yD c)).trans (zB f q);have u:∀b o,s.heap.get? b=some o->(∀vs,o.data≠.fields vs)->b≠e:=λb o c hn q=>by
   rw[q,j]at c;cases c;exact hn _ Z
 ·have d:f.isFreed=false:=by rw[<-x];rfl
  refine⟨λb o c=>p b o (λq=>by rw[q,ne]at c;cases c) (h b o c),ne,fr.of_keeps λb o c hn=>?_,h1.objs.size,f,_,zN _ v Z,h.fresh,TE,
   (zH _ _ (yD TE)).trans (zD h1 d),by rw[<-x],At⟩;obtain⟨r,q⟩:=i.2.2 b o c;exact⟨_,p b _ (u b o c hn) q,Z⟩
 ·intro b o c hn;obtain⟨r,q⟩:=i.2.2 b o c;exact⟨r,p b _ (u b o c hn) q⟩
theorem Aid(hfr:A.frames=some (env::l))(b:env.frame=some L)(st:B.StaysIn s.heap)(ne:B.get? e=none)(fr:s.heap.FunFrames B (env::l))
  (a:s.heap.get? e=some (exO C t .none)) (k:∀h',Fx B (env::l) e C t (rawInt L) h'->s.heap.UpToSlots h'->Q () {s with heap:=h'}):wpAny M A (noteFrame (.ref e) env) Q E s:=by
 unfold noteFrame;simp only [b];refine zA (zV a Z (x:=.none) Z ?_);rw[z7 Ab];exact Abe hfr b st ne fr a k
theorem AkB(hfr:A.frames=some (env::l))(m:env.frame=some L)(x:Fx B (env::l) e C t .none s.heap)
  (k:∀h',Fx B (env::l) e C t (rawInt L) h'->s.heap.UpToSlots h'->Q () {s with heap:=h'}):wpAny M A (noteFrame (.ref e) env) Q E s:=by
 obtain⟨st,ne,fr,T,v,r,j,i,f,h,d,p⟩:=x;unfold noteFrame;simp only [m];refine zA (zV j Z (x:=.ref T) Z ?_);rw[z8 (show(Value.ref T != Value.none)=true by simp)];refine zA (zV h d p ?_);rw[z7 (show ¬((Value.none == rawInt L)=true) by simp[rawInt])];refine zA (zU h d (Array.getElem?_eq_some_iff.mp p).1 ?_);have c:∀b,b≠T->(s.heap.update T (Obj.mapFields (·.setIfInBounds 3 Value.none))).get? b=s.heap.get? b:=λb a=>zH _ _ (yD a);have n:∀b o,s.heap.get? b=some o->(∀vs,o.data≠.fields vs)->b≠T:=λb o a hn q=>by
  rw[q,h]at a;cases a;exact hn r d
 exact Abe (s:={s with heap:=s.heap.update T (Obj.mapFields (·.setIfInBounds 3 Value.none))}) hfr m (λb o a=>(c b λq=>by rw[q,i]at a;cases a).trans (st b o a)) ne
  (fr.of_keeps λb o a hn=>⟨o,(c b (n b o a hn)).trans a,Z⟩) ((c e (yD f)).trans j)
  λh' y u=>k h' y λb o a hn=>u b o ((c b (n b o a hn)).trans a) hn
theorem Agn{f:Option NX}(x:Fx B l e C t fl s.heap)(k:∀h',Fx B l e C t (f.elim Value.none λf=>rawInt f) h'->s.heap.UpToSlots h'->Q () {s with heap:=h'}):wpAny M A (setFlight (.ref e) f) Q E s:=by
 obtain⟨st,ne,fr,T,v,r,n,j,h,m,d,u⟩:=x;have i:3<r.size:=(Array.getElem?_eq_some_iff.mp u).1;unfold setFlight;refine zA (zV n Z (x:=.ref T) Z ?_);rw[z8 (show(Value.ref T != Value.none)=true by simp)];refine zU m d i (k _ ?_ ?_)
 all_goals
  have c:∀b,b≠T->(s.heap.update T (Obj.mapFields (·.setIfInBounds 3 (f.elim Value.none λf=>rawInt f)))).get? b=s.heap.get? b:=λb a=>zH _ _ (yD a);have p:∀b o,s.heap.get? b=some o->(∀vs,o.data≠.fields vs)->b≠T:=λb o a hn q=>by
   rw[q,m]at a;cases a;exact hn r d
 ·refine⟨λb o a=>(c b λq=>by rw[q,j]at a;cases a).trans (st b o a),ne,fr.of_keeps λb o a hn=>⟨o,(c b (p b o a hn)).trans a,Z⟩,T,_,_,(c e (yD h)).trans n,j,h,
   zN _ m (yN (zQ d _)),zQ d _,?_⟩;simp[i]
 ·exact λb o a hn=>⟨o.slots,(c b (p b o a hn)).trans a⟩
theorem Aie(i:env.frame=some L)(x:Fx B l e C t (rawInt L) s.heap)(k:Q () s):wpAny M A (noteFrame (.ref e) env) Q E s:=by obtain⟨st,ne,fr,T,m,j,b,d,c,h,a,f⟩:=x;unfold noteFrame;simp only [i];refine zA (zV b Z (x:=.ref T) Z ?_);rw[z8 (show(Value.ref T != Value.none)=true by simp)];refine zA (zV h a f ?_);rw[z8 (show((rawInt L == rawInt L)=true) by simp)];exact zE k
end
structure Bk (P:Program)(w:World)(outer:List Env)(H:Hp)(h:Heap)(H':Hp)(B h':Heap):Prop where
 ok:HOk P w H' B
 keep:∀b o,h.get? b=some o->H b=none->b∉frs outer->B.get? b=some o
 slot:∀b o,h.get? b=some o->b∈frs outer->∃sl,h'.get? b=some {o with slots:=sl}
 free:∀b o,h.get? b=some o->H b=none->H' b=none
 there:∀b o,h.get? b=some o->b∉frs outer->∃o',B.get? b=some o'
 tups:∀b xs,H b=some (.tup xs)->H' b=some (.tup xs)
 DN:∀b o u,H b=some (.frz o u)->H' b=some (.frz o u)
 El:∀b ps,H b=some (.tbl ps)->∃more,H' b=some (.tbl (ps++more))
theorem Bk.slots{outer:List Env}{h1:Heap}(k:Bk P w outer H h H' B h1)(fr:h1.FunFrames B outer)(u:h1.UpToSlots h2):Bk P w outer H h H' B h2:=
 ⟨k.ok,k.keep,λb o q c=>by
  obtain⟨i,e⟩:=k.slot b o q c;obtain⟨_,o2,d,n2⟩:=fr.mem c;rw[e]at d;cases d;obtain⟨a,f⟩:=u b _ e n2;exact⟨a,f⟩,k.free,k.there,k.tups,k.DN,k.El⟩
def CX1 (P:Program)(w:World):CXT:=λouter H s E e s'=>∃ea C t H' B,e=.ref ea/\Fx B outer ea C t .none s'.heap/\s'.os=s.os/\AllBare s'.gens/\Bk P w outer H s.heap H' B s'.heap/\E (.ref C) none H'
inductive Fly (B:Heap) (l:List Env) (L ea C t:NX) (h:Heap):Prop where
 |new (st:B.StaysIn h) (ne:B.get? ea=none) (fr:h.FunFrames B l) (ob:h.get? ea=some (exO C t .none))
 |came (x:Fx B l ea C t .none h)
 |seen (x:Fx B l ea C t (rawInt L) h)
theorem Fly.fr{B:Heap}{l:List Env}{L ea C t:NX}{h:Heap}(x:Fly B l L ea C t h):h.FunFrames B l:=by
 cases x with
 |new st ne fr a=>exact fr
 |came x=>exact x.fr
 |seen x=>exact x.fr
def FlX (X:Cx)(E:XK):Nd->Na->Prop:=λe s'=>∃ea C t H' B,e=.ref ea/\Fly B X.stack X.env.locals ea C t s'.heap/\s'.os=X.s₀.os/\AllBare s'.gens/\Bk X.prog X.w X.outer X.H₀ X.s₀.heap H' B s'.heap/\E (.ref C) none H'
structure Body (X:Cx):Prop where
 stack:X.stack=X.env::X.outer
 frame:X.env.frame=some X.env.locals
 ex:X.ex=[]
section
variable {E:XK}{e:Nd}
theorem Inv.AkC(I:Inv X pins σ H s){b:NX}(q:X.s₀.heap.get? b=some o)(a:b∉X.fs):b∉frs X.stack:=λc=>by
 rcases zZ.mp (I.Zy b c) with z|z
 ·rw[z]at q;exact z9 (Ate (yA q) I.ok.above) (At0 _)
 ·exact a z
theorem AqA(hB:Body X)(I:Inv X pins σ H s)(c:CX1 X.prog X.w X.stack H s E e s'):FlX X E e s':=by
 obtain⟨ea,C,t,H',B,rfl,m,os,f,bk,q⟩:=c;have d:∀b:NX,b∉X.ex:=λb z=>by rw[hB.ex]at z;exact nomatch z
 have j:∀b,b∈X.fs->b∈frs X.stack:=λb a=>by
  rw[hB.stack];unfold frs;rw[AtQ,hB.frame];exact Ath _ a
 refine⟨ea,C,t,H',B,Z,.came m,os.trans I.os,f,⟨bk.ok,λb o e n a=>?_,λb o e a=>?_,λb o e n=>?_,λb o e a=>?_,λb xs e=>bk.tups b xs (I.base.tups b xs e),λb o u e=>bk.DN b o u (I.base.DN b o u e),λb ps e=>?_⟩,q⟩
 ·exact bk.keep b o (I.base.keep b o e n a (d b)) (I.base.free b o e n (d b)) (I.AkC e a)
 ·obtain⟨r,e1⟩:=I.base.slot b o e (I.ok.frf b a) a (d b);obtain⟨h,i⟩:=bk.slot b _ e1 (j b a);exact⟨h,i⟩
 ·obtain⟨o',e1⟩:=I.base.there b o e (d b);exact bk.free b o' e1 (I.base.free b o e n (d b))
 ·obtain⟨o',e1⟩:=I.base.there b o e (d b);exact bk.there b o' e1 (I.AkC e a)
 ·obtain⟨p,e1⟩:=I.base.El b ps e;obtain⟨l,i⟩:=bk.El b _ e1;exact⟨p++l,by rw[i,Array.append_assoc]⟩
theorem AqB{vs:NR}(hB:Body X)(I:Inv X pins σ H s)(h:Heap.MadeExcOf s.heap h' ea (.ref C) vs)(q:E (.ref C) none H):FlX X E (.ref ea) {s with heap:=h'}:=by
 obtain⟨t,p,_,_⟩:=h.there;have i:∀b:NX,b∉X.ex:=λb z=>by rw[hB.ex]at z;exact nomatch z
 have f:∀b u,H b=some u->b∉frs X.stack:=λb u e j=>by rw[I.Vb b j]at e;cases e
 refine⟨ea,C,t,H,W.hideAll s.heap (frs X.stack),Z,.new (λb o e=>h.keeps b o (W.of_hideAll _ e)) ?_ ?_ p,I.os,I.bare,⟨λb u e=>?_,λb o e n d=>?_,λb o e d=>?_,λb o e n=>I.base.free b o e n (i b),λb o e d=>?_,I.base.tups,I.base.DN,I.base.El⟩,q⟩
 ·cases z:(W.hideAll s.heap (frs X.stack)).get? ea with
  |none=>rfl
  |some o =>
   have:=W.of_hideAll _ z;rw[h.new]at this;cases this
 ·exact(W.funFrames_hide I.stack λenv r a l=>List.mem_filterMap.mpr ⟨env,r,l⟩).of_keeps λb o d _=>⟨o,h.keeps b o d,Z⟩
 ·refine(I.hok b u e).stay (λc v hc z=>W.hideAll_get _ z ?_) (λ_ z=>z) λ_ _ z=>z;rcases hc with z|z
  ·rw[z];exact f b u e
  ·exact f c _ z
 ·exact W.hideAll_get _ (I.base.keep b o e n d (i b)) (I.AkC e d)
 ·obtain⟨m,e1⟩:=I.base.slot b o e (I.ok.frf b d) d (i b);exact⟨m,h.keeps _ _ e1⟩
 ·obtain⟨o',e1⟩:=I.base.there b o e (i b);exact⟨o',W.hideAll_get _ e1 (I.AkC e d)⟩
theorem Aif{M:Model}{t:NX}(hB:Body X)(hfr:X.A.frames=some X.stack)(x:Fly B X.stack X.env.locals ea C t s.heap)
  (k:∀h',Fx B X.stack ea C t (rawInt X.env.locals) h'->s.heap.UpToSlots h'->Q () {s with heap:=h'}):wpAny M X.A (noteFrame (.ref ea) X.env) Q E' s:=by
 rw[hB.stack]at x hfr k;cases x with
 |new st ne fr a=>exact Aid hfr hB.frame st ne fr a k
 |came x=>exact AkB hfr hB.frame x k
 |seen x=>exact Aie hB.frame x (k s.heap x (.refl _))
theorem Ae6(hB:Body X)(x:h.FunFrames B X.stack):h.FunFrames B X.outer:=by rw[hB.stack]at x;exact x.2.2
theorem leaveX{M:Model}(hB:Body X)(hfr:X.A.frames=some X.stack)(c:FlX X E e s):wpAny M X.A (leaving X.env e) (λ_ b=>CX1 X.prog X.w X.outer X.H₀ X.s₀ E e b) E' s:=by obtain⟨ea,C,t,H',B,rfl,d,os,a,bk,q⟩:=c;unfold leaving;refine zA (Aif hB hfr d λh1 j l=>ZZ (s:={s with heap:=h1}) j λh2 i h=>?_);have f:=i;rw[hB.stack]at f;exact⟨ea,C,t,H',B,Z,f.outer,os,a,bk.slots (Ae6 hB d.fr) (l.trans h),q⟩
theorem Asl(hB:Body X)(hfr:X.A.frames=some X.stack):PassesOwn (model X.prog X.w) X.A X.env (FlX X E):=by rintro e s ⟨ea,C,t,H',B,rfl,b,os,a,bk,q⟩;unfold notedBy;refine Aif hB hfr b λh1 d j=>?_;obtain⟨T,l,m,h,_⟩:=d.ob;unfold cameBackBy;refine zA (zV (s:={s with heap:=h1}) h rfl (x:=.ref T) rfl ?_);rw[z7 At];refine Agn (s:={s with heap:=h1}) (f:=X.env.frame) d λh2 c i=>?_;rw[hB.frame]at c;exact⟨ea,C,t,H',B,Z,.seen c,os,a,bk.slots (Ae6 hB b.fr) (j.trans i),q⟩
end
def Ago (K:NA)(C:NX):NR:=match K.lookup C with
 |some ⟨_,_,.cls cd,_⟩=>cd.mro
 |_=>[]
theorem Aaa{K:NA}(X:K.In h)(q:W.excIn K C bmB nid=true) :
  ∃d N nm qn bs hdct sn sub ab col dd k0 k1 k2 k3 k5 mN,Ago K C=.ref C::d/\h.get? C=some (excClassObj nm qn C N bs d hdct sn sub ab col dd k0 k1 k2 k3 k5 nid)/\h.Ns N mN/\mN "__init__"=none/\OwnTail h bmB d:=by
 unfold W.excIn at q;split at q
 next dd cd sl ho =>
  split at q
  next C' d k0 k1 k2 k3 n k5 hm hs =>
   have f:Ago K C=cd.mro:=by unfold Ago;rw[ho]
   simp only [Ata,beq_iff_eq,At7]at q;obtain⟨⟨⟨⟨⟨j,l⟩,a⟩,i⟩,b⟩,c⟩:=q;subst j l;have e:sl=#[k0,k1,k2,k3,some (.builtin n),k5]:=by rw[<-hs]
   rw[hm]at f;cases cd;dsimp only at hm a b c;subst hm a e;exact⟨d,_,_,_,_,_,_,_,_,_,dd,k0,k1,k2,k3,k5,_,f,X _ _ ho,.of_isNs (W.isNs_of_in X b),W.nsMap_none_of_in X b c,W.tail_of_in X i⟩
  next=>cases q
 next=>cases q
inductive Aig (C:NX)(E:XK)(vs:Nn)(H1:Hp):Prop
|mk(_:vs.length<=sizeLine)(_:E (.ref C) none H1)
def AnZ (C:NX)(E:XK)(t:TA)(z0:Ends)(σ:St)(H:Hp):Prop:=t σ H (Aig C E)
section
variable {bmN:NR}{B Bn Asm iid Asn:String}{E:XK}{es:List Expr}{t:TA}
theorem Aih(hB:Body X)(hc:X.calm=true)(hw:∀e s',FlX X E e s'->X.xe e s')(i:ExcBaseFacts Bn nid iid bmN)(hn:bmB.contains (.type Bn)=true)(d:ExcBaseFacts B Asm Asn bmB)(q:W.excIn X.K C bmB nid=true)(A:Gl X x)(v:X.mg x=some (.ref C))(w:PA X.nox (e::es) t)
  (j:(x == ("__debug__":Str))=false:=by decide) (f:starEach (e::es) X.env=(false,eval e X.env)::starEach es X.env:=by rfl) (c:(backTo cpos (starEach es X.env)).any (·.1)=false:=by rfl) :
  PS X (.Raise (some (.Call (.Name x np) (e::es) [] cpos)) none pos) (AnZ C E t):=by
 intro pins s σ H D I h;obtain⟨F,N,nm,qn,bs,hdct,sn,sub,ab,col,dd,k0,k1,k2,k3,k5,mN,_,l,o,b,T⟩:=Aaa I.ok.mod.kin q;refine wpAny_Raise_call_subU (N:=N) (C:=C) (k5:=k5) (k3:=k3) (k2:=k2) (k1:=k1) (k0:=k0) (dd:=dd) (col:=col) (ab:=ab) (sub:=sub) (sn:=sn) (hdct:=hdct) (bs:=bs) (q:=qn) (nm:=nm) (newId:=nid) i hn d (mN:=mN) (T.hasType d.hasBase) (I.ok.hd hc) (by rw[f];show(false || (backTo cpos (starEach es X.env)).any (·.1))=false;rw[c];rfl) b (Lf I A v ⟨Z,?_⟩ j);have h1:=w cpos pins s σ H _ (I.wish _) h;rw[f]at h1 ⊢;refine Calls.evalArgs_plain (zO h1 (λus p z=>?_) λ_ _ z=>z.elim);obtain⟨vs,H1,m,r,y,u⟩:=z;have a:Inv X pins σ H1 p:=m.Cu;exact⟨Z,by rw[<-r.length];exact y,a.bk _ _ l,o.keeps a.bk,T.keeps a.bk,λh' ea n=>hw _ _ (AqB hB a n u)⟩
end
abbrev cx1 (P:Program)(w:World)(K:NA)(mg:Str->NW)(base:Heap)(N:NU)(qual:Str)(scope:Scope)(f:NX)(cd:Nd)(A:Around)(outer:List Env)(s:Na)(H:Hp)(E:XK):Cx:=
 (O9 (CX1 P w) P w K mg base N qual scope f cd A outer s H E).wish (FlX (O9 (CX1 P w) P w K mg base N qual scope f cd A outer s H E) E)
section
variable {K:NA}{base:Heap}
theorem Am3{outer:List Env}{E:XK}:Body (cx1 P w K mg base N qual scope f cd A outer s H E):=⟨Z,Z,Z⟩
theorem Fun.okX{st:Nl}{fd:NY}{k:Nat}(F:Fun K x qual st f fd)(S:Bf N ps (Ac st))
  (b:∀(a:Nd)(A:Around)(outer:List Env)(s:Na)(H:Hp)(vs:Nn)(Q:VK)(E:XK),BX k (A.deeper (envOfC qual (Ac st) s.heap.objs.size f a))->sp vs H Q E ->
   ∃t,PSs (cx1 P w K mg base N qual (Ac st) f a A outer s H E) (Bl st) t/\t {nx:=λ_ H'=>Q .non H',rt:=Q} (start N vs) H) (len:∀vs H Q E,sp vs H Q E->vs.length=ps.length:=by intro _ _ _ _ h;cases h;subst_vars;rfl):BR P w K mg base (CX1 P w) (k+1) f fd ps sp:=by
 obtain⟨p,o,kV,m,n,an,a,ct,i,rfl,lk,c⟩:=F.ex;refine AhL lk c S len λA outer s H vs Q E l d=>?_;obtain⟨t,h,q⟩:=b a A outer s H vs Q E l d;refine⟨t,λpins j σ H1 D I h1=>?_,q⟩;exact zO (h pins j σ H1 D (I.wish _) h1) (λ_ _ z=>z.Cu) λe s' z=>leaveX (X:=O9 (CX1 P w) P w K mg base N qual (Ac st) f a A outer s H E) ⟨Z,Z,Z⟩ I.ok.frames z
theorem Abf{outer:List Env}{E:XK} :
  Passes (CX1 P w) (cx1 P w K mg base N qual scope f cd A outer s H E) E:=λ_ _ _ _ _ _ I c=>AqA ⟨Z,Z,Z⟩ I.Cu c
end
theorem PS.nox{st:Nl}{t:TS}(h:PS X.nox st t):PS X st t:=λpins s σ H D I hw =>
 zO (h pins s σ H D (I.wish _) hw) (λ_ _ q=>q.Cu) λ_ _ z=>yI z
def PEX (X:Cx)(e:Expr)(t:XK->TE):Prop:=∀(pins:NF)(s:Na)(σ:St)(H:Hp)(Q:VK)(E:XK),Inv X pins σ H s->t E σ H Q ->
 wpAny (model X.prog X.w) X.A (eval e X.env) (EP X pins σ Q) (λex s'=>∃H1 s1,Inv X pins σ H1 s1/\CX1 X.prog X.w X.stack H1 s1 E ex s') s
section
variable {k:Nat}{fd:NY}{p:Pos}{o:Expr}{es:List Expr}{t:TA}
theorem AkD{Q:VK}{E:XK}{vs:Nn}(F:BR X.prog X.w X.K X.mg X.base (CX1 X.prog X.w) k f fd ps sp)(d:BX k X.A)(i:Binds X.K fd ps ds)(l:Vals dvs ds)
  (I:Inv X pins σ H s) (r:Vals vs us) (h:sp (vs++dvs) H Q E):wpAny (model X.prog X.w) X.A (call (.ref f) us) (EP X pins σ Q) (λex s'=>∃H1 b,Inv X pins σ H1 b/\CX1 X.prog X.w X.stack H1 b E ex s') s:=by
 have c:Vals (vs++dvs) (us++ds):=r.append l;have j:(us++ds).length=ps.length:=(c.length.symm).trans (F.len _ _ _ _ h);refine wpAny_call (yQ (F.run X.A X.stack s H ⟨us,[]⟩ (us++ds) (vs++dvs) Q E d I.env0 (i s us I.kIn j) c h) λm s' a=>?_)
 match m,a with
 | .error e,a=>exact⟨H,s,I,a⟩
 | .ok (.ret u),a=>exact I.after a
 | .ok .next,a=>exact yI a
 | .ok .brk,a=>exact yI a
 | .ok .cont,a=>exact yI a
theorem Dp(F:BR X.prog X.w X.K X.mg X.base (CX1 X.prog X.w) k f fd ps sp)(l:BX k X.A)(o:Gl X x)(d:X.mg x=some (.ref f))(hk:W.keepIn X.K (.ref f)=true)(m:Binds X.K fd ps ds)(i:Vals dvs ds)
  (j:PA X.nox (e::es) t) (a:(x == ("__debug__":Str))=false:=by decide) (n:starEach (e::es) X.env=(false,eval e X.env)::starEach es X.env:=by rfl) (b:(backTo pos (starEach es X.env)).any (·.1)=false:=by rfl) :
  PEX X (.Call (.Name x p) (e::es) [] pos) λE=>Amx sp dvs E t:=by
 intro pins s σ H Q E I h;refine yH (Lf I o d ?_ a);refine W.callWith_K (h₀:=X.base) I.ok.mod.kin hk (zO (j pos pins s σ H _ (I.wish _) h) (λus u ⟨vs,H1,c,r,q⟩=>⟨c.kIn,?_⟩) λ_ _ z=>z.elim) n b;exact AkD F l m i (c.Cu) r q
end
def exH (C a:NX):HO:=.ext λh=>∃t tb,h.get? a=some (exO C t tb)
theorem BV.get{o:HO}(x:BV P w H h a o):∃u,h.get? a=some u:=by
 induction o with
 |lst xs=>obtain⟨_,_,_,_,e⟩:=x;exact⟨_,e⟩
 |tup xs=>obtain⟨_,_,_,_,e,_⟩:=x;exact⟨_,e⟩
 |dK kvs=>obtain⟨_,_,_,_,_,_,_,e,_⟩:=x;exact⟨_,e⟩
 |dT kvs=>obtain⟨_,_,_,_,_,_,_,e,_⟩:=x;exact⟨_,e⟩
 |set S n=>obtain⟨_,_,_,_,e,_⟩:=x;exact⟨_,e⟩
 |ins C dx fs=>obtain⟨_,_,_,e,_⟩:=x;exact⟨_,e⟩
 |own y=>obtain⟨_,e⟩:=x;exact⟨_,e⟩
 |xd fs=>obtain⟨_,⟨_,_,_,e,_⟩,_⟩:=x;exact⟨_,e⟩
 |rng lo hi=>obtain⟨_,_,_,e⟩:=x;exact⟨_,e⟩
 |frz b u c=>obtain⟨e,_⟩:=x;exact⟨_,e⟩
 |tbl ps=>exact⟨_,x⟩
 |met f y=>exact⟨_,x⟩
 |ext d=>exact x.2.1
section
variable {t:NX}
theorem Bk.none{P:Program}{w:World}{outer:List Env}{h h':Heap}(k:Bk P w outer H h H' B h')(ne:B.get? ea=Option.none):H' ea=Option.none:=by
 cases q:H' ea with
 |none=>rfl
 |some o =>
  obtain⟨u,e⟩:=(k.ok ea o q).get;rw[ne]at e;cases e
theorem Ae7(I:Inv X pins σ H s)(os:s'.os=s.os)(i:AllBare s'.gens)(bk:Bk X.prog X.w X.stack H s.heap H' B h2)(f:Fx B X.stack ea C t fl h2) :
  Inv X pins σ (upd H' ea (exH C ea)) {s' with heap:=h2}:=by
 have hn:=bk.none f.ne;obtain⟨T,x,E,m,_⟩:=f.ob;have ne:∀b o,s.heap.get? b=some o->b≠ea:=λb o e z=>by
  by_cases a:b∈frs X.stack
  ·obtain⟨_,o2,p,n2⟩:=f.fr.mem a;rw[z,m]at p;cases p;exact n2 _ Z
  ·obtain⟨o',e1⟩:=bk.there b o e a;rw[z,f.ne]at e1;cases e1
 have h:∀b u,H' b=some u->b≠ea:=λb u e z=>by
  rw[z,hn]at e;cases e
 obtain⟨D,g,d,tk,l⟩:=s';obtain rfl:l=s.os:=os;refine I.call (s:=s) (h':=h2) (g':=g) (d':=d) (t':=tk) (ch:=[]) ⟨λb o e n a _=>f.st _ _ (bk.keep b o e n a),λb o e n a _=>bk.slot b o e a,λb o e n _=>?_,λb o e _=>?_,λb xs e=>?_,λb o u e=>?_,λb ps e=>?_⟩ (λb u e=>?_) i (λb z=>nomatch z)
 ·rw[Af (ne b o e)];exact bk.free b o e n
 ·by_cases a:b∈frs X.stack
  ·obtain⟨y,e1⟩:=bk.slot b o e a;exact⟨_,e1⟩
  ·obtain⟨o',e1⟩:=bk.there b o e a;exact⟨o',f.st _ _ e1⟩
 ·have e1:=bk.tups b xs e;rw[Af (h _ _ e1)];exact e1
 ·have e1:=bk.DN b o u e;rw[Af (h _ _ e1)];exact e1
 ·obtain⟨r,e1⟩:=bk.El b ps e;exact⟨r,by rw[Af (h _ _ e1)];exact e1⟩
 ·by_cases a:b=ea
  ·subst a;rw[Ad]at e;cases e;exact⟨⟨t,_,m⟩,⟨_,m⟩,λh1 A ⟨t',j,q⟩ k=>⟨t',j,k _ q⟩⟩
  ·rw[Af a]at e;refine(bk.ok b u e).stay (λc v _ q=>f.st _ _ q) (λc q=>?_) λc xs q=>?_
   ·rw[Af (h _ _ q)];exact q
   ·rw[Af (h _ _ q)];exact q
abbrev Cx.hdl (X:Cx)(e:NX):Cx:={X with A:=X.A.mark (some (.ref e)),calm:=false,xe:=λ_ _=>False}
theorem Inv.hdl(I:Inv X pins σ H s)(e:NX):Inv (X.hdl e) pins σ H s:=
 ⟨⟨I.ok.mod,I.ok.kind,I.ok.glob,I.ok.blt,I.ok.above,I.ok.inj,I.ok.has,I.ok.cab,(λz=>nomatch z),I.ok.frames,I.ok.stk,I.ok.exf,I.ok.bs,I.ok.bsz,I.ok.Zw,I.ok.Zx,I.ok.Jv,I.ok.frf⟩,I.os,I.bare,I.base,I.loc,I.cell,I.free,I.Dm,I.pin,I.hok,I.len⟩
theorem Inv.AqC{e:NX}(a:X.calm=true->X.A.handled=none)(I:Inv (X.hdl e) pins σ H s):Inv X pins σ H s:=
 ⟨⟨I.ok.mod,I.ok.kind,I.ok.glob,I.ok.blt,I.ok.above,I.ok.inj,I.ok.has,I.ok.cab,a,I.ok.frames,I.ok.stk,I.ok.exf,I.ok.bs,I.ok.bsz,I.ok.Zw,I.ok.Zx,I.ok.Jv,I.ok.frf⟩,I.os,I.bare,I.base,I.loc,I.cell,I.free,I.Dm,I.pin,I.hok,I.len⟩
theorem Inv.forget{n:Str}{m:Str->NW}{v:NW}{tk:Nat}(I:Inv X pins σ H s)(F:X.N.Nodup)(K:X.N[j]?=some n)(hn:s.heap.Ns X.env.locals m)
  (J:∀(i:Nat)(x:Str)(v:V),X.N[i]?=some x->σ[i]?=some (some v)->Vis X.env.scope x->∃u,RelV v u/\Look X.env s.heap m x u) (B:h'.Ns X.env.locals (λx=>if x=n then v else m x)) (hs:Heap.SameBut X.env.locals s.heap h') :
  Inv X pins (σ.set j none) H {s with heap:=h',toks:=tk}:=by
 obtain⟨Q,_,_,C,_⟩:=id hn;have f:∀b o,X.s₀.heap.get? b=some o->b≠X.env.locals:=λb o e=>Atb (Ate (yA e) I.ok.above);refine⟨I.ok,I.os,I.bare,⟨λb o e n A t=>?_,λb o e n A t=>?_,I.base.free,λb o e t=>?_,I.base.tups,I.base.DN,I.base.El⟩,⟨_,B,λi y w e1 h O=>?_⟩,λy c e=>?_,I.free,I.Dm,λp D=>?_,λb u e=>?_,by rw[List.length_set];exact I.len⟩
 ·exact(hs.2 b (f b o e)).trans (I.base.keep b o e n A t)
 ·obtain⟨L,e1⟩:=I.base.slot b o e n A t;exact⟨L,(hs.2 b (f b o e)).trans e1⟩
 ·obtain⟨o',e1⟩:=I.base.there b o e t;exact⟨o',(hs.2 b (f b o e)).trans e1⟩
 ·by_cases a:i=j
  ·subst a;rw[List.getElem?_set]at h;split at h
   ·split at h<;>cases h
   ·exact z9 Z ‹_›
  ·rw[Auk (yD a)]at h;obtain⟨u,r,l⟩:=J i y w e1 h O;refine⟨u,r,?_⟩;rcases l with ⟨k,z⟩|⟨k,c,z,y'⟩
   ·have:y≠n:=λq=>a (Vv F e1 (q▸K));exact .inl ⟨k,by simp[this,z]⟩
   ·exact .inr ⟨k,c,z,y'.sameBut hs (I.cne y c z)⟩
 ·obtain⟨G,z⟩:=I.cell y c e;exact⟨G,z.sameBut hs (I.cne y c e)⟩
 ·obtain⟨e,n1,n2,E,d⟩:=I.pin p D;exact⟨(hs.2 p.1 n2).trans e,n1,n2,E,d⟩
 ·refine(I.hok b u e).stay (λc P hc q=>(hs.2 c ?_).trans q) (λ_ q=>q) λ_ _ q=>q;rintro rfl;rcases hc with z|z
  ·rw[<-z,I.free]at e;cases e
  ·rw[I.free]at z;cases z
end
section
variable {M:Model}{g:Array GenState}{t:Nat}{os:OsState}
theorem Abg{K:NA}{D e:NX}{n l:NR}{Q:Bool->Na->Prop}(X:K.In h)(m:W.excIn K C n nC=true)(u:W.excIn K D l nD=true)
  (o:l.contains (.type "BaseException")=true) (s:h.get? e=some oe) (hc:oe.cls=.ref C) (a:Q ((Ago K C).contains (.ref D)) ⟨h,g,d,t,os⟩):wpAny M A (excMatches (.ref e) (.ref D)) Q E ⟨h,g,d,t,os⟩:=by
 obtain⟨c,_,_,_,_,_,_,_,_,_,_,_,_,_,_,_,_,e1,p,_,_,v⟩:=Aaa X m;obtain⟨i,_,_,_,_,_,_,_,_,_,_,_,_,_,_,_,_,_,j,_,_,r⟩:=Aaa X u;have b:(Value.ref D::i).contains (.type "BaseException")=true:=by rw[List.contains_cons,r.hasType o,Bool.or_true]
 have f:=tc_notTuple;rw[e1]at a;unfold excMatches
 repeat (first | (with_reducible refine wpAny_loadPart_at s ?_;rw[hc])|with_reducible refine wpAny_loadPart_at j ?_ | (with_reducible refine wpAny_isSubtype_exc j ?_;rw[b])|with_reducible refine wpAny_isSubtype_exc p ?_|wp_step)
 all_goals (revert a;cases (Value.ref C::c).contains (Value.ref D)<;>intro a)
 all_goals (repeat (first|exact a|wp_step))
end
abbrev WX (X:Cx)(pins:NF)(σ:St)(E:XK):Nd->Na->Prop:=λex s'=>∃H1 s1,Inv X pins σ H1 s1/\CX1 X.prog X.w X.stack H1 s1 E ex s'
def PSX (X:Cx)(st:Nl)(t:XK->TS):Prop:=∀(pins:NF)(s:Na)(σ:St)(H:Hp)(D:Ends)(E:XK),Inv X pins σ H s->t E D σ H->wpAny (model X.prog X.w) X.A (exec st X.env) (SP X pins D) (WX X pins σ E) s
def AqD (X:Cx)(st:List Nl)(t:XK->TS):Prop:=∀(pins:NF)(s:Na)(σ:St)(H:Hp)(D:Ends)(E:XK),Inv X pins σ H s->t E D σ H->wpAny (model X.prog X.w) X.A (execs st X.env) (SP X pins D) (WX X pins σ E) s
section
variable {t u:XK->TS}{te:XK->TE}{st:Nl}
theorem Dq(h:PSX X st t):AqD X [st] t:=by
 intro pins s σ H D E I h1;refine wpAny_execs_cons (thn (h pins s σ H D E I h1) λf a q=>?_)
 match f,q with
 | .next,q=>exact wpAny_execs_nil q
 | .brk,q=>exact q
 | .cont,q=>exact q
 | .ret u,q=>exact q
theorem Fv(c:PEX X e te):PSX X (.Return (some e) pos) λE=>ApZ (te E):=by intro pins s σ H D E I h;exact wpAny_Return_some (thn (c pins s σ H _ E I h) λv f ⟨x,H1,a,d,b⟩=>⟨x,σ,H1,a,d,b⟩)
abbrev Ends.un (D:Ends)(j:Nat):Ends:={nx:=λσ H=>D.nx (σ.set j none) H,rt:=D.rt,bk:=λσ H=>D.bk (σ.set j none) H,ct:=λσ H=>D.ct (σ.set j none) H}
def Sub (K:NA)(C D:NX):Prop:=(∃bm nid,W.excIn K C bm nid=true)/\(Ago K C).contains (.ref D)=true
def Aso (K:NA)(Ch:NX)(j:Nat)(t:XK->TS)(ts:TS):TS:=λD σ H=>t (λc _ H'=>∃C,c=.ref C/\Sub K C Ch/\∀ea,H' ea=none->ts (D.un j) (σ.set j (some (.ref ea))) (upd H' ea (exH C ea))) D σ H
theorem J8{body b:List Nl}{d:Nl}{Y:TS}{n:Str}{c:Pos}(hB:Body X)(hc:X.calm=true)(hb:AqD X body t)(hN:X.N.Nodup)(S:X.N[j]?=some n)
  (hn:X.env.scope.names.lookup n=some .local) (hg:Gl X x) (hm:X.mg x=some (.ref Ch)) (hq:W.excIn X.K Ch bmB nid=true) (F:bmB.contains (.type "BaseException")=true) (hs:∀ea,PSs (X.hdl ea) (d::b) Y)
  (hd:(x == ("__debug__":Str))=false:=by decide) :
  PS X (.Try body [.ExceptHandler (some (.Name x np)) (some n) (d::b) c] [] [] pos) (Aso X.K Ch j t Y):=by
 intro pins s σ H D I h;refine wpAny_Try_except (zO (hb pins s σ H D _ I h) (λf s1 q=>?_) λex s1 z=>?_)
 ·match f,q with
  | .next,q=>exact wpAny_execs_nil q
  | .brk,q=>exact q
  | .cont,q=>exact q
  | .ret u,q=>exact q
 ·obtain⟨H1,s0,U,ea,C,t0,H',B,rfl,G,os,e,bk,C',eC,⟨⟨bC,nC,qC⟩,sub⟩,ht⟩:=z;obtain rfl:C=C':=by cases eC;rfl
  refine Aif hB I.ok.frames (.came G) λh1 x1 u1=>ZZ (s:={s1 with heap:=h1}) x1 λh2 y u2=>?_;have o:=(bk.slots G.fr u1).slots x1.fr u2;have R:Inv X pins σ (upd H' ea (exH C ea)) {s1 with heap:=h2}:=Ae7 U os e o y;refine wpAny_handleBy_cons (codeAny_handlers_test (Lf (X:=X.hdl ea) (R.hdl ea) hg hm ?_ hd)) (by intro q;cases q);obtain⟨T,oT,tt,hE,_⟩:=y.ob;refine Abg R.kIn qC hq F hE Z ?_;rw[sub];refine codeAny_handlers_suite_as ?_;refine ZZ (s:={s1 with heap:=h2}) y λh3 x3 u3=>?_;have I3:Inv X pins σ (upd H' ea (exH C ea)) {s1 with heap:=h3}:=Ae7 U os e (o.slots y.fr u3) x3;refine O7 (X:=X.hdl ea) (I3.hdl ea) hN S (.inl hn) (v:=.ref ea) Z (λs4 I4=>?_) (.inr hn);refine zO (hs ea pins s4 _ _ _ I4 (ht ea (bk.none G.ne))) (λf L q=>?_) λ_ _ z=>z.elim;have go:∀{σ':St} {a:Hp} {Q:Unit->Na->Prop},Inv (X.hdl ea) pins σ' a L->(∀l,Inv X pins (σ'.set j none) a l->Q () l)->wpAny (model X.prog X.w) X.A (do bindName X.env n .none;unbindBehindTheSuite X.env n c) Q X.xe L:=λ{σ' a Q} J k=>by
   have P:Inv X pins σ' a L:=J.AqC I.ok.hd;obtain⟨m,p,hl⟩:=id P.loc;refine wpAny_nameGoes_keeps hn p (by rw[I.ok.kind];rfl) λh6 v E O=>k _ ?_;exact P.forget hN S p hl E O
  match f,q with
  | .next,⟨σ',a,J,q⟩=>exact go J λl i=>⟨_,a,i,q⟩
  | .brk,⟨σ',a,J,q⟩=>exact go J λl i=>⟨_,a,i,q⟩
  | .cont,⟨σ',a,J,q⟩=>exact go J λl i=>⟨_,a,i,q⟩
  | .ret u,⟨v,σ',a,J,r,q⟩=>exact go J λl i=>⟨v,_,a,i,r,q⟩
end
structure ExC (K:NA)(C:NX):Prop where
 ga:W.findIn K (.ref C) "__getattribute__"=some (some (.builtin "BaseException.__getattribute__"))
 gt:W.findIn K (.ref C) "__getattr__"=some none
 cl:W.findIn K (.ref C) "__class__"=some (some (.builtin "object.__class__"))
 gc:W.specialIn K (.builtin "object.__class__") "__get__"=some (some (.builtin "getset_descriptor.__get__"))
 tk:W.takesIn K (.builtin "object.__class__")=some true
 ob:W.mroIn K C (.type "object")=some true
 be:W.mroIn K C (.type "BaseException")=some true
 is:(W.clsIn K C).isSome=true
theorem Agp:(Manifest.canonical "BaseException.__getattribute__" != "object.__getattribute__")=false:=Ap
section
variable {K:NA}{x t:NX}
theorem AkE(a:h.get? x=some (exO C t tb)):W.InstAt h x (exO C t tb) C none:=⟨a,Z,Z,True.intro⟩
theorem AkF{Q:Nd×NR->Na->Prop}(X:K.In s.heap)(b:s.heap.get? x=some (exO C t tb))(c:ExC K C)(d:W.findIn K (.ref C) m=some (some (.ref f)))
  (e:W.isFn K (.ref f)=true) (h:Q (.ref f,[.ref x]) s):wpAny (model prog w) A (getMethod (.ref x) m pl) Q E s:=by
 have I:=AkE b;have a:W.typeIn K (.ref f)=some (.type "function"):=beq_iff_eq.mp e;unfold getMethod specialOf;refine zA (zA (I.type.here ((W.looks_findIn X c.ga).here ?_)))
 try dsimp only
 rw[Agp,z7 Atj];refine zA (zA (I.type.here ((W.looks_findIn X c.gt).here ?_)));refine zA (zA (I.type.here ((W.looks_findIn X d).here (zA ((W.looks_typeIn X a).here ?_)))));rw[z7 Ap];refine zA (wpAny_loadPart b ?_);exact zA (wpAny_rule (zE h))
end
section
variable {K:NA}
theorem AqE(I:Inv X pins σ H s)(e:H a=some (exH C a)):∃t tb,s.heap.get? a=some (exO C t tb):=(I.hok a _ e).1
variable {k:Nat}{sp:NX->Sp}{E:XK}{o:Expr}
end
abbrev vE:NR:=[.type "ValueError",.type "Exception",.type "BaseException",.type "object"]
abbrev vN:String:= "ValueError.__new__"
structure Exn (K:NA)(C:NX):Prop where
 q:W.excIn K C vE vN=true
 c:ExC K C
 ty:W.typeIn K (.ref C)=some (.type "type")
 ve:W.mroIn K C (.type "ValueError")=some true
theorem Aoa{K:NA}(q:W.excIn K C vE vN=true)(b:W.findIn K (.ref C) "__getattribute__"=some (some (.builtin "BaseException.__getattribute__"))) (h:W.findIn K (.ref C) "__getattr__"=some none)
  (d:W.findIn K (.ref C) "__class__"=some (some (.builtin "object.__class__"))) (f:W.specialIn K (.builtin "object.__class__") "__get__"=some (some (.builtin "getset_descriptor.__get__"))) (tk:W.takesIn K (.builtin "object.__class__")=some true)
  (a:W.mroIn K C (.type "object")=some true) (e:W.mroIn K C (.type "BaseException")=some true) (i:W.isClsIn K C=true) (ty:W.typeIn K (.ref C)=some (.type "type")) (c:W.mroIn K C (.type "ValueError")=some true):Exn K C:=
 ⟨q,⟨b,h,d,f,tk,a,e,i⟩,ty,c⟩
theorem Dt:vE.contains (.type "BaseException")=true:=Ab
theorem Aob:vE.contains (.type "ValueError")=true:=Ab
theorem Exn.sub{K:NA}{D:NX}(x:Exn K C)(r:W.mroIn K C (.ref D)=some true):Sub K C D:=by
 refine⟨⟨_,_,x.q⟩,?_⟩;obtain⟨cd,h1,h2⟩:=Option.bind_eq_some_iff.mp r;unfold W.clsIn at h1;unfold Ago;split at h1
 next c d cd' sl ho =>
  cases h1;rw[ho];split at h2
  ·cases h2
  ·exact yB h2
 next=>cases h1
section
variable {k:Nat}{fd:NY}{E:XK}{o:Expr}
inductive Aii (C:NX)(sp:Sp)(E:XK)(Q:VK)(x:V)(H1:Hp):Prop
|mk(a:_)(_:x=.ref a)(_:H1 a=some (exH C a))(_:sp [x] H1 Q E)
def Aoc (C:NX)(sp:Sp)(E:XK)(ta:TE)(σ:St)(H:Hp)(Q:VK):Prop:=ta σ H (Aii C sp E Q)
end
def Bg (s:Nl):List Stmt:=match s with
 | .ClassDef _ _ _ b _ _ _ _ _ _ _=>b
 |_=>[]
structure Mf (K:NA)(x q:Str)(st:Nl)(ps:NU)(C f:NX)(fd:NY):Prop where
 F:Fun K x q st f fd
 m:Meth K C x f
 b:Binds K fd ps []
open Builtin Builtin.Str
def Ads (u:NL)(lo hi:Option Int):NL:=(u.drop (HT.sIx u.length 0 lo)).take (HT.sIx u.length u.length hi-HT.sIx u.length 0 lo)
theorem Aod(a b:Nat):sliceRange (a:Int) (b:Int) 1=(List.range (b-a)).map λk=>a+k:=by
 unfold sliceRange;simp only [show(1:Int)>0 by decide,if_true];by_cases h:(a:Int)<(b:Int)
 ·rw[z8 h,Int.ediv_one,show(b:Int)-(a:Int)+1-1=((b-a:Nat):Int) by lia,AtJ];exact AtU λk _=>As
 ·rw[z7 h,show b-a=0 by lia];rfl
theorem Lh(n d:Nat)(i:Int):max 0 (min (if i<0 then i+(n:Int) else i) (n:Int))=(HT.sIx n d (some i):Int):=by
 show _=(((if i<0 then (i+(n:Int)).toNat else min i.toNat n):Nat):Int);by_cases h:i<0
 ·rw[z8 h,z8 h];lia
 ·rw[z7 h,z7 h];lia
theorem idx_eq(n:Nat)(lo hi:Option Int):strSliceIndices lo hi 1 n=(List.range (HT.sIx n n hi-HT.sIx n 0 lo)).map λk=>HT.sIx n 0 lo+k:=by
 rw[<-Aod];cases lo with
 |none =>
  cases hi with
  |none=>rfl
  |some j=>rw[<-Lh];rfl
 |some i =>
  cases hi with
  |none=>rw[<-Lh n 0 i];rfl
  |some j=>rw[<-Lh n 0 i,<-Lh n n j];rfl
theorem Aij(u:NL)(lo hi:Option Int):Txt.slice (tx u) lo hi=tx (Ads u lo hi):=by
 unfold Txt.slice Ads;rw[Cv,idx_eq];have c:HT.sIx u.length u.length hi<=u.length:=HT.AnD _ _ (AsY _) _;have key:∀(a k:Nat),a+k<=u.length->((List.range k).map λj=>a+j).filterMap (λi=>(tx u).cps[i]?)=(u.drop a).take k:=by
  intro a k
  induction k with
  |zero=>intro _;simp
  |succ k d =>
   intro h;rw[List.range_succ,At8,List.filterMap_append,d As];have:a+k<u.length:=As
   simp only [Atw,List.map_nil,AtQ,List.filterMap_nil,AnP,Atc this];rw[List.take_succ,List.getElem?_drop,Atc this];rfl
 split
 next h =>
  simp only [AsZ,At1,Ata,beq_iff_eq]at h;have h2:=h.2;have:HT.sIx u.length 0 lo=0\/u.length=0:=As
  rcases this with e|e
  ·rw[e,List.drop_zero,AtF As]
  ·rw[Au9 e];simp
 next h =>
  by_cases b:HT.sIx u.length 0 lo<=HT.sIx u.length u.length hi
  ·show(Str.mk _)=_;rw[key _ _ As];rfl
  ·have e:HT.sIx u.length u.length hi-HT.sIx u.length 0 lo=0:=As
   rw[e];simp[tx]
inductive Aik (x:V)(lo:Option Int)(hi:Option Int)(H:Hp)(Q:VK):Prop
|mk(u:NL)(_:x=.str (tx u))(_:u.length<=sizeLine)(_:Q (.str (tx (Ads u lo hi))) H)
theorem Ail:SlR X Aik:=by
 intro pins s σ H x v y B lo hi f Q I o hs pl n h;obtain⟨u,rfl,r,q⟩:=h;obtain⟨t,rfl⟩:=o;rw[<-Aij]at q;refine⟨"str",_,F.slot_str_getitem.lookup,typeIs_str _ _ _,?_⟩;have hsz:(tx u).length<=sizeLine:=by rw[Cv];exact r
 obtain⟨os,c,a,d⟩:=id hs;have b:∀(l u':Option (Int×Tok)),s.heap.IsSlice f l u' none->Q (.str (Txt.slice (tx u) (l.map (·.1)) (u'.map (·.1)))) H->wpAny (model X.prog X.w) X.A (getItem (.str (tx u) t) (.ref f)) (EP X pins σ Q) X.xe s:=λl u' z p =>
  wpAny_getItem_str_slice z Z (post_val_or_str ⟨Atf (Txt.slice_le (tx u) _ _) hsz,λt' k=>⟨.str _,H,I.tok _,⟨t',Z⟩,p⟩⟩);cases pl with
 |none=>cases n with
  |none=>exact b none none ⟨os,c,a,d⟩ q
  |int j e=>exact b none (some (j,e)) ⟨os,c,a,d⟩ q
 |int i m=>cases n with
  |none=>exact b (some (i,m)) none ⟨os,c,a,d⟩ q
  |int j e=>exact b (some (i,m)) (some (j,e)) ⟨os,c,a,d⟩ q
theorem Ph:∀(xs:Nn)(us:NR),xs.length=us.length->(∀(i:Nat) x u,xs[i]?=some x->us[i]?=some u->RelV x u)->Vals xs us
 |[],[],_,_=>.nil
 |[],_::_,h,_=>by simp at h
 |_::_,[],h,_=>by simp at h
 |x::xs,u::us,h,p=>.cons (p 0 x u Z rfl) (Ph xs us (by simpa using h) λi y v e1 a=>p (i+1) y v e1 a)
def XS (p:NX)(a b c:Int):HO:=.ext λh=>∃t u v,IsRange h p a b c t u v
def NZ (a c:Int)(n:Nat):NV:=(List.range n).map λ(i:Nat)=>a+(i:Int)*c
section
variable {K:NA}
theorem Abh{a b c:Int}{t u v:Tok}{Q:VK}{tk:Nat}(I:Inv X pins σ H s)(q:∀p,H p=none->Q (.ref p) (upd H p (XS p a b c))) :
  EP X pins σ Q (.ref s.heap.objs.size) {s with heap:=s.heap.push {cls:=.type "range",data:=.fields #[.int a t,.int b u,.int c v]},toks:=tk}:=by
 have d:(s.heap.push {cls:=.type "range",data:=.fields #[.int a t,.int b u,.int c v]}).get? s.heap.objs.size=some {cls:=.type "range",data:=.fields #[.int a t,.int b u,.int c v]}:=zD _ Z;refine⟨.ref s.heap.objs.size,_,I.laid (λb o e=>zB _ e) (AsY _) ?_,Z,q _ (I.hok.fresh (AsY _))⟩;exact⟨⟨t,u,v,d⟩,⟨_,d⟩,λh1 h2 y k=>by
  obtain⟨t',u',f,y⟩:=y;exact⟨t',u',f,k _ y⟩⟩
inductive Abi (xs:Nn)(H:Hp)(Q:VK):Prop
|mk(a:_)(b:_)(_:xs=[.int a,.int b])(_:∀p,H p=none->Q (.ref p) (upd H p (XS p a b 1)))
theorem Agq:Bx X (.type "range") Abi:=by intro pins s σ H xs us Q I rv h;obtain⟨a,b,rfl,q⟩:=h;obtain⟨f,e,rfl,d,c⟩:=rv.two;obtain⟨t,rfl⟩:=d;obtain⟨t',rfl⟩:=c;exact call_range_2 (Abh I q)
inductive Aab (xs:Nn)(H:Hp)(Q:VK):Prop
|mk(p:NX)(a:Int)(b:Int)(c:Int)(n:Nat)(_:xs=[.ref p])(_:H p=some (XS p a b c))(_:Builtin.Range.small a b c=true)(_:Builtin.Range.rangeSize a b c=n)(_:n<=1000)(_:∀l,H l=none->Q (.ref l) (upd H l (.lst (vI (NZ a c n)))))
theorem Adt(hc:X.calm=true:=by rfl):Bx X (.type "list") Aab:=by
 intro pins s σ H xs us Q I rv h;obtain⟨p,a,b,c,n,rfl,m,hs,hn,j,q⟩:=h;obtain⟨u,rfl,r⟩:=rv.one;cases r;obtain⟨⟨t,u,v,l⟩,_,_⟩:=I.hok p _ m;refine call_list_range (I.ok.hd hc) l hs hn (Atf j Ab) λh' tk acc c' hk w hi=>?_;refine⟨.ref s.heap.objs.size,_,I.laid hk (AsY _) ?_,Z,q _ (I.hok.fresh (AsY _))⟩;have d:(vI (NZ a c n)).length=n:=by rw[J5];unfold NZ;rw[AsZ,At1]
 refine⟨by rw[d];exact Ats (Agi j),acc.toList,c',?_,w⟩;refine Ph _ _ (by rw[d,zJ,hi.1]) λi x u e1 o=>?_;obtain⟨z,e,rfl⟩:=Aib e1;obtain⟨t',rfl⟩:=hi.2 i u (by rw[<-zL];exact o);have f:i<n:=by
  have:= (zC.mp e1).1
  rwa [d]at this
 unfold NZ at e;rw[Atn,List.getElem?_range f]at e;cases e;exact⟨t',Z⟩
inductive Abj (xs:Nn)(H:Hp)(Q:VK):Prop
|mk(z:_)(n:_)(_:xs=[.str z])(_:PySem.intText? z=some n)(_:z.length<=640)(_:Q (.int n) H)
theorem Agr:Bx X (.type "int") Abj:=by intro pins s σ H xs us Q I rv h;obtain⟨z,n,rfl,hn,a,q⟩:=h;obtain⟨u,rfl,t,rfl⟩:=rv.one;exact W.KIN.call_text hn a ⟨.int n,H,I.tok _,⟨_,Z⟩,q⟩
inductive Abk (K:NA)(xs:Nn)(H:Hp)(Q:VK):Prop
|mk(a:_)(ns:_)(_:xs=[.ref a])(_:SqL K H a (vI ns))(_:Q (.int ns.sum) H)
theorem Ags(e:X.K=K:=by rfl)(hc:X.calm=true:=by rfl):Bx X (.builtin "sum") (Abk K):=by
 subst e;intro pins s σ H xs us Q I rv h;obtain⟨a,ns,rfl,f,q⟩:=h;obtain⟨u,rfl,d⟩:=rv.one;cases d;obtain⟨its,r,pl,i⟩:=I.list f;have hi:=intsAre_of r;obtain⟨xs,b⟩:=hi.allInts.items;have c:s.heap.IsList a (intItems xs):=by rw[<-b];exact pl.isList
 refine sum_intListG (I.ok.hd hc) c λh' tk t' hk=>?_;have e1:xs.toList.map (·.1)=ns:=by
  have z:numsOf its.toArray.toList=ns:=hi.numsOf;rw[b,nums_intItems]at z;exact z
 rw[show preSum (numAt xs) xs.size=ns.sum by rw[preSum_eq,AtF At,e1]];exact⟨.int ns.sum,H,I.kept hk,⟨t',Z⟩,q⟩
end
section
variable {K:NA}{o:Expr}{f:Str}{st:Nl}{t:TS}
theorem AkG(b:PE X e ta)(c:attributeBase e f X.env (eval e X.env)=eval e X.env)(a:X.K=K:=by rfl):PE X (.Attribute e f pos) (Aqn K ta f):=by subst a;exact An7 b c
theorem AkH(a:PE X o ta)(b:PE X value tv)(hs:swapsWith value (some (.Attribute o f pos')) pos.line X.env=pure false:=by rfl)(c:X.K=K:=by rfl):PS X (.Assign [.Attribute o f pos'] value pos) (Aqo K ta tv f):=by subst c;exact An8 a b hs
theorem Adu{op:Operator}{b:V->V->Hp->VK->Prop}(e:PE X o ta)(d:PE X value tv)(a:An6 X op b)(c:X.K=K:=by rfl):PS X (.AugAssign (.Attribute o f tpos) op value pos) (Aez K ta tv b f):=by subst c;exact Agc e d a
theorem Am4(h:X.A.frames=some X.stack->PS X st t):PS X st t:=λpins s σ H D I hw=>h I.ok.frames pins s σ H D I hw
end
structure Own (K:NA)(C f:NX):Prop where
 c:Cls K C
 m:Mk K C f
theorem Aoe{K:NA}(h1:W.plainGet K C Str.empty=true)(h2:W.hasDictIn K C=true)(c:W.plainOver K C=true)(d:W.findIn K (.ref C) "__setattr__"=some (some (.builtin "object.__setattr__")))
  (e:W.makesIn K C=true) (h:W.findIn K (.ref C) "__init__"=some (some (.ref f))) (b:W.isFn K (.ref f)=true) (a:W.keepIn K (.ref C)=true):Own K C f:=⟨⟨h1,h2,c,d⟩,⟨e,h,b,a⟩⟩
structure AkI (K:NA)(C:NX)(m:Str)(f:NX):Prop where
 rd:W.readsIn K C (.type "type")=true
 fi:W.findCls K (.ref C) (.type "type") m=some (.val (.ref f))
 ha:W.handedIn (.ref f)=true
 sp:W.specialIn K (.ref C) "__getattribute__"=some (some (.builtin "type.__getattribute__"))
 kp:W.keepIn K (.ref f)=true
abbrev AkJ (sp:Sp)(dvs:Nn)(E:XK)(Q:VK)(vs:Nn)(H2:Hp):Prop:=sp (vs++dvs) H2 Q E
inductive AkK (C:NX)(sp:Sp)(dvs:Nn)(E:XK)(t:TA)(σ:St)(Q:VK)(x:V)(H1:Hp):Prop
|mk(_:x=.ref C)(_:t σ H1 (AkJ sp dvs E Q))
def AqF (C:NX)(sp:Sp)(dvs:Nn)(E:XK)(ta:TE)(t:TA)(σ:St)(H:Hp)(Q:VK):Prop:=ta σ H (AkK C sp dvs E t σ Q)
section
variable {k:Nat}{fd:NY}{E:XK}{o:Expr}{es:List Expr}{t:TA}
theorem AkL(z:PE X o ta)(M:AkI X.K C m f)(F:BR X.prog X.w X.K X.mg X.base CX k f fd ps sp)(p:BX k X.A)(v:Binds X.K fd ps ds)(l:Vals dvs ds)(B:Passes CX X E)(n:PA X (e::es) t)
  (a:starEach (e::es) X.env=(false,eval e X.env)::starEach es X.env:=by rfl) (c:(backTo pos (starEach es X.env)).any (·.1)=false:=by rfl)
  (y:eval (.Call (.Attribute o m apos) (e::es) [] pos) X.env=(do
   let ov <-eval o X.env
   standAt apos.atName
   let (f,first) <-holding [ov] (getMethod ov m pl)
   callWith pos f first (backTo pos (starEach (e::es) X.env)) (backToKw pos (keywordEach [] X.env))):=by rfl) :
  PE X (.Call (.Attribute o m apos) (e::es) [] pos) (AqF C sp dvs E ta t):=by
 intro pins s σ H Q I h;refine W.methodCall_KW (pl:=pl) (thn (z pins s σ H _ I h) λu j ⟨x,H1,b,i,ex,q⟩=>?_) y;subst ex;obtain rfl:u=Value.ref C:=i;refine W.method_cls b.kIn M.sp (W.cls_value b.kIn M.rd M.fi M.ha ?_);refine W.callWith_K (first:=[]) (h₀:=X.base) I.ok.mod.kin M.kp (thn (n pos pins _ σ H1 _ (b.tok (j.toks+1)) q) λus G ⟨vs,H2,d,r,D⟩=>⟨d.kIn,?_⟩) a c;exact Z7 (us:=us) (vs:=vs) F p v l B d r D
end
section
variable [DecidableEq κ]
def LQ (kvs:List (κ×V))(k:κ):Option V:=(kvs.find? λkv=>decide (kv.1=k)).map (·.2)
def putK(kvs:List (κ×V))(k:κ)(v:V):List (κ×V):=
 if (kvs.any λkv=>decide (kv.1=k))=true then kvs.map (λkv=>if kv.1=k then (kv.1,v) else kv) else kvs++[(k,v)]
theorem J9{p:κ×V}{r:List (κ×V)}{k:κ}(e:p.1=k):LQ (p::r) k=some p.2:=by simp[LQ,AtN,e]
theorem JB{p:κ×V}{r:List (κ×V)}{k:κ}(e:¬p.1=k):LQ (p::r) k=LQ r k:=by simp[LQ,AtN,e]
theorem Abl(k:κ):∀kvs:List (κ×V),(kvs.any λa=>decide (a.1=k))=(LQ kvs k).isSome
 |[]=>rfl
 |p::r=>by
  rw[AtK];by_cases e:p.1=k
  ·simp only [J9 e,zK e,Bool.true_or,Option.isSome_some]
  ·rw[JB e,decide_eq_false e,Bool.false_or];exact Abl k r
theorem JC(kvs:List (κ×V))(k:κ)(v:V):(putK kvs k v).length<=kvs.length+1:=by
 unfold putK;split
 ·rw[AsZ];lia
 ·rw[Atm,At2,List.length_nil];lia
theorem Ju.Gu{o:Option V}{u:NW}(r:Ju o u):o.isSome=u.isSome:=by
 cases o with
 |none=>cases u with
  |none=>rfl
  |some _=>exact(show False from r).elim
 |some _=>cases u with
  |none=>exact(show False from r).elim
  |some _=>rfl
theorem Ju.getD{o:Option V}{u:NW}{d:V}(r:Ju o u)(a:RelV d d'):RelV (o.getD d) (u.getD d'):=by
 cases o with
 |none=>cases u with
  |none=>exact a
  |some _=>exact(show False from r).elim
 |some _=>cases u with
  |none=>exact(show False from r).elim
  |some _=>exact r
theorem KV.val{kvs:List (κ×V)}{vs:List (κ×Nd)}(r:KV kvs vs)(k:κ):Ju (LQ kvs k) (valueAt vs k):=by
 unfold KV at r
 induction r with
 |nil=>exact True.intro
 | @cons p q ps qs h t c =>
  obtain⟨h1,h2⟩:=h;by_cases e:p.1=k
  ·have a:q.1=k:=h1.symm.trans e;have b:valueAt (q::qs) k=some q.2:=by simp[valueAt,AtN,a]
   rw[J9 e,b];exact h2
  ·have a:¬q.1=k:=λz=>e (h1.trans z);have b:valueAt (q::qs) k=valueAt qs k:=by simp[valueAt,AtN,a]
   rw[JB e,b];exact c
theorem KV.any{kvs:List (κ×V)}{vs:List (κ×Nd)}(r:KV kvs vs)(k:κ):(kvs.any λa=>decide (a.1=k))=vs.any λa=>decide (a.1=k):=by
 unfold KV at r
 induction r with
 |nil=>rfl
 |cons h t b=>rw[AtK,AtK,b,h.1]
theorem KV.repl{kvs:List (κ×V)}{vs:List (κ×Nd)}(r:KV kvs vs)(k:κ)(b:RelV y u) :
  KV (kvs.map λa=>if a.1=k then (a.1,y) else a) (vs.map λa=>if a.1=k then (a.1,u) else a):=by
 unfold KV at r ⊢
 induction r with
 |nil=>exact .nil
 | @cons p q ps qs h t c =>
  rw[Atw,Atw];refine .cons ?_ c;obtain⟨h1,h2⟩:=h;by_cases e:p.1=k
  ·rw[z8 e,z8 (h1.symm.trans e)];exact⟨h1,b⟩
  ·rw[z7 e,z7 (λz=>e (h1.trans z))];exact⟨h1,h2⟩
theorem KV.put{kvs:List (κ×V)}{vs:List (κ×Nd)}(r:KV kvs vs)(k:κ)(a:RelV y u):KV (putK kvs k y) (stored vs k u):=by
 unfold putK stored;rw[r.any k];by_cases e:(vs.any λb=>decide (b.1=k))=true
 ·rw[z8 e,z8 e];exact r.repl k a
 ·rw[z7 e,z7 e];exact Paired.snoc r ⟨Z,a⟩
theorem KV.keys{kvs:List (κ×V)}{vs:List (κ×Nd)}(r:KV kvs vs):kvs.map (·.1)=vs.map (·.1):=by
 unfold KV at r
 induction r with
 |nil=>rfl
 |cons h t a=>rw[Atw,Atw,a,h.1]
theorem KV.length{kvs:List (κ×V)}{vs:List (κ×Nd)}(r:KV kvs vs):kvs.length=vs.length:=Paired.length r
end
theorem Yu{k:Key}(r:RelV (kV k) u):(Ak P w).is k u=true:=by
 cases k with
 |inl i=>obtain⟨t,e⟩:=(show ∃t,u=Value.int i t from r);subst e;exact AaO P w i t
 |inr x=>obtain⟨t,e⟩:=(show ∃t,u=Value.str x t from r);subst e;exact AaP P w x t
theorem Yv{P:Program}{w:World}:∀{ks:List Key} {us:NR},Vals (ks.map kV) us->ItemsAre (Ak P w) ks us
 |[],_,r=>by rw[List.map_nil]at r;cases r;exact .nil
 |k::ks,_,r=>by
  rw[Atw]at r;cases r with
  |cons h t=>exact .cons (Yu h) (Yv t)
abbrev KT (H:Hp):List (List Key×V)->List (List Key×NX×Nd)->Prop:=Paired λp q=>p.1=q.1/\H q.2.1=some (.tup (p.1.map kV))/\RelV p.2 q.2.2
theorem KT.val(r:KT H kvs xs)(k:List Key):Ju (LQ kvs k) ((atKey xs k).map (·.2)):=by
 induction r with
 |nil=>exact True.intro
 | @cons p q ps qs h t c =>
  obtain⟨h1,_,h2⟩:=h;by_cases e:p.1=k
  ·have a:q.1=k:=h1.symm.trans e;have b:atKey (q::qs) k=some q.2:=by simp[atKey,AtN,a]
   rw[J9 e,b];exact h2
  ·have a:¬q.1=k:=λz=>e (h1.trans z);have b:atKey (q::qs) k=atKey qs k:=by simp[atKey,AtN,a]
   rw[JB e,b];exact c
theorem KT.repl(r:KT H kvs xs)(k:List Key)(d:RelV y u) :
  KT H (kvs.map λa=>if a.1=k then (a.1,y) else a) (xs.map (putAt k u)):=by
 induction r with
 |nil=>exact .nil
 | @cons p q ps qs h t b =>
  rw[Atw,Atw];refine .cons ?_ b;obtain⟨h1,h2,c⟩:=h;unfold putAt;by_cases e:p.1=k
  ·rw[z8 e,z8 (h1.symm.trans e)];exact⟨h1,h2,d⟩
  ·rw[z7 e,z7 (λz=>e (h1.trans z))];exact⟨h1,h2,c⟩
theorem KT.put(r:KT H kvs xs)(k:List Key){b:NX}(d:H b=some (.tup (k.map kV)))(a:RelV y u) :
  KT H (putK kvs k y) (storedH xs k b u):=by
 have e:(kvs.any λc=>decide (c.1=k))=(atKey xs k).isSome:=by
  rw[Abl,(r.val k).Gu,Auw]
 unfold putK storedH;rw[e];by_cases q:(atKey xs k).isSome=true
 ·rw[z8 q,z8 q];exact r.repl k a
 ·rw[z7 q,z7 q];exact Paired.snoc r ⟨Z,d,a⟩
theorem KT.keeps(r:KT H kvs xs)(a:∀b ys,H b=some (.tup ys)->H' b=some (.tup ys)):KT H' kvs xs:=
 Paired.AjX r λ_ _ z=>⟨z.1,a _ _ z.2.1,z.2.2⟩
theorem Am5{u:HO}(ok:HOk P w H h)(e:Rd H a u):BV P w H h a u:=e.ok ok
theorem Yw{kvs:List (Key×V)}(ok:HOk P w H h)(e:Rd H a (.dK kvs)):kvs.length<=sizeLine/\(a == sysModules)=false/\∃vs,KV kvs vs/\h.DictOf (Ak P w) a vs:=
 show BV P w H h a (.dK kvs) from Am5 ok e
theorem Am6{kvs:List (Key×V)}(ok:HOk P w H h)(e:H a=some (.dK kvs)):kvs.length<=sizeLine/\(a == sysModules)=false/\∃vs,KV kvs vs/\h.DictOf (Ak P w) a vs:=Yw ok (.inl e)
theorem VB{ks:List Key}(ok:HOk P w H h)(e:H a=some (.tup (ks.map kV))):(tupleKind (Ak P w)).is h ks a:=by obtain⟨_,its,r,o,h1,h2,n,b⟩:=(show BV P w H h a (.tup (ks.map kV)) from ok a _ e);exact⟨o,its.toArray,n,h1,h2,b,by simpa using Yv r⟩
theorem Abm(ok:HOk P w H h)(e:Rd H a (.dT kvs)):kvs.length<=sizeLine/\(a == sysModules)=false /\
  ∃xs,KT H kvs xs/\h.DictOfH (tupleKind (Ak P w)) a xs:=by
 obtain⟨z,y,xs,r,o,es,ep,h1,h2,j,d,f⟩:=(show BV P w H h a (.dT kvs) from Am5 ok e);refine⟨z,y,xs,r,o,es,ep,h1,h2,j,d,λx b=>?_,f⟩;have all:∀{l:List (List Key×V)} {m:List (List Key×NX×Nd)},KT H l m->∀x∈m,(tupleKind (Ak P w)).is h x.1 x.2.1:=by
  intro l m q
  induction q with
  |nil=>intro x b;exact nomatch b
  | @cons p q ps qs c t i =>
   intro x b;rcases zZ.mp b with e|b
   ·subst e;exact VB ok (by rw[<-c.1];exact c.2.1)
   ·exact i x b
 exact all r x b
theorem AqG(ok:HOk P w H h)(e:H a=some (.dT kvs)):kvs.length<=sizeLine/\(a == sysModules)=false /\
  ∃xs,KT H kvs xs/\h.DictOfH (tupleKind (Ak P w)) a xs:=Abm ok (.inl e)
def XX (H:Hp)(a:NX)(y:V)(r:Option V):Prop:=
 (∃kvs k,Rd H a (.dK kvs)/\y=kV k/\r=LQ kvs k)\/∃kvs k b,Rd H a (.dT kvs)/\y=.ref b/\H b=some (.tup (k.map kV))/\r=LQ kvs k
def AkM (H:Hp)(a:NX)(y v:V)(H':Hp):Prop:=
 (∃kvs k,H a=some (.dK kvs)/\y=kV k/\kvs.length<sizeLine/\H'=upd H a (.dK (putK kvs k v))) \/
 ∃kvs k b,H a=some (.dT kvs)/\y=.ref b/\H b=some (.tup (k.map kV))/\kvs.length<sizeLine/\H'=upd H a (.dT (putK kvs k v))
theorem XX.k{H:Hp}{a:NX}{kvs:List (Key×V)}{k:Key}(e:H a=some (.dK kvs)):XX H a (kV k) (LQ kvs k):=.inl ⟨kvs,k,.inl e,Z,Z⟩
theorem AkM.k{H:Hp}{a:NX}{kvs:List (Key×V)}{k:Key}{v:V}(e:H a=some (.dK kvs))(b:kvs.length<sizeLine):AkM H a (kV k) v (upd H a (.dK (putK kvs k v))):=.inl ⟨kvs,k,e,Z,b,Z⟩
section
variable {v:V}{r:Nd}{o:Option V}
theorem Inv.big(I:Inv X pins σ H s):sysModules<s.heap.objs.size:=by have h:mainGlobals<s.heap.objs.size:=(I.mod.glob.keeps I.bk).lt;exact AtT Ab h
theorem Agt{Q:NS}(n:A.units+1<cLine)(I:Inv X pins σ H s)(g:XX H a y (some v))(m:RelV y u)(h:∀f s',Inv X pins σ H s'->RelV v f->Q f s') :
  wpAny (model X.prog X.w) A (getItem (.ref a) u) Q E s:=by
 rcases g with ⟨kvs,k,e,i,l⟩|⟨kvs,k,b,e,i,t,l⟩
 ·subst i;obtain⟨z,r,vs,c,dd⟩:=Yw I.hok e;obtain⟨f,hw,d⟩:=Ju.some_of (v:=v) (o:=valueAt vs k) (by rw[l];exact c.val k);exact wpAny_getItem_of (Yu m) dd.mapOf hw (h f _ (I.tok _) d)
 ·subst i;cases (show u=Value.ref b from m);obtain⟨z,r,xs,c,dd⟩:=Abm I.hok e;obtain⟨f,hw,d⟩:=Ju.some_of (v:=v) (o:=(atKey xs k).map (·.2)) (by rw[l];exact c.val k);obtain⟨p,x,j⟩:=Option.map_eq_some_iff.mp hw;refine wpAny_getItem_heap (tupleKind_room_in1 n) (VB I.hok t) dd x ?_;rw[j];exact h f _ (I.tok _) d
theorem Asp{Q:NS}(j:A.units+1<cLine)(I:Inv X pins σ H s)(g:XX H a y o)(i:RelV y u)(h:∀s',Inv X pins σ H s'->Q (.bool o.isSome) s') :
  wpAny (model X.prog X.w) A (compareOp .In u (.ref a)) Q E s:=by
 rcases g with ⟨kvs,k,e,d,l⟩|⟨kvs,k,b,e,d,m,l⟩
 ·subst d;obtain⟨z,f,vs,c,dd⟩:=Yw I.hok e;refine wpAny_in_of (Yu i) f dd.mapOf ?_;rw[<-(c.val k).Gu,<-l];exact h _ (I.tok _)
 ·subst d;cases (show u=Value.ref b from i);obtain⟨z,f,xs,c,dd⟩:=Abm I.hok e;refine wpAny_in_heap (tupleKind_room_in1 j) (VB I.hok m) f dd ?_;have q:=(c.val k).Gu;rw[Auw]at q;rw[<-q,<-l];exact h _ (I.tok _)
theorem AkN{Q:NS}(j:A.units+1<cLine)(I:Inv X pins σ H s)(g:XX H a y o)(i:RelV y u)(h:∀s',Inv X pins σ H s'->Q (.bool (!o.isSome)) s') :
  wpAny (model X.prog X.w) A (compareOp .NotIn u (.ref a)) Q E s:=by
 rcases g with ⟨kvs,k,e,d,l⟩|⟨kvs,k,b,e,d,m,l⟩
 ·subst d;obtain⟨z,f,vs,c,dd⟩:=Yw I.hok e;refine wpAny_notIn_of (Yu i) f dd.mapOf ?_;rw[<-(c.val k).Gu,<-l];exact h _ (I.tok _)
 ·subst d;cases (show u=Value.ref b from i);obtain⟨z,f,xs,c,dd⟩:=Abm I.hok e;refine wpAny_notIn_heap (tupleKind_room_in1 j) (VB I.hok m) f dd ?_;have q:=(c.val k).Gu;rw[Auw]at q;rw[<-q,<-l];exact h _ (I.tok _)
theorem Aac{t':Nat}{c:HO}(I:Inv X pins σ H s)(h:Mut (H a))(hs:Heap.SameBut a s.heap h')(f:∃q,h'.get? a=some q)(new:BV X.prog X.w (upd H a c) h' a c) :
  Inv X pins σ (upd H a c) {s with heap:=h',toks:=t'}:=
 I.write (x:=a) (e:=a) h (.inl Z) (λb q d z=>(hs.2 b d).trans z) f new
theorem Aim{kvs:List (Key×V)}{vs:List (Key×Nd)}(z:kvs.length<=sizeLine)(c:(a == sysModules)=false)(b:KV kvs vs)(dd:h'.DictOf (Ak P w) a vs) :
  BV P w H' h' a (.dK kvs):=⟨z,c,vs,b,dd⟩
theorem Agu(G:A.units+1<cLine)(I:Inv X pins σ H s)(g:AkM H a y v H')(t:RelV y u)(rv:RelV v r)(h:∀s',Inv X pins σ H' s'->Q () s') :
  wpAny (model X.prog X.w) A (setItem (.ref a) u r) Q E s:=by
 rcases g with ⟨kvs,k,e,j,l,n⟩|⟨kvs,k,b,e,j,x,l,n⟩
 ·subst j n;obtain⟨z,m,vs,d,dd⟩:=Am6 I.hok e;have o:vs.length<=sizeLine:=by rw[<-d.length];exact z
  have p:(putK kvs k v).length<=sizeLine:=by have:=JC kvs k v;lia
  refine wpAny_setItem_pairs (hsz:=o) (Yu t) dd λh' f hs=>h _ ?_;have F:∃q,h'.get? a=some q:=let ⟨q,_,_,i,_⟩:=f;⟨q,i⟩
  exact Aac I (by rw[e];exact True.intro) hs F (Aim p m (d.put k rv) f)
 ·subst j n;cases (show u=Value.ref b from t);obtain⟨z,m,xs,d,dd⟩:=AqG I.hok e;have o:xs.length<=sizeLine:=by rw[<-Paired.length d];exact z
  have p:(putK kvs k v).length<=sizeLine:=by have:=JC kvs k v;lia
  refine wpAny_setItem_heap (hsz:=o) (tupleKind_room_in1 G) (VB I.hok x) dd λh' f hs=>h _ ?_;obtain⟨q,es,ep,i,h2,D,C,_,J⟩:=f;refine Aac I (by rw[e];exact True.intro) hs ⟨q,i⟩ ⟨p,m,_,(d.put k x rv).keeps λc ys B=>?_,q,es,ep,i,h2,D,C,J⟩;rw[Af (ApN B e (λz=>nomatch z))];exact B
end
section
variable {kvs:List (Key×V)}{k:Key}
theorem AqH{Q:NS}(I:Inv X pins σ H s)(e:Rd H a (.dK kvs))(h:∀t s',Inv X pins σ H s'->Q (.int kvs.length t) s'):wpAny (model X.prog X.w) A (call (.builtin "len") [.ref a]) Q E s:=by obtain⟨z,c,vs,b,dd⟩:=Yw I.hok e;refine call_len_dict c dd (by rw[<-b.length];rw[zS]at z;lia) ?_;rw[<-b.length];exact h _ _ (I.tok _)
end
def Aof (i:Expr):Prop:=∀ov iv,subscripted i false ov iv=operate [ov,iv] (getItem ov iv)
theorem Ae8{a:Expr}{id:String}{Q:NS}
  (l:typeLookup (.type T) "__getitem__"=pure (some (.builtin id))) (hs:Aof a)
  (h:wpAny (model prog w) A (eval value env) (λo s₁=>wpAny (model prog w) A (eval a env) (λi b=>b.TypeIs o T/\wpAny (model prog w) A (getItem o i) Q E b) E s₁) E s) :
  wpAny (model prog w) A (eval (.Subscript value a pos) env) Q E s:=by
 refine Subscript_ (zO h (λo s₁ h₁=>zO h₁ (λi b c=>?_) λ_ _ x=>x) λ_ _ x=>x);obtain⟨j,c⟩:=c;unfold subscriptTail;refine zA ?_;rw[getitemInPython_of_ne j.not_modules];refine zA (wpAny_specialOf j l ?_);have e:wpAny (model prog w) A (subscripted a false o i) (λr d=>wpAny (model prog w) A (letTemporaryGo value o r >>= λ_=>pure r) Q E d) E b:=by
  rw[hs o i];exact wpAny_operating (zO c (λr d f=>zA (wpAny_letTemporaryGo (zE f))) λ_ _ x=>x)
 first
  |exact zE (zA e)
  |exact zA (zE (zA e))
  |exact zA e
theorem Abn{o:Option V}(I:Inv X pins σ H s)(g:XX H a y o):s.TypeIs (.ref a) "dict":= by
 rcases g with ⟨kvs,k,e,_,_⟩|⟨kvs,k,b,e,_,_,_⟩
 ·obtain⟨_,_,vs,_,dd⟩:=Yw I.hok e;exact dd.typeIs
 ·obtain⟨_,_,xs,_,dd⟩:=Abm I.hok e;exact dd.typeIs
inductive AkO (Q:VK)(x:V)(y:V)(H2:Hp):Prop
|mk(a:_)(v:_)(_:x=.ref a)(_:XX H2 a y (some v))(_:Q v H2)
abbrev AkP (ty:TE)(σ:St)(Q:VK)(x:V)(H1:Hp):Prop:=ty σ H1 (AkO Q x)
def AqI (td:TE)(ty:TE)(σ:St)(H:Hp)(Q:VK):Prop:=td σ H (AkP ty σ Q)
inductive Aog (Q:VK)(y:V)(x:V)(H2:Hp):Prop
|mk(a:_)(o:_)(_:x=.ref a)(_:XX H2 a y o)(_:Q (.bl o.isSome) H2)
abbrev Aoh (td:TE)(σ:St)(Q:VK)(y:V)(H1:Hp):Prop:=td σ H1 (Aog Q y)
def Asq (ty:TE)(td:TE)(σ:St)(H:Hp)(Q:VK):Prop:=ty σ H (Aoh td σ Q)
inductive Agv (Q:VK)(y:V)(x:V)(H2:Hp):Prop
|mk(a:_)(o:_)(_:x=.ref a)(_:XX H2 a y o)(_:Q (.bl (!o.isSome)) H2)
abbrev Agw (td:TE)(σ:St)(Q:VK)(y:V)(H1:Hp):Prop:=td σ H1 (Agv Q y)
def AkQ (ty:TE)(td:TE)(σ:St)(H:Hp)(Q:VK):Prop:=ty σ H (Agw td σ Q)
inductive AkR (D:Ends)(σ:St)(v:V)(x:V)(y:V)(H3:Hp):Prop
|mk(a:_)(H4:_)(_:x=.ref a)(_:AkM H3 a y v H4)(_:D.nx σ H4)
abbrev AkS (ty:TE)(D:Ends)(σ:St)(v:V)(x:V)(H2:Hp):Prop:=ty σ H2 (AkR D σ v x)
abbrev AkT (td:TE)(ty:TE)(D:Ends)(σ:St)(v:V)(H1:Hp):Prop:=td σ H1 (AkS ty D σ v)
def AqJ (td:TE)(ty:TE)(tv:TE)(D:Ends)(σ:St)(H:Hp):Prop:=tv σ H (AkT td ty D σ)
section
variable {o i:Expr}
theorem AkU(d:X.A.units+1<cLine)(r:PE X o td)(hi:PE X i ty)(hs:Aof i):PE X (.Subscript o i pos) (AqI td ty):=by intro pins s σ H Q I h;refine Ae8 F.slot_dict_getitem.lookup hs (thn (r pins s σ H _ I h) λu j ⟨x,H1,l,e,m⟩=>thn (hi pins j σ H1 _ l m) λB t ⟨y,H2,c,p,a,v,ex,g,n⟩=>?_);subst ex;obtain rfl:u=Value.ref a:=e;exact⟨Abn c g,Agt d c g p λz w f b=>⟨v,H2,f,b,n⟩⟩
theorem Aoi(b:X.A.units+1<cLine)(hi:PE X i ty)(p:PE X o td):PC X .In i o (Asq ty td):=by intro pins s σ H Q I h;refine thn (hi pins s σ H _ I h) λw e ⟨y,H1,j,n,l⟩=>thn (p pins e σ H1 _ j l) λu t ⟨x,H2,r,c,a,f,ex,g,m⟩=>?_;subst ex;obtain rfl:u=Value.ref a:=c;exact Asp b r g n λv d=>⟨.bl f.isSome,H2,d,Z,m⟩
theorem Agx(b:X.A.units+1<cLine)(hi:PE X i ty)(p:PE X o td):PC X .NotIn i o (AkQ ty td):=by intro pins s σ H Q I h;refine thn (hi pins s σ H _ I h) λw e ⟨y,H1,j,n,l⟩=>thn (p pins e σ H1 _ j l) λu t ⟨x,H2,r,c,a,f,ex,g,m⟩=>?_;subst ex;obtain rfl:u=Value.ref a:=c;exact AkN b r g n λv d=>⟨.bl (!f.isSome),H2,d,Z,m⟩
theorem AkV(b:X.A.units+1<cLine)(t:PE X o td)(hi:PE X i ty)(c:PE X value tv)(hs:swapsWith value (some (.Subscript o i pos')) pos.line X.env=pure false) :
  PS X (.Assign [.Subscript o i pos'] value pos) (AqJ td ty tv):=by
 intro pins s σ H D I h;refine wpAny_Assign_Subscript (thn (c pins s σ H _ I h) λr f ⟨v,H1,l,rv,m⟩=>thn (t pins f σ H1 _ l m) λu z ⟨x,H2,w,B,n⟩=>thn (hi pins z σ H2 _ w n) λE G ⟨y,F,d,p,a,C,ex,g,e⟩=>?_) hs;subst ex;obtain rfl:u=Value.ref a:=B;exact Agu b d g p rv λJ j=>⟨σ,C,j,e⟩
end
theorem Ain(h:Heap)(a:sysModules<h.objs.size):BV P w H (h.push {cls:=.type "dict",data:=.dict #[]}) h.objs.size (.dK []):=
 ⟨Atg _,beq_eq_false_iff_ne.mpr (yD (Atb a)),[],.nil,Heap.DictOf.new h⟩
def Adv:List (TE×TE)->St->Hp->(List (V×V)->Hp->Prop)->Prop
 |[],_,H,Q=>Q [] H
 | (tk,tv)::r,σ,H,Q=>tk σ H λx H1=>tv σ H1 λy H2=>Adv r σ H2 λps H3=>Q ((x,y)::ps) H3
abbrev VV:List (V×V)->List (Nd×Nd)->Prop:=Paired λp q=>RelV p.1 q.1/\RelV p.2 q.2
def PPs (X:Cx)(pos:Pos)(keys:List (Option Expr))(values:List Expr)(trs:List (TE×TE)):Prop:=
 ∀(pins:NF)(s:Na)(σ:St)(H:Hp)(Q:List (V×V)->Hp->Prop),Inv X pins σ H s->Adv trs σ H Q ->
  wpAny (model X.prog X.w) X.A (evalPairs (pairTrees keys values X.env pos)) (λvs s'=>∃ps H',Inv X pins σ H' s'/\VV ps vs/\Q ps H') X.xe s
theorem AkW:PPs X pos [] [] []:=λpins s σ H Q I h=>pairTrees_nil_walk ⟨[],H,I,.nil,h⟩
theorem Aio{k v:Expr}{ks:List (Option Expr)}{vs:List Expr}{tk:TE}(hk:PE X k tk)(b:PE X v tv)(f:PPs X pos ks vs trs) :
  PPs X pos (some k::ks) (v::vs) ((tk,tv)::trs):=λpins s σ H Q I h =>
 pairTrees_cons_walk (thn (hk pins s σ H _ I h) λu e ⟨x,H1,i,r,j⟩=>thn (b pins e σ H1 _ i j) λt p ⟨y,H2,o,n,l⟩ =>
  thn (f pins p σ H2 _ o l) λws w ⟨ps,m,c,a,d⟩=>⟨(x,y)::ps,m,c,.cons ⟨r,n⟩ a,d⟩)
def R3 (kvs more:List (Key×V)):List (Key×V):=more.foldl (λacc kv=>putK acc kv.1 kv.2) kvs
theorem KV.merge:∀{a:List (Key×V)} {b:List (Key×Nd)} {kvs:List (Key×V)} {vs:List (Key×Nd)},KV a b->KV kvs vs->KV (R3 kvs a) (merged vs b):=by
 intro a b kvs vs r;unfold KV at r
 induction r generalizing kvs vs with
 |nil=>intro q;exact q
 | @cons p q ps qs h t d =>
  intro c;have e:KV (putK kvs p.1 p.2) (stored vs q.1 q.2):=by
   have:=c.put p.1 h.2;rw[<-h.1];exact this
  exact d e
theorem Ms:∀(a kvs:List (Key×V)),(R3 kvs a).length<=kvs.length+a.length
 |[],kvs=>by show kvs.length<=kvs.length+0;lia
 |p::r,kvs=>by
  have h1:=Ms r (putK kvs p.1 p.2);have h2:=JC kvs p.1 p.2;show(R3 (putK kvs p.1 p.2) r).length<=_;rw[At2];lia
theorem VD{P:Program}{w:World}:∀{kvs:List (Key×V)} {ws:List (Nd×Nd)},VV (kvs.map λe=>(kV e.1,e.2)) ws->∃d,Carries (Ak P w) ws d/\KV kvs d
 |[],_,r=>by rw[List.map_nil]at r;cases r;exact⟨[],True.intro,.nil⟩
 |p::kvs,_,r=>by
  rw[Atw]at r;cases r with
  | @cons a b as bs h t =>
   obtain⟨d,c,q⟩:=VD (P:=P) (w:=w) t;obtain⟨i,f⟩:=b;exact⟨(p.1,f)::d,⟨Yu h.1,Z,c⟩,.cons ⟨Z,h.2⟩ q⟩
def AqK (trs:List (TE×TE)):TE:=λσ H Q=>∀p,H p=none->Adv trs σ (upd H p (.dK [])) λps H2=>H2 p=some (.dK [])/\∃kvs:List (Key×V),ps=kvs.map (λkv=>(kV kv.1,kv.2))/\kvs.length<=15/\Q (.ref p) (upd H2 p (.dK (R3 [] kvs)))
theorem AkX{keys:List (Option Expr)}{b:List Expr}(h:PPs X pos keys b trs)(d:keys.all (·.isSome)=true)(v:keys.length=b.length)(m:keys≠[])
  (j:keys.length<=15):PE X (.Dict keys b pos) (AqK trs):=by
 intro pins s σ H Q I q;have hn:=I.hok.fresh (AsY s.heap.objs.size);have r:=I.laid (a:=s.heap.objs.size) (o:=.dK []) (h':=s.heap.push {cls:=.type "dict",data:=.dict #[]}) (t':=s.toks) (λ_ _ q=>zB _ q) (AsY _) (Ain s.heap I.big);refine wpAny_Dict_walk (knd:=Ak X.prog X.w) d v m j (thn (h pins _ σ _ _ r (q _ hn)) λws C ⟨ps,H2,l,i,e,kvs,ep,lk,t⟩=>?_);subst ep;obtain⟨B,c,u⟩:=VD (P:=X.prog) (w:=X.w) i;obtain⟨z,n,p,x,dd⟩:=Am6 l.hok e;cases x;refine⟨B,c,dd,λh' f hs=>⟨.ref s.heap.objs.size,_,?_,Z,t⟩⟩;have y:(R3 [] kvs).length<=sizeLine:=by
  have h1:=Ms kvs [];rw[List.length_nil]at h1;rw[zS];lia
 have A:∃q,h'.get? s.heap.objs.size=some q:=let ⟨q,_,_,hq,_⟩:=f;⟨q,hq⟩
 exact Aac l (by rw[e];exact True.intro) hs A (Aim y n (u.merge .nil) f)
inductive Abo (xs:Nn)(H:Hp)(Q:VK):Prop
|mk(a:_)(kvs:_)(_:xs=[V.ref a])(_:H a=some (.dK kvs))(_:Q (.int kvs.length) H)
theorem Agy:Bx X (.builtin "len") Abo:=by intro pins s σ H xs us Q I r h;obtain⟨a,kvs,rfl,b,q⟩:=h;obtain⟨u,rfl,c⟩:=vals1 r;cases c;exact AqH I (.inl b) λt s' d=>⟨.int kvs.length,H,d,⟨t,Z⟩,q⟩
open PySem PySem.Spec PySem.Calls PyProof.Rows PyProof.Rows.KTD
def Top (K:NA)(a:NX)(D:List (Str×Str)):Prop:=∀h:Heap,K.In h->TextTab h a (D.map λp=>(p.1,Dat.flat (.str p.2)))
theorem Aoj{K:NA}(c:tabLook (datLooks λb=>K.lookup b) (λb=>K.lookup b) a (D.map λp=>(p.1,Dat.flat (.str p.2)))=true):Top K a D:=λh X=>text_of_look (λb o e=>X b o e) c
def lk (D:List (Str×Str))(k:Str):Option Str:=(D.find? λp=>decide (p.1=k)).map (·.2)
theorem Yx(k:Str):∀D:List (Str×Str),inKeys k (D.map λp=>(p.1,Dat.flat (.str p.2)))=(lk D k).isSome
 |[]=>rfl
 |p::D=>by
  have a:=Yx k D;unfold lk at a ⊢;by_cases c:p.1=k
  ·simp[inKeys,c]
  ·have c':¬k=p.1:=λz=>c z.symm;simp[inKeys,c,c']
   simpa using a
theorem Am7{k v:Str}:∀{D:List (Str×Str)},lk D k=some v->∃d,datumAt k (D.map λp=>(p.1,Dat.flat (.str p.2)))=some d/\d=Dat.flat (.str v)
 |[],h=>by simp[lk]at h
 |p::D,h=>by
  unfold lk at h;rw[AtN]at h;by_cases c:p.1=k
  ·simp[c]at h;subst h;exact⟨_,by simp[datumAt,c],Z⟩
  ·have c':¬k=p.1:=λz=>c z.symm;simp only [c]at h;obtain⟨d,e1,a⟩:=Am7 h;exact⟨d,by simp[datumAt,c',e1],a⟩
inductive Abp (a:NX)(D:List (Str×Str))(Q:VK)(y:V)(x:V)(H2:Hp):Prop
|mk(k:_)(_:y=.str k)(_:x=.ref a)(_:Q (.bl (!(lk D k).isSome)) H2)
abbrev Abq (a:NX)(D:List (Str×Str))(td:TE)(σ:St)(Q:VK)(y:V)(H1:Hp):Prop:=td σ H1 (Abp a D Q y)
def Agz (a:NX)(D:List (Str×Str))(ty:TE)(td:TE)(σ:St)(H:Hp)(Q:VK):Prop:=ty σ H (Abq a D td σ Q)
inductive Ag0 (a:NX)(D:List (Str×Str))(Q:VK)(x:V)(y:V)(H2:Hp):Prop
|mk(k:_)(v:_)(_:y=.str k)(_:x=.ref a)(_:lk D k=some v)(_:Q (.str v) H2)
abbrev Ag1 (a:NX)(D:List (Str×Str))(ty:TE)(σ:St)(Q:VK)(x:V)(H1:Hp):Prop:=ty σ H1 (Ag0 a D Q x)
def AkY (a:NX)(D:List (Str×Str))(td:TE)(ty:TE)(σ:St)(H:Hp)(Q:VK):Prop:=td σ H (Ag1 a D ty σ Q)
section
variable {o i:Expr}
theorem Abr(T:Top X.K a D)(hi:PE X i ty)(t:PE X o td):PC X .NotIn i o (Agz a D ty td):=by intro pins s σ H Q I h;refine thn (hi pins s σ H _ I h) λv l ⟨y,H1,m,r,n⟩=>thn (t pins l σ H1 _ m n) λu d ⟨x,H2,c,f,k,j,ex,p⟩=>?_;subst j ex;obtain⟨tk,rfl⟩:=r;obtain rfl:u=Value.ref a:=f;refine notin_text ⟨T d.heap c.kIn,λb o e=>e⟩ ?_;rw[Yx];exact⟨.bl _,H2,c.tok _,Z,p⟩
theorem Abs{k v:Str}{tk:Tok}{Q:NS}(T:Top X.K a D)(I:Inv X pins σ H s)(e:lk D k=some v)(h:∀t s',Inv X pins σ H s'->Q (.str v t) s') :
  wpAny (model X.prog X.w) A (getItem (.ref a) (.str k tk)) Q E s:=by
 have c:Here s.heap s.heap a (D.map λp=>(p.1,Dat.flat (.str p.2))):=⟨T s.heap I.kIn,λb o e=>e⟩;unfold getItem
 try with_reducible refine zT ?_
 refine zA (wpAny_sequenceKey c.typeIs Ab ?_);refine zA (wpAny_callSpecial?_slot c.typeIs F.slot_dict_getitem
  (yL F.slot_dict_getitem c.typeIs F.entry_dict_getitem ?_ (args_dict_getitem _ _)));show wpAny _ _ (dictGet a (.str k tk) >>= _) _ _ s;obtain⟨d,m,l⟩:=Am7 e;refine zA (dictGet_text c (λd' f i j=>zE ⟨f,Z,zE ?_⟩) λhn=>Au);rw[m]at i;cases i;subst l;exact Opened.of (P:=λx=>Q x _) (opened_str λt=>h t _ (I.tok _)) f j
theorem Ag2(T:Top X.K a D)(z:PE X o td)(hi:PE X i ty)(hs:Aof i):PE X (.Subscript o i pos) (AkY a D td ty):=by intro pins s σ H Q I h;refine Ae8 F.slot_dict_getitem.lookup hs (thn (z pins s σ H _ I h) λu l ⟨x,H1,m,A,n⟩=>thn (hi pins l σ H1 _ m n) λE c ⟨y,H2,d,w,k,v,f,ex,B,r⟩=>?_);subst ex f;obtain rfl:u=Value.ref a:=A;obtain⟨tk,rfl⟩:=w;have C:Here c.heap c.heap a (D.map λp=>(p.1,Dat.flat (.str p.2))):=⟨T c.heap d.kIn,λb o e=>e⟩;exact⟨C.typeIs,Abs T d B λt G j=>⟨.str v,H2,j,⟨t,Z⟩,r⟩⟩
end
def Aok (K:NA)(a:NX)(ys:NU):Prop:=∀H:Hp,SqT K H a (ys.map V.str)
theorem AkZ{K:NA}(e:K.lookup a=some o)(c:o.cls=.type "tuple") (d:o.data=.seq its n) (z:its.size<=sizeLine) (r:Vals (ys.map V.str) its.toList):Aok K a ys:=λ_=>.inr ⟨o,its,n,e,c,d,z,r⟩
structure DfH (K:NA)(x:Str)(st:Nl)(f:NX)(fd:NY):Prop where
 a:W.nsIn K mainGlobals x=some (some (.ref f))
 F:Fun K x x st f fd
structure MfH (K:NA)(x q:Str)(st:Nl)(C f:NX)(fd:NY):Prop where
 m:W.findIn K (.ref C) x=some (some (.ref f))
 g:W.isFn K (.ref f)=true
 F:Fun K x q st f fd
section
variable {K:NA}
theorem DfH.df{st:Nl}{fd:NY}(D:DfH K x st f fd)(X:K.In h)(G:h.Ns mainGlobals mg)
  (b:∀kV dc pm an cd ct us,us.length=ps.length->bindArgs (W.fnOf x x (Ft st) (Bl st) (Ac st) .none kV dc pm an cd ct) ⟨us,[]⟩=pure (ps.zip us)):Df K mg x st ps f fd:=⟨D.F,W.mg_of X G D.a,D.F.binds b⟩
theorem MfH.meth{q:Str}{st:Nl}{fd:NY}(D:MfH K x q st C f fd):Meth K C x f:=⟨D.m,D.g,D.F.2⟩
theorem MfH.mf{q:Str}{st:Nl}{fd:NY}(D:MfH K x q st C f fd)
  (a:∀kV dc pm an cd ct us,us.length=ps.length->bindArgs (W.fnOf x q (Ft st) (Bl st) (Ac st) .none kV dc pm an cd ct) ⟨us,[]⟩=pure (ps.zip us)):Mf K x q st ps C f fd:=⟨D.F,D.meth,D.F.binds a⟩
structure DfA (K:NA)(mg:Str->NW)(x y:Str)(st:Nl)(ps:NU)(f:NX)(fd:NY):Prop where
 F:Fun K y y st f fd
 m:mg x=some (.ref f)
 b:Binds K fd ps []
theorem DfA.of{y:Str}{st:Nl}{fd:NY}(a:W.nsIn K mainGlobals x=some (some (.ref f)))(F:Fun K y y st f fd)(X:K.In h)(G:h.Ns mainGlobals mg)
  (b:∀kV dc pm an cd ct us,us.length=ps.length->bindArgs (W.fnOf y y (Ft st) (Bl st) (Ac st) .none kV dc pm an cd ct) ⟨us,[]⟩=pure (ps.zip us)):DfA K mg x y st ps f fd:=⟨F,W.mg_of X G a,F.binds b⟩
theorem sc9{P:NU}(h:sc.kind=.function/\sc.isCoroutine=false/\sc.isGenerator=false/\N.take P.length=P:=by exact⟨Z,Z,Z,Z⟩)
  (g:N.Nodup/\(∀x∈P,sc.names.lookup x=some .local\/sc.names.lookup x=some .cell)/\∀y∈sc.names,y.2≠.free:=by decide +kernel):Bf N P sc:=⟨h.1,h.2.1,h.2.2.1,g.1,h.2.2.2,g.2.1,g.2.2⟩
end
theorem Abt(l:NL):∀(k:Nat)(acc:NL),List.foldl (λc a=>c++a) acc.toArray (List.replicate k l.toArray)=(acc++(List.replicate k l).flatten).toArray
 | 0,acc=>At
 |k+1,acc=>by
  have e:acc.toArray++l.toArray=(acc++l).toArray:=At
  have b:(acc++l)++(List.replicate k l).flatten=acc++(List.replicate (k+1) l).flatten:=by
   rw[AtL,Auc,AtM]
  rw[<-b,<-Abt l k (acc++l),<-e,AtL,AtR]
inductive AqL (x:V)(y:V)(H:Hp)(Q:VK):Prop
|mk(u:_)(n:_)(_:x=.str (tx u))(_:y=.int n)(_:0<=n)(_:n<=1000000)(_:u.length*n.toNat<=sizeLine)(_:Q (.str (tx (List.replicate n.toNat u).flatten)) H)
theorem Aad:OpR X (binaryOp .Mult) AqL:=by
 intro pins s σ H x y v z Q I b i h;obtain⟨u,n,rfl,rfl,l,h1,h2,q⟩:=h;obtain⟨t,rfl⟩:=b;obtain⟨t',rfl⟩:=i;have hsz:=zS;have a:=Cv u;refine P.mul_str ?_ (λj f=>?_) (λj f=>?_) ?_
 ·grind
 ·rw[a];have hn:0<n:=As
  have:(u.length:Int)<=(2 ^ 63-1) / n:=(Int.le_ediv_iff_mul_le hn).mpr As;lia
 ·rw[a];exact decide_eq_false As
 ·split
  ·next c =>
   have e:n=0:=As
   rw[e]at q;exact⟨Ab,.str (tx []),H,I.tok _,⟨_,Z⟩,q⟩
  ·split
   ·next c =>
    have e:tx (List.replicate n.toNat u).flatten=tx u:=by
     simp only [AtO,beq_iff_eq]at c;rcases c with c|c
     ·rw[c];simp
     ·rw[a]at c;rw[Au9 c];simp
    rw[e]at q;exact⟨.str (tx u),H,I,⟨_,Z⟩,q⟩
   ·have d:(⟨(List.replicate n.toNat (tx u).cps).foldl (·++·) #[]⟩:Str)=tx (List.replicate n.toNat u).flatten:=by
     have:= Abt u n.toNat [];exact congrArg Str.mk this
    rw[d];refine⟨?_,.str (tx (List.replicate n.toNat u).flatten),H,I.tok _,⟨_,Z⟩,q⟩;rw[Cv,len_rep,Nat.mul_comm];exact h2
theorem Aae(x:Str)(c a:Nat):∀(k i:Nat)(acc:Array Nat)(free:Nat),free<=i->acc.size+k<=a ->
  (forIn (List.range' i k) (acc,free) (StrLaws.occBody x ⟨#[c]⟩ x.length a)).run.fst.size=acc.size+((x.cps.toList.drop i).take k).count c
 | 0,i,acc,free,_,_=>At
 |k+1,i,acc,free,hf,hl=>by
  rw[List.range'_succ,Aud];by_cases hc:x.cps.toList[i]?=some c
  ·have h1:=(StrLaws.subAt_one x c i).mpr hc;have e:StrLaws.occBody x ⟨#[c]⟩ x.length a i (acc,free)=pure (ForInStep.yield (acc.push i,i+(⟨#[c]⟩:Str).length)):=by
    unfold StrLaws.occBody;rw[z8 ⟨⟨⟨by show acc.size<a;lia,hf⟩,h1.1⟩,h1.2⟩]
   rw[e];have d:=Aae x c a k (i+1) (acc.push i) (i+(⟨#[c]⟩:Str).length) (AsY _) (by rw[Array.size_push];lia);have h:x.cps.toList.drop i=c::x.cps.toList.drop (i+1):=by
    obtain⟨b,f⟩:=zC.mp hc;rw[Aux b,f]
   rw[h,List.take_succ_cons,List.count_cons_self];rw[Array.size_push]at d;refine Eq.trans d ?_;lia
  ·have h1:=λz=>hc ((StrLaws.subAt_one x c i).mp z);have e:StrLaws.occBody x ⟨#[c]⟩ x.length a i (acc,free)=pure (ForInStep.yield (acc,free)):=by
    unfold StrLaws.occBody;rw[z7 λz=>h1 ⟨z.1.2,z.2⟩]
   rw[e];have d:=Aae x c a k (i+1) acc free As As;refine Eq.trans d ?_;by_cases b:i<x.cps.toList.length
   ·rw[Aux b,List.take_succ_cons,List.count_cons_of_ne];intro z;exact hc (by rw[Atc b];exact congrArg some z)
   ·rw[List.drop_eq_nil_of_le As,List.drop_eq_nil_of_le As];simp
theorem Yy(l:NL)(c:Nat):(Builtin.Str.occurrences (tx l) ⟨#[c]⟩ 0 (tx l).length ((tx l).length+1)).length=l.count c:=by rw[StrLaws.occ_eq];have:= Aae (tx l) c ((tx l).length+1) ((tx l).length+1-0) 0 #[] 0 (AsY _) At;rw[zJ,this,ZR,Cv];simp[AtF]
inductive Aol (x:V)(vs:Nn)(H:Hp)(Q:VK):Prop
|mk(u:_)(c:_)(_:x=.str (tx u))(_:vs=[.str ⟨#[c]⟩])(_:Q (.int (u.count c:Nat)) H)
theorem Aip:MtR X "str.count" Aol:=by intro pins s σ H x vs v us Q I a rv h;obtain⟨u,c,rfl,rfl,q⟩:=h;obtain⟨t,rfl⟩:=a;obtain⟨u',rfl,b⟩:=rv.one;obtain⟨t',rfl⟩:=b;refine call_gives F.slot_str_count (typeIs_str s _ t) F.entry_str_count (F.args_str_count_2 _ _) (gives_str_count _ _ t t') ?_;rw[Yy];exact⟨.int _,H,I.tok _,⟨_,Z⟩,q⟩
theorem Am8:Passes (CX1 P w) X (λ_ _ _=>False):=λ_ _ _ _ _ _ _ c=>by
 obtain⟨_,_,_,_,_,_,_,_,_,_,q⟩:=c;exact q.elim
theorem BX.Abu{k:Nat}(r:BX k A):A.units+100<cLine:=by have:=r.un;lia
section
variable {K:NA}
theorem VF{vs:NR}{a:NV}{Q:VK}(I:Inv X pins σ H s)(hi:IntsAre out.toList a)(c:a.length<=sizeLine)
  (q:∀l,H l=none->Q (.ref l) (upd H l (.lst (vI a)))):EP X pins σ Q (.ref (s.heap.objs.size+1)) {s with heap:=sortedAll s.heap vs out}:=by
 obtain⟨e,d⟩:=sortedAll_at s.heap vs out;refine⟨.ref (s.heap.objs.size+1),_,I.laid (λb u=>sortedAll_old) (Atq _) ?_,Z,q _ (I.hok.fresh (Atq _))⟩;refine⟨by rw[J5];exact c,out.toList,e,Ek hi,?_⟩;rw[d]
inductive Aaf (K:NA)(xs:Nn)(H:Hp)(Q:VK):Prop
|mk(a:_)(ns:_)(_:xs=[.ref a])(_:SqL K H a (vI ns))(_:ns.length<64)(_:∀l ns',ns'.Perm ns->ns'.Pairwise (·<=·)->H l=none->Q (.ref l) (upd H l (.lst (vI ns'))))
theorem Adw(m:X.K=K:=by rfl):Bx X (.builtin "sorted") (Aaf K):=by subst m;intro pins s σ H xs us Q I rv h;obtain⟨a,ns,rfl,n,c,q⟩:=h;obtain⟨u,rfl,j⟩:=rv.one;cases j;obtain⟨its,r,pl,e⟩:=I.list n;have hi:=intsAre_of r;have hsz:=zS;refine sorted_ints pl.isList hi (by rw[hi.length];exact c) λout b i d f=>?_;exact VF I i (by have:= d.length_eq;lia) λl e=>q l b d f e
inductive Aiq (K:NA)(Q:VK)(x:V)(H1:Hp):Prop
|mk(a:_)(ns:_)(_:x=.ref a)(_:SqL K H1 a (vI ns))(_:ns.length<64)(_:∀l ns',ns'.Perm ns->ns'.Pairwise (· ≥ ·)->H1 l=none->Q (.ref l) (upd H1 l (.lst (vI ns'))))
def Aom (K:NA)(tl:TE)(σ:St)(H:Hp)(Q:VK):Prop:=tl σ H (Aiq K Q)
theorem Air{p A t:Pos}(D:Gl X "sorted") (B:X.mg "sorted"=none) (f:PE X e tl) (y:X.K=K:=by rfl)
  (o:backTo pos (starEach [e] X.env)=(false,eval e X.env)::backTo pos (starEach [] X.env):=by rfl)
  (b:(backTo pos (starEach [e] X.env)).any (·.1)=false:=by rfl):PE X (.Call (.Name "sorted" p) [e] [⟨some "reverse",.Constant (.bool true) j t,A⟩] pos) (Aom K tl):=by
 subst y;intro pins s σ H Q I h;refine yH (Ck I D B Gs ?_ Ab Ab);refine callWith_kw ?_ o b Z rfl;rw[o];refine yP (thn (f pins s σ H _ I h) λu E ⟨x,H1,n,C,w⟩=>yR ?_);refine kws_cons (Constant_bool (kws_nil ?_));obtain⟨a,ns,rfl,z,d,q⟩:=w;cases C;obtain⟨its,r,pl,F⟩:=n.list z;have hi:=intsAre_of r;have hsz:=zS;refine sorted_ints_rev pl.isList hi (by rw[hi.length];exact d) λout c v m i=>?_;exact VF n v (by have:= m.length_eq;lia) λl f=>q l c m (by unfold Ordered at i;exact i) f
inductive Abv (K:NA)(xs:Nn)(H:Hp)(Q:VK):Prop
|mk(a:_)(ns:_)(_:xs=[.ref a])(_:SqL K H a (vI ns))(_:0<ns.length)(_:∀M:Int,M∈ns->(∀z∈ns,z<=M)->Q (.int M) H)
theorem Ag3(f:X.K=K:=by rfl)(hc:X.calm=true:=by rfl):Bx X (.builtin "max") (Abv K):=by
 subst f;intro pins s σ H xs us Q I rv h;obtain⟨a,ns,rfl,i,o,q⟩:=h;obtain⟨u,rfl,n⟩:=rv.one;cases n;obtain⟨its,r,pl,p⟩:=I.list i;have hi:=intsAre_of r;obtain⟨xs,c⟩:=hi.allInts.items;have b:ns=xs.toList.map (·.1):=by rw[<-hi.numsOf,<-nums_intItems,<-c]
 have hsz:0<xs.size:=Au
 have l:s.heap.IsList a (intItems xs):=by rw[<-c];exact pl.isList
 refine max_intList (I.ok.hd hc) l hsz λv h' tk e hk=>?_;obtain⟨t,rfl⟩:=intItems_at e;obtain⟨h1,h2⟩:=argBest_gt (numAt xs) (xs.size-1);refine⟨.int _,H,I.kept hk,⟨t,Z⟩,q _ ?_ λz d=>?_⟩
 ·rw[b,numAt_eq];exact getD_mem (by rw[AsZ,zJ];lia)
 ·rw[b]at d;obtain⟨j,m,rfl⟩:=mem_getD d;rw[AsZ,zJ]at m;rw[<-numAt_eq];exact h2 j As
end
namespace SetW
theorem VG:Slot "set_iterator" "__next__" "set_iterator.__next__":= .of (owner:= "set_iterator") (n:= "__next__") (by rw[typeLookup_type,builtinLookup_eq_fast];kernel_rfl) Ap Ap Ap (by first|exact .inl Ap|exact .inr Ap) (by rw[isSubtype_type];kernel_rfl)
theorem Am9:Slot "set_iterator" "__iter__" "set_iterator.__iter__":= .of (owner:= "set_iterator") (n:= "__iter__") (by rw[typeLookup_type,builtinLookup_eq_fast];kernel_rfl) Ap Ap Ap (by first|exact .inl Ap|exact .inr Ap) (by rw[isSubtype_type];kernel_rfl)
theorem AmA:entryFor table "set_iterator.__next__"=some Builtin.«set_iterator.__next__»:=entryFor_of_fast (by kernel_rfl)
theorem AqM:entryFor table "set_iterator.__iter__"=some Builtin.«dict_keyiterator.__iter__»:=entryFor_alias (id':= "dict_keyiterator.__iter__") (by kernel_rfl) Z Ap (by kernel_rfl)
theorem AqN:entryFor table "set.__iter__"=some Builtin.«frozenset.__iter__»:=entryFor_alias (id':= "frozenset.__iter__") (by kernel_rfl) Z Ap (by kernel_rfl)
theorem AmB(a:Nd):argsOk "set_iterator.__next__" ⟨[a],[]⟩:=by unfold argsOk;kernel_rfl
theorem AqO(a:Nd):argsOk "set_iterator.__iter__" ⟨[a],[]⟩:=by unfold argsOk;kernel_rfl
theorem Aon:typeLookup (.type "set") "__len__"=pure (some (.builtin "set.__len__")):=by rw[typeLookup_type,builtinLookup_eq_fast];kernel_rfl
end SetW
namespace SetW
theorem Ae9{α:Type}(next:Nat->Nat):∀(fuel k:Nat)(left:List α)(out:Array α),left.length<=fuel->(pickOrder.go next fuel k left out).toList.Perm (out.toList++left)
 | 0,k,left,out,h=>by
  have:left=[]:=List.length_eq_zero_iff.mp As;subst this;simp[pickOrder.go]
 |fuel+1,k,left,out,h=>by
  unfold pickOrder.go;by_cases e:left=[]
  ·simp_all
  ·have l0:=List.length_pos_iff.mpr e;have a:next k%left.length<left.length:=AtV _ l0
   rw[Atc a];refine(Ae9 next fuel (k+1) _ _ (by grind)).trans ?_;rw[Array.toList_push,AtM];refine List.Perm.append_left _ ?_;rw[AuA];have b:left=left.take (next k%left.length)++left[next k%left.length]::left.drop (next k%left.length+1):=by
    simp_all
   exact(Auy (l₁:=left.take (next k%left.length))).symm.trans (.of_eq b.symm)
theorem Ag4(next:Nat->Nat)(xs:Array α):(pickOrder next xs).toList.Perm xs.toList:=by
 have:= Ae9 next xs.size 0 xs.toList #[] At
 simpa [pickOrder]using this
def LR (xs:Array Nat):Prop:=∀i k,i<k->k<xs.size->xs.getD i 0<xs.getD k 0
theorem VH(xs:Array Nat)(j:Nat)(b:LR xs):∀(fuel lo hi:Nat),lo<=hi->hi<=xs.size->hi-lo<=fuel->(∀i,i<lo->xs.getD i 0<j)->(∀i,hi<=i->i<xs.size->j<=xs.getD i 0) ->
  SetTable.below.go xs j fuel lo hi<=xs.size/\(∀i,i<SetTable.below.go xs j fuel lo hi->xs.getD i 0<j)/\(∀i,SetTable.below.go xs j fuel lo hi<=i->i<xs.size->j<=xs.getD i 0)
 | 0,lo,hi,h1,h2,h3,h4,h5=>by
  have:lo=hi:=As
  subst this;exact⟨h2,h4,h5⟩
 |fuel+1,lo,hi,h1,h2,h3,h4,h5=>by
  unfold SetTable.below.go;by_cases c:lo<hi
  ·rw[z8 c];have h:(lo+hi) / 2<xs.size:=As
   have e:xs.getD ((lo+hi) / 2) j=xs.getD ((lo+hi) / 2) 0:=Au
   by_cases a:xs.getD ((lo+hi) / 2) j<j
   ·rw[z8 a];refine VH xs j b fuel _ hi As h2 As (λi d=>?_) h5;rw[e]at a;by_cases f:i=(lo+hi) / 2
    ·simp_all
    ·have:= b i ((lo+hi) / 2) As h;lia
   ·rw[z7 a];refine VH xs j b fuel lo _ As As As h4 (λi d hs=>?_);rw[e]at a;by_cases f:i=(lo+hi) / 2
    ·rw[f];lia
    ·have:= b ((lo+hi) / 2) i As hs;lia
  ·rw[z7 c];have:lo=hi:=As
   subst this;exact⟨h2,h4,h5⟩
theorem Gv{xs:Array Nat}(a:LR xs)(j:Nat):SetTable.below xs j<=xs.size/\(∀i,i<SetTable.below xs j->xs.getD i 0<j)/\(∀i,SetTable.below xs j<=i->i<xs.size->j<=xs.getD i 0):=
 VH xs j a xs.size 0 xs.size (Atg _) (AsY _) As (λi h=>As) (λi h1 h2=>As)
theorem Adx{xs:Array Nat}(a:LR xs):SetTable.below xs 0=0:=by
 obtain⟨h1,h2,b⟩:=Gv a 0;by_cases c:SetTable.below xs 0=0
 ·exact c
 ·have:= h2 0 As;lia
theorem Ady{xs:Array Nat}(b:LR xs)(hi:i<xs.size):SetTable.below xs (xs.getD i 0+1)=i+1:=by
 obtain⟨h1,h2,d⟩:=Gv b (xs.getD i 0+1);rcases Auz (SetTable.below xs (xs.getD i 0+1)) (i+1) with c|c|c
 ·grind
 ·exact c
 ·have a:=h2 (i+1) c;have:= b i (i+1) As As;lia
structure Wk (w:World)(o:Obj)(es:Array (Int×Nd))(ep:Nat)(t:SetTable):Prop where
 ex:o.ExactSet
 d:o.data=.set es ep t
 f:t.fits es.size=true
 ok:w.params.followText "set-order"=true\/es.size=0\/(t.led=true/\(t.plain=true->LR t.place))
theorem Wk.rise(W:Wk w o es ep t)(b:w.params.followText "set-order"=false) (a:t.plain=true\/es.size<=1):LR t.place:=by
 have c:t.place.size=es.size:=by
  have:= W.f;unfold SetTable.fits at this;simp at this;exact this.1
 rcases W.ok with e|e|⟨_,e⟩
 ·grind
 ·intro i k h1 h2;lia
 ·rcases a with a|a
  ·exact e a
  ·intro i k h1 h2;lia
def Md (w:World)(a:NX)(es:Array (Int×Nd))(ep:Nat)(t:SetTable)(h:Heap)(T:NX)(xl:List (Int×Nd))(i:Nat)(f:Nd):Prop:=
 (∃slot:Nat,f=.int slot 0/\((w.params.followText "set-order"=true/\xl=(pickOrder (w.params.setOrder a ep) es).toList)\/(w.params.followText "set-order"=false/\(t.plain=true\/es.size<=1)/\xl=es.toList/\SetTable.below t.place slot=i))) \/
 (∃pm:NL,f=.ref T/\h.get? T=some (seqObj "tuple" (pm.map λk:Nat=>rawInt (k:Int)).toArray 0)/\pm.Perm (List.range es.size)/\xl=pm.map λk=>es.toList.getD k (0,.none))
theorem Md.perm{T:NX}{f:Nd}(m:Md w a es ep t h T xl i f):xl.Perm es.toList:=by
 rcases m with ⟨_,_,⟨_,e⟩|⟨_,_,e,_⟩⟩|⟨d,_,_,b,e⟩
 ·rw[e];exact Ag4 _ _
 ·rw[e]
 ·rw[e];refine(b.map _).trans (.of_eq ?_);refine List.ext_getElem? λk=>?_;rw[Atn];by_cases c:k<es.size
  ·simp_all
  ·simp_all
theorem Md.len{T:NX}{f:Nd}(m:Md w a es ep t h T xl i f):xl.length=es.size:=by rw[m.perm.length_eq,zJ]
def StI (w:World)(I a T:NX)(o:Obj)(es:Array (Int×Nd))(ep:Nat)(t:SetTable)(xl:List (Int×Nd))(i:Nat)(h:Heap):Prop:=
 ∃f oi,h.get? I=some oi/\oi.cls=.type "set_iterator" /\ oi.data=.fields #[f,.int i 0,.ref a,.int es.size 0,.int ep 0]/\Md w a es ep t h T xl i f/\h.get? a=some o
section
variable {T:NX}
theorem StI.typeIs(x:StI w I a T o es ep t xl i s.heap):s.TypeIs (.ref I) "set_iterator":= let ⟨_,oi,ho,hc,_⟩:=x;⟨oi,ho,hc⟩
theorem typ(W:Wk w o es ep t)(b:s.heap.get? a=some o):s.TypeIs (.ref a) "set":= ⟨o,b,W.ex.1⟩
theorem R4{Q:Bool->Na->Prop}(h:Q (w.params.followText "set-order") s):wpAny (model prog w) A setsByText Q E s:=by exact zA (wpAny_askSetting (zE h))
theorem Ais(W:Wk w o es ep t)(b:s.heap.get? a=some o){Q:Bool->Na->Prop}(h:Q (!w.params.followText "set-order" && (!t.plain && decide (es.size>1))) s):wpAny (model prog w) A (setDrawn a) Q E s:=by exact zA (wpAny_setState_of b W.d W.f (zA (R4 (zE h))))
theorem Abw(W:Wk w o es ep t)(b:s.heap.get? a=some o){Q:Nat->Na->Prop}(h:Q ep s):wpAny (model prog w) A (setEpoch a) Q E s:=by exact zA (wpAny_setState_of b W.d W.f (zE h))
theorem Aag(W:Wk w o es ep t)(b:s.heap.get? a=some o){Q:Array (Int×Nd)->Na->Prop}(h:Q es s):wpAny (model prog w) A (setEntries a) Q E s:=by exact zA (wpAny_setState_of b W.d W.f (zE h))
theorem Ag5{M:Model}(hn:0<n){Q:Nat->Na->Prop}(h:∀i d,i<n->Q i {s with drawn:=d}):wpAny M A (choose .order n) Q E s:=λa p _=>by
 show Sem.wp M a (.choose .order n .pure) _ _ p s;exact⟨As,h _ _ (AtV _ hn)⟩
theorem Abx{α:Type}{M:Model}:∀(n:Nat) (l:List α) {s:Na} {Q:List α->Na->Prop},l.length<=n->(∀a d,a.Perm l->Q a {s with drawn:=d})->wpAny M A (drawOrder n l) Q E s
 | 0,l,s,Q,hl,h=>by
  have:l=[]:=List.length_eq_zero_iff.mp As;subst this;exact zE (h [] s.drawn (.refl _))
 |n+1,[],s,Q,hl,h=>by
  exact zE (h [] s.drawn (.refl _))
 |n+1,x::l,s,Q,hl,h=>by
  refine zA (Ag5 At λi d hi=>?_);rw[Atc hi];refine zA (Abx n ((x::l).eraseIdx i) (by grind) λa d' b=>zE (h _ d' ?_));refine(b.cons _).trans ?_;rw[AuA];have c:(x::l)=(x::l).take i++(x::l)[i]::(x::l).drop (i+1):=by rw[List.getElem_cons_drop,AtW]
  exact(Auy).symm.trans (.of_eq c.symm)
theorem Aoo(W:Wk w o es ep t)(f:s.heap.get? a=some o)(y:es.size<=sizeLine){Q:NS}
  (u:∀(h':Heap) d I T xl,I≠a->T≠I->s.heap.objs.size<=I->(T=a\/s.heap.objs.size<=T)->(∀b o,s.heap.get? b=some o->h'.get? b=some o)->StI w I a T o es ep t xl 0 h'->Q (.ref I) {s with heap:=h',drawn:=d}):wpAny (model prog w) A (pyIter (.ref a)) Q E s:=by
 have p:=typ W f;have n:=yA f;refine wpAny_pyIter_slot p F.slot_set_iter (yL F.slot_set_iter p AqN ?_ (F.args_set_iter_1 _));refine zA (wpAny_of_eq Z ?_);refine zA (zA (Aag W f (zE ?_)));refine zA (Ais W f ?_)
 try dsimp only
 by_cases c:(!w.params.followText "set-order" && (!t.plain && decide (es.size>1)))=true
 ·rw[z8 c];refine zA (Abx es.size (List.range es.size) At λj d r=>?_);have x:j.length=es.size:=by rw[r.length_eq,At1]
  refine zA (z6 ?_ (by show(List.map _ j).toArray.size<=_+1;rw[Atd,AsZ,x];have:= zS;lia));have k1:∀b h,s.heap.get? b=some h->(s.heap.push {cls:=.type "tuple",data:=.seq (j.map λk:Nat=>rawInt (k:Int)).toArray}).get? b=some h:=λb h e=>zB _ e;refine zA (Abw W (k1 _ _ f) (zA (z6 (zE ⟨_,Z,"set_iterator",_,⟨_,zD _ Z,Z⟩,VG.lookup,?_⟩))));refine u _ d _ s.heap.objs.size (j.map λk=>es.toList.getD k (0,.none)) ?_ ?_ ?_ (.inr (AsY _)) (λb h e=>zB _ (k1 _ _ e)) ?_
  ·rw[yG];exact Atr (At5 n)
  ·simp_all
  ·simp_all
  ·exact⟨.ref s.heap.objs.size,_,zD _ Z,Z,Z,.inr ⟨j,Z,zB _ (zD _ Z),r,Z⟩,zB _ (k1 _ _ f)⟩
 ·rw[z7 c];refine zA (zE (zA (Abw W f (zA (z6 (zE ⟨_,Z,"set_iterator",_,⟨_,zD _ Z,Z⟩,VG.lookup,?_⟩))))));have k:∀b h,s.heap.get? b=some h->(s.heap.push {cls:=.type "set_iterator",data:=.fields [rawInt 0,rawInt 0,.ref a,rawInt es.size,rawInt ep].toArray}).get? b=some h:=λb h e=>zB _ e;refine u _ s.drawn s.heap.objs.size a (if w.params.followText "set-order"=true then (pickOrder (w.params.setOrder a ep) es).toList else es.toList) (Atr n) (Atb n) (AsY _) (.inl Z) k ?_;refine⟨rawInt 0,_,zD _ Z,Z,Z,.inl ⟨0,Z,?_⟩,k _ _ f⟩;by_cases m:w.params.followText "set-order"=true
  ·exact .inl ⟨m,by rw[z8 m]⟩
  ·have i:w.params.followText "set-order"=false:=by simpa using m
   rw[i]at c;have l:t.plain=true\/es.size<=1:=by
    by_cases z:t.plain=true
    ·exact .inl z
    ·have v:t.plain=false:=by simpa using z
     rw[v]at c;simp at c;exact .inr c
   exact .inr ⟨i,l,by rw[z7 m],Adx (W.rise i l)⟩
theorem AeA(W:Wk w o es ep t)(m:s.heap.get? a=some o){slot:Nat}
  (u:(w.params.followText "set-order"=true/\xl=(pickOrder (w.params.setOrder a ep) es).toList)\/(w.params.followText "set-order"=false/\(t.plain=true\/es.size<=1)/\xl=es.toList/\SetTable.below t.place slot=i)) {Q:Option (Nd×Nat)->Na->Prop}
  (h:∀next,(i<es.size->(w.params.followText "set-order"=true/\xl=(pickOrder (w.params.setOrder a ep) es).toList)\/(w.params.followText "set-order"=false/\(t.plain=true\/es.size<=1)/\xl=es.toList/\SetTable.below t.place next=i+1)) ->
   Q ((xl[i]?).map λe=>(e.2,next)) s):wpAny (model prog w) A (setNext a slot i ep) Q E s:=by
 refine zA (wpAny_setState_of m W.d W.f (zA (R4 ?_)));rcases u with ⟨b,j⟩|⟨b,l,j,hs⟩
 ·rw[b,z8 Z,z7 At];refine zA (zA (wpAny_setState_of m W.d W.f (zA (R4 ?_))));rw[b];refine zA (wpAny_askSetting (zE (zE ?_)));have:= h slot λ_=>.inl ⟨b,j⟩;rw[j,zL]at this;exact this
 ·rw[b,z7 Ab];have p:=W.rise b l;have x:t.place.size=es.size:=by
   have:= W.f;unfold SetTable.fits at this;simp at this;exact this.1
  have r:(!t.plain && decide (es.size>1))=false:=by
   grind
  have v:(!t.led && !es.isEmpty)=false:=by
   rcases W.ok with e|e|⟨e,_⟩
   ·simp_all
   ·simp_all
   ·rw[e];simp
  split
  ·rename_i n;have c:(!t.plain && decide (es.size>1))=true:=n;rw[r]at c;cases c
  ·refine zA ?_;show wpAny _ _ (if (!t.led && !es.isEmpty)=true then unsupported "set:maker-not-led" else pure ()) _ _ _;rw[v];refine zE (zE ?_);rw[hs];by_cases hi:i<es.size
   ·have:= h (t.place[i]' As+1) λ_=>.inr ⟨b,l,j,by
     have:= Ady p (i:=i) As
     rwa [show t.place.getD i 0=t.place[i]' As by simp[Array.getD,show i<t.place.size by lia]]at this⟩
    rw[j,zL,zM hi]at this;rw[zM hi,zM (show i<t.place.size by lia)];exact this
   ·simp_all
theorem Ala(W:Wk w o es ep t){x:Int×Nd}{Q:NW->Na->Prop}(l:a≠I)(D:T≠I)(st:StI w I a T o es ep t xl i s.heap)(C:xl[i]?=some x)
  (G:∀h',StI w I a T o es ep t xl (i+1) h'->(∀b o,b≠I->s.heap.get? b=some o->h'.get? b=some o)->Q (some x.2) {s with heap:=h'}):wpAny (model prog w) A (pyNext (.ref I)) Q E s:=by
 have H:=st.typeIs;obtain⟨f,J,h,u,c,z,y⟩:=st;have hi:i<es.size:=by rw[<-z.len];exact(zC.mp C).1
 refine zA (wpAny_attempt (wpAny_callSpecial?_slot H VG (yL VG H AmA ?_ (AmB _))));refine zA (wpAny_of_eq Z ?_);refine zA (wpAny_fieldsOf h c ?_);refine zA (Aag W y ?_);rw[z7 At];rcases z with ⟨slot,rfl,z⟩|⟨n,rfl,p,F,r⟩
 ·refine zA (AeA W y z λnext hn=>?_);rw[C];refine zA (zU h c At ?_);have v:=zN (Obj.mapFields (·.setIfInBounds 0 (rawInt (next:Int)))) h (yN (zQ c _));have m:=zQ c (·.setIfInBounds 0 (rawInt (next:Int)));refine zA (zU v m At (zE ⟨_,Z,zE (G _ ⟨.int next 0,_,zN _ v (yN (zQ m _)),?_,?_,.inl ⟨next,Z,hn hi⟩,?_⟩ λb o' B e=>?_)⟩))
  ·exact(Obj.cls_mapFields ..).trans ((Obj.cls_mapFields ..).trans u)
  ·rw[zQ m];simp[rawInt]
  ·exact(zH _ _ (yD l)).trans ((zH _ _ (yD l)).trans y)
  ·exact(zH _ _ (yD B)).trans ((zH _ _ (yD B)).trans e)
 ·have j:i<n.length:=by rw[F.length_eq,At1];exact hi
  have hk:n[i]<es.size:=by
   have:= F.mem_iff.mp (At9 j)
   simpa using this
  have e1:es[n[i]]?=some x:=by
   rw[r,Atn,Atc j]at C;have:= yB C;rw[zM hk];simp[List.getD,hk]at this;rw[this]
  simp only [AtJ];refine zA (yK p Z ?_)
  try dsimp only
  rw[show((n.map λk:Nat=>rawInt (k:Int)).toArray)[i]?=some (.int (n[i]:Int) 0) by simp[j,rawInt]];refine zA (zA (wpAny_setState_of y W.d W.f ?_))
  try dsimp only
  rw[z7 At];simp only [AtJ];rw[e1];refine zE (zA (zU h c At (zE ⟨_,Z,zE (G _ ⟨.ref T,_,zN _ h (yN (zQ c _)),?_,?_,.inr ⟨n,Z,?_,F,r⟩,?_⟩ λb o' B e=>?_)⟩)))
  ·exact(Obj.cls_mapFields ..).trans u
  ·rw[zQ c];simp[rawInt]
  ·exact(zH _ _ (yD D)).trans p
  ·exact(zH _ _ (yD l)).trans y
  ·exact(zH _ _ (yD B)).trans e
theorem stops(f:A.handled=none){Q:NW->Na->Prop}(d:∀h',(∀b o,s.heap.get? b=some o->h'.get? b=some o)->Q none {s with heap:=h'}) :
  wpAny (model prog w) A.in1 (do raiseNew (<-newExc (.type "StopIteration") []):Sem Fin) (λc s'=>∃v,c=Fin.done (Flow.ret v)/\wpAny (model prog w) A (pure (some v)) Q E s')
   (λe s'=>wpAny (model prog w) A (do if <-isInstance e (.type "StopIteration") then pure none else throw e) Q E s') s:=by
 refine zA ?_;refine zA (z6 (zA (wpAny_of_eq (a:=Value.none) (by first|rfl|grind) (z6 ?_ (by size_fits)))) (by size_fits));refine zA (wpAny_handled ?_);rw[show A.in1.handled=none from f];refine zA (zE (wpAny_throw ?_));refine zA (wpAny_isInstance ⟨_,zD _ Z,Z⟩ isSubtype_stop (zE (d _ λb o' e=>?_)));exact zB _ (zB _ e)
theorem Aop(W:Wk w o es ep t){Q:NW->Na->Prop}(r:A.handled=none)(st:StI w I a T o es ep t xl es.size s.heap)
  (n:∀h',(∀b o,b≠I->s.heap.get? b=some o->h'.get? b=some o)->Q none {s with heap:=h'}):wpAny (model prog w) A (pyNext (.ref I)) Q E s:=by
 have p:=st.typeIs;obtain⟨f,C,d,z,c,h,u⟩:=st;have B:=Au0 (by rw[h.len];exact AsY _);refine zA (wpAny_attempt (wpAny_callSpecial?_slot p VG (yL VG p AmA ?_ (AmB _))));refine zA (wpAny_of_eq Z ?_);refine zA (wpAny_fieldsOf d c ?_);refine zA (Aag W u ?_);rw[z7 At];rcases h with ⟨slot,rfl,h⟩|⟨v,rfl,j,y,x⟩
 ·refine zA (AeA W u h λnext hn=>?_);rw[B];refine zA (zU d c At (stops r λh' k=>n h' λb o' i e=>k _ _ ?_));exact(zH _ _ (yD i)).trans e
 ·simp only [AtJ];refine zA (yK j Z ?_)
  try dsimp only
  rw[show((v.map λk:Nat=>rawInt (k:Int)).toArray)[es.size]?=none by
   rw[List.getElem?_toArray];exact Au0 (by rw[AsZ,y.length_eq,At1];exact AsY _)]
  refine zA (zU d c At ?_);have l:=zN (Obj.mapFields (·.setIfInBounds 0 (rawInt 0))) d (yN (zQ c _));have m:=zQ c (·.setIfInBounds 0 (rawInt 0));refine zA (zU l m At (stops r λh' k=>n h' λb o' i e=>k _ _ ?_));exact(zH _ _ (yD i)).trans ((zH _ _ (yD i)).trans e)
theorem Alb{Q:NS}(st:StI w I a T o es ep t xl i s.heap)(h:Q (.ref I) s):wpAny (model prog w) A (pyIter (.ref I)) Q E s:=by have b:=st.typeIs;refine wpAny_pyIter_slot b Am9 (yL Am9 b AqM ?_ (AqO _));exact zE ⟨_,Z,"set_iterator",_,b,VG.lookup,h⟩
theorem walks(W:Wk w o es ep t)(C:A.handled=none)(p:a≠I)(n:T≠I):Walks prog w A I [I,a,T] [I] es.size (λi v=>∃x,xl[i]?=some x/\v=x.2) (StI w I a T o es ep t xl) where
 sub:=λb d=>by rw[zF.mp d];exact Atk
 frame:=λi h h' ⟨f,H,h1,h2,D,l,u⟩ hk=>⟨f,H,hk I At _ h1,h2,D,by
  rcases l with m|⟨y,G,B,F⟩
  ·exact .inl m
  ·exact .inr ⟨y,G,hk T At _ B,F⟩,hk a At _ u⟩
 item:=λi s Q E hi st c=>by
  obtain⟨x,r⟩:∃x,xl[i]?=some x:=⟨_,Atc (by
   obtain⟨_,_,_,_,_,l,_⟩:=id st;rw[l.len];exact hi)⟩
  exact Ala W p n st r λh' j hk=>c _ h' s.toks ⟨x,r,Z⟩ j λb o d e=>hk b o (λz=>d (by simp[z])) e
 done:=λs Q E st c=>Aop W C st λh' hk=>c h' s.toks λb o d e=>hk b o (λz=>d (by simp[z])) e
 self:=λi s Q E st c=>Alb st c
end
end SetW
namespace SetW
theorem Aoq:isSubtype (.type "set") (.type "set")=pure true:=by rw[isSubtype_type];kernel_rfl
theorem AeB(W:Wk w o es ep t)(ho:s.heap.get? a=some o)(hh:A.handled=none)(hn:es.size<=sizeLine){Q:NR->Na->Prop}
  (hQ:∀(xl:List (Int×Nd)) s',xl.Perm es.toList->(∀b o,s.heap.get? b=some o->s'.heap.get? b=some o)->s'.gens=s.gens->s'.os=s.os->s.heap.objs.size<=s'.heap.objs.size->Q (xl.map (·.2)) s'):wpAny (model prog w) A (collect (.ref a)) Q E s:=by
 have H:=yA ho;refine zA (wpAny_runValue (codeAny_builtin F.entry_proto_collect ?_));refine zA (z6 (zE ⟨plainId_quiet F.plain_list_iadd _,codeAny_builtin F.entry_list_iadd ?_⟩));obtain⟨h1,h⟩:∃h1,h1=s.heap.push {cls:=.type "list",data:=.seq ([]:NR).toArray}:=⟨_,Z⟩;have L:h1.get? s.heap.objs.size=some {cls:=.type "list",data:=.seq ([]:NR).toArray}:=by rw[h];exact zD _ Z
 have k1:∀b o,s.heap.get? b=some o->h1.get? b=some o:=λb o e=>by rw[h];exact zB _ e
 have X:h1.objs.size=s.heap.objs.size+1:=by rw[h,yG]
 show wpAny _ A.in1 (Builtin.List.listExtendWith (.ref s.heap.objs.size) (.ref a) (.ref s.heap.objs.size)) _ _ {s with heap:=s.heap.push {cls:=.type "list",data:=.seq ([]:NR).toArray} };rw[<-h];have m:=k1 _ _ ho;refine zA (wpAny_typeOf (typ W m) ?_);have e1:Builtin.List.listSameRef (.ref s.heap.objs.size) (.ref a)=false:=by
  have:= Atr H;simp[Builtin.List.listSameRef,this]
 rw[z7 (by rw[e1];decide)];refine zA (Aoo W m hn ?_);intro h2 d I T xl J P sI sT k2 C;have p:xl.Perm es.toList:=by
  obtain⟨_,_,_,_,_,v,_⟩:=C;exact v.perm
 have j:=Ate (by rw[X];exact Aty _) sI;show wpAny _ A.in1 _ _ _ {s with heap:=h2,drawn:=d};refine zA (zT ?_);have n:=k2 _ _ m;refine zA (wpAny_specialOf (typ W n) Aon ?_);generalize N:("set.__len__":String)=a0;subst N;refine zA (wpAny_isInstance (typ W n) Aoq ?_);rw[z7 Ab];split
 case isFalse hn1=>grind
 refine zA (wpAny_typeOf (typ W n) (zE ?_));refine zA (wpAny_rule (zA ?_));have z:=k2 _ _ L;refine zA (wpAny_updateSeq z Z ?_);have u:=zN (Obj.mapSeq (·.push Value.none)) z Z;refine wpAny_updateSeq u Z ?_;have D:=zN (Obj.mapSeq (·.pop)) u Z;obtain⟨G,l⟩:∃G,G=(h2.update s.heap.objs.size (Obj.mapSeq (·.push Value.none))).update s.heap.objs.size (Obj.mapSeq (·.pop)):=⟨_,Z⟩;have S:∀b o,b≠s.heap.objs.size->h2.get? b=some o->G.get? b=some o:=λb o B e=>by rw[l];exact(zH _ _ (yD B)).trans ((zH _ _ (yD B)).trans e)
 have Y:T≠s.heap.objs.size:=by
  rcases sT with e|e
  ·rw[e];exact Atb H
  ·exact Atr (Ate (by rw[X];exact Aty _) e)
 have U:=walks (prog:=prog) (xl:=xl) (A:=A.in1) W hh J.symm P;have O:=U.frame 0 h2 G C λb B R e=>S b R (by
  simp only [Ati,Atl,yE]at B;rcases B with e|e|e
  ·rw[e];exact Atr j
  ·rw[e];exact Atb H
  ·rw[e];exact Y) e
 show wpAny _ A.in1 (again (.builtin "list.extend.loop" ⟨[.ref s.heap.objs.size,.ref I,.ref s.heap.objs.size],[]⟩)) _ _ {s with heap:=(h2.update s.heap.objs.size (Obj.mapSeq (·.push Value.none))).update s.heap.objs.size (Obj.mapSeq (·.pop)),drawn:=d};rw[<-l];rw[<-l]at D;refine zE ⟨plainId_quiet F.plain_extend_loop _,codeAny_extend_loopS (U.toS) hn s.heap.objs.size ?_ _ es.size 0 _ _ _ Z (Atg _) O D (ItemsOf.nil _) λs' c c' v y f=>?_⟩
 ·simp only [Ati,Atl,yE,not_or];exact⟨Atb j,Atr H,Y.symm⟩
 refine zA (wpAny_load y (zE ?_));have K:xl.length=es.size:=by rw[p.length_eq,zJ]
 have ea:c.toList=xl.map (·.2):=by
  refine List.ext_getElem? λi=>?_;rw[Atn,zL];by_cases hi:i<es.size
  ·have r:i<c.size:=by rw[f.1];exact hi
   obtain⟨x,g1,g2⟩:=f.2 i c[i] (zM r);rw[g1,zM r,g2];rfl
  ·rw[Array.getElem?_eq_none (by rw[f.1];lia),Au0 (by rw[K];lia)];rfl
 rw[ea];refine hQ xl s' p (λb R e=>v.heap b R ?_ (S _ _ (Atb (yA e)) (k2 _ _ (k1 _ _ e)))) v.gens v.os (Ats (yA y));have:= yA e;simp only [Ati,Atl,yE,not_or];exact⟨Atb this,Atb (AtT this j)⟩
theorem Adz(W:Wk w o es ep t)(N:s.heap.get? a=some o)(H:A.handled=none)(J:es.size<64){key:Int×Nd->Int}(L:∀e∈es.toList,∃tk,e.2=.int (key e) tk){Q:NS}
  (O:∀(h':Heap) d (tk l e:Nat) (out:Array Nd) (c:NV),(∀b o,s.heap.get? b=some o->h'.get? b=some o)->s.heap.objs.size<=l->h'.get? l=some (seqObj "list" out e)->IntsAre out.toList c->c.Perm (es.toList.map key)->c.Pairwise (·<=·) ->
   Q (.ref l) {s with heap:=h',drawn:=d,toks:=tk}):wpAny (model prog w) A (call (.builtin "sorted") [.ref a]) Q E s:=by
 refine Calls.call_function_entry kind_sorted plain_sorted entry_sorted (args_sorted1 _) ?_;refine zA (zE (zA (AeB (A:=A.in1) W N H (by rw[zS];lia) λxl s' i k y j z=>?_)));obtain⟨h',g',d',m,K⟩:=s';dsimp only at k y j z;subst y j;have G:xl.length=es.size:=by rw[i.length_eq,zJ]
 have n:∀l:List (Int×Nd),(∀e∈l,∃tk,e.2=.int (key e) tk)->IntsAre (l.map (·.2)) (l.map key):=by
  intro l
  induction l with
  |nil=>intro _;exact .nil
  |cons e l D =>
   intro h;obtain⟨tk,hk⟩:=h e Atk;rw[Atw,hk];exact .cons _ _ (D λx F=>h x (Ath _ F))
 have r:=n xl λe p=>L e (i.mem_iff.mp p);have f:(h'.push (seqObj "list" (xl.map (·.2)).toArray 0)).get? h'.objs.size=some (seqObj "list" (xl.map (·.2)).toArray 0):=zD _ Z;refine zA (wpAny_newList ?_);refine zA (zT (yL slot_list_sort ⟨_,f,Z⟩ entry_list_sort (list_sort_tree f r Au λout c C B I=>⟨_,Z,zE ⟨_,Z,?_⟩⟩) (args_list_sort _)));obtain⟨e,p⟩:=sortedHeap_at f;refine O _ d' m h'.objs.size e out c (λb P v=>?_) ?_ p C (B.trans (i.map _)) I
 ·have u:=yA (k _ _ v);rw[sortedHeap_old (Atb u) (by rw[size_push'];exact At5 u)];exact zB _ (k _ _ v)
 ·exact z
end SetW
namespace SetW
theorem VJ{xs:Array Nat}:LR xs↔xs.toList.Pairwise (·<·):=by
 rw[Au1];constructor
 ·intro h i j hi e c;have:= h i j c (by simpa using e);have a:i<xs.size:=by simpa using hi
  have b:j<xs.size:=by simpa using e
  simpa [Array.getD,a,b]using this
 ·intro h i k d hk;have:= h i k (by simp;lia) (by simpa using hk) d;have a:i<xs.size:=As
  simpa [Array.getD,a,hk]using this
theorem Aby{xs:Array Nat}(f:LR xs)(hn:xs[SetTable.below xs j]?≠some j):LR (SetTable.insertAt xs (SetTable.below xs j) j):=by
 obtain⟨h1,h2,o⟩:=Gv f j;have n:=VJ.mp f;rw[VJ];generalize SetTable.below xs j=p at h1 h2 o hn;have e:(SetTable.insertAt xs p j).toList=xs.toList.take p++j::xs.toList.drop p:=by
  unfold SetTable.insertAt;simp[AtF]
 rw[e];have lo:∀y∈xs.toList.take p,y<j:=λy l=>by
  obtain⟨i,hi,rfl⟩:=List.mem_take_iff_getElem.mp l;have d:i<p/\i<xs.size:=by simpa using (Nat.lt_min.mp hi)
  have:= h2 i d.1
  simpa [Array.getD,d.2]using this
 have hi:∀y∈xs.toList.drop p,j<y:=λy l=>by
  obtain⟨i,hi,rfl⟩:=List.mem_drop_iff_getElem.mp l;have d:i+p<xs.size:=by simpa using hi
  have b:xs.getD (i+p) 0=xs[i+p]:=by simp[Array.getD,d]
  have ne:xs[i+p]≠j:=λz=>by
   by_cases c:i=0
   ·subst c;apply hn;rw[zM As];simp at z;rw[z]
   ·have s:=o p (AsY _) As;have r:=f p (i+p) As d;rw[b,z]at r;lia
  grind
 rw[List.pairwise_append];refine⟨n.sublist (List.take_sublist _ _),?_,λa m b h=>?_⟩
 ·rw[List.pairwise_cons];exact⟨hi,n.sublist (List.drop_sublist _ _)⟩
 ·rcases zZ.mp h with e|h
  ·rw[e];exact lo a m
  ·exact AtT (lo a m) (hi b h)
theorem Oa(t:SetTable)(g:Nat->Int)(h:Int):∀(fuel:Nat)(p:SetTable.Probe)(j:Nat)(a:Option Nat),(∀d,p.dummy=some d->t.slot d=.dummy)->SetTable.probe.go t g h fuel p=some (.empty j a)->t.slot j=.empty/\∀d,a=some d->t.slot d=.dummy
 | 0,p,j,a,hd,e=>by simp[SetTable.probe.go]at e
 |fuel+1,p,j,a,hd,e=>by
  have c:∀q:SetTable.Probe,(t.advance q).dummy=q.dummy:=λq=>by
   unfold SetTable.advance;split<;>rfl
  unfold SetTable.probe.go at e;split at e
  ·grind
  ·rename_i hs;refine Oa t g h fuel _ j a (λd b=>?_) e;grind
  ·split at e
   ·cases e
   ·exact Oa t g h fuel _ j a (λd b=>hd d (by grind)) e
theorem Ag6{h:Int}(e:t.freeSlot h=some (j,b)):t.place[SetTable.below t.place j]?≠some j:=by
 have c:t.slot j=.empty\/t.slot j=.dummy:=by
  unfold SetTable.freeSlot at e;split at e
  ·rename_i l f m;obtain⟨a,i⟩:=Oa t _ h _ _ l f (λd n=>by simp[SetTable.probeStart]at n) m;injection e with e;injection e with e1 o;cases f with
   |none=>exact .inl (by rw[<-e1];exact a)
   |some d=>exact .inr (by rw[<-e1];exact i d Z)
  ·cases e
 intro z;unfold SetTable.slot at c;rw[z8 (by rw[z];simp)]at c;rcases c with c|c<;>cases c
def TOk (t t':SetTable):Prop:=t'.led=t.led/\((t.plain=true->LR t.place)->t'.plain=true->LR t'.place)
theorem VL(t:SetTable)(n:Nat):TOk t (t.standIn n):=⟨Z,λ_ h=>by cases h⟩
theorem AqP(h:TOk t t')(n:Nat):TOk t (t'.orStandIn n):=by
 unfold SetTable.orStandIn;by_cases c:t'.fits n=true
 ·rw[z8 c];exact h
 ·rw[z7 c];exact⟨h.1,λ_ z=>by cases z⟩
theorem Aor(t:SetTable)(es:Array (Int×Nd))(h:Int)(x:Nd):TOk t (layNew t es h x).2.1:=by
 unfold layNew;split
 ·rename_i slot c e;exact AqP (t:=t) (t':=(t.put slot).1) ⟨Z,λa b=>Aby (a b) (Ag6 e)⟩ _
 ·exact VL _ _
theorem AeC{plain:Bool}{hs:Array Int}(e:SetTable.laid mask finger moves led plain hs=some (t',order)):t'.led=led/\t'.plain=plain/\LR t'.place:=by
 unfold SetTable.laid at e;cases j:SetTable.layClean mask hs with
 |none=>rw[j]at e;cases e
 |some owner =>
  rw[j]at e;have d:=e;injection d with d;injection d with e1 n;subst e1;refine⟨Z,Z,?_⟩;rw[VJ];refine List.Pairwise.map _ (λa b h=>h) ?_;refine List.Pairwise.filterMap _ (λa l f b i m c=>?_) List.pairwise_lt_range;cases h1:owner.getD a none with
  |none=>simp_all
  |some u =>
   cases h2:owner.getD l none with
   |none=>simp_all
   |some u' =>
    rw[h1]at i;rw[h2]at c;cases i;cases c;exact f
theorem Ait(t:SetTable)(es:Array (Int×Nd))(n:Nat):TOk t (relayAll t es n).2.1:=by
 unfold relayAll;split
 ·rename_i t' order e;obtain⟨a,b,c⟩:=AeC e
  try dsimp only
  split
  ·exact⟨a,λ_ _=>c⟩
  ·exact VL _ _
 ·exact VL _ _
def ky (e:Int×Nd):Int:=match e.2 with|.int i _=>i|_=>0
structure IS (w:World)(o:Obj)(es:Array (Int×Nd))(ep:Nat)(t:SetTable):Prop where
 ex:o.ExactSet
 d:o.data=.set es ep t
 f:t.fits es.size=true
 ok:w.params.followText "set-order"=true\/(t.led=true/\(t.plain=true->LR t.place))
 el:∀e∈es.toList,(∃k tk,e=(hashInt k,.int k tk))
 nd:(es.toList.map ky).Nodup
theorem IS.elems(h:IS w o es ep t):ElemsOf (intKind prog w) es.toList:=λe a=>by
 obtain⟨k,tk,rfl⟩:=h.el e a;exact⟨⟨k,intKind_is _ _ _ _,Z⟩,Z⟩
theorem IS.wk(h:IS w o es ep t):Wk w o es ep t:=⟨h.ex,h.d,h.f,h.ok.elim .inl λz=>.inr (.inr z)⟩
theorem AmC(g:Sem Unit)(a:g=match gv with|true=>rule "set.scan.the-table-gave-way"|false=>pure ()) (h:Q () s):wpAny (model prog w) A g Q E s:=by
 subst a;cases gv
 ·exact zE h
 ·exact wpAny_rule h
theorem Vj(c:s.heap.get? a=some o)(b:o.data=.set es ep t):(s.heap.update a (Obj.putSet es' t')).get? a=some {o with data:=.set es' (ep+1) t'}:=by have:= zN (Obj.putSet es' t') c (by rw[putSet_of es' t' b];rfl);rw[putSet_of es' t' b]at this;exact this
theorem IS.to{tk:Tok}(h:IS w o es ep t)(i:v∉es.toList.map ky)(d:es1.toList.Perm (es.push (hashInt v,.int v tk)).toList)(l:t1.fits es1.size=true)(a:TOk t t1)(c:Nat) :
  IS w {o with data:=.set es1 c t1} es1 c t1:=by
 rw[Array.toList_push]at d;refine⟨h.ex,Z,l,h.ok.imp id λz=>⟨by rw[a.1];exact z.1,a.2 z.2⟩,λe b=>?_,?_⟩
 ·rcases zG.mp (d.mem_iff.mp b) with b|b
  ·exact h.el e b
  ·rw[zF.mp b];exact⟨v,tk,Z⟩
 ·refine(d.map ky).nodup_iff.mpr ?_;rw[At8,List.nodup_append];refine⟨h.nd,At,λx f y j e=>?_⟩;have:y=v:=by simpa [ky]using j
  rw[e,this]at f;exact i f
theorem Aos(h:IS w o es ep t)(B:s.heap.get? a=some o){tk:Tok}(P:es.size+1<scanBound){Q:Bool->Na->Prop}
  (J:∀h' o' es' ep' t' b,Heap.SameBut a s.heap h'->h'.get? a=some o'->IS w o' es' ep' t'->(∀z,z∈es'.toList.map ky↔z∈es.toList.map ky\/z=v)->es'.size<=es.size+1->Q b {s with heap:=h'}) :
  wpAny (model prog w) A (setAddHashed a (.int v tk) (hashInt v)) Q E s:=by
 have r:ElemsOf (intKind prog w) es.toList:=h.elems;have C:(intKind prog w).is v (.int v tk)=true:=intKind_is _ _ _ _;refine zT (zA (wpAny_setState_of B h.d h.f ?_))
 try dsimp only
 rw[byScan_of (knd:=intKind prog w) Z (Nat.lt_of_succ_lt P) r];refine zA (zA (wpAny_rule (zA (wpAny_setScan_of C B h.d h.f r ?_))));have mem:∀e∈es.toList,((intKind prog w).is v e.2=true↔ky e=v):=λe m=>by
  obtain⟨k,p,rfl⟩:=h.el e m;show Value.isInt v (.int k p)=true↔k=v;constructor
  ·intro z;obtain⟨_,q⟩:=Value.isInt_shape z;cases q;rfl
  ·intro z;rw[<-z];exact intKind_is prog w k p
 cases O:List.findIdx? (λe=>(intKind prog w).is v e.2) es.toList with
 |some j =>
  try dsimp only
  obtain⟨N,F,_⟩:=List.findIdx?_eq_some_iff_getElem.mp O;refine zE (zE ?_);have H:=zY.mpr ⟨_,At9 N,(mem _ (At9 N)).mp F⟩;have:= J s.heap o es ep t false (Heap.SameBut.refl a s.heap) B h (λz=>⟨.inl,λq=>q.elim id λe=>e▸H⟩) (Atq _);exact this
 |none =>
  have H:v∉es.toList.map ky:=λq=>by
   obtain⟨e,m,hk⟩:=zY.mp q;have:= List.findIdx?_eq_none_iff.mp O e m;rw[(mem e m).mpr hk]at this;cases this
  have c:=layNew_perm t es (hashInt v) (.int v tk);have i:=layNew_fits t es (hashInt v) (.int v tk);have l:=Aor t es (hashInt v) (.int v tk);generalize layNew t es (hashInt v) (.int v tk)=Ly at c i l ⊢;obtain⟨es1,t1,U,gv⟩:=Ly;dsimp only at c i l ⊢;refine zA (AmC _ Z ?_);have K:∀z,z∈es1.toList.map ky↔z∈es.toList.map ky\/z=v:=λz=>by
   rw[(c.map ky).mem_iff];simp[ky]
  have sz:es1.size=es.size+1:=by rw[<-zJ,c.length_eq,Array.toList_push,Atm];rfl
  have n:es1.size<scanBound:=by rw[sz];exact P
  have G:=Vj (es':=es1) (t':=t1) B h.d;have y:=h.to H c i l (ep+1);have L:=Heap.SameBut.update s.heap a (Obj.putSet es1 t1);split
  all_goals
   refine zA (wpAny_of_eq Z ?_);simp only [↓reduceIte];refine zA (wpAny_storeSet_of B h.d ?_ (fits_of_scanBound n));split
   ·have D:=relayAll_perm t1 es1 (SetTable.grown es1.size);have rf:=relayAll_fits t1 es1 (SetTable.grown es1.size);have I:=Ait t1 es1 (SetTable.grown es1.size);generalize relayAll t1 es1 (SetTable.grown es1.size)=R at D rf I ⊢;obtain⟨u,T,S⟩:=R;have x:u.size=es1.size:=by rw[<-zJ,D.length_eq,zJ]
    refine zA (AmC _ Z (zA (wpAny_storeSet_of G Z (zE (zE ?_)) (fits_of_scanBound (by rw[x];exact n)))));refine J _ _ u (ep+1+1) T true (L.trans (Heap.SameBut.update _ a _)) (Vj G Z) ?_ (λz=>by rw[(D.map ky).mem_iff];exact K z) (by rw[x,sz];exact AsY _);exact⟨y.ex,Z,rf,y.ok.imp id λz=>⟨by rw[I.1];exact z.1,I.2 z.2⟩,λe m=>y.el e (D.mem_iff.mp m),(D.map ky).nodup_iff.mpr y.nd⟩
   ·exact zE (zE (J _ _ es1 (ep+1) t1 true L G y K (by rw[sz];exact AsY _)))
end SetW
namespace SetW
theorem IS.fresh:IS w {cls:=.type "set",dict:=none,data:=.set #[] 0 (.fresh 0 0 (!w.params.followText "set-order"))} #[] 0 (.fresh 0 0 (!w.params.followText "set-order")):=by
 refine⟨⟨Z,Z,Z⟩,Z,Z,?_,λe a=>by simp at a,At⟩;by_cases h:w.params.followText "set-order"=true
 ·exact .inl h
 ·refine .inr ⟨by simpa [SetTable.fresh]using h,λ_ i k h1 h2=>?_⟩;simp[SetTable.fresh]at h2
theorem Ald{P:Nat->Nd->Prop}{St:Nat->Na->Prop}(W:WalksS prog w A.in1 I fp wr G n P St)(S:NX)(u:S∉fp)
  (val:Nat->Int) (r:∀i v,P i v->∃tk,v=.int (val i) tk) (f:n+1<scanBound):∀(k i:Nat)(s:Na)(o:Obj)(es:Array (Int×Nd))(ep:Nat)(t:SetTable),n-i=k->i<=n->St i s->s.heap.get? S=some o->IS w o es ep t->es.size<=i ->
   (∀z,z∈es.toList.map ky↔∃j,j<i/\val j=z) ->
   (∀s' o' es' d t',Moved (S::wr) G s s'->s'.heap.get? S=some o'->IS w o' es' d t'->es'.size<=n->(∀z,z∈es'.toList.map ky↔∃j,j<n/\val j=z)->R (.ok (.ret .none)) s') ->
   codeAny (model prog w) A (.builtin "set.update.loop" ⟨[.ref S,.ref I],[]⟩) R s:=by
 have x:=λh=>u (W.sub _ h);have a:∀b∈wr,b∈S::wr:=λb f=>Ath _ f;intro k
 induction k with
 |zero =>
  intro i s o es ep t hk hi c D E X U C;obtain rfl:i=n:=As
  refine codeAny_builtin PyProof.Rows.F.entry_set_update_loop ?_;refine zA (W.done s _ _ c λs' p=>?_);exact zE (C s' o es ep t (p.mono a) (p.heap S _ x D) E X U)
 |succ k ih =>
  intro i s o es ep t hk hi c D E X U C;have m:i<n:=As
  refine codeAny_builtin PyProof.Rows.F.entry_set_update_loop ?_;refine zA (W.item i s _ _ m c λv s' hP l p=>?_);obtain⟨tk,rfl⟩:=r i v hP;refine zA (zT ?_);refine zT (zA ((intKind prog w).pyHash (intKind_is _ _ _ _) ?_));refine Aos (s:={s' with toks:=s'.toks+1}) E (p.heap S _ x D) As λh' o' es' d t' b Y K O a0 a1=>?_;refine zE ⟨plainId_quiet PyProof.Rows.F.plain_set_update_loop _,ih (i+1) _ o' es' d t' As m (W.frame _ s' _ _ l (Atq _) λb f ob e=>?_) K O As (λz=>?_) λQ o2 y N t2 L J B T H=>?_⟩
  ·rw[Y.2 b (λh:b=S=>u (by rw[<-h];exact f))];exact e
  ·grind
  ·refine C Q o2 y N t2 (Moved.trans W.gtrans ((p.mono a).then_heap (Atq _) λb ob f e=>?_) L) J B T H;rw[Y.2 b (λh:b=S=>f (by rw[h];exact Atk))];exact e
end SetW
namespace SetW
section
def frs (w:World):Obj:={cls:=.type "set",dict:=none,data:=.set #[] 0 (.fresh 0 0 (!w.params.followText "set-order"))}
theorem Aiu(v:Nd)(h:Q₁ (.ref s.heap.objs.size) {s with heap:=s.heap.push (frs w)}):codeAny (model prog w) A (.call (.builtin "set.__new__") ⟨[.type "set",v],[]⟩) (wants Q₁ E) s:=by
 refine codeAny_of_tree ?_;refine zA (wpAny_of_eq (F.newCall_set_1 v) (zE ⟨plainId_quiet F.plain_set_new _,codeAny_builtin F.entry_set_new ?_⟩));have a:=sub_set_self
 wp_walk
 refine wpAny_askSetting (zE ?_);exact zA (wpAny_alloc (zE (zE h)))
set_option maxHeartbeats 4000000 in
theorem Ale{l:NX}{Q:NS}(hh:A.handled=none)(hl:s.heap.IsList l items)(hi:IntsAre items.toList ns)(hb:items.size+1<scanBound)
  (h:∀(h':Heap) (tk:Nat) o es ep t,h'.get? s.heap.objs.size=some o->IS w o es ep t->es.size<=items.size->(∀z,z∈es.toList.map ky↔∃j,j<items.size/\ns.getD j 0=z) ->
   (∀b o,s.heap.get? b=some o->h'.get? b=some o)->Q (.ref s.heap.objs.size) {s with heap:=h',toks:=tk}):wpAny (model prog w) A (call (.type "set") [.ref l]) Q E s:=by
 obtain⟨c,tl,a8⟩:=zX.mro;have X:=zX.made;have a7:=zX.sub;refine wpAny_call (codeAny_of_tree ?_);show wpAny _ _ (callAny (.type "set") _) _ _ _;refine zE ⟨Code.quiet_builtin _ Ap,codeAny_builtin F.entry_type_call ?_⟩;rw[Around.under_plain (weight_type_call_type "set" [.ref l] []) rfl];have h1:=zX.notType;have h2:=zX.canCreate;have ae:=F.typeCall_set_1 (.ref l)
 repeat (any_goals (first|assumption|wp_step))
 refine yQ (Aiu (.ref l) (E:=E) (Q₁:=λx s₁=>x=.ref s.heap.objs.size/\s₁={s with heap:=s.heap.push (frs w)}) ⟨rfl,rfl⟩) λr s₁ hr=>?_;cases r with
 |error e=>exact hr
 |ok fl =>
  cases fl with
  |ret x =>
   obtain⟨rfl,rfl⟩:=hr;have P:(s.heap.push (frs w)).get? s.heap.objs.size=some (frs w):=zD _ Z;have hT:Shared.TypeIs {s with heap:=s.heap.push (frs w)} (.ref s.heap.objs.size) "set":= ⟨_,P,rfl⟩;have af:=zX.init.lookup;have ag:=zX.init.bind (.ref s.heap.objs.size)
   repeat (any_goals (first|assumption|wp_step))
   refine yQ (codeAny_call_builtin (R:=wants (λr m=>r=.none/\∃h' tk o es ep t,m={s with heap:=h',toks:=tk}/\h'.get? s.heap.objs.size=some o/\IS w o es ep t/\es.size<=items.size/\(∀z,z∈es.toList.map ky↔∃j,j<items.size/\ns.getD j 0=z) /\
     (∀b o,s.heap.get? b=some o->h'.get? b=some o)) E) zX.init.plain F.entry_set_init (check_set_init_1 hT ?_)) λH m a=>?_
   ·obtain⟨ol,G,I,nl,hdl⟩:=hl;obtain⟨aa,Y,N,K⟩:=ol;simp only at I hdl;subst I hdl;have y:l<s.heap.objs.size:=yA G;obtain⟨h1,n⟩:∃h1,h1=s.heap.push (frs w):=⟨_,Z⟩;have z1:h1.objs.size=s.heap.objs.size+1:=by rw[n,yG]
    have k1:∀b d,s.heap.get? b=some d->h1.get? b=some d:=λb d e=>by rw[n];exact zB _ e
    rw[<-n]at P hT ⊢;have f:=k1 _ _ G;have U:h1.IsList l items:=⟨_,f,Z,nl,Z⟩;have ab:=F.sub_list_set;have a9:=F.sub_list_frozenset;have ac:(Value.type "list" == Value.type "dict")=false:=Ab
    have a0:h1.get? s.heap.objs.size=some {cls:=.type "set",dict:=none,data:=.set #[] 0 (.fresh 0 0 (!w.params.followText "set-order"))}:=P;unfold Builtin.«set.__init__» noKeywords Builtin.Frozenset.updateFrom;generalize W:pyIter=PI
    wp_walk
    subst W;refine wpAny_pyIter_list U ?_;obtain⟨h2,u⟩:∃h2,h2=h1.push {cls:=.type "list_iterator",data:=.fields #[.ref l,.int 0 0]}:=⟨_,Z⟩;show wpAny _ _ _ _ _ {s with heap:=h1.push {cls:=.type "list_iterator",data:=.fields #[.ref l,.int 0 0]} };rw[<-u];have k2:∀b d,h1.get? b=some d->h2.get? b=some d:=λb d e=>by rw[u];exact zB _ e
    have C:h2.IsListIter h1.objs.size l 0:=by rw[u];exact⟨_,zD _ Z,Z,Z⟩
    have T:h2.IsList l items:=⟨_,k2 _ _ f,Z,nl,Z⟩;refine zA (wpAny_runValue ?_);have L:A.in1.in1.in1.handled=none:=by simp[hh]
    have D:l≠h1.objs.size:=by rw[z1];exact Atb (At5 y)
    have a6:s.heap.objs.size∉[h1.objs.size,l]:=by
     simp only [Ati,Atl,yE,not_or];exact⟨by rw[z1];exact Atb (Aty _),Atr y⟩
    have B:∀(i:Nat)(v:Nd),items[i]?=some v->∃tk,v=.int ((λi=>ns.getD i 0) i) tk:=λi v hv=>IntsAre.int_at hi i v (by rw[zL];exact hv);refine Ald ((Walks.list L h1.objs.size l D items).toS) s.heap.objs.size a6 (λi=>ns.getD i 0) B hb (items.size-0) 0 _ _ #[] 0 _ As (Atg _) ⟨C,T⟩ (k2 _ _ a0) IS.fresh (Atg _) (λz=>At) λs' o es ep t J ho hI hz hm=>?_;obtain⟨h',g',d',O,S⟩:=s';have eg:g'=s.gens:=J.gens;have ed:d'=s.drawn:=J.drawn;have eo:S=s.os:=J.os;subst eg ed eo;show wpAny _ _ _ _ _ _;refine zE ?_;show wpAny _ _ (ret Value.none) _ _ _;refine zE ⟨Z,h',O,o,es,ep,t,Z,ho,hI,hz,hm,λb d e=>?_⟩;have lb:=yA e;refine J.heap b d ?_ (k2 _ _ (k1 _ _ e));simp only [Ati,Atl,yE,not_or];exact⟨Atb lb,by rw[z1];exact Atb (At5 lb)⟩
   ·cases H with
    |error e=>exact a
    |ok p =>
     cases p with
     |ret r =>
      obtain⟨rfl,h',tk,o,es,ep,t,rfl,a1,a2,a3,a4,a5⟩:=a
      repeat (any_goals (first|assumption|wp_step))
      exact h _ _ o es ep t a1 a2 a3 a4 a5
     |_=>exact a.elim
  |_=>exact hr.elim
end
end SetW
section
variable {K:NA}{p1 p2 pos1 pos2:Pos}{te:TE}
theorem Inv.drew(I:Inv X pins σ H s):Inv X pins σ H {s with drawn:=d}:=⟨I.ok,I.os,I.bare,I.base,I.loc,I.cell,I.free,I.Dm,I.pin,I.hok,I.len⟩
inductive Ad0 (K:NA)(Q:VK)(x:V)(H1:Hp):Prop
|mk(a:_)(ns:_)(_:x=.ref a)(_:SqL K H1 a (vI ns))(_:ns.length<=4000)(_:(∀ds:NV,ds.Nodup->(∀z∈ds,z∈ns)->ds.length<64))(_:∀l ns',(∀z,z∈ns'↔z∈ns)->ns'.Pairwise (·<·)->H1 l=none->Q (.ref l) (upd H1 l (.lst (vI ns'))))
def Abz (K:NA)(te:TE)(σ:St)(H:Hp)(Q:VK):Prop:=te σ H (Ad0 K Q)
theorem Ab0:∀{l:NV},l.Pairwise (·<=·)->l.Nodup->l.Pairwise (·<·):=λh n=>(h.and n).imp λ{a b} ⟨h1,h2⟩=>As
theorem Ad1(R:Gl X "sorted") (D:X.mg "sorted"=none) (i:Gl X "set") (N:X.mg "set"=none) (U:PE X e te) (W:X.K=K:=by rfl) (hc:X.calm=true:=by rfl)
  (v:starEach [e] X.env=(false,eval e X.env)::starEach [] X.env:=by rfl)
  (S:starEach [.Call (.Name "set" p2) [e] [] pos2] X.env=(false,eval (.Call (.Name "set" p2) [e] [] pos2) X.env)::starEach [] X.env:=by rfl)
  (O:(backTo pos1 (starEach [] X.env)).any (·.1)=false:=by rfl) (C:(backTo pos2 (starEach [] X.env)).any (·.1)=false:=by rfl) :
  PE X (.Call (.Name "sorted" p1) [.Call (.Name "set" p2) [e] [] pos2] [] pos1) (Abz K te):=by
 subst W;intro pins s σ H Q I h;have hsz:=zS;refine yH (Ck I R D Gs ?_ Ab Ab);refine PyProof.Rows.callWith_builtin1 ?_ S O;show wpAny _ _ (spliced ((false,eval (.Call (.Name "set" p2) [e] [] pos2) X.env)::backTo pos1 (starEach [] X.env))) _ _ s;refine yP ?_;refine yH (Ck I i N Aia ?_ Ab Ab);refine yC ?_ v C;rw[v];show wpAny _ _ (spliced ((false,eval e X.env)::backTo pos2 (starEach [] X.env))) _ _ s;refine yP (thn (U pins s σ H _ I h) λu s1 ⟨x,H1,J,r1,a,ns,ex,Y,h4,B,q⟩=>?_);subst ex;cases r1;refine yR ?_;obtain⟨its,r,pl,y⟩:=J.list Y;have hi:=intsAre_of r;have c:=hi.length;refine SetW.Ale (I.ok.hd hc) pl.isList hi (by rw[Atd,c];show _+1<4096;lia) λh' tk o es ep t go A gz gm gk=>?_;refine yR ?_;have mem:∀z,z∈es.toList.map SetW.ky↔z∈ns:=λz=>by
  rw[gm z,Atd,c];constructor
  ·rintro⟨j,p,e⟩;rw[<-e,At3,Atc p];exact At9 p
  ·intro y;obtain⟨j,p,e⟩:=AtA y;exact⟨j,p,by rw[At3,Atc p];exact e⟩
 have w:es.size<64:=by
  have:= B _ A.nd λz y=>(mem z).mp y
  rwa [AsZ]at this
 refine SetW.Adz (key:=SetW.ky) A.wk go (I.ok.hd hc) w (λe U=>?_) λh2 d a0 l P out m k2 F i L f G=>?_
 ·obtain⟨k,E,rfl⟩:=A.el e U;exact⟨E,Z⟩
 ·have T:=f.nodup_iff.mpr A.nd;have n:=Ats (Ate (yA go) F);refine⟨.ref l,_,(J.laid (λb u e=>k2 _ _ (gk _ _ e)) n ?_).drew,Z,q l m (λz=>by rw[f.mem_iff];exact mem z) (Ab0 G T) (J.hok.fresh n)⟩;have:m.length<64:=by rw[f.length_eq,AsZ];exact w
  refine⟨by rw[J5];lia,out.toList,P,Ek L,?_⟩;rw[i]
end
namespace SetW
def pth (t:SetTable)(h:Int):Nat->SetTable.Probe
 | 0=>t.probeStart h
 |n+1=>t.advance (pth t h n)
def trn (mask:Nat)(b:Nat):Nat->Nat×Nat
 | 0=>(b%(mask+1),b)
 |k+1=>SetTable.leap mask (trn mask b k).1 (trn mask b k).2
theorem Aot(mask i:Nat):SetTable.runEnd mask i-i<=9:=by unfold SetTable.runEnd;split<;>lia
theorem Ab1(mask b:Nat):∀k,(trn mask b k).2=b / 32 ^ k
 | 0=>by simp[trn]
 |k+1=>by
  show(trn mask b k).2 / 32=_;rw[Ab1 mask b k,Nat.div_div_eq_div_mul,<-Nat.pow_succ]
theorem Aiv(mask b:Nat):∀k,(trn mask b k).1<=mask
 | 0=>Aum (AtV _ (Aue _))
 |k+1=>Aum (AtV _ (Aue _))
def nxt (N i:Nat):Nat:=(i*5+1)%N
def itr (N:Nat):Nat->Nat->Nat
 | 0,i=>i
 |m+1,i=>itr N m (nxt N i)
theorem AeD(N:Nat):∀(m i:Nat),itr N (m+1) i=nxt N (itr N m i)
 | 0,i=>rfl
 |m+1,i=>AeD N m (nxt N i)
def orb (N:Nat):Nat->Nat->NL
 | 0,_=>[]
 |m+1,i=>i::orb N m (nxt N i)
theorem Aah{N j:Nat}:∀{m i:Nat},j∈orb N m i->∃k,k<m/\itr N k i=j
 | 0,i,h=>by simp[orb]at h
 |m+1,i,h=>by
  rcases zZ.mp h with e|e
  ·exact⟨0,Aue _,e.symm⟩
  ·obtain⟨k,hk,e⟩:=Aah e;exact⟨k+1,As,e⟩
def Li (N:Nat):Bool:=((List.range N).all λj=>(orb N N 0).contains j) && itr N N 0 == 0
theorem Asr:Li 8=true:=Ap
theorem AqQ:Li 32=true:=Ap
theorem Aou:Li 128=true:=Ap
def Msk (mask:Nat):Prop:=mask=7\/mask=31\/mask=127
theorem Msk.cov(h:Msk mask):Li (mask+1)=true:=by
 rcases h with h|h|h<;>subst h
 ·exact Asr
 ·exact AqQ
 ·exact Aou
theorem Vk(N:Nat):∀(k m i:Nat),itr N (k+m) i=itr N m (itr N k i)
 | 0,m,i=>by rw[AtC];rfl
 |k+1,m,i=>by rw[show k+1+m=(k+m)+1 by lia];exact Vk N k m (nxt N i)
theorem Aov{N:Nat}(h:Li N=true)(hi:i<N)(e:j<N):∃k,k<N/\itr N k i=j:=by
 unfold Li at h;rw[Ata,Atp]at h;obtain⟨h1,h2⟩:=h;have f:itr N N 0=0:=by simpa using h2
 obtain⟨a,m,ea⟩:=Aah (List.contains_iff_mem.mp (h1 i (z5.mpr hi)));obtain⟨b,l,d⟩:=Aah (List.contains_iff_mem.mp (h1 j (z5.mpr e)));by_cases c:a<=b
 ·refine⟨b-a,As,?_⟩;rw[<-ea,<-Vk,show a+(b-a)=b by lia];exact d
 ·refine⟨N-a+b,As,?_⟩;rw[<-ea,<-Vk,show a+(N-a+b)=N+b by lia,Vk,f];exact d
theorem Aiw{b:Nat}(a:b<2 ^ 64)(m:Nat):(trn mask b (13+m)).1=itr (mask+1) m (trn mask b 13).1:=by
 induction m with
 |zero=>rfl
 |succ m d =>
  rw[AeD,<-d];show((trn mask b (13+m)).1*5+1+(trn mask b (13+m)).2 / 32)%(mask+1)=_;have c:(trn mask b (13+m)).2 / 32=0:=by
   rw[Ab1];have:b / 32 ^ (13+m)=0:=by
    refine Nat.div_eq_of_lt (Ate a ?_);have e1:(2:Nat) ^ 64<=32 ^ 13:=Ab
    exact Atf e1 (Nat.pow_le_pow_right Ab As)
   rw[this]
  rw[c];rfl
theorem AeE{b:Nat}(d:Msk mask)(c:b<2 ^ 64)(a:j<=mask):∃k,k<mask+14/\(trn mask b k).1=j:=by obtain⟨m,h1,h2⟩:=Aov d.cov (Nat.lt_succ_of_le (Aiv mask b 13)) (Nat.lt_succ_of_le a);exact⟨13+m,As,by rw[Aiw c];exact h2⟩
theorem AeF(h:Int):SetTable.bits h<2 ^ 64:=by unfold SetTable.bits;have h1:=Aun h (show(0:Int)<2 ^ 64 by decide);have h2:=AtX h (show(2 ^ 64:Int)≠0 by decide);lia
theorem Aai(t:SetTable)(h:Int){n i q:Nat}(e:pth t h n={j:=i,more:=SetTable.runEnd t.mask i-i,i:=i,perturb:=q,dummy:=none}):∀r,r<=SetTable.runEnd t.mask i-i->pth t h (n+r)={j:=i+r,more:=SetTable.runEnd t.mask i-i-r,i:=i,perturb:=q,dummy:=none}
 | 0,_=>e
 |r+1,hr=>by
  show t.advance (pth t h (n+r))=_;rw[Aai t h e r As];unfold SetTable.advance;rw[z8 (show SetTable.runEnd t.mask i-i-r>0 by lia)];rfl
def idx (t:SetTable)(h:Int):Nat->Nat
 | 0=>0
 |k+1=>idx t h k+(SetTable.runEnd t.mask (trn t.mask (SetTable.bits h) k).1-(trn t.mask (SetTable.bits h) k).1)+1
theorem Aix(t:SetTable)(h:Int):∀k,idx t h k<=10*k
 | 0=>AsY _
 |k+1=>by
  have:=Aix t h k;have:=Aot t.mask (trn t.mask (SetTable.bits h) k).1;show idx t h k+_+1<=_;lia
theorem VM(t:SetTable)(h:Int):∀k,pth t h (idx t h k)={j:=(trn t.mask (SetTable.bits h) k).1,more:=SetTable.runEnd t.mask (trn t.mask (SetTable.bits h) k).1-(trn t.mask (SetTable.bits h) k).1,i:=(trn t.mask (SetTable.bits h) k).1,perturb:=(trn t.mask (SetTable.bits h) k).2,dummy:=none}
 | 0=>rfl
 |k+1=>by
  have e:=Aai t h (VM t h k) _ (AsY _);show t.advance (pth t h (idx t h k+_))=_;rw[e];unfold SetTable.advance;rw[z7 (by show ¬(_-_>0);lia)];rfl
theorem Alf{h:Int}(b:Msk t.mask)(a:j<=t.mask):∃n,n<10*SetTable.turns t.mask/\(pth t h n).j=j:=by obtain⟨k,h1,h2⟩:=AeE b (AeF h) a;refine⟨idx t h k,?_,by rw[VM];exact h2⟩;have:=Aix t h k;unfold SetTable.turns;lia
theorem R5(t:SetTable)(h:Int):∀n,(pth t h n).dummy=none
 | 0=>rfl
 |n+1=>by
  show(t.advance (pth t h n)).dummy=none;unfold SetTable.advance;split
  ·exact R5 t h n
  ·exact R5 t h n
theorem Gw{t t':SetTable}(e:t'.mask=t.mask)(h:Int):∀n,pth t' h n=pth t h n
 | 0=>by unfold pth SetTable.probeStart;rw[e]
 |n+1=>by
  show t'.advance (pth t' h n)=t.advance (pth t h n);rw[Gw e h n];unfold SetTable.advance;rw[e]
end SetW
namespace SetW
theorem sub_len:∀{l r:NL},l.Nodup->(∀x∈l,x∈r)->l.length<=r.length
 |[],r,_,_=>Atg _
 |a::l,r,n,h=>by
  have n1:=List.nodup_cons.mp n;have c:=h a Atk;have:=sub_len (l:=l) (r:=r.erase a) n1.2 λx b=>by
   have ne:x≠a:=λe=>n1.1 (by rw[<-e];exact b);rw[List.mem_erase_of_ne ne];exact h x (Ath _ b)
  rw[List.length_erase_of_mem c]at this;have:0<r.length:=List.length_pos_of_mem c;rw[At2];lia
theorem Alh{xs:Array Nat}{m:Nat}(h:xs.size<=m):∃j,j<=m/\∀i:Nat,xs[i]?≠some j:=by
 refine Classical.byContradiction λz=>?_;have all:∀j∈List.range (m+1),j∈xs.toList:=λj a=>Classical.byContradiction λc=>z ⟨j,by have:=z5.mp a;lia,λi e=>c (by
  rw[<-zL]at e;exact Ato e)⟩
 have:=sub_len Au2 all;rw[At1,zJ]at this;lia
theorem Pj(xs:Array α)(p:Nat)(x:α):(SetTable.insertAt xs p x).toList=xs.toList.take p++x::xs.toList.drop p:=by unfold SetTable.insertAt;simp[Array.toList_extract,AtF]
theorem Eb(xs:Array α){p:Nat}(a:p<=xs.size)(x:α)(i:Nat):(SetTable.insertAt xs p x)[i]?=if i<p then xs[i]? else if i=p then some x else xs[i-1]?:=by
 rw[<-zL,Pj];have tl:(xs.toList.take p).length=p:=by rw[AtB,zJ];lia
 by_cases h1:i<p
 ·rw[z8 h1,Atv As,Auu h1,zL]
 ·rw[z7 h1,Atu As,tl];by_cases h2:i=p
  ·rw[z8 h2,h2,Auf];rfl
  ·rw[z7 h2,show i-p=(i-p-1)+1 by lia,List.getElem?_cons_succ,List.getElem?_drop,zL]
   congr 1
   lia
theorem Pn(xs:Array α)(p:Nat)(x:α):(SetTable.insertAt xs p x).size=xs.size+1:=by
 rw[<-zJ,Pj,Atm,At2];have:=AtW p xs.toList;have e:(xs.toList.take p).length+(xs.toList.drop p).length=xs.toList.length:=by rw[<-Atm,this]
 have a:xs.toList.length=xs.size:=zJ;lia
theorem slot_of(R:LR t.place)(h:t.place[i]?=some j):t.slot j=.live i:=by
 obtain⟨h1,h2,d⟩:=Gv R j;obtain⟨hi,e⟩:=Array.getElem?_eq_some_iff.mp h;have g:t.place.getD i 0=j:=by simp[Array.getD,hi,e]
 have f:SetTable.below t.place j=i:=by
  rcases Auz (SetTable.below t.place j) i with c|c|c
  ·have a:=d (SetTable.below t.place j) (AsY _) As;have b:=R _ i c hi;lia
  ·exact c
  ·have:=h2 i c;lia
 unfold SetTable.slot
 try dsimp only
 rw[f,z8 (by rw[h];simp)]
theorem Aaj(h:t.slot j=.live i):t.place[i]?=some j:=by
 unfold SetTable.slot at h;dsimp only at h;split at h
 ·rename_i c;injection h with h;rw[h]at c;exact eq_of_beq c
 ·split at h<;>cases h
theorem AeG(a:t.dummies=#[])(h:∀i:Nat,t.place[i]?≠some j):t.slot j=.empty:=by
 unfold SetTable.slot
 try dsimp only
 have hn:(t.place[SetTable.below t.place j]? == some j)=false:=by
  cases c:(t.place[SetTable.below t.place j]? == some j) with
  |false=>rfl
  |true=>exact z9 (eq_of_beq c) (h _)
 rw[hn,a];rfl
theorem VN(a:t.dummies=#[])(j:Nat):t.slot j=.empty\/∃i,t.slot j=.live i:=by
 by_cases h:∃i,t.slot j=.live i
 ·exact .inr h
 ·by_cases c:∃i:Nat,t.place[i]?=some j
  ·unfold SetTable.slot at h ⊢;dsimp only at h ⊢;split
   ·rename_i b;exact z9 ⟨_,z8 b⟩ h
   ·rename_i b;rw[a];exact .inl Z
  ·exact .inl (AeG a λi e=>c ⟨i,e⟩)
inductive Meets (t:SetTable) (g:Nat->Int) (h:Int) (n:Nat):Option SetTable.Met->Prop
 |empty (m:Nat):n<=m->t.slot (pth t h m).j=.empty->(∀n',n<=n'->n'<m->∃i,t.slot (pth t h n').j=.live i/\g i≠h)->Meets t g h n (some (.empty (pth t h m).j none))
 |Ali (m i:Nat):n<=m->t.slot (pth t h m).j=.live i->g i=h->(∀n',n<=n'->n'<m->∃i,t.slot (pth t h n').j=.live i/\g i≠h)->Meets t g h n (some (.candidate (pth t h m).j i (pth t h (m+1))))
theorem Meets.back{g:Nat->Int}{h:Int}{r:Option SetTable.Met}(hn:∃i,t.slot (pth t h n).j=.live i/\g i≠h)(m:Meets t g h (n+1) r):Meets t g h n r:=by
 have ext:∀{k:Nat},n+1<=k->(∀a,n+1<=a->a<k->∃i,t.slot (pth t h a).j=.live i/\g i≠h)->∀a,n<=a->a<k->∃i,t.slot (pth t h a).j=.live i/\g i≠h:=λ{k} hk f a h1 h2=>by
  by_cases c:a=n
  ·rw[c];exact hn
  ·exact f a As h2
 cases m with
 |empty m h1 h2 b=>exact .empty m As h2 (ext h1 b)
 |Ali m i h1 h2 b d=>exact .Ali m i As h2 b (ext h1 d)
theorem Ab2{t:SetTable}(b:t.dummies=#[])(g:Nat->Int)(h:Int){N:Nat}(a:t.slot (pth t h N).j=.empty):∀(fuel n:Nat),n<=N->N-n<fuel->Meets t g h n (SetTable.probe.go t g h fuel (pth t h n))
 | 0,n,_,hf=>As
 |fuel+1,n,hn,hf=>by
  unfold SetTable.probe.go;rcases VN b (pth t h n).j with e|⟨i,e⟩
  ·rw[e]
   try dsimp only
   rw[R5];exact .empty n (AsY _) e λf h1 h2=>As
  ·rw[e]
   try dsimp only
   have d:n<N:=by
    rcases Nat.lt_or_ge n N with c|c
    ·exact c
    ·have:n=N:=As
     rw[this,a]at e;cases e
   by_cases c:g i=h
   ·rw[z8 (by rw[c];simp)];exact .Ali n i (AsY _) e c λf h1 h2=>As
   ·rw[z7 (by simpa using c)];exact(Ab2 b g h a fuel (n+1) As As).back ⟨i,e,c⟩
structure Tb (t:SetTable)(es:Array (Int×Nd)):Prop where
 sz:t.place.size=es.size
 rise:LR t.place
 nod:t.dummies=#[]
 le:∀i j:Nat,t.place[i]?=some j->j<=t.mask
 msk:Msk t.mask
 few:es.size<=t.mask
 way:∀(i j:Nat)(e:Int×Nd),t.place[i]?=some j->es[i]?=some e->∃n,(pth t e.1 n).j=j/\∀n',n'<n->t.slot (pth t e.1 n').j≠.empty
theorem Tb.stop(B:Tb t es)(h:Int):∃N,N<10*SetTable.turns t.mask/\t.slot (pth t h N).j=.empty:=by obtain⟨j,a,hn⟩:=Alh (xs:=t.place) (m:=t.mask) (by rw[B.sz];exact B.few);obtain⟨n,h1,h2⟩:=Alf (h:=h) B.msk a;exact⟨n,h1,by rw[h2];exact AeG B.nod hn⟩
theorem Ad2(t:SetTable)(h:Int):∀n,(pth t h n).j+(pth t h n).more<=t.mask/\(pth t h n).i<=t.mask
 | 0=>by
  have a:SetTable.bits h%(t.mask+1)<=t.mask:=Aum (AtV _ (Aue _));refine⟨?_,a⟩;show _+(SetTable.runEnd t.mask _-_)<=_;unfold SetTable.runEnd;split<;>(show SetTable.bits h%(t.mask+1)+_<=_)<;>lia
 |n+1=>by
  obtain⟨h1,h2⟩:=Ad2 t h n;show(t.advance (pth t h n)).j+(t.advance (pth t h n)).more<=t.mask/\(t.advance (pth t h n)).i<=t.mask;unfold SetTable.advance;split
  ·exact⟨by show(pth t h n).j+1+((pth t h n).more-1)<=_;lia,h2⟩
  ·have a:(SetTable.leap t.mask (pth t h n).i (pth t h n).perturb).1<=t.mask:=Aum (AtV _ (Aue _));refine⟨?_,a⟩;show(SetTable.leap t.mask (pth t h n).i (pth t h n).perturb).1+(SetTable.runEnd t.mask (SetTable.leap t.mask (pth t h n).i (pth t h n).perturb).1-(SetTable.leap t.mask (pth t h n).i (pth t h n).perturb).1)<=_;unfold SetTable.runEnd;split<;>lia
theorem Tb.put(B:Tb t es){h:Int}{x:Nd}(w:t.slot (pth t h n).j=.empty)(Q:∀f,f<n->t.slot (pth t h f).j≠.empty)(P:es.size+1<=t.mask)(pl:Bool) :
  Tb { (t.put (pth t h n).j).1 with plain:=pl} (SetTable.insertAt es (t.put (pth t h n).j).2 (h,x)):=by
 obtain⟨J,E⟩:∃J,J=(pth t h n).j:=⟨_,Z⟩;have A:J<=t.mask:=by have:=Ad2 t h n;lia
 rw[<-E]at w ⊢;have v:∀i:Nat,t.place[i]?≠some J:=λi z=>by rw[slot_of B.rise z]at w;cases w
 obtain⟨u,W,U⟩:=Gv B.rise J;have O:(t.put J).2=SetTable.below t.place J:=rfl;have T:(t.put J).1.place=SetTable.insertAt t.place (SetTable.below t.place J) J:=rfl;have X:(t.put J).1.mask=t.mask:=rfl;have H:(t.put J).1.dummies=#[]:=by
  show(if SetTable.has t.dummies J then _ else t.dummies)=#[];rw[B.nod];rfl
 obtain⟨p,r⟩:∃p,p=SetTable.below t.place J:=⟨_,Z⟩;obtain⟨t',d⟩:∃t':SetTable,t'={ (t.put J).1 with plain:=pl}:=⟨_,Z⟩;have tp:t'.place=SetTable.insertAt t.place p J:=by rw[d,r];rfl
 have l:t'.mask=t.mask:=by rw[d];rfl
 have td:t'.dummies=#[]:=by rw[d];exact H
 rw[O,<-r,<-d];rw[<-r]at u;have D:LR t'.place:=by rw[tp,r];exact Aby B.rise (v _)
 have gp:=λi:Nat=>Eb t.place u J i;have L:=λi:Nat=>Eb es (p:=p) (by rw[<-B.sz];exact u) (h,x) i;have live:∀j,t.slot j≠.empty->t'.slot j≠.empty:=λj N=>by
  rcases VN B.nod j with e|⟨i,e⟩
  ·exact z9 e N
  ·have hi:=Aaj e;have:∃C:Nat,t'.place[C]?=some j:=by
    by_cases c:i<p
    ·exact⟨i,by rw[tp,gp,z8 c];exact hi⟩
    ·exact⟨i+1,by rw[tp,gp,z7 As,z7 As];exact hi⟩
   obtain⟨C,y⟩:=this;rw[slot_of D y];exact λz=>by cases z
 refine⟨?_,D,td,λi j a=>?_,by rw[l];exact B.msk,by rw[l,Pn];exact P,λi j e a b=>?_⟩
 ·rw[tp,Pn,Pn,B.sz]
 ·rw[l];rw[tp,gp]at a;split at a
  ·exact B.le _ _ a
  ·split at a
   ·injection a with a;rw[<-a];exact A
   ·exact B.le _ _ a
 ·rw[tp,gp]at a;rw[L]at b;have o:∀s:Nat,t.place[s]?=some j->es[s]?=some e->∃n,(pth t' e.1 n).j=j/\∀f,f<n->t'.slot (pth t' e.1 f).j≠.empty:=λs R S=>by
   obtain⟨n0,I,K⟩:=B.way s j e R S;refine⟨n0,by rw[Gw l];exact I,λf m=>?_⟩;rw[Gw l];exact live _ (K f m)
  by_cases G:i<p
  ·rw[z8 G]at a b;exact o i a b
  ·rw[z7 G]at a b;by_cases F:i=p
   ·rw[z8 F]at a b;injection a with a;injection b with b;subst b;refine⟨n,by rw[Gw l,<-E];exact a,λf m=>?_⟩;rw[Gw l];exact live _ (Q f m)
   ·rw[z7 F]at a b;exact o (i-1) a b
end SetW
namespace SetW
def T0 (mask:Nat):SetTable:={mask:=mask,place:=#[],dummies:=#[],finger:=0,led:=true,moves:=0,plain:=true}
structure Ly (mask:Nat)(hs:NV)(ow:Array (Option Nat))(k:Nat):Prop where
 sz:ow.size=mask+1
 lt:∀j o:Nat,ow.getD j none=some o->o<k
 all:∀o:Nat,o<k->∃j:Nat,ow.getD j none=some o
 inj:∀j j' o:Nat,ow.getD j none=some o->ow.getD j' none=some o->j=j'
 way:∀(j o:Nat)(h:Int),ow.getD j none=some o->hs[o]?=some h->∃n,(pth (T0 mask) h n).j=j/\∀n',n'<n->ow.getD (pth (T0 mask) h n').j none≠none
theorem AmD{o:Nat}(h:ow.getD j none=some o):j<ow.size:=by
 rcases Nat.lt_or_ge j ow.size with c|c
 ·exact c
 ·rw[Array.getD_eq_getD_getElem?,Array.getElem?_eq_none c]at h;cases h
theorem Aiy(h:j<ow.size):ow.getD j (some 0)=ow.getD j none:=by rw[Array.getD_eq_getD_getElem?,Array.getD_eq_getD_getElem?,zM h];rfl
theorem Ly.free{k:Nat}(L:Ly mask hs ow k)(hk:k<=mask):∃j,j<=mask/\ow.getD j none=none:=by
 refine Classical.byContradiction λz=>?_;have own:∀j,j<=mask->∃o,ow.getD j none=some o:=λj f=>by
  cases e:ow.getD j none with
  |none=>exact z9 ⟨j,f,e⟩ z
  |some o=>exact⟨o,Z⟩
 have n:((List.range (mask+1)).map λj=>(ow.getD j none).getD 0).Nodup:=by
  rw[List.Nodup,AtG];refine List.nodup_range.imp_of_mem λ{a b} h i ne e=>ne ?_;obtain⟨o,d⟩:=own a (by have:=z5.mp h;lia);obtain⟨o',c⟩:=own b (by have:=z5.mp i;lia);rw[d,c]at e;have e:o=o':=e;subst e;exact L.inj _ _ _ d c
 have:=sub_len n (r:=List.range k) λx l=>by
  obtain⟨j,f,e⟩:=zY.mp l;obtain⟨o,d⟩:=own j (by have:=z5.mp f;lia);rw[d]at e;have e:o=x:=e;rw[<-e];exact z5.mpr (L.lt j o d)
 rw[AsZ,At1,At1]at this;lia
theorem AeH{mask:Nat}{ow:Array (Option Nat)}(h:Int)(sz:ow.size=mask+1):∀(fuel k:Nat),(∃K,k<=K/\K<k+fuel/\ow.getD (trn mask (SetTable.bits h) K).1 none=none)->(∀a,a<idx (T0 mask) h k->ow.getD (pth (T0 mask) h a).j none≠none) ->
  ∃n,SetTable.layClean.free mask ow fuel (trn mask (SetTable.bits h) k).1 (trn mask (SetTable.bits h) k).2=some (pth (T0 mask) h n).j/\ow.getD (pth (T0 mask) h n).j none=none/\∀a,a<n->ow.getD (pth (T0 mask) h a).j none≠none
 | 0,k,⟨K,h1,h2,_⟩,_=>As
 |fuel+1,k,⟨K,h1,h2,h3⟩,hb=>by
  have run:=Aai (T0 mask) h (VM (T0 mask) h k);have B:(trn mask (SetTable.bits h) k).1<=mask:=Aiv _ _ _;have w:SetTable.runEnd mask (trn mask (SetTable.bits h) k).1<=mask/\(trn mask (SetTable.bits h) k).1<=SetTable.runEnd mask (trn mask (SetTable.bits h) k).1:=by unfold SetTable.runEnd;split<;>lia
  have run:∀r,r<=SetTable.runEnd mask (trn mask (SetTable.bits h) k).1-(trn mask (SetTable.bits h) k).1->(pth (T0 mask) h (idx (T0 mask) h k+r)).j=(trn mask (SetTable.bits h) k).1+r:=λr m=>by rw[run r m];rfl
  have x:idx (T0 mask) h (k+1)=idx (T0 mask) h k+(SetTable.runEnd mask (trn mask (SetTable.bits h) k).1-(trn mask (SetTable.bits h) k).1)+1:=rfl;have t:trn mask (SetTable.bits h) (k+1)=SetTable.leap mask (trn mask (SetTable.bits h) k).1 (trn mask (SetTable.bits h) k).2:=rfl;have d:K=k->ow.getD (trn mask (SetTable.bits h) k).1 none=none:=λe=>by rw[<-e];exact h3
  unfold SetTable.layClean.free;generalize (trn mask (SetTable.bits h) k).1=i at B w run x t d ⊢;have p:=AeH h sz fuel (k+1);rw[t]at p;have o:K=k\/k+1<=K:=As
  cases s:(List.range (SetTable.runEnd mask i+1-i)).find? λr=>(ow.getD (i+r) (some 0)).isNone with
  |some r =>
   obtain⟨v,A,y⟩:=List.find?_range_eq_some.mp s;have m:=z5.mp A
   try dsimp only
   refine⟨idx (T0 mask) h k+r,by rw[run r As],?_,λa l=>?_⟩
   ·rw[run r As,<-Aiy As];exact Option.isNone_iff_eq_none.mp v
   ·by_cases c:a<idx (T0 mask) h k
    ·exact hb a c
    ·obtain⟨b,rfl⟩:∃b,a=idx (T0 mask) h k+b:=⟨a-idx (T0 mask) h k,As⟩;have:=y b As;rw[run b As,<-Aiy As];intro z;rw[z]at this;cases this
  |none =>
   have f:=List.find?_range_eq_none.mp s;have u:∀r,r<=SetTable.runEnd mask i-i->ow.getD (i+r) none≠none:=λr m=>by
    have:=f r As;rw[<-Aiy As];intro z;rw[z]at this;cases this
   try dsimp only
   refine p ⟨K,?_,As,h3⟩ λa l=>?_
   ·rcases o with e|e
    ·exact z9 (d e) (u 0 (Atg _))
    ·exact e
   ·by_cases c:a<idx (T0 mask) h k
    ·exact hb a c
    ·obtain⟨b,rfl⟩:∃b,a=idx (T0 mask) h k+b:=⟨a-idx (T0 mask) h k,As⟩;rw[run b As];exact u b As
theorem Alj{J k:Nat}(a:J<ow.size)(j:Nat):(ow.setIfInBounds J (some k)).getD j none=if j=J then some k else ow.getD j none:=by
 rw[Array.getD_eq_getD_getElem?,Array.getElem?_setIfInBounds,Array.getD_eq_getD_getElem?];by_cases e:J=j
 ·rw[z8 e,z8 a,z8 e.symm];rfl
 ·rw[z7 e,z7 λz=>e z.symm]
theorem Ly.next(L:Ly mask hs ow hs.length){h:Int}(s:ow.getD (pth (T0 mask) h n).j none=none)(v:∀e,e<n->ow.getD (pth (T0 mask) h e).j none≠none):Ly mask (hs++[h]) (ow.setIfInBounds (pth (T0 mask) h n).j (some hs.length)) (hs++[h]).length:=by
 obtain⟨J,p⟩:∃J,J=(pth (T0 mask) h n).j:=⟨_,Z⟩;have w:J<=mask:=by
  have:=(Ad2 (T0 mask) h n).1;have:(pth (T0 mask) h n).j+(pth (T0 mask) h n).more<=mask:=this;lia
 rw[<-p]at s ⊢;have m:J<ow.size:=by rw[L.sz];lia
 have g:=λj=>Alj (k:=hs.length) m j;have b:∀j,ow.getD j none≠none->(ow.setIfInBounds J (some hs.length)).getD j none≠none:=λj i=>by
  rw[g j];split
  ·exact λz=>by cases z
  ·exact i
 have r:(hs++[h]).length=hs.length+1:=by rw[Atm];rfl
 refine⟨by rw[Array.size_setIfInBounds];exact L.sz,λj o a=>?_,λo a=>?_,λj l o h1 h2=>?_,λj o h' a f=>?_⟩
 ·rw[g j]at a;rw[r];split at a
  ·injection a with a;lia
  ·have:=L.lt j o a;lia
 ·rw[r]at a;by_cases c:o=hs.length
  ·exact⟨J,by rw[g J,z8 Z,c]⟩
  ·obtain⟨j,i⟩:=L.all o As;refine⟨j,?_⟩;rw[g j,z7 λz=>?_]
   ·exact i
   ·rw[z,s]at i;cases i
 ·rw[g j]at h1;rw[g l]at h2;split at h1
  ·rename_i c;injection h1 with h1;split at h2
   ·rename_i c';rw[c,c']
   ·have:=L.lt l o h2;lia
  ·split at h2
   ·injection h2 with h2;have:=L.lt j o h1;lia
   ·exact L.inj j l o h1 h2
 ·rw[g j]at a;split at a
  ·rename_i c;injection a with a;rw[<-a,Atu (AsY _),Auf]at f;injection f with f;subst f;exact⟨n,by rw[c,p],λe d=>b _ (v e d)⟩
  ·have x:=L.lt j o a;rw[Atv x]at f;obtain⟨n0,t,u⟩:=L.way j o h' a f;exact⟨n0,t,λe d=>b _ (u e d)⟩
theorem Ly.new(mask:Nat):Ly mask [] (Array.replicate (mask+1) none) 0:=by
 have g:∀j,(Array.replicate (mask+1) (none:Option Nat)).getD j none=none:=λj=>by
  rw[Array.getD_eq_getD_getElem?,Array.getElem?_replicate];split<;>rfl
 exact⟨Array.size_replicate,λj o h=>(by rw[g j]at h;cases h),λo h=>As,λj a o h _=>(by rw[g j]at h;cases h),λj o h' h _=>(by rw[g j]at h;cases h)⟩
def Ab3 (mask:Nat)(acc:Option (Array (Option Nat)×Nat))(h:Int):Option (Array (Option Nat)×Nat):=do
 let (owner,k) <-acc
 let j <-SetTable.layClean.free mask owner (SetTable.turns mask) (SetTable.bits h%(mask+1)) (SetTable.bits h)
 pure (owner.setIfInBounds j (some k),k+1)
theorem Aiz(d:Msk mask)(L:Ly mask hs ow hs.length)(hk:hs.length<=mask)(h:Int):∃a,Ab3 mask (some (ow,hs.length)) h=some (a,(hs++[h]).length)/\Ly mask (hs++[h]) a (hs++[h]).length:=by obtain⟨j,l,e⟩:=L.free hk;obtain⟨K,h1,h2⟩:=AeE d (AeF h) l;obtain⟨n,c,i,f⟩:=AeH h L.sz (SetTable.turns mask) 0 ⟨K,Atg _,by unfold SetTable.turns;lia,by rw[h2];exact e⟩ λm b=>(by cases b);refine⟨_,?_,L.next i f⟩;have c:SetTable.layClean.free mask ow (SetTable.turns mask) (SetTable.bits h%(mask+1)) (SetTable.bits h)=some (pth (T0 mask) h n).j:=c;unfold Ab3;show(SetTable.layClean.free mask ow (SetTable.turns mask) (SetTable.bits h%(mask+1)) (SetTable.bits h)).bind _=_;rw[c,Atm];rfl
theorem Ab4{mask:Nat}(e:Msk mask):∀(rest hs:NV)(ow:Array (Option Nat)),Ly mask hs ow hs.length->(hs++rest).length<=mask->∃a,rest.foldl (Ab3 mask) (some (ow,hs.length))=some (a,(hs++rest).length)/\Ly mask (hs++rest) a (hs++rest).length
 |[],hs,ow,L,_=>⟨ow,by rw[At6];rfl,by rw[At6];exact L⟩
 |h::rest,hs,ow,L,hk=>by
  obtain⟨c,e1,i⟩:=Aiz e L (by rw[Atm]at hk;lia) h;have b:hs++h::rest=hs++[h]++rest:=by rw[AtM];rfl
  obtain⟨d,f,L2⟩:=Ab4 e rest (hs++[h]) c i (by rw[<-b];exact hk);refine⟨d,?_,by rw[b];exact L2⟩;rw[AtR,e1,b];exact f
theorem Ag7(a:Msk mask){hs:Array Int}(hk:hs.size<=mask):∃ow,SetTable.layClean mask hs=some ow/\Ly mask hs.toList ow hs.toList.length:=by
 obtain⟨ow,e,L⟩:=Ab4 a hs.toList [] (Array.replicate (mask+1) none) (Ly.new mask) (by rw[Auh,zJ];exact hk);rw[Auh]at e L;refine⟨ow,?_,L⟩;have:hs.foldl (Ab3 mask) (some (Array.replicate (mask+1) none,0))=some (ow,hs.toList.length):=by rw[<-Array.foldl_toList];exact e
 show(hs.foldl (Ab3 mask) (some (Array.replicate (mask+1) none,0))).map (·.1)=some ow;rw[this];rfl
def lvs (mask:Nat)(ow:Array (Option Nat)):List (Nat×Nat):=(List.range (mask+1)).filterMap λj=>(ow.getD j none).map (j,·)
theorem HD{o:Nat}:(j,o)∈lvs mask ow↔j<=mask/\ow.getD j none=some o:=by
 unfold lvs;rw[List.mem_filterMap];constructor
 ·rintro⟨a,b,e⟩;cases h:ow.getD a none with
  |none=>rw[h]at e;cases e
  |some o' =>
   rw[h]at e;have e:some (a,o')=some (j,o):=e;injection e with e;injection e with e1 c;subst e1 c;exact⟨by have:=z5.mp b;lia,h⟩
 ·rintro⟨h1,h2⟩;exact⟨j,z5.mpr As,by rw[h2];rfl⟩
theorem Ag8{k:Nat}(L:Ly mask hs ow k):((lvs mask ow).map (·.2)).Nodup:=by
 have l:(lvs mask ow).Pairwise (λa b=>a.1<b.1):=by
  unfold lvs;refine List.Pairwise.filterMap (R:=(·<·)) _ (λa h f b d m c=>?_) List.pairwise_lt_range;cases h1:ow.getD a none with
  |none=>rw[h1]at d;cases d
  |some u =>
   cases h2:ow.getD h none with
   |none=>rw[h2]at c;cases c
   |some u' =>
    rw[h1]at d;rw[h2]at c;cases d;cases c;exact f
 rw[List.Nodup,AtG];refine l.imp_of_mem λ{a b} i d lt e=>?_;have h1:=(HD (j:=a.1) (o:=a.2)).mp i;have h2:=(HD (j:=b.1) (o:=b.2)).mp d;have:=L.inj a.1 b.1 a.2 h1.2 (by rw[e];exact h2.2);lia
theorem Ai0{k:Nat}(L:Ly mask hs ow k):((lvs mask ow).map (·.2)).Perm (List.range k):=by
 refine(List.perm_ext_iff_of_nodup (Ag8 L) Au2).mpr λo=>?_;rw[z5];constructor
 ·intro h;obtain⟨⟨j,o'⟩,b,e⟩:=zY.mp h;have e:o'=o:=e;subst e;exact L.lt _ _ (HD.mp b).2
 ·intro h;obtain⟨j,a⟩:=L.all o h;exact zY.mpr ⟨(j,o),HD.mpr ⟨by have:=AmD a;rw[L.sz]at this;lia,a⟩,Z⟩
theorem AeI{α a:Type}{f:α->Option a}{g:α->a}:∀{l:List α},(∀x∈l,f x=some (g x))->l.filterMap f=l.map g
 |[],_=>rfl
 |x::l,h=>by
  rw[AtQ,h x Atk]
  try dsimp only
  rw[AeI λy b=>h y (Ath _ b)];rfl
theorem Alk{plain:Bool}(w:Msk mask)(hk:es.size<=mask):∃t' order,SetTable.laid mask finger moves led plain (es.map (·.1))=some (t',order)/\(order.filterMap (es[·]?)).size=es.size/\(order.filterMap (es[·]?)).toList.Perm es.toList/\Tb t' (order.filterMap (es[·]?))/\t'.mask=mask/\t'.led=led/\t'.plain=plain/\t'.finger=finger/\t'.moves=moves:=by
 obtain⟨ow,e,L⟩:=Ag7 w (hs:=es.map (·.1)) (by rw[Array.size_map];exact hk);have G:(es.map (·.1)).toList.length=es.size:=by rw[zJ,Array.size_map]
 rw[G]at L;have A:SetTable.laid mask finger moves led plain (es.map (·.1))=some ({mask:=mask,place:=((lvs mask ow).map (·.1)).toArray,dummies:=#[],finger:=finger,led:=led,moves:=moves,plain:=plain},((lvs mask ow).map (·.2)).toArray):=by
  unfold SetTable.laid;rw[e];rfl
 refine⟨_,_,A,?_⟩;have R:=(AeC A).2.2;have P:=Ai0 L;have x:∀o,o∈(lvs mask ow).map (·.2)->es[o]?=some (es.getD o (0,.none)):=λo r=>by
  have:=z5.mp (P.mem_iff.mp r);rw[Array.getD_eq_getD_getElem?,zM this];rfl
 have l:(((lvs mask ow).map (·.2)).toArray.filterMap (es[·]?)).toList=((lvs mask ow).map (·.2)).map λo=>es.getD o (0,.none):=by
  rw[Array.toList_filterMap];exact AeI x
 have perm:(((lvs mask ow).map (·.2)).toArray.filterMap (es[·]?)).toList.Perm es.toList:=by
  rw[l];refine(P.map _).trans (List.Perm.of_eq ?_);refine Au3 (by rw[AsZ,At1,zJ]) λi h1 h2=>?_;have hi:i<es.size:=by rw[AsZ,At1]at h1;exact h1
  rw[Au4,List.getElem_range,Array.getD_eq_getD_getElem?,zM hi,Array.getElem_toList];rfl
 have size:(((lvs mask ow).map (·.2)).toArray.filterMap (es[·]?)).size=es.size:=by rw[<-zJ,perm.length_eq,zJ]
 have len:(lvs mask ow).length=es.size:=by
  have:=P.length_eq;rw[AsZ,At1]at this;exact this
 obtain⟨es',v⟩:∃es',es'=((lvs mask ow).map (·.2)).toArray.filterMap (es[·]?):=⟨_,Z⟩;rw[<-v]at l perm size ⊢;refine⟨size,perm,?_,Z,Z,Z,Z,Z⟩;have pl:∀i:Nat,(((lvs mask ow).map (·.1)).toArray)[i]?=((lvs mask ow)[i]?).map (·.1):=λi=>by rw[List.getElem?_toArray,Atn]
 refine⟨?_,R,Z,λi j a=>?_,w,by rw[size];exact hk,λi j f a c=>?_⟩
 ·show(((lvs mask ow).map (·.1)).toArray).size=es'.size;rw[Atd,AsZ,len,size]
 ·have a:(((lvs mask ow).map (·.1)).toArray)[i]?=some j:=a;rw[pl]at a;cases d:(lvs mask ow)[i]? with
  |none=>rw[d]at a;cases a
  |some q =>
   rw[d]at a;have a:some q.1=some j:=a;injection a with a;have:=(HD (j:=q.1) (o:=q.2)).mp (Ato d);show j<=mask;lia
 ·have a:(((lvs mask ow).map (·.1)).toArray)[i]?=some j:=a;rw[pl]at a;cases d:(lvs mask ow)[i]? with
  |none=>rw[d]at a;cases a
  |some q =>
   rw[d]at a;have a:some q.1=some j:=a;injection a with a;obtain⟨H,F⟩:=(HD (j:=q.1) (o:=q.2)).mp (Ato d);rw[<-zL,l,Atn,Atn,d]at c;have c:some (es.getD q.2 (0,.none))=some f:=c;injection c with c;have r:=x q.2 (zY.mpr ⟨q,Ato d,Z⟩);have E:(es.map (·.1)).toList[q.2]?=some f.1:=by
    rw[zL,Array.getElem?_map,r,<-c];rfl
   obtain⟨n,B,C⟩:=L.way q.1 q.2 f.1 F E;have y:∀n,pth {mask:=mask,place:=((lvs mask ow).map (·.1)).toArray,dummies:=#[],finger:=finger,led:=led,moves:=moves,plain:=plain} f.1 n=pth (T0 mask) f.1 n:=λn=>Gw (t:=T0 mask) (t':={mask:=mask,place:=((lvs mask ow).map (·.1)).toArray,dummies:=#[],finger:=finger,led:=led,moves:=moves,plain:=plain}) Z f.1 n;refine⟨n,by rw[y,B];exact a,λm u=>?_⟩;rw[y];have b:=C m u;cases p:ow.getD (pth (T0 mask) f.1 m).j none with
   |none=>exact z9 p b
   |some o' =>
    have mb:=(HD (mask:=mask)).mpr ⟨(by have:=AmD p;rw[L.sz]at this;lia),p⟩;obtain⟨D,s,h⟩:=AtA mb;have:(((lvs mask ow).map (·.1)).toArray)[D]?=some (pth (T0 mask) f.1 m).j:=by rw[pl,Atc s,h];rfl
    rw[slot_of (t:={mask:=mask,place:=((lvs mask ow).map (·.1)).toArray,dummies:=#[],finger:=finger,led:=led,moves:=moves,plain:=plain}) R this];exact λz=>by cases z
end SetW
namespace SetW
abbrev KS:=Int ⊕ Str
def isK:KS->Nd->Bool
 | .inl i,v=>Value.isInt i v
 | .inr x,v=>Value.isStrOf x v
theorem Cz{i:Int}{v:Nd}(h:isK (.inl i) v=true):∃t,v=.int i t:=Value.isInt_shape h
theorem Ef{v:Nd}(h:isK (.inr x) v=true):∃t,v=.str x t:=Value.isStrOf_shape h
def Ak (prog:Program)(w:World):KeyKind prog w KS where
 is:=isK
 hash:=λk=>match k with|.inl i=>hashInt i|.inr x=>hashStr w x
 inj:=λv a b ha hb=>by
  cases a with
  |inl i =>
   obtain⟨t,rfl⟩:=Cz ha
   cases b with
   |inl i'=>obtain⟨t',e⟩:=Cz hb;injection e with e;rw[e]
   |inr x=>obtain⟨t',e⟩:=Ef hb;cases e
  |inr x =>
   obtain⟨t,rfl⟩:=Ef ha
   cases b with
   |inl i'=>obtain⟨t',e⟩:=Cz hb;cases e
   |inr x'=>obtain⟨t',e⟩:=Ef hb;injection e with e;rw[e]
 byValue:=λk v h=>by
  cases k with
  |inl i=>obtain⟨t,rfl⟩:=Cz h;rfl
  |inr x=>obtain⟨t,rfl⟩:=Ef h;rfl
 pyHash:=λ{A E s k v Q} hv h=>by
  cases k with
  |inl i=>exact(intKind prog w).pyHash (k:=i) hv h
  |inr x=>exact(strKind prog w).pyHash (k:=x) hv h
 eqBool:=λ{A E s a b u v Q} hu hv h=>by
  cases a with
  |inl i =>
   obtain⟨t,rfl⟩:=Cz hu
   cases b with
   |inl i'=>obtain⟨t',rfl⟩:=Cz hv;exact wpAny_eqBool_int (by have e:decide ((Sum.inl i:KS)=.inl i')=(i == i'):=by {rw[AtI];simp};rw[<-e];exact h)
   |inr x=>obtain⟨t',rfl⟩:=Ef hv;exact SeqAt.EqAt.int_str i t x t' prog w E Q (by simpa using h)
  |inr x =>
   obtain⟨t,rfl⟩:=Ef hu
   cases b with
   |inl i'=>obtain⟨t',rfl⟩:=Cz hv;exact SeqAt.EqAt.str_int x t i' t' prog w E Q (by simpa using h)
   |inr x'=>obtain⟨t',rfl⟩:=Ef hv;exact wpAny_eqBool_str (by simpa [Sum.inr.injEq]using h)
 «strs»:=λk x t v h=>by
  cases k with
  |inl i=>obtain⟨t',e⟩:=Cz h;cases e
  |inr y=>exact(strKind prog w).«strs» y x t v h
abbrev TK (prog:Program)(w:World)(h:Heap)(ks:List KS)(a:NX):Prop:=IsTupleKey (Ak prog w) h ks a
theorem Ai1(hk:TK prog w s.heap ks a){Q:Bool->Na->Prop}(h:Q false s):wpAny (model prog w) A (ofAClassStatement 8 (.ref a)) Q E s:=by
 have i:=hk.typeIs;obtain⟨o,items,n,l,hc,f,hi⟩:=hk;unfold ofAClassStatement;refine zA (wpAny_typeOf i ?_)
 try dsimp only
 rw[z8 Ab];refine zA (zE ?_);rw[z7 Ab];refine zA (yK l f ?_)
 try dsimp only
 refine zA ?_;rw[<-Array.forIn_toList];refine wpAny_forIn_list _ (λrest r s'=>r.1=none/\s'=s/\∀v∈rest,carriedByValue v=true) _ ?_ ?_ _ _ ⟨Z,Z,hi.byValue⟩
 ·rintro v rest r s' ⟨d,rfl,c⟩;have j:ofAClassStatement 7 v=pure false:=by
   have:=c v Atk;cases v with
   |ref b=>simp[carriedByValue]at this
   |_=>rfl
  rw[j];refine zA (zE ?_);rw[z7 Ab];exact zE ⟨Z,Z,λu e=>c u (Ath _ e)⟩
 ·rintro⟨p,m⟩ s' ⟨d,rfl,_⟩;simp only at d;subst d;exact zE h
theorem Alm(hk:TK prog w s.heap ks a){Q:Bool->Na->Prop}(h:Q false s){l:NR}(m:∀y∈l,∃b c,y=.ref b/\TK prog w s.heap c b):wpAny (model prog w) A (searchCouldBeSeen (.ref a) l) Q E s:=by
 unfold searchCouldBeSeen;refine zA ?_;refine wpAny_forIn_list _ (λrest r s'=>r.1=none/\s'=s/\∀y∈rest,∃b c,y=.ref b/\TK prog w s.heap c b) _ ?_ ?_ _ _ ⟨Z,Z,m⟩
 ·rintro y rest r s' ⟨e,rfl,d⟩;obtain⟨b,c,rfl,f⟩:=d y Atk;have i:∀u∈rest,∃b c,u=.ref b/\TK prog w s'.heap c b:=λu j=>d u (Ath _ j)
  try dsimp only
  split
  ·exact zE ⟨Z,Z,i⟩
  ·refine zA (wpAny_eqIsQuiet_tuple hk ?_);rw[z7 Ab];refine zA (wpAny_eqIsQuiet_tuple f ?_);rw[z7 Ab];refine zA (Ai1 hk ?_);rw[z7 Ab];refine zA (Ai1 f ?_);rw[z7 Ab];exact zE ⟨Z,Z,i⟩
 ·rintro⟨o,n⟩ s' ⟨e,rfl,_⟩;simp only at e;subst e;exact zE h
def EK (prog:Program)(w:World)(h:Heap)(e:Int×Nd)(ks:List KS):Prop:=∃a,e.2=.ref a/\TK prog w h ks a/\e.1=tupleKeyHash (Ak prog w) ks
structure TS (prog:Program)(w:World)(h:Heap)(o:Obj)(es:Array (Int×Nd))(ep:Nat)(t:SetTable)(kl:List (List KS)):Prop where
 ex:o.ExactSet
 d:o.data=.set es ep t
 tb:Tb t es
 few:es.size*5<t.mask*3
 ok:w.params.followText "set-order"=true\/t.led=true
 len:kl.length=es.size
 el:∀(i:Nat)(e:Int×Nd),es[i]?=some e->∃ks,kl[i]?=some ks/\EK prog w h e ks
 nd:kl.Nodup
theorem Tb.fits(B:Tb t es):t.fits es.size=true:=by unfold SetTable.fits SetTable.fill;rw[B.nod,B.sz];have:=B.few;simp;exact this
theorem Aow{M:Model}{X Y:Sem α}{Q:α->Na->Prop}(hc:b=false->∀Q':Bool->Na->Prop,Q' false s->wpAny M A c Q' E s)(k:wpAny M A Y Q E s):wpAny M A (if (!b)=true then do
  let z <-c
  if z=true then X else Y
 else Y) Q E s:=by
 cases b with
 |true=>exact k
 |false =>
  show wpAny M A (c >>= λz=>if z=true then X else Y) Q E s;refine zA (hc Z _ ?_);rw[z7 Ab];exact k
theorem Yz{S a:NX}{o:Obj}{es:Array (Int×Nd)}{ep:Nat}{t:SetTable}{kl:List (List KS)}{ks:List KS}(T:TS prog w s.heap o es ep t kl)(ho:s.heap.get? S=some o)(hu:A.units<cLine)(ha:TK prog w s.heap ks a){Q:SetFound->Na->Prop}{N:Nat}(P:t.slot (pth t (tupleKeyHash (Ak prog w) ks) N).j=.empty)(a3:N<10*SetTable.turns t.mask)
  (free:ks∉kl->∀n,t.slot (pth t (tupleKeyHash (Ak prog w) ks) n).j=.empty->(∀f,f<n->t.slot (pth t (tupleKeyHash (Ak prog w) ks) f).j≠.empty)->Q (.free (pth t (tupleKeyHash (Ak prog w) ks) n).j false) s)
  (u:ks∈kl->Q (.there none) s):∀(fuel n:Nat)(r:Option SetTable.Probe),n<=N->N-n<fuel->r.getD (t.probeStart (tupleKeyHash (Ak prog w) ks))=pth t (tupleKeyHash (Ak prog w) ks) n ->
   (∀f,f<n->∃i,t.slot (pth t (tupleKeyHash (Ak prog w) ks) f).j=.live i/\∀v,kl[i]?=some v->v≠ks)->wpAny (model prog w) A (setSearchFrom S (.ref a) (tupleKeyHash (Ak prog w) ks) true fuel r) Q E s
 | 0,n,_,_,hf,_,_=>As
 |fuel+1,n,r,hn,hf,hst,hb=>by
  have ih:=Yz T ho hu ha P a3 free u fuel;unfold setSearchFrom;refine zA (wpAny_setState_of ho T.d T.tb.fits ?_)
  try dsimp only
  have gw:t.gaveWay=false:=by
   unfold SetTable.gaveWay;rcases T.tb.msk with e|e|e<;>rw[e]<;>rfl
  rw[gw,z7 Ab,hst];obtain⟨h,B⟩:∃h,h=tupleKeyHash (Ak prog w) ks:=⟨_,Z⟩;rw[<-B]at P free hb ih ⊢;have M:=Ab2 T.tb.nod (λi:Nat=>(es[i]?.map (·.1)).getD 0) h P (10*SetTable.turns t.mask) n hn As;generalize hR:t.probe _ h (pth t h n)=R;have L:SetTable.probe.go t (λi:Nat=>(es[i]?.map (·.1)).getD 0) h (10*SetTable.turns t.mask) (pth t h n)=R:=hR;rw[L]at M;clear hR L;have H:∀m,t.slot (pth t h m).j=.empty->(∀f,n<=f->f<m->∃i,t.slot (pth t h f).j=.live i/\(es[i]?.map (·.1)).getD 0≠h)->ks∉kl:=λm h2 F O=>by
   obtain⟨i,hi,ei⟩:=AtA O;have p:i<es.size:=by rw[<-T.len];exact hi
   obtain⟨v,D,a',q2,q3,q4⟩:=T.el i es[i] (zM p);rw[Atc hi,ei]at D;injection D with D;subst D;have x:i<t.place.size:=by rw[T.tb.sz];exact p
   obtain⟨n0,w1,w2⟩:=T.tb.way i t.place[i] es[i] (zM x) (zM p);rw[q4,<-B]at w1 w2;have W:t.slot (pth t h n0).j=.live i:=by rw[w1];exact slot_of T.tb.rise (zM x)
   rcases Auz n0 m with c|c|c
   ·by_cases G:n0<n
    ·obtain⟨C,l,I⟩:=hb n0 G;rw[W]at l;injection l with l;subst l;exact I ks (by rw[Atc hi,ei]) Z
    ·obtain⟨C,l,I⟩:=F n0 As c;rw[W]at l;injection l with l;subst l;apply I;rw[zM p];show es[i].1=h;rw[q4,B]
   ·rw[c,h2]at W;cases W
   ·exact w2 m c h2
  have alive:∀m,(∀f,n<=f->f<m->∃i,t.slot (pth t h f).j=.live i/\(es[i]?.map (·.1)).getD 0≠h)->∀f,f<m->t.slot (pth t h f).j≠.empty:=λm F f J=>by
   by_cases G:f<n
   ·obtain⟨C,l,_⟩:=hb f G;rw[l];exact λz=>by cases z
   ·obtain⟨C,l,_⟩:=F f As J;rw[l];exact λz=>by cases z
  cases M with
  |empty m h1 h2 F=>exact zE (free (H m h2 F) m h2 (alive m F))
  |Ali m i h1 h2 F h4 =>
   have a7:m<N:=by
    rcases Nat.lt_or_ge m N with c|c
    ·exact c
    ·exfalso;by_cases G:m=N
     ·rw[G,P]at h2;cases h2
     ·exact alive m h4 N As P
   have x:=Aaj h2;have p:i<es.size:=by rw[<-T.tb.sz];exact(Array.getElem?_eq_some_iff.mp x).1
   obtain⟨v,D,b,q2,q3,q4⟩:=T.el i es[i] (zM p);have ee:es[i]?=some (es[i].1,.ref b):=by rw[zM p,<-q2]
   try dsimp only
   refine Aow (λ_ Q' a1=>Alm ha a1 λy hy=>?_) ?_
   ·obtain⟨e0,a0,rfl⟩:=zY.mp hy;have a2:e0∈es:=(Array.mem_filter.mp (Array.mem_toList_iff.mp a0)).1;obtain⟨i0,X,rfl⟩:=Array.mem_iff_getElem.mp a2;obtain⟨a5,_,b0,r2,r3,_⟩:=T.el i0 es[i0] (zM X);exact⟨b0,a5,r2,r3⟩
   rw[ee]
   try dsimp only
   refine zA (zT (wpAny_eqBool_tuple hu q3 ha ?_));refine zA (wpAny_setState_of ho T.d T.tb.fits ?_)
   try dsimp only
   by_cases hk:v=ks
   ·subst hk;rw[z8 At];exact zE (u (Ato D))
   ·rw[z7 (by simp[hk])];have sm:t.sameMemory t.moves t.mask=some true:=by unfold SetTable.sameMemory;rw[z8 At]
    rw[sm]
    try dsimp only
    rw[z8 Z,h2]
    try dsimp only
    rw[ee]
    try dsimp only
    have is:isSame (.ref b) (.ref b)=pure true:=by unfold isSame;simp
    rw[is];refine zA (zE (zA (zE ?_)));rw[z8 rfl]
    try dsimp only
    rw[z7 (by simp[hk])];refine ih (m+1) _ As As Z λf J=>?_;by_cases c:f<n
    ·exact hb f c
    ·by_cases G:f=m
     ·subst G;exact⟨i,h2,λY z=>by rw[D]at z;injection z with z;rw[<-z];exact hk⟩
     ·obtain⟨C,l,I⟩:=h4 f As As;refine⟨C,l,λY z3 z4=>I ?_⟩;have a4:=Aaj l;have K:C<es.size:=by rw[<-T.tb.sz];exact(Array.getElem?_eq_some_iff.mp a4).1
      obtain⟨a6,U,b3,r2,r3,r4⟩:=T.el C es[C] (zM K);rw[z3]at U;injection U with U;rw[zM K];show es[C].1=h;rw[r4,<-U,z4,B]
end SetW
namespace SetW
section
theorem Aox(hk:TK prog w s.heap ks a){Q:Bool->Na->Prop}(h:∀b,Q b s):wpAny (model prog w) A (hashByValue 8 (.ref a)) Q E s:=by
 have m:=hk.typeIs;obtain⟨o,items,n,f,hc,e,hi⟩:=hk;unfold hashByValue;refine zA (wpAny_specialOf m F.slot_tuple_hash.lookup ?_)
 try dsimp only
 refine zA (yK f e ?_);refine zA ?_;show wpAny _ _ (forIn items _ _) _ _ s;rw[<-Array.forIn_toList];refine wpAny_forIn_list _ (λrest r s'=>s'=s/\∀v∈rest,carriedByValue v=true/\∃k,isK k v=true) _ ?_ ?_ _ _ ⟨Z,?_⟩
 ·rintro v rest r s' ⟨rfl,c⟩;obtain⟨_,k,hk⟩:=c v Atk;have y:∀u∈rest,carriedByValue u=true/\∃k,isK k u=true:=λu d=>c u (Ath _ d);cases k with
  |inl i =>
   obtain⟨t,rfl⟩:=Cz hk;refine zA (wpAny_of_eq (a:=true) Z ?_);rw[z7 Ab];exact zE ⟨Z,y⟩
  |inr x =>
   obtain⟨t,rfl⟩:=Ef hk;refine zA (wpAny_of_eq (a:=false) Z ?_);rw[z8 Ab];exact zE (zE (h _))
 ·rintro⟨p,z⟩ s' ⟨rfl,_⟩;cases p with
  |none=>exact zE (h _)
  |some b=>exact zE (h _)
 ·clear e f;generalize items.toList=vs at hi
  induction hi with
  |nil=>intro v j;cases j
  | @cons k v ks vs h1 _ l =>
   intro u d;rcases zZ.mp d with rfl|d
   ·exact⟨(Ak prog w).byValue _ _ h1,k,h1⟩
   ·exact l u d
theorem Ai2{M:Model}{Q:Array (Int×Nd)×SetTable->Na->Prop}(hs:(order.filterMap (es[·]?)).size=es.size)(g:Sem (Array (Int×Nd)×SetTable))
  (a:g=(do
   let some (t,order):=(some (t',order):Option (SetTable×Array Nat))|unsupported "internal:set-table-without-room"
   let es':=order.filterMap (es[·]?)
   if es'.size != es.size then unsupported "internal:set-table-lost-an-element"
   pure (es',t))) (h:Q (order.filterMap (es[·]?),t') s):wpAny M A g Q E s:=by
 subst a
 try dsimp only
 rw[z7 (by rw[hs];simp)];exact zE h
theorem Aln{m:Nat}(a:Msk m)(h1:n*5<m*3)(h2:m*3<=(n+1)*5)(b:n+1<=64):Msk (SetTable.sizeAbove (SetTable.grown (n+1))-1)/\n+1<=SetTable.sizeAbove (SetTable.grown (n+1))-1/\(n+1)*5<(SetTable.sizeAbove (SetTable.grown (n+1))-1)*3/\¬SetTable.sizeAbove (SetTable.grown (n+1))>sizeLine:=by
 rcases a with e|e|e
 ·obtain rfl:n=4:=As
  refine⟨.inr (.inl Ab),Ab,Ab,?_⟩;rw[zS];decide
 ·obtain rfl:n=18:=As
  refine⟨.inr (.inr Ab),Ab,Ab,?_⟩;rw[zS];decide
 ·lia
theorem Ad3(f:h.get? S=some o)(d:o.data=.set es ep t)(i:Heap.SameBut S h h'):∀ks a,TK prog w h ks a->TK prog w h' ks a:=by
 rintro ks a ⟨o',items,n,b,hc,c,hi⟩;have ne:a≠S:=λe=>by
  rw[e,f]at b;injection b with b;rw[b,c]at d;cases d
 exact⟨o',items,n,(i.2 a ne).trans b,hc,c,hi⟩
open Classical in
noncomputable def kyT (prog:Program) (w:World) (h:Heap) (e:Int×Nd):List KS:=if hx:∃ks,EK prog w h e ks then Classical.choose hx else []
theorem EK.one{e:Int×Nd}{c:List KS}(a:EK prog w h e ks)(b:EK prog w h e c):ks=c:=by obtain⟨x,e1,t1,_⟩:=a;obtain⟨y,d,f,_⟩:=b;rw[e1]at d;injection d with d;subst d;exact IsTupleKey.inj t1 f
theorem Ad4{e:Int×Nd}(a:EK prog w h e ks):kyT prog w h e=ks:=by have b:∃ks,EK prog w h e ks:=⟨ks,a⟩;unfold kyT;rw[dif_pos b];exact EK.one (Classical.choose_spec b) a
theorem AmE(len:kl.length=es.size)(b:∀(i:Nat)(e:Int×Nd),es[i]?=some e->∃ks,kl[i]?=some ks/\EK prog w h e ks):kl=es.toList.map (kyT prog w h):=by
 refine Au3 (by rw[AsZ,zJ];exact len) λi h1 h2=>?_;have hi:i<es.size:=by rw[<-len];exact h1
 obtain⟨ks,a,c⟩:=b i es[i] (zM hi);rw[Atc h1]at a;injection a with a;rw[Au4];show kl[i]=kyT prog w h es[i];rw[Ad4 c,a]
theorem Alo(len:kl.length=es.size)(d:∀(i:Nat)(e:Int×Nd),es[i]?=some e->∃ks,kl[i]?=some ks/\EK prog w h e ks)(n:kl.Nodup)(p:es'.toList.Perm es.toList) :
  ∃a:List (List KS),a.length=es'.size/\(∀(i:Nat)(e:Int×Nd),es'[i]?=some e->∃ks,a[i]?=some ks/\EK prog w h e ks)/\a.Nodup/\∀z,z∈a↔z∈kl:=by
 have j:=AmE len d;refine⟨es'.toList.map (kyT prog w h),by rw[AsZ,zJ],λi e f=>?_,?_,λz=>?_⟩
 ·have m:e∈es.toList:=p.mem_iff.mp (Ato (by rw[zL];exact f));obtain⟨l,b,c⟩:=AtA m;obtain⟨ks,_,q⟩:=d l e (by rw[<-zL,Atc b,c]);refine⟨ks,?_,q⟩;rw[Atn,zL,f];show some (kyT prog w h e)=some ks;rw[Ad4 q]
 ·refine(p.map _).nodup_iff.mpr ?_;rw[<-j];exact n
 ·rw[(p.map _).mem_iff,<-j]
theorem Aoy{p:Nat}(b:kl.Nodup)(h:ks∉kl):(kl.take p++ks::kl.drop p).Nodup/\∀z,z∈kl.take p++ks::kl.drop p↔z∈kl\/z=ks:=by
 have a:(kl.take p++ks::kl.drop p).Perm (ks::kl):=by
  refine(Auy).trans ?_;rw[AtW]
 refine⟨a.nodup_iff.mpr (List.nodup_cons.mpr ⟨h,b⟩),λz=>?_⟩;rw[a.mem_iff,Ati];exact Or.comm
theorem Aoz(T:TS prog w s.heap o es ep t kl)(v:s.heap.get? S=some o)(hu:A.units<cLine)(ha:TK prog w s.heap ks a)(hb:es.size+1<=64){Q:Bool->Na->Prop}
  (hQ:∀h' o' es' ep' t' kl' b,Heap.SameBut S s.heap h'->h'.get? S=some o'->TS prog w h' o' es' ep' t' kl'->(∀z,z∈kl'↔z∈kl\/z=ks)->es'.size<=es.size+1->(∀e∈es'.toList,e∈es.toList\/e.2=.ref a)->Q b {s with heap:=h'}) :
  wpAny (model prog w) A (setAddHashed S (.ref a) (tupleKeyHash (Ak prog w) ks)) Q E s:=by
 obtain⟨N,a7,hN⟩:=T.tb.stop (tupleKeyHash (Ak prog w) ks);unfold setAddHashed setAddHashedIn;refine zT (zA (wpAny_setState_of v T.d T.tb.fits ?_))
 try dsimp only
 rw[z7 (by show ¬(false && _ && _)=true;simp)];have a1:10*SetTable.turns t.mask<=5000:=by
  unfold SetTable.turns;rcases T.tb.msk with e|e|e<;>rw[e]<;>decide
 refine zA ?_;unfold setSearch;refine Yz T v hu ha hN a7 (λaf n he a2=>?_) (λhk=>?_) 100000 0 none (Atg _) As Z (λn' h=>As)
 ·obtain⟨J,hJ⟩:∃J,J=(pth t (tupleKeyHash (Ak prog w) ks) n).j:=⟨_,Z⟩;have ab:es.size+1<=t.mask:=by
   have:=T.few;rcases T.tb.msk with e|e|e<;>rw[e]at this ⊢ <;> lia
  have put:=λpl=>T.tb.put (x:=.ref a) he a2 ab pl;rw[<-hJ]at put ⊢;obtain⟨hh,R⟩:∃hh,hh=tupleKeyHash (Ak prog w) ks:=⟨_,Z⟩;rw[<-R]at put ⊢;obtain⟨p,hp⟩:∃p,p=(t.put J).2:=⟨_,Z⟩;have O:p<=es.size:=by
   rw[hp,<-T.tb.sz];exact(Gv T.tb.rise J).1
  obtain⟨es1,e1⟩:∃es1,es1=SetTable.insertAt es (t.put J).2 (hh,.ref a):=⟨_,Z⟩;have f:es1.size=es.size+1:=by rw[e1];exact Pn _ _ _
  have g1:∀i:Nat,es1[i]?=if i<p then es[i]? else if i=p then some (hh,.ref a) else es[i-1]?:=λi=>by rw[e1,<-hp];exact Eb es O _ i
  obtain⟨F,H⟩:=Aoy (p:=p) T.nd af;obtain⟨l,B⟩:∃l,l=kl.take p++ks::kl.drop p:=⟨_,Z⟩;rw[<-B]at F H;have U:l.length=es1.size:=by
   rw[B,f,Atm,At2,AtB,List.length_drop,T.len];lia
  have k1:∀i:Nat,l[i]?=if i<p then kl[i]? else if i=p then some ks else kl[i-1]?:=λi=>by
   have:=Eb kl.toArray (p:=p) (by rw[Atd,T.len];exact O) ks i;rw[<-zL,Pj]at this;rw[B]
   simpa using this
  have K:∀(h':Heap),(∀ks a,TK prog w s.heap ks a->TK prog w h' ks a)->∀(i:Nat)(e:Int×Nd),es1[i]?=some e->∃ks,l[i]?=some ks/\EK prog w h' e ks:=λh' kp i e c=>by
   have L:∀i0:Nat,es[i0]?=some e->∃ks,kl[i0]?=some ks/\EK prog w h' e ks:=λi0 q=>by
    obtain⟨ae,q1,a0,q2,q3,q4⟩:=T.el i0 e q;exact⟨ae,q1,a0,q2,kp _ _ q3,q4⟩
   rw[g1]at c;rw[k1];by_cases c1:i<p
   ·rw[z8 c1]at c ⊢;exact L i c
   ·rw[z7 c1]at c ⊢;by_cases c2:i=p
    ·rw[z8 c2]at c ⊢;injection c with c;subst c;exact⟨ks,Z,a,Z,kp _ _ ha,R⟩
    ·rw[z7 c2]at c ⊢;exact L (i-1) c
  have P:∀e∈es1.toList,e∈es.toList\/e.2=.ref a:=λe hm=>by
   rw[e1,Pj]at hm;rcases zG.mp hm with h|h
   ·exact .inl (List.mem_of_mem_take h)
   ·rcases zZ.mp h with h|h
    ·rw[h];exact .inr Z
    ·exact .inl (List.mem_of_mem_drop h)
  have y:∀t1:SetTable,(∃pl,t1={ (t.put J).1 with plain:=pl})->wpAny (model prog w) A (do
    storeSet S es1 t1
    if !false && t1.tooFull then setRelay S (SetTable.grown (es.size+1))
    return true) Q E s:=by
   rintro t1 ⟨pl,D⟩;have m:Tb t1 es1:=by rw[D,e1];exact put pl
   have m1:t1.mask=t.mask:=by rw[D];rfl
   have l1:t1.led=t.led:=by rw[D];rfl
   have X:w.params.followText "set-order"=true\/t1.led=true:=by rw[l1];exact T.ok
   refine zA (wpAny_storeSet_of v T.d ?_ (fits_of_scanBound (by rw[f];show _<4096;lia)));have Y:=Vj (es':=es1) (t':=t1) v T.d;have C:=Heap.SameBut.update s.heap S (Obj.putSet es1 t1);have a3:=Ad3 (prog:=prog) (w:=w) v T.d C;by_cases u:t1.tooFull=true
   ·rw[z8 (by rw[u];rfl)];have ai:t.mask*3<=(es.size+1)*5:=by
     unfold SetTable.tooFull SetTable.fill at u;rw[m.nod,m.sz,m1,f]at u;have u:=yF u;have u:(es.size+1+0)*5 ≥ t.mask*3:=u;lia
    obtain⟨gm,gk,gf,gs⟩:=Aln T.tb.msk T.few ai hb;obtain⟨t2,order,eL,hsz,G,I,a6,a5,_,_,_⟩:=Alk (finger:=t1.finger) (moves:=t1.movedTo (SetTable.sizeAbove (SetTable.grown (es.size+1))-1)) (led:=t1.led) (plain:=t1.plain) gm (es:=es1) (by rw[f];exact gk);have eR:t1.relaid (es1.map (·.1)) (SetTable.grown (es.size+1))=some (t2,order):=eL;refine zA ?_;unfold setRelay;refine zA (wpAny_setState_of (s:={s with heap:=s.heap.update S (Obj.putSet es1 t1)}) Y rfl m.fits ?_)
    try dsimp only
    rw[z7 gs,eR];refine zA (Ai2 hsz _ Z ?_)
    try dsimp only
    obtain⟨r,e2⟩:∃r,r=order.filterMap (es1[·]?):=⟨_,Z⟩;rw[<-e2]at hsz G I ⊢;refine wpAny_storeSet_of (s:={s with heap:=s.heap.update S (Obj.putSet es1 t1)}) Y rfl ?_ (fits_of_scanBound (by rw[hsz,f];show _<4096;lia));have a9:=Vj (s:={s with heap:=s.heap.update S (Obj.putSet es1 t1)}) (es':=r) (t':=t2) Y rfl;have W:=C.trans (Heap.SameBut.update _ S (Obj.putSet r t2));have ag:=Ad3 (prog:=prog) (w:=w) v T.d W;obtain⟨ac,aa,ah,a8,aj⟩:=Alo U (K _ ag) F G;exact zE (hQ _ _ r (ep+1+1) t2 ac true W a9 ⟨T.ex,Z,I,by rw[hsz,f,a6];exact gf,by rw[a5];exact X,aa,ah,a8⟩ (λz=>by rw[aj z];exact H z) (by rw[hsz,f];exact AsY _) λe he=>P e (G.mem_iff.mp he))
   ·rw[z7 (by simpa using u)];have a4:es1.size*5<t1.mask*3:=by
     have:¬(t1.fill*5 ≥ t1.mask*3):=λz=>u (by unfold SetTable.tooFull;exact zK z);unfold SetTable.fill at this;rw[m.nod,m.sz]at this;have:¬((es1.size+0)*5 ≥ t1.mask*3):=this;lia
    exact zE (hQ _ _ es1 (ep+1) t1 l true C Y ⟨T.ex,Z,m,a4,X,U,K _ a3,F⟩ H (by rw[f];exact AsY _) P)
  try dsimp only
  refine zA (wpAny_setState_of v T.d T.tb.fits ?_)
  try dsimp only
  rw[<-e1];split
  ·refine zA (Aox ha λb=>?_);cases b with
   |true=>exact y _ ⟨(t.put J).1.plain,Z⟩
   |false=>exact y _ ⟨false,Z⟩
  ·exact y _ ⟨(t.put J).1.plain,Z⟩
 ·dsimp only;have:=hQ s.heap o es ep t kl false (Heap.SameBut.refl S s.heap) v T (λz=>⟨.inl,λq=>q.elim id λe=>e▸hk⟩) (Atq _) λe h=>.inl h;exact zE this
end
end SetW
namespace SetW
theorem Tb.fresh(led:Bool):Tb (.fresh 0 0 led) #[]:=by
 refine⟨Z,λi k h1 h2=>?_,Z,λi j h=>?_,.inl Z,(by show 0<=7;decide),λi j e h=>?_⟩
 ·simp[SetTable.fresh]at h2
 ·simp[SetTable.fresh]at h
 ·simp[SetTable.fresh]at h
theorem TS.fresh(h:Heap):TS prog w h (frs w) #[] 0 (.fresh 0 0 (!w.params.followText "set-order")) []:=by
 refine⟨⟨Z,Z,Z⟩,Z,Tb.fresh _,by show 0*5<7*3;decide,?_,Z,λi e a=>?_,List.nodup_nil⟩
 ·by_cases h:w.params.followText "set-order"=true
  ·exact .inl h
  ·exact .inr (by simpa [SetTable.fresh]using h)
 ·simp at a
theorem TS.wk(T:TS prog w h o es ep t kl):Wk w o es ep t:=⟨T.ex,T.d,T.tb.fits,T.ok.elim .inl λz=>.inr (.inr ⟨z,λ_=>T.tb.rise⟩)⟩
theorem Alp{P:Nat->Nd->Prop}{St:Nat->Na->Prop}(W:WalksS prog w A.in1 I fp wr G n P St)(hu:A.in1.units<cLine)(S:NX)(Q:S∉fp)
  (val:Nat->NX) (key:Nat->List KS) (O:∀i v,P i v->v=.ref (val i)) (C:∀i,i<n->val i∉wr) (aa:∀l:List (List KS),l.Nodup->(∀z∈l,∃j,j<n/\key j=z)->l.length<64):∀(k i:Nat)(s:Na)(o:Obj)(es:Array (Int×Nd))(ep:Nat)(t:SetTable)(kl:List (List KS)),n-i=k->i<=n->St i s->s.heap.get? S=some o->TS prog w s.heap o es ep t kl ->
   (∀j,j<n->TK prog w s.heap (key j) (val j))->(∀z,z∈kl↔∃j,j<i/\key j=z)->(∀e∈es.toList,∃j,j<n/\e.2=.ref (val j)) ->
   (∀s' o' es' H t' y,Moved (S::wr) G s s'->s'.heap.get? S=some o'->TS prog w s'.heap o' es' H t' y->(∀z,z∈y↔∃j,j<n/\key j=z)->(∀e∈es'.toList,∃j,j<n/\e.2=.ref (val j))->R (.ok (.ret .none)) s') ->
   codeAny (model prog w) A (.builtin "set.update.loop" ⟨[.ref S,.ref I],[]⟩) R s:=by
 have T:S∉wr:=λh=>Q (W.sub _ h);have B:∀b∈wr,b∈S::wr:=λb Y=>Ath _ Y;have L:∀{s s':Na},Moved wr G s s'->∀ks a,a∉wr->TK prog w s.heap ks a->TK prog w s'.heap ks a:=λu ks a hw ⟨o',items,n',D,r⟩=>⟨o',items,n',u.heap a _ hw D,r⟩;intro k
 induction k with
 |zero =>
  intro i s o es ep t kl hk hi K ho f hT hm N hR;obtain rfl:i=n:=by omega
  refine codeAny_builtin PyProof.Rows.F.entry_set_update_loop ?_;rw[Around.under_plainId PyProof.Rows.F.plain_set_update_loop _];show wpAny _ A.in1 (pyNext (.ref I) >>= _) _ _ s;refine zA (W.done s _ _ K λs' u=>?_);show wpAny _ A.in1 (ret Value.none) _ _ s';refine zE (hR s' o es ep t kl (u.mono B) (u.heap S _ T ho) ?_ hm N);refine⟨f.ex,f.d,f.tb,f.few,f.ok,f.len,λi e E=>?_,f.nd⟩;obtain⟨ks,q1,a,q2,q3,q4⟩:=f.el i e E;obtain⟨j,p,x⟩:=N e (Ato (by rw[zL];exact E));rw[q2]at x;injection x with x;exact⟨ks,q1,a,q2,L u _ _ (by rw[x];exact C j p) q3,q4⟩
 |succ k ih =>
  intro i s o es ep t kl hk hi K ho f hT hm N hR;have m:i<n:=by omega
  refine codeAny_builtin PyProof.Rows.F.entry_set_update_loop ?_;rw[Around.under_plainId PyProof.Rows.F.plain_set_update_loop _];show wpAny _ A.in1 (pyNext (.ref I) >>= _) _ _ s;refine zA (W.item i s _ _ m K λv s' hP X u=>?_);obtain rfl:=O i v hP;have a9:TS prog w s'.heap o es ep t kl:=by
   refine⟨f.ex,f.d,f.tb,f.few,f.ok,f.len,λi e E=>?_,f.nd⟩;obtain⟨ks,q1,a,q2,q3,q4⟩:=f.el i e E;obtain⟨j,p,x⟩:=N e (Ato (by rw[zL];exact E));rw[q2]at x;injection x with x;exact⟨ks,q1,a,q2,L u _ _ (by rw[x];exact C j p) q3,q4⟩
  have J:∀j,j<n->TK prog w s'.heap (key j) (val j):=λj p=>L u _ _ (C j p) (hT j p);have U:=u.heap S _ T ho;have ah:es.size<64:=by
   rw[<-f.len];exact aa kl f.nd λz hz=>by
    obtain⟨j,p,e⟩:=(hm z).mp hz;exact⟨j,by omega,e⟩
  show wpAny _ A.in1 (holding [Value.ref (val i)] (setAdd S (.ref (val i))) >>= _) _ _ s';refine zA (zT ?_);unfold setAdd;refine zT (zA (wpAny_pyHash_tuple hu (J i m) ?_));refine Aoz (s:={s' with toks:=s'.toks+((key i).length+1)}) a9 U hu (J i m) (by omega) λh' o' es' H t' y b sb D a3 a0 ag af=>?_;have a2:=Ad3 (prog:=prog) (w:=w) U f.d sb;refine zE ⟨plainId_quiet PyProof.Rows.F.plain_set_update_loop _,ih (i+1) _ o' es' H t' y (by omega) m (W.frame _ s' _ _ X (Nat.le_add_right _ _) λb Y ob e=>?_) D a3 (λj p=>a2 _ _ (J j p)) (λz=>?_) (λe E=>?_) λa4 o2 a7 ae t2 a5 a1 ac a8 ab a6=>?_⟩
  ·rw[sb.2 b (λh:b=S=>Q (by rw[<-h];exact Y))];exact e
  ·rw[a0 z,hm z];constructor
   ·rintro(⟨j,p,e⟩|e)
    ·exact⟨j,by omega,e⟩
    ·exact⟨i,by omega,e.symm⟩
   ·rintro⟨j,p,e⟩;by_cases c:j=i
    ·exact .inr (by rw[<-e,c])
    ·exact .inl ⟨j,by omega,e⟩
  ·rcases af e E with h|h
   ·exact N e h
   ·exact⟨i,m,h⟩
  ·refine hR a4 o2 a7 ae t2 a5 (Moved.trans W.gtrans ((u.mono B).then_heap (Nat.le_add_right _ _) λb ob Y e=>?_) a1) ac a8 ab a6;rw[sb.2 b (λh:b=S=>Y (by rw[h];exact Atk))];exact e
end SetW
namespace SetW
section
set_option maxHeartbeats 4000000 in
theorem Alq{l:NX}{val:Nat->NX}{key:Nat->List KS}{Q:NS}(hh:A.handled=none)(hu:A.units+100<cLine)(hl:s.heap.IsList l items)(hi:∀(i:Nat)(v:Nd),items[i]?=some v->v=.ref (val i))(hk:∀j,j<items.size->TK prog w s.heap (key j) (val j))(a0:∀l:List (List KS),l.Nodup->(∀z∈l,∃j,j<items.size/\key j=z)->l.length<64)
  (h:∀(h':Heap) (tk:Nat) o es ep t kl,h'.get? s.heap.objs.size=some o->TS prog w h' o es ep t kl->(∀z,z∈kl↔∃j,j<items.size/\key j=z)->(∀e∈es.toList,∃j,j<items.size/\e.2=.ref (val j)) ->
   (∀b o,s.heap.get? b=some o->h'.get? b=some o)->Q (.ref s.heap.objs.size) {s with heap:=h',toks:=tk}):wpAny (model prog w) A (call (.type "set") [.ref l]) Q E s:=by
 obtain⟨c,tl,ae⟩:=zX.mro;have N:=zX.made;have ab:=zX.sub;refine wpAny_call (codeAny_of_tree ?_);show wpAny _ _ (callAny (.type "set") _) _ _ _;refine zE ⟨Code.quiet_builtin _ Ap,codeAny_builtin F.entry_type_call ?_⟩;rw[Around.under_plain (weight_type_call_type "set" [.ref l] []) rfl];have h1:=zX.notType;have h2:=zX.canCreate;have ai:=F.typeCall_set_1 (.ref l)
 repeat (any_goals (first|assumption|wp_step))
 refine yQ (Aiu (.ref l) (E:=E) (Q₁:=λx s₁=>x=.ref s.heap.objs.size/\s₁={s with heap:=s.heap.push (frs w)}) ⟨rfl,rfl⟩) λr s₁ hr=>?_;cases r with
 |error e=>exact hr
 |ok fl =>
  cases fl with
  |ret x =>
   obtain⟨rfl,rfl⟩:=hr;have U:(s.heap.push (frs w)).get? s.heap.objs.size=some (frs w):=zD _ Z;have hT:Shared.TypeIs {s with heap:=s.heap.push (frs w)} (.ref s.heap.objs.size) "set":= ⟨_,U,rfl⟩;have ag:=zX.init.lookup;have aj:=zX.init.bind (.ref s.heap.objs.size)
   repeat (any_goals (first|assumption|wp_step))
   refine yQ (codeAny_call_builtin (R:=wants (λr m=>r=.none/\∃h' tk o es ep t kl,m={s with heap:=h',toks:=tk}/\h'.get? s.heap.objs.size=some o/\TS prog w h' o es ep t kl/\(∀z,z∈kl↔∃j,j<items.size/\key j=z)/\(∀e∈es.toList,∃j,j<items.size/\e.2=.ref (val j)) /\
     (∀b o,s.heap.get? b=some o->h'.get? b=some o)) E) zX.init.plain F.entry_set_init (check_set_init_1 hT ?_)) λD m a=>?_
   ·obtain⟨ol,B,G,nl,hdl⟩:=hl;obtain⟨aa,S,P,K⟩:=ol;simp only at G hdl;subst G hdl;have C:l<s.heap.objs.size:=yA B;obtain⟨h1,u⟩:∃h1,h1=s.heap.push (frs w):=⟨_,Z⟩;have J:h1.objs.size=s.heap.objs.size+1:=by rw[u,yG]
    have k1:∀b d,s.heap.get? b=some d->h1.get? b=some d:=λb d e=>by rw[u];exact zB _ e
    rw[<-u]at U hT ⊢;have f:=k1 _ _ B;have a8:h1.IsList l items:=⟨_,f,Z,nl,Z⟩;have ac:=F.sub_list_set;have af:=F.sub_list_frozenset;have ah:(Value.type "list" == Value.type "dict")=false:=Ab
    have X:h1.get? s.heap.objs.size=some {cls:=.type "set",dict:=none,data:=.set #[] 0 (.fresh 0 0 (!w.params.followText "set-order"))}:=U;unfold Builtin.«set.__init__» noKeywords Builtin.Frozenset.updateFrom;generalize L:pyIter=PI
    wp_walk
    subst L;refine wpAny_pyIter_list a8 ?_;obtain⟨h2,p⟩:∃h2,h2=h1.push {cls:=.type "list_iterator",data:=.fields #[.ref l,.int 0 0]}:=⟨_,Z⟩;show wpAny _ _ _ _ _ {s with heap:=h1.push {cls:=.type "list_iterator",data:=.fields #[.ref l,.int 0 0]} };rw[<-p];have k2:∀b d,h1.get? b=some d->h2.get? b=some d:=λb d e=>by rw[p];exact zB _ e
    have H:h2.IsListIter h1.objs.size l 0:=by rw[p];exact⟨_,zD _ Z,Z,Z⟩
    have a7:h2.IsList l items:=⟨_,k2 _ _ f,Z,nl,Z⟩;refine zA (wpAny_runValue ?_);have O:A.in1.in1.in1.handled=none:=by simp[hh]
    have y:l≠h1.objs.size:=by rw[J];exact Atb (At5 C)
    have Y:s.heap.objs.size∉[h1.objs.size,l]:=by
     simp only [Ati,Atl,yE,not_or];exact⟨by rw[J];exact Atb (Aty _),Atr C⟩
    have a9:∀j,j<items.size->TK prog w h2 (key j) (val j):=λj W=>by
     obtain⟨o',its',n',q1,r⟩:=hk j W;exact⟨o',its',n',k2 _ _ (k1 _ _ q1),r⟩
    have vw:∀j,j<items.size->val j∉[h1.objs.size]:=λj W=>by
     obtain⟨o',its',n',q1,r⟩:=hk j W;have:=yA q1;simp only [Ati,Atl,yE];rw[J];exact Atb (At5 this)
    refine Alp ((Walks.list O h1.objs.size l y items).toS) (by show A.units+1+1+1<cLine;lia) s.heap.objs.size Y val key (λi v hv=>hi i v hv) vw a0 (items.size-0) 0 _ _ #[] 0 _ [] As (Atg _) ⟨H,a7⟩ (k2 _ _ X) (TS.fresh _) a9 (λz=>At) (λe he=>by simp at he) λs' o es ep t kl I ho hI hm hp=>?_;obtain⟨h',g',d',T,a6⟩:=s';have eg:g'=s.gens:=I.gens;have ed:d'=s.drawn:=I.drawn;have eo:a6=s.os:=I.os;subst eg ed eo;show wpAny _ _ _ _ _ _;refine zE ?_;show wpAny _ _ (ret Value.none) _ _ _;refine zE ⟨Z,h',T,o,es,ep,t,kl,Z,ho,hI,hm,hp,λb d e=>?_⟩;have lb:=yA e;refine I.heap b d ?_ (k2 _ _ (k1 _ _ e));simp only [Ati,Atl,yE,not_or];exact⟨Atb lb,by rw[J];exact Atb (At5 lb)⟩
   ·cases D with
    |error e=>exact a
    |ok n =>
     cases n with
     |ret r =>
      obtain⟨rfl,h',tk,o,es,ep,t,kl,rfl,a1,a2,a3,a4,a5⟩:=a
      repeat (any_goals (first|assumption|wp_step))
      exact h _ _ o es ep t kl a1 a2 a3 a4 a5
     |_=>exact a.elim
  |_=>exact hr.elim
end
end SetW
open PySem PySem.W PySem.Spec PyProof.Rows
namespace SetW
def Up (lt:Nat->Nat->Bool)(p:Array Nat)(k:Nat):Prop:=∀i j,i<j->j<k->lt (p.getD i 0) (p.getD j 0)=true
def Pm (n:Nat)(p:Array Nat):Prop:=p.toList.Perm (List.range n)
theorem Pm.size(h:Pm n p):p.size=n:=by rw[<-zJ,h.length_eq,At1]
theorem Pm.lt(h:Pm n p)(hi:i<n):p.getD i 0<n:=by
 have hs:i<p.size:=by rw[h.size];exact hi
 have e:p.getD i 0=p[i]:=by simp[Array.getD,hs]
 rw[e];exact z5.mp (h.mem_iff.mp (by rw[Array.mem_toList_iff];exact Array.getElem_mem hs))
theorem Pm.ne{n i j:Nat}{p:Array Nat}(h:Pm n p)(hi:i<n)(a:j<n)(ne:i≠j):p.getD i 0≠p.getD j 0:=λe=>by
 have c:p.toList.Nodup:=h.nodup_iff.mpr Au2;have hs:=h.size;have e1:p.getD i 0=p.toList[i]'(by rw[zJ,hs];exact hi):=by simp[Array.getD,hs,hi]
 have b:p.getD j 0=p.toList[j]'(by rw[zJ,hs];exact a):=by simp[Array.getD,hs,a]
 rw[e1,b]at e;exact ne ((Auj c).mp e)
structure Cp (n:Nat)(lt:Nat->Nat->Bool)(cmp:Nat->Nat->(Bool->Na->Prop)->Na->Prop)(I:Na->Prop):Prop where
 ans:∀i j C s,i<n->j<n->i≠j->I s->C (lt i j) s->cmp i j C s
 tr:∀i j k,lt i j=true->lt j k=true->lt i k=true
 tot:∀i j,i<n->j<n->i≠j->lt i j=!lt j i
section
variable {lt:Nat->Nat->Bool}{cmp:Nat->Nat->(Bool->Na->Prop)->Na->Prop}{I:Na->Prop}
theorem Alr{k:Nat}(C:Cp n lt cmp I)(P:Pm n p)(hk:k<n)(k1:1<=k)(U:Up lt p k)(h:lt (p.getD k 0) (p.getD (k-1) 0)=false):Up lt p (k+1):=λi j a d=>by
 by_cases c:j<k
 ·exact U i j a c
 ·have e:j=k:=As
  subst e;have l:lt (p.getD (j-1) 0) (p.getD j 0)=true:=by
   rw[C.tot _ _ (P.lt As) (P.lt hk) (P.ne As hk As),h];rfl
  by_cases b:i=j-1
  ·rw[b];exact l
  ·exact C.tr _ _ _ (U i (j-1) As As) l
theorem Ad5(C:Cp n lt cmp I)(hs:I s){p:Array Nat}(P:Pm n p){Q:Nat->Na->Prop}:∀(f k:Nat),1<=k->k+f=n->Up lt p k->(∀m,k<=m->m<=n->Up lt p m->(m<n->lt (p.getD m 0) (p.getD (m-1) 0)=true)->Q m s)->(kas_asc p f k).kasWp cmp Q s
 | 0,k,k1,e,U,h=>h k (AsY _) As U λz=>As
 |f+1,k,k1,e,U,h=>by
  show cmp (p.getD k 0) (p.getD (k-1) 0) _ s;refine C.ans _ _ _ s (P.lt As) (P.lt As) (P.ne As As As) hs ?_;cases c:lt (p.getD k 0) (p.getD (k-1) 0) with
  |true=>exact h k (AsY _) As U λ_=>c
  |false=>exact Ad5 C hs P f (k+1) As As (Alr C P As k1 U c) λm i d b a=>h m As d b a
def Dn (lt:Nat->Nat->Bool)(p:Array Nat)(k:Nat):Prop:=∀i j,i<j->j<k->lt (p.getD j 0) (p.getD i 0)=true
theorem AeJ{k:Nat}(C:Cp n lt cmp I)(U:Dn lt p k)(k1:1<=k)(h:lt (p.getD k 0) (p.getD (k-1) 0)=true):Dn lt p (k+1):=λi j a d=>by
 by_cases c:j<k
 ·exact U i j a c
 ·have e:j=k:=As
  subst e;by_cases b:i=j-1
  ·rw[b];exact h
  ·exact C.tr _ _ _ h (U i (j-1) As As)
theorem AeK(C:Cp n lt cmp I)(hs:I s){p:Array Nat}(P:Pm n p){Q:Array Nat×Nat×Nat->Na->Prop}:∀(f k:Nat),1<=k->k+f=n->Dn lt p k->(∀m,k<=m->m<=n->Dn lt p m->Q (p,m,0) s)->(kas_desc f p k 0).kasWp cmp Q s
 | 0,k,k1,e,U,h=>h k (AsY _) As U
 |f+1,k,k1,e,U,h=>by
  show cmp (p.getD k 0) (p.getD (k-1) 0) _ s;have ne:=P.ne (i:=k) (j:=k-1) As As As;refine C.ans _ _ _ s (P.lt As) (P.lt As) ne hs ?_;cases c:lt (p.getD k 0) (p.getD (k-1) 0) with
  |true=>exact AeK C hs P f (k+1) As As (AeJ C U k1 c) λm l a b=>h m As a b
  |false =>
   show cmp (p.getD (k-1) 0) (p.getD k 0) _ s;refine C.ans _ _ _ s (P.lt As) (P.lt As) ne.symm hs ?_;have d:lt (p.getD (k-1) 0) (p.getD k 0)=true:=by
    rw[C.tot _ _ (P.lt As) (P.lt As) ne.symm,c];rfl
   rw[d];exact h k (AsY _) As U
theorem Vl{q:Array Nat}(h:p[i]?=q[j]?):p.getD i 0=q.getD j 0:=by rw[Array.getD_eq_getD_getElem?,Array.getD_eq_getD_getElem?,h]
theorem Ai3{m:Nat}(P:Pm n p):Pm n (kas_rev p 0 m):=(Array.perm_iff_toList_perm.mp (mirror_perm p 0 m _)).trans P
theorem Ao0{m:Nat}(P:Pm n p)(a:m<=n)(D:Dn lt p m):Up lt (kas_rev p 0 m) m:=λi j b c=>by
 have g:∀k,k<m->(kas_rev p 0 m).getD k 0=p.getD (m-1-k) 0:=λk hk=>by
  have e:=getElem?_mirror_all (xs:=p) (i:=0) (j:=m) (by rw[P.size];exact a) k;rw[z8 ⟨Atg _,hk⟩,AtC]at e;exact Vl e
 rw[g i As,g j c];exact D _ _ As As
theorem Als(C:Cp n lt cmp I)(hs:I s)(P:Pm n p){m:Nat}(b:1<=m)(a:m<=n)(D:Dn lt p m){Q:Nat×Array Nat->Na->Prop}(h:∀k q,1<=k->k<=n->Pm n q->Up lt q k->Q (k,q) s):(kas_tail3 m n p).kasWp cmp Q s:=by unfold kas_tail3;rw[KasT.kasWp_bind];exact Ad5 C hs (Ai3 P) (n-m) m b As (Ao0 P a D) λk k1 k2 k3 _=>h k _ As k2 (Ai3 P) k3
theorem VP(C:Cp n lt cmp I)(hs:I s)(n2:2<=n)(P:Pm n p){Q:Nat×Array Nat->Na->Prop}(h:∀k q,1<=k->k<=n->Pm n q->Up lt q k->Q (k,q) s):(kas_count n p).kasWp cmp Q s:=by
 unfold kas_count;rw[KasT.kasWp_bind];refine Ad5 C hs P (n-1) 1 (AsY _) As (λi j h1 h2=>As) λm b d a l=>?_;by_cases e:m=n
 ·subst e;rw[z8 At];exact h m p b (AsY _) P a
 ·rw[z7 (by simpa using e)];by_cases c:m>1
  ·rw[z8 c];show cmp (p.getD 0 0) (p.getD (m-1) 0) _ s;refine C.ans _ _ _ s (P.lt As) (P.lt As) (P.ne As As As) hs ?_;rw[a 0 (m-1) As As];exact h m p b d P a
  ·rw[z7 c];have e1:m=1:=As
   subst e1;unfold kas_descPart;rw[KasT.kasWp_bind];have f:Dn lt p (1+1):=AeJ C (λi j h1 h2=>As) (AsY _) (l As);refine AeK C hs P (n-(1+1)) (1+1) As As f λk k1 k2 k3=>?_;show KasT.kasWp cmp (if 0>0 then _ else kas_tail3 k n p) Q s;rw[z7 Ab];exact Als C hs P As k2 k3 h
theorem VR(C:Cp n lt cmp I)(hs:I s){p:Array Nat}(P:Pm n p){k:Nat}(hk:k<n)(U:Up lt p k){Q:Nat->Na->Prop}(h:∀l,l<=k->(∀i,i<l->lt (p.getD i 0) (p.getD k 0)=true)->(∀i,l<=i->i<k->lt (p.getD k 0) (p.getD i 0)=true)->Q l s) :
  ∀(f l r:Nat),l<=r->r<=k->r-l<=f->(∀i,i<l->lt (p.getD i 0) (p.getD k 0)=true)->(∀i,r<=i->i<k->lt (p.getD k 0) (p.getD i 0)=true)->(kas_place p k f l r).kasWp cmp Q s
 | 0,l,r,h1,h2,h3,a,b=>h l As a λi o m=>b i As m
 |f+1,l,r,h1,h2,h3,a,b=>by
  unfold kas_place;by_cases c:l ≥ r
  ·rw[z8 c];exact h l As a λi o m=>b i As m
  ·rw[z7 c];show cmp (p.getD k 0) (p.getD ((l+r) / 2) 0) _ s;have t:(l+r) / 2<k:=As
   have ne:=P.ne (i:=k) (j:=(l+r) / 2) hk As As;refine C.ans _ _ _ s (P.lt hk) (P.lt As) ne hs ?_;cases d:lt (p.getD k 0) (p.getD ((l+r) / 2) 0) with
   |true =>
    refine VR C hs P hk U h f l ((l+r) / 2) As As As a λi o m=>?_;by_cases e:i=(l+r) / 2
    ·rw[e];exact d
    ·exact C.tr _ _ _ d (U _ i As m)
   |false =>
    have d':lt (p.getD ((l+r) / 2) 0) (p.getD k 0)=true:=by
     rw[C.tot _ _ (P.lt As) (P.lt hk) ne.symm,d];rfl
    refine VR C hs P hk U h f ((l+r) / 2+1) r As h2 As (λi o=>?_) b;by_cases e:i=(l+r) / 2
    ·rw[e];exact d'
    ·exact C.tr _ _ _ (U i _ As t) d'
theorem Ao1{k d:Nat}(P:Pm n p):Pm n (bubble p k d):=(Array.perm_iff_toList_perm.mp (bubble_perm p k d)).trans P
theorem Ao2{k l:Nat}(P:Pm n p)(hk:k<n)(r:l<=k)(U:Up lt p k)(a:∀i,i<l->lt (p.getD i 0) (p.getD k 0)=true)(b:∀i,l<=i->i<k->lt (p.getD k 0) (p.getD i 0)=true):Up lt (bubble p k (k-l)) (k+1):=by
 have g:∀i,i<=k->(bubble p k (k-l)).getD i 0=if i<l then p.getD i 0 else if i=l then p.getD k 0 else p.getD (i-1) 0:=λi hi=>by
  have e:=getElem?_bubble (xs:=p) (src:=k) (by rw[P.size];exact hk) (k-l) As i;by_cases d:i<l
  ·rw[z8 d];rw[z7 As,z7 As]at e;exact Vl e
  ·rw[z7 d];by_cases c:i=l
   ·rw[z8 c];rw[z8 As]at e;exact Vl e
   ·rw[z7 c];rw[z7 As,z8 As]at e;exact Vl e
 intro i j f o;rw[g i As,g j As];by_cases d:j<l
 ·rw[z8 As,z8 d];exact U i j f As
 ·rw[z7 d];by_cases c:j=l
  ·rw[z8 c,z8 As];exact a i As
  ·rw[z7 c];by_cases m:i<l
   ·rw[z8 m];exact U i (j-1) As As
   ·rw[z7 m];by_cases h:i=l
    ·rw[z8 h];exact b (j-1) As As
    ·rw[z7 h];exact U (i-1) (j-1) As As
theorem Ai4(C:Cp n lt cmp I)(hs:I s){Q:Array Nat->Na->Prop}(h:∀q,Pm n q->Up lt q n->Q q s):∀(f:Nat)(p:Array Nat)(k:Nat),k+f=n->Pm n p->Up lt p k->(kas_bin f p k).kasWp cmp Q s
 | 0,p,k,e,P,U=>h p P (by rw[<-e];exact U)
 |f+1,p,k,e,P,U=>by
  unfold kas_bin;rw[KasT.kasWp_bind];refine VR C hs P As U (λl c a b=>?_) k 0 k (Atg _) (AsY _) As (λi q=>As) (λi d j=>As);exact Ai4 C hs h f _ (k+1) As (Ao1 P) (Ao2 P As c U a b)
theorem Aak(C:Cp n lt cmp I)(hs:I s)(n2:2<=n){Q:Array Nat->Na->Prop}(h:∀q,Pm n q->Up lt q n->Q q s):(kas_sort n).kasWp cmp Q s:=by
 unfold kas_sort;rw[KasT.kasWp_bind];refine VP C hs n2 (List.Perm.refl _) λk q k1 k2 P U=>?_
 try dsimp only
 by_cases c:k<n
 ·rw[z8 c,Nat.max_eq_left k1];exact Ai4 C hs h (n-k) q k As P U
 ·rw[z7 c];have e:k=n:=As
  subst e;exact h q P U
end
end SetW
end L2
set_option maxHeartbeats 1000000
namespace L2
open PySem PySem.W PySem.Calls PySem.Spec PyProof.Rows
variable {prog:Program}{w:World}{A:Around}{E:NS}{s:Na}{a:NX}{n ep:Nat}{vs:NR}{P:PySem.Fin->Na->Prop}{x y:T3}
namespace SetW
theorem Aal{lt:Nat->Nat->Bool}{κ:SortKind}(B:s.heap.get? a=some (seqObj "list" vs.toArray n)) (h2:2<=vs.length) (G:vs.length<64)
  (m:∀h':Heap,(∀b o,b≠a->s.heap.get? b=some o->h'.get? b=some o)->∀Q:SortKind->Na->Prop,Q κ {s with heap:=h'}->wpAny (model prog w) A (keyKind' vs.toArray) Q (λ_ _=>False) {s with heap:=h'})
  (u:∀h':Heap,(∀b o,b≠a->s.heap.get? b=some o->h'.get? b=some o)->∀(i j:Nat)(C:Bool->Na->Prop),i<vs.length->j<vs.length->i≠j->C (lt i j) {s with heap:=h'}->kas_ask prog w A κ vs i j C {s with heap:=h'})
  (tr:∀i j k,lt i j=true->lt j k=true->lt i k=true) (J:∀i j,i<vs.length->j<vs.length->i≠j->lt i j=!lt j i)
  (h:∀(h':Heap)(e:Nat)(q:Array Nat),(∀b o,b≠a->s.heap.get? b=some o->h'.get? b=some o)->s.heap.objs.size<=h'.objs.size->Pm vs.length q->Up lt q vs.length->h'.get? a=some (seqObj "list" (List.toArray (q.toList.map λi=>vs.getD i Value.none)) e)->P (.done (.ret .none)) {s with heap:=h'}) :
  wpAny (model prog w) A (Builtin.«list.sort» ⟨[.ref a],[]⟩) P E s:=by
 have ha:a<s.heap.objs.size:=yA B;have S:=Heap.SameBut.update s.heap a (Obj.mapSeq λ_=>(#[]:Array Nd));obtain⟨e1,v⟩:∃e1,(s.heap.update a (Obj.mapSeq λ_=>(#[]:Array Nd))).get? a=some (seqObj "list" #[] e1):=⟨_,get?_update_seq B λ_=>#[]⟩;obtain⟨H,D⟩:∃H,H=((s.heap.update a (Obj.mapSeq λ_=>(#[]:Array Nd))).push (seqObj "tuple" vs.toArray 0)).push (seqObj "list" #[] 0):=⟨_,Z⟩;have c:∀b o,b≠a->s.heap.get? b=some o->H.get? b=some o:=λb o z e=>by rw[D];exact zB _ (zB _ ((S.2 b z).trans e))
 have l:H.get? a=some (seqObj "list" #[] e1):=by rw[D];exact zB _ (zB _ v)
 have O:s.heap.objs.size<=H.objs.size:=by
  rw[D,yG,yG,Heap.size_update];lia
 rw[list_sort_plain];refine zA (listItems_at B Z ?_);refine zA (listUpdate_at B Z ?_ (by rw[Atd,zS];lia) (Atg _));refine zA (seqEpoch_at v Z ?_);refine zA (wpAny_newTuple ?_ (by show vs.length<=_;rw[zS];lia));refine zA (wpAny_newList ?_ (Atg _));refine zT ?_;show wpAny (model prog w) A _ P E {s with heap:=((s.heap.update a (Obj.mapSeq λ_=>(#[]:Array Nd))).push (seqObj "tuple" vs.toArray 0)).push (seqObj "list" #[] 0)};rw[<-D]
 try dsimp only
 have t:¬vs.toArray.size<2:=by rw[Atd];lia
 rw[z7 t,z7 t];refine zA (zO (m H c (λr s'=>r=κ/\s'={s with heap:=H}) ⟨rfl,rfl⟩) (λr s0 hk=>?_) λ_ _ x=>x.elim);obtain⟨rfl,rfl⟩:=hk;have f:(kas_sort vs.length).kasWp (kas_ask prog w A r vs) (λp s'=>s'={s with heap:=H}/\Pm vs.length p/\Up lt p vs.length) {s with heap:=H}:=
  Aak (lt:=lt) (I:=λs'=>s'={s with heap:=H}) ⟨λi j C s' hi hj ne hs hC=>by subst hs;exact u H c i j C hi hj ne hC,tr,J⟩ Z h2 λq P U=>⟨Z,P,U⟩;refine zA (zO (kat_run (Q:=λd s'=>∃p:Array Nat,p.size=vs.length/\arrOf d=p.map (kas_item (vs.toArray.zip vs.toArray))/\failedOf d=none/\s'={s with heap:=H}/\Pm vs.length p/\Up lt p vs.length)
  rfl h2 G (λp' d s' W T R a4=>⟨p',W,T,R,a4⟩) f) ?_ λ_ _ e=>e)
 rintro⟨⟨⟩,d⟩ s' ⟨p,Y,L,X,rfl,Pp,N⟩
 try dsimp only
 have y:=kat_snds Z L;have hsz:(List.toArray (p.toList.map λi=>vs.getD i Value.none)).size=vs.length:=by rw[Atd,AsZ,zJ,Y]
 rw[y];have s2:=Heap.SameBut.update H a (Obj.mapSeq λ_=>List.toArray (p.toList.map λi=>vs.getD i Value.none));obtain⟨K,F⟩:∃K,(H.update a (Obj.mapSeq λ_=>List.toArray (p.toList.map λi=>vs.getD i Value.none))).get? a=some (seqObj "list" (List.toArray (p.toList.map λi=>vs.getD i Value.none)) K):=⟨_,get?_update_seq l λ_=>List.toArray (p.toList.map λi=>vs.getD i Value.none)⟩;refine zA (seqEpoch_at l Z ?_);refine zA (listUpdate_at l Z ?_ (Atg _) (Atf (AtE hsz) (by rw[zS];lia)));rw[X];simp only [bne_self_eq_false,AtP,if_false];exact zE (h _ K p (λb o z e=>(s2.2 b z).trans (c b o z e)) (by rw[Heap.size_update];exact O) Pp N F)
end SetW
namespace SetW
abbrev T3:=Int×Int×Str
def CV (x:T3):List KS:=[.inl x.1,.inl x.2.1,.inr x.2.2]
theorem Wb(h:CV x=CV y):x=y:=by obtain⟨a,b,c⟩:=x;obtain⟨f,e,c'⟩:=y;unfold CV at h;simp only [List.cons.injEq,Sum.inl.injEq,Sum.inr.injEq,and_true]at h;obtain⟨h1,h2,d⟩:=h;rw[h1,h2,d]
def lt3 (x y:T3):Bool:=if x.1=y.1 then (if x.2.1=y.2.1 then decide (x.2.2.cps.toList<y.2.2.cps.toList) else decide (x.2.1<y.2.1)) else decide (x.1<y.1)
theorem Ad6(h:PySem.ItemsAre (Ak prog w) (CV x) vs):∃t u v,vs=[.int x.1 t,.int x.2.1 u,.str x.2.2 v]:=by
 unfold CV at h;cases h with
 |cons h1 h =>
  cases h with
  |cons h2 h =>
   cases h with
   |cons a h =>
    cases h;obtain⟨t,rfl⟩:=Cz h1;obtain⟨u,rfl⟩:=Cz h2;obtain⟨v,rfl⟩:=Ef a;exact⟨t,u,v,Z⟩
theorem Ao3{b:NX}(z:TK prog w s.heap (CV x) a)(C:TK prog w s.heap (CV y) b){Q:Bool->Na->Prop}(h:Q (lt3 x y) s):wpAny (model prog w) A (keyLt' (tuples' true) (.ref a) (.ref b)) Q E s:=by
 obtain⟨o,xs,n,B,hc,r,hi⟩:=z;obtain⟨o',ys,F,i,p,j,f⟩:=C;obtain⟨t,u,v,e⟩:=Ad6 hi;obtain⟨t',u',D,m⟩:=Ad6 f;refine kat_lt B r i j ?_;have sz:xs.size=3:=by rw[<-zJ,e];rfl
 have l:ys.size=3:=by rw[<-zJ,m];rfl
 rw[e,m,sz,l];unfold lt3 at h;refine kat_cons (wpAny_eqBool_int (kat_go (λq=>kat_yes ?_) λq=>kat_no ?_))
 ·have q:x.1=y.1:=by simpa using q
  rw[z8 q]at h;refine kat_cons (wpAny_eqBool_int (kat_go (λc=>kat_yes ?_) λc=>kat_no ?_))
  ·have c:x.2.1=y.2.1:=by simpa using c
   rw[z8 c]at h;refine kat_cons (wpAny_eqBool_str (kat_go (λd=>kat_yes (kat_nil ?_)) λd=>kat_no ?_))
   ·have d:x.2.2=y.2.2:=by simpa using d
    rw[d,decide_eq_false (List.lt_irrefl _)]at h;exact h
   ·exact kat_one _ _ (PyProof.Rows.lt_str h)
  ·have c:¬x.2.1=y.2.1:=by simpa using c
   rw[z7 c]at h;exact kat_one _ _ (PyProof.Rows.lt_int h)
 ·have q:¬x.1=y.1:=by simpa using q
  rw[z7 q]at h;exact oneLt_int h
theorem Vm:lt3 x y=true↔x.1<y.1\/(x.1=y.1/\(x.2.1<y.2.1\/(x.2.1=y.2.1/\x.2.2.cps.toList<y.2.2.cps.toList))):=by
 unfold lt3;by_cases h1:x.1=y.1
 ·rw[z8 h1];by_cases h2:x.2.1=y.2.1
  ·rw[z8 h2,decide_eq_true_eq];constructor
   ·exact λz=>.inr ⟨h1,.inr ⟨h2,z⟩⟩
   ·rintro(z|⟨_,z|⟨_,z⟩⟩)
    ·lia
    ·lia
    ·exact z
  ·rw[z7 h2,decide_eq_true_eq];constructor
   ·exact λz=>.inr ⟨h1,.inl z⟩
   ·rintro(z|⟨_,z|⟨z,_⟩⟩)
    ·lia
    ·exact z
    ·exact z9 z h2
 ·rw[z7 h1,decide_eq_true_eq];constructor
  ·exact λz=>.inl z
  ·rintro(z|⟨z,_⟩)
   ·exact z
   ·exact z9 z h1
theorem Ai5{z:T3}(h1:lt3 x y=true)(h2:lt3 y z=true):lt3 x z=true:=by
 rw[Vm]at *;rcases h1 with a|⟨a,b|⟨b,c⟩⟩
 ·rcases h2 with d|⟨d,_⟩
  ·exact .inl As
  ·exact .inl As
 ·rcases h2 with d|⟨d,e|⟨e,_⟩⟩
  ·exact .inl As
  ·exact .inr ⟨As,.inl As⟩
  ·exact .inr ⟨As,.inl As⟩
 ·rcases h2 with d|⟨d,e|⟨e,c'⟩⟩
  ·exact .inl As
  ·exact .inr ⟨As,.inl As⟩
  ·exact .inr ⟨As,.inr ⟨As,List.lt_trans c c'⟩⟩
theorem AeL(x:T3):lt3 x x=false:=by
 cases h:lt3 x x with
 |false=>rfl
 |true =>
  rcases Vm.mp h with a|⟨_,a|⟨_,a⟩⟩
  ·lia
  ·lia
  ·exact z9 a (List.lt_irrefl _)
theorem Alu(ne:x≠y):lt3 x y=!lt3 y x:=by
 cases h:lt3 x y with
 |true =>
  cases h':lt3 y x with
  |false=>rfl
  |true =>
   have:=Ai5 h h';rw[AeL]at this;cases this
 |false =>
  cases h':lt3 y x with
  |true=>rfl
  |false =>
   exfalso;have n1:¬_:=λz=>by rw[Vm.mpr z]at h;cases h
   have n2:¬_:=λz=>by rw[Vm.mpr z]at h';cases h'
   have e1:x.1=y.1:=by
    rcases Int.lt_trichotomy x.1 y.1 with c|c|c
    ·exact z9 (.inl c) n1
    ·exact c
    ·exact z9 (.inl c) n2
   have d:x.2.1=y.2.1:=by
    rcases Int.lt_trichotomy x.2.1 y.2.1 with c|c|c
    ·exact z9 (.inr ⟨e1,.inl c⟩) n1
    ·exact c
    ·exact z9 (.inr ⟨e1.symm,.inl c⟩) n2
   have e:x.2.2.cps.toList=y.2.2.cps.toList:=List.le_antisymm (List.not_lt.mp λz=>n2 (.inr ⟨e1.symm,.inr ⟨d.symm,z⟩⟩)) (List.not_lt.mp λz=>n1 (.inr ⟨e1,.inr ⟨d,z⟩⟩));apply ne;obtain⟨a,b,⟨c⟩⟩:=x;obtain⟨i,f,⟨c'⟩⟩:=y;have e:c=c':=Array.toList_inj.mp e;dsimp only at e1 d;rw[e1,d,e]
end SetW
namespace SetW
theorem Ai6(t:s.heap.get? a=some (seqObj "list" vs.toArray n)) (h2:vs.length<2)
  (h:∀(h':Heap)(e:Nat),(∀b o,b≠a->s.heap.get? b=some o->h'.get? b=some o)->s.heap.objs.size<=h'.objs.size->h'.get? a=some (seqObj "list" vs.toArray e)->P (.done (.ret .none)) {s with heap:=h'}) :
  wpAny (model prog w) A (Builtin.«list.sort» ⟨[.ref a],[]⟩) P E s:=by
 have v:=Heap.SameBut.update s.heap a (Obj.mapSeq λ_=>(#[]:Array Nd));obtain⟨e1,j⟩:∃e1,(s.heap.update a (Obj.mapSeq λ_=>(#[]:Array Nd))).get? a=some (seqObj "list" #[] e1):=⟨_,get?_update_seq t λ_=>#[]⟩;obtain⟨H,m⟩:∃H,H=((s.heap.update a (Obj.mapSeq λ_=>(#[]:Array Nd))).push (seqObj "tuple" vs.toArray 0)).push (seqObj "list" #[] 0):=⟨_,Z⟩;have d:∀b o,b≠a->s.heap.get? b=some o->H.get? b=some o:=λb o l e=>by rw[m];exact zB _ (zB _ ((v.2 b l).trans e))
 have c:H.get? a=some (seqObj "list" #[] e1):=by rw[m];exact zB _ (zB _ j)
 have u:s.heap.objs.size<=H.objs.size:=by
  rw[m,yG,yG,Heap.size_update];lia
 rw[list_sort_plain];refine zA (listItems_at t Z ?_);refine zA (listUpdate_at t Z ?_ (by rw[Atd,zS];lia) (Atg _));refine zA (seqEpoch_at j Z ?_);refine zA (wpAny_newTuple ?_ (by show vs.length<=_;rw[zS];lia));refine zA (wpAny_newList ?_ (Atg _));refine zT ?_;show wpAny (model prog w) A _ P E {s with heap:=((s.heap.update a (Obj.mapSeq λ_=>(#[]:Array Nd))).push (seqObj "tuple" vs.toArray 0)).push (seqObj "list" #[] 0)};rw[<-m]
 try dsimp only
 have f:vs.toArray.size<2:=by rw[Atd];lia
 rw[z8 f,z8 f];refine zA (zE (zA (zE ?_)))
 try dsimp only
 have i:(arrOf (SortSt.mk' general' (vs.toArray.zip vs.toArray) #[] 7 none)).map (·.2)=vs.toArray:=by
  show(vs.toArray.zip vs.toArray).map (·.2)=vs.toArray;apply Array.toList_inj.mp;rw[Array.toList_map,Array.toList_zip];exact List.map_snd_zip (AsY _)
 have y:failedOf (SortSt.mk' general' (vs.toArray.zip vs.toArray) #[] 7 none)=none:=rfl;rw[i];have x:=Heap.SameBut.update H a (Obj.mapSeq λ_=>vs.toArray);obtain⟨r,p⟩:∃r,(H.update a (Obj.mapSeq λ_=>vs.toArray)).get? a=some (seqObj "list" vs.toArray r):=⟨_,get?_update_seq c λ_=>vs.toArray⟩;refine zA (seqEpoch_at c Z ?_);refine zA (listUpdate_at c Z ?_ (Atg _) (by rw[Atd,zS];lia));simp only [bne_self_eq_false,AtP,if_false];exact zE (h _ r (λb o l e=>(x.2 b l).trans (d b o l e)) (by rw[Heap.size_update];exact u) p)
theorem kat_tups{h:Heap}:∀{l:List (NX×T3)},(∀q∈l,TK prog w h (CV q.2) q.1)->∃fs:NR,KatTups h (l.map λq=>Value.ref q.1) fs/\fs.length=l.length/\∀v∈fs,∃i t,v=Value.int i t
 |[],_=>⟨[],KatTups.nil,Z,λv b=>(by cases b)⟩
 |q::l,hq=>by
  obtain⟨fs,h1,h2,d⟩:=kat_tups (l:=l) λz a=>hq z (Ath _ a);obtain⟨o,xs,n,f,hc,c,hi⟩:=hq q Atk;obtain⟨t,u,v,e⟩:=Ad6 hi;refine⟨.int q.2.1 t::fs,KatTups.cons f hc c ?_ h1,by rw[At2,At2,h2],λz a=>?_⟩
  ·rw[<-zL,e];rfl
  ·rcases zZ.mp a with e|e
   ·exact⟨_,_,e⟩
   ·exact d z e
theorem Alv{l:List (NX×T3)}(I:s.heap.get? a=some (seqObj "list" (List.toArray (l.map λq=>Value.ref q.1)) n)) (G:l.length<64) (L:∀q∈l,TK prog w s.heap (CV q.2) q.1) (W:(l.map (·.2)).Nodup)
  (h:∀(h':Heap)(e:Nat)(l':List (NX×T3)),(∀b o,b≠a->s.heap.get? b=some o->h'.get? b=some o)->s.heap.objs.size<=h'.objs.size->l'.Perm l->l'.Pairwise (λx y=>lt3 x.2 y.2=true)->h'.get? a=some (seqObj "list" (List.toArray (l'.map λq=>Value.ref q.1)) e)->P (.done (.ret .none)) {s with heap:=h'}) :
  wpAny (model prog w) A (Builtin.«list.sort» ⟨[.ref a],[]⟩) P E s:=by
 have len:(l.map λq=>Value.ref q.1).length=l.length:=AsZ _;by_cases h2:l.length<2
 ·refine Ai6 I (by rw[len];exact h2) λh' e k sz g=>h h' e l k sz (List.Perm.refl _) ?_ g
  match l,h2 with
  |[],_=>exact List.Pairwise.nil
  |[q],_=>exact List.pairwise_singleton _ _
  |_::_::_,z=>simp at z;lia
 ·have ne:∀q∈l,q.1≠a:=λq p e=>by
   obtain⟨o,xs,J,m,D,Y,_⟩:=L q p;rw[e,I]at m;injection m with m;rw[<-m]at D;have D:Value.type "list"=Value.type "tuple":= D;exact z9 D Ab
  have H:∀h':Heap,(∀b o,b≠a->s.heap.get? b=some o->h'.get? b=some o)->∀q∈l,TK prog w h' (CV q.2) q.1:=λh' k q p=>by
   obtain⟨o,xs,J,m,r⟩:=L q p;exact⟨o,xs,J,k _ _ (ne q p) m,r⟩
  obtain⟨d⟩:Nonempty (NX×T3):=⟨((0:Nat),(0:Int),(0:Int),⟨#[]⟩)⟩;have f:∀i,i<l.length->(l.map λq=>Value.ref q.1).getD i Value.none=Value.ref (l.getD i d).1:=λi hi=>by simp[List.getD,hi]
  have mem:∀i,i<l.length->l.getD i d∈l:=λi hi=>by simp[List.getD,hi]
  refine Aal (lt:=λi j=>lt3 (l.getD i d).2 (l.getD j d).2) (κ:=tuples' true) I (by rw[len];lia) (by rw[len];exact G) (λh' k Q p=>?_) (λh' k i j C hi c u S=>?_) (λi j k=>Ai5) (λi j hi c u=>?_) λh' e q k sz B K g=>?_
  ·obtain⟨fs,O,f2,U⟩:=kat_tups (H h' k);refine kat_kind (T:=Value.type "int") O As (λv N=>?_) Ab p;obtain⟨i,t,rfl⟩:=U v N;exact λA Q E s _ q=>wpAny_typeOf (typeIs_int s i t) q
  ·rw[len]at hi c;unfold kas_ask;rw[f i hi,f j c];exact Ao3 (H h' k _ (mem i hi)) (H h' k _ (mem j c)) S
  ·rw[len]at hi c;refine Alu λe=>u ?_;have e1:(l.map (·.2))[i]?=some (l.getD i d).2:=by simp[List.getD,hi]
   have X:(l.map (·.2))[j]?=some (l.getD j d).2:=by simp[List.getD,c]
   exact(List.getElem?_inj (by rw[AsZ];exact hi) W).mp (by rw[e1,X,e])
  ·rw[len]at B K;have R:∀i∈q.toList,i<l.length:=λi hi=>z5.mp (B.mem_iff.mp hi);refine h h' e (q.toList.map λi=>l.getD i d) k sz ?_ ?_ ?_
   ·refine(B.map _).trans (List.Perm.of_eq ?_);refine Au3 (by rw[AsZ,At1]) λi h1 h2=>?_;rw[Au4,List.getElem_range];simp[List.getD,h2]
   ·rw[AtG,Au1];intro i j hi c F;have hs:=B.size;rw[zJ]at hi c;have:=K i j F (by rw[<-hs];exact c)
    simpa [Array.getD,hi,c]using this
   ·rw[g,AtD]
    congr 2
    refine congrArg List.toArray (AtU λi hi=>?_);rw[f i (R i hi)];rfl
end SetW
namespace SetW
theorem Ag9{o:Obj}{es:Array (Int×Nd)}{t:SetTable}{kl:List (List KS)}(T:TS prog w s.heap o es ep t kl)(ho:s.heap.get? a=some o)(hh:A.handled=none)(I:es.size<64)(h3:∀ks∈kl,∃x,ks=CV x){Q:NS}
  (hQ:∀(h':Heap) d (tk l e:Nat) (out:List (NX×T3)),(∀b o,s.heap.get? b=some o->h'.get? b=some o)->s.heap.objs.size<=l->h'.get? l=some (seqObj "list" (List.toArray (out.map λq=>Value.ref q.1)) e)->out.Pairwise (λx y=>lt3 x.2 y.2=true) ->
   (∀q∈out,TK prog w s.heap (CV q.2) q.1/\∃e∈es.toList,e.2=.ref q.1)->(∀x,CV x∈kl↔x∈out.map (·.2))->out.length=es.size->Q (.ref l) {s with heap:=h',drawn:=d,toks:=tk}):wpAny (model prog w) A (call (.builtin "sorted") [.ref a]) Q E s:=by
 have z:=AmE T.len T.el;have ex:∀e,e∈es.toList->∃q:NX×T3,e.2=.ref q.1/\TK prog w s.heap (CV q.2) q.1/\kyT prog w s.heap e=CV q.2:=λe c=>by
  obtain⟨i,hi,rfl⟩:=AtA c;obtain⟨ks,K,W,P,O,q4⟩:=T.el i es.toList[i] (by rw[<-zL,Atc hi]);obtain⟨x,rfl⟩:=h3 ks (Ato K);exact⟨(W,x),P,O,Ad4 ⟨W,P,O,q4⟩⟩
 classical
 obtain⟨f,G⟩:∃f:Int×Nd->NX×T3,∀e,e∈es.toList->e.2=.ref (f e).1/\TK prog w s.heap (CV (f e).2) (f e).1/\kyT prog w s.heap e=CV (f e).2:=
  ⟨λe=>if h:e∈es.toList then Classical.choose (ex e h) else ((0:Nat),(0:Int),(0:Int),⟨#[]⟩),λe c=>by dsimp only;rw[dif_pos c];exact Classical.choose_spec (ex e c)⟩;refine Calls.call_function_entry kind_sorted plain_sorted entry_sorted (args_sorted1 _) ?_;unfold Builtin.«sorted»;refine zA (m:=checkCount "sorted" 1 1 _) (zE (zA (AeB (A:=A.in1) T.wk ho hh (by rw[zS];lia) λxl s' n k Y B X=>?_)));obtain⟨h',g',d',p,a1⟩:=s';dsimp only at k Y B X;subst Y B;have L:xl.length=es.size:=by rw[n.length_eq,zJ]
 have C:∀e∈xl,e∈es.toList:=λe c=>n.mem_iff.mp c;have N:xl.map (·.2)=(xl.map f).map λq=>Value.ref q.1:=by
  rw[AtD];exact AtU λe c=>(G e (C e c)).1
 have u:xl.map (kyT prog w s.heap)=((xl.map f).map (·.2)).map CV:=by
  rw[AtD,AtD];exact AtU λe c=>(G e (C e c)).2.2
 have S:((xl.map f).map (·.2)).Nodup:=by
  have n1:(xl.map (kyT prog w s.heap)).Nodup:=(n.map _).nodup_iff.mpr (by rw[<-z];exact T.nd);rw[u,List.Nodup,AtG]at n1;exact n1.imp λh e=>h (by rw[e])
 have J:∀q∈xl.map f,TK prog w s.heap (CV q.2) q.1/\∃e∈es.toList,e.2=.ref q.1:=λq D=>by
  obtain⟨e,c,rfl⟩:=zY.mp D;exact⟨(G e (C e c)).2.1,e,C e c,(G e (C e c)).1⟩
 rw[N];obtain⟨l0,F⟩:∃l0,l0=xl.map f:=⟨_,Z⟩;rw[<-F]at S J u ⊢;have j:l0.length=es.size:=by rw[F,AsZ,L]
 have v:(h'.push (seqObj "list" (List.toArray (l0.map λq=>Value.ref q.1)) 0)).get? h'.objs.size=some (seqObj "list" (List.toArray (l0.map λq=>Value.ref q.1)) 0):=zD _ Z;have U:∀b H,s.heap.get? b=some H->(h'.push (seqObj "list" (List.toArray (l0.map λq=>Value.ref q.1)) 0)).get? b=some H:=λb H e=>zB _ (k _ _ e);refine zA (wpAny_newList (hsz:=by rw[AsZ,j,zS];lia) ?_);show wpAny _ _ _ _ _ {s with heap:=h'.push (seqObj "list" (List.toArray (l0.map λq=>Value.ref q.1)) 0),drawn:=d',toks:=p};refine zA (zT (yL slot_list_sort ⟨_,v,Z⟩ entry_list_sort (Alv (s:={s with heap:=h'.push (seqObj "list" (List.toArray (l0.map λq=>Value.ref q.1)) 0),drawn:=d',toks:=p}) v (by rw[j];exact I) (λq D=>?_) S λh2 e l' k2 a0 P2 U2 g2=>⟨_,Z,zE ⟨_,Z,?_⟩⟩) (args_list_sort _)))
 ·obtain⟨o',its,n',K,r⟩:=(J q D).1;exact⟨o',its,n',U _ _ K,r⟩
 ·refine hQ h2 d' p h'.objs.size e l' (λb H R=>?_) X g2 U2 (λq D=>J q (P2.mem_iff.mp D)) (λx=>?_) (by rw[P2.length_eq,j])
  ·exact k2 _ _ (Atb (yA (k _ _ R))) (U _ _ R)
  ·rw[(P2.map (·.2)).mem_iff,z,<-(n.map (kyT prog w s.heap)).mem_iff,u];constructor
   ·intro h;obtain⟨y,hy,e⟩:=zY.mp h;rw[<-Wb e];exact hy
   ·exact λh=>zY.mpr ⟨x,h,Z⟩
end SetW
open PySem PySem.Spec PyProof.Rows
section
variable {X:Cx}{K:NA}{p1 p2 pos1 pos2:Pos}{e:Expr}{te:TE}
def v3 (x:SetW.T3):Nn:=[.int x.1,.int x.2.1,.str x.2.2]
theorem Inv.tk{pins:NF}{σ:St}{H:Hp}(I:Inv X pins σ H s){x:SetW.T3}(h:SqT X.K H a (v3 x))(prog:Program)(w:World):SetW.TK prog w s.heap (SetW.CV x) a:=by
 obtain⟨its,r,⟨o,i,hc,n,c⟩,_⟩:=I.tuple h;refine⟨o,its.toArray,n,i,hc,c,?_⟩;unfold v3 at r;cases r with
 |cons e r =>
  cases r with
  |cons d r =>
   cases r with
   |cons f r =>
    cases r;obtain⟨t1,rfl⟩:=e;obtain⟨b,rfl⟩:=d;obtain⟨t3,rfl⟩:=f;have k1:(SetW.Ak prog w).is (.inl x.1) (.int x.1 t1)=true:=intKind_is prog w x.1 t1;have k2:(SetW.Ak prog w).is (.inl x.2.1) (.int x.2.1 b)=true:=intKind_is prog w x.2.1 b;have k3:(SetW.Ak prog w).is (.inr x.2.2) (.str x.2.2 t3)=true:=strKind_is prog w x.2.2 t3;exact .cons k1 (.cons k2 (.cons k3 .nil))
inductive Ab5 (K:NA)(Q:VK)(x:V)(H1:Hp):Prop
|mk(a:NX)(l:List (NX×SetW.T3))(_:x=.ref a)(_:SqL K H1 a (l.map λq=>V.ref q.1))(_:(∀q∈l,SqT K H1 q.1 (v3 q.2)))(_:(∀ds:List SetW.T3,ds.Nodup->(∀z∈ds,z∈l.map (·.2))->ds.length<64))(_:∀(b:NX)(l':List (NX×SetW.T3)),(∀q∈l',q∈l)->l'.Pairwise (λx y=>SetW.lt3 x.2 y.2=true)->(∀z,z∈l'.map (·.2)↔z∈l.map (·.2))->H1 b=none->Q (.ref b) (upd H1 b (.lst (l'.map λq=>V.ref q.1))))
def Y0 (K:NA)(te:TE)(σ:St)(H:Hp)(Q:VK):Prop:=te σ H (Ab5 K Q)
theorem Ab6(ab:Gl X "sorted") (a4:X.mg "sorted"=none) (p:Gl X "set") (a7:X.mg "set"=none) (hu:X.A.units+100<cLine) (he:PE X e te) (hK:X.K=K:=by rfl) (hc:X.calm=true:=by rfl)
  (J:starEach [e] X.env=(false,eval e X.env)::starEach [] X.env:=by rfl)
  (N:starEach [.Call (.Name "set" p2) [e] [] pos2] X.env=(false,eval (.Call (.Name "set" p2) [e] [] pos2) X.env)::starEach [] X.env:=by rfl)
  (a9:(backTo pos1 (starEach [] X.env)).any (·.1)=false:=by rfl) (a3:(backTo pos2 (starEach [] X.env)).any (·.1)=false:=by rfl) :
  PE X (.Call (.Name "sorted" p1) [.Call (.Name "set" p2) [e] [] pos2] [] pos1) (Y0 K te):=by
 subst hK;intro pins s σ H Q I h;have hsz:sizeLine=16777216:=zS;refine yH (Ck I ab a4 Gs ?_ Ab Ab);refine PyProof.Rows.callWith_builtin1 ?_ N a9;rw[N];show wpAny _ _ (spliced ((false,eval (.Call (.Name "set" p2) [e] [] pos2) X.env)::backTo pos1 (starEach [] X.env))) _ _ s;refine yP ?_;refine yH (Ck I p a7 Aia ?_ Ab Ab);refine yC ?_ J a3;rw[J];show wpAny _ _ (spliced ((false,eval e X.env)::backTo pos2 (starEach [] X.env))) _ _ s;refine yP (thn (he pins s σ H _ I h) λu s1 ⟨x,H1,P,r1,a,l,ex,R,ht,a2,q⟩=>?_);subst ex;cases r1;refine yR ?_;obtain⟨its,r,pl,D⟩:=P.list R;have B:its.length=l.length:=by have:=r.length;rw[AsZ]at this;lia
 obtain⟨n⟩:Nonempty (NX×SetW.T3):=⟨((0:Nat),(0:Int),(0:Int),⟨#[]⟩)⟩;have lg:∀i,i<l.length->l[i]?=some (l.getD i n):=λi hi=>by simp[List.getD,hi]
 have mem:∀i,i<l.length->l.getD i n∈l:=λi hi=>Ato (lg i hi);have hi:∀(i:Nat)(v:Nd),its.toArray[i]?=some v->v=.ref (l.getD i n).1:=λi v hv=>by
  have O:its[i]?=some v:=by simpa using hv
  have W:i<l.length:=by rw[<-B];exact(zC.mp O).1
  obtain⟨u,e1,e2⟩:=r.get (i:=i) (x:=V.ref (l.getD i n).1) (by rw[Atn,lg i W];rfl);rw[O]at e1;injection e1 with e1;rw[e1];exact e2
 have f:its.toArray.size=l.length:=by rw[Atd,B]
 have E:∀L:List (List SetW.KS),L.Nodup->(∀z∈L,∃j,j<its.toArray.size/\SetW.CV (l.getD j n).2=z)->L.length<64:=λL nL G=>by
  have ex:∀z∈L,∃x:SetW.T3,SetW.CV x=z/\x∈l.map (·.2):=λz D=>by
   obtain⟨j,m,e⟩:=G z D;exact⟨_,e,zY.mpr ⟨_,mem j (by rw[<-f];exact m),Z⟩⟩
  have:∃ds:List SetW.T3,ds.map SetW.CV=L/\∀x∈ds,x∈l.map (·.2):=by
   clear nL G
   induction L with
   |nil=>exact⟨[],Z,λx hx=>by cases hx⟩
   |cons z L U =>
    obtain⟨ds,T,d2⟩:=U λy hy=>ex y (Ath _ hy);obtain⟨x,x1,x2⟩:=ex z Atk;exact⟨x::ds,by rw[Atw,T,x1],λy hy=>(zZ.mp hy).elim (λe=>by rw[e];exact x2) (d2 y)⟩
  obtain⟨ds,T,d2⟩:=this;rw[<-T,AsZ];refine a2 ds ?_ d2;rw[<-T,List.Nodup,AtG]at nL;exact nL.imp λh e=>h (by rw[e])
 refine SetW.Alq (items:=its.toArray) (val:=λi=>(l.getD i n).1) (key:=λi=>SetW.CV (l.getD i n).2) (I.ok.hd hc) hu pl.isList hi (λj m=>P.tk (ht _ (mem j (by rw[<-f];exact m))) _ _) E λh' tk o es ep t kl go Y gm gp gk=>?_;refine yR ?_;have a0:es.size<64:=by
  rw[<-Y.len];exact E kl Y.nd λz D=>(gm z).mp D
 refine SetW.Ag9 (s:={s1 with heap:=h',toks:=tk}) Y go (I.ok.hd hc) a0 (λks a6=>?_) λh2 d a8 b aa out k2 a5 p hU hT hM G=>?_
 ·obtain⟨j,_,e⟩:=(gm ks).mp a6;exact⟨_,e.symm⟩
 ·have F:s1.heap.objs.size<=b:=Ats (Ate (yA go) a5);have sub:∀q∈out,q∈l:=λq R=>by
   obtain⟨q1,e,he,e2⟩:=hT q R;obtain⟨j,m,C⟩:=gp e he;rw[f]at m;rw[e2]at C;injection C with C;have a1:=P.tk (ht _ (mem j m)) X.prog X.w;have S:SetW.TK X.prog X.w h' (SetW.CV (l.getD j n).2) (l.getD j n).1:=by
    obtain⟨o',ac,n',z1,z2⟩:=a1;exact⟨o',ac,n',gk _ _ z1,z2⟩
   rw[<-C]at S;have:=SetW.Wb (IsTupleKey.inj q1 S);have e3:q=l.getD j n:=by
    obtain⟨qa,qx⟩:=q;exact Prod.ext C this
   rw[e3];exact mem j m
  have same:∀z,z∈out.map (·.2)↔z∈l.map (·.2):=λz=>by
   rw[<-hM z,gm];constructor
   ·rintro⟨j,m,e⟩;rw[f]at m;rw[<-SetW.Wb e];exact zY.mpr ⟨_,mem j m,Z⟩
   ·intro D;obtain⟨q,R,e⟩:=zY.mp D;obtain⟨j,m,C⟩:=AtA R;refine⟨j,by rw[f];exact m,?_⟩;have:l.getD j n=q:=by rw[<-C];simp[List.getD,m]
    show SetW.CV (l.getD j n).2=SetW.CV z;rw[this,e]
  refine⟨.ref b,_,(P.laid (t':=a8) (h':=h2) (a:=b) (o:=.lst (out.map λq=>V.ref q.1)) (λc u e=>k2 _ _ (gk _ _ e)) F ?_).drew,Z,q b out sub hU same (P.hok.fresh F)⟩;refine⟨by rw[AsZ,G];lia,out.map λq=>Value.ref q.1,aa,?_,?_⟩
  ·clear p hU hT hM G sub same
   induction out with
   |nil=>exact .nil
   |cons q out U=>exact .cons Z U
  ·rw[p]
end
end L2
set_option maxHeartbeats 4000000
namespace Stab
open PySem PyProof.Rows
def V (xs:Array Keyed)(i:Nat):Int:=match xs[i]? with
 |some p=>numOf p.2
 |none=>0
theorem HF{xs ys:Array Keyed}{i j:Nat}(h:xs[i]?=ys[j]?):V xs i=V ys j:=by unfold V;rw[h]
def Lx (xs:Array Keyed)(i j:Nat):Prop:=K xs i<K xs j\/(K xs i=K xs j/\V xs i<V xs j)
def St (xs:Array Keyed)(k:Nat):Prop:=∀i j,i<j->j<k->Lx xs i j
def De (xs:Array Keyed)(k:Nat):Prop:=∀i j,i<j->j<k->Lx xs j i
def Inc (xs:Array Keyed):Prop:=∀i j,i<j->j<xs.size->V xs i<V xs j
structure SB (a₀:Array Keyed)(st:SortSt)(k:Nat):Prop where
 base:SBase a₀ st
 tail:∀j,k<=j->(arrOf st)[j]?=a₀[j]?
 low:∀i,i<k->∃i',i'<k/\(arrOf st)[i]?=a₀[i']?
section
variable {a₀:Array Keyed}{st:SortSt}{k:Nat}
theorem SB.up(h:SB a₀ st k){b:Nat}(hk:k<=b):SB a₀ st b:=
 ⟨h.base,λj d=>h.tail j (Atf hk d),λi hi=>by
  by_cases a:i<k
  ·obtain⟨c,h1,h2⟩:=h.low i a;exact⟨c,Ate h1 hk,h2⟩
  ·exact⟨i,hi,h.tail i (Nat.le_of_not_lt a)⟩⟩
theorem SB.vlt(h:SB a₀ st k)(a:Inc a₀){i j:Nat}(hi:i<k)(b:k<=j)(hs:j<a₀.size):V (arrOf st) i<V (arrOf st) j:=by obtain⟨c,h1,h2⟩:=h.low i hi;rw[HF h2,HF (h.tail j b)];exact a c j (Ate h1 b) hs
theorem SB.mir(h:SB a₀ st k)(hk:k<=a₀.size){i j:Nat}(c:j<=k):SB a₀ (setArr st (mirror (arrOf st) i j ((j-i) / 2))) k:=by
 have b:j<=(arrOf st).size:=by rw[h.base.size];lia
 refine⟨h.base.setArr (mirror_perm _ _ _ _),λx a=>?_,λx a=>?_⟩
 ·rw[getElem?_mirror_all b,z7 As];exact h.tail x a
 ·rw[getElem?_mirror_all b];by_cases hc:i<=x/\x<j
  ·rw[z8 hc];exact h.low _ As
  ·rw[z7 hc];exact h.low _ a
theorem SB.bub(h:SB a₀ st k)(hk:k<a₀.size){d:Nat}(b:d<=k):SB a₀ (setArr st (bubble (arrOf st) k d)) (k+1):=by
 have c:k<(arrOf st).size:=by rw[h.base.size];exact hk
 have h':=h.up (Atq k);refine⟨h.base.setArr (bubble_perm _ _ _),λx a=>?_,λx a=>?_⟩
 ·rw[getElem?_bubble c d b,z7 As,z7 As];exact h'.tail x a
 ·rw[getElem?_bubble c d b];by_cases h1:x=k-d
  ·rw[z8 h1];exact h'.low _ (Aty k)
  ·rw[z7 h1];by_cases h2:k-d<x/\x<=k
   ·rw[z8 h2];exact h'.low _ As
   ·rw[z7 h2];exact h'.low _ a
end
theorem Gx{xs:Array Keyed}{i j:Nat}(a:j<=xs.size)(k:Nat):V (mirror xs i j ((j-i) / 2)) k=if i<=k/\k<j then V xs (i+j-1-k) else V xs k:=by
 have e:=getElem?_mirror_all (i:=i) a k;by_cases h1:i<=k/\k<j
 ·rw[z8 h1]at e ⊢;exact HF e
 ·rw[z7 h1]at e ⊢;exact HF e
theorem Ab7{xs:Array Keyed}{src d:Nat}(hs:src<xs.size)(a:d<=src)(k:Nat) :
  V (bubble xs src d) k=if k=src-d then V xs src else if src-d<k/\k<=src then V xs (k-1) else V xs k:=by
 have e:=getElem?_bubble hs d a k;by_cases h1:k=src-d
 ·rw[z8 h1]at e ⊢;exact HF e
 ·rw[z7 h1]at e ⊢;by_cases h2:src-d<k/\k<=src
  ·rw[z8 h2]at e ⊢;exact HF e
  ·rw[z7 h2]at e ⊢;exact HF e
structure Dr (xs:Array Keyed)(x neq:Nat):Prop where
 le:neq+1<=x
 fst:∀i j,i<j->j<x-(neq+1)->Lx xs j i
 snd:∀i j,i<x-(neq+1)->x-(neq+1)<=j->j<x->K xs j<K xs i
 run:∀i j,x-(neq+1)<=i->i<j->j<x->K xs i=K xs j/\V xs i<V xs j
section
variable {xs:Array Keyed}{x neq:Nat}
theorem Dr.rev(h:Dr xs x neq)(a:x<=xs.size):De (mirror xs (x-(neq+1)) x ((x-(x-(neq+1))) / 2)) x:=by
 intro i j b m;obtain⟨h1,h2,f,d⟩:=h;unfold Lx;rw[K_mirror a,K_mirror a,Gx a,Gx a];by_cases n:x-(neq+1)<=i
 ·rw[z8 As,z8 As,z8 As,z8 As];obtain⟨e1,e⟩:=d (x-(neq+1)+x-1-j) (x-(neq+1)+x-1-i) As As As;exact .inr ⟨e1,e⟩
 ·rw[z7 (c:=_<=i/\_) As,z7 (c:=_<=i/\_) As];by_cases l:x-(neq+1)<=j
  ·grind
  ·rw[z7 As,z7 As];exact h2 i j b As
theorem Dr.one(h:Dr xs x 0):De xs x:=by
 intro i j a d;obtain⟨h1,h2,b,e⟩:=h;by_cases c:j<x-(0+1)
 ·exact h2 i j a c
 ·exact .inl (b i j As As d)
theorem De.next(h:De xs x)(h1:1<=x)(l:K xs x<K xs (x-1)):Dr xs (x+1) 0:=by
 refine⟨As,λi j a f=>h i j a As,λi j hi c e=>?_,λi j hi a f=>As⟩;have d:j=x:=As
 subst d;by_cases b:i=j-1
 ·simp_all
 ·have:= h i (j-1) As As;unfold Lx at this;lia
theorem Dr.eq(h:Dr xs x neq)(n:K xs x=K xs (x-1))(o:∀i,i<x->V xs i<V xs x):Dr xs (x+1) (neq+1):=by
 obtain⟨h1,h2,d,m⟩:=h;have ep:x+1-(neq+1+1)=x-(neq+1):=As
 refine⟨As,λi j a c=>h2 i j a As,λi j hi e l=>?_,λi j hi a c=>?_⟩
 ·by_cases c:j<x
  ·exact d i j As As c
  ·have f:j=x:=As
   rw[f,n];exact d i (x-1) As As As
 ·by_cases b:j<x
  ·exact m i j As a b
  ·grind
theorem St.all(h:St xs x)(hk:¬K xs 0<K xs (x-1)):∀i,i<x->K xs i=K xs (x-1)/\(∀j,i<j->j<x->V xs i<V xs j):=by
 have c:∀i,i<x->K xs i=K xs (x-1):=λi hi=>by
  have f:K xs 0<=K xs i:=by
   by_cases b:i=0
   ·rw[b];exact AtY _
   ·have:= h 0 i As hi;unfold Lx at this;lia
  have l:K xs i<=K xs (x-1):=by
   by_cases b:i=x-1
   ·rw[b];exact AtY _
   ·have:= h i (x-1) As As;unfold Lx at this;lia
  lia
 refine λi hi=>⟨c i hi,λj a d=>?_⟩;have:= h i j a d;have e1:=c i hi;have e:=c j d;unfold Lx at this;lia
end
section
variable {prog:Program}{w:World}{A:Around}{E:NS}{s:Na}{a₀:Array Keyed}
theorem Ai7{st:SortSt}{a b:Nat}{Q:AscSt->SortSt->Prop}(p:IntKeys a₀)(l:Inc a₀)(hn:b<=a₀.size)(z:1<=a)(r:a<=b)(hB:SB a₀ st a)
  (hs:St (arrOf st) a) (h:∀n,a<=n->n<=b->St (arrOf st) n->(n=b\/K (arrOf st) n<K (arrOf st) (n-1))->Q (none,n) st) :
  wpS (model prog w) A E s (ascLoop a b) Q st:=by
 refine wpS_forRange (I:=λx c d=>d=st/\c=(none,x)/\St (arrOf st) x) ?step ?fin ⟨Z,Z,hs⟩
 case fin =>
  grind
 case step =>
  rintro x c d f u ⟨rfl,rfl,q⟩;refine wpS_bind (wpS_ltK hB.base p As As ?_);by_cases m:K (arrOf d) x<K (arrOf d) (x-1)
  ·simp only [m];exact wpS_pure (h x f As q (.inr m))
  ·simp only [m];refine wpS_pure ⟨Z,Z,λi j e y=>?_⟩;by_cases o:j<x
   ·exact q i j e o
   ·have t:j=x:=As
    subst t;have v:=(hB.up f).vlt l e (AsY j) As;have B:K (arrOf d) i<=K (arrOf d) (j-1):=by
     by_cases hi:i=j-1
     ·rw[hi];exact AtY _
     ·have:= q i (j-1) As As;unfold Lx at this;lia
    unfold Lx;lia
theorem Ab8{st:SortSt}{n a:Nat}{Q:Option Nat->SortSt->Prop}(l:IntKeys a₀)(d:Inc a₀)(hn:a<=a₀.size)(h1:1<=n)(e:n<=a)(hB:SB a₀ st n)
  (hs:De (arrOf st) n) (h:∀m st',SB a₀ st' m->1<=m->m<=a->St (arrOf st') m->Q (some m) st') :
  wpS (model prog w) A E s (tail3 n a) Q st:=by
 have c:n<=(arrOf st).size:=by rw[hB.base.size];lia
 refine wpS_bind (wpS_reverse ?_);have b:=hB.mir As (i:=0) (AsY n);refine wpS_bind (Ai7 l d hn h1 e b ?_ λm r p f _=>wpS_pure (h m _ (b.up r) As p f));intro i j o t;unfold Lx;rw[K_mirror c,K_mirror c,Gx c,Gx c,z8 As,z8 As,z8 As,z8 As];exact hs _ _ As As
theorem Alw{st:SortSt}{n e:Nat}{Q:DescSt->SortSt->Prop}(p:IntKeys a₀)(j:Inc a₀)(hn:e<=a₀.size)(u:n<=e)(hB:SB a₀ st n)
  (hs:Dr (arrOf st) n 0) (h:∀m neq a,SB a₀ a m->n<=m->m<=e->Dr (arrOf a) m neq->Q (none,m,neq) a) :
  wpS (model prog w) A E s (descLoop n e) Q st:=by
 refine wpS_forRange (I:=λx c a=>∃q,c=(none,x,q)/\SB a₀ a x/\Dr (arrOf a) x q) ?step ?fin ⟨0,Z,hB,hs⟩
 case fin =>
  grind
 case step =>
  rintro x c a l v ⟨q,rfl,b,d⟩;have y:=d.le;have o:x<=(arrOf a).size:=by rw[b.base.size];lia
  try dsimp only
  refine wpS_bind (wpS_ltK b.base p As As ?_);by_cases f:K (arrOf a) x<K (arrOf a) (x-1)
  ·simp only [f,if_true];by_cases r:q>0
   ·rw[z8 r];refine wpS_bind (wpS_reverse (wpS_pure ⟨0,Z,(b.mir As (AsY x)).up (Atq x),De.next (d.rev o) As ?_⟩));rw[K_mirror o,K_mirror o,z7 As,z8 As];have:= (d.run (x-(q+1)+x-1-(x-1)) (x-1) As As As).1;rw[this];exact f
   ·rw[z7 r];have eq:q=0:=As
    subst eq;exact wpS_pure ⟨0,Z,b.up (Atq x),d.one.next As f⟩
  ·simp only [f];refine wpS_bind (wpS_ltK b.base p As As ?_);by_cases t:K (arrOf a) (x-1)<K (arrOf a) x
   ·simp only [t];exact wpS_pure (h x q a b l As d)
   ·simp only [t];exact wpS_pure ⟨q+1,Z,b.up (Atq x),d.eq As λi hi=>b.vlt j hi (AsY x) As⟩
theorem Sx{st:SortSt}{n a:Nat}{Q:Option Nat->SortSt->Prop}(i:IntKeys a₀)(e:Inc a₀)(hn:a<=a₀.size)(f:n+1<=a)(hB:SB a₀ st (n+1))
  (hs:Dr (arrOf st) (n+1) 0) (h:∀m c,SB a₀ c m->1<=m->m<=a->St (arrOf c) m->Q (some m) c) :
  wpS (model prog w) A E s (descPart n a) Q st:=by
 refine wpS_bind (wpS_lift (wpAny_rule ⟨Z,?_⟩));refine wpS_bind (Alw i e hn f hB hs λm q c b p j d=>?_)
 try dsimp only
 have o:m<=(arrOf c).size:=by rw[b.base.size];lia
 by_cases l:q>0
 ·rw[z8 l];exact wpS_bind (wpS_reverse (Ab8 i e hn As j (b.mir As (AsY m)) (d.rev o) h))
 ·have eq:q=0:=As
  subst eq;exact Ab8 i e hn As j b d.one h
theorem Ab9{st:SortSt}{a:Nat}{Q:Option Nat->SortSt->Prop}(l:IntKeys a₀)(b:Inc a₀)(hn:a<=a₀.size)(h1:1<=a)(hB:SB a₀ st 0)
  (h:∀m st',SB a₀ st' m->1<=m->m<=a->St (arrOf st') m->Q (some m) st') :
  wpS (model prog w) A E s (countRun' 0 a) Q st:=by
 rw[countRun0_eq];have f:=hB.up (Atg 1);refine wpS_bind (Ai7 l b hn (AsY 1) h1 f (λi j d u=>As) λn n1 n2 q t=>?_)
 try dsimp only
 have o:=f.up n1;have c:n<=(arrOf st).size:=by rw[hB.base.size];lia
 by_cases e:n=a
 ·rw[z8 (by simpa using e)];exact wpS_pure (h n st o n1 n2 q)
 ·rw[z7 (by simpa using e)];have v:=t.resolve_left e;by_cases g:n>1
  ·rw[z8 g];refine wpS_bind (wpS_ltK hB.base l As As ?_);by_cases r:K (arrOf st) 0<K (arrOf st) (n-1)
   ·simp only [r];exact wpS_pure (h n st o n1 n2 q)
   ·simp only [r];have p:=q.all r;have x:=o.mir As (i:=0) (AsY n);refine wpS_bind (wpS_reverse (Sx l b hn As (x.up (Atq n)) (De.next ?_ n1 ?_) h))
    ·intro i j d u;unfold Lx;rw[K_mirror c,K_mirror c,Gx c,Gx c,z8 As,z8 As,z8 As,z8 As];refine .inr ⟨?_,(p _ As).2 _ As As⟩;rw[(p _ As).1,(p (0+n-1-i) As).1]
    ·rw[K_mirror c,K_mirror c,z7 As,z8 As,(p (0+n-1-(n-1)) As).1];exact v
  ·have e1:n=1:=As
   subst e1;exact Sx l b hn As (o.up (Atq 1)) (De.next (λi j d u=>As) (AsY 1) v) h
theorem AgA{st:SortSt}{n ok:Nat}{Q:Bool->SortSt->Prop}(G:IntKeys a₀)(u:Inc a₀)(hn:n<=a₀.size)(J:1<=ok)(S:ok<=n)(hB:SB a₀ st ok)(hs:St (arrOf st) ok)
  (h:∀a,SB a₀ a n->St (arrOf a) n->Q true a):wpS (model prog w) A E s (binarySort' 0 n ok) Q st:=by
 rw[binarySort'_eq];simp only [AtC];have O:max ok 1=ok:=As
 rw[O];refine wpS_bind (wpS_mono (wpS_forRange (I:=λk c a=>c=(none,())/\SB a₀ a k/\St (arrOf a) k) (Q:=λc a=>c=(none,())/\SB a₀ a n/\St (arrOf a) n) ?step ?fin ⟨Z,hB,hs⟩) ?post)
 case post =>
  rintro c a ⟨rfl,b,q⟩;exact wpS_pure (h a b q)
 case fin =>
  grind
 case step =>
  rintro k c a L N ⟨rfl,b,q⟩;have hk:k<a₀.size:=As
  have le:∀i j,i<=j->j<k->K (arrOf a) i<=K (arrOf a) j:=λi j m C=>by
   by_cases e:i=j
   ·rw[e];exact AtY _
   ·have:= q i j As C;unfold Lx at this;lia
  refine wpS_bind (wpS_mono (wpS_forRange (I:=λx c d=>d=a/\∃l r,c=(none,l,r)/\l<=r/\r<=k/\r-l<=k-x /\
    (∀i,i<l->K (arrOf a) i<=K (arrOf a) k)/\(∀i,r<=i->i<k->K (arrOf a) k<K (arrOf a) i))
   (Q:=λc d=>d=a/\∃l,c=(none,l,l)/\l<=k/\(∀i,i<l->K (arrOf a) i<=K (arrOf a) k)/\(∀i,l<=i->i<k->K (arrOf a) k<K (arrOf a) i)) ?istep ?ifin
   ⟨Z,0,k,Z,As,As,As,λi hi=>As,λi h1 h2=>As⟩) ?ipost)
  case ifin =>
   rintro c d ⟨rfl,l,r,rfl,v,f,R,lo,hi⟩;have e:l=r:=As
   subst e;exact⟨Z,l,Z,f,lo,hi⟩
  case istep =>
   rintro x c d _ T ⟨rfl,l,r,rfl,v,f,R,lo,hi⟩
   try dsimp only
   by_cases g:l ≥ r
   ·rw[z8 g];have e:l=r:=As
    subst e;exact wpS_pure ⟨Z,l,Z,f,lo,hi⟩
   ·rw[z7 g];refine wpS_bind (wpS_ltK b.base G hk As ?_);by_cases t:K (arrOf d) k<K (arrOf d) ((l+r) / 2)
    ·simp only [t];exact wpS_pure ⟨Z,l,(l+r) / 2,Z,As,As,As,lo,λi h1 h2=>Int.lt_of_lt_of_le t (le _ _ h1 h2)⟩
    ·simp only [t];exact wpS_pure ⟨Z,(l+r) / 2+1,r,Z,As,As,As,λi h1=>Aui (le i ((l+r) / 2) As As) (Int.not_lt.mp t),hi⟩
  case ipost =>
   rintro c d ⟨rfl,l,rfl,H,lo,hi⟩;show wpS _ _ _ _ (do moveDown' k l;pure (ForInStep.yield (none,()))) _ _;rw[moveDown'_eq];refine wpS_bind (wpS_modify (wpS_pure ⟨Z,b.bub hk As,?_⟩));have p:k<(arrOf d).size:=by rw[b.base.size];exact hk
   intro i j m C;have e:k-(k-l)=l:=As
   have U:∀x,x<k->V (arrOf d) x<V (arrOf d) k:=λx P=>b.vlt u P (AsY k) hk;unfold Lx;rw[K_bubble p As,K_bubble p As,Ab7 p As,Ab7 p As,e];by_cases B:i=l
   ·grind
   ·rw[z7 B,z7 B];by_cases o:l<i/\i<=k
    ·have D:¬j=l:=As
     have F:l<j/\j<=k:=As
     rw[z8 o,z8 o,z7 D,z7 D,z8 F,z8 F];exact q _ _ As As
    ·rw[z7 o,z7 o];by_cases z:j=l
     ·grind
     ·rw[z7 z,z7 z];by_cases y:l<j/\j<=k
      ·grind
      ·rw[z7 y,z7 y];exact q _ _ m As
theorem AbA{st:SortSt}{Q:Unit->SortSt->Prop}(z:IntKeys a₀)(n:Inc a₀)(hB:SBase a₀ st)(same:arrOf st=a₀)(h2:2<=a₀.size)(t:a₀.size<64)
  (h:∀a,(arrOf a).Perm a₀->failedOf a=none->St (arrOf a) a₀.size->Q () a):wpS (model prog w) A E s sortRuns' Q st:=by
 rw[sortRuns'_eq];refine wpS_bind (wpS_get ?_)
 try dsimp only
 have u:minRun' a₀.size a₀.size 0=a₀.size:=by
  obtain⟨f,G⟩:∃f,a₀.size=f+1:=⟨a₀.size-1,As⟩;have e:minRun' (f+1) a₀.size 0=a₀.size:=by rw[minRun'_succ,z8 t];rfl
  rwa [<-G]at e
 have L:SB a₀ st 0:=⟨hB,λj _=>by rw[same],λi hi=>As⟩;have o:∀a,SB a₀ a a₀.size->St (arrOf a) a₀.size ->
   (arrOf (setPending a ((pendingOf a).push (0,a₀.size,0)))).Perm a₀/\failedOf (setPending a ((pendingOf a).push (0,a₀.size,0)))=none/\(pendingOf (setPending a ((pendingOf a).push (0,a₀.size,0)))).size=1/\St (arrOf (setPending a ((pendingOf a).push (0,a₀.size,0)))) a₀.size:=λa b q =>
  ⟨b.base.perm,b.base.failed,by rw[b.base.pend];rfl,q⟩;simp only [hB.size,u];refine wpS_bind (wpS_mono (wpS_forRange
  (I:=λx c a=>(x=0/\c=(none,0)/\SB a₀ a 0)\/(1<=x/\c=(none,a₀.size)/\(arrOf a).Perm a₀/\failedOf a=none/\(pendingOf a).size=1/\St (arrOf a) a₀.size))
  (Q:=λc a=>c=(none,a₀.size)/\(arrOf a).Perm a₀/\failedOf a=none/\(pendingOf a).size=1/\St (arrOf a) a₀.size) ?step ?fin (.inl ⟨Z,Z,L⟩)) ?post)
 case fin =>
  rintro c a (⟨H,_,_⟩|⟨_,hc,l⟩)
  ·lia
  ·exact⟨hc,l⟩
 case step =>
  rintro x c a _ H (⟨rfl,rfl,b⟩|⟨F,rfl,l⟩)
  ·rw[z7 As];simp only [Nat.sub_zero,Nat.min_self,AtC];refine wpS_bind (Ab9 z n (AsY _) As b λm d r O K B=>?_)
   try dsimp only
   by_cases p:m<a₀.size
   ·rw[z8 p];refine wpS_bind (wpS_lift (wpAny_rule ⟨Z,?_⟩));refine wpS_bind (AgA z n (AsY _) O K r B λy C D=>?_);refine wpS_bind (wpS_get ?_);have v:(pendingOf y).back?=none:=by rw[C.base.pend];rfl
    rw[v];exact wpS_bind (wpS_modify (wpS_pure (.inr ⟨As,Z,o _ C D⟩)))
   ·rw[z7 p];have J:m=a₀.size:=As
    subst J;refine wpS_bind (wpS_get ?_);have v:(pendingOf d).back?=none:=by rw[r.base.pend];rfl
    rw[v];exact wpS_bind (wpS_modify (wpS_pure (.inr ⟨As,Z,o _ r B⟩)))
  ·rw[z8 (AsY _)];exact wpS_pure ⟨Z,l⟩
 case post =>
  rintro c a ⟨rfl,l⟩;refine wpS_bind (wpS_mono (wpS_forRange (I:=λ_ c d=>d=a/\c=(none,())) ?_ (λ_ _ N=>N) ⟨Z,Z⟩) ?_)
  ·rintro x c d _ _ ⟨rfl,rfl⟩;refine wpS_bind (wpS_get ?_);rw[z8 (by rw[l.2.2.1];exact AsY 1)];exact wpS_pure ⟨Z,Z⟩
  ·rintro c d ⟨rfl,rfl⟩;exact wpS_pure (h _ l.1 l.2.1 l.2.2.2)
end
end Stab
namespace L2
open PySem PySem.Spec PyProof.Rows
variable {H H':Hp}{P prog:Program}{a c' f cc r z i1 i2 it:NX}{xs:Nn}{pos AgB p1 apos tp px:Pos}{c j n e1 n0 t' n1 n2 i kx:Nat}{b cd:Nd}{w:World}{h h':Heap}{X:Cx}{pins:NF}{σ:St}{s s₁:Na}{ps Nc zs N:NU}{acc vs:Array Nd}{params:Arguments}{body e o iter elt:Expr}{scope:Scope}{E:NS}{A:Around}{x nm y m qual:Str}{u Aw:NL}{Q:NW->Na->Prop}{t:Tok}{items ds us:NR}{ns:NV}{te:TE}{mg mb:Str->NW}{CX:CXT}{sp:Sp}{es ifs:List Expr}{ta:TA}{pl:Sem Bool}{fp1 fp2:NO}{P1 P2:Nat->Nd->Prop}{S1 S2:Nat->Heap->Prop}{S:Src}{wi:TI}{tc:TT}
def cdO (c:NX)(q:Str):HO:=.ext λh=>h.CodeRec (.ref c) q
def Tb (P:NX)(q:Str)(H:Hp):Prop:=∃ps:Array Nd,H P=some (.tbl ps)/\TriplesOk ps.toList/\∀(pos:Pos)(cv:Nd),codeAmong pos ps.toList=some cv->∃c,cv=.ref c/\H c=some (cdO c q)
def Ai (H H':Hp):Prop:=∀b o,H b=some o->(∀ps,o≠.tbl ps)->H' b=some o
theorem Ca.toT(s:Ca H H'):Ai H H':=λb o h _=>s b o h
theorem Ai.trans{H1 H2:Hp}(a:Ai H H1)(b:Ai H1 H2):Ai H H2:=λc o h n=>b c o (a c o h n) n
theorem Tb.same{P:NX}{q:Str}(t:Tb P q H)(s:Ca H H'):Tb P q H':=by obtain⟨ps,h1,h2,b⟩:=t;refine⟨ps,s _ _ h1,h2,λpos a e=>?_⟩;obtain⟨c,e1,d⟩:=b pos a e;exact⟨c,e1,s _ _ d⟩
theorem Ai.lst(s:Ai H H')(h:H a=some (.lst xs)):H' a=some (.lst xs):=s a _ h λ_ z=>HO.noConfusion z
theorem Ai.tup(s:Ai H H')(h:H a=some (.tup xs)):H' a=some (.tup xs):=s a _ h λ_ z=>HO.noConfusion z
theorem Ai.ext(s:Ai H H'){b:Heap->Prop}(h:H a=some (.ext b)):H' a=some (.ext b):=s a _ h λ_ z=>HO.noConfusion z
theorem Ai.seq{K:NA}(s:Ai H H')(h:SqL K H a xs):SqL K H' a xs:=by
 rcases h with (h|⟨o,h⟩)|h
 ·exact .inl (.inl (s.lst h))
 ·exact .inl (.inr ⟨o,s a _ h λ_ z=>HO.noConfusion z⟩)
 ·exact .inr h
theorem Ai.free(s:Ai H H'){l:NX}{o:HO}(h:H' l=none):H l=none\/∃ps,H l=some (.tbl ps):=by
 cases q:H l with
 |none=>exact .inl Z
 |some o =>
  by_cases e:∃ps,o=.tbl ps
  ·simp_all
  ·exfalso;have:= s l o q λps z=>e ⟨ps,z⟩;rw[h]at this;cases this
theorem Ad7{pos':Pos}{c d:Nd}(l:NR)(h:TriplesOk l):codeAmong pos' (l++[rawInt pos.line,rawInt pos.col,c])=some d->codeAmong pos' l=some d\/d=c:=by
 fun_induction TriplesOk l with
 |case1 =>
  intro e;simp only [Auh,codeAmong,rawInt]at e;split at e
  ·exact .inr (yB e).symm
  ·cases e
 |case2 a t b u x rest f =>
  intro e;simp only [List.cons_append,codeAmong]at e ⊢;split at e
  ·rename_i hc;rw[z8 hc];exact .inl e
  ·rename_i hc;rw[z7 hc];exact f h e
 |case3 l h1 h2=>exact h.elim
theorem Ao5{c:NX}{q:Str}(r:h.CodeRec (.ref c) q):BV P w H h c (cdO c q):=by obtain⟨c',o,vs,t,e,g,d,v⟩:=id r;cases e;refine⟨r,⟨o,g⟩,λh1 h2 i k=>?_⟩;obtain⟨m,o2,a,l,f,g2,j,b⟩:=i;cases f;exact⟨c,o2,a,l,Z,k _ g2,j,b⟩
theorem Inv.table{tk:Nat}{P:NX}{q:Str}{ps a:Array Nd}(I:Inv X pins σ H s)(d:H P=some (.tbl ps))(j:Heap.ExtBut P s.heap h')(hsz:s.heap.objs.size<=c')
  (p:h'.CodeRec (.ref c') q) (i:h'.get? P=some (W.tabObj (ps++a))) :
  Inv X pins σ (upd (upd H P (.tbl (ps++a))) c' (cdO c' q)) {s with heap:=h',toks:=tk}:=by
 have f:∀b,H b=none->b≠P:=λb n e=>Au
 have hc:=I.hok.fresh hsz;have w:=f c' hc;have lt:∀b o,s.heap.get? b=some o->b≠c':=λb o e z=>z9 (yA e) Au;have l:∀b u,H b=some u->b≠c':=λb u e z=>Au
 have up:∀b,b≠P->b≠c'->upd (upd H P (.tbl (ps++a))) c' (cdO c' q) b=H b:=λb n1 n2=>by rw[Af n2,Af n1]
 refine I.step (ch:=[]) (λ_ z=>nomatch z) (λb o _ _ _ e n=>j b o (f b n) e) (λb o _ _ _ e n=>⟨o.slots,j b o (f b n) e⟩) (λb o _ e n=>by rw[up b (f b n) (lt b o e)];exact n)
  (λb o _ e=>?_) (λb xs e=>?_) (λb o u e=>?_) (λb y e=>?_) (λm x=>x.extBut j (f _ I.free)) (λb u e=>?_) I.bare
 ·by_cases h:b=P
  ·rw[h];exact⟨_,i⟩
  ·exact⟨o,j b o h e⟩
 ·rw[up b (λz=>by rw[z,d]at e;cases e) (l b _ e)];exact e
 ·rw[up b (λz=>by rw[z,d]at e;cases e) (l b _ e)];exact e
 ·by_cases h:b=P
  ·rw[h,d]at e;cases e;exact⟨a,by rw[h,Af (yD w),Ad]⟩
  ·exact⟨#[],by rw[up b h (l b _ e),e];simp⟩
 ·by_cases h1:b=c'
  ·rw[h1,Ad]at e;cases e;rw[h1];exact Ao5 p
  ·rw[Af h1]at e;by_cases h2:b=P
   ·rw[h2,Ad]at e;cases e;rw[h2];exact i
   ·rw[Af h2]at e;refine(I.hok b u e).stay (λc v t r=>j c v ?_ r) (λc r=>?_) λc xs r=>?_
    ·rcases t with z|z
     ·rw[z];exact h2
     ·intro A;rw[A,d]at z;cases z
    ·rw[up c (λz=>by rw[z,d]at r;cases r) (l c _ r)];exact r
    ·rw[up c (λz=>by rw[z,d]at r;cases r) (l c _ r)];exact r
def Bm (mg:Str->NW)(base:Heap):Prop:=∃bm ob,mg "__builtins__"=some (.ref bm)/\bm≠builtinsNs/\base.get? bm=some ob/\ob.cls=.type "module" /\ ob.dict=some builtinsNs/\ob.data=.plain
theorem Ai8{P c:NX}{q:Str}{l:List (Str×NX)}{R:NS}
  (I:Inv X pins σ H s) (tb:Tb P q H) (a:X.env.code=.ref c) (C:W.CodeHd X.base c P) (B:Bm X.mg X.base) (hq:X.env.qual ++ "<lambda>"=q)
  (L:defaultsOf params X.env=([],[])) (D:closureFor scope X.env=pure l)
  (k:∀(f c':NX)(pm i:Nd)(H':Hp)(s':Na),Ai H H'->Tb P q H'->H' c'=some (cdO c' q)->s.heap.objs.size<=s'.heap.objs.size ->
   Inv X ((f,W.kla_obj "<lambda>" q params body scope l pm c' i)::pins) σ H' s'->R (.ref f) s') :
  wpAny (model X.prog X.w) A (eval (.Lambda params body scope AgB) X.env) R E s:=by
 refine W.kla_eval L ?_;rw[hq];obtain⟨ps,m,K,hc⟩:=tb;have gP:=I.hok P _ m;obtain⟨bm,ob,b1,b2,b3,b4,b5,b6⟩:=B;have Q:mainGlobals≠P:=λe=>by
  obtain⟨o,es,ep,g,d,_⟩:=I.mod.glob;have z:=(I.bs _ _ g).2;rw[e,m]at z;cases z
 have S:bm≠P:=λe=>by
  have z:=(I.bs _ _ b3).2;rw[e,m]at z;cases z
 have T:bm≠mainGlobals:=λe=>by
  obtain⟨o,es,ep,g,d,_⟩:=I.mod.glob;grind
 have hB:s.heap.BuiltinsAt X.mg P:=⟨bm,ob,b1,b2,T,S,I.bk _ _ b3,b4,b5,b6⟩;have hG:=I.mod.glob.keeps I.bk;have r:∀(H':Hp)(h':Heap)(tk:Nat)(o:Obj),o.isFreed=false->(∀v,o.data≠.cell v)->s.heap.objs.size<=h'.objs.size->Inv X pins σ H' {s with heap:=h',toks:=tk} ->
   Inv X ((h'.objs.size,o)::pins) σ H' {s with heap:=h'.push o,toks:=tk}:=λH' h' tk o hfr hd hsz J=>by
  have J2:Inv X pins σ H' {s with heap:=h'.push o,toks:=tk}:=J.kept λb u e=>zB _ e;refine J2.DY λp O=>?_;rcases zZ.mp O with rfl|O
  ·exact⟨zD _ hfr,J.hok.fresh (AsY _),Atr (Ate I.lt hsz),I.Anh hsz,hd⟩
  ·exact J2.pin p (Atx _ O)
 have y:∀(h':Heap)(o:Obj),s.heap.objs.size<=h'.objs.size->s.heap.objs.size<=(h'.push o).objs.size:=λh' o h=>by rw[yG];exact Nat.le_succ_of_le h
 cases e:codeAmong AgB ps.toList with
 |none =>
  refine W.kla_makeFunction D I.ok.glob hG a (C.keeps I.bk) gP K e Q hB λc' i h' tk hx j x F N=>?_;have J:=I.table (tk:=tk) m hx j F N;have t:=I.hok.fresh j;have nP:P≠c':=λz=>Au
  refine k _ c' _ i _ _ (λb o h n=>?_) ⟨_,by rw[Af nP,Ad],?_,λpos cv e2=>?_⟩ Ad (y h' _ (Ats (AtS j x))) (r _ h' tk _ Z (λv z=>by cases z) (Ats (AtS j x)) J)
  ·rw[Af (λz=>by rw[z,t]at h;cases h),Af (λz=>by rw[z,m]at h;exact n _ (yB h).symm)];exact h
  ·rw[Array.toList_append];exact TriplesOk_snoc _ _ _ _ K
  ·rw[Array.toList_append]at e2;rcases Ad7 _ K e2 with e3|e3
   ·obtain⟨U,z1,G⟩:=hc _ _ e3;exact⟨U,z1,by rw[Af (λz=>by rw[z,t]at G;cases G),Af (λz=>by rw[z,m]at G;cases G)];exact G⟩
   ·exact⟨c',e3,Ad⟩
 |some cv =>
  obtain⟨U,rfl,Y⟩:=hc _ _ e;refine W.kla_makeFunctionHit D I.ok.glob hG a (C.keeps I.bk) gP K e hB λi h' tk hk hsz=>?_;exact k _ U _ i H _ (Ca.refl H).toT ⟨ps,m,K,hc⟩ Y (y h' _ hsz) (r H h' tk _ Z (λv z=>by cases z) hsz (I.kept hk))
def AqW (X:Cx)(A:Around)(N:NU)(env:Env)(s:Na)(H:Hp):Cx where
 prog:=X.prog
 w:=X.w
 K:=X.K
 mg:=X.mg
 base:=X.base
 A:=A.deeper env
 N:=N
 s₀:=s
 H₀:=H
 env:=env
 outer:=X.stack
 stack:=env::X.stack
 ex:=[]
 calm:=true
 fn:=λ_=>false
 pn:=[]
 xe:=λ_ _=>False
theorem Ai9{q:Str}{pm a0 u:Nd}{y v:V}{Q:VK}{t:TE}
  (I:Inv X pins σ H s) (hA:A.frames=some X.stack) (hd:A.handled=none) (L:A.depth<recursionLimit)
  (hf:(f,W.kla_obj "<lambda>" q params body scope [(nm,cc)] pm c' a0)∈pins) (hc:H c'=some (cdO c' q))
  (hN:X.N[j]?=some nm) (hv:σ[j]?=some (some v)) (hk:X.env.kindOf nm=some .cell) (Y:X.env.cells.lookup nm=some cc)
  (l:scope.names=[(x,.local),(nm,.free)]) (a4:x≠nm) (F:scope.kind=.function) (a3:scope.isCoroutine=false) (S:scope.isGenerator=false)
  (K:∀w:Nd,bindArgs (W.kla_fn "<lambda>" q params body scope [(nm,cc)] pm (.ref c') a0) ⟨[w],[]⟩=pure [(x,w)])
  (ru:RelV y u) (hb:∀(env:Env)(s:Na)(H:Hp),env.scope=scope->PE (AqW X A [x,nm] env s H) body t) (h:t [some y,some v] H Q) :
  wpAny (model X.prog X.w) A (call (.ref f) [u]) (EP X pins σ Q) E s:=by
 have T:scope.names.lookup x=some .local:=by rw[l];simp
 have a2:scope.names.lookup nm=some .free:=by rw[l,At4,beq_false_of_ne (yD a4)];simp
 have a5:=I.pin _ (Atx _ hf);have P:=(I.hok c' _ hc).1;have vis:Vis X.env.scope nm:=.inr (.inl hk);obtain⟨m,a7,hl⟩:=I.loc;obtain⟨u',rv,lk⟩:=hl j nm v hN hv vis;have D:s.heap.IsCell cc (some u'):=by
  rcases lk with ⟨z,_⟩|⟨_,c2,C,z⟩
  ·simp_all
  ·rw[Y]at C;cases C;exact z
 refine wpAny_call (yQ (R:=λr s'=>match r with|.ok (.ret u)=>EP X pins σ Q u s'|_=>False)
  (W.kla_callFunE L a5.1 Z a3 S Z P ?_) λr s' hq=>?_)
 ·rw[K u];refine zE (wpAny_newFunctionEnv (λp G=>?_) (λp G=>?_) (λh₁ hn U=>⟨I.nolimit.fresh _ U,?_⟩) F)
  ·rw[l]at G;rcases zZ.mp G with rfl|G
   ·simp_all
   ·simp_all
  ·rw[zF.mp G];exact T
  ·have B:=λb o e=>U.extBut b o (Atb (yA e)) (zB _ e);have one:∀z c,([(nm,cc)]:List (Str×NX)).lookup z=some c->z=nm/\c=cc:=λz c e=>by
    rw[At4]at e;cases hz:z == nm with
    |true=>grind
    |false=>grind
   have J:Inv (AqW X A [x,nm] (W.envX q scope s.heap.objs.size f (.ref c') [(nm,cc)]) s H) [] [some y,some v] H {s with heap:=h₁,toks:=s.toks+[(x,u)].length}:=by
    refine⟨⟨I.ok.mod,F,Z,Z,AsY _,λa b c e1 C=>(one _ _ e1).1.trans (one _ _ C).1.symm,λz hz=>?_,λz c e1 C=>Bool.noConfusion e1,λ_=>hd,Around.frames_deeper hA,.inr ⟨Z,Z⟩,
     λb z=>z9 (show b∈([]:NO) from z) At,I.bs,Atf I.ok.bsz I.sz,λb _ _ z=>z9 (show b∈([]:NO) from z) At,λb z=>z9 (show b∈([]:NO) from z) At,I.stack,I.Vb⟩,
     rfl,I.bare,Un.kept B,⟨_,hn,λi n v' e1 C e3=>?_⟩,λz c e=>?_,I.hok.fresh (AsY _),λz c e=>?_,λp G=>z9 (show p∈([]:NF) from G) At,I.hok.kept B,Z⟩
    ·have a1:scope.names.lookup z=some .cell\/scope.names.lookup z=some .free:=hz;have O:=a1.imp zP zP;rw[l]at O;have a6:z=nm:=by
      rcases O with O|O
      ·rcases zZ.mp O with e|e
       ·cases e
       ·cases zF.mp e
      ·rcases zZ.mp O with e|e
       ·cases e
       ·exact(Prod.mk.inj (zF.mp e)).1
     exact⟨cc,by rw[a6];show([(nm,cc)]:List (Str×NX)).lookup nm=_;simp⟩
    ·match i,e1,C with
     | 0,e1,C =>
      cases e1;cases C;exact⟨u,ru,.inl ⟨T,At⟩⟩
     | 1,e1,C =>
      cases e1;cases C;obtain⟨o,g,d⟩:=D;exact⟨u',rv,.inr ⟨.inr a2,cc,by show([(nm,cc)]:List (Str×NX)).lookup nm=_;simp,o,B _ _ g,d⟩⟩
     |i+2,e1,C=>cases e1
    ·obtain⟨o,g,d⟩:=D;rw[(one z c e).2];exact⟨some u',o,B _ _ g,d⟩
    ·rw[(one z c e).2];exact I.Dm nm cc Y
   refine W.kla_codeExpr (zO (hb (W.envX q scope s.heap.objs.size f (.ref c') [(nm,cc)]) s H Z [] _ [some y,some v] H Q J h) (λu2 s' hq=>?_) λ_ _ z=>z.elim);obtain⟨v',H',J',r',q'⟩:=hq;exact I.after ⟨v',H',J'.os,J'.bare,J'.base,J'.hok,r',q'⟩
 ·grind
theorem AbB{Q:NR->Na->Prop}{a b c:Int}{u v:Tok}(G:A.handled=none)(C:IsRange s.heap r a b c t u v)(m:Builtin.Range.small a b c=true)
  (hn:Builtin.Range.rangeSize a b c=n) (B:n<=2 ^ 24)
  (D:∀h' tk acc,(∀b o,s.heap.get? b=some o->h'.get? b=some o)->s.heap.objs.size<=h'.objs.size->ItemsOf (λi v=>∃t,v=.int (a+i*c) t) acc n->Q acc.toList {s with heap:=h',toks:=tk}) :
  wpAny (model prog w) A (collect (.ref r)) Q E s:=by
 unfold collect;refine zA (wpAny_runValue (codeAny_builtin F.entry_proto_collect ?_));rw[Around.under_plainId F.plain_proto_collect _];show wpAny _ A.in1 (newList [] >>= λl=>again (.builtin "list.__iadd__" ⟨[l,.ref r],[]⟩)) _ _ s;refine zA (z6 ?_);refine zE ⟨plainId_quiet F.plain_list_iadd _,codeAny_builtin F.entry_list_iadd ?_⟩;rw[Around.under_plainId F.plain_list_iadd _];have p:(s.heap.push {cls:=.type "list",data:=.seq ([]:NR).toArray}).get? s.heap.objs.size=some {cls:=.type "list",data:=.seq ([]:NR).toArray}:=zD _ Z;show wpAny _ A.in1 (Builtin.List.listExtendWith (.ref s.heap.objs.size) (.ref r) (.ref s.heap.objs.size)) _ _ _;have y:∀(r:Result)(s':Na),(∃h' tk d c',r=.ok (.ret (.ref s.heap.objs.size))/\s'={s with heap:=h',toks:=tk}/\(∀b o,b≠s.heap.objs.size->(s.heap.push {cls:=.type "list",data:=.seq ([]:NR).toArray}).get? b=some o->h'.get? b=some o) /\
   h'.get? s.heap.objs.size=some {cls:=.type "list",dict:=none,data:=.seq d c',slots:=#[]}/\ItemsOf (λi v=>∃t,v=.int (a+i*c) t) d n)->∃h' tk d c',r=.ok (.ret (.ref s.heap.objs.size))/\s'={s with heap:=h',toks:=tk} /\
   h'.get? s.heap.objs.size=some {cls:=.type "list",dict:=none,data:=.seq d c',slots:=#[]}/\Q d.toList s':=by
  rintro r s' ⟨h',tk,d,c',e1,x,hk,h,j⟩;refine⟨h',tk,d,c',e1,x,h,?_⟩;rw[x];exact D h' tk d (λb o e=>hk b o (Atb (yA e)) (zB _ e)) (Ats (yA h)) j
 refine zO (wpAny_extend_range (s:={s with heap:=s.heap.push {cls:=.type "list",data:=.seq ([]:NR).toArray} }) (R:=λr s'=>∃h' tk d c',r=.ok (.ret (.ref s.heap.objs.size))/\s'={s with heap:=h',toks:=tk}/\(∀b o,b≠s.heap.objs.size->(s.heap.push {cls:=.type "list",data:=.seq ([]:NR).toArray}).get? b=some o->h'.get? b=some o) /\
   h'.get? s.heap.objs.size=some {cls:=.type "list",dict:=none,data:=.seq d c',slots:=#[]}/\ItemsOf (λi v=>∃t,v=.int (a+i*c) t) d n) G (zB _ C) m hn B s.heap.objs.size (.ref s.heap.objs.size) 0 p
  λh' tk d c' hk h j=>⟨h',tk,d,c',Z,Z,hk,h,j⟩) (λf s' z=>?_) λe s' z=>?_
 ·cases f with
  |done f =>
   obtain⟨h',tk,d,c',e1,x,h,q⟩:=y _ _ z;cases e1;subst x;show wpAny _ A (load s.heap.objs.size >>= _) _ _ _;exact zA (wpAny_load h (zE q))
  |again c' =>
   refine⟨z.1,yQ z.2 λr s' C=>?_⟩;obtain⟨h',tk,d,c',e1,x,h,q⟩:=y _ _ C;subst e1 x;show wpAny _ A (load s.heap.objs.size >>= _) _ _ _;exact zA (wpAny_load h (zE q))
 ·obtain⟨h',tk,d,c',e1,_⟩:=z;cases e1
theorem AgC(hi:IntsAre items ns){g:Int->Int}{keys:Array Nd}(hk:IntsAre keys.toList (ns.map g)){p:Keyed}(c:p∈keys.toList.zip items) :
  ∃z,z∈ns/\numOf p.2=z/\numOf p.1=g z/\∃t,p.2=.int z t:=by
 obtain⟨i,f,e⟩:=AtA c;have h1:=hi.length;have h2:=hk.length;rw[AsZ]at h2;rw[List.length_zip]at f;have hn:i<ns.length:=As
 obtain⟨t1,e1⟩:=hi.get i ns[i] (Atc hn);obtain⟨h,d⟩:=hk.get i (g ns[i]) (by rw[Atn,Atc hn];rfl);rw[List.getElem_zip]at e;have b:items[i]' As=.int ns[i] t1:=yB ((Atc _).symm.trans e1);have a:keys.toList[i]' As=.int (g ns[i]) h:=yB ((Atc _).symm.trans d);rw[b,a]at e;subst e;exact⟨ns[i],At9 hn,Z,Z,t1,Z⟩
theorem Alx(hi:IntsAre items ns){g:Int->Int}{keys:Array Nd}(hk:IntsAre keys.toList (ns.map g)){xs:Array Keyed}(w:xs.Perm (keys.zip items.toArray))(hs:Stab.St xs xs.size) :
  ∃a:NV,IntsAre (xs.map (·.2)).toList a/\a.Perm ns/\a.Pairwise (λx y=>g x<g y\/(g x=g y/\x<y)):=by
 have s:xs.toList.Perm (keys.toList.zip items):=by rw[<-ksk_zip];exact Array.perm_iff_toList_perm.mp w
 have m:∀p∈xs.toList,∃z,z∈ns/\numOf p.2=z/\numOf p.1=g z/\∃t,p.2=.int z t:=λp h=>AgC hi hk (s.mem_iff.mp h);have len:keys.toList.length=items.length:=by rw[hk.length,AsZ,hi.length]
 refine⟨xs.toList.map λp=>numOf p.2,?_,?_,?_⟩
 ·rw[Array.toList_map];have:=intsAre_map (xs.toList.map (·.2)) λv u=>by
   obtain⟨p,n,rfl⟩:=zY.mp u;obtain⟨z,_,_,_,t,e⟩:=m p n;exact⟨z,t,e⟩
  rw[AtD]at this;exact this
 ·have h1:=s.map λp:Keyed=>numOf p.2;have h2:(keys.toList.zip items).map (λp:Keyed=>numOf p.2)=ns:=by
   rw[<-hi.nums,show(λp:Keyed=>numOf p.2)=numOf∘Prod.snd from Z,<-AtD,List.map_snd_zip As]
  rw[h2]at h1;exact h1
 ·rw[AtG,Au1];intro i j h1 h2 d;have c:i<xs.size:=by simpa using h1
  have b:j<xs.size:=by simpa using h2
  have q:=hs i j d b;obtain⟨A,_,f,r,_⟩:=m xs.toList[i] (At9 h1);obtain⟨B,_,l,o,_⟩:=m xs.toList[j] (At9 h2);rw[f,l];unfold Stab.Lx at q;rw[K_eq c,K_eq b]at q;unfold Stab.V at q;rw[getElem?_pos xs i c,getElem?_pos xs j b]at q;simp only [Array.getElem_toList]at f l r o;simp only [f,l,r,o]at q;exact q
theorem Aly(hi:IntsAre items ns)(a:ns.Pairwise (·<·)){keys:Array Nd}(c:keys.size=items.length):Stab.Inc (keys.zip items.toArray):=by
 intro i j b f;have d:(keys.zip items.toArray).size=items.length:=by rw[Array.size_zip,c,Atd,Nat.min_self]
 have h1:=hi.length;have val:∀k (hk:k<items.length),Stab.V (keys.zip items.toArray) k=ns[k]' As:=λk hk=>by
  obtain⟨t,e⟩:=hi.get k ns[k] (Atc As);unfold Stab.V;rw[getElem?_pos (keys.zip items.toArray) k As];simp only [Array.getElem_zip,Au5];rw[yB ((Atc hk).symm.trans e)];rfl
 rw[val i As,val j As];exact List.pairwise_iff_getElem.mp a i j As As b
section
variable {kS:NX}{g:Int->Int}{Pst:PySem.Fin->Na->Prop}
theorem AbC{st:SortSt}{keys:Array Nd}(hi:IntsAre items ns)(W:ns.length<64)(hk:IntsAre keys.toList (ns.map g))
  (I:Inv X ((a,seqObj "list" #[] e1)::pins) σ (upd H kS (.lst (vI (ns.map g)))) s) (P:H kS=none) (a0:X.s₀.heap.objs.size<=a) (aC:∀x c,X.env.cells.lookup x=some c->c≠a) (aP:∀p∈X.pn++pins,p.1≠a)
  (K:(arrOf st).Perm (keys.zip items.toArray)) (hs:Stab.St (arrOf st) (arrOf st).size) (Q:failedOf st=none)
  (k:∀(H':Hp)(s':Na)(d:NV),Ca H H'->H a=none->H' a=some (.lst (vI d))->d.Perm ns->d.Pairwise (λx y=>g x<g y\/(g x=g y/\x<y))->Inv X pins σ H' s'->Pst (.done (.ret .none)) s') :
  wpAny (model X.prog X.w) A (ksk_tail a false e1 (.ref kS) st) Pst E s:=by
 have hsz:sizeLine=16777216:=zS;obtain⟨d,o1,o2,o3⟩:=Alx hi hk K hs;have pa:=I.pin (a,seqObj "list" #[] e1) (Atx _ Atk);obtain⟨ga,T,S,aF,_⟩:=pa;have B:a≠kS:=λz=>by
  have j:upd H kS (.lst (vI (ns.map g))) a=none:=T;rw[z,Ad]at j;cases j
 have C:H a=none:=by
  have j:upd H kS (.lst (vI (ns.map g))) a=none:=T;rw[Af B]at j;exact j
 obtain⟨z,its,n,rv,hl,U⟩:=I.XR (l:=kS) Ad;have a1:its.length=ns.length:=by rw[<-hl,J5,AsZ]
 have Y:=Heap.SameBut.update s.heap kS (Obj.mapSeq λ_=>(#[]:Array Nd));have O:Inv X ((a,seqObj "list" #[] e1)::pins) σ (upd (upd H kS (.lst (vI (ns.map g)))) kS (.lst [])) {s with heap:=s.heap.update kS (Obj.mapSeq λ_=>(#[]:Array Nd)),toks:=s.toks}:=
  I.Ak0 (its':=[]) (f:=λ_=>#[]) Ad U Z .nil (Atg _);rw[Aeq]at O;have r:(s.heap.update kS (Obj.mapSeq λ_=>(#[]:Array Nd))).get? a=some (seqObj "list" #[] e1):=(Y.2 a B).trans ga;have R:((arrOf st).map (·.2)).size=d.length:=by rw[<-o1.length,zJ]
 have a2:=o2.length_eq;unfold ksk_tail
 try dsimp only
 refine zA (listUpdate_at U Z ?_ (by rw[Atd];lia) (Atg _));refine zA (wpAny_letGo ?_);refine zA (seqEpoch_at r Z ?_);refine zA (listUpdate_at r Z ?_ (Atg _) (by simp only [AtP,if_false];rw[R];lia));rw[Q];simp only [bne_self_eq_false,AtP,if_false];refine zE ?_;have t:Inv X pins σ (upd H kS (.lst [])) {s with heap:=s.heap.update kS (Obj.mapSeq λ_=>(#[]:Array Nd)),toks:=s.toks}:=O.DY λp K=>O.pin p (Atx _ (Ath _ K));have L:upd H kS (.lst []) a=none:=by rw[Af B];exact C
 generalize a3:s.heap.update kS (Obj.mapSeq λ_=>(#[]:Array Nd))=h1 at r t ⊢;have F:=Heap.SameBut.update h1 a (Obj.mapSeq λ_=>(arrOf st).map (·.2));obtain⟨N,G⟩:∃N,(h1.update a (Obj.mapSeq λ_=>(arrOf st).map (·.2))).get? a=some (seqObj "list" ((arrOf st).map (·.2)) N):=⟨_,get?_update_seq r λ_=>(arrOf st).map (·.2)⟩;have i:∀b u,upd H kS (.lst []) b=some u->b≠a:=λb u e z=>by rw[z,L]at e;cases e
 have J:Inv X pins σ (upd (upd H kS (.lst [])) a (.lst (vI d))) {s with heap:=h1.update a (Obj.mapSeq λ_=>(arrOf st).map (·.2)),toks:=s.toks}:=by
  refine Inv.step (s:={s with heap:=h1,toks:=s.toks}) t (g':=s.gens) (d':=s.drawn) (ch:=[a]) (λb D=>?_) (λb o _ _ hc e _=>(F.2 b (λz=>hc (by simp[z]))).trans e) (λb o _ _ hc e _=>⟨o.slots,(F.2 b (λz=>hc (by simp[z]))).trans e⟩)
   (λb o hc e n=>by rw[Af (λz=>hc (by simp[z]))];exact n) (λb o hc e=>⟨o,(F.2 b (λz=>hc (by simp[z]))).trans e⟩) (λb xs e=>by rw[Af (i b _ e)];exact e) (λb o u e=>by rw[Af (i b _ e)];exact e)
   (λb ps e=>⟨#[],by rw[Af (i b _ e),e];simp⟩) (λm hm=>hm.sameBut F (yD S)) (λb u e=>?_) t.bare
  ·have e:b=a:=by simpa using D
   rw[e];exact⟨.inr a0,S,aC,aP⟩
  ·by_cases D:b=a
   ·rw[D,Ad]at e;cases e;rw[D];exact⟨by rw[J5];lia,((arrOf st).map (·.2)).toList,N,Ek o1,G⟩
   ·rw[Af D]at e;refine(t.hok b u e).stay (λc v hc q=>(F.2 c ?_).trans q) (λc q=>by rw[Af (i c _ q)];exact q) λc xs q=>by rw[Af (i c _ q)];exact q
    rcases hc with z|z
    ·rw[z];exact D
    ·exact i c _ z
 refine k _ _ d (λb o h=>?_) C Ad o2 o3 J;rw[Af (λz=>by rw[z,C]at h;cases h),Af (λz=>by rw[z,P]at h;cases h)];exact h
theorem Alz{keys:Array Nd}(hi:IntsAre items ns)(l:ns.Pairwise (·<·))(f:ns.length<64)(hk:IntsAre keys.toList (ns.map g))
  (I:Inv X ((a,seqObj "list" #[] e1)::pins) σ (upd H kS (.lst (vI (ns.map g)))) s) (h:H kS=none) (n:X.s₀.heap.objs.size<=a) (t:∀x c,X.env.cells.lookup x=some c->c≠a) (r:∀p∈X.pn++pins,p.1≠a)
  (k:∀(H':Hp)(s':Na)(ns':NV),Ca H H'->H a=none->H' a=some (.lst (vI ns'))->ns'.Perm ns->ns'.Pairwise (λx y=>g x<g y\/(g x=g y/\x<y))->Inv X pins σ H' s'->Pst (.done (.ret .none)) s') :
  wpAny (model X.prog X.w) A (ksk_end a false items.toArray e1 (.ref kS) keys) Pst E s:=by
 have h1:=hi.length;have hsz:keys.size=items.length:=by
  have h2:=hk.length;rw[zJ,AsZ]at h2;lia
 have d:(keys.zip items.toArray).size=items.length:=by rw[Array.size_zip,hsz,Atd,Nat.min_self]
 unfold ksk_end
 try dsimp only
 simp only [AtP,if_false];by_cases h2:items.toArray.size<2
 ·rw[z8 h2,z8 h2];refine zA (zE ?_);rw[StateT.run_pure];refine zA (zE ?_)
  try dsimp only
  refine AbC (st:=SortSt.mk' general' (keys.zip items.toArray) #[] 7 none) hi f hk I h n t r (Array.Perm.refl _) ?_ Z k;intro i j v z;have m:j<(keys.zip items.toArray).size:=z;rw[d]at m;rw[Atd]at h2;lia
 ·rw[z7 h2,z7 h2];rw[Atd]at h2;rw[ksk_kind hk (by rw[hsz];lia)];refine zA (zE ?_);refine zA (zO (Stab.AbA (a₀:=keys.zip items.toArray) (st:=SortSt.mk' oneType' (keys.zip items.toArray) #[] 7 none)
   (Q:=λ_ b=>(arrOf b).Perm (keys.zip items.toArray)/\failedOf b=none/\Stab.St (arrOf b) (keys.zip items.toArray).size)
   (ksk_intKeys hk) (Aly hi l hsz) ⟨Array.Perm.refl _,Z,Z,Z⟩ Z (by rw[d];lia) (by rw[d];lia) λb C B u=>⟨C,B,u⟩) ?_ λ_ _ e=>e);rintro⟨⟨⟩,b⟩ s' ⟨rfl,o,D,hs⟩
  try dsimp only
  exact AbC hi f hk I h n t r o (by rw[o.size_eq];exact hs) D k
theorem AiA(I:Inv X pins σ H s)(ha:H a=none)(d:s.heap.get? a=some (seqObj "list" items.toArray n0)) (U:X.s₀.heap.objs.size<=a) (T:a≠X.env.locals) (aF:a∉X.fs)
  (aC:∀x c,X.env.cells.lookup x=some c->c≠a) (aP:∀p∈X.pn++pins,p.1≠a) (hi:IntsAre items ns) (L:ns.Pairwise (·<·)) (N:ns.length<64)
  (D:∀(z:Int)(t:Tok)(pl:NF)(H':Hp)(s':Na),z∈ns->Ca H H'->Inv X (pl++pins) σ H' s' ->
   wpAny (model X.prog X.w) A (call (.ref f) [.int z t]) (λu r=>(∃t',u=.int (g z) t')/\Inv X (pl++pins) σ H' r) (λ_ _=>False) s')
  (k:∀(H':Hp)(s':Na)(ns':NV),Ca H H'->H a=none->H' a=some (.lst (vI ns'))->ns'.Perm ns->ns'.Pairwise (λx y=>g x<g y\/(g x=g y/\x<y))->Inv X pins σ H' s'->Pst (.done (.ret .none)) s') :
  wpAny (model X.prog X.w) A (ksk_tree a (.ref f) false) Pst E s:=by
 have hsz:sizeLine=16777216:=zS;have hl:=hi.length;have s1:=Heap.SameBut.update s.heap a (Obj.mapSeq λ_=>(#[]:Array Nd));obtain⟨e1,F⟩:∃e1,(s.heap.update a (Obj.mapSeq λ_=>(#[]:Array Nd))).get? a=some (seqObj "list" #[] e1):=⟨_,get?_update_seq d λ_=>#[]⟩;have S:a<s.heap.objs.size:=yA d;unfold ksk_tree;refine zA (listItems_at d Z ?_);refine zA (listUpdate_at d Z ?_ (by rw[Atd];lia) (Atg _));refine zA (seqEpoch_at F Z ?_);refine zA (wpAny_newTuple ?_ (by show items.length<=_;lia));refine zA (wpAny_newList ?_ (Atg _));refine zT ?_;have I1:Inv X pins σ H {s with heap:=s.heap.update a (Obj.mapSeq λ_=>(#[]:Array Nd)),toks:=s.toks}:=I.turned (it:=a) (λb o hb e=>(s1.2 b hb).trans e) ha T (.inr U) aC aP;have Y:Inv X pins σ H {s with heap:=(s.heap.update a (Obj.mapSeq λ_=>(#[]:Array Nd))).push (seqObj "tuple" items.toArray 0),toks:=s.toks}:=I1.kept (t':=s.toks) λb u e=>zB _ e;have G:=Y.AnJ (its:=[]) (ys:=[]) (t':=s.toks) .nil (Atg _);have C:=zB {cls:=.type "list",data:=.seq ([]:NR).toArray} (zB (seqObj "tuple" items.toArray 0) F);have m:=Y.fresh;dsimp only at G C m ⊢;generalize Q:((s.heap.update a (Obj.mapSeq λ_=>(#[]:Array Nd))).push (seqObj "tuple" items.toArray 0)).objs.size=kS at G m ⊢;have O:a≠kS:=by
  rw[<-Q,size_push',Heap.size_update];exact Atb (At5 S)
 have I4:Inv X ((a,seqObj "list" #[] e1)::pins) σ (upd H kS (.lst (vI ((ns.map g).take 0)))) {s with heap:=((s.heap.update a (Obj.mapSeq λ_=>(#[]:Array Nd))).push (seqObj "tuple" items.toArray 0)).push {cls:=.type "list",data:=.seq ([]:NR).toArray},toks:=s.toks}:=
  G.DY λp P=>by
   rcases zZ.mp P with rfl|P
   ·exact⟨C,by rw[Af O];exact ha,T,aF,λv z=>by cases z⟩
   ·exact G.pin p (Atx _ P)
 have R:∀l,Ca H (upd H kS (.lst l)):=λl b o h=>by rw[Af (λz=>by rw[z,m]at h;cases h)];exact h
 unfold ksk_rest;refine zA (wpAny_rule ?_)
 first
  |rw[List.forIn_toArray]
  | (rw[<-Array.forIn_toList];simp only [List.toList_toArray])
  |rw[<-Array.forIn_toList]
 refine zA (ksk_fold (λi s'=>Inv X ((a,seqObj "list" #[] e1)::pins) σ (upd H kS (.lst (vI ((ns.map g).take i)))) s') items 0 _ I4 ?step ?done)
 case step =>
  rintro j x s' W J;simp only [AtC]at J ⊢;have hj:j<items.length:=(zC.mp W).1;obtain⟨z,t,rfl,hz⟩:=hi.at j x W;refine zA (wpAny_attempt (zO (D z t [(a,seqObj "list" #[] e1)] _ s' (Ato hz) (R _) J) (λu r he=>?_) λ_ _ hF=>hF.elim));obtain⟨⟨t',rfl⟩,J2⟩:=he
  try dsimp only
  obtain⟨_,its,n,rv,B,K⟩:=J2.XR (l:=kS) Ad;have a1:its.length<=ns.length:=by
   rw[<-B,J5,AtB,AsZ];exact Nat.min_le_right _ _
  refine zA (listUpdate_at K Z ?_ (by rw[Atd];lia) (Atf (AtE (Array.size_push ..)) (by rw[Atd];lia)));refine zE ⟨Z,?_⟩;have ek:(ns.map g).take (j+1)=(ns.map g).take j++[g z]:=by rw[Auo,Atn,hz];rfl
  have J3:=J2.Ak0 (its':=its++[.int (g z) t']) (ys:=vI ((ns.map g).take (j+1))) (f:=(·.push (.int (g z) t'))) (t':=r.toks) Ad K At (by
   rw[ek];unfold vI;rw[At8];exact rv.append (.cons ⟨t',Z⟩ .nil)) (by rw[J5,AtB,AsZ];have:=Nat.min_le_right (j+1) ns.length;lia)
  rw[Aeq]at J3;exact J3
 case done =>
  rintro s' J;have e3:(ns.map g).take (0+items.length)=ns.map g:=AtF (by rw[AsZ];lia);rw[e3]at J;obtain⟨_,its,n,rv,B,K⟩:=J.XR (l:=kS) Ad
  try dsimp only
  refine zA (listItems_at K Z ?_);exact Alz hi L N (by simpa using intsAre_of rv) J m U aC aP k
end
section
variable {K:NA}
inductive Ad8 (K:NA)(P:NX)(q:Str)(j:Nat)(σ:St)(Q:VK)(x:V)(H1:Hp):Prop
|mk(p:NX)(lo:Int)(hi:Int)(n:Nat)(a:NX)(ks:NV)(_:x=.ref p)(_:H1 p=some (XS p lo hi 1))(_:Builtin.Range.small lo hi 1=true)(_:Builtin.Range.rangeSize lo hi 1=(n:Int))(_:n<64)(_:σ[j]?=some (some (.ref a)))(_:SqL K H1 a (vI ks))(_:0<=lo)(_:lo.toNat+n<=ks.length)(_:Tb P q H1)(_:∀l H2 ns',Ai H1 H2->Tb P q H2->H1 l=none->H2 l=some (.lst (vI ns'))->ns'.Perm (NZ lo 1 n) ->
  ns'.Pairwise (λx y => -(ks.getD x.toNat 0) < -(ks.getD y.toNat 0)\/(-(ks.getD x.toNat 0) = -(ks.getD y.toNat 0)/\x<y))->Q (.ref l) H2)
def AiB (K:NA)(P:NX)(q:Str)(j:Nat)(te:TE)(σ:St)(H:Hp)(Q:VK):Prop:=te σ H (Ad8 K P q j σ Q)
theorem AiC(lo:Int)(n:Nat):(NZ lo 1 n).Pairwise (·<·):=by unfold NZ;rw[AtG];exact List.pairwise_lt_range.imp λ{a b} h=>As
theorem Pu(lo:Int)(n:Nat):(NZ lo 1 n).length=n:=by unfold NZ;rw[AsZ,At1]
theorem AgD{lo:Int}(h:ItemsOf (λi v=>∃t,v=.int (lo+i*1) t) acc n):IntsAre acc.toList (NZ lo 1 n):=by
 refine intsAre_of (Ph _ _ (by rw[AsZ,Pu,zJ,h.1]) λi x u e1 c=>?_);obtain⟨z,a,rfl⟩:=Aib e1;obtain⟨t',rfl⟩:=h.2 i u (by rw[<-zL];exact c);have b:i<n:=by
  have:=(zC.mp e1).1
  rwa [AsZ,Pu]at this
 unfold NZ at a;rw[Atn,List.getElem?_range b]at a;cases a;exact⟨t',Z⟩
theorem AiD{env:Env}(a:scope.names=[(x,.local),(nm,.free)])(b:env.cells.lookup nm=some cc):closureFor scope env=pure [(nm,cc)]:=by
 have hc:cellOf env nm=pure cc:=by unfold cellOf;rw[b]
 unfold closureFor;rw[a];simp only [Aud,List.forIn_nil,hc,pure_bind,show(NameKind.local == NameKind.free)=false from Z,show(NameKind.free == NameKind.free)=true from Z,if_true,if_false,AtP]
theorem Ad9{P c:NX}{q:Str}{kp b1 b2 b3 b4:Pos}
  (hg:Gl X "sorted") (hm:X.mg "sorted"=none) (he:PE X e te) (C:W.CodeHd X.base c P) (B:Bm X.mg X.base) (hr:BX 2 X.A) (G:X.env.code=.ref c:=by rfl) (hq:X.env.qual ++ "<lambda>"=q:=by rfl)
  (hN:X.N[j]?=some nm:=by rfl) (Y:X.env.kindOf nm=some .cell:=by rfl) (d:scope.names=[(x,.local),(nm,.free)]:=by rfl) (U:x≠nm:=by decide) (L:scope.kind=.function:=by rfl) (aq:scope.isCoroutine=false:=by rfl) (a0:scope.isGenerator=false:=by rfl)
  (a4:defaultsOf params X.env=([],[]):=by rfl)
  (E:∀(cc c':NX)(pm O w:Nd),bindArgs (W.kla_fn "<lambda>" q params (.UnaryOp .USub (.Subscript (.Name nm b1) (.Name x b2) b3) b4) scope [(nm,cc)] pm (.ref c') O) ⟨[w],[]⟩=pure [(x,w)]:=by intros;rfl)
  (av:(x == ("__debug__":Str))=false:=by decide) (ar:(x == ("__classdict__":Str))=false:=by decide) (a8:(nm == ("__debug__":Str))=false:=by decide) (ak:(nm == ("__classdict__":Str))=false:=by decide)
  (hK:X.K=K:=by rfl) (hc:X.calm=true:=by rfl)
  (hs:backTo pos (starEach [e] X.env)=(false,eval e X.env)::backTo pos (starEach [] X.env):=by rfl)
  (r:(backTo pos (starEach [e] X.env)).any (·.1)=false:=by rfl) :
  PE X (.Call (.Name "sorted" p1) [e] [⟨some "key",.Lambda params (.UnaryOp .USub (.Subscript (.Name nm b1) (.Name x b2) b3) b4) scope AgB,kp⟩] pos) (AiB K P q j te):=by
 subst hK;intro pins s σ H Q I h;have hsz:sizeLine=16777216:=zS;refine yH (Ck I hg hm Gs ?_ Ab Ab);refine callWith_kw ?_ hs r Z rfl;rw[hs];refine yP (thn (he pins s σ H _ I h) λu s1 ⟨y,H1,I1,r1,q1⟩=>yR ?_);obtain⟨p,lo,hi,n,a,ks,rfl,hp,ag,hn,ah,as,hS,h0,ay,tb,k⟩:=q1;cases r1;obtain⟨cc,T⟩:=I1.ok.has nm (.inl Y);refine kws_cons (Ai8 I1 tb G C B hq a4 (AiD d T) λf c' pm O H2 s2 t2 a7 af ac o=>kws_nil ?_);show wpAny _ _ (call (.builtin "sorted") [.ref p] [(Str.ofString "key",.ref f)]) _ _ _;refine call_function_entry_kw kind_sorted plain_sorted entry_sorted (ksk_s1 _ _) ?_;unfold Builtin.«sorted»;refine zA (m:=checkCount "sorted" 1 1 _) (zE ?_);obtain⟨⟨t,u,v,ab⟩,_,_⟩:=o.hok p _ (t2.ext hp);refine zA (AbB (o.ok.hd hc) ab ag hn As λD ao acc al au ae=>?_);have a2:=AgD ae;have b6:acc.toList.length=n:=by rw[a2.length,Pu]
 refine zA (wpAny_newList ?_ As);have I3:=o.kept (t':=ao) (h':=D.push {cls:=.type "list",data:=.seq acc.toList.toArray}) λb u e=>zB _ (al b u e);have R:(D.push {cls:=.type "list",data:=.seq acc.toList.toArray}).get? D.objs.size=some (seqObj "list" acc.toList.toArray 0):=zD _ Z;have l:s2.heap.objs.size<=D.objs.size:=au;have aa:H2 D.objs.size=none:=o.hok.fresh l;have ax:H1 D.objs.size=none:=I1.hok.fresh (Atf ac l);refine zA (zT (wpAny_call_entry_kw slot_list_sort ⟨_,R,Z⟩ entry_list_sort ?body (ksk_l1 _ _)))
 case body =>
  show wpAny (model X.prog X.w) X.A.in1.in1 (Builtin.«list.sort» ⟨[.ref D.objs.size],[(Str.ofString "key",.ref f)]⟩) _ _ _;rw[ksk_t1];refine AiA (g:=λz => -(ks.getD z.toNat 0)) I3 aa R (Atf o.sz l) (Atr (Ate o.lt l)) (o.Anh l) (λz c e=>?_) (λpp F=>?_) a2 (AiC lo n) (by rw[Pu];exact ah)
   (λz t pl H' s' hz S J=>?_) λH4 s4 a6 S ha aw am aj I4=>⟨_,Z,?_⟩
  ·obtain⟨v,hv⟩:=o.cell z c e;exact Atb (Ate hv.lt l)
  ·exact Atb (Ate (yA (o.pin pp F).1) l)
  ·obtain⟨i,b5,ez⟩:∃i:Nat,i<n/\z=lo+i:=by
    unfold NZ at hz;obtain⟨i,a9,az⟩:=zY.mp hz;exact⟨i,z5.mp a9,As⟩
   have a5:z.toNat<ks.length:=As
   have ap:scope.names.lookup nm=some .free:=by rw[d,At4,beq_false_of_ne (yD U)];simp
   have ai:scope.names.lookup x=some .local:=by rw[d];simp
   refine zO (Ai9 (y:=.int z) (v:=.ref a) (Q:=λv a1=>v=.int (-(ks.getD z.toNat 0))/\a1=H') J I.ok.frames (I.ok.hd hc) (by have:=hr.dp;show X.A.depth<_;lia)
    (Atx _ Atk) (S _ _ af) hN as Y T d U L aq a0 (E cc c' pm O) ⟨t,Z⟩
    (λenv s H a3=>AhB Adb (Su (Pb (K:=X.K)) (Zz (i:=1) Z (.inr (.inr (by show env.scope.names.lookup nm=_;rw[a3];exact ap))) a8 ak) (Zz (i:=0) Z (.inl (by show env.scope.names.lookup x=_;rw[a3];exact ai)) av ar) (λ_ _=>rfl)))
    ⟨_,Z,_,Z,a,vI ks,z,.int (ks.getD z.toNat 0),Z,Z,S.seq (t2.seq hS),?_,_,Z,Z,Z⟩) (λu b0 ⟨v,a1,J2,rv,ev,eh⟩=>?_) λ_ _ z=>z
   ·refine ZX As ?_;unfold vI;rw[Atn,Atc a5,At3,Atc a5];rfl
   ·subst ev eh;exact⟨rv,J2⟩
  ·refine zE ⟨_,Z,.ref D.objs.size,H4,I4.DY λpp F=>I4.pin pp (Atx _ (Ath _ F)),Z,?_⟩;exact k _ H4 a6 (t2.trans S.toT) (a7.same S) ax aw am aj
end
theorem Ao6{K:NA}{c P:NX}{fd:NY}{e o1:Nd}{b o2:Option NX}{a h:Array (NW)}(hn:W.nsIn K mainGlobals x=some (some (.ref f)))
  (lk:K.lookup f=some ⟨e,b,.func fd,a⟩) (hc:fd.code=.ref c) (i:K.lookup c=some ⟨o1,o2,.fields vs,h⟩) (d:(vs[11]?:NW)=some (.ref P)):W.tabIn K x=some (c,P):=by
 unfold W.tabIn;rw[hn];simp only [lk,hc,i,d]
theorem AgE{K:NA}{k:Nat}{fa c T:NX}{q:Str}{fd:NY}{vs:NR}
  (KX:K.In s₁.heap) (N:s₁.heap.Ns mainGlobals mg) (f:s₁.heap.Ns builtinsNs mb) (a3:∀x:Str,x≠"__name__" -> mb x=bootBuiltins x) (U:s₁.heap.NoLimit) (hg:s₁.gens=#[])
  (I:s₁.heap.get? a=some {cls:=.type "list",data:=.seq vs.toArray}) (hi:IntsAre vs ns) (hl:ns.length<=sizeLine) (hr:BX k callerA)
  (hC:W.CodeHd s₁.heap c T) (G:s₁.heap.get? T=some (W.tabObj #[])) (a0:K.lookup T=none) (a2:Bm mg s₁.heap)
  (F:∀base:Heap,K.In base->base.Ns mainGlobals mg->W.CodeHd base c T->Bm mg base->BR P w K mg base CX k fa fd [x] sp) (D:∀(s:Na)(u:Nd),BindsTo s fd ⟨[u],[]⟩ [(x,u)])
  (a6:∀H:Hp,SqL K H a (ns.map V.int)->Tb T q H->sp [.ref a] H (λv _=>v=.bl true) λ_ _ _=>False)
  (a5:∀H e s',CX [] H s₁ (λ_ _ _=>False) e s'->False) :
  codeAny (model P w) callerA (.call (.ref fa) ⟨[.ref a],[]⟩) (λr s'=>r=.ok (.ret (.bool true))/\OldK s₁.heap s'.heap/\s'.os=s₁.os/\AllBare s'.gens) s₁:=by
 have rv:=Ek hi;have Q:=hi.length;have aT:a≠T:=λe=>by rw[e,G]at I;cases I
 have y:∀H:Hp,H T=some (.tbl #[])->(∀b u,H b=some u->b=T\/(b=a/\∃o xs,u=.frz o (.lst xs)))->SqL K H a (ns.map V.int)->HOk P w H s₁.heap->(H a≠none->K.lookup a=none) ->
   codeAny (model P w) callerA (.call (.ref fa) ⟨[.ref a],[]⟩) (λr s'=>r=.ok (.ret (.bool true))/\OldK s₁.heap s'.heap/\s'.os=s₁.os/\AllBare s'.gens) s₁:=by
  intro H L hA hS J hK;have HB:∀{b:NX} {o:Obj},s₁.heap.get? b=some o->H b=none->(NP s₁.heap H).get? b=some o:=λe n=>AaQ e n;have E:∀{b:NX} {o:Obj},s₁.heap.get? b=some o->o.cls≠.type "list" \/ (∃es ep,o.data=.dict es ep)->o.cls≠.none\/(∃es ep,o.data=.dict es ep)->H b=none:=λ{b o} e d Y=>by
   cases q:H b with
   |none=>rfl
   |some u =>
    exfalso;rcases hA b u q with B|⟨B,_⟩
    ·rw[B,G]at e;cases e;rcases Y with Y|⟨es,ep,Y⟩
     ·exact Y Z
     ·have d':Data.fields _=Data.dict es ep:=Y;cases d'
    ·rw[B,I]at e;cases e;rcases d with d|⟨es,ep,d⟩
     ·exact d Z
     ·have d':Data.seq vs.toArray _=Data.dict es ep:=d;cases d'
  have l:∀{b:NX} {m:Str->NW},s₁.heap.Ns b m->(NP s₁.heap H).Ns b m:=λ{b m} ⟨o,es,ep,e,d,r⟩=>⟨o,es,ep,HB e (E e (.inr ⟨es,ep,d⟩) (.inr ⟨es,ep,d⟩)),d,r⟩;have R:K.In (NP s₁.heap H):=λb o e=>HB (KX b o e) (by
   cases q:H b with
   |none=>rfl
   |some u =>
    exfalso;rcases hA b u q with B|⟨B,_⟩
    ·rw[B,a0]at e;cases e
    ·rw[B,hK (by rw[<-B,q];simp)]at e;cases e)
  have hM:Mod K mg (NP s₁.heap H):=⟨R,l N,⟨mb,l f,a3⟩,let ⟨mc,h1,h2⟩:=U;⟨mc,l h1,h2⟩⟩;have a7:W.CodeHd (NP s₁.heap H) c T:=by
   obtain⟨o,vs',O,tf,C,tg,a1,S,tt,e1,r1,r⟩:=hC;exact⟨o,vs',O,tf,C,tg,a1,S,tt,HB e1 (E e1 (.inl (by rw[r1];decide)) (.inl (by rw[r1];intro z;cases z))),r1,r⟩
  have a4:Bm mg (NP s₁.heap H):=by
   obtain⟨bm,ob,b1,b2,b3,b4,r⟩:=a2;exact⟨bm,ob,b1,b2,HB b3 (E b3 (.inl (by rw[b4];decide)) (.inl (by rw[b4];intro z;cases z))),b4,r⟩
  have e0:V4 P w K mg (NP s₁.heap H) callerA [] s₁ H:=⟨Z,hM,λb o e=>Aer e,AtE (Yj _ _),trivial,λb f=>z9 (show b∈([]:NO) from f) At,J,.of_eq hg⟩;have tb:Tb T q H:=⟨#[],L,trivial,λpos cv e=>by cases e⟩;refine yQ ((F _ R (l N) a7 a4).run callerA [] s₁ H ⟨[.ref a],[]⟩ [.ref a] [.ref a] _ _ hr e0 (D s₁ (.ref a)) (.cons Z .nil) (a6 H hS tb)) λr s' h=>?_;cases r with
  |error e=>exact(a5 H e s' h).elim
  |ok fl =>
   cases fl with
   |next=>exact yI h
   |brk=>exact yI h
   |cont=>exact yI h
   |ret u =>
    obtain⟨v,H',os,X,un,A,r',q'⟩:=h;have q2:v=.bl true:=q';subst q2;obtain rfl:u=Value.bool true:=r';refine⟨Z,⟨λb o e=>?_,λb o e=>un.there b o e At⟩,os,X⟩;cases q:H b with
    |none=>exact .inl (un.keep b o e q (by intro z;exact z9 (show b∈([]:NO) from z) At) At)
    |some u =>
     rcases hA b u q with z|⟨z,ob,xs,zu⟩
     ·subst z;obtain⟨t,e2⟩:=un.El b #[] L;have e3:s'.heap.get? b=some (W.tabObj (#[]++t)):=A b _ e2;rw[G]at e;cases e;exact .inr (.inl ⟨(hC.tab G).isCodeTable,Z,#[],t,Z,e3⟩)
     ·subst zu;have p:=un.DN b ob _ q;obtain⟨e1,_⟩:=J b _ q;obtain⟨e2,_⟩:=A b _ p;rw[e]at e1;cases e1;exact .inl e2
 cases hk:K.lookup a with
 |some o =>
  have e:=KX a o hk;rw[I]at e;cases e;refine y (λb=>if b=T then some (.tbl #[]) else none) (z8 Z) (λb u z=>?_) (.inr ⟨_,vs.toArray,_,hk,Z,Z,Z,by rw[Atd,Q];exact hl,by simpa using rv⟩) (λb u z=>?_) λz=>z9 (z7 aT) z
  ·by_cases f:b=T
   ·exact .inl f
   ·have j:=(z7 f).symm.trans z;cases j
  ·by_cases f:b=T
   ·have j:=(z8 f).symm.trans z;cases j;rw[f];exact G
   ·have j:=(z7 f).symm.trans z;cases j
 |none =>
  refine y (λb=>if b=T then some (.tbl #[]) else if b=a then some (.frz {cls:=.type "list",data:=.seq vs.toArray} (.lst (ns.map V.int))) else none) (z8 Z) (λb u z=>?_)
   (.inl (.inr ⟨{cls:=.type "list",data:=.seq vs.toArray},(z7 aT).trans (z8 Z)⟩)) (λb u z=>?_) λ_=>hk
  ·by_cases f:b=T
   ·exact .inl f
   ·have j:=(z7 f).symm.trans z;by_cases i:b=a
    ·have p:=(z8 i).symm.trans j;exact .inr ⟨i,_,_,(yB p).symm⟩
    ·have p:=(z7 i).symm.trans j;cases p
  ·by_cases f:b=T
   ·have j:=(z8 f).symm.trans z;cases j;rw[f];exact G
   ·have j:=(z7 f).symm.trans z;by_cases i:b=a
    ·have p:=(z8 i).symm.trans j;cases p;rw[i];exact⟨I,by rw[AsZ];exact hl,vs,_,rv,I⟩
    ·have p:=(z7 i).symm.trans j;cases p
theorem AiE{l:W.OpenLaw}{k:Nat}{q:Program}{loose:NU}{XP:(Str->NW)->Heap->Prop}{YP:World->Heap->Prop}{d d':DefRec}{K:Params->NA}{sp:NA->NX->Sp}{qn:Str}
  (hn:l.most=some n) (z:n<=sizeLine) (E:d.params.defaults=[]) (O:BX k callerA)
  (L:∀(w:World)(h:Heap),YP w h->(K w.params).In h) (m:(recsOf q).find? (λe=>e.name == y)=some d')
  (F:∀(w:World)(mg:Str->NW)(fa:NX)(h:Heap),(K w.params).In h->h.Ns mainGlobals mg->mg d.name=some (.ref fa) ->
   ∃(fd:NY)(c T:NX),(∀(s:Na)(u:Nd),BindsTo s fd ⟨[u],[]⟩ [(x,u)])/\W.tabIn (K w.params) y=some (c,T)/\W.noTabs (K w.params)=true /\
    ∀base:Heap,(K w.params).In base->base.Ns mainGlobals mg->W.CodeHd base c T->Bm mg base->BR l.prog w (K w.params) mg base CX k fa fd [x] (sp (K w.params) T))
  (C:∀(K:NA)(T:NX)(H:Hp)(a:NX)(ns:NV),ns.length<=n->SqL K H a (ns.map V.int)->Tb T qn H->sp K T [.ref a] H (λv _=>v=.bl true) λ_ _ _=>False)
  (B:∀(H:Hp)(s:Na)(e:Nd)(s':Na),CX [] H s (λ_ _ _=>False) e s'->False) :
  W.WalkO q loose XP YP l.row.toRowW d [] (λf vs=>PySem.call f vs):=by
 refine Att.Sv hn E λw J s₁ mg mb fa o pm cd X a vs ns G Y ho hd R I r j i hg=>?_;have t:=L w _ Y;obtain⟨fd,c,T,Q,N,D,P⟩:=F w mg fa _ t G.T.g I;obtain⟨S,p⟩:=W.tab_of G.T t m N;have A:(K w.params).lookup T=none:=by
  cases e:(K w.params).lookup T with
  |none=>rfl
  |some o =>
   exfalso;have h1:=t T o e;rw[p]at h1;cases h1;have h2:=List.all_eq_true.mp D (T,W.tabObj #[]) (W.mem_of_lookupK e);exact z9 (show false=true from h2) Atj
 exact AgE t G.T.g G.T.b G.T.builtins G.T.nolimit hg r j (Atf i z) O S p A G.T.bmain P Q (λH U tb=>C _ T H a ns i U tb) λH e s'=>B H s₁ e s'
open PySem PySem.Spec PyProof.Rows PySem.Builtin PySem.Builtin.Str
def jn (c:Nat):NN->NL
 |[]=>[]
 |[w]=>w
 |w::v::r=>w++c::jn c (v::r)
theorem Wd(c:Nat):∀{ws:NN},ws≠[]->(jn c ws).count c+1=(ws.map (List.count c)).sum+ws.length
 |[],h=>z9 Z h
 |[w],_=>by simp[jn]
 |w::v::r,_=>by
  have a:=Wd c (ws:=v::r) At;rw[jn];grind
theorem AiF{c:Nat}:∀{w v a b:NL},c∉w->c∉v->w++c::a=v++c::b->w=v/\a=b
 |[],[],a,b,_,_,h=>⟨Z,(List.cons.inj h).2⟩
 |[],x::v,a,b,_,hv,h=>z9 Au hv
 |x::w,[],a,b,hw,_,h=>z9 Au hw
 |x::w,y::v,a,b,hw,hv,h=>by
  have e:=List.cons.inj h;have:= AiF (λz=>hw (Ath _ z)) (λz=>hv (Ath _ z)) e.2;exact⟨Au,this.2⟩
theorem AiG{c:Nat}:∀{ws vs:NN},ws≠[]->vs≠[]->(∀w∈ws,c∉w)->(∀v∈vs,c∉v)->jn c ws=jn c vs->ws=vs
 |[],_,h,_,_,_,_=>z9 Z h
 |_,[],_,h,_,_,_=>z9 Z h
 |[w],[v],_,_,_,_,e=>by rw[show w=v from e]
 |[w],v::v'::r,_,_,hw,_,e=>z9 (by rw[show w=v++c::jn c (v'::r) from e];simp) (hw w Atk)
 |w::w'::r,[v],_,_,_,hv,e=>z9 (by rw[<-show w++c::jn c (w'::r)=v from e];simp) (hv v Atk)
 |w::w'::r,v::v'::r',_,_,hw,hv,e=>by
  have h:=AiF (hw w Atk) (hv v Atk) (e);rw[h.1,AiG (ws:=w'::r) (vs:=v'::r') At At (λx a=>hw x (Ath _ a)) (λx a=>hv x (Ath _ a)) h.2]
theorem join_list(c:Nat):∀l:NU,(Str.join ⟨#[c]⟩ l).cps.toList=jn c (l.map λz=>z.cps.toList)
 |[]=>rfl
 |[x]=>rfl
 |x::y::r=>by
  show(x++⟨#[c]⟩++Str.join ⟨#[c]⟩ (y::r)).cps.toList=x.cps.toList++c::jn c ((y::r).map λz=>z.cps.toList);rw[<-join_list c (y::r)];show((x.cps++#[c])++(Str.join ⟨#[c]⟩ (y::r)).cps).toList=_;simp
theorem Ao7(z:Str):1<=Builtin.Str.strKind z:=by
 unfold Builtin.Str.strKind;split
 ·lia
 ·split<;>lia
theorem Ao8(h:c<256):Builtin.Str.strKind ⟨#[c]⟩=1:=by unfold Builtin.Str.strKind;rw[z8 (by simp;exact h)]
theorem split_len(hc:c<256):(Txt.split (tx u) ⟨#[c]⟩).length=u.count c+1:=by
 have n:=Yy u c;unfold Txt.split;split
 ·rename_i h;have:(tx u).length<1:=by
   rcases Bool.or_eq_true_iff.mp h with h|h
   ·exact yF h
   ·have:= yF h;rw[Ao8 hc]at this;have:= Ao7 (tx u);lia
  rw[Cv]at this;grind
 ·split
  ·simp_all
  ·rw[StrLaws.partsBetween_eq]<;>skip
   rw[<-StrLaws.partsBetween_eq,length_partsBetween,n]
theorem Wf:∀{l:NL} {a:Nat},a∈l->a<=l.sum
 |[],_,h=>by cases h
 |b::l,a,h=>by
  rw[List.sum_cons];rcases zZ.mp h with z|z
  ·rw[z];lia
  ·have:= Wf z;lia
theorem Wg(hc:c<256){ws:NN}(ne:ws≠[])(h:jn c ws=u)(no:∀w∈ws,c∉w):Txt.split (tx u) ⟨#[c]⟩=ws.map tx:=by
 have l:=split_len (u:=u) hc;have j:=congrArg (λz:Str=>z.cps.toList) (StrLaws.join_split (tx u) ⟨#[c]⟩);rw[join_list,ZR]at j;generalize Txt.split (tx u) ⟨#[c]⟩=ps at l j;obtain⟨qs,a⟩:∃qs,qs=ps.map λz=>z.cps.toList:=⟨_,Z⟩;rw[<-a]at j;have f:qs.length=ps.length:=by rw[a,AsZ]
 have b:qs≠[]:=λz=>by grind
 have cnt:=Wd c b;rw[j,f,l]at cnt;have d:∀w∈qs,c∉w:=λw hw z=>by
  have h1:w.count c<=(qs.map (List.count c)).sum:=Wf (zY.mpr ⟨w,hw,Z⟩);grind
 have e:=AiG b ne d no (by rw[j,h]);rw[<-e,a,AtD];exact(List.map_id' ps).symm.trans (AtU λz _=>by rfl)
theorem Y4:∀{l:List (Str×Tok)} {ws:NN},l.map (·.1)=ws.map tx->Vals (vS ws) (strValues l)
 |[],[],_=>.nil
 |[],w::ws,h=>by cases h
 |p::l,[],h=>by cases h
 |p::l,w::ws,h=>by
  have e:=List.cons.inj h;exact .cons ⟨p.2,by rw[<-e.1]⟩ (Y4 e.2)
inductive Ao9 (x:V)(vs:Nn)(H:Hp)(Q:VK):Prop
|mk(u:NL)(c:Nat)(ws:NN)(_:x=.str (tx u))(_:vs=[.str ⟨#[c]⟩])(_:c<256)(_:u.length+2<=sizeLine)(_:ws≠[])(_:jn c ws=u)(_:(∀w∈ws,c∉w))(_:∀l,H l=none->Q (.ref l) (upd H l (.lst (vS ws))))
theorem Px:MtR X "str.split" Ao9:=by
 intro pins s σ H x vs v us Q I j rv h;obtain⟨u,c,ws,rfl,rfl,hc,p,ne,m,no,q⟩:=h;obtain⟨t,rfl⟩:=j;obtain⟨u',rfl,n⟩:=rv.one;obtain⟨t',rfl⟩:=n;have es:=Wg hc ne m no;have r:ws.length<=u.length+1:=by
  have:= Wd c ne;grind
 have f:(tx u).length+2<=sizeLine:=by exact p
 have a:∀(l:List (Str×Tok))(tk:Nat),l.map (·.1)=Txt.split (tx u) ⟨#[c]⟩->EP X pins σ Q (.ref s.heap.objs.size) {s with heap:=s.heap.push {cls:=.type "list",data:=.seq (strValues l).toArray},toks:=tk}:=λl tk e =>
  ⟨.ref s.heap.objs.size,_,I.laid (λb o e=>zB _ e) (AsY _) (show BV X.prog X.w _ _ _ (.lst (vS ws)) from⟨by rw[AnX];lia,_,_,Y4 (e.trans es),zD _ Z⟩),Z,q _ (I.hok.fresh (AsY _))⟩;have i:(((⟨#[c]⟩:Str)).length == 0)=false:=rfl;have hn:(partsBetween (tx u) (occurrences (tx u) ⟨#[c]⟩ 0 (tx u).length ((tx u).length+1)) ((⟨#[c]⟩:Str)).length).length<=sizeLine:=by
  have e1:=StrLaws.occ_length_le (tx u) ⟨#[c]⟩ 0 (tx u).length ((tx u).length+1);rw[length_partsBetween];lia
 cases h1:(decide ((tx u).length<((⟨#[c]⟩:Str)).length) ||decide (Builtin.Str.strKind (tx u)<Builtin.Str.strKind ⟨#[c]⟩))
 ·cases d:(occurrences (tx u) ⟨#[c]⟩ 0 (tx u).length ((tx u).length+1)).isEmpty
  ·refine yM zR (typeIs_str _ _ _) yO (F.args_str_split_2 _ _) (meets_str_split_sep (tx u) ⟨#[c]⟩ t t' h1 i d As hn) ?_;rw[strsFrom_eq];exact a (numbered s.toks _) _ ((numbered_texts _ _).trans ((z7 (yJ h1)).trans (z7 (yJ d))).symm)
  ·exact yM zR (typeIs_str _ _ _) yO (F.args_str_split_2 _ _) (meets_str_split_not_found (tx u) ⟨#[c]⟩ t t' h1 i d)
    (a [(tx u,t)] s.toks ((z7 (yJ h1)).trans (z8 d)).symm)
 ·exact yM zR (typeIs_str _ _ _) yO (F.args_str_split_2 _ _) (meets_str_split_cannot_occur (tx u) ⟨#[c]⟩ t t' h1)
   (a [(tx u,t)] s.toks (z8 h1).symm)
def jnS (sp:NL):NN->NL
 |[]=>[]
 |[w]=>w
 |w::v::r=>w++(sp++jnS sp (v::r))
where
 List.XN {a b:NL} {j:Nat} (h:a.length<=j):(a++b).drop j=b.drop (j-a.length):=by
  rw[List.drop_append,List.drop_of_length_le h,Auh]
section
variable {k:Nat}{fd:NY}{E:XK}{ta:TE}{t:TA}{dvs:Nn}
inductive AiH (K:NA)(m:Str)(f:NX)(sp:Sp)(E:XK)(Q:VK)(x:V)(H1:Hp):Prop
|mk(a:_)(dx:_)(fs:_)(C:_)(_:x=.ref a)(_:H1 a=some (.ins C dx fs))(_:fs.lookup m=none)(_:Cls K C)(_:Meth K C m f)(_:sp [x] H1 Q E)
def AoA (K:NA)(m:Str)(f:NX)(sp:Sp)(E:XK)(ta:TE)(σ:St)(H:Hp)(Q:VK):Prop:=ta σ H (AiH K m f sp E Q)
theorem AiI{K:NA}(p:K=X.K)(r:PE X o ta)(F:BR X.prog X.w X.K X.mg X.base CX k f fd ps sp)(i:BX k X.A)(j:Binds X.K fd ps [])(t:Passes CX X E)
  (n:eval (.Call (.Attribute o m apos) [] [] pos) X.env=(do
   let ov <-eval o X.env
   standAt apos.atName
   let (f,first) <-holding [ov] (getMethod ov m pl)
   callWith pos f first (backTo pos (starEach [] X.env)) (backToKw pos (keywordEach [] X.env))):=by rfl) :
  PE X (.Call (.Attribute o m apos) [] [] pos) (AoA K m f sp E ta):=by
 subst p;intro pins s σ H Q I h;refine W.methodCall_KW (thn (r pins s σ H _ I h) λu v ⟨x,H1,b,e,a,dx,fs,C,ex,ea,l,c,d,q⟩=>?_) n;subst ex;obtain rfl:u=Value.ref a:=e;refine V2 b ea c d l ?_;exact W.callWith_K0 b.kIn d.kp (Z7 (us:=[.ref a]) (vs:=[.ref a]) F i j .nil t b (.cons Z .nil) (by simpa using q))
abbrev AgF (sp:Sp)(E:XK)(Q:VK)(x:V)(vs:Nn)(H2:Hp):Prop:=sp (x::vs) H2 Q E
inductive AgG (K:NA)(m:Str)(f:NX)(sp:Sp)(E:XK)(t:TA)(σ:St)(Q:VK)(x:V)(H1:Hp):Prop
|mk(a:_)(dx:_)(fs:_)(C:_)(_:x=.ref a)(_:H1 a=some (.ins C dx fs))(_:fs.lookup m=none)(_:Cls K C)(_:Meth K C m f)(_:t σ H1 (AgF sp E Q x))
def Al0 (K:NA)(m:Str)(f:NX)(sp:Sp)(E:XK)(ta:TE)(t:TA)(σ:St)(H:Hp)(Q:VK):Prop:=ta σ H (AgG K m f sp E t σ Q)
theorem AgH{K:NA}(z:K=X.K)(N:PE X o ta)(F:BR X.prog X.w X.K X.mg X.base CX k f fd ps sp)(v:BX k X.A)(y:Binds X.K fd ps [])(B:Passes CX X E)(J:PA X (e::es) t)
  (b:starEach (e::es) X.env=(false,eval e X.env)::starEach es X.env:=by rfl) (d:(backTo pos (starEach es X.env)).any (·.1)=false:=by rfl)
  (L:eval (.Call (.Attribute o m apos) (e::es) [] pos) X.env=(do
   let ov <-eval o X.env
   standAt apos.atName
   let (f,first) <-holding [ov] (getMethod ov m pl)
   callWith pos f first (backTo pos (starEach (e::es) X.env)) (backToKw pos (keywordEach [] X.env))):=by rfl) :
  PE X (.Call (.Attribute o m apos) (e::es) [] pos) (Al0 K m f sp E ta t):=by
 subst z;intro pins s σ H Q I h;refine W.methodCall_KW (thn (N pins s σ H _ I h) λu p ⟨x,H1,i,G,a,dx,fs,C,ex,ea,l,c,n,q⟩=>?_) L;subst ex;obtain rfl:u=Value.ref a:=G;refine V2 i ea c n l ?_;refine W.callWith_K I.ok.mod.kin n.kp (thn (J pos pins p σ H1 _ i q) λus O ⟨vs,H2,j,r,D⟩=>⟨j.kIn,?_⟩) b d;exact Z7 (vs:=.ref a::vs) F v y .nil B j (.cons Z r) (by simpa using D)
end
inductive AdA (x:V)(vs:Nn)(H:Hp)(Q:VK):Prop
|mk(z:Str)(y:Str)(_:x=.str z)(_:vs=[.str y])(_:z.length<=sizeLine)(_:Q (.str (Txt.stripChars z y)) H)
theorem AbD:MtR X "str.strip" AdA:=by intro pins s σ H x vs v us Q I a rv h;obtain⟨z,y,rfl,rfl,c,q⟩:=h;obtain⟨t,rfl⟩:=a;obtain⟨u',rfl,b⟩:=rv.one;obtain⟨t',rfl⟩:=b;exact SC.stripChars (λt' k=>⟨.str _,H,I.tok _,⟨_,Z⟩,q⟩) c
inductive AbE (x:V)(vs:Nn)(H:Hp)(Q:VK):Prop
|mk(z:Str)(y:Str)(_:x=.str z)(_:vs=[.str y])(_:Q (.bl (Txt.startswith z y)) H)
theorem R6:MtR X "str.startswith" AbE:=by intro pins s σ H x vs v us Q I a rv h;obtain⟨z,y,rfl,rfl,q⟩:=h;obtain⟨t,rfl⟩:=a;obtain⟨u',rfl,b⟩:=rv.one;obtain⟨t',rfl⟩:=b;exact SC.startswith ⟨.bl _,H,I,Z,q⟩
def trim(u:NL):NL:=((u.dropWhile λc=>decide (c=32)).reverse.dropWhile λc=>decide (c=32)).reverse
theorem Aam(c:Nat):(tx [32]).cps.contains c=decide (c=32):=by
 show(#[32]:Array Nat).contains c=_;by_cases h:c=32
 ·simp
 ·simp_all
theorem Al1{p:Nat->Bool}(l:NL):l.drop (l.takeWhile p).length=l.dropWhile p:=by
 induction l with
 |nil=>rfl
 |cons a l b =>
  rw[List.takeWhile_cons,List.dropWhile_cons];by_cases h:p a=true
  ·rw[z8 h,z8 h];exact b
  ·rw[z7 h,z7 h];rfl
theorem Al2(u:NL):Txt.stripChars (tx u) (tx [32])=tx (trim u):=by
 rw[Txt.stripChars,W.stripBy_eq];have h:=funext Aam;rw[h];unfold W.stripped;simp only [if_true];rw[Cv];generalize d:(λc:Nat=>decide (c=32))=p;have i:=Al1 (p:=p) u;have m:(u.takeWhile p).length+(u.dropWhile p).length=u.length:=by
  have:= congrArg List.length (Au6 (p:=p) (l:=u));rw[Atm]at this;exact this
 unfold Builtin.Str.strSub trim;rw[d];apply congrArg;apply Array.ext';rw[Array.toList_extract,ZR];rw[List.extract_eq_drop_take,i];have f:((u.dropWhile p).reverse.takeWhile p).length+((u.dropWhile p).reverse.dropWhile p).length=(u.dropWhile p).length:=by
  have:= congrArg List.length (Au6 (p:=p) (l:=(u.dropWhile p).reverse));rw[Atm,AtH]at this;exact this
 have e:u.length-((u.dropWhile p).reverse.takeWhile p).length-(u.takeWhile p).length=((u.dropWhile p).reverse.dropWhile p).length:=As
 rw[e];have a:(u.dropWhile p)=((u.dropWhile p).reverse.dropWhile p).reverse++((u.dropWhile p).reverse.takeWhile p).reverse:=by
  rw[<-List.reverse_append,Au6,List.reverse_reverse]
 generalize j:((u.dropWhile p).reverse.dropWhile p)=b at a ⊢;rw[a,List.take_append_of_le_length (by rw[AtH];exact AsY _),AtF (by rw[AtH];exact AsY _)]
theorem AgI(u:NL)(c:Nat):Txt.startswith (tx u) (tx [c])=decide (u.head?=some c):=by
 unfold Txt.startswith Builtin.Str.subAt;rw[Cv];cases u with
 |nil=>rfl
 |cons a u =>
  have e:((tx (a::u)).cps.extract 0 (0+[c].length))=#[a]:=by
   apply Array.ext';rw[Array.toList_extract];rfl
  rw[e];show(decide (0+1<=u.length+1) && (#[a] == #[c]))=_;grind
theorem Inv.Lj{its:NO}(I:Inv X pins σ H s)
  (k:∀b o,b∉its->s.heap.get? b=some o->h'.get? b=some o) (d:∀b∈its,Jx X pins H b):Inv X pins σ H {s with heap:=h',toks:=t'}:=by
 have a:∀b u,H b=some u->b∉its:=λb u e z=>by
  have:=(d b z).1;rw[this]at e;cases e
 have j:X.env.locals∉its:=λz=>(d _ z).2.1 Z;refine I.step (g':=s.gens) (d':=s.drawn) (ch:=its) (λb l=>?_) (λb o _ _ hc e _=>k b o hc e) (λb o _ _ hc e _=>⟨o.slots,k b o hc e⟩) (λ_ _ _ _ n=>n)
  (λb o hc e=>⟨o,k b o hc e⟩) (λ_ _ e=>e) (λ_ _ _ e=>e) (λb ps e=>⟨#[],by rw[e];simp⟩) (λm f=>?_) (λb u e=>?_) I.bare
 ·obtain⟨_,h2,_,h,i,t⟩:=d b l;exact⟨h,h2,i,t⟩
 ·obtain⟨o,es,ep,p,r⟩:=f;exact⟨o,es,ep,k _ o j p,r⟩
 ·refine(I.hok b u e).stay (λc v hc q=>k c v ?_ q) (λ_ q=>q) λ_ _ q=>q;rcases hc with z|z
  ·rw[z];exact a b u e
  ·exact a c _ z
section
theorem Wh(a:A.handled=none)(it:NX)(x:Str)(t:Tok):Draws prog w A it [it] x.cps.size (λi v=>∃c u,x.cps[i]?=some c/\v=.str ⟨#[c]⟩ u) (λi h=>h.IsStrIter it (strIterType x) x t i):=by
 unfold strIterType;split
 ·exact Draws.strAscii a it x t
 ·exact Draws.strWide a it x t
structure R7 (z TI TO i1 i2:NX):Prop where
 TIz:TI≠z
 TOz:TO≠z
 i1z:i1≠z
 i2z:i2≠z
 TITO:TI≠TO
 TIi1:TI≠i1
 TIi2:TI≠i2
 TOi1:TO≠i1
 TOi2:TO≠i2
 i12:i1≠i2
theorem AgJ{TI TO:NX}{k:Nat}{a:Nd}{Q:NS}(D:R7 z TI TO i1 i2)
  (D1:∀A':Around,A'.handled=none->Draws prog w A' i1 fp1 n1 P1 S1) (D2:∀A':Around,A'.handled=none->Draws prog w A' i2 fp2 n2 P2 S2) (L:A.handled=none)
  (Y:∀c∈fp1,c≠z/\c≠TO/\c≠i2) (f2:∀c∈fp2,c≠z/\c≠TO/\c≠i1)
  (hz:IsZip s.heap z TI TO .none) (a5:IsPair s.heap TI (.ref i1) (.ref i2)) (a8:IsPair s.heap TO a b) (h1:S1 k s.heap) (h2:S2 k s.heap) (a4:k<n1) (a6:k<n2)
  (hQ:∀x y h' tk,P1 k x->P2 k y->IsZip h' z TI TO (rawInt s.heap.objs.size)->IsPair h' TO x y->S1 (k+1) h'->S2 (k+1) h'->IsPair h' s.heap.objs.size x y->h'.objs.size=s.heap.objs.size+1 ->
   (∀c o,c≠z->c≠TO->c≠i1->c≠i2->s.heap.get? c=some o->h'.get? c=some o)->Q (.ref s.heap.objs.size) {s with heap:=h',toks:=tk}) :
  wpAny (model prog w) A (Builtin.«zip.__next__» ⟨[.ref z],[]⟩) (λa3 s'=>∃v,a3=.done (.ret v)/\Q v s') E s:=by
 show wpAny _ _ (field (.ref z) 2 >>= _) _ _ _;refine zA (zV hz Z (x:=.bool false) Z ?_);refine zA (zV hz Z (x:=.ref TI) Z ?_);refine zA (yK a5 Z ?_);refine zA ?_;refine zA (zV hz Z (x:=.none) Z (zE ?_));refine zA (wpAny_rule ?_);refine zA (zV hz Z (x:=.ref TO) Z ?_);refine zA (wpAny_setField_rec hz At λh₁ O l=>?_);refine zA ?_;simp only [List.zipIdx_cons,List.zipIdx_nil,Aud,List.forIn_nil];refine zA (zA (wpAny_onRaise ?_));refine zA ((D1 _ L).item k _ _ _ a4 ((D1 A L).frame _ _ _ h1 λc hc o e=>l.extBut _ _ (Y c hc).1 e) λx I a7 px W h=>zE ?_);have h:Heap.SameBut i1 h₁ I:=h;have u:=h.extBut _ _ D.TOi1 (l.extBut _ _ D.TOz a8);refine zA (yK u Z ?_);refine zA (wpAny_updateSeq_pair u λK H f=>?_);have f:Heap.SameBut TO I K:=f;refine zA (wpAny_letGo (zE ?_));refine zA (zA (wpAny_onRaise ?_));refine zA ((D2 _ L).item k _ _ _ a6 ((D2 A L).frame _ _ _ h2 λc hc o e=>f.extBut _ _ (f2 c hc).2.1 (h.extBut _ _ (f2 c hc).2.2 (l.extBut _ _ (f2 c hc).1 e))) λy a0 T py X d=>zE ?_);have d:Heap.SameBut i2 K a0:=d;have t:=d.extBut _ _ D.TOi2 H;refine zA (yK t Z ?_);refine zA (wpAny_updateSeq_pair t λm i j=>?_)
 replace i:IsPair m TO x y:=i
 refine zA (wpAny_letGo (zE (zE ?_)));refine zA (yK i Z ?_);refine zA (wpAny_newTuple ?_);have hsz:m.objs.size=s.heap.objs.size:=by rw[j.1,d.1,f.1,h.1,l.1]
 have F:=j.extBut _ _ D.TOz.symm (d.extBut _ _ D.i2z.symm (f.extBut _ _ D.TOz.symm (h.extBut _ _ D.i1z.symm O)));have U:∀c o,c≠z->c≠TO->c≠i1->c≠i2->s.heap.get? c=some o->m.get? c=some o:=λc o P c2 c3 c4 e =>
  j.extBut _ _ c2 (d.extBut _ _ c4 (f.extBut _ _ c2 (h.extBut _ _ c3 (l.extBut _ _ P e))));have N:=(D1 A L).frame _ _ _ W λc hc o e=>j.extBut _ _ (Y c hc).2.1 (d.extBut _ _ (Y c hc).2.2 (f.extBut _ _ (Y c hc).2.1 e));have S:=(D2 A L).frame _ _ _ X λc hc o e=>j.extBut _ _ (f2 c hc).2.1 e;have J:=yA F;refine zA ?_;have R:IsZip (m.push {cls:=.type "tuple",data:=.seq #[x,y]}) z TI TO .ellipsis:=zB _ F;refine zA (wpAny_setField_rec R At λa1 n p=>?_)
 replace n:IsZip a1 z TI TO (rawInt m.objs.size):=n
 refine wpAny_setField_rec n At λG C r=>?_;have up:∀c o,c≠z->m.get? c=some o->G.get? c=some o:=λc o P e=>r.extBut _ _ P (p.extBut _ _ P (zB _ e));have B:=r.extBut _ _ (Atr J) (p.extBut _ _ (Atr J) (zD _ Z));have a2:G.objs.size=m.objs.size+1:=by rw[r.1,p.1,yG]
 rw[hsz]at C B a2;refine zE ⟨_,Z,?_⟩;rw[hsz];exact hQ x y G T px py C (up _ _ D.TOz i) ((D1 A L).frame _ _ _ N λc hc o e=>up _ o (Y c hc).1 e) ((D2 A L).frame _ _ _ S λc hc o e=>up _ o (f2 c hc).1 e) B a2 λc o P c2 c3 c4 e=>up c o P (U c o P c2 c3 c4 e)
theorem AiJ{TI TO:NX}{k:Nat}{a:Nd}{Q:Fin->Na->Prop}(D:R7 z TI TO i1 i2)
  (N:∀A':Around,A'.handled=none->Draws prog w A' i1 fp1 n1 P1 S1) (W:∀A':Around,A'.handled=none->Draws prog w A' i2 fp2 n2 P2 S2) (G:A.handled=none)
  (f1:∀c∈fp1,c≠z/\c≠TO/\c≠i2) (R:∀c∈fp2,c≠z/\c≠TO/\c≠i1)
  (H:IsZip s.heap z TI TO .none) (O:IsPair s.heap TI (.ref i1) (.ref i2)) (T:IsPair s.heap TO a b) (h1:S1 k s.heap) (h2:S2 k s.heap) (F:k=n1\/(k<n1/\k=n2))
  (X:∀h' e tk,(∀c o,c≠z->c≠TO->c≠i1->c≠i2->s.heap.get? c=some o->h'.get? c=some o)->(∃o,h'.get? e=some o/\o.cls=.type "StopIteration")->E (.ref e) {s with heap:=h',toks:=tk}) :
  wpAny (model prog w) A (Builtin.«zip.__next__» ⟨[.ref z],[]⟩) Q E s:=by
 show wpAny _ _ (field (.ref z) 2 >>= _) _ _ _;refine zA (zV H Z (x:=.bool false) Z ?_);refine zA (zV H Z (x:=.ref TI) Z ?_);refine zA (yK O Z ?_);refine zA ?_;refine zA (zV H Z (x:=.none) Z (zE ?_));refine zA (wpAny_rule ?_);refine zA (zV H Z (x:=.ref TO) Z ?_);refine zA (wpAny_setField_rec H At λh₁ n h=>?_);refine zA ?_;simp only [List.zipIdx_cons,List.zipIdx_nil,Aud,List.forIn_nil];refine zA (zA (wpAny_onRaise ?_));have Y:=(N A G).frame _ _ _ h1 λc hc o e=>h.extBut _ _ (f1 c hc).1 e;rcases F with hk|⟨K,hk⟩
 ·subst hk;refine zA ((N _ G).done _ _ _ Y λi e d U=>?_);obtain⟨oe,t,y⟩:=U;have u:IsZip i z TI TO .ellipsis:=d _ _ D.i1z.symm n;have v:e≠z:=λx=>by grind
  refine wpAny_setField_rec u At λp _ f=>X p e _ (λc o C _ L _ x=>f.extBut _ _ C (d _ _ L (h.extBut _ _ C x))) ⟨oe,f.extBut _ _ v t,y⟩
 ·refine zA ((N _ G).item k _ _ _ K Y λx i P px S d=>zE ?_);have d:Heap.SameBut i1 h₁ i:=d;have j:=d.extBut _ _ D.TOi1 (h.extBut _ _ D.TOz T);refine zA (yK j Z ?_);refine zA (wpAny_updateSeq_pair j λp J f=>?_);have f:Heap.SameBut TO i p:=f;refine zA (wpAny_letGo (zE ?_));refine zA (zA (wpAny_onRaise ?_));subst hk;refine zA ((W _ G).done _ _ _ ((W A G).frame _ _ _ h2 λc hc o e=>f.extBut _ _ (R c hc).2.1 (d.extBut _ _ (R c hc).2.2 (h.extBut _ _ (R c hc).1 e))) λB e m U=>?_);obtain⟨oe,t,y⟩:=U;have r:IsZip B z TI TO .ellipsis:=m _ _ D.i2z.symm (f.extBut _ _ D.TOz.symm (d.extBut _ _ D.i1z.symm n));have v:e≠z:=λx=>by grind
  refine wpAny_setField_rec r At λI _ l=>X I e _ (λc o C c2 L c4 x=>l.extBut _ _ C (m _ _ c4 (f.extBut _ _ c2 (d.extBut _ _ L (h.extBut _ _ C x))))) ⟨oe,l.extBut _ _ v t,y⟩
theorem AdB{TI TO:NX}{k:Nat}{a:Nd}(D:R7 z TI TO i1 i2)
  (m:∀A':Around,A'.handled=none->Draws prog w A' i1 fp1 n1 P1 S1) (J:∀A':Around,A'.handled=none->Draws prog w A' i2 fp2 n2 P2 S2) (H:A.handled=none)
  (l:∀c∈fp1,c≠z/\c≠TO/\c≠i2) (I:∀c∈fp2,c≠z/\c≠TO/\c≠i1)
  (j:IsZip s.heap z TI TO .none) (d:IsPair s.heap TI (.ref i1) (.ref i2)) (h:IsPair s.heap TO a b) (h1:S1 k s.heap) (h2:S2 k s.heap) (e:k<n1) (f:k<n2)
  (n:∀x y h' tk,P1 k x->P2 k y->IsZip h' z TI TO (rawInt s.heap.objs.size)->IsPair h' TO x y->S1 (k+1) h'->S2 (k+1) h'->IsPair h' s.heap.objs.size x y->h'.objs.size=s.heap.objs.size+1 ->
   (∀c o,c≠z->c≠TO->c≠i1->c≠i2->s.heap.get? c=some o->h'.get? c=some o)->Q (some (.ref s.heap.objs.size)) {s with heap:=h',toks:=tk}) :
  wpAny (model prog w) A (pyNext (.ref z)) Q E s:=by
 have i:s.TypeIs (.ref z) "zip":= ⟨_,j,Z⟩;exact zA (wpAny_attempt (wpAny_callSpecial?_slot i F.slot_zip_next
  (yL F.slot_zip_next i F.entry_zip_next
   (AgJ D m J H l I j d h h1 h2 e f λx y h' tk B v p t C G u K r=>zE (n x y h' tk B v p t C G u K r)) (F.args_zip_next_1 _))))
theorem AgK{TI TO:NX}{k:Nat}{a:Nd}(D:R7 z TI TO i1 i2)
  (m:∀A':Around,A'.handled=none->Draws prog w A' i1 fp1 n1 P1 S1) (t:∀A':Around,A'.handled=none->Draws prog w A' i2 fp2 n2 P2 S2) (p:A.handled=none)
  (l:∀c∈fp1,c≠z/\c≠TO/\c≠i2) (r:∀c∈fp2,c≠z/\c≠TO/\c≠i1)
  (j:IsZip s.heap z TI TO .none) (f:IsPair s.heap TI (.ref i1) (.ref i2)) (h:IsPair s.heap TO a b) (h1:S1 k s.heap) (h2:S2 k s.heap) (d:k=n1\/(k<n1/\k=n2))
  (n:∀h' tk,(∀c o,c≠z->c≠TO->c≠i1->c≠i2->s.heap.get? c=some o->h'.get? c=some o)->Q none {s with heap:=h',toks:=tk}):wpAny (model prog w) A (pyNext (.ref z)) Q E s:=by
 have i:s.TypeIs (.ref z) "zip":= ⟨_,j,Z⟩;refine zA (wpAny_attempt (wpAny_callSpecial?_slot i F.slot_zip_next
  (yL F.slot_zip_next i F.entry_zip_next (AiJ D m t p l r j f h h1 h2 d λh' e tk hk u=>?_) (F.args_zip_next_1 _))));obtain⟨o,v,hc⟩:=u;refine zA (wpAny_isInstance ⟨o,v,hc⟩ isSubtype_stop ?_);exact zE (n _ _ hk)
abbrev Py (x:Str)(t:Tok):Obj:={cls:=.type (strIterType x),data:=.fields #[.str x t,.int 0 0]}
abbrev AiK (l:NX):Obj:={cls:=.type "list_iterator",data:=.fields #[.ref l,.int 0 0]}
abbrev Gy (h:Heap)(o1 o2:Obj):Heap:=((((h.push o1).push o2).push {cls:=.type "tuple",data:=.seq #[.ref h.objs.size,.ref (h.push o1).objs.size]}).push {cls:=.type "tuple",data:=.seq #[.none,.none]}).push
 {cls:=.type "zip",data:=.fields #[.none,.bool false,.bool false,.ref ((h.push o1).push o2).objs.size,.ref (((h.push o1).push o2).push {cls:=.type "tuple",data:=.seq #[.ref h.objs.size,.ref (h.push o1).objs.size]}).objs.size]}
abbrev Y5 (h:Heap)(o1 o2:Obj):Addr:=((((h.push o1).push o2).push {cls:=.type "tuple",data:=.seq #[.ref h.objs.size,.ref (h.push o1).objs.size]}).push {cls:=.type "tuple",data:=.seq #[.none,.none]}).objs.size
set_option maxHeartbeats 4000000 in
theorem AbF(a:NX)(xs:Array Nd)(x:Str)(t:Tok) :
  Meets (Builtin.«zip.__new__» ⟨[.type "zip",.ref a,.str x t],[]⟩) (λ_ R s=>s.heap.IsList a xs/\R (.ok (.ret (.ref (Y5 s.heap (AiK a) (Py x t))))) {s with heap:=Gy s.heap (AiK a) (Py x t)}):=
 .of_wp λprog w A R s h=>by
  obtain⟨f,g,d,tk,os⟩:=s;obtain⟨b,h⟩:=h;have e:=sub_zip;have c:Heap.IsList (Shared.heap ⟨f,g,d,tk,os⟩) a xs:=b
  wp_walk using wpAny_pyIter_list c,wpAny_pyIter_strU
  exact⟨_,Z,h⟩
set_option maxHeartbeats 4000000 in
theorem AbG(y:Str)(u:Tok)(x:Str)(t:Tok) :
  Meets (Builtin.«zip.__new__» ⟨[.type "zip",.str y u,.str x t],[]⟩) (λ_ R s=>R (.ok (.ret (.ref (Y5 s.heap (Py y u) (Py x t))))) {s with heap:=Gy s.heap (Py y u) (Py x t)}):=
 .of_wp λprog w A R s h=>by
  obtain⟨b,g,d,tk,os⟩:=s;have a:=sub_zip
  wp_walk using wpAny_pyIter_strU
  exact⟨_,Z,h⟩
end
inductive Src where
 |l (a:NX)
 |s (z:Str)
def AoB:Src->V
 | .l a=>.ref a
 | .s z=>.str z
def Pz (K:NA)(H:Hp):Src->Prop
 | .l a=>∃xs,SqL K H a xs
 | .s _=>True
def HY (K:NA)(H:Hp):Src->Nat->V->Prop
 | .l a,i,v=>∃xs,SqL K H a xs/\xs[i]?=some v
 | .s z,i,v=>∃c,z.cps[i]?=some c/\v=.str ⟨#[c]⟩
def R8 (K:NA)(H:Hp):Src->Nat->Prop
 | .l a,i=>∃xs,SqL K H a xs/\xs.length=i
 | .s z,i=>z.cps.size=i
def P0 (it:NX)(t:Tok):Src->Nat->Heap->Prop
 | .l a,i,h=>h.IsListIter it a i
 | .s z,i,h=>h.IsStrIter it (strIterType z) z t i
def AiL (it:NX):Src->NO
 | .l a=>[it,a]
 | .s _=>[it]
theorem Wj(I:Inv X pins σ H s){u v:V}(h1:HY X.K H S i u)(h2:HY X.K H S i v):u=v:=by
 cases S with
 |l a =>
  obtain⟨xs,e,e1⟩:=h1;obtain⟨ys,f,b⟩:=h2;rw[I.Jw f e,e1]at b;exact yB b
 |s z =>
  obtain⟨c,e1,rfl⟩:=h1;obtain⟨d,b,rfl⟩:=h2;rw[e1]at b;cases b;rfl
theorem Lk(I:Inv X pins σ H s)(st:P0 it t S i s.heap)(ok:Pz X.K H S)(y:∀a,S=.l a->a≠it) :
  ∃(n:Nat)(Pd:Nat->Nd->Prop)(h:Nat->Heap->Prop),(∀A':Around,A'.handled=none->Draws X.prog X.w A' it (AiL it S) n Pd h)/\h i s.heap/\(∀h',h (i+1) h'->P0 it t S (i+1) h') /\
   (∀v,HY X.K H S i v->i<n/\∀u,Pd i u->RelV v u)/\(R8 X.K H S i->i=n):=by
 cases S with
 |l a =>
  obtain⟨xs,q⟩:=ok;obtain⟨its,rv,p1,_⟩:=I.list q;have len:=rv.length;refine⟨_,_,_,λA' m=>Draws.list m it a (y a Z) its.toArray,⟨st,p1.isList⟩,λh' z=>z.1,λv f=>?_,λo=>?_⟩
  ·obtain⟨ys,p,e⟩:=f;rw[I.Jw p q]at e;obtain⟨u,b,r⟩:=rv.get e;refine⟨by have:= (zC.mp b).1;simpa using this,λu' j=>?_⟩;have:its[i]?=some u':=by simpa using j
   grind
  ·obtain⟨ys,p,e⟩:=o;rw[I.Jw p q]at e;grind
 |s z =>
  refine⟨_,_,_,λA' m=>Wh m it z t,st,λh' z=>z,λv f=>?_,λo=>o.symm⟩;obtain⟨c,e,rfl⟩:=f;refine⟨by rw[Array.getElem?_eq_some_iff]at e;exact e.1,λu ⟨d,tk,x,b⟩=>?_⟩;rw[e]at x;cases x;exact⟨tk,b⟩
def AoC (K:NA)(S1 S2:Src):It where
 go:=λi H=>(∃u,HY K H S1 i u)/\∃v,HY K H S2 i v
 yld:=λi H x H'=>∃T,x=.ref T/\H T=none/\∀u v,HY K H S1 i u->HY K H S2 i v->H'=upd H T (.tup [u,v])
 stop:=λi H=>Pz K H S1/\Pz K H S2/\(R8 K H S1 i\/((∃u,HY K H S1 i u)/\R8 K H S2 i))
theorem AbH{K:NA}{u:V}(h:HY K H S i u):Pz K H S:=by
 cases S with
 |l a=>obtain⟨xs,q,_⟩:=h;exact⟨xs,q⟩
 |s z=>trivial
def AoD (z TI TO i1 i2:NX)(t1 t2:Tok)(S1 S2:Src)(i:Nat)(h:Heap):Prop:=IsZip h z TI TO .none/\IsPair h TI (.ref i1) (.ref i2)/\(∃p q,IsPair h TO p q)/\P0 i1 t1 S1 i h/\P0 i2 t2 S2 i h
theorem PB(st:P0 it t S i h)(k:∀o,h.get? it=some o->h'.get? it=some o):P0 it t S i h':=by
 cases S with
 |l a=>exact Heap.IsListIter.at st k
 |s z=>obtain⟨o,e,c⟩:=st;exact⟨o,k o e,c⟩
theorem Ln(st:P0 it t S i h):∃o,h.get? it=some o/\∀v,o.data≠.cell v:=by
 cases S with
 |l a=>obtain⟨o,e,_,d⟩:=st;exact⟨o,e,λv z=>Au⟩
 |s z=>obtain⟨o,e,_,d⟩:=st;exact⟨o,e,λv z=>Au⟩
theorem AgL{K:NA}{TI TO:NX}{t1 t2:Tok}{S1 S2:Src}(D:R7 z TI TO i1 i2)
  (A:∀a,S1=.l a->a≠z/\a≠TO/\a≠i1/\a≠i2) (t:∀a,S2=.l a->a≠z/\a≠TO/\a≠i1/\a≠i2) :
  Turn P w K (.Tuple es kx tp) (AoC K S1 S2) [z,TI,TO,i1,i2] z (AoD z TI TO i1 i2 t1 t2 S1 S2):=by
 have f1:∀c∈AiL i1 S1,c≠z/\c≠TO/\c≠i2:=λc hc=>by
  cases S1 with
  |l a =>
   rcases zZ.mp hc with e|e
   ·subst e;exact⟨D.i1z,D.TOi1.symm,D.i12⟩
   ·rw[zF.mp e];exact⟨(A a Z).1,(A a Z).2.1,(A a Z).2.2.2⟩
  |s x=>rw[zF.mp hc];exact⟨D.i1z,D.TOi1.symm,D.i12⟩
 have f2:∀c∈AiL i2 S2,c≠z/\c≠TO/\c≠i1:=λc hc=>by
  cases S2 with
  |l a =>
   rcases zZ.mp hc with e|e
   ·subst e;exact⟨D.i2z,D.TOi2.symm,D.i12.symm⟩
   ·rw[zF.mp e];exact⟨(t a Z).1,(t a Z).2.1,(t a Z).2.2.1⟩
  |s x=>rw[zF.mp hc];exact⟨D.i2z,D.TOi2.symm,D.i12.symm⟩
 exact {
  mem:=At
  obj:=λi h st c hc=>by
   obtain⟨m,d,⟨p,q,n⟩,b,j⟩:=st;simp only [Ati,Atl,yE]at hc;rcases hc with e|e|e|e|e
   ·simp_all
   ·simp_all
   ·simp_all
   ·subst e;exact Ln b
   ·subst e;exact Ln j
  keep:=λi h h' st k=>by
   obtain⟨m,d,⟨p,q,n⟩,b,j⟩:=st;exact⟨k _ At _ m,k _ At _ d,⟨p,q,k _ At _ n⟩,PB b λo e=>k _ At o e,PB j λo e=>k _ At o e⟩
  item:=by
   intro X Q hw R hc i pins s σ H E I O st N;subst Q hw R;obtain⟨⟨x,G⟩,y,T⟩:=N;obtain⟨m,d,⟨p,q,n⟩,b,j⟩:=st;obtain⟨n1,P1,Q1,L,J,e1,F,_⟩:=Lk I b (AbH G) (λa e=>(A a e).2.2.1);obtain⟨n2,P2,Q2,S,g2,e2,v2,_⟩:=Lk I j (AbH T) (λa e=>(t a e).2.2.2);obtain⟨l1,r1⟩:=F x G;obtain⟨l2,r2⟩:=v2 y T;refine AdB D L S (I.ok.hd hc) f1 f2 m d n J g2 l1 l2 λu v h1 tk pu pv z1 w1 j1 j2 hT hsz C=>?_;have ru:=r1 u pu;have Y:=r2 v pv;refine⟨_,Z,wpAny_letOwnedTupleGo_zip z1 λh2 z2 sb=>?_⟩;have zl:=yA m;have a0:=yA d;have a3:=yA n;have a5:i1<s.heap.objs.size:=by obtain⟨_,e,_⟩:=Ln b;exact yA e
   have a4:i2<s.heap.objs.size:=by obtain⟨_,e,_⟩:=Ln j;exact yA e
   have up:∀c o,c≠z->h1.get? c=some o->h2.get? c=some o:=λc o c1 e=>(sb.2 c c1).trans e;have W:=I.hok.fresh (AsY _);have I1:Inv X pins σ (upd H s.heap.objs.size (.tup [x,y])) {s with heap:=s.heap.push {cls:=.type "tuple",data:=.seq #[u,v]},toks:=tk}:=
    I.laid (λc o e=>zB _ e) (AsY _) ⟨by show 2<=sizeLine;decide,[u,v],.cons ru (.cons Y .nil),⟨_,zD _ Z,Z,_,Z⟩⟩;have fp2:∀c∈[z,TI,TO,i1,i2],Jx X pins (upd H s.heap.objs.size (.tup [x,y])) c:=λc hc=>by
    obtain⟨f0,f⟩:=O c hc;refine⟨?_,f⟩;have lt:c<s.heap.objs.size:=by
     simp only [Ati,Atl,yE]at hc;rcases hc with e|e|e|e|e<;>subst e<;>assumption
    rw[Af (Atb lt)];exact f0
   have I2:Inv X pins σ (upd H s.heap.objs.size (.tup [x,y])) {s with heap:=h2,toks:=tk}:=by
    refine Inv.Lj (s:={s with heap:=s.heap.push {cls:=.type "tuple",data:=.seq #[u,v]},toks:=tk}) I1 (λc o hc e=>?_) fp2;simp only [Ati,Atl,yE,not_or]at hc;refine up c o hc.1 ?_;by_cases r:c=s.heap.objs.size
    ·subst r;have U:(s.heap.push {cls:=.type "tuple",data:=.seq #[u,v]}).get? s.heap.objs.size=some {cls:=.type "tuple",data:=.seq #[u,v]}:=zD _ Z;rw[U]at e;cases e;exact hT
    ·have U:s.heap.get? c=some o:=by
      rw[<-e];exact(Heap.get?_push_ne _ _ _ r).symm
     exact C c o hc.1 hc.2.2.1 hc.2.2.2.1 hc.2.2.2.2 U
   refine⟨.ref s.heap.objs.size,_,I2,Z,⟨s.heap.objs.size,Z,W,λu' v' q1 q2=>?_⟩,⟨z2,up _ _ D.TIz (C _ _ D.TIz D.TITO D.TIi1 D.TIi2 d),⟨u,v,up _ _ D.TOz w1⟩,PB (e1 _ j1) λo e=>up _ o D.i1z e,PB (e2 _ j2) λo e=>up _ o D.i2z e⟩,λc hc=>(fp2 c hc).1⟩;rw[Wj I q1 G,Wj I q2 T]
  done:=by
   intro X Q hw R hc i pins s σ H E I O st N;subst Q hw R;obtain⟨o1,o2,B⟩:=N;obtain⟨m,d,⟨p,q,n⟩,b,j⟩:=st;obtain⟨n1,P1,Q1,L,J,e1,F,d1⟩:=Lk I b o1 (λa e=>(A a e).2.2.1);obtain⟨n2,P2,Q2,S,g2,e2,v2,d2⟩:=Lk I j o2 (λa e=>(t a e).2.2.2);have he:i=n1\/(i<n1/\i=n2):=by
    rcases B with h|⟨⟨u,hu⟩,h⟩
    ·exact .inl (d1 h)
    ·exact .inr ⟨(F u hu).1,d2 h⟩
   refine AgK D L S (I.ok.hd hc) f1 f2 m d n J g2 he λh' tk C=>⟨Z,I.Lj (λc o hc e=>?_) O⟩;simp only [Ati,Atl,yE,not_or]at hc;exact C c o hc.1 hc.2.2.1 hc.2.2.2.1 hc.2.2.2.2 e
  self:=λ_ _ _ _ _ st h=>wpAny_pyIter_zip st.1 h}
theorem AbI{o1 o2:Obj}(e1:o1.isFreed=false)(m:o2.isFreed=false):Y5 h o1 o2=h.objs.size+4/\IsZip (Gy h o1 o2) (h.objs.size+4) (h.objs.size+2) (h.objs.size+3) .none /\
  IsPair (Gy h o1 o2) (h.objs.size+2) (.ref h.objs.size) (.ref (h.objs.size+1))/\IsPair (Gy h o1 o2) (h.objs.size+3) .none .none/\(Gy h o1 o2).get? h.objs.size=some o1/\(Gy h o1 o2).get? (h.objs.size+1)=some o2 /\
  ∀c o,h.get? c=some o->(Gy h o1 o2).get? c=some o:=by
 have b:(h.push o1).objs.size=h.objs.size+1:=yG ..;have d:((h.push o1).push o2).objs.size=h.objs.size+2:=by rw[yG,b]
 have a:(((h.push o1).push o2).push {cls:=.type "tuple",data:=.seq #[.ref h.objs.size,.ref (h.push o1).objs.size]}).objs.size=h.objs.size+3:=by rw[yG,d]
 have j:Y5 h o1 o2=h.objs.size+4:=by unfold Y5;rw[yG,a]
 have e:(Gy h o1 o2).get? (Y5 h o1 o2)=some _:=zD _ Z;have f:(Gy h o1 o2).get? (((h.push o1).push o2).push {cls:=.type "tuple",data:=.seq #[.ref h.objs.size,.ref (h.push o1).objs.size]}).objs.size=some _:=zB _ (zD _ Z);have i:(Gy h o1 o2).get? ((h.push o1).push o2).objs.size=some _:=zB _ (zB _ (zD _ Z));have g2:(Gy h o1 o2).get? (h.push o1).objs.size=some o2:=zB _ (zB _ (zB _ (zD _ m)));have l:(Gy h o1 o2).get? h.objs.size=some o1:=zB _ (zB _ (zB _ (zB _ (zD _ e1))));refine⟨j,?_,?_,?_,l,?_,λc o x=>zB _ (zB _ (zB _ (zB _ (zB _ x))))⟩
 ·rw[j,d,a]at e;exact e
 ·rw[d,b]at i;exact i
 ·rw[a]at f;exact f
 ·rw[b]at g2;exact g2
theorem ane{a b:Nat}(h:a≠b):@Ne NX a b:=h
theorem lne{a:Nat}(h:a<n)(k:Nat):@Ne NX a (n+k):=λz=>by have z:a=n+k:=z;lia
theorem AdC(n:Nat):R7 (n+4) (n+2) (n+3) n (n+1) where
 TIz:=ane As
 TOz:=ane As
 i1z:=ane As
 i2z:=ane As
 TITO:=ane As
 TIi1:=ane As
 TIi2:=ane As
 TOi1:=ane As
 TOi2:=ane As
 i12:=ane As
def zOk:Src->Src->Prop
 | .s _,.l _=>False
 |_,_=>True
inductive Al3 (K:NA)(R:(It->Hp->Prop))(vs:Nn)(H1:Hp):Prop
|mk(S1:_)(S2:_)(_:vs=[AoB S1,AoB S2])(_:zOk S1 S2)(_:Pz K H1 S1)(_:Pz K H1 S2)(_:R (AoC K S1 S2) H1)
def AqY (K:NA)(ta:TA)(σ:St)(H:Hp)(R:(It->Hp->Prop)):Prop:=ta σ H (Al3 K R)
theorem Al4{K:NA}{a b:Expr}{p:Pos}(hg:Gl X "zip") (W:X.mg "zip"=none) (Y:PA X [a,b] ta) (hK:X.K=K:=by rfl) (hs:starEach [a,b] X.env=[(false,eval a X.env),(false,eval b X.env)]:=by rfl) (B:starEach [b] X.env=[(false,eval b X.env)]:=by rfl) :
  PI X (.Tuple es kx tp) (.Call (.Name "zip" p) [a,b] [] pos) (AqY K ta):=by
 subst hK;intro pins s σ H R I h;refine Call_ (Ck I hg W AnW (yC (thn (Y pos pins s σ H _ I h) λus s1 ⟨vs,H1,u,r1,q1⟩=>?_) (by rw[hs,B]) (by rw[B];rfl)));obtain⟨S1,S2,e,hz,o1,o2,q⟩:=q1;subst e;obtain⟨u1,u2,rfl,v,n⟩:=r1.two;have f:∀(t1 T:Tok)(h':Heap)(tk:Nat),IsZip h' (s1.heap.objs.size+4) (s1.heap.objs.size+2) (s1.heap.objs.size+3) .none->IsPair h' (s1.heap.objs.size+2) (.ref s1.heap.objs.size) (.ref (s1.heap.objs.size+1))->IsPair h' (s1.heap.objs.size+3) .none .none ->
   P0 s1.heap.objs.size t1 S1 0 h'->P0 (s1.heap.objs.size+1) T S2 0 h'->(∀c o,s1.heap.get? c=some o->h'.get? c=some o) ->
   wpAny (model X.prog X.w) X.A (pyIter (.ref (s1.heap.objs.size+4))) (PIE X pins σ (.Tuple es kx tp) R) X.xe {s1 with heap:=h',toks:=tk}:=λt1 T h' tk d j r L D m=>by
  refine wpAny_pyIter_zip d ?_;have lt:∀S:Src,Pz X.K H1 S->∀a,S=.l a->a<s1.heap.objs.size:=λS ok a e=>by
   subst e;obtain⟨xs,q⟩:=ok;obtain⟨its,_,p1,_⟩:=u.list q;obtain⟨o,e,_⟩:=p1.isList;exact yA e
  refine⟨_,[s1.heap.objs.size+4,s1.heap.objs.size+2,s1.heap.objs.size+3,s1.heap.objs.size,s1.heap.objs.size+1],_,_,H1,Z,u.kept m,AgL (AdC _) (λa e=>?_) (λa e=>?_),
   ⟨d,j,⟨_,_,r⟩,L,D⟩,λc hc=>?_,q⟩
  ·have:= lt S1 o1 a e;exact⟨lne this 4,lne this 3,lne this 0,lne this 1⟩
  ·have:= lt S2 o2 a e;exact⟨lne this 4,lne this 3,lne this 0,lne this 1⟩
  ·have le:s1.heap.objs.size<=c:=by
    grind
   exact u.AfQ le (u.hok.fresh le)
 cases S1 with
 |l a =>
  cases v;obtain⟨xs,P⟩:=id o1;obtain⟨J,a0,p1,_⟩:=u.list P;cases S2 with
  |l b =>
   cases n;obtain⟨ys,N⟩:=id o2;obtain⟨Q,U,p2,_⟩:=u.list N;refine call_zip_2 p1.isList p2.isList λh' d j r L D hsz m=>f 0 0 h' s1.toks d j r L D m
  |s x =>
   obtain⟨t,rfl⟩:=n;refine callType_new F.called_zip Ab (F.typeCall_zip_2 _ _) (F.newCall_zip_2 _ _) (λi=>F.args_object_init_3 i _ _) F.entry_zip_new (AbF a J.toArray x t) ⟨p1.isList,?_⟩;obtain⟨O,z,E,C,G,g2,m⟩:=AbI (o1:=AiK a) (o2:=Py x t) Z rfl;show _/\_;rw[O];exact⟨⟨_,z,Z⟩,f 0 t _ s1.toks z E C ⟨_,G,Z,Z⟩ ⟨_,g2,Z,Z⟩ m⟩
 |s y =>
  obtain⟨t1,rfl⟩:=v;cases S2 with
  |l b=>exact hz.elim
  |s x =>
   obtain⟨t,rfl⟩:=n;refine callType_new F.called_zip Ab (F.typeCall_zip_2 _ _) (F.newCall_zip_2 _ _) (λi=>F.args_object_init_3 i _ _) F.entry_zip_new (AbG y t1 x t) ?_;obtain⟨O,z,E,C,G,g2,m⟩:=AbI (o1:=Py y t1) (o2:=Py x t) Z rfl;rw[O];exact⟨⟨_,z,Z⟩,f t1 t _ s1.toks z E C ⟨_,G,Z,Z⟩ ⟨_,g2,Z,Z⟩ m⟩
theorem AgM:typeLookup (.type "list_reverseiterator") "__len__"=pure none:=by rw[typeLookup_type,builtinLookup_eq_fast];kernel_rfl
theorem AiM:typeLookup (.type "list_reverseiterator") "__length_hint__"=pure (some (.builtin "list_reverseiterator.__length_hint__")):=by rw[typeLookup_type,builtinLookup_eq_fast];kernel_rfl
section
variable {R:Result->Na->Prop}{fp wr:NO}{G:Array GenState->Array GenState->Prop}{P:Nat->Nd->Prop}{St:Nat->Na->Prop}
theorem AdD(V:WalksS prog w A.in1 it fp wr G n P St)(ty:∀i s,St i s->s.TypeIs (.ref it) "list_reverseiterator") (M:NX) (a:Nd) (c:Nat) (st0:St 0 s) (m:M∉fp) (o:it∈fp) (p:s.heap.get? M=some {cls:=.type "list",data:=.seq #[] c})
  (j:∀s' acc c',Moved (M::wr) G s s'->s'.heap.get? M=some {cls:=.type "list",dict:=none,data:=.seq acc c',slots:=#[]}->ItemsOf P acc n->R (.ok (.ret a)) s') (hn:n<=sizeLine) :
  wpAny (model prog w) A.in1 (Builtin.List.listExtendWith (.ref M) (.ref it) a)
   (λf s'=>match f with|.done d=>R (.ok d) s'|.again k=>k.quiet=true/\codeAny (model prog w) A k R s') (λe s'=>R (.error e) s') s:=by
 have ne:M≠it:=λe=>m (e▸o);have u:Builtin.List.listSameRef (.ref M) (.ref it)=false:=by simp[Builtin.List.listSameRef,ne]
 unfold Builtin.List.listExtendWith;refine zA (wpAny_typeOf (ty 0 _ st0) ?_);rw[z7 (by rw[u];decide)];refine zA (V.self 0 _ _ _ st0 ?_);refine zA (zT ?_);unfold Builtin.List.listLengthHint;refine zA (wpAny_specialOf (ty 0 _ st0) AgM ?_);show wpAny _ A.in1 (specialOf (Value.ref it) (Str.ofString "__length_hint__") >>= _) _ _ _;refine zA (wpAny_specialOf (ty 0 _ st0) AiM ?_);generalize h:("list_reverseiterator.__length_hint__":String)=name
 wp_delta
 rw[show splitId name=some ("list_reverseiterator","__length_hint__") from by subst h;decide +kernel];subst h;refine zA (wpAny_isInstance (b:=true) (ty 0 _ st0) (by rw[isSubtype_type];kernel_rfl) ?_);refine zE ?_;rw[z7 Ab];refine zE ⟨plainId_quiet F.plain_extend_loop _,codeAny_extend_loopS V hn _ m _ n 0 _ _ _ Z (Atg _) st0 p (ItemsOf.nil P) λs' acc c' t l r=>?_⟩;exact j s' acc c' t l r
theorem AiN(V:WalksS prog w A.in1 it fp wr G n P St)(ty:∀i s,St i s->s.TypeIs (.ref it) "list_reverseiterator") (M:NX) (st0:St 0 s) (p:M∉fp) (r:it∈fp) (h:s.heap.get? M=some {cls:=.type "list",data:=.seq #[]})
  (c:∀s' acc c',Moved (M::wr) G s s'->s'.heap.get? M=some {cls:=.type "list",dict:=none,data:=.seq acc c',slots:=#[]}->ItemsOf P acc n->R (.ok (.ret .none)) s') (hn:n<=sizeLine) :
  wpAny (model prog w) A.in1 (Builtin.«list.__init__» ⟨[.ref M,.ref it],[]⟩)
   (λf s'=>match f with|.done d=>R (.ok d) s'|.again k=>k.quiet=true/\codeAny (model prog w) A k R s') (λe s'=>R (.error e) s') s:=by
 show wpAny _ A.in1 (do let old <-Builtin.List.listItems (.ref M);Builtin.List.listUpdate (.ref M) (λ_=>#[]);letGo old.toList.reverse;Builtin.List.listExtendWith (.ref M) (.ref it) .none) _ _ s;refine zA ?_;unfold Builtin.List.listItems;refine zA (yK h Z (zE ?_));show wpAny _ A.in1 (updateSeq M (λ_=>#[]) >>= λ_=>letGo (#[]:Array Nd).toList.reverse >>= λ_=>Builtin.List.listExtendWith (.ref M) (.ref it) .none) _ _ s;refine zA (wpAny_updateSeq h Z ?_);have m:=zN (Obj.mapSeq (λ_=>(#[]:Array Nd))) h Z;have a:∀b o,b≠M->s.heap.get? b=some o->(s.heap.update M (Obj.mapSeq (λ_=>(#[]:Array Nd)))).get? b=some o:=λb o v e=>(zH _ _ (yD v)).trans e;refine zA (wpAny_letGo ?_);refine AdD V ty M .none _ (V.frame 0 s _ s.toks st0 (AsY _) λb l o e=>a b o (λz=>p (z▸l)) e) p r m (λs' acc c' u j t=>?_) hn;exact c s' acc c' (Moved.trans V.gtrans ((Moved.refl V.grefl).then_heap (AsY _) λb o l e=>a b o (λz=>l (z▸Atk)) e) u) j t
theorem AiO{Q:NS}(V:WalksS prog w A.in1.in1 it fp wr G n P St)(ty:∀i s,St i s->s.TypeIs (.ref it) "list_reverseiterator") (st0:St 0 s) (a:∀b∈fp,b<s.heap.objs.size) (l:it∈fp)
  (c:∀s' acc c',Moved (s.heap.objs.size::wr) G {s with heap:=s.heap.push {cls:=.type "list",data:=.seq #[]} } s' ->
   s'.heap.get? s.heap.objs.size=some {cls:=.type "list",dict:=none,data:=.seq acc c',slots:=#[]}->ItemsOf P acc n->Q (.ref s.heap.objs.size) s') (hn:n<=sizeLine) :
  wpAny (model prog w) A (call (.type "list") [.ref it]) Q E s:=by
 have r:s.heap.objs.size∉fp:=λz=>At0 _ (a _ z);refine callType_codes (Q₁:=λf j=>f=.ref s.heap.objs.size/\j={s with heap:=s.heap.push {cls:=.type "list",data:=.seq #[]} }) F.called_list (F.typeCall_list_1 _) F.entry_list_init (code_list_new _ ⟨rfl,rfl⟩) λf j h1=>?_;obtain⟨rfl,rfl⟩:=h1;have h:(s.heap.push {cls:=.type "list",data:=.seq #[]}).get? s.heap.objs.size=some {cls:=.type "list",data:=.seq #[]}:=zD _ Z;refine⟨⟨_,h,Z⟩,F.args_list_init_2 _ _,AiN V ty _ (V.frame 0 s _ s.toks st0 (AsY _) λb _ o e=>zB _ e) r l h (λs' acc c' p d m=>?_) hn⟩;exact⟨Z,c s' acc c' p d m⟩
end
section
variable {K:NA}{p2 pos1 pos2:Pos}
inductive AdE (K:NA)(Q:VK)(x:V)(H1:Hp):Prop
|mk(a:_)(ys:_)(_:x=.ref a)(_:SqL K H1 a ys)(_:ys.length<=1000)(_:∀l,H1 l=none->Q (.ref l) (upd H1 l (.lst ys.reverse)))
def AiP (K:NA)(te:TE)(σ:St)(H:Hp)(Q:VK):Prop:=te σ H (AdE K Q)
theorem AdF(E:Gl X "list") (n:X.mg "list"=none) (y:Gl X "reversed") (B:X.mg "reversed"=none) (he:PE X e te) (S:X.K=K:=by rfl) (hc:X.calm=true:=by rfl)
  (f:starEach [e] X.env=(false,eval e X.env)::starEach [] X.env:=by rfl)
  (j:starEach [.Call (.Name "reversed" p2) [e] [] pos2] X.env=(false,eval (.Call (.Name "reversed" p2) [e] [] pos2) X.env)::starEach [] X.env:=by rfl)
  (D:(backTo pos1 (starEach [] X.env)).any (·.1)=false:=by rfl) (m:(backTo pos2 (starEach [] X.env)).any (·.1)=false:=by rfl) :
  PE X (.Call (.Name "list" p1) [.Call (.Name "reversed" p2) [e] [] pos2] [] pos1) (AiP K te):=by
 subst S;intro pins s σ H Q I h;have hsz:sizeLine=16777216:=zS;refine yH (Ck I E n ZW ?_);refine yC ?_ j D;rw[j];show wpAny _ _ (spliced ((false,eval (.Call (.Name "reversed" p2) [e] [] pos2) X.env)::backTo pos1 (starEach [] X.env))) _ _ s;refine yP ?_;refine yH (Ck I y B Abb ?_);refine yC ?_ f m;rw[f];show wpAny _ _ (spliced ((false,eval e X.env)::backTo pos2 (starEach [] X.env))) _ _ s;refine yP (thn (he pins s σ H _ I h) λu R ⟨x,H1,z,W,a,ys,ex,T,hy,q⟩=>?_);subst ex;cases W;refine yR ?_;obtain⟨its,r,pl,hz⟩:=z.list T;have N:=r.length;refine call_reversed_list pl.isList ?_;refine yR ?_;obtain⟨h1,g1,d1,k1,o1⟩:=R;have F:(h1.push (revObj a ((its.toArray.size:Int)-1))).IsRevIter h1.objs.size a ((its.toArray.size:Int)-1-((0:Nat):Int)):=⟨_,zD _ Z,Z,by show Data.fields _=Data.fields _;rw[show(its.toArray.size:Int)-1-((0:Nat):Int)=(its.toArray.size:Int)-1 by lia]⟩;have C:(h1.push (revObj a ((its.toArray.size:Int)-1))).IsList a its.toArray:=pl.isList.push _;obtain⟨oa,l,_⟩:=pl.isList;have c:a<h1.objs.size:=yA l;have hh:X.A.in1.in1.handled=none:=by simp[I.ok.hd hc]
 have ps:(h1.push (revObj a ((its.toArray.size:Int)-1))).objs.size=h1.objs.size+1:=yG _ _;refine AiO (Walks.toS (Walks.listRev hh h1.objs.size a (Atb c) its.toArray)) (λi s x=>x.2.1.typeIs) ⟨Atg _,F,C⟩ (λb w=>?_) At (λs' acc c' L U J=>?_) (by rw[Atd];lia)
 ·show b<(h1.push (revObj a ((its.toArray.size:Int)-1))).objs.size;rw[ps];rcases zZ.mp w with e|e
  ·rw[e];exact Aty _
  ·rw[zF.mp e];exact At5 c
 ·have vs:Vals ys.reverse acc.toList:=by
   refine Ph _ _ (by rw[AtH,N];have:=J.1;simpa using this.symm) λi x u e1 Y=>?_;have hi:i<ys.length:=by
    have:=(zC.mp e1).1
    rwa [AtH]at this
   have O:=J.2 i u (by rw[<-zL];exact Y);rw[List.getElem?_reverse hi]at e1;obtain⟨v,P,p⟩:=r.get e1;rw[Atd,<-N]at O;have G:its[ys.length-1-i]?=some u:=by simpa using O
   rw[P]at G;cases G;exact p
  rw[Moved.eq_with L];have t:s'.heap.get? (h1.objs.size+1)=some {cls:=.type "list",dict:=none,data:=.seq acc c',slots:=#[]}:=by
   have:=U;dsimp only at this;rw[ps]at this;exact this
  show EP X pins σ Q (Value.ref (h1.push (revObj a ((its.toArray.size:Int)-1))).objs.size) _;rw[ps];refine⟨.ref (h1.objs.size+1),_,z.laid (t':=s'.toks) (o:=.lst ys.reverse) (h':=s'.heap) (λb o e=>?_) (Atq _) ?_,Z,q _ (z.hok.fresh (Atq _))⟩
  ·have w:=yA e;refine L.heap b o ?_ (zB _ (zB _ e));show b∉[(h1.push (revObj a ((its.toArray.size:Int)-1))).objs.size,h1.objs.size];rw[ps];have d:b<h1.objs.size:=w;simp only [Ati,Atl,yE,not_or];exact⟨Atb (At5 d),Atb d⟩
  ·exact⟨by rw[AtH];exact hz,acc.toList,c',vs,by simpa using t⟩
end
structure Al5 (X:Cx)(x x':Str)(Nc:NU)(Aw:NL)(scope:Scope):Prop where
 kind:scope.kind=.function
 cell:∀y∈scope.names,y.2≠.cell
 names:∀y∈scope.names,y.2=.local->scope.names.lookup y.1=some .local
 fr:∀y∈scope.names,y.2=.free->X.env.scope.names.lookup y.1=some .cell/\scope.names.lookup y.1=some .free
 loc:scope.names.lookup x=some .local
 AsW:scope.names.lookup x'=some .local
 len:Nc.length=Aw.length+2
 hd:Nc[0]?=some x
 hd2:Nc[1]?=some x'
 nd:Nc.Nodup
 cap:∀k j,Aw[k]?=some j->∃y,Nc[k+2]?=some y/\X.N[j]?=some y/\scope.names.lookup y=some .free
abbrev g2 (K:NA):TG:=Anr K 2 (Aet (Em 0) (Aet (Em 1) Anq))
section
variable {x':Str}{px':Pos} (O:Al5 X x x' Nc Aw scope) (hc:X.calm=true) (hi:PI X (.Tuple [.Name x px,.Name x' px'] kx tp) iter wi)
 (htc:∀cl C fp s H,PIf (Gp X Nc scope cl C fp s H) ifs tc) (hte:∀cl C fp s H,PE (Gp X Nc scope cl C fp s H) elt te)
include O hc htc hte in
include O hc hi htc hte in
end
section
variable {E':XK}
section
variable {target:Expr}{tW:It->St->Hp->VK->Prop} (hB:Body X) (hw:∀e s',FlX X E' e s'->X.xe e s') (hk:scope.kind=.function) (hn:∀y∈scope.names,y.2=.local->scope.names.lookup y.1=some .local)
 (hfr:∀y∈scope.names,y.2=.free->X.env.scope.names.lookup y.1=some .cell/\scope.names.lookup y.1=some .free) (hi:PI X target iter wi)
include hB hw hk hn hfr hi in
include hB hw hk hn hfr hi in
end
end
def Ite (K:NA)(a:NX):It where
 go:=λi H=>∃xs x,SqL K H a xs/\xs[i]?=some x
 yld:=λi H x H'=>∃T,x=.ref T/\H T=none/\∀xs u,SqL K H a xs->xs[i]?=some u->H'=upd H T (.tup [.int (i:Int),u])
 stop:=λi H=>∃xs,SqL K H a xs/\xs.length=i
def Asz (e it a:NX)(i:Nat)(h:Heap):Prop:=(∃old,IsEnum h e it i old)/\h.IsListIter it a i
theorem AgN{K:NA}{e:NX}(n:e≠it)(F:a≠e)(t:a≠it) :
  Turn P w K (.Tuple es kx tp) (Ite K a) [e,it] e (Asz e it a) where
 mem:=At
 obj:=λi h st c hc=>by
  obtain⟨⟨j,l⟩,T⟩:=st;simp only [Ati,Atl,yE]at hc;rcases hc with z|z
  ·subst z;exact⟨_,l,λv z=>by cases (show Data.fields _=Data.cell v from z)⟩
  ·subst z;obtain⟨o,e,_,d⟩:=T;exact⟨o,e,λv z=>by rw[d]at z;cases z⟩
 keep:=λi h h' st k=>by
  obtain⟨⟨j,l⟩,T⟩:=st;exact⟨⟨j,k _ At _ l⟩,T.at λo e=>k _ At o e⟩
 item:=by
  intro X R hw S hc i pins s σ H E I O st N;subst R hw S;obtain⟨xs,x,m,hx⟩:=N;obtain⟨b,p,p1,_⟩:=I.list m;obtain⟨u,hu,ru⟩:=p.get hx;obtain⟨⟨j,l⟩,B⟩:=st;have G:i<b.toArray.size:=by have:=(zC.mp hu).1;simpa using this
  have L:X.A.in1.handled=none:=I.ok.hd hc;refine wpAny_pyNext_enum_itemD (Draws.list L it a t b.toArray) l ⟨B,p1.isList⟩ G n (λz=>?_) λu' h1 tk D ho Q hT hsz J=>?_
  ·simp only [Ati,Atl,yE]at z;rcases z with z|z
   ·exact n z
   ·exact F z.symm
  have y:b[i]?=some u':=by simpa using D
  rw[hu]at y;cases y;refine⟨_,Z,wpAny_letOwnedTupleGo_enum ho λh2 C Y=>?_⟩;have Y:Heap.SameBut e h1 h2:=Y;have el:e<s.heap.objs.size:=yA l;have il:it<s.heap.objs.size:=by obtain⟨_,e,_⟩:=B;exact yA e
  have up:∀c o,c≠e->h1.get? c=some o->h2.get? c=some o:=λc o c1 z=>(Y.2 c c1).trans z;have W:H s.heap.objs.size=none:=I.hok.fresh (AsY _);have I1:Inv X pins σ (upd H s.heap.objs.size (.tup [.int (i:Int),x])) {s with heap:=s.heap.push {cls:=.type "tuple",data:=.seq #[.int i tk,u]},toks:=tk+1}:=
   I.laid (λc o e=>zB _ e) (AsY _) ⟨by show 2<=sizeLine;decide,[.int i tk,u],.cons ⟨tk,Z⟩ (.cons ru .nil),⟨_,zD _ Z,Z,_,Z⟩⟩;have fp2:∀c∈[e,it],Jx X pins (upd H s.heap.objs.size (.tup [.int (i:Int),x])) c:=λc hc=>by
   obtain⟨f0,f⟩:=O c hc;refine⟨?_,f⟩;have lt:c<s.heap.objs.size:=by
    simp only [Ati,Atl,yE]at hc;rcases hc with e|e<;>subst e<;>assumption
   rw[Af (Atb lt)];exact f0
  have I2:Inv X pins σ (upd H s.heap.objs.size (.tup [.int (i:Int),x])) {s with heap:=h2,toks:=tk+1}:=by
   refine Inv.Lj (s:={s with heap:=s.heap.push {cls:=.type "tuple",data:=.seq #[.int i tk,u]},toks:=tk+1}) (h':=h2) (t':=tk+1) (its:=[e,it]) I1 (λc o hc z=>?_) fp2;simp only [Ati,Atl,yE,not_or]at hc;refine up c o hc.1 ?_;by_cases r:c=s.heap.objs.size
   ·subst r;have U:(s.heap.push {cls:=.type "tuple",data:=.seq #[.int i tk,u]}).get? s.heap.objs.size=some {cls:=.type "tuple",data:=.seq #[.int i tk,u]}:=zD _ Z;rw[U]at z;cases z;exact hT
   ·have U:s.heap.get? c=some o:=by
     rw[<-z];exact(Heap.get?_push_ne _ _ _ r).symm
    exact J c o hc.1 hc.2 U
  refine⟨.ref s.heap.objs.size,_,I2,Z,⟨s.heap.objs.size,Z,W,λa2 u' a1 a3=>?_⟩,⟨⟨u,by simpa using C⟩,Q.1.at λo z=>up _ o n.symm z⟩,λc hc=>(fp2 c hc).1⟩;rw[I.Jw a1 m,hx]at a3;cases a3;rfl
 done:=by
  intro X R hw S hc i pins s σ H E I O st N;subst R hw S;obtain⟨xs,m,a0⟩:=N;obtain⟨b,p,p1,_⟩:=I.list m;have l1:=p.length;obtain⟨⟨j,l⟩,B⟩:=st;have L:X.A.in1.handled=none:=I.ok.hd hc;have en:i=b.toArray.size:=by simp;lia
  subst en;refine wpAny_pyNext_enum_endD (Draws.list L it a t b.toArray) l ⟨B,p1.isList⟩ λh' J=>⟨Z,I.Lj (t':=s.toks) (its:=[e,it]) (λc o hc z=>?_) O⟩;simp only [Ati,Atl,yE,not_or]at hc;exact J c o hc.2 z
 self:=λ_ _ _ _ _ st h=>by obtain⟨⟨j,l⟩,_⟩:=st;exact wpAny_pyIter_enum l h
inductive Al6 (K:NA)(R:(It->Hp->Prop))(vs:Nn)(H1:Hp):Prop
|mk(a:_)(_:vs=[.ref a])(_:(∃xs,SqL K H1 a xs))(_:R (Ite K a) H1)
def AqZ (K:NA)(ta:TA)(σ:St)(H:Hp)(R:(It->Hp->Prop)):Prop:=ta σ H (Al6 K R)
theorem Al7{K:NA}{a:Expr}{p:Pos}(y:Gl X "enumerate") (t:X.mg "enumerate"=none) (u:PA X [a] ta) (n:X.K=K:=by rfl) (hs:starEach [a] X.env=[(false,eval a X.env)]:=by rfl) :
  PI X (.Tuple es kx tp) (.Call (.Name "enumerate" p) [a] [] pos) (AqZ K ta):=by
 subst n;intro pins s σ H R I h;refine Call_ (Ck I y t Pa (yC (thn (u pos pins s σ H _ I h) λus b ⟨vs,H1,d,v,o⟩=>?_) hs Z));obtain⟨a,e,⟨xs,f⟩,q⟩:=o;subst e;cases v with
 |cons r w =>
  cases w;cases r;obtain⟨l,m,p1,_⟩:=d.list f;obtain⟨o1,e1,_⟩:=id p1.isList;have i:a<b.heap.objs.size:=yA e1;refine call_enumerate_list p1.isList λh' j hi hsz x=>wpAny_pyIter_enum j ?_;refine⟨_,[b.heap.objs.size+1,b.heap.objs.size],_,_,H1,Z,d.kept (t':=b.toks) x,AgN (lne (Aty _) 0).symm (lne i 1) (lne i 0),⟨⟨_,j⟩,hi⟩,λc hc=>?_,q⟩;have le:b.heap.objs.size<=c:=by
   simp only [Ati,Atl,yE]at hc;rcases hc with e|e<;>subst e<;>lia
  exact d.AfQ le (d.hok.fresh le)
def AoE (u:NL):It where
 go:=λi _=>i<u.length
 yld:=λi H x H'=>∃T c,x=.ref T/\H T=none/\u[i]?=some c/\H'=upd H T (.tup [.int (i:Int),.str (tx [c])])
 stop:=λi _=>u.length=i
def Ara (e it:NX)(u:NL)(t:Tok)(i:Nat)(h:Heap):Prop:=(∃old,IsEnum h e it i old)/\h.IsStrIter it (strIterType (tx u)) (tx u) t i
theorem AdG{K:NA}{e:NX}(n:e≠it) :
  Turn P w K (.Tuple es kx tp) (AoE u) [e,it] e (Ara e it u t) where
 mem:=At
 obj:=λi h st c hc=>by
  obtain⟨⟨b,j⟩,s2⟩:=st;simp only [Ati,Atl,yE]at hc;rcases hc with z|z
  ·simp_all
  ·subst z;obtain⟨o,e,_,d⟩:=s2;exact⟨o,e,λv z=>Au⟩
 keep:=λi h h' st k=>by
  obtain⟨⟨b,j⟩,o,e1,c,d⟩:=st;exact⟨⟨b,k _ At _ j⟩,o,k _ At _ e1,c,d⟩
 item:=by
  intro X Q hw T hc i pins s σ H E I x st p;obtain⟨⟨b,j⟩,r⟩:=st;have J:X.A.in1.handled=none:=I.ok.hd hc;have hn:i<(tx u).cps.size:=by exact p
  refine wpAny_pyNext_enum_itemD (Wh J it (tx u) t) j r hn n (λz=>?_) λu' h1 tk C Y B O hsz F=>?_
  ·simp_all
  obtain⟨c,a,l,rfl⟩:=C;have l:u[i]?=some c:=by rw[<-zL]at l;exact l
  refine⟨_,Z,wpAny_letOwnedTupleGo_enum Y λh2 y sb=>?_⟩;have el:=yA j;have il:it<s.heap.objs.size:=by obtain⟨_,e,_⟩:=r;exact yA e
  have up:∀c o,c≠e->h1.get? c=some o->h2.get? c=some o:=λc o W z=>(sb.2 c W).trans z;have G:=I.hok.fresh (AsY _);have R:Inv X pins σ (upd H s.heap.objs.size (.tup [.int (i:Int),.str (tx [c])])) {s with heap:=s.heap.push {cls:=.type "tuple",data:=.seq #[.int i tk,.str ⟨#[c]⟩ a]},toks:=tk+1}:=
   I.laid (λc o e=>zB _ e) (AsY _) ⟨by show 2<=sizeLine;decide,[.int i tk,.str ⟨#[c]⟩ a],.cons ⟨tk,Z⟩ (.cons ⟨a,Z⟩ .nil),⟨_,zD _ Z,Z,_,Z⟩⟩;have fp2:∀c'∈[e,it],Jx X pins (upd H s.heap.objs.size (.tup [.int (i:Int),.str (tx [c])])) c':=λc' hc=>by
   obtain⟨N,f⟩:=x c' hc;refine⟨?_,f⟩;have lt:c'<s.heap.objs.size:=by
    simp only [Ati,Atl,yE]at hc;rcases hc with e|e<;>subst e<;>assumption
   rw[Af (Atb lt)];exact N
  have I2:Inv X pins σ (upd H s.heap.objs.size (.tup [.int (i:Int),.str (tx [c])])) {s with heap:=h2,toks:=tk+1}:=by
   refine Inv.Lj (s:={s with heap:=s.heap.push {cls:=.type "tuple",data:=.seq #[.int i tk,.str ⟨#[c]⟩ a]},toks:=tk+1}) R (λc' o hc z=>?_) fp2;simp only [Ati,Atl,yE,not_or]at hc;refine up c' o hc.1 ?_;by_cases m:c'=s.heap.objs.size
   ·subst m;have D:(s.heap.push {cls:=.type "tuple",data:=.seq #[.int i tk,.str ⟨#[c]⟩ a]}).get? s.heap.objs.size=some {cls:=.type "tuple",data:=.seq #[.int i tk,.str ⟨#[c]⟩ a]}:=zD _ Z;rw[D]at z;cases z;exact O
   ·have D:s.heap.get? c'=some o:=by
     rw[<-z];exact(Heap.get?_push_ne _ _ _ m).symm
    exact F c' o hc.1 hc.2 D
  obtain⟨o3,S,U,L⟩:=B;exact⟨.ref s.heap.objs.size,_,I2,Z,⟨s.heap.objs.size,c,Z,G,l,Z⟩,⟨⟨_,by simpa using y⟩,o3,up _ _ n.symm S,U,L⟩,λc hc=>(fp2 c hc).1⟩
 done:=by
  intro X Q hw T hc i pins s σ H E I x st p;have p:=p;obtain⟨⟨b,j⟩,r⟩:=st;have J:X.A.in1.handled=none:=I.ok.hd hc;have en:i=(tx u).cps.size:=by exact p.symm
  subst en;refine wpAny_pyNext_enum_endD (Wh J it (tx u) t) j r λh' F=>⟨Z,I.Lj (λc o hc z=>?_) x⟩;simp only [Ati,Atl,yE,not_or]at hc;exact F c o hc.2 z
 self:=λ_ _ _ _ _ st h=>by obtain⟨⟨b,j⟩,_⟩:=st;exact wpAny_pyIter_enum j h
inductive AiQ (R:(It->Hp->Prop))(vs:Nn)(H1:Hp):Prop
|mk(u:_)(_:vs=[.str (tx u)])(_:R (AoE u) H1)
def AoF (ta:TA)(σ:St)(H:Hp)(R:(It->Hp->Prop)):Prop:=ta σ H (AiQ R)
theorem AiR{a:Expr}{p:Pos}(v:Gl X "enumerate") (i:X.mg "enumerate"=none) (j:PA X [a] ta) (hs:starEach [a] X.env=[(false,eval a X.env)]:=by rfl) :
  PI X (.Tuple es kx tp) (.Call (.Name "enumerate" p) [a] [] pos) (AoF ta):=by
 intro pins s σ H R I h;refine Call_ (Ck I v i Pa (yC (thn (j pos pins s σ H _ I h) λus b ⟨vs,H1,d,l,o⟩=>?_) hs Z));obtain⟨u,e,q⟩:=o;subst e;cases l with
 |cons r m =>
  cases m;obtain⟨t,rfl⟩:=r;refine call_enumerate_str λh' f hi hsz n=>wpAny_pyIter_enum f ?_;refine⟨_,[b.heap.objs.size+1,b.heap.objs.size],_,_,H1,Z,d.kept n,AdG (lne (Aty _) 0).symm,⟨⟨_,f⟩,hi⟩,λc hc=>?_,q⟩;have le:b.heap.objs.size<=c:=by
   grind
  exact d.AfQ le (d.hok.fresh le)
def vB (bs:List Bool):Nn:=bs.map V.bl
theorem Wl{bs:List Bool}:∀{us:NR},Vals (bs.map V.bl) us->us=bs.map Value.bool:=by
 induction bs with
 |nil=>intro us r;cases r;rfl
 |cons n ns a =>
  intro us r;cases r with
  |cons c b =>
   cases c;rw[a b];rfl
theorem any_range(bs:List Bool):(List.range bs.length).any (λi=>bs.getD i false)=bs.any id:=by
 rw[AtI,List.any_eq_true,List.any_eq_true];constructor
 ·rintro⟨i,hi,h⟩;have a:=z5.mp hi;refine⟨bs[i],At9 a,?_⟩;rw[At3,Atc a]at h;exact h
 ·rintro⟨b,c,h⟩;obtain⟨i,hi,e⟩:=AtA c;refine⟨i,z5.mpr hi,?_⟩;rw[At3,Atc hi,e];exact h
section
variable {K:NA}
inductive AbJ (K:NA)(xs:Nn)(H:Hp)(Q:VK):Prop
|mk(a:_)(bs:_)(_:xs=[.ref a])(_:SqL K H a (vB bs))(_:Q (.bl (bs.any id)) H)
theorem AgO(n:X.K=K:=by rfl)(hc:X.calm=true:=by rfl):Bx X (.builtin "any") (AbJ K):=by
 subst n;intro pins s σ H xs us Q I rv h;obtain⟨a,bs,rfl,p,q⟩:=h;obtain⟨u,rfl,z⟩:=rv.one;cases z;obtain⟨its,r,pl,C⟩:=I.list p;have l:=Wl r;subst l;obtain⟨o,j,_⟩:=id pl.isList;have f:=yA j;refine call_any_walk (wpAny_pyIter_list pl.isList ?_);refine⟨_,_,_,_,_,_,λi=>bs.getD i false,Z,Walks.list (A:=X.A.in1) (I.ok.hd hc) _ a (Atb f) (bs.map Value.bool).toArray,⟨⟨_,zD _ Z,Z,Z⟩,pl.isList.push _⟩,?_,λh' tk hk=>?_⟩
 ·intro i v s' B E' m x;have d:(bs.map Value.bool)[i]?=some v:=by simpa using m
  rw[Atn]at d;cases e:bs[i]? with
  |none=>simp_all
  |some b =>
   rw[e]at d;cases d;have t:bs.getD i false=b:=Au
   have c:B (bs.getD i false) s':=x;rw[t]at c;exact zW c
 ·have e1:(List.range ((bs.map Value.bool).toArray).size).any (λi=>bs.getD i false)=bs.any id:=by
   rw[Atd,AsZ];exact any_range bs
  rw[e1];refine⟨.bl (bs.any id),H,I.kept (λb w e=>hk b w ?_ (zB _ e)),Z,q⟩;have lt:=yA e;intro y;rw[zF.mp y]at lt;exact At0 _ lt
end
theorem all_range(bs:List Bool):(List.range bs.length).all (λi=>bs.getD i false)=bs.all id:=by
 rw[AtI,Atp,Atp];constructor
 ·rintro h b c;obtain⟨i,hi,e⟩:=AtA c;have:= h i (z5.mpr hi);rw[At3,Atc hi,e]at this;exact this
 ·rintro h i hi;have a:=z5.mp hi;rw[At3,Atc a];exact h _ (At9 a)
section
variable {K:NA}
inductive AbK (K:NA)(xs:Nn)(H:Hp)(Q:VK):Prop
|mk(a:_)(bs:_)(_:xs=[.ref a])(_:SqL K H a (vB bs))(_:Q (.bl (bs.all id)) H)
theorem AgP(n:X.K=K:=by rfl)(hc:X.calm=true:=by rfl):Bx X (.builtin "all") (AbK K):=by
 subst n;intro pins s σ H xs us Q I rv h;obtain⟨a,bs,rfl,p,q⟩:=h;obtain⟨u,rfl,z⟩:=rv.one;cases z;obtain⟨its,r,pl,C⟩:=I.list p;have l:=Wl r;subst l;obtain⟨o,j,_⟩:=id pl.isList;have f:=yA j;refine call_all_walk (wpAny_pyIter_list pl.isList ?_);refine⟨_,_,_,_,_,_,λi=>bs.getD i false,Z,Walks.list (A:=X.A.in1) (I.ok.hd hc) _ a (Atb f) (bs.map Value.bool).toArray,⟨⟨_,zD _ Z,Z,Z⟩,pl.isList.push _⟩,?_,λh' tk hk=>?_⟩
 ·intro i v s' B E' m x;have d:(bs.map Value.bool)[i]?=some v:=by simpa using m
  rw[Atn]at d;cases e:bs[i]? with
  |none=>simp_all
  |some b =>
   rw[e]at d;cases d;have t:bs.getD i false=b:=Au
   have c:B (bs.getD i false) s':=x;rw[t]at c;exact zW c
 ·have e1:(List.range ((bs.map Value.bool).toArray).size).all (λi=>bs.getD i false)=bs.all id:=by
   rw[Atd,AsZ];exact all_range bs
  rw[e1];refine⟨.bl (bs.all id),H,I.kept (λb w e=>hk b w ?_ (zB _ e)),Z,q⟩;have lt:=yA e;intro y;rw[zF.mp y]at lt;exact At0 _ lt
inductive AbL (xs:Nn)(H:Hp)(Q:VK):Prop
|mk(b:_)(_:xs=[.int b])(_:∀p,H p=none->Q (.ref p) (upd H p (XS p 0 b 1)))
theorem AgQ:Bx X (.type "range") AbL:=by intro pins s σ H xs us Q I rv h;obtain⟨b,rfl,q⟩:=h;obtain⟨c,rfl,a⟩:=rv.one;obtain⟨t,rfl⟩:=a;exact call_range_1 (Abh I q)
end
def AeM (z:Str):Nd->Bool
 | .str a _=>a.cps.toList == z.cps.toList
 |_=>false
theorem Wm(r:Vals (zs.map V.str) us){u:Nd}(h:us[j]?=some u):∃k t,zs[j]?=some k/\u=.str k t:=by
 have a:=(zC.mp h).1;have l:=r.length;rw[AsZ]at l;have hk:j<zs.length:=As
 obtain⟨u',e,q⟩:=r.get (by rw[Atn,Atc hk];rfl);rw[h]at e;cases e;obtain⟨t,rfl⟩:=q;exact⟨zs[j],t,Atc hk,Z⟩
inductive Arb (x:V)(vs:Nn)(H:Hp)(Q:VK):Prop
|mk(l:NX)(zs:NU)(z:Str)(j:Nat)(_:x=.ref l)(_:vs=[.str z])(_:H l=some (.lst (zs.map V.str)))(_:zs[j]?=some z)(_:(∀i,i<j->zs[i]?≠some z))(_:zs.length<=1000)(_:Q (.int (j:Int)) H)
theorem Al8:MtR X "list.index" Arb:=by
 intro pins s σ H x vs v us Q I D rv h;obtain⟨l,zs,z,j,rfl,rfl,J,G,o,P,q⟩:=h;cases D;obtain⟨u,rfl,K⟩:=rv.one;obtain⟨t,rfl⟩:=K;obtain⟨O,its,n,r,R,e⟩:=I.XR J;have w:=r.length;rw[AsZ]at w;have A:j<its.length:=by grind
 have C:j<its.toArray.size:=Au
 have c:AeM z its.toArray[j]=true:=by
  obtain⟨a,t',e1,b⟩:=Wm r (Atc A);rw[G]at e1;cases e1;rw[Au5,b];exact beq_self_eq_true z.cps.toList
 have hn:∀m (i:m<its.toArray.size),m<j->AeM z its.toArray[m]=false:=λm i d=>by
  have E:m<its.length:=Au
  obtain⟨a,t',e1,b⟩:=Wm r (Atc E);have:= o m d;rw[Au5,b];show(a.cps.toList == z.cps.toList)=false;rw[beq_eq_false_iff_ne];intro N;have p:a=z:=by
   cases a;exact congrArg Str.mk (Array.toList_inj.mp N)
  rw[p]at e1;exact this e1
 have L:∀y,y∈its.toArray->MeetsSeq.EqGives y (.str z t) (AeM z y):=λy f=>by
  have f:y∈its:=by simpa using f
  obtain⟨m,i,B⟩:=AtA f;obtain⟨a,t',e1,b⟩:=Wm r (Atc i);rw[<-B,b];exact SeqRoads2.EqGives.str a z t' t
 refine yM F.slot_list_index ⟨_,e,Z⟩ F.entry_list_index (F.args_list_index_2 _ _)
  (MeetsSeq.list_index l its.toArray n (.str z t) (AeM z) L j C As c hn) ⟨e,?_⟩;exact⟨.int _,H,I.tok _,⟨_,Z⟩,q⟩
structure AiS (k:Nat)(A:Around):Prop where
 dp:A.depth+3*k+5<recursionLimit
 un:A.units+16*k+200<cLine
theorem BX.hd9{k:Nat}{v:NW}(r:BX (k+1) A):AiS 1 (A.mark v):=⟨by have:=r.dp;show A.depth+3*1+5<_;lia,by have:=r.un;show A.units+16*1+200<_;lia⟩
structure PJ (P:Program)(w:World)(K:NA)(mg:Str->NW)(base:Heap)(f:NX)(fd:NY)(ps:NU)(sp:Sp):Prop where
 len:∀vs H Q E,sp vs H Q E->vs.length=ps.length
 run:∀(A:Around)(outer:List Env)(s:Na)(H:Hp)(args:Args)(us:NR)(vs:Nn)(Q:VK)(E:XK),AiS 1 A->V4 P w K mg base A outer s H->BindsTo s fd args (ps.zip us)->Vals vs us->sp vs H Q E ->
  codeAny (model P w) A (.call (.ref f) args) (CR CX0 outer P w H s Q E) s
abbrev Cx.stir (X:Cx):Cx:={X with calm:=false}
theorem AdH{K:NA}{base:Heap}{outer:List Env}{b:Na}{E:XK}{vs:Nn}
  (S:Bf N ps scope) (a:V4 P w K mg base A outer s H) (c:vs.length=ps.length) (r:Vals vs us)
  (x:InCallC s s.heap.objs.size (bindL (envOfC qual scope s.heap.objs.size f cd).kindOf (ps.zip us) λ_=>none) (cellsFrom (s.heap.objs.size+1) scope.names []) (bindC (envOfC qual scope s.heap.objs.size f cd).kindOf (ps.zip us) λ_=>none) b) :
  Inv (O9 CX P w K mg base N qual scope f cd A outer s H E).stir [] (start N vs) H b:=by
 have I:=Yr (CX:=CX) (A:={A with handled:=none}) (E:=E) S rfl (⟨a.frames,a.mod,a.bs,a.bsz,a.Jv,a.frf,a.hok,a.bare⟩:V4 P w K mg base {A with handled:=none} outer s H) c r x;exact⟨⟨I.ok.mod,I.ok.kind,I.ok.glob,I.ok.blt,I.ok.above,I.ok.inj,I.ok.has,I.ok.cab,(λz=>nomatch z),Around.frames_deeper a.frames,I.ok.stk,I.ok.exf,I.ok.bs,I.ok.bsz,I.ok.Zw,I.ok.Zx,I.ok.Jv,I.ok.frf⟩,I.os,I.bare,I.base,I.loc,I.cell,I.free,I.Dm,I.pin,I.hok,I.len⟩
section
variable {K:NA}{base:Heap}
theorem Fun.okH{st:Nl}{fd:NY}(F:Fun K x qual st f fd)(S:Bf N ps (Ac st))(len:∀vs H Q E,sp vs H Q E->vs.length=ps.length)
  (c:∀(a:Nd)(A:Around)(outer:List Env)(s:Na)(H:Hp)(vs:Nn)(Q:VK)(E:XK),sp vs H Q E ->
   ∃t,PSs (O9 CX0 P w K mg base N qual (Ac st) f a A outer s H E).stir (Bl st) t/\t {nx:=λ_ H'=>Q .non H',rt:=Q} (start N vs) H):PJ P w K mg base f fd ps sp:=by
 obtain⟨oc,od,kV,X,Y,an,a,ct,C,rfl,lk,l⟩:=F.ex;refine⟨len,λA outer s H B us vs Q E G j L r i=>?_⟩;have D:=len _ _ _ _ i;have z:K.In s.heap:=j.mod.kin.keeps λb o e=>(j.bs b o e).1;have m:s.heap.NoLimit:=j.mod.nolimit.keeps λb o e=>(j.bs b o e).1;have d:∀y∈ps.zip us,(Ac st).names.lookup y.1=some .local\/((Ac st).names.lookup y.1=some .cell/\((cellsFrom (s.heap.objs.size+1) (Ac st).names []).lookup y.1).isSome=true):=λ⟨n,v⟩ T=>by
  rcases S.par n (Aul T).1 with q|q
  ·exact .inl q
  ·exact .inr ⟨q,W.cellsFrom_some _ _ _ (.inl q)⟩
 refine codeAny_call_function (by have:=G.dp;lia) (z _ _ lk) Z S.co S.gen Z (W.codeRec_of z l) (L _ _ _ _ ?_);refine wpAny_newFunctionEnv_cells S.kind d λenv U p x=>?_;subst U;refine⟨m.keeps x.toInCall.keep,codeAny_func ?_⟩;obtain⟨t,R,O⟩:=c a A outer s H vs Q E i;have I:Inv (O9 CX0 P w K mg base N qual (Ac st) f a A outer s H E).stir [] (start N vs) H p:=AdH S j D r x;refine zO (R [] p (start N vs) H _ I O) (λfl s' hs=>?_) λe s' hs=>hs;have h:∀{σ':St} {H':Hp} {v:V} {u:Nd},Inv (O9 CX0 P w K mg base N qual (Ac st) f a A outer s H E).stir [] σ' H' s'->RelV v u->Q v H'->CE outer P w H s Q u s':=
  λ{σ' H' v u} J rv q=>⟨v,H',J.os,J.bare,J.base,J.hok,rv,q⟩;cases fl with
 |ret u =>
  obtain⟨v,σ',H',J,rv,q⟩:=hs;exact h J rv q
 |next =>
  obtain⟨σ',H',J,q⟩:=hs;exact h (v:=V.non) (u:=Value.none) J Z q
 |brk =>
  obtain⟨_,_,_,q⟩:=hs;exact yI q
 |cont =>
  obtain⟨_,_,_,q⟩:=hs;exact yI q
end
section
variable {C:NX}{fd:NY}{ta:TE}
theorem Cw(z:PE X o ta)(c:ExC X.K C)(i:Meth X.K C m f)(F:PJ X.prog X.w X.K X.mg X.base f fd ps sp)(n:AiS 1 X.A)(p:Binds X.K fd ps [])
  (v:eval (.Call (.Attribute o m apos) [] [] pos) X.env=(do
   let ov <-eval o X.env
   standAt apos.atName
   let (f,first) <-holding [ov] (getMethod ov m pl)
   callWith pos f first (backTo pos (starEach [] X.env)) (backToKw pos (keywordEach [] X.env))):=by rfl) :
  PE X (.Call (.Attribute o m apos) [] [] pos) (Aoc C sp E0 ta):=by
 intro pins s σ H Q I h;refine W.methodCall_KW (pl:=pl) (thn (z pins s σ H _ I h) λu j ⟨x,H1,b,l,a,ex,ea,q⟩=>?_) v;subst ex;obtain rfl:u=Value.ref a:=l;obtain⟨t,tb,e1⟩:=AqE b ea;refine AkF b.kIn e1 c i.at_ i.fn ?_;refine W.callWith_K0 (first:=[.ref a]) b.kIn i.kp ?_;have y:([Value.ref a]++[]).length=ps.length:=F.len _ _ _ _ q;refine wpAny_call (yQ (F.run X.A X.stack j H1 ⟨[.ref a],[]⟩ [.ref a] [.ref a] Q E0 n b.env0 (p j [.ref a] b.kIn y) (.cons Z .nil) q) λr s' d=>?_);cases r with
 |error e=>exact yI d
 |ok fl =>
  cases fl with
  |ret u=>exact b.after d
  |next=>exact yI d
  |brk=>exact yI d
  |cont=>exact yI d
end
def AeN (X:Cx)(x:Str)(Nc:NU)(scope:Scope)(cs:List (Str×NX))(C:NX)(fp:NO)(s:Na)(H:Hp):Cx:=cxG X (· == x) Nc scope cs C fp s H λ_ _=>False
structure Aao (X:Cx)(x:Str)(Nc:NU)(Aw:NL)(scope:Scope):Prop where
 kind:scope.kind=.function
 one:scope.names.filter (λy=>y.2 == .cell)=[(x,.cell)]
 names:∀y∈scope.names,y.2=.local->scope.names.lookup y.1=some .local
 fr:∀y∈scope.names,y.2=.free->X.env.scope.names.lookup y.1=some .cell/\scope.names.lookup y.1=some .free
 loc:scope.names.lookup x=some .cell
 len:Nc.length=Aw.length+1
 hd:Nc[0]?=some x
 nd:Nc.Nodup
 cap:∀k j,Aw[k]?=some j->∃y,Nc[k+1]?=some y/\X.N[j]?=some y/\scope.names.lookup y=some .free
theorem Aao.cell(O:Aao X x Nc Aw scope)(h:(y,NameKind.cell)∈scope.names):y=x:=by have:(y,NameKind.cell)∈scope.names.filter (λy=>y.2 == .cell):=List.mem_filter.mpr ⟨h,Z⟩;rw[O.one]at this;have:= zF.mp this;injection this
section
variable (O:Aao X x Nc Aw scope) (hc:X.calm=true) (hi:PI X (.Name x px) iter wi)
 (htc:∀cl C fp s H,PIf (AeN X x Nc scope cl C fp s H) ifs tc) (hte:∀cl C fp s H,PE (AeN X x Nc scope cl C fp s H) elt te)
include O hc htc hte in
include O hc hi htc hte in
end
end L2
namespace IV
open PySem PySem.Spec PyProof.Rows L2
abbrev Sl:=L2.St
inductive AO where
 |lst (xs:Nn)|tup (xs:Nn)|ins (c:Nat) (fs:List (Str×V))|dic (kvs:List (Key×V))|rng (lo hi:Int)
 deriving DecidableEq
abbrev AH:=List AO
inductive Oc (α:Type) where
 |ok (a:α)|ex (c:Nat)
abbrev M (α:Type):=AH->Option (Oc α×AH)
def ret {α:Type}(a:α):M α:=λA=>some (.ok a,A)
def fail{α:Type}:M α:=λ_=>none
def bnd {α β:Type}(m:M α)(f:α->M β):M β:=λA=>match m A with
 |some (.ok a,A')=>f a A'
 |some (.ex c,A')=>some (.ex c,A')
 |none=>none
def lift{α:Type}(o:Option α):M α:=λA=>match o with
 |some a=>some (.ok a,A)
 |none=>none
theorem Aa{α b:Type}{m:M α}{f:α->M b}{A A':AH}{o:Oc b}(h:bnd m f A=some (o,A')) :
  (∃a A1,m A=some (.ok a,A1)/\f a A1=some (o,A'))\/(∃c,m A=some (.ex c,A')/\o=.ex c):=by
 unfold bnd at h;split at h
 ·next a A1 e=>exact .inl ⟨a,A1,e,h⟩
 ·next c A1 e=>cases h;exact .inr ⟨c,e,Z⟩
 ·cases h
def noRef:V->Bool
 | .ref _=>false
 |_=>true
inductive RV (ρ:NO):V->V->Prop
 |ref {i:Nat} {a:NX} (h:ρ[i]?=some a):RV ρ (.ref i) (.ref a)
 |flat {v:V} (h:noRef v=true):RV ρ v v
abbrev RVs (ρ:NO):Nn->Nn->Prop:=Paired (RV ρ)
def RP {κ:Type}(ρ:NO)(p q:κ×V):Prop:=p.1=q.1/\RV ρ p.2 q.2
inductive RS (ρ:NO):Option V->Option V->Prop
 |no {o:Option V}:RS ρ none o
 |yes {v w:V} (h:RV ρ v w):RS ρ (some v) (some w)
abbrev RSt (ρ:NO):Sl->Sl->Prop:=Paired (RS ρ)
theorem RV.mono{ρ r:NO}{v w:V}(h:RV ρ v w):RV (ρ++r) v w:=by
 cases h with
 |ref h=>exact .ref (by rw[Atv (zC.mp h).1];exact h)
 |flat h=>exact .flat h
theorem RV.Ci{ρ:NO}{v w:V}(h:RV ρ v w)(n:noRef v=true):w=v:=by
 cases h with
 |ref _=>cases n
 |flat _=>rfl
theorem RV.int{ρ:NO}{i:Int}{w:V}(h:RV ρ (.int i) w):w=.int i:=h.Ci Z
theorem RV.str{ρ:NO}{x:Str}{w:V}(h:RV ρ (.str x) w):w=.str x:=h.Ci Z
theorem RV.bl{ρ:NO}{b:Bool}{w:V}(h:RV ρ (.bl b) w):w=.bl b:=h.Ci Z
theorem RV.non{ρ:NO}{w:V}(h:RV ρ .non w):w=.non:=h.Ci Z
theorem RV.Gq{ρ:NO}{i:Nat}{w:V}(h:RV ρ (.ref i) w):∃a,w=.ref a/\ρ[i]?=some a:=by
 cases h with
 |ref h=>exact⟨_,Z,h⟩
 |flat h=>cases h
theorem Pd.imp{α c:Type}{F G:α->c->Prop}{l:List α}{m:List c}(h:Paired F l m)(f:∀a b,F a b->G a b):Paired G l m:=Paired.AjX h f
theorem Pd.len{α a:Type}{F:α->a->Prop}:∀{l:List α} {m:List a},Paired F l m->l.length=m.length
 |_,_,.nil=>rfl
 |_,_,.cons _ t=>by simp[Pd.len t]
theorem Pd.get{α c:Type}{F:α->c->Prop}:∀{l:List α} {m:List c} {i:Nat} {a:α},Paired F l m->l[i]?=some a->∃b,m[i]?=some b/\F a b
 |_,_,_,_,.nil,e=>by simp at e
 |_,_,0,_,.cons h _,e=>by simp at e;subst e;exact⟨_,Z,h⟩
 |_,_,i+1,_,.cons _ t,e=>by simpa using Pd.get (i:=i) t (by simpa using e)
theorem Pd.set{α c:Type}{F:α->c->Prop}{a:α}{b:c}(h:F a b):∀{l:List α} {m:List c} (i:Nat),Paired F l m->Paired F (l.set i a) (m.set i b)
 |_,_,_,.nil=>.nil
 |_,_,0,.cons _ t=>.cons h t
 |_,_,i+1,.cons q t=>.cons q (Pd.set h i t)
theorem Pd.app{α a:Type}{F:α->a->Prop}:∀{l:List α} {m:List a} {c:List α} {b:List a},Paired F l m->Paired F c b->Paired F (l++c) (m++b)
 |_,_,_,_,.nil,s=>s
 |_,_,_,_,.cons h t,s=>.cons h (Pd.app t s)
theorem Pd.take{α a:Type}{F:α->a->Prop}:∀{l:List α} {m:List a} (n:Nat),Paired F l m->Paired F (l.take n) (m.take n)
 |_,_,0,_=>by simpa using Paired.nil
 |_,_,_+1,.nil=>.nil
 |_,_,n+1,.cons h t=>.cons h (Pd.take n t)
theorem Pd.drop{α a:Type}{F:α->a->Prop}:∀{l:List α} {m:List a} (n:Nat),Paired F l m->Paired F (l.drop n) (m.drop n)
 |_,_,0,h=>h
 |_,_,_+1,.nil=>.nil
 |_,_,n+1,.cons _ t=>Pd.drop n t
theorem Pd.rev{α a:Type}{F:α->a->Prop}:∀{l:List α} {m:List a},Paired F l m->Paired F l.reverse m.reverse
 |_,_,.nil=>.nil
 |_,_,.cons h t=>by rw[List.reverse_cons,List.reverse_cons];exact Pd.app (Pd.rev t) (.cons h .nil)
theorem RVs.mono{ρ r:NO}{v w:Nn}(h:RVs ρ v w):RVs (ρ++r) v w:=Pd.imp h λ_ _ q=>q.mono
theorem RSt.mono{ρ r:NO}{v w:Sl}(h:RSt ρ v w):RSt (ρ++r) v w:=Pd.imp h λ_ _ q=>by
 cases q with
 |no=>exact .no
 |yes q=>exact .yes q.mono
theorem RVs.flat{ρ:NO}:∀{v w:Nn},RVs ρ v w->v.all noRef=true->w=v
 |_,_,.nil,_=>rfl
 |_,_,.cons h t,e=>by
  rw[Atz,Ata]at e;rw[h.Ci e.1,RVs.flat t e.2]
theorem RVs.own{ρ:NO}:∀{v:Nn},v.all noRef=true->RVs ρ v v
 |[],_=>.nil
 |x::v,e=>by
  rw[Atz,Ata]at e;exact .cons (.flat e.1) (RVs.own e.2)
structure Ct where
 P:Program
 w:World
 K:NA
 mg:Str->NW
 base:Heap
 Cs:Nat->NX
 Xs:Nat->NX
 tT:NX
 tq:Str
 tc:NX
section
variable (c:Ct)
def RO (ρ:NO)(H:Hp)(a:NX):AO->Prop
 | .lst xs=>∃ys,H a=some (.lst ys)/\RVs ρ xs ys
 | .tup xs=>∃ys,H a=some (.tup ys)/\RVs ρ xs ys
 | .ins k fs=>∃dx gs,H a=some (.ins (c.Cs k) dx gs)/\Paired (RP ρ) fs gs
 | .dic kvs=>∃ks,H a=some (.dK ks)/\Paired (RP ρ) kvs ks
 | .rng lo hi=>H a=some (XS a lo hi 1)
structure Emb (ρ:NO)(A:AH)(H:Hp):Prop where
 len:ρ.length=A.length
 nd:ρ.Nodup
 obj:∀(i:Nat)(o:AO)(a:NX),A[i]?=some o->ρ[i]?=some a->RO c ρ H a o
 tb:Tb c.tT c.tq H
structure Ext (ρ:NO)(H:Hp)(ρ':NO)(A':AH)(H':Hp):Prop where
 ap:∃r,ρ'=ρ++r
 em:Emb c ρ' A' H'
 fr:∀b o,H b=some o->b∉ρ->(∀ps,o≠.tbl ps)->H' b=some o
 nw:∀x∈ρ',x∈ρ\/∀o,H x=some o->∃ps,o=.tbl ps
end
section
variable {c:Ct}{ρ ρ1 ρ2:NO}{A A1 A2:AH}{H H1 H2:Hp}
theorem RO.mono{r:NO}{a:NX}{o:AO}(h:RO c ρ H a o):RO c (ρ++r) H a o:=by
 cases o with
 |lst xs=>obtain⟨ys,e,q⟩:=h;exact⟨ys,e,q.mono⟩
 |tup xs=>obtain⟨ys,e,q⟩:=h;exact⟨ys,e,q.mono⟩
 |ins k fs=>obtain⟨dx,b,e,q⟩:=h;exact⟨dx,b,e,Pd.imp q λ_ _ z=>⟨z.1,z.2.mono⟩⟩
 |dic k=>obtain⟨b,e,q⟩:=h;exact⟨b,e,Pd.imp q λ_ _ z=>⟨z.1,z.2.mono⟩⟩
 |rng lo hi=>exact h
theorem RO.same{a:NX}{o:AO}(h:RO c ρ H a o)(s:∀o,H a=some o->(∀ps,o≠.tbl ps)->H1 a=some o):RO c ρ H1 a o:=by
 cases o with
 |lst xs=>obtain⟨ys,e,q⟩:=h;exact⟨ys,s _ e λ_ z=>HO.noConfusion z,q⟩
 |tup xs=>obtain⟨ys,e,q⟩:=h;exact⟨ys,s _ e λ_ z=>HO.noConfusion z,q⟩
 |ins k fs=>obtain⟨dx,b,e,q⟩:=h;exact⟨dx,b,s _ e λ_ z=>HO.noConfusion z,q⟩
 |dic k=>obtain⟨b,e,q⟩:=h;exact⟨b,s _ e λ_ z=>HO.noConfusion z,q⟩
 |rng lo hi=>exact s _ h λ_ z=>HO.noConfusion z
theorem Ext.refl(h:Emb c ρ A H):Ext c ρ H ρ A H:=⟨⟨[],At⟩,h,λ_ _ e _ _=>e,λ_ h=>.inl h⟩
theorem Ext.trans(a:Ext c ρ H ρ1 A1 H1)(b:Ext c ρ1 H1 ρ2 A2 H2):Ext c ρ H ρ2 A2 H2:=by
 obtain⟨r,e⟩:=a.ap;obtain⟨i,l⟩:=b.ap;refine⟨⟨r++i,by rw[l,e,AtM]⟩,b.em,λz o h n t=>b.fr z o (a.fr z o h n t) (λq=>?_) t,λx j=>?_⟩
 ·rcases a.nw z q with q|q
  ·exact n q
  ·obtain⟨ps,e⟩:=q o h;exact t ps e
 ·rcases b.nw x j with q|q
  ·exact a.nw x q
  ·by_cases d:x∈ρ
   ·exact .inl d
   ·refine .inr λo h=>?_;by_cases f:∃ps,o=.tbl ps
    ·exact f
    ·exact q o (a.fr x o h d λps z=>f ⟨ps,z⟩)
theorem Ext.rv(x:Ext c ρ H ρ1 A1 H1){v w:V}(h:RV ρ v w):RV ρ1 v w:=by obtain⟨r,rfl⟩:=x.ap;exact h.mono
theorem Ext.rvs(x:Ext c ρ H ρ1 A1 H1){v w:Nn}(h:RVs ρ v w):RVs ρ1 v w:=by obtain⟨r,rfl⟩:=x.ap;exact h.mono
theorem Ext.rst(x:Ext c ρ H ρ1 A1 H1){v w:Sl}(h:RSt ρ v w):RSt ρ1 v w:=by obtain⟨r,rfl⟩:=x.ap;exact RSt.mono h
theorem Emb.at(h:Emb c ρ A H){i:Nat}{o:AO}(e:A[i]?=some o):∃a,ρ[i]?=some a/\RO c ρ H a o:=by
 have l:i<ρ.length:=by rw[h.len];exact(zC.mp e).1
 exact⟨ρ[i],Atc l,h.obj i o _ e (Atc l)⟩
theorem Wn{i:Nat}{a:NX}(h:ρ[i]?=some a):a∈ρ:=Ato h
theorem RO.some{a:NX}{o:AO}(h:RO c ρ H a o):∃q,H a=some q/\(∀ps,q≠.tbl ps):=by
 cases o with
 |lst xs=>obtain⟨ys,e,_⟩:=h;exact⟨_,e,λ_=>nofun⟩
 |tup xs=>obtain⟨ys,e,_⟩:=h;exact⟨_,e,λ_=>nofun⟩
 |ins k fs=>obtain⟨dx,b,e,_⟩:=h;exact⟨_,e,λ_=>nofun⟩
 |dic k=>obtain⟨b,e,_⟩:=h;exact⟨_,e,λ_=>nofun⟩
 |rng lo hi=>exact⟨_,h,λ_=>nofun⟩
theorem Emb.fresh(h:Emb c ρ A H){x:NX}(b:H x=none):x∉ρ:=λa=>by
 obtain⟨i,hi,e⟩:=List.mem_iff_getElem.mp a;have l:i<A.length:=by rw[<-h.len];exact hi
 obtain⟨q,z,_⟩:=(h.obj i A[i] x (Atc l) (by rw[Atc hi,e])).some;rw[b]at z;cases z
theorem Ext.AiT(h:Emb c ρ A H){x:NX}{o:AO}(s:Ai H H1)(tb:Tb c.tT c.tq H1)(j:H x=none)(p:RO c (ρ++[x]) H1 x o):Ext c ρ H (ρ++[x]) (A++[o]) H1:=by
 have m:=h.fresh j;refine⟨⟨[x],Z⟩,⟨by simp[h.len],List.nodup_append.mpr ⟨h.nd,At,?_⟩,λi u a e d=>?_,tb⟩,λb o e _ n=>s b o e n,λy r=>?_⟩
 ·intro a l b f;rw[AtZ]at f;subst f;rintro rfl;exact m l
 ·by_cases hi:i<A.length
  ·rw[Atv hi]at e;rw[Atv (by rw[h.len];exact hi)]at d;exact(h.obj i u a e d).mono.same λo z n=>s a o z n
  ·rw[Atu (Nat.not_lt.mp hi)]at e;rw[Atu (by rw[h.len];exact Nat.not_lt.mp hi)]at d;have z:i-A.length=0:=by
    have:=(zC.mp e).1;simp at this;omega
   rw[h.len,z]at d;rw[z]at e;cases e;cases d;exact p
 ·rcases zG.mp r with z|z
  ·exact .inl z
  ·rw[AtZ]at z;subst z;exact .inr λo e=>by rw[j]at e;cases e
theorem PK{x:NX}{q:HO}(a:H x=none):Ca H (upd H x q):=λb o e=>by rw[Af (Az e a)];exact e
theorem Ext.new(h:Emb c ρ A H){x:NX}{q:HO}{o:AO}(a:H x=none)(b:RO c (ρ++[x]) (upd H x q) x o):Ext c ρ H (ρ++[x]) (A++[o]) (upd H x q):=
 .AiT h (PK a).toT (h.tb.same (PK a)) a b
theorem Ext.put(h:Emb c ρ A H){i:Nat}{a:NX}{o o':AO}{q:HO}(e:A[i]?=some o)(ea:ρ[i]?=some a){q0:HO}(p:H a=some q0)(x:∀f,q0≠.ext f)(B:RO c ρ (upd H a q) a o'):Ext c ρ H ρ (A.set i o') (upd H a q):=by
 obtain⟨l,n,D⟩:=(h.obj i o a e ea).some;obtain rfl:l=q0:=yB (n.symm.trans p);have s:∀b u,b≠a->H b=some u->upd H a q b=some u:=λb u z r=>by rw[Af z];exact r
 refine⟨⟨[],At⟩,⟨by simp[h.len],h.nd,λj u b e1 d=>?_,?_⟩,λb u z t _=>s b u (λw=>t (w▸Wn ea)) z,λy C=>.inl C⟩
 ·by_cases m:j=i
  ·subst m;rw[ea]at d;cases d;rw[Aus (zC.mp e).1]at e1;cases e1;exact B
  ·rw[Auk (yD m)]at e1;refine(h.obj j u b e1 d).same λo z _=>s b o ?_ z;rintro rfl;have h1:=(zC.mp ea);have h2:=(zC.mp d);exact m ((Auj h.nd).mp (h2.2.trans h1.2.symm))
 ·obtain⟨ps,h1,h2,E⟩:=h.tb;have ne:∀b u,H b=some u->((∃ps,u=.tbl ps)\/∃f,u=.ext f)->b≠a:=λb u z w=>by
   rintro rfl;rw[p]at z;cases z;rcases w with ⟨ps,w⟩|⟨f,w⟩
   ·exact D ps w
   ·exact x f w
  refine⟨ps,s _ _ (ne _ _ h1 (.inl ⟨_,Z⟩)) h1,h2,λpos v e=>?_⟩;obtain⟨cc,e1,d⟩:=E pos v e;exact⟨cc,e1,s _ _ (ne _ _ d (.inr ⟨_,Z⟩)) d⟩
theorem Ext.tbl(h:Emb c ρ A H)(s:Ai H H1)(t:Tb c.tT c.tq H1):Ext c ρ H ρ A H1:=
 ⟨⟨[],At⟩,⟨h.len,h.nd,λi o a e d=>(h.obj i o a e d).same λo z n=>s a o z n,t⟩,λb o e _ n=>s b o e n,λ_ h=>.inl h⟩
end
end IV
namespace IV
open PySem PySem.Spec PyProof.Rows L2
def OpW (X:Cx)(f:Nd->Nd->Sem Nd):R2:=λx y H Q=>∀(pins:NF)(s:Na)(σ:Sl)(v u:Nd),Inv X pins σ H s->RelV x v->RelV y u->wpAny (model X.prog X.w) X.A (f v u) (EP X pins σ Q) X.xe s
theorem opW{X:Cx}{f:Nd->Nd->Sem Nd}:OpR X f (OpW X f):=λpins s σ H x y v u Q I a b h=>h pins s σ v u I a b
theorem HH{X:Cx}{f:Nd->Nd->Sem Nd}{r:R2}(o:OpR X f r){x y:V}{H:Hp}{Q:VK}(h:r x y H Q):OpW X f x y H Q:=λpins s σ v u I a b=>o pins s σ H x y v u Q I a b h
def CT (X:Cx)(f:Nd):Nn->Hp->VK->Prop:=λxs H Q=>∀(pins:NF)(s:Na)(σ:Sl)(us:NR),Inv X pins σ H s->Vals xs us->wpAny (model X.prog X.w) X.A (call f us) (EP X pins σ Q) X.xe s
theorem AmG{X:Cx}{f:Nd}:Bx X f (CT X f):=λpins s σ H xs us Q I r h=>h pins s σ us I r
theorem BP{X:Cx}{f:Nd}{r:Nn->Hp->VK->Prop}(o:Bx X f r){xs:Nn}{H:Hp}{Q:VK}(h:r xs H Q):CT X f xs H Q:=λpins s σ us I q=>o pins s σ H xs us Q I q h
def MtW (X:Cx)(id:String):V->Nn->Hp->VK->Prop:=λx xs H Q=>∀(pins:NF)(s:Na)(σ:Sl)(v:Nd)(us:NR),Inv X pins σ H s->RelV x v->Vals xs us->wpAny (model X.prog X.w) X.A (call (.builtin id) (v::us)) (EP X pins σ Q) X.xe s
theorem mtW{X:Cx}{id:String}:MtR X id (MtW X id):=λpins s σ H x xs v us Q I r q h=>h pins s σ v us I r q
theorem AbM{X:Cx}{id:String}{r:V->Nn->Hp->VK->Prop}(o:MtR X id r){x:V}{xs:Nn}{H:Hp}{Q:VK}(h:r x xs H Q):MtW X id x xs H Q:=λpins s σ v us I a b=>o pins s σ H x xs v us Q I a b h
def IxW (X:Cx):R2:=λx y H Q=>∀(value slice:Expr)(pins:NF)(s:Na)(σ:Sl)(v u:Nd),Inv X pins σ H s->RelV x v->RelV y u->subscripted slice false v u=operate [v,u] (getItem v u)->wpAny (model X.prog X.w) X.A (subscriptTail value slice v u) (EP X pins σ Q) X.xe s
theorem ixW{X:Cx}:IxR X (IxW X):=λvalue a pins s σ H x y v u Q I c b h hs=>h value a pins s σ v u I c b hs
theorem AoG{X:Cx}{r:R2}(o:IxR X r){x y:V}{H:Hp}{Q:VK}(h:r x y H Q):IxW X x y H Q:=λvalue a pins s σ v u I c b hs=>o value a pins s σ H x y v u Q I c b h hs
def Pk (c:Ct)(ρ:NO)(H:Hp)(A':AH)(v:V)(Q:VK):Prop:=∀ ρ' H' v',Ext c ρ H ρ' A' H'->RV ρ' v v'->Q v' H'
section
variable {c:Ct}{ρ:NO}{A:AH}{H:Hp}{Q:VK}
theorem Pk.val{v w:V}(k:Pk c ρ H A v Q)(e:Emb c ρ A H)(r:RV ρ v w):Q w H:=k ρ H w (.refl e) r
theorem Pk.flat{v:V}(k:Pk c ρ H A v Q)(e:Emb c ρ A H)(r:noRef v=true):Q v H:=k.val e (.flat r)
theorem Vn(e:Emb c ρ A H)(p:NX):(ρ++[p])[A.length]?=some p:=by rw[Atu (by rw[e.len];exact AsY _),e.len,Auf];rfl
theorem Pk.new{o:AO}{q:NX->HO}(k:Pk c ρ H (A++[o]) (.ref A.length) Q)(e:Emb c ρ A H)(b:∀p,RO c (ρ++[p]) (upd H p (q p)) p o):∀p,H p=none->Q (.ref p) (upd H p (q p)):=λp a =>
 k _ _ _ (.new e a (b p)) (.ref (Vn e p))
theorem Pk.PL{xs ys:Nn}(k:Pk c ρ H (A++[.lst xs]) (.ref A.length) Q)(e:Emb c ρ A H)(r:RVs ρ xs ys):∀p,H p=none->Q (.ref p) (upd H p (.lst ys)):=
 Pk.new (q:=λ_=>.lst ys) k e λp=>⟨ys,Ad,r.mono⟩
theorem Pk.AiT{xs ys:Nn}(k:Pk c ρ H (A++[.tup xs]) (.ref A.length) Q)(e:Emb c ρ A H)(r:RVs ρ xs ys):∀p,H p=none->Q (.ref p) (upd H p (.tup ys)):=
 Pk.new (q:=λ_=>.tup ys) k e λp=>⟨ys,Ad,r.mono⟩
theorem Ext.junk(e:Emb c ρ A H){p:NX}{o:HO}(a:H p=none):Ext c ρ H ρ A (upd H p o):=.tbl e (PK a).toT (e.tb.same (PK a))
end
def alloc(o:AO):M V:=λA=>some (.ok (.ref A.length),A++[o])
def Bq (v:V)(A:AH):Option (Nn):=match v with
 | .ref i=>match A[i]? with
  |some (.lst xs)=>some xs
  |_=>none
 |_=>none
def JD (v:V)(A:AH):Option (Nn):=match v with
 | .ref i=>match A[i]? with
  |some (.tup xs)=>some xs
  |_=>none
 |_=>none
section
variable {c:Ct}{ρ:NO}{A:AH}{H:Hp}
theorem Cq{v w:V}{xs:Nn}(h:Bq v A=some xs)(e:Emb c ρ A H)(r:RV ρ v w):∃i a ys,v=.ref i/\w=.ref a/\A[i]?=some (.lst xs)/\ρ[i]?=some a/\H a=some (.lst ys)/\RVs ρ xs ys:=by
 unfold Bq at h;split at h
 ·next i =>
  split at h
  ·next ys ea =>
   cases h;obtain⟨a,rfl,b⟩:=r.Gq;obtain⟨zs,d,f⟩:=e.obj i _ a ea b;exact⟨i,a,zs,Z,Z,ea,b,d,f⟩
  ·cases h
 ·cases h
theorem Wq{v w:V}{xs:Nn}(h:JD v A=some xs)(e:Emb c ρ A H)(r:RV ρ v w):∃i a ys,v=.ref i/\w=.ref a/\A[i]?=some (.tup xs)/\ρ[i]?=some a/\H a=some (.tup ys)/\RVs ρ xs ys:=by
 unfold JD at h;split at h
 ·next i =>
  split at h
  ·next ys ea =>
   cases h;obtain⟨a,rfl,b⟩:=r.Gq;obtain⟨zs,d,f⟩:=e.obj i _ a ea b;exact⟨i,a,zs,Z,Z,ea,b,d,f⟩
  ·cases h
 ·cases h
end
def JF:Nn->Option (NV)
 |[]=>some []
 | .int i::r=>(JF r).map (i::·)
 |_=>none
def Wr:Nn->Option (NU)
 |[]=>some []
 | .str i::r=>(Wr r).map (i::·)
 |_=>none
def Ob:Nn->Option (List Bool)
 |[]=>some []
 | .bl i::r=>(Ob r).map (i::·)
 |_=>none
theorem Aap:∀{xs:Nn} {ns:NV},JF xs=some ns->xs=vI ns
 |[],ns,h=>by cases h;rfl
 | .int i::r,ns,h=>by
  unfold JF at h;cases e:JF r with
  |none=>rw[e]at h;cases h
  |some m=>rw[e]at h;cases h;rw[Aap e];rfl
 | .non::_,_,h|.bl _::_,_,h|.str _::_,_,h|.byt _::_,_,h|.flt _::_,_,h|.ref _::_,_,h|.ty _::_,_,h=>by cases h
theorem AeO:∀{xs:Nn} {ns:NU},Wr xs=some ns->xs=ns.map V.str
 |[],ns,h=>by cases h;rfl
 | .str i::r,ns,h=>by
  unfold Wr at h;cases e:Wr r with
  |none=>rw[e]at h;cases h
  |some m=>rw[e]at h;cases h;rw[AeO e];rfl
 | .non::_,_,h|.bl _::_,_,h|.int _::_,_,h|.byt _::_,_,h|.flt _::_,_,h|.ref _::_,_,h|.ty _::_,_,h=>by cases h
theorem AbN:∀{xs:Nn} {ns:List Bool},Ob xs=some ns->xs=vB ns
 |[],ns,h=>by cases h;rfl
 | .bl i::r,ns,h=>by
  unfold Ob at h;cases e:Ob r with
  |none=>rw[e]at h;cases h
  |some m=>rw[e]at h;cases h;rw[AbN e];rfl
 | .non::_,_,h|.str _::_,_,h|.int _::_,_,h|.byt _::_,_,h|.flt _::_,_,h|.ref _::_,_,h|.ty _::_,_,h=>by cases h
theorem Ed:∀{ns:NV},(vI ns).all noRef=true
 |[]=>rfl
 |_::r=>Ed (ns:=r)
theorem Vi:∀{ns:NU},(ns.map V.str).all noRef=true
 |[]=>rfl
 |_::r=>Vi (ns:=r)
theorem AeP:∀{ns:List Bool},(vB ns).all noRef=true
 |[]=>rfl
 |_::r=>AeP (ns:=r)
def Al9 (x y:V):M V:=match x,y with
 | .int i,.int j=>ret (.int (i+j))
 | .str i,.str j=>λA=>if i.length+j.length<=100000 then some (.ok (.str (i++j)),A) else none
 | .ref l,.ref b=>λA=>match Bq (.ref l) A,Bq (.ref b) A,JD (.ref l) A,JD (.ref b) A with
  |some xs,some zs,_,_=>if xs.length+zs.length<=100000 then alloc (.lst (xs++zs)) A else none
  |_,_,some (x::xs),some (z::zs)=>if xs.length+zs.length<=100000 then alloc (.tup (x::xs++z::zs)) A else none
  |_,_,_,_=>none
 |_,_=>fail
def AlA (x y:V):M V:=match x,y with
 | .int i,.int j=>λA=>if -(2 ^ 64)<i/\i<2 ^ 64 then some (.ok (.int (i*j)),A) else none
 | .str u,.int n=>λA=>if 0<=n/\n<=1000/\u.cps.toList.length<=1000 then some (.ok (.str (tx (List.replicate n.toNat u.cps.toList).flatten)),A) else none
 | .ref l,.int k=>λA=>match Bq (.ref l) A with
  |some xs=>if 0<=k/\k<1000/\xs.length<=1000 then alloc (.lst (List.replicate k.toNat xs).flatten) A else none
  |none=>none
 |_,_=>fail
def bop (op:Operator)(x y:V):M V:=match op with
 | .Add=>Al9 x y
 | .Mult=>AlA x y
 | .Sub=>match x,y with
  | .int i,.int j=>ret (.int (i-j))
  |_,_=>fail
 | .Mod=>match x,y with
  | .int i,.int j=>λA=>if 0<j then some (.ok (.int (i%j)),A) else none
  |_,_=>fail
 | .FloorDiv=>match x,y with
  | .int i,.int j=>λA=>if 0<j/\j<1073741824 then some (.ok (.int (i / j)),A) else none
  |_,_=>fail
 |_=>fail
theorem Fy{n:Nat}(h:n<=1000000):n<=sizeLine:=by rw[zS];lia
theorem Wu(u:Str):tx u.cps.toList=u:=by cases u;rfl
section
variable {c:Ct}{X:Cx}{ρ:NO}{A A':AH}{H:Hp}{Q:VK}{x y x' y' v:V}{op:Operator}
theorem RVs.rep{xs ys:Nn}(h:RVs ρ xs ys):∀n:Nat,RVs ρ (List.replicate n xs).flatten (List.replicate n ys).flatten
 | 0=>.nil
 |n+1=>by rw[AtL,AtL,Auc,Auc];exact Pd.app h (RVs.rep h n)
theorem AoH(h:Al9 x y A=some (.ok v,A'))(B:X.K=c.K)(e:Emb c ρ A H)(r:RV ρ x x')(m:RV ρ y y')(k:Pk c ρ H A' v Q):OpW X (binaryOp .Add) x' y' H Q:=by
 unfold Al9 at h;split at h
 ·cases h;rw[r.int,m.int];exact HH Ada ⟨_,_,Z,Z,k.flat e Z⟩
 ·rw[r.str,m.str];split at h
  ·next hl=>cases h;exact HH Hz ⟨_,_,Z,Z,Fy As,k.flat e Z⟩
  ·cases h
 ·next l b =>
  split at h
  ·next xs zs _ _ h1 h2 =>
   split at h
   ·next hl =>
    cases h;obtain⟨i,a,ys,_,rfl,_,_,s,j⟩:=Cq h1 e r;obtain⟨t,u,p,_,rfl,_,_,f,d⟩:=Cq h2 e m;exact HH AnK ⟨_,_,_,_,Z,Z,s,f,by rw[<-Pd.len j,<-Pd.len d];exact Fy As,k.PL e (Pd.app j d)⟩
   ·cases h
  ·next z zs w ws h1 h2 _ =>
   split at h
   ·next hl =>
    cases h;obtain⟨i,a,ys,_,rfl,_,_,s,j⟩:=Wq h1 e r;obtain⟨t,u,p,_,rfl,_,_,f,d⟩:=Wq h2 e m;have o:=Pd.len j;have n:=Pd.len d;simp only [At2]at o n;exact HH (B▸Aky) ⟨_,_,_,_,Z,Z,.of s,.of f,by rintro rfl;simp at o,by rw[<-o,<-n];exact Fy As,λz=>(by rw[z]at n;simp at n),λ_=>k.AiT e (Pd.app j d)⟩
   ·cases h
  ·cases h
 ·cases h
theorem AoI(h:AlA x y A=some (.ok v,A'))(e:Emb c ρ A H)(r:RV ρ x x')(b:RV ρ y y')(k:Pk c ρ H A' v Q):OpW X (binaryOp .Mult) x' y' H Q:=by
 unfold AlA at h;split at h
 ·rw[r.int,b.int];split at h
  ·next hl=>cases h;exact HH AhC ⟨_,_,Z,Z,.inl hl,k.flat e Z⟩
  ·cases h
 ·next u n =>
  rw[r.str,b.int];split at h
  ·next hl =>
   cases h;refine HH Aad ⟨u.cps.toList,n,by rw[Wu],Z,hl.1,As,?_,k.flat e Z⟩;refine Fy (Atf (Aup hl.2.2 (show n.toNat<=1000 by lia)) Ab)
  ·cases h
 ·next l n =>
  split at h
  ·next xs h1 =>
   split at h
   ·next hl =>
    cases h;obtain⟨i,a,ys,_,rfl,_,_,f,d⟩:=Cq h1 e r;rw[b.int];refine HH AnL ⟨_,_,_,Z,Z,f,As,As,?_,k.PL e (d.rep _)⟩;rw[<-Pd.len d];exact Fy (Atf (Aup hl.2.2 (show n.toNat<=1000 by lia)) Ab)
   ·cases h
  ·cases h
 ·cases h
theorem AoJ(h:bop op x y A=some (.ok v,A'))(b:X.K=c.K)(e:Emb c ρ A H)(r:RV ρ x x')(a:RV ρ y y')(k:Pk c ρ H A' v Q):OpW X (binaryOp op) x' y' H Q:=by
 unfold bop at h;split at h
 ·exact AoH h b e r a k
 ·exact AoI h e r a k
 ·split at h
  ·cases h;rw[r.int,a.int];exact HH An0 ⟨_,_,Z,Z,k.flat e Z⟩
  ·cases h
 ·split at h
  ·rw[r.int,a.int];split at h
   ·next hl=>cases h;exact HH Rw ⟨_,_,Z,Z,hl,k.flat e Z⟩
   ·cases h
  ·cases h
 ·split at h
  ·rw[r.int,a.int];split at h
   ·next hl=>cases h;exact HH Vd ⟨_,_,Z,Z,hl,k.flat e Z⟩
   ·cases h
  ·cases h
 ·cases h
theorem AoK{k:Nat}(h:bop op x y A=some (.ex k,A')):False:=by
 unfold bop Al9 AlA alloc ret fail at h
 repeat (first | (split at h) | (cases h))
end
end IV
namespace IV
open PySem PySem.Spec PyProof.Rows L2
def AsX (x y:V)(f:Str->Str->Bool):Option Bool:=match x,y with
 | .str i,.str j=>some (f i j)
 |_,_=>none
def occ (i j:Str):Bool:=!(Builtin.Str.occurrences j i 0 j.length 1).isEmpty
def AbO (v:V)(A:AH):Option (Nn):=match v with
 | .ref i=>match A[i]? with
  |some (.lst xs)=>some xs
  |some (.tup xs)=>some xs
  |_=>none
 |_=>none
def inB (x y:V)(A:AH):Option Bool:=match y with
 | .str j=>match x with
  | .str i=>some (occ i j)
  |_=>none
 | .ref l=>match AbO (.ref l) A with
  |some xs=>if Cg x && xs.all Cg then some (inV x xs) else none
  |none=>none
 |_=>none
def AgR (x y:V)(f:Int->Int->Bool):Option Bool:=match x,y with
 | .int i,.int j=>some (f i j)
 |_,_=>none
def AoL (op:CmpOp)(x y:V)(A:AH):Option Bool:=match op with
 | .Lt=>AgR x y λi j=>decide (i<j)
 | .LtE=>AgR x y λi j=>decide (i<=j)
 | .Gt=>AgR x y λi j=>decide (j<i)
 | .GtE=>AgR x y λi j=>decide (j<=i)
 | .Eq=>if AhD x y then some (decide (x=y)) else none
 | .NotEq=>if AhD x y then some (!decide (x=y)) else none
 | .Is=>if y=.non then some (decide (x=.non)) else none
 | .IsNot=>if y=.non then some (!decide (x=.non)) else none
 | .In=>inB x y A
 | .NotIn=>(inB x y A).map (!·)
theorem Lq{x y:V}(h:AhD x y=true):noRef x=true/\noRef y=true:=by cases x<;>cases y<;>first|exact⟨Z,Z⟩|cases h
theorem CW{x:V}(h:Cg x=true):noRef x=true:=by cases x<;>first|rfl|cases h
theorem Sy:∀{xs:Nn},xs.all Cg=true->xs.all noRef=true
 |[],_=>rfl
 |x::r,h=>by
  rw[Atz,Ata]at h ⊢;exact⟨CW h.1,Sy h.2⟩
section
variable {c:Ct}{X:Cx}{ρ:NO}{A A':AH}{H:Hp}{Q:VK}{x y x' y' v:V}{op:CmpOp}{b:Bool}
theorem AdI{v w:V}{xs:Nn}(h:AbO v A=some xs)(e:Emb c ρ A H)(r:RV ρ v w):∃i a ys,v=.ref i/\w=.ref a/\ρ[i]?=some a/\(H a=some (.lst ys)\/H a=some (.tup ys))/\RVs ρ xs ys:=by
 unfold AbO at h;split at h
 ·next i =>
  split at h
  ·next ys ea =>
   cases h;obtain⟨a,rfl,b⟩:=r.Gq;obtain⟨zs,d,f⟩:=e.obj i _ a ea b;exact⟨i,a,zs,Z,Z,b,.inl d,f⟩
  ·next ys ea =>
   cases h;obtain⟨a,rfl,b⟩:=r.Gq;obtain⟨zs,d,f⟩:=e.obj i _ a ea b;exact⟨i,a,zs,Z,Z,b,.inr d,f⟩
  ·cases h
 ·cases h
theorem AiU{K:NA}{a:NX}{ys:Nn}(h:H a=some (.lst ys)\/H a=some (.tup ys)):SqL K H a ys\/SqT K H a ys:=h.imp .of .of
theorem RV.Arc(h:RV ρ x x'):decide (x'=V.non)=decide (x=V.non):=by
 cases h with
 |ref _=>rfl
 |flat _=>rfl
theorem AmH{neg:Bool}(h:inB x y A=some b)(j:X.K=c.K)(e:Emb c ρ A H)(r:RV ρ x x')(d:RV ρ y y')(k:Q (.bl (if neg then !b else b)) H) :
  OpW X (compareOp (if neg then .NotIn else .In)) x' y' H Q:=by
 unfold inB at h;split at h
 ·split at h
  ·cases h;rw[r.str,d.str];cases neg
   ·exact HH AfV ⟨_,_,Z,Z,k⟩
   ·exact HH Z3 ⟨_,_,Z,Z,k⟩
  ·cases h
 ·split at h
  ·next xs hs =>
   split at h
   ·next hf =>
    rw[Ata]at hf;cases h;obtain⟨i,a,ys,_,rfl,_,f,l⟩:=AdI hs e d;have:ys=xs:=l.flat (Sy hf.2);subst this;rw[r.Ci (CW hf.1)];cases neg
    ·exact HH (V8 j) ⟨a,ys,Z,AiU f,hf.1,hf.2,k⟩
    ·exact HH (Mq j) ⟨a,ys,Z,AiU f,hf.1,hf.2,k⟩
   ·cases h
  ·cases h
 ·cases h
theorem Vo{f:Int->Int->Bool}{g:Nd->Nd->Sem Nd}(o:OpR X g (rI0 λi j=>V.bl (f i j)))(h:AgR x y f=some b)(r:RV ρ x x')(a:RV ρ y y')(k:Q (.bl b) H):OpW X g x' y' H Q:=by
 unfold AgR at h;split at h
 ·cases h;rw[r.int,a.int];exact HH o ⟨_,_,Z,Z,k⟩
 ·cases h
theorem AoM(h:AoL op x y A=some b)(f:X.K=c.K)(e:Emb c ρ A H)(r:RV ρ x x')(a:RV ρ y y')(k:Q (.bl b) H):OpW X (compareOp op) x' y' H Q:=by
 unfold AoL at h;split at h
 ·exact Vo Aqi h r a k
 ·exact Vo Aqj h r a k
 ·exact Vo Aqk h r a k
 ·exact Vo Aql h r a k
 ·split at h
  ·next hs=>cases h;rw[r.Ci (Lq hs).1,a.Ci (Lq hs).2];exact HH Amv ⟨hs,k⟩
  ·cases h
 ·split at h
  ·next hs=>cases h;rw[r.Ci (Lq hs).1,a.Ci (Lq hs).2];exact HH Amw ⟨hs,k⟩
  ·cases h
 ·split at h
  ·next hs=>cases h;subst hs;exact HH An1 ⟨a.non,by rw[r.Arc];exact k⟩
  ·cases h
 ·split at h
  ·next hs=>cases h;subst hs;exact HH Akl ⟨a.non,by rw[r.Arc];exact k⟩
  ·cases h
 ·exact AmH (neg:=false) h f e r a k
 ·cases d:inB x y A with
  |none=>rw[d]at h;cases h
  |some i=>rw[d]at h;cases h;exact AmH (neg:=true) d f e r a k
end
def AeQ (v:V)(A:AH):Option (List (Key×V)):=match v with
 | .ref i=>match A[i]? with
  |some (.dic xs)=>some xs
  |_=>none
 |_=>none
def keyOf:V->Option Key
 | .int i=>some (.inl i)
 | .str x=>some (.inr x)
 |_=>none
def ixB (x y:V)(A:AH):Option V:=match y with
 | .int i=>match x with
  | .str z=>if z.length<=1000000 then (atI z.cps.toList i).map λc=>.str ⟨#[c]⟩ else none
  | .ref l=>match AbO (.ref l) A with
   |some xs=>atI xs i
   |none=>none
  |_=>none
 |_=>none
def slB (x:V)(lo hi:Option Int):M V:=match x with
 | .str z=>λA=>if z.cps.toList.length<=1000000 then some (.ok (.str (tx (Ads z.cps.toList lo hi))),A) else none
 | .ref l=>λA=>match Bq (.ref l) A with
  |some xs=>alloc (.lst (NT xs lo hi)) A
  |none=>none
 |_=>fail
section
variable {c:Ct}{X:Cx}{ρ:NO}{A A':AH}{H:Hp}{Q:VK}{x y x' y' v:V}
theorem AiV{v w:V}{xs:List (Key×V)}(h:AeQ v A=some xs)(e:Emb c ρ A H)(r:RV ρ v w):∃i a ys,v=.ref i/\w=.ref a/\A[i]?=some (.dic xs)/\ρ[i]?=some a/\H a=some (.dK ys)/\Paired (RP ρ) xs ys:=by
 unfold AeQ at h;split at h
 ·next i =>
  split at h
  ·next ys ea =>
   cases h;obtain⟨a,rfl,b⟩:=r.Gq;obtain⟨zs,d,f⟩:=e.obj i _ a ea b;exact⟨i,a,zs,Z,Z,ea,b,d,f⟩
  ·cases h
 ·cases h
theorem OD{xs ys:Nn}{i:Int}(r:RVs ρ xs ys)(h:atI xs i=some v):∃w,atI ys i=some w/\RV ρ v w:=by
 unfold atI at h ⊢;rw[<-Pd.len r];cases a:ixN xs.length i with
 |none=>rw[a]at h;cases h
 |some j=>rw[a]at h;exact Pd.get r h
theorem Ard(h:ixB x y A=some v)(e:Emb c ρ A H)(o:X.K=c.K)(r:RV ρ x x')(l:RV ρ y y')(k:Pk c ρ H A v Q):IxW X x' y' H Q:=by
 unfold ixB at h;split at h
 ·next i =>
  rw[l.int];split at h
  ·next z =>
   rw[r.str];split at h
   ·next hl =>
    cases j:atI z.cps.toList i with
    |none=>rw[j]at h;cases h
    |some d=>rw[j]at h;cases h;exact AoG AnF ⟨z,i,d,Z,Z,Fy hl,j,k.flat e Z⟩
   ·cases h
  ·split at h
   ·next xs hs =>
    obtain⟨n,a,ys,_,rfl,_,b,m⟩:=AdI hs e r;obtain⟨w,hw,f⟩:=OD m h;rcases b with b|b
    ·exact AoG Ae3 ⟨a,ys,i,w,Z,Z,.of b,hw,k.val e f⟩
    ·exact AoG AnE ⟨a,ys,i,w,Z,Z,.of b,hw,k.val e f⟩
   ·cases h
  ·cases h
 ·cases h
def SlW (X:Cx):V->Option Int->Option Int->Hp->VK->Prop:=λx lo hi H Q=>∀(pins:NF)(s:Na)(σ:Sl)(v vl vu:Nd)(sl:NX),Inv X pins σ H s->RelV x v->s.heap.IsSliceOf sl vl vu .none->IsPart vl lo->IsPart vu hi ->
  ∃T id,typeLookup (.type T) "__getitem__"=pure (some (.builtin id))/\s.TypeIs v T/\wpAny (model X.prog X.w) X.A (getItem v (.ref sl)) (EP X pins σ Q) X.xe s
theorem slW:SlR X (SlW X):=λpins s σ H x v a e lo hi b Q I d c p1 p2 h=>h pins s σ v a e b I d c p1 p2
theorem Are{r:V->Option Int->Option Int->Hp->VK->Prop}(o:SlR X r){lo hi:Option Int}(h:r x lo hi H Q):SlW X x lo hi H Q:=λpins s σ v a e b I d c p1 p2=>o pins s σ H x v a e lo hi b Q I d c p1 p2 h
theorem AlB{xs ys:Nn}{lo hi:Option Int}(r:RVs ρ xs ys):RVs ρ (NT xs lo hi) (NT ys lo hi):=by unfold NT;rw[<-Pd.len r];exact Pd.take _ (Pd.drop _ r)
theorem Arf{lo hi:Option Int}(h:slB x lo hi A=some (.ok v,A'))(e:Emb c ρ A H)(r:RV ρ x x')(k:Pk c ρ H A' v Q):SlW X x' lo hi H Q:=by
 unfold slB at h;split at h
 ·next z =>
  rw[r.str];split at h
  ·next hl=>cases h;exact Are Ail ⟨z.cps.toList,by rw[Wu],Fy hl,k.flat e Z⟩
  ·cases h
 ·split at h
  ·next xs hs =>
   cases h;obtain⟨f,a,ys,_,rfl,_,_,b,d⟩:=Cq hs e r;exact Are Ae4 ⟨a,ys,Z,.of b,k.PL e (AlB d)⟩
  ·cases h
 ·cases h
theorem Arh{lo hi:Option Int}{k:Nat}(h:slB x lo hi A=some (.ex k,A')):False:=by
 unfold slB alloc fail at h
 repeat (first | (split at h) | (cases h))
theorem key_is{q:Key}(h:keyOf x=some q):x=kV q/\noRef x=true:=by
 unfold keyOf at h;split at h
 ·cases h;exact⟨Z,Z⟩
 ·cases h;exact⟨Z,Z⟩
 ·cases h
theorem AbP{q:Key}:∀{kvs ks:List (Key×V)},Paired (RP ρ) kvs ks->(LQ kvs q=none/\LQ ks q=none)\/∃v w,LQ kvs q=some v/\LQ ks q=some w/\RV ρ v w
 |_,_,.nil=>.inl ⟨Z,Z⟩
 |p::kvs,p'::ks,.cons h t=>by
  by_cases e:p.1=q
  ·rw[J9 e,J9 (h.1▸e)];exact .inr ⟨_,_,Z,Z,h.2⟩
  ·rw[JB e,JB (h.1▸e)];exact AbP t
theorem any_eq{q:Key}:∀{kvs ks:List (Key×V)},Paired (RP ρ) kvs ks->(kvs.any λa=>decide (a.1=q))=ks.any λa=>decide (a.1=q)
 |_,_,.nil=>rfl
 |_,_,.cons h t=>by rw[AtK,AtK,h.1,any_eq t]
theorem map_put{q:Key}{w:V}(b:RV ρ v w):∀{kvs ks:List (Key×V)},Paired (RP ρ) kvs ks->Paired (RP ρ) (kvs.map λa=>if a.1=q then (a.1,v) else a) (ks.map λa=>if a.1=q then (a.1,w) else a)
 |_,_,.nil=>.nil
 |p::_,p'::_,.cons h t=>by
  rw[Atw,Atw];refine .cons ?_ (map_put b t);by_cases e:p.1=q
  ·rw[z8 e,z8 (h.1▸e)];exact⟨h.1,b⟩
  ·rw[z7 e,z7 (h.1▸e)];exact h
theorem AlC{q:Key}{w:V}{kvs ks:List (Key×V)}(r:Paired (RP ρ) kvs ks)(a:RV ρ v w):Paired (RP ρ) (putK kvs q v) (putK ks q w):=by
 unfold putK;rw[any_eq r];split
 ·exact map_put a r
 ·exact Pd.app r (.cons ⟨Z,a⟩ .nil)
def dgB (x y:V)(A:AH):Option (Option V):=match AeQ x A,keyOf y with
 |some kvs,some q=>some (LQ kvs q)
 |_,_=>none
theorem AiW{o:Option V}(h:dgB x y A=some o)(e:Emb c ρ A H)(r:RV ρ x x')(b:RV ρ y y'):∃a o',x'=.ref a/\XX H a y' o'/\((o=none/\o'=none)\/∃v w,o=some v/\o'=some w/\RV ρ v w):=by
 unfold dgB at h;split at h
 ·next kvs q h1 h2 =>
  cases h;obtain⟨i,a,ks,rfl,rfl,_,_,d,f⟩:=AiV h1 e r;obtain⟨rfl,j⟩:=key_is h2;rw[b.Ci j];exact⟨a,_,Z,.inl ⟨ks,q,.of d,Z,Z⟩,AbP f⟩
 ·cases h
end
end IV
namespace L2
open PySem PySem.Spec PyProof.Rows
variable {prog:Program}{w:World}{A:Around}{E Q:NS}{s:Na}{l:NX}{xs:Array (Int×Tok)}{X:Cx}
theorem Aaq(p:A.handled=none)(f:s.heap.IsTuple l (intItems xs))(m:0<xs.size)
  (h:∀v h' tk,(intItems xs)[argBest (λi j=>decide (numAt xs i<numAt xs j)) (xs.size-1)]?=some v->(∀b o,s.heap.get? b=some o->h'.get? b=some o)->Q v {s with heap:=h',toks:=tk}) :
  wpAny (model prog w) A (call (.builtin "min") [.ref l]) Q E s:=by
 have a:l<s.heap.objs.size:=by obtain⟨_,e,_⟩:=f;exact yA e
 refine call_min_walk (wpAny_pyIter_tuple f ?_);refine⟨_,[_,l],[_],_,_,_,_,Z,Walks.tuple (A:=A.in1) p _ l (Atb a) (intItems xs),⟨⟨_,zD _ Z,Z,Z⟩,f.push _⟩,λc hc=>?_,by simpa [intItems]using m,CmpOf.ints_lt (numAt xs) (λ_ _=>intItems_at),λv h' tk n hk=>?_⟩
 ·show c<(s.heap.push _).objs.size;rw[yG];rcases zZ.mp hc with rfl|hc
  ·exact Aty _
  ·rcases zZ.mp hc with rfl|hc
   ·exact At5 a
   ·cases hc
 ·refine h v h' tk (by simpa [intItems]using n) λc o e=>?_;refine hk c o (λd=>?_) (zB _ e);rcases zZ.mp d with e1|d
  ·have:=yA e;rw[e1]at this;exact At0 _ this
  ·cases d
section
variable {K:NA}
inductive AbQ (K:NA)(xs:Nn)(H:Hp)(Q:VK):Prop
|mk(a:_)(ns:_)(_:xs=[.ref a])(_:SqT K H a (vI ns))(_:0<ns.length)(_:∀M:Int,M∈ns->(∀z∈ns,M<=z)->Q (.int M) H)
theorem AgS(i:X.K=K:=by rfl)(hc:X.calm=true:=by rfl):Bx X (.builtin "min") (AbQ K):=by
 subst i;intro pins s σ H xs us Q I rv h;obtain⟨a,ns,rfl,l,c,q⟩:=h;obtain⟨u,rfl,x⟩:=rv.one;cases x;obtain⟨its,r,pl,A⟩:=I.tuple l;have hi:IntsAre its ns:=intsAre_of r;obtain⟨xs,d⟩:=hi.allInts.items;have b:ns=xs.toList.map (·.1):=by rw[<-hi.numsOf,<-nums_intItems,<-d]
 have hsz:0<xs.size:=by rw[b,AsZ,zJ]at c;exact c
 have m:s.heap.IsTuple a (intItems xs):=by rw[<-d];obtain⟨o,e1,w,n,y⟩:=pl;exact⟨o,e1,w,n,y⟩
 refine Aaq (I.ok.hd hc) m hsz λv h' tk f hk=>?_;obtain⟨t,rfl⟩:=intItems_at f;obtain⟨h1,h2⟩:=argBest_lt (numAt xs) (xs.size-1);refine⟨.int _,H,I.kept hk,⟨t,Z⟩,q _ ?_ λz e=>?_⟩
 ·rw[b,numAt_eq];exact getD_mem (by rw[AsZ,zJ];omega)
 ·rw[b]at e;obtain⟨j,p,rfl⟩:=mem_getD e;rw[AsZ,zJ]at p;rw[<-numAt_eq];exact h2 j (by omega)
end
open PySem PySem.Spec PyProof.Rows PySem.Builtin.Str
theorem Aar(i:A.handled=none)(f:s.heap.IsTuple l (intItems xs))
  (h:∀h' tk t',(∀b o,s.heap.get? b=some o->h'.get? b=some o)->Q (.int (preSum (numAt xs) xs.size) t') {s with heap:=h',toks:=tk}) :
  wpAny (model prog w) A (call (.builtin "sum") [.ref l]) Q E s:=by
 have a:l<s.heap.objs.size:=by obtain⟨_,e,_⟩:=f;exact yA e
 refine call_sum_walkG (wpAny_pyIter_tuple f ?_);refine⟨_,[_,l],[_],_,_,_,numAt xs,Z,Walks.tuple (A:=A.in1) i _ l (Atb a) (intItems xs),⟨⟨_,zD _ Z,Z,Z⟩,f.push _⟩,λc hc=>?_,(λ_ _=>intItems_at),λh' tk t' hk=>?_⟩
 ·show c<(s.heap.push _).objs.size;rw[yG];rcases zZ.mp hc with rfl|hc
  ·exact Aty _
  ·rcases zZ.mp hc with rfl|hc
   ·exact At5 a
   ·cases hc
 ·have:=h h' tk t' λc o e=>by
   refine hk c o (λd=>?_) (zB _ e);rcases zZ.mp d with e1|d
   ·have:=yA e;rw[e1]at this;exact At0 _ this
   ·cases d
  simpa [intItems]using this
section
variable {K:NA}
theorem AgT(f:X.K=K)(hc:X.calm=true):Bx X (.builtin "sum") (λxs H Q=>∃a ns,xs=[.ref a]/\SqT K H a (vI ns)/\Q (.int ns.sum) H):=by
 subst f;intro pins s σ H xs us Q I rv h;obtain⟨a,ns,rfl,i,q⟩:=h;obtain⟨u,rfl,e⟩:=rv.one;cases e;obtain⟨its,r,pl,l⟩:=I.tuple i;have hi:=intsAre_of r;obtain⟨xs,b⟩:=hi.allInts.items;have c:s.heap.IsTuple a (intItems xs):=by rw[<-b];obtain⟨o,e1,d,n,j⟩:=pl;exact⟨o,e1,d,n,j⟩
 refine Aar (I.ok.hd hc) c λh' tk t' hk=>?_;have e1:xs.toList.map (·.1)=ns:=by
  have z:numsOf its.toArray.toList=ns:=hi.numsOf;rw[b,nums_intItems]at z;exact z
 rw[show preSum (numAt xs) xs.size=ns.sum by rw[preSum_eq,AtF At,e1]];exact⟨.int ns.sum,H,I.kept hk,⟨t',Z⟩,q⟩
theorem R9:∀{l:List (Str×Tok)} {ws:NU},l.map (·.1)=ws->Vals (ws.map V.str) (strValues l)
 |[],_,h=>by cases h;exact .nil
 |p::l,[],h=>by cases h
 |p::l,w::ws,h=>by
  have e:=List.cons.inj h;exact .cons ⟨p.2,by rw[<-e.1]⟩ (R9 e.2)
theorem Y6:MtR X "str.split" (λx vs H Q=>∃(z y:Str),x=.str z/\vs=[.str y]/\0<y.length/\z.length+2<=sizeLine/\(Txt.split z y).length<=sizeLine/\∀l,H l=none->Q (.ref l) (upd H l (.lst ((Txt.split z y).map V.str)))):=by
 intro pins s σ H x vs v us Q I f rv h;obtain⟨z,y,rfl,rfl,i,m,hn,q⟩:=h;obtain⟨t,rfl⟩:=f;obtain⟨u',rfl,j⟩:=rv.one;obtain⟨t',rfl⟩:=j;have a:∀(l:List (Str×Tok))(tk:Nat),l.map (·.1)=Txt.split z y->EP X pins σ Q (.ref s.heap.objs.size) {s with heap:=s.heap.push {cls:=.type "list",data:=.seq (strValues l).toArray},toks:=tk}:=λl tk e =>
  ⟨.ref s.heap.objs.size,_,I.laid (t':=tk) (λb o e=>zB _ e) (AsY _) (show BV X.prog X.w _ _ _ (.lst ((Txt.split z y).map V.str)) from⟨by rw[AsZ];exact hn,_,_,R9 e,zD _ Z⟩),Z,q _ (I.hok.fresh (AsY _))⟩;have d:(y.length == 0)=false:=by rw[beq_eq_false_iff_ne];lia
 have hn:(partsBetween z (occurrences z y 0 z.length (z.length+1)) y.length).length<=sizeLine:=by
  have e1:=StrLaws.occ_length_le z y 0 z.length (z.length+1);rw[length_partsBetween];lia
 cases h1:(decide (z.length<y.length) ||decide (Builtin.Str.strKind z<Builtin.Str.strKind y))
 ·cases c:(occurrences z y 0 z.length (z.length+1)).isEmpty
  ·refine yM zR (typeIs_str _ _ _) yO (F.args_str_split_2 _ _) (meets_str_split_sep z y t t' h1 d c As hn) ?_;show wants (EP X pins σ Q) _ _ {s with toks:=_,heap:=s.heap.push {cls:=.type "list",data:=.seq (strsFrom s.toks (partsBetween z (occurrences z y 0 z.length (z.length+1)) y.length)).toArray} };rw[strsFrom_eq];exact a (numbered s.toks _) _ ((numbered_texts _ _).trans ((z7 (yJ h1)).trans (z7 (yJ c))).symm)
  ·exact yM zR (typeIs_str _ _ _) yO (F.args_str_split_2 _ _) (meets_str_split_not_found z y t t' h1 d c)
    (a [(z,t)] s.toks ((z7 (yJ h1)).trans (z8 c)).symm)
 ·exact yM zR (typeIs_str _ _ _) yO (F.args_str_split_2 _ _) (meets_str_split_cannot_occur z y t t' h1)
   (a [(z,t)] s.toks (z8 h1).symm)
end
end L2
namespace IV
open PySem PySem.Spec PyProof.Rows L2
def AgU (le:Int->Int->Bool)(a:Int):NV->NV
 |[]=>[a]
 |b::r=>if le a b then a::b::r else b::AgU le a r
def Wv (le:Int->Int->Bool):NV->NV
 |[]=>[]
 |a::r=>AgU le a (Wv le r)
section
variable {le:Int->Int->Bool}
theorem RB(a:Int):∀l:NV,(AgU le a l).Perm (a::l)
 |[]=>.refl _
 |b::r=>by
  unfold AgU;split
  ·exact .refl _
  ·exact((RB a r).cons b).trans (.swap a b r)
theorem Y7:∀l:NV,(Wv le l).Perm l
 |[]=>.refl _
 |a::r=>(RB a _).trans ((Y7 r).cons a)
theorem AeR(f:∀a b,le a b=true\/le b a=true)(i:∀a b c,le a b=true->le b c=true->le a c=true)(a:Int):∀l:NV,l.Pairwise (λx y=>le x y=true)->(AgU le a l).Pairwise λx y=>le x y=true
 |[],_=>.cons At .nil
 |b::r,h=>by
  unfold AgU;rw[List.pairwise_cons]at h;split
  ·next hl=>exact .cons (λx d=>(zZ.mp d).elim (λe=>e▸hl) λd=>i _ _ _ hl (h.1 x d)) (.cons h.1 h.2)
  ·next hl =>
   refine .cons (λx d=>?_) (AeR f i a r h.2);rcases zZ.mp ((RB a r).mem_iff.mp d) with e|d
   ·subst e;exact(f x b).resolve_left (by simpa using hl)
   ·exact h.1 x d
theorem AeS(d:∀a b,le a b=true\/le b a=true)(e:∀a b c,le a b=true->le b c=true->le a c=true):∀l:NV,(Wv le l).Pairwise λx y=>le x y=true
 |[]=>.nil
 |a::r=>AeR d e a _ (AeS d e r)
theorem Aas(d:∀a b,le a b=true\/le b a=true)(e:∀a b c,le a b=true->le b c=true->le a c=true)(an:∀a b,le a b=true->le b a=true->a=b){l m:NV}(p:m.Perm l)(h:m.Pairwise λx y=>le x y=true):m=Wv le l:=
 List.Perm.eq_of_pairwise (λa b _ _=>an a b) h (AeS d e l) (p.trans (Y7 l).symm)
end
def leI (a b:Int):Bool:=decide (a<=b)
def geI (a b:Int):Bool:=decide (b<=a)
theorem AiX{l m:NV}(p:m.Perm l)(h:m.Pairwise (·<=·)):m=Wv leI l:=
 Aas (λa b=>by unfold leI;simp only [decide_eq_true_eq];lia) (λa b c=>by unfold leI;simp only [decide_eq_true_eq];lia) (λa b=>by unfold leI;simp only [decide_eq_true_eq];lia) p (h.imp λz=>zK z)
theorem AoN{l m:NV}(p:m.Perm l)(h:m.Pairwise (· ≥ ·)):m=Wv geI l:=
 Aas (λa b=>by unfold geI;simp only [decide_eq_true_eq];lia) (λa b c=>by unfold geI;simp only [decide_eq_true_eq];lia) (λa b=>by unfold geI;simp only [decide_eq_true_eq];lia) p (h.imp λz=>zK z)
def intsOf(v:V)(A:AH):Option (NV):=(Bq v A).bind JF
def As0:NV->Option Int
 |[]=>none
 |a::r=>some (r.foldl (λm x=>if m<x then x else m) a)
def As1:NV->Option Int
 |[]=>none
 |a::r=>some (r.foldl (λm x=>if x<m then x else m) a)
inductive PR where
 |v (v:V)|o (o:AO)|s (i:Nat) (o:AO)
def prM (f:AH->Option PR):M V:=λA=>match f A with
 |some (.v v)=>some (.ok v,A)
 |some (.o o)=>some (.ok (.ref A.length),A++[o])
 |some (.s i o)=>some (.ok .non,A.set i o)
 |none=>none
def AoO (u:V)(A:AH):Option PR:=match u with
 | .str z=>if z.length<=1000000 then some (.v (.int z.length)) else none
 |u=>match AbO u A,AeQ u A with
  |some xs,_=>some (.v (.int xs.length))
  |_,some kvs=>some (.v (.int kvs.length))
  |_,_=>none
def AoP:V->Option PR
 | .int i=>some (.v (.int (if i<0 then -i else i)))
 |_=>none
def AoQ (u:V)(A:AH):Option PR:=match intsOf u A,(JD u A).bind JF with
 |some ns,_=>some (.v (.int ns.sum))
 |_,some ns=>some (.v (.int ns.sum))
 |_,_=>none
def AlD (f:List Bool->Bool)(u:V)(A:AH):Option PR:=((Bq u A).bind Ob).map λbs=>.v (.bl (f bs))
def AoR:V->Option PR
 | .str z=>match PySem.intText? z with
  |some n=>if z.length<=640 then some (.v (.int n)) else none
  |none=>none
 |_=>none
def AoS:V->Option PR
 | .int i=>if i.natAbs.log2<1920 then some (.v (.str (toString i))) else none
 |_=>none
def AiY (u:V)(A:AH):Option PR:=match u with
 | .ref i=>match A[i]? with
  |some (.lst xs)=>some (.o (.lst xs))
  |some (.tup xs)=>some (.o (.lst xs))
  |some (.rng lo hi)=>if Builtin.Range.small lo hi 1=true/\Builtin.Range.rangeSize lo hi 1=((hi-lo).toNat:Int)/\(hi-lo).toNat<=1000 then some (.o (.lst (vI (NZ lo 1 (hi-lo).toNat)))) else none
  |_=>none
 |_=>none
def AoT (u:V)(A:AH):Option PR:=((intsOf u A).bind As0).map λm=>.v (.int m)
def AoU (u:V)(A:AH):Option PR:=(((JD u A).bind JF).bind As1).map λm=>.v (.int m)
def AiZ (u:V)(A:AH):Option PR:=match intsOf u A with
 |some ns=>if ns.length<64 then some (.o (.lst (vI (Wv leI ns)))) else none
 |none=>none
def Aja:V->Option PR
 | .int b=>some (.o (.rng 0 b))
 |_=>none
def b2I (f:Int->Int->PR)(u y:V):Option PR:=match u,y with
 | .int i,.int j=>some (f i j)
 |_,_=>none
def AoV (u y:V):Option PR:=match u,y with
 | .int _,.ty n=>if n="tuple" then some (.v (.bl false)) else none
 | .str _,.ty n=>if n="tuple" then some (.v (.bl false)) else none
 |_,_=>none
def AdJ (x:Str)(u:V)(A:AH):Option PR:=
 if x="len" then AoO u A else if x="abs" then AoP u else if x="sum" then AoQ u A else if x="any" then AlD (·.any id) u A else if x="all" then AlD (·.all id) u A
 else if x="int" then AoR u else if x="str" then AoS u else if x="list" then AiY u A else if x="max" then AoT u A else if x="min" then AoU u A else if x="sorted" then AiZ u A else if x="range" then Aja u else none
def AdK (x:Str)(u y:V):Option PR:=
 if x="max" then b2I (λi j=>.v (.int (if j>i then j else i))) u y else if x="min" then b2I (λi j=>.v (.int (if j<i then j else i))) u y
 else if x="range" then b2I (λi j=>.o (.rng i j)) u y else if x="isinstance" then AoV u y else none
def AbR (x:Str)(vs:Nn)(A:AH):Option PR:=match vs with
 |[u]=>AdJ x u A
 |[u,y]=>AdK x u y
 |_=>none
def PkR (c:Ct)(ρ:NO)(H:Hp)(A:AH)(r:PR)(Q:VK):Prop:=match r with
 | .v v=>Pk c ρ H A v Q
 | .o o=>Pk c ρ H (A++[o]) (.ref A.length) Q
 | .s i o=>Pk c ρ H (A.set i o) .non Q
section
variable {c:Ct}{X:Cx}{ρ:NO}{A A':AH}{H:Hp}{Q:VK}{x:Str}{u y u' y':V}{r:PR}
theorem ints_of{w:V}{ns:NV}(h:intsOf u A=some ns)(e:Emb c ρ A H)(q:RV ρ u w):∃a,w=.ref a/\H a=some (.lst (vI ns)):=by
 unfold intsOf at h;cases b:Bq u A with
 |none=>rw[b]at h;cases h
 |some xs =>
  rw[b]at h;obtain⟨i,a,ys,_,rfl,_,_,d,f⟩:=Cq b e q;have:=Aap h;subst this;rw[f.flat Ed]at d;exact⟨a,Z,d⟩
theorem AbS{w:V}{ns:NV}(h:(JD u A).bind JF=some ns)(e:Emb c ρ A H)(q:RV ρ u w):∃a,w=.ref a/\H a=some (.tup (vI ns)):=by
 cases b:JD u A with
 |none=>rw[b]at h;cases h
 |some xs =>
  rw[b]at h;obtain⟨i,a,ys,_,rfl,_,_,d,f⟩:=Wq b e q;have:=Aap h;subst this;rw[f.flat Ed]at d;exact⟨a,Z,d⟩
theorem Ajb{w:V}{ns:List Bool}(h:(Bq u A).bind Ob=some ns)(e:Emb c ρ A H)(q:RV ρ u w):∃a,w=.ref a/\H a=some (.lst (vB ns)):=by
 cases b:Bq u A with
 |none=>rw[b]at h;cases h
 |some xs =>
  rw[b]at h;obtain⟨i,a,ys,_,rfl,_,_,d,f⟩:=Cq b e q;have:=AbN h;subst this;rw[f.flat AeP]at d;exact⟨a,Z,d⟩
theorem AoW(h:AoO u A=some r)(f:X.K=c.K)(e:Emb c ρ A H)(q:RV ρ u u')(k:PkR c ρ H A r Q):CT X (.builtin "len") [u'] H Q:=by
 unfold AoO at h;split at h
 ·rw[q.str];split at h
  ·next hl=>cases h;exact BP ZG ⟨_,Z,Fy hl,Pk.flat k e Z⟩
  ·cases h
 ·split at h
  ·next xs _ hs =>
   cases h;obtain⟨i,a,ys,_,rfl,_,b,d⟩:=AdI hs e q;exact BP (Dk f) ⟨a,ys,Z,AiU b,by rw[<-Pd.len d];exact Pk.flat k e Z⟩
  ·next kvs hs _ =>
   cases h;obtain⟨i,a,ys,_,rfl,_,_,b,d⟩:=AiV hs e q;exact BP Agy ⟨a,ys,Z,b,by rw[<-Pd.len d];exact Pk.flat k e Z⟩
  ·cases h
theorem AoX(h:AoP u=some r)(e:Emb c ρ A H)(q:RV ρ u u')(k:PkR c ρ H A r Q):CT X (.builtin "abs") [u'] H Q:=by
 unfold AoP at h;split at h
 ·cases h;rw[q.int];exact BP AhH ⟨_,Z,Pk.flat k e Z⟩
 ·cases h
theorem AoY(h:AoQ u A=some r)(d:X.K=c.K)(hc:X.calm=true)(e:Emb c ρ A H)(q:RV ρ u u')(k:PkR c ρ H A r Q):CT X (.builtin "sum") [u'] H Q:=by
 unfold AoQ at h;split at h
 ·next hs=>cases h;obtain⟨a,rfl,b⟩:=ints_of hs e q;exact BP (Ags d hc) ⟨a,_,Z,.of b,Pk.flat k e Z⟩
 ·next hs _=>cases h;obtain⟨a,rfl,b⟩:=AbS hs e q;exact BP (AgT d hc) ⟨a,_,Z,.of b,Pk.flat k e Z⟩
 ·cases h
theorem Ajc{f:List Bool->Bool}{n:String}(o:Bx X (.builtin n) (λvs H Q=>∃a bs,vs=[.ref a]/\SqL c.K H a (vB bs)/\Q (.bl (f bs)) H))(h:AlD f u A=some r)(e:Emb c ρ A H)(q:RV ρ u u')(k:PkR c ρ H A r Q):CT X (.builtin n) [u'] H Q:=by
 unfold AlD at h;cases hs:(Bq u A).bind Ob with
 |none=>rw[hs]at h;cases h
 |some bs=>rw[hs]at h;cases h;obtain⟨a,rfl,b⟩:=Ajb hs e q;exact BP o ⟨a,bs,Z,.of b,Pk.flat k e Z⟩
theorem AoZ(h:AoR u=some r)(e:Emb c ρ A H)(q:RV ρ u u')(k:PkR c ρ H A r Q):CT X (.type "int") [u'] H Q:=by
 unfold AoR at h;split at h
 ·rw[q.str];split at h
  ·next hn =>
   split at h
   ·next hl=>cases h;exact BP Agr ⟨_,_,Z,hn,hl,Pk.flat k e Z⟩
   ·cases h
  ·cases h
 ·cases h
theorem Apa(h:AoS u=some r)(e:Emb c ρ A H)(q:RV ρ u u')(k:PkR c ρ H A r Q):CT X (.type "str") [u'] H Q:=by
 unfold AoS at h;split at h
 ·rw[q.int];split at h
  ·next hl=>cases h;exact BP Z5 ⟨_,Z,hl,Pk.flat k e Z⟩
  ·cases h
 ·cases h
theorem AlE(h:AiY u A=some r)(j:X.K=c.K)(hc:X.calm=true)(e:Emb c ρ A H)(q:RV ρ u u')(k:PkR c ρ H A r Q):CT X (.type "list") [u'] H Q:=by
 unfold AiY at h;split at h
 ·next i =>
  obtain⟨a,rfl,d⟩:=q.Gq;split at h
  ·next xs ea =>
   cases h;obtain⟨ys,b,f⟩:=e.obj i _ a ea d;exact BP (Mr j) ⟨a,ys,Z,.inl (.of b),Pk.PL k e f⟩
  ·next xs ea =>
   cases h;obtain⟨ys,b,f⟩:=e.obj i _ a ea d;exact BP (Mr j) ⟨a,ys,Z,.inr (.of b),Pk.PL k e f⟩
  ·next lo hi ea =>
   have b:H a=some (XS a lo hi 1):=e.obj i _ a ea d;split at h
   ·next hl=>cases h;exact BP (Adt hc) ⟨a,lo,hi,1,_,Z,b,hl.1,hl.2.1,hl.2.2,Pk.PL k e (RVs.own Ed)⟩
   ·cases h
  ·cases h
 ·cases h
theorem foldl_max:∀(l:NV)(a:Int),(l.foldl (λm x=>if m<x then x else m) a∈a::l)/\∀z∈a::l,z<=l.foldl (λm x=>if m<x then x else m) a
 |[],a=>⟨At,λz c=>by simp at c;subst c;exact AtY _⟩
 |b::l,a=>by
  obtain⟨h1,h2⟩:=foldl_max l (if a<b then b else a);rw[AtR];refine⟨?_,λz c=>?_⟩
  ·rcases zZ.mp h1 with e|e
   ·rw[e];split<;>simp
   ·exact Ath _ (Ath _ e)
  ·have d:=h2 (if a<b then b else a) Atk;rcases zZ.mp c with e|c
   ·subst e;refine Aui ?_ d;split<;>lia
   ·rcases zZ.mp c with e|c
    ·subst e;refine Aui ?_ d;split<;>lia
    ·exact h2 z (Ath _ c)
theorem foldl_min:∀(l:NV)(a:Int),(l.foldl (λm x=>if x<m then x else m) a∈a::l)/\∀z∈a::l,l.foldl (λm x=>if x<m then x else m) a<=z
 |[],a=>⟨At,λz c=>by simp at c;subst c;exact AtY _⟩
 |b::l,a=>by
  obtain⟨h1,h2⟩:=foldl_min l (if b<a then b else a);rw[AtR];refine⟨?_,λz c=>?_⟩
  ·rcases zZ.mp h1 with e|e
   ·rw[e];split<;>simp
   ·exact Ath _ (Ath _ e)
  ·have d:=h2 (if b<a then b else a) Atk;rcases zZ.mp c with e|c
   ·subst e;refine Aui d ?_;split<;>lia
   ·rcases zZ.mp c with e|c
    ·subst e;refine Aui d ?_;split<;>lia
    ·exact h2 z (Ath _ c)
theorem Apb(h:AoT u A=some r)(d:X.K=c.K)(hc:X.calm=true)(e:Emb c ρ A H)(q:RV ρ u u')(k:PkR c ρ H A r Q):CT X (.builtin "max") [u'] H Q:=by
 unfold AoT at h;cases hs:intsOf u A with
 |none=>rw[hs]at h;cases h
 |some ns =>
  rw[hs]at h;obtain⟨a,rfl,b⟩:=ints_of hs e q;cases ns with
  |nil=>cases h
  |cons n ns =>
   cases h;obtain⟨i,f⟩:=foldl_max ns n;exact BP (Ag3 d hc) ⟨a,n::ns,Z,.of b,At,λM h1 h2=>(Int.le_antisymm (f M h1) (h2 _ i))▸Pk.flat k e Z⟩
theorem Apc(h:AoU u A=some r)(d:X.K=c.K)(hc:X.calm=true)(e:Emb c ρ A H)(q:RV ρ u u')(k:PkR c ρ H A r Q):CT X (.builtin "min") [u'] H Q:=by
 unfold AoU at h;cases hs:(JD u A).bind JF with
 |none=>rw[hs]at h;cases h
 |some ns =>
  rw[hs]at h;obtain⟨a,rfl,b⟩:=AbS hs e q;cases ns with
  |nil=>cases h
  |cons n ns =>
   cases h;obtain⟨i,f⟩:=foldl_min ns n;exact BP (AgS d hc) ⟨a,n::ns,Z,.of b,At,λM h1 h2=>(Int.le_antisymm (h2 _ i) (f M h1))▸Pk.flat k e Z⟩
theorem Aak(h:AiZ u A=some r)(i:X.K=c.K)(e:Emb c ρ A H)(q:RV ρ u u')(k:PkR c ρ H A r Q):CT X (.builtin "sorted") [u'] H Q:=by
 unfold AiZ at h;split at h
 ·next ns hs =>
  split at h
  ·next hl =>
   cases h;obtain⟨a,rfl,f⟩:=ints_of hs e q;exact BP (Adw i) ⟨a,ns,Z,.of f,hl,λl d p w b=>by rw[AiX p w];exact Pk.PL k e (RVs.own Ed) l b⟩
  ·cases h
 ·cases h
theorem Pk.Ari{lo hi:Int}(k:Pk c ρ H (A++[.rng lo hi]) (.ref A.length) Q)(e:Emb c ρ A H):∀p,H p=none->Q (.ref p) (upd H p (XS p lo hi 1)):=
 Pk.new (q:=λp=>XS p lo hi 1) k e λp=>Ad
theorem AlF(h:Aja u=some r)(e:Emb c ρ A H)(q:RV ρ u u')(k:PkR c ρ H A r Q):CT X (.type "range") [u'] H Q:=by
 unfold Aja at h;split at h
 ·cases h;rw[q.int];exact BP AgQ ⟨_,Z,Pk.Ari k e⟩
 ·cases h
theorem AgV(h:AdJ x u A=some r)(d:X.K=c.K)(hc:X.calm=true)(e:Emb c ρ A H)(q:RV ρ u u')(k:PkR c ρ H A r Q) :
  ∃f,bootBuiltins x=some f/\((∃id,f=.builtin id)\/∃T,f=.type T)/\CT X f [u'] H Q:=by
 unfold AdJ at h;by_cases b:x="len"
 ·rw[z8 b]at h;rw[b];exact⟨_,ZV,.inl ⟨_,Z⟩,AoW h d e q k⟩
 rw[z7 b]at h;clear b;by_cases b:x="abs"
 ·rw[z8 b]at h;rw[b];exact⟨_,AnQ,.inl ⟨_,Z⟩,AoX h e q k⟩
 rw[z7 b]at h;clear b;by_cases b:x="sum"
 ·rw[z8 b]at h;rw[b];exact⟨_,AnR,.inl ⟨_,Z⟩,AoY h d hc e q k⟩
 rw[z7 b]at h;clear b;by_cases b:x="any"
 ·rw[z8 b]at h;rw[b];exact⟨_,AnS,.inl ⟨_,Z⟩,Ajc (λpins s σ H xs us Q I rv ⟨a,bs,h1,h2,i⟩=>AgO d hc pins s σ H xs us Q I rv ⟨a,bs,h1,h2,i⟩) h e q k⟩
 rw[z7 b]at h;clear b;by_cases b:x="all"
 ·rw[z8 b]at h;rw[b];exact⟨_,AnT,.inl ⟨_,Z⟩,Ajc (λpins s σ H xs us Q I rv ⟨a,bs,h1,h2,i⟩=>AgP d hc pins s σ H xs us Q I rv ⟨a,bs,h1,h2,i⟩) h e q k⟩
 rw[z7 b]at h;clear b;by_cases b:x="int"
 ·rw[z8 b]at h;rw[b];exact⟨_,AnV,.inr ⟨_,Z⟩,AoZ h e q k⟩
 rw[z7 b]at h;clear b;by_cases b:x="str"
 ·rw[z8 b]at h;rw[b];exact⟨_,AnU,.inr ⟨_,Z⟩,Apa h e q k⟩
 rw[z7 b]at h;clear b;by_cases b:x="list"
 ·rw[z8 b]at h;rw[b];exact⟨_,ZW,.inr ⟨_,Z⟩,AlE h d hc e q k⟩
 rw[z7 b]at h;clear b;by_cases b:x="max"
 ·rw[z8 b]at h;rw[b];exact⟨_,AhZ,.inl ⟨_,Z⟩,Apb h d hc e q k⟩
 rw[z7 b]at h;clear b;by_cases b:x="min"
 ·rw[z8 b]at h;rw[b];exact⟨_,AhY,.inl ⟨_,Z⟩,Apc h d hc e q k⟩
 rw[z7 b]at h;clear b;by_cases b:x="sorted"
 ·rw[z8 b]at h;rw[b];exact⟨_,Gs,.inl ⟨_,Z⟩,Aak h d e q k⟩
 rw[z7 b]at h;clear b;by_cases b:x="range"
 ·rw[z8 b]at h;rw[b];exact⟨_,Abd,.inr ⟨_,Z⟩,AlF h e q k⟩
 rw[z7 b]at h;clear b;cases h
theorem Aat{f:Int->Int->PR}(h:b2I f u y=some r)(q:RV ρ u u')(a:RV ρ y y'):∃i j,u'=.int i/\y'=.int j/\r=f i j:=by
 unfold b2I at h;split at h
 ·cases h;exact⟨_,_,q.int,a.int,Z⟩
 ·cases h
theorem Apd{K:NA}(h:AoV u y=some r)(a:X.K=K)(e:Emb c ρ A H)(q:RV ρ u u')(b:RV ρ y y')(k:PkR c ρ H A r Q):CT X (.builtin "isinstance") [u',y'] H Q:=by
 unfold AoV at h;split at h
 ·split at h
  ·next hn=>cases h;rw[q.int,b.Ci Z,hn];exact BP (R1 a) ⟨_,_,_,.int _,.inl ⟨_,Z,Z⟩,Pk.flat k e Z⟩
  ·cases h
 ·split at h
  ·next hn=>cases h;rw[q.str,b.Ci Z,hn];exact BP (R1 a) ⟨_,_,_,.str _,.inl ⟨_,Z,Z⟩,Pk.flat k e Z⟩
  ·cases h
 ·cases h
theorem AgW(h:AdK x u y=some r)(b:X.K=c.K)(hc:X.calm=true)(e:Emb c ρ A H)(q:RV ρ u u')(a:RV ρ y y')(k:PkR c ρ H A r Q) :
  ∃f,bootBuiltins x=some f/\((∃id,f=.builtin id)\/∃T,f=.type T)/\CT X f [u',y'] H Q:=by
 unfold AdK at h;split at h
 ·next hx=>subst hx;obtain⟨i,j,rfl,rfl,rfl⟩:=Aat h q a;exact⟨_,AhZ,.inl ⟨_,Z⟩,BP (Adp hc) ⟨_,_,Z,Pk.flat k e Z⟩⟩
 ·split at h
  ·next hx=>subst hx;obtain⟨i,j,rfl,rfl,rfl⟩:=Aat h q a;exact⟨_,AhY,.inl ⟨_,Z⟩,BP (Adq hc) ⟨_,_,Z,Pk.flat k e Z⟩⟩
  ·split at h
   ·next hx=>subst hx;obtain⟨i,j,rfl,rfl,rfl⟩:=Aat h q a;exact⟨_,Abd,.inr ⟨_,Z⟩,BP Agq ⟨_,_,Z,Pk.Ari k e⟩⟩
   ·split at h
    ·next hx=>subst hx;exact⟨_,Mp,.inl ⟨_,Z⟩,Apd h b e q a k⟩
    ·cases h
theorem Ajd{vs vs':Nn}(h:AbR x vs A=some r)(a:X.K=c.K)(hc:X.calm=true)(e:Emb c ρ A H)(q:RVs ρ vs vs')(k:PkR c ρ H A r Q) :
  ∃f,bootBuiltins x=some f/\((∃id,f=.builtin id)\/∃T,f=.type T)/\CT X f vs' H Q:=by
 unfold AbR at h;split at h
 ·cases q with|cons q t=>cases t;exact AgV h a hc e q k
 ·cases q with|cons q t=>cases t with|cons b t=>cases t;exact AgW h a hc e q b k
 ·cases h
end
end IV
namespace IV
open PySem PySem.Spec PyProof.Rows L2
def Aau (x:V)(vs:Nn)(A:AH):Option PR:=match x,vs with
 | .ref i,[y]=>match A[i]? with
  |some (.lst xs)=>if xs.length<=100000 then some (.s i (.lst (xs++[y]))) else none
  |_=>none
 |_,_=>none
def Aav (x:V)(vs:Nn)(A:AH):Option PR:=match x,vs with
 | .ref i,[y]=>match A[i]?,Bq y A with
  |some (.lst xs),some zs=>if xs.length+zs.length<=100000 then some (.s i (.lst (xs++zs))) else none
  |_,_=>none
 |_,_=>none
def AdL (x:V)(vs:Nn):Option PR:=match x,vs with
 | .str u,[.str y]=>match y.cps.toList with
  |[d]=>some (.v (.int (u.cps.toList.count d:Nat)))
  |_=>none
 |_,_=>none
def Aje (z:Str):NU->Nat->Option Nat
 |[],_=>none
 |y::r,n=>if y=z then some n else Aje z r (n+1)
def AdM (x:V)(vs:Nn)(A:AH):Option PR:=match vs with
 |[.str z]=>match (Bq x A).bind Wr with
  |some zs=>match Aje z zs 0 with
   |some j=>if zs.length<=1000 then some (.v (.int j)) else none
   |none=>none
  |none=>none
 |_=>none
def Ajf (x:V)(vs:Nn)(A:AH):Option PR:=match x,vs with
 | .str z,[y]=>match (Bq y A).bind Wr with
  |some ys=>if (ys.map (·.length)).sum+ys.length*z.length<=16777216 then some (.v (.str (Txt.join z ys))) else none
  |none=>none
 |_,_=>none
def m2S (f:Str->Str->Option PR)(x:V)(vs:Nn):Option PR:=match x,vs with
 | .str z,[.str y]=>f z y
 |_,_=>none
def AdN (z y:Str):Option PR:=if 0<y.length/\z.length<=100000/\(Txt.split z y).length<=100000 then some (.o (.lst ((Txt.split z y).map V.str))) else none
def AdO (z y:Str):Option PR:=if z.length<=100000 then some (.v (.str (Txt.stripChars z y))) else none
def AeT (m:Str):Option String:=
 if m="append" then some "list" else if m="extend" then some "list" else if m="index" then some "list" else if m="count" then some "str" else if m="join" then some "str" else if m="split" then some "str" else if m="startswith" then some "str" else if m="strip" then some "str" else none
def mId (m:Str):String:=
 if m="append" then "list.append" else if m="extend" then "list.extend" else if m="index" then "list.index" else if m="count" then "str.count" else if m="join" then "str.join" else if m="split" then "str.split" else if m="startswith" then "str.startswith" else if m="strip" then "str.strip" else ""
def Ajg (m:Str)(x:V)(vs:Nn)(A:AH):Option PR:=
 if m="append" then Aau x vs A else if m="extend" then Aav x vs A else if m="index" then AdM x vs A else if m="count" then AdL x vs else if m="join" then Ajf x vs A
 else if m="split" then m2S AdN x vs else if m="startswith" then m2S (λz y=>some (.v (.bl (Txt.startswith z y)))) x vs else if m="strip" then m2S AdO x vs else none
def Ape (T:String)(x:V)(A:AH):Bool:=match x with
 | .str _=>T == "str"
 | .ref _=>T == "list" && (Bq x A).isSome
 |_=>false
section
variable {c:Ct}{X:Cx}{ρ:NO}{A A':AH}{H:Hp}{Q:VK}{m:Str}{x x':V}{vs vs':Nn}{r:PR}{T:String}
theorem AlG(h:Ape T x A=true)(e:Emb c ρ A H)(q:RV ρ x x'):tyV c.K T x' H:=by
 unfold Ape at h;split at h
 ·rw[q.str];exact eq_of_beq h
 ·rw[Ata]at h;obtain⟨xs,d⟩:=Option.isSome_iff_exists.mp h.2;obtain⟨i,a,ys,_,rfl,_,_,b,_⟩:=Cq d e q;exact .inl ⟨eq_of_beq h.1,ys,.of b⟩
 ·cases h
theorem AgX(h:Aau x vs A=some r)(e:Emb c ρ A H)(q:RV ρ x x')(b:RVs ρ vs vs')(k:PkR c ρ H A r Q):MtW X "list.append" x' vs' H Q:=by
 unfold Aau at h;split at h
 ·next i y =>
  split at h
  ·next xs ea =>
   split at h
   ·next hl =>
    cases h;obtain⟨a,rfl,d⟩:=q.Gq;obtain⟨ys,f,j⟩:=e.obj i _ a ea d;cases b with|cons b t =>
     cases t;refine AbM R0 ⟨a,ys,_,Z,Z,f,by rw[<-Pd.len j,zS];lia,?_⟩;exact k _ _ _ (.put e ea d f (λ_=>nofun) ⟨_,Ad,Pd.app j (.cons b .nil)⟩) (.flat Z)
   ·cases h
  ·cases h
 ·cases h
theorem AgY(h:Aav x vs A=some r)(e:Emb c ρ A H)(q:RV ρ x x')(d:RVs ρ vs vs')(k:PkR c ρ H A r Q):MtW X "list.extend" x' vs' H Q:=by
 unfold Aav at h;split at h
 ·next i y =>
  split at h
  ·next xs zs ea hz =>
   split at h
   ·next hl =>
    cases h;obtain⟨a,rfl,l⟩:=q.Gq;obtain⟨ys,m,n⟩:=e.obj i _ a ea l;cases d with|cons d t =>
     cases t;obtain⟨j,b,ws,_,rfl,_,_,o,f⟩:=Cq hz e d;refine AbM Agf ⟨a,b,ys,ws,Z,Z,m,o,by rw[<-Pd.len n,<-Pd.len f,zS];lia,?_⟩;exact k _ _ _ (.put e ea l m (λ_=>nofun) ⟨_,Ad,Pd.app n f⟩) (.flat Z)
   ·cases h
  ·cases h
 ·cases h
theorem VP(h:AdL x vs=some r)(e:Emb c ρ A H)(q:RV ρ x x')(a:RVs ρ vs vs')(k:PkR c ρ H A r Q):MtW X "str.count" x' vs' H Q:=by
 unfold AdL at h;split at h
 ·next u y =>
  split at h
  ·next d hd =>
   cases h;rw[q.str,a.flat rfl];refine AbM Aip ⟨u.cps.toList,d,by rw[Wu],?_,Pk.flat k e Z⟩;rw[show y=⟨#[d]⟩ by rw[<-Wu y,hd];rfl]
  ·cases h
 ·cases h
theorem Aaw{z:Str}:∀{zs:NU} {n j:Nat},Aje z zs n=some j->∃k,j=n+k/\zs[k]?=some z/\∀i,i<k->zs[i]?≠some z
 |[],_,_,h=>by cases h
 |y::r,n,j,h=>by
  unfold Aje at h;split at h
  ·next e=>cases h;exact⟨0,Z,by simp[e],λi hi=>z9 hi (Nat.not_lt_zero i)⟩
  ·next e =>
   obtain⟨k,rfl,h1,h2⟩:=Aaw h;refine⟨k+1,As,by simpa using h1,λi hi=>?_⟩;cases i with
   |zero=>simpa using e
   |succ i=>simpa using h2 i As
theorem AeU{w:V}{ns:NU}(h:(Bq x A).bind Wr=some ns)(e:Emb c ρ A H)(q:RV ρ x w):∃a,w=.ref a/\H a=some (.lst (ns.map V.str)):=by
 cases b:Bq x A with
 |none=>rw[b]at h;cases h
 |some xs =>
  rw[b]at h;obtain⟨i,a,ys,_,rfl,_,_,d,f⟩:=Cq b e q;have:=AeO h;subst this;rw[f.flat Vi]at d;exact⟨a,Z,d⟩
theorem Ajh(h:AdM x vs A=some r)(e:Emb c ρ A H)(q:RV ρ x x')(d:RVs ρ vs vs')(k:PkR c ρ H A r Q):MtW X "list.index" x' vs' H Q:=by
 unfold AdM at h;split at h
 ·split at h
  ·next zs hz =>
   split at h
   ·next j hj =>
    split at h
    ·next hl =>
     cases h;obtain⟨a,rfl,f⟩:=AeU hz e q;obtain⟨i,b,h1,h2⟩:=Aaw hj;rw[AtC]at b;subst b;rw[d.flat rfl];exact AbM Al8 ⟨a,zs,_,j,Z,Z,f,h1,h2,hl,Pk.flat k e Z⟩
    ·cases h
   ·cases h
  ·cases h
 ·cases h
theorem AlH(h:Ajf x vs A=some r)(f:X.K=c.K)(e:Emb c ρ A H)(q:RV ρ x x')(b:RVs ρ vs vs')(k:PkR c ρ H A r Q):MtW X "str.join" x' vs' H Q:=by
 unfold Ajf at h;split at h
 ·split at h
  ·next ys hy =>
   split at h
   ·next hl =>
    cases h;cases b with|cons b t =>
     cases t;obtain⟨a,rfl,d⟩:=AeU hy e b;rw[q.str];exact AbM (Pg f) ⟨_,a,ys,Z,Z,.of d,hl,Pk.flat k e Z⟩
   ·cases h
  ·cases h
 ·cases h
theorem Aax{f:Str->Str->Option PR}(h:m2S f x vs=some r)(q:RV ρ x x')(a:RVs ρ vs vs'):∃z y,x'=.str z/\vs'=[.str y]/\f z y=some r:=by
 unfold m2S at h;split at h
 ·exact⟨_,_,q.str,a.flat Z,h⟩
 ·cases h
theorem Aji{z y:Str}(h:AdN z y=some r)(e:Emb c ρ A H)(k:PkR c ρ H A r Q):MtW X "str.split" (.str z) [.str y] H Q:=by
 unfold AdN at h;split at h
 ·next hl=>cases h;exact AbM Y6 ⟨z,y,Z,Z,hl.1,by rw[zS];lia,Fy As,Pk.PL k e (RVs.own Vi)⟩
 ·cases h
theorem Ajj{z y:Str}(h:AdO z y=some r)(e:Emb c ρ A H)(k:PkR c ρ H A r Q):MtW X "str.strip" (.str z) [.str y] H Q:=by
 unfold AdO at h;split at h
 ·next hl=>cases h;exact AbM AbD ⟨z,y,Z,Z,Fy As,Pk.flat k e Z⟩
 ·cases h
theorem Ajk(h:Ajg m x vs A=some r)(d:X.K=c.K)(e:Emb c ρ A H)(q:RV ρ x x')(b:RVs ρ vs vs')(k:PkR c ρ H A r Q):MtW X (mId m) x' vs' H Q:=by
 unfold Ajg at h;unfold mId;by_cases a:m="append"
 ·rw[z8 a]at h ⊢;exact AgX h e q b k
 rw[z7 a]at h ⊢;clear a;by_cases a:m="extend"
 ·rw[z8 a]at h ⊢;exact AgY h e q b k
 rw[z7 a]at h ⊢;clear a;by_cases a:m="index"
 ·rw[z8 a]at h ⊢;exact Ajh h e q b k
 rw[z7 a]at h ⊢;clear a;by_cases a:m="count"
 ·rw[z8 a]at h ⊢;exact VP h e q b k
 rw[z7 a]at h ⊢;clear a;by_cases a:m="join"
 ·rw[z8 a]at h ⊢;exact AlH h d e q b k
 rw[z7 a]at h ⊢;clear a;by_cases a:m="split"
 ·rw[z8 a]at h ⊢;exact(by obtain⟨z,y,rfl,rfl,h⟩:=Aax h q b;exact Aji h e k)
 rw[z7 a]at h ⊢;clear a;by_cases a:m="startswith"
 ·rw[z8 a]at h ⊢;exact(by obtain⟨z,y,rfl,rfl,h⟩:=Aax h q b;cases h;exact AbM R6 ⟨z,y,Z,Z,Pk.flat k e Z⟩)
 rw[z7 a]at h ⊢;clear a;by_cases a:m="strip"
 ·rw[z8 a]at h ⊢;exact(by obtain⟨z,y,rfl,rfl,h⟩:=Aax h q b;exact Ajj h e k)
 rw[z7 a]at h ⊢;clear a;cases h
theorem Ajl{ty:String}(h:AeT m=some ty):PlainAttrs ty/\Slot ty m (mId m)/\typeOf (.builtin (mId m))=pure (.type "method_descriptor"):=by
 unfold AeT at h;unfold mId;by_cases a:m="append"
 ·rw[z8 a]at h ⊢;cases h;rw[a];exact⟨F.plainAttrs_list,F.slot_list_append,F.type_list_append⟩
 rw[z7 a]at h ⊢;clear a;by_cases a:m="extend"
 ·rw[z8 a]at h ⊢;cases h;rw[a];exact⟨F.plainAttrs_list,F.slot_list_extend,F.type_list_extend⟩
 rw[z7 a]at h ⊢;clear a;by_cases a:m="index"
 ·rw[z8 a]at h ⊢;cases h;rw[a];exact⟨F.plainAttrs_list,F.slot_list_index,F.type_list_index⟩
 rw[z7 a]at h ⊢;clear a;by_cases a:m="count"
 ·rw[z8 a]at h ⊢;cases h;rw[a];exact⟨zI,F.slot_str_count,F.type_str_count⟩
 rw[z7 a]at h ⊢;clear a;by_cases a:m="join"
 ·rw[z8 a]at h ⊢;cases h;rw[a];exact⟨zI,F.slot_str_join,F.type_str_join⟩
 rw[z7 a]at h ⊢;clear a;by_cases a:m="split"
 ·rw[z8 a]at h ⊢;cases h;rw[a];exact⟨zI,zR,F.type_str_split⟩
 rw[z7 a]at h ⊢;clear a;by_cases a:m="startswith"
 ·rw[z8 a]at h ⊢;cases h;rw[a];exact⟨zI,F.slot_str_startswith,F.type_str_startswith⟩
 rw[z7 a]at h ⊢;clear a;by_cases a:m="strip"
 ·rw[z8 a]at h ⊢;cases h;rw[a];exact⟨zI,F.slot_str_strip,F.type_str_strip⟩
 rw[z7 a]at h ⊢;clear a;cases h
end
end IV
namespace IV
open PySem PySem.Spec PyProof.Rows L2
inductive GV where
 |fn (d:Nat)|cls (k:Nat)|exc (k:Nat)|val (v:V)|tup (xs:Nn)|tab (kvs:List (Str×Str))
structure Dd where
 st:Nl
 lam:Bool
def dP (st:Nl):NU:=(Ft st).args.map (·.arg)
def dN (st:Nl):NU:=dP st++((Ac st).names.filter λy=>(decide (y.2=.local) ||decide (y.2=.cell)) && !(dP st).contains y.1).map (·.1)
structure Tt where
 defs:List Dd
 glob:List (Str×GV)
 init:NL
 meth:List (Nat×Str×Nat)
 Ajm:List (Nat×Str)
 cfs:NL
 blt:NU
structure IE where
 N:NU
 sc:Scope
 lam:Bool
inductive Fw where
 |nx (σ:Sl)|rt (v:V)|bk (σ:Sl)|ct (σ:Sl)
structure Rc where
 ev:IE->Expr->Sl->M V
 tv:IE->Expr->Sl->M Bool
 exs:IE->List Nl->Sl->M Fw
 call:Nat->Nn->M V
def grd {α:Type}(b:Bool)(m:M α):M α:=λA=>match b with
 |true=>m A
 |false=>none
theorem Aj{α:Type}{b:Bool}{m:M α}{A:AH}{p:Oc α×AH}(h:grd b m A=some p):b=true/\m A=some p:=by
 cases b with
 |true=>exact⟨Z,h⟩
 |false=>cases h
def opt {α:Type}(f:AH->Option α):M α:=λA=>match f A with
 |some a=>some (.ok a,A)
 |none=>none
theorem Br{α:Type}{f:AH->Option α}{A A':AH}{o:Oc α}(h:opt f A=some (o,A')):∃a,f A=some a/\o=.ok a/\A'=A:=by
 unfold opt at h;split at h
 ·next a e=>cases h;exact⟨a,e,Z,Z⟩
 ·cases h
def vis (ie:IE)(x:Str):Bool:=match ie.sc.names.lookup x with
 |some .local=>true
 |some .cell=>true
 |some .free=>true
 |_=>false
def loc (ie:IE)(x:Str):Bool:=match ie.sc.names.lookup x with
 |some .local=>true
 |some .cell=>true
 |_=>false
def Wx (ie:IE)(x:Str):Bool:=match ie.sc.names.lookup x with
 |some .globalImplicit=>decide (x≠"__debug__" /\ x≠"__name__")
 |_=>false
def slot(ie:IE)(x:Str):Option Nat:=Aje x ie.N 0
section
variable (T:Tt)
def glb (ie:IE)(x:Str):Option GV:=if Wx ie x then T.glob.lookup x else none
def Gz (ie:IE)(x:Str):Bool:=Wx ie x && T.blt.contains x
def nameV(ie:IE)(x:Str)(σ:Sl):Option V:=match slot ie x with
 |some i=>if vis ie x && decide (x≠"__debug__" /\ x≠"__classdict__") then (match σ[i]? with
  |some (some v)=>some v
  |_=>none) else none
 |none=>match glb T ie x with
  |some (.val v)=>if noRef v then some v else none
  |some _=>none
  |none=>if Gz T ie x && decide (x="tuple") then some (.ty "tuple") else none
def AdP:Const->Option V
 | .int i=>some (.int i)
 | .str s=>some (.str s)
 | .bool b=>some (.bl b)
 | .none=>some .non
 |_=>none
def isStar:Expr->Bool
 | .Starred _ _=>true
 |_=>false
def noStar(es:List Expr):Bool:=es.all λe=>!isStar e
def isSet:Expr->Bool
 | .Set _ _ _=>true
 |_=>false
def Aay:Expr->Bool
 | .ListComp _ _ _ _=>true
 | .SetComp _ _ _ _=>true
 | .DictComp _ _ _ _ _=>true
 |_=>false
def isSlice:Expr->Bool
 | .Slice _ _ _ _=>true
 |_=>false
def Wy:Expr->Bool
 | .Call _ [] _ _=>false
 |_=>true
def plainT:Expr->Bool
 | .UnaryOp _ _ _=>false
 | .BoolOp _ _ _=>false
 | .IfExp _ _ _ _=>false
 | .Compare _ _ _ _=>false
 |_=>true
section
variable (r:Rc) (ie:IE) (σ:Sl)
def evs:List Expr->M (Nn)
 |[]=>ret []
 |e::es=>grd (!isStar e) (bnd (r.ev ie e σ) λv=>bnd (evs es) λvs=>ret (v::vs))
def Ajn (op:BoolOp):List Expr->M Bool
 |[]=>fail
 |[a]=>r.tv ie a σ
 |a::es=>bnd (r.tv ie a σ) λb=>match op,b with
  | .And,true=>Ajn op es
  | .And,false=>ret false
  | .Or,true=>ret true
  | .Or,false=>Ajn op es
def boolOf:V->Option Bool
 | .bl b=>some b
 |_=>none
def Ajo (op:BoolOp):List Expr->M V
 |[]=>fail
 |[a]=>r.ev ie a σ
 |a::es=>bnd (r.ev ie a σ) λv=>bnd (lift (boolOf v)) λb=>match op,b with
  | .And,true=>Ajo op es
  | .And,false=>ret (.bl false)
  | .Or,true=>ret (.bl true)
  | .Or,false=>Ajo op es
def JG (e:Expr):Option GV:=match e with
 | .Name x _=>match slot ie x with
  |none=>glb T ie x
  |some _=>none
 |_=>none
def Arj (op:CmpOp)(x y:V)(A:AH):Option Bool:=match op with
 | .In=>(dgB y x A).map (·.isSome)
 | .NotIn=>(dgB y x A).map (!·.isSome)
 |_=>none
def Ark (op:CmpOp)(x:V)(xs:Nn):Option Bool:=if Cg x && xs.all Cg then (match op with
 | .In=>some (inV x xs)
 | .NotIn=>some (!inV x xs)
 |_=>none) else none
def Arl (op:CmpOp)(x:V)(kvs:List (Str×Str)):Option Bool:=match op,x with
 | .NotIn,.str k=>some (!(lk kvs k).isSome)
 |_,_=>none
def Ajp (a:Expr)(op:CmpOp)(b:Expr):M Bool:=match JG T ie b with
 |some (.tup xs)=>bnd (r.ev ie a σ) λx=>lift (Ark op x xs)
 |some (.tab kvs)=>bnd (r.ev ie a σ) λx=>lift (Arl op x kvs)
 |_=>grd (!isSet b) (bnd (r.ev ie a σ) λx=>bnd (r.ev ie b σ) λy=>opt λA=>match AoL op x y A with
  |some z=>some z
  |none=>Arj op x y A)
def intOf:V->Option Int
 | .int i=>some i
 |_=>none
def part(o:Option Expr):M (Option Int):=match o with
 |none=>ret none
 |some e=>bnd (r.ev ie e σ) λv=>bnd (lift (intOf v)) λi=>ret (some i)
def Apf (a i:Expr):M V:=match i with
 | .Slice lo hi none _=>bnd (r.ev ie a σ) λx=>bnd (part r ie σ lo) λl=>bnd (part r ie σ hi) λh=>slB x l h
 | .Slice _ _ (some _) _=>fail
 |i=>match JG T ie a with
  |some (.tab kvs)=>bnd (r.ev ie i σ) λy=>lift (match y with
   | .str k=>(lk kvs k).map V.str
   |_=>none)
  |_=>bnd (r.ev ie a σ) λx=>bnd (r.ev ie i σ) λy=>opt λA=>match ixB x y A with
   |some v=>some v
   |none=>match dgB x y A with
    |some (some v)=>some v
    |_=>none
def Wz (x:V)(A:AH):Option (Nat×List (Str×V)):=match x with
 | .ref i=>match A[i]? with
  |some (.ins k fs)=>some (k,fs)
  |_=>none
 |_=>none
def AgZ (x:V)(A:AH):Option Nat:=(Wz x A).map (·.1)
def Aha (f:Str)(x:V)(A:AH):Option V:=match Wz x A with
 |some (k,fs)=>if T.Ajm.contains (k,f) then fs.lookup f else none
 |none=>none
def make(k:Nat)(vs:Nn):M V:=λA=>match T.init[k]? with
 |some d=>match r.call d (.ref A.length::vs) (A++[.ins k []]) with
  |some (.ok .non,A')=>some (.ok (.ref A.length),A')
  |some (.ex e,A')=>some (.ex e,A')
  |_=>none
 |none=>none
def Aaz (k:Nat)(m:Str):Option Nat:=(T.meth.find? λq=>q.1 == k && decide (q.2.1=m)).map (·.2.2)
def t3 (v:V)(A:AH):Bool:=match JD v A with
 |some [.int _,.int _,.str _]=>true
 |_=>false
def dedup:NV->NV
 |[]=>[]
 |a::l=>if (dedup l).contains a then dedup l else a::dedup l
def setB(x:V)(A:AH):Option PR:=match Bq x A with
 |some xs=>match JF xs with
  |some ns=>if ns.length<64 then some (.o (.lst (vI (Wv leI (dedup ns))))) else none
  |none=>match xs with
   |[v]=>if t3 v A then some (.o (.lst [v])) else none
   |_=>none
 |none=>none
def Apg (x:V)(A:AH):Option PR:=match Bq x A with
 |some xs=>if xs.length<=1000 then some (.o (.lst xs.reverse)) else none
 |none=>none
def Aph (x:V)(A:AH):Option PR:=match intsOf x A with
 |some ns=>if ns.length<64 then some (.o (.lst (vI (Wv geI ns)))) else none
 |none=>none
def leK (ks:NV)(x y:Int):Bool:=decide (-(ks.getD x.toNat 0) < -(ks.getD y.toNat 0)) || (decide (-(ks.getD x.toNat 0) = -(ks.getD y.toNat 0)) && decide (x<=y))
def keyB(x n:V)(A:AH):Option PR:=match x with
 | .ref i=>match A[i]?,intsOf n A with
  |some (.rng lo hi),some ks=>if Builtin.Range.small lo hi 1=true/\Builtin.Range.rangeSize lo hi 1=((hi-lo).toNat:Int)/\(hi-lo).toNat<64/\0<=lo/\lo.toNat+(hi-lo).toNat<=ks.length
   then some (.o (.lst (vI (Wv (leK ks) (NZ lo 1 (hi-lo).toNat))))) else none
  |_,_=>none
 |_=>none
def inner(x:Str)(e:Expr):Option Expr:=match e with
 | .Call (.Name y _) [a] [] _=>if y=x && Gz T ie x && (slot ie x).isNone && !isStar a then some a else none
 |_=>none
def lamOf(kw:Keyword):Option (Str×Str×Scope×Arguments):=match kw with
 |⟨some k,.Lambda params (.UnaryOp .USub (.Subscript (.Name nm _) (.Name x _) _) _) scope _,_⟩=>if k="key" then some (x,nm,scope,params) else none
 |_=>none
def Ajq (kw:Keyword):Bool:=match kw with
 |⟨some k,.Constant (.bool true) _ _,_⟩=>decide (k="reverse")
 |_=>false
end
end
end IV
namespace IV
open PySem PySem.Spec PyProof.Rows L2
section
variable (T:Tt) (r:Rc) (ie:IE) (σ:Sl)
def Ajr {α:Type}(m:M α):M α:=λA=>match m A with
 |some (.ok a,A')=>some (.ok a,A')
 |_=>none
def prE (e:Expr)(f:V->AH->Option PR):M V:=bnd (r.ev ie e σ) λx=>prM (f x)
def AdQ (x:Str)(args:List Expr):M V:=match args with
 |[a]=>match inner T ie "set" a,inner T ie "reversed" a with
  |some e,_=>grd (decide (x="sorted")) (prE r ie σ e setB)
  |_,some e=>grd (decide (x="list")) (prE r ie σ e Apg)
  |none,none=>bnd (evs r ie σ args) λvs=>prM (AbR x vs)
 |_=>bnd (evs r ie σ args) λvs=>prM (AbR x vs)
def AdR (x:Str)(args:List Expr):M V:=grd ((slot ie x).isNone && !args.isEmpty && noStar args) (match glb T ie x with
 |some (.fn d)=>bnd (evs r ie σ args) λvs=>r.call d vs
 |some (.cls k)=>grd (T.init[k]?).isSome (bnd (evs r ie σ args) λvs=>make T r k vs)
 |some _=>fail
 |none=>grd (Gz T ie x) (AdQ T r ie σ x args))
def Aa0 (x nm:Str)(scope:Scope)(ps:Arguments):Bool:=match ps with
 |⟨[],[⟨y,none,_⟩],none,[],[],none,[]⟩=>decide (y=x) && (decide (x="end") ||decide (x="pick")) && decide (nm="scores") && decide (scope.names=[(x,.local),(nm,.free)]) && decide (x≠nm) && decide (scope.kind=.function) && decide (scope.isCoroutine=false) && decide (scope.isGenerator=false)
   && decide (x≠"__debug__" /\ x≠"__classdict__" /\ nm≠"__debug__" /\ nm≠"__classdict__")
 |_=>false
def AdS (x:Str)(e:Expr)(kw:Keyword):M V:=grd (decide (x="sorted") && Gz T ie x && (slot ie x).isNone && !isStar e) (match Ajq kw,lamOf kw with
 |true,_=>prE r ie σ e Aph
 |false,some (y,nm,scope,ps)=>grd (ie.lam && Aa0 y nm scope ps && decide (ie.sc.names.lookup nm=some .cell)) (match slot ie nm with
  |some j=>match σ[j]? with
   |some (some n)=>prE r ie σ e (keyB · n)
   |_=>fail
  |none=>fail)
 |false,none=>fail)
def clsOf(o:Expr):Option Nat:=match JG T ie o with
 |some (.cls k)=>if T.cfs.contains k then some k else none
 |_=>none
def AdT (o:Expr)(m:Str)(args:List Expr)(ok:Bool):M V:=grd (ok && noStar args && decide (args.length<30)) (match clsOf T ie o with
 |some k=>grd (decide (m="__init__") && !args.isEmpty) (match T.init[k]? with
  |some d=>bnd (evs r ie σ args) λvs=>r.call d vs
  |none=>fail)
 |none=>grd (Wy o) (bnd (Ajr (r.ev ie o σ)) λx A=>match Wz x A with
  |some (k,fs)=>match Aaz T k m,fs.lookup m with
   |some d,none=>bnd (evs r ie σ args) (λvs=>r.call d (x::vs)) A
   |_,_=>none
  |none=>match AeT m with
   |some ty=>grd (Ape ty x A && !args.isEmpty) (bnd (evs r ie σ args) λvs=>prM (Ajg m x vs)) A
   |none=>none))
def AmI (f:Expr)(args:List Expr)(kws:List Keyword)(pos:Pos):M V:=match f,kws with
 | .Name x _,[]=>AdR T r ie σ x args
 | .Name x _,[kw]=>match args with
  |[e]=>AdS T r ie σ x e kw
  |_=>fail
 | .Attribute o m apos,[]=>AdT T r ie σ o m args (apos.endLine == pos.line)
 |_,_=>fail
inductive Sr where
 |l (i:Nat) (xs:Nn)|s (z:Str)
inductive AI where
 |lst (i:Nat) (xs:Nn)|str (z:Str)|rng (lo:Int) (n:Nat)|zip (a b:Sr)|enl (i:Nat) (xs:Nn)|ens (u:NL)
def Sr.len:Sr->Nat
 | .l _ xs=>xs.length
 | .s z=>z.cps.toList.length
def Sr.at:Sr->Nat->Option V
 | .l _ xs,k=>xs[k]?
 | .s z,k=>(z.cps.toList[k]?).map λc=>V.str ⟨#[c]⟩
def Sr.chk(A:AH):Sr->Bool
 | .l i xs=>decide (Bq (.ref i) A=some xs)
 | .s _=>true
def AI.len:AI->Nat
 | .lst _ xs=>xs.length
 | .str z=>z.cps.toList.length
 | .rng _ n=>n
 | .zip a b=>min a.len b.len
 | .enl _ xs=>xs.length
 | .ens u=>u.length
def AI.chk(A:AH):AI->Bool
 | .lst i xs=>decide (Bq (.ref i) A=some xs)
 | .zip a b=>a.chk A && b.chk A
 | .enl i xs=>decide (Bq (.ref i) A=some xs)
 |_=>true
def W0 (o:Option V)(q:Option V):M V:=match o,q with
 |some v,some w=>alloc (.tup [v,w])
 |_,_=>fail
def AI.item(k:Nat):AI->M V
 | .lst _ xs=>lift xs[k]?
 | .str z=>lift ((z.cps.toList[k]?).map λc=>V.str ⟨#[c]⟩)
 | .rng lo n=>lift (if k<n then some (.int (lo+k)) else none)
 | .zip a b=>W0 (a.at k) (b.at k)
 | .enl _ xs=>W0 (some (.int k)) xs[k]?
 | .ens u=>W0 (some (.int k)) ((u[k]?).map λc=>V.str (tx [c]))
def Ahb (v:V)(A:AH):Option Sr:=match v with
 | .str z=>some (.s z)
 | .ref i=>(Bq (.ref i) A).map (.l i)
 |_=>none
def Arm (vs:Nn)(A:AH):Option AI:=match vs with
 |[a,b]=>match Ahb a A,Ahb b A with
  |some (.s _),some (.l _ _)=>none
  |some p,some q=>some (.zip p q)
  |_,_=>none
 |_=>none
def enB (vs:Nn)(A:AH):Option AI:=match vs with
 |[a]=>match a with
  | .str z=>some (.ens z.cps.toList)
  | .ref i=>(Bq (.ref i) A).map (.enl i)
  |_=>none
 |_=>none
def Arn (vs:Nn):Option AI:=match vs with
 |[.int j]=>if -1000<=j/\j<=1000 then some (.rng 0 j.toNat) else none
 |[.int i,.int j]=>if -1000<=i/\i<=1000 /\ -1000<=j/\j<=1000 then some (.rng i (j-i).toNat) else none
 |_=>none
def itB (v:V)(A:AH):Option AI:=match v with
 | .str z=>some (.str z)
 | .ref i=>(Bq (.ref i) A).map (.lst i)
 |_=>none
def isTup:Expr->Bool
 | .Tuple _ _ _=>true
 |_=>false
def AdU (e:Expr):Option (Str×List Expr):=match e with
 | .Call (.Name x _) args [] _=>if (x="range" \/ x="zip" \/ x="enumerate")/\Gz T ie x=true/\slot ie x=none/\noStar args=true then some (x,args) else none
 |_=>none
def AdV (tg e:Expr):M AI:=match AdU T ie e with
 |some (x,args) =>
  if x="range" then bnd (evs r ie σ args) λvs=>lift (Arn vs)
  else grd (isTup tg) (if x="zip" then bnd (evs r ie σ args) λvs=>opt (Arm vs) else bnd (evs r ie σ args) λvs=>opt (enB vs))
 |none=>grd (!isSet e) (bnd (r.ev ie e σ) λv=>opt (itB v))
def AmJ (tg e:Expr):M AI:=Ajr (AdV T r ie σ tg e)
def namesOf:List Expr->Option (NU)
 |[]=>some []
 | .Name x _::es=>(namesOf es).map (x::·)
 |_=>none
def AlI:NU->Nn->Sl->Option Sl
 |[],[],s=>some s
 |x::xs,v::vs,s=>if loc ie x then (match slot ie x with
  |some i=>AlI xs vs (s.set i (some v))
  |none=>none) else none
 |_,_,_=>none
def tgB (tg:Expr)(v:V)(A:AH):Option (NU×Nn):=match tg with
 | .Name x _=>some ([x],[v])
 | .Tuple es _ _=>match namesOf es,JD v A with
  |some xs,some vs=>if xs.length=vs.length then some (xs,vs) else none
  |_,_=>none
 |_=>none
def As2 (tg:Expr)(v:V)(s:Sl):M Sl:=opt λA=>match tgB tg v A with
 |some (xs,vs)=>AlI ie xs vs s
 |none=>none
def Eg (tg:Expr):Option (NU):=match tg with
 | .Name x _=>some [x]
 | .Tuple es _ _=>namesOf es
 |_=>none
def frees(sc:Scope):NU:=(sc.names.filter λy=>decide (y.2=.free)).map (·.1)
def slots:NU->Option (NL)
 |[]=>some []
 |x::xs=>match slot ie x,slots xs with
  |some i,some is=>some (i::is)
  |_,_=>none
def Ajs (tn:NU)(sc:Scope):Bool:=decide (sc.kind=.function) && (sc.names.all λy=>match y.2 with
  | .local=>decide (sc.names.lookup y.1=some .local)
  | .cell=>false
  | .free=>decide (ie.sc.names.lookup y.1=some .cell/\sc.names.lookup y.1=some .free)
  |_=>true) && (tn.all λx=>decide (sc.names.lookup x=some .local)) && decide (tn++frees sc).Nodup
def ifE (r:Rc)(ie:IE)(σ:Sl)(ifs:List Expr):M Bool:=match ifs with
 |[]=>ret true
 |[e]=>r.tv ie e σ
 |_=>fail
def Y8 (r:Rc)(ie':IE)(Aw:Sl)(tg elt:Expr)(ifs:List Expr)(ai:AI):Nat->Nat->Nn->M V
 | 0,_,ys=>λA=>if ai.chk A && decide (ys.length<=100000) then alloc (.lst ys) A else none
 |m+1,k,ys=>λA=>if ai.chk A && decide (ys.length<=100000) then bnd (ai.item k) (λv=>bnd (opt (tgB tg v)) λq=>bnd (ifE r ie' (q.2.map some++Aw) ifs) λb=>match b with
   |true=>bnd (r.ev ie' elt (q.2.map some++Aw)) λy=>Y8 r ie' Aw tg elt ifs ai m (k+1) (ys++[y])
   |false=>Y8 r ie' Aw tg elt ifs ai m (k+1) ys) A else none
def AeV (elt:Expr)(gens:List Comprehension)(sc:Scope):M V:=match gens with
 |[⟨tg,iter,ifs,0⟩]=>match Eg tg,slots ie (frees sc) with
  |some tn,some cs=>grd (Ajs ie tn sc && !isSet iter && decide (ifs.length<=1)) (bnd (AmJ T r ie σ tg iter) λai=>Ajr (Y8 r ⟨tn++frees sc,sc,false⟩ (Ec σ cs) tg elt ifs ai ai.len 0 []))
  |_,_=>fail
 |_=>fail
def As3:V->Option V
 | .bl b=>some (.bl (!b))
 |_=>none
def As4:V->Option V
 | .int i=>some (.int (-i))
 |_=>none
def AmK (ks:List (Option Expr))(vs:List Expr):M V:=match ks,vs with
 |[some k],[v]=>bnd (r.ev ie k σ) λq=>bnd (lift (keyOf q)) λkey=>bnd (r.ev ie v σ) λw=>alloc (.dic [(key,w)])
 |_,_=>fail
def As5 (a:Expr)(op:Operator)(b:Expr):M V:=bnd (r.ev ie a σ) λx=>bnd (r.ev ie b σ) λy=>bop op x y
def As6 (a:Expr):M V:=bnd (r.ev ie a σ) λx=>lift (As3 x)
def As7 (a:Expr):M V:=bnd (r.ev ie a σ) λx=>lift (As4 x)
def As8 (a:Expr)(op:CmpOp)(b:Expr):M V:=bnd (Ajp T r ie σ a op b) λz=>ret (.bl z)
def eIf (c a b:Expr):M V:=bnd (r.tv ie c σ) λz=>match z with
  |true=>r.ev ie a σ
  |false=>r.ev ie b σ
def As9 (es:List Expr):M V:=bnd (evs r ie σ es) λvs=>grd (decide (vs.length<=1000)) (alloc (.lst vs))
def AsA (es:List Expr):M V:=bnd (evs r ie σ es) λvs=>grd (decide (vs.length<=1000)) (alloc (.tup vs))
def AsB (a:Expr)(f:Str):M V:=grd (Wy a) (bnd (r.ev ie a σ) λx=>opt (Aha T f x))
def evE (e:Expr):M V:=match e with
 | .Constant k _ _=>lift (AdP k)
 | .Name x _=>lift (nameV T ie x σ)
 | .BinOp a op b _=>As5 r ie σ a op b
 | .UnaryOp .Not a _=>As6 r ie σ a
 | .UnaryOp .USub a _=>As7 r ie σ a
 | .Compare a [op] [b] _=>As8 T r ie σ a op b
 | .BoolOp op es _=>Ajo r ie σ op es
 | .IfExp c a b _=>eIf r ie σ c a b
 | .List es _=>As9 r ie σ es
 | .Tuple es _ _=>AsA r ie σ es
 | .Dict ks vs _=>AmK r ie σ ks vs
 | .Subscript a i _=>Apf T r ie σ a i
 | .Attribute a f _=>AsB T r ie σ a f
 | .Call f args kws pos=>AmI T r ie σ f args kws pos
 | .ListComp elt gens sc _=>AeV T r ie σ elt gens sc
 |_=>fail
def Aro (x:V)(A:AH):Option Bool:=match x with
 | .bl b=>some b
 | .ref i=>(Bq (.ref i) A).map λxs=>!xs.isEmpty
 |_=>none
def tNt (a:Expr):M Bool:=bnd (r.tv ie a σ) λb=>ret (!b)
def tPl (e:Expr):M Bool:=grd (plainT e) (bnd (r.ev ie e σ) λv=>opt (Aro v))
def tvE (e:Expr):M Bool:=match e with
 | .BoolOp op es _=>Ajn r ie σ op es
 | .UnaryOp .Not a _=>tNt r ie σ a
 | .Compare a [op] [b] _=>Ajp T r ie σ a op b
 |e=>tPl r ie σ e
def forL(tg:Expr)(body:List Nl)(ai:AI):Nat->Nat->Sl->M Fw
 | 0,_,s=>λA=>if ai.chk A then some (.ok (.nx s),A) else none
 |m+1,k,s=>λA=>if ai.chk A then bnd (ai.item k) (λv=>bnd (As2 ie tg v s) λs1=>bnd (r.exs ie body s1) λf=>match f with
   | .nx s2=>forL tg body ai m (k+1) s2
   | .ct s2=>forL tg body ai m (k+1) s2
   | .bk s2=>ret (.nx s2)
   | .rt v=>ret (.rt v)) A else none
def whL (c:Expr)(body:List Nl):Nat->Sl->M Fw
 | 0,_=>fail
 |m+1,s=>bnd (r.tv ie c s) λb=>match b with
  |false=>ret (.nx s)
  |true=>bnd (r.exs ie body s) λf=>match f with
   | .nx s2=>whL c body m s2
   | .ct s2=>whL c body m s2
   | .bk s2=>ret (.nx s2)
   | .rt v=>ret (.rt v)
def AeW (f:Str)(v x:V)(A:AH):Option (Nat×AO):=match x with
 | .ref i=>match A[i]? with
  |some (.ins k fs)=>if T.Ajm.contains (k,f) && decide (fs.length<100) then some (i,.ins k (Gn f v fs)) else none
  |_=>none
 |_=>none
def AmL (v x y:V)(A:AH):Option (Nat×AO):=match x with
 | .ref i=>match A[i]? with
  |some (.lst xs)=>match y with
   | .int k=>(ixN xs.length k).map λj=>(i,.lst (xs.set j v))
   |_=>none
  |some (.dic kvs)=>match keyOf y with
   |some q=>if kvs.length<=100000 then some (i,.dic (putK kvs q v)) else none
   |none=>none
  |_=>none
 |_=>none
def store(f:AH->Option (Nat×AO)):M Unit:=λA=>match f A with
 |some (i,o)=>some (.ok (),A.set i o)
 |none=>none
def rhs (e:Expr):M V:=match e with
 | .ListComp elt gens sc _=>AeV T r ie σ elt gens sc
 |e=>grd (!Aay e) (r.ev ie e σ)
def asS (tg e:Expr):M Fw:=match tg with
 | .Name y _=>match slot ie y with
  |some i=>grd (loc ie y) (bnd (rhs T r ie σ e) λv=>ret (.nx (σ.set i (some v))))
  |none=>fail
 | .Attribute o f _=>bnd (r.ev ie e σ) λv=>bnd (r.ev ie o σ) λx=>bnd (store (AeW T f v x)) λ_=>ret (.nx σ)
 | .Subscript o i _=>grd (!isSlice i) (bnd (r.ev ie e σ) λv=>bnd (r.ev ie o σ) λx=>bnd (r.ev ie i σ) λy=>bnd (store (AmL v x y)) λ_=>ret (.nx σ))
 |_=>fail
def agS (tg:Expr)(op:Operator)(e:Expr):M Fw:=grd (decide (op=.Add)) (match tg with
 | .Name y _=>match slot ie y with
  |some i=>grd (loc ie y) (match σ[i]? with
   |some (some (.int a))=>bnd (r.ev ie e σ) λv=>bnd (lift (intOf v)) λb=>ret (.nx (σ.set i (some (.int (a+b)))))
   |_=>fail)
  |none=>fail
 | .Attribute o f _=>bnd (r.ev ie o σ) λx=>bnd (opt (AgZ x)) λk=>bnd (opt λA=>(Aha T f x A).bind intOf) λa=>bnd (r.ev ie e σ) λv=>bnd (lift (intOf v)) λb=>bnd (opt (AgZ x)) λk'=>grd (decide (k'=k)) (bnd (store (AeW T f (.int (a+b)) x)) λ_=>ret (.nx σ))
 |_=>fail)
def raS (e:Expr):M Fw:=match e with
 | .Call (.Name x _) [.Constant (.str _) _ _] [] _=>match slot ie x,glb T ie x with
  |none,some (.exc k)=>λA=>some (.ex k,A)
  |_,_=>fail
 |_=>fail
def sEx (e:Expr):M Fw:=grd (!Aay e) (bnd (r.ev ie e σ) λ_=>ret (.nx σ))
def sRt (e:Expr):M Fw:=bnd (r.ev ie e σ) λv=>ret (.rt v)
def sIf (c:Expr)(a b:List Nl):M Fw:=bnd (r.tv ie c σ) λz=>match z with
  |true=>r.exs ie a σ
  |false=>r.exs ie b σ
def AlJ (tg iter:Expr)(body:List Nl):M Fw:=match Eg tg with
  |some tn=>grd (!isSet iter && tn.all (loc ie) && (slots ie tn).isSome) (bnd (AmJ T r ie σ tg iter) λai=>forL r ie tg body ai ai.len 0 σ)
  |none=>fail
def exS (st:Nl):M Fw:=match st with
 | .Expr e _=>sEx r ie σ e
 | .Return (some e) _=>sRt r ie σ e
 | .Return none _=>ret (.rt .non)
 | .Assign [tg] e _=>asS T r ie σ tg e
 | .AugAssign tg op e _=>agS T r ie σ tg op e
 | .If c a b _=>sIf r ie σ c a b
 | .While c body [] _=>whL r ie c body 200 σ
 | .For tg iter body [] _=>AlJ T r ie σ tg iter body
 | .Raise (some e) none _=>raS T ie e
 | .Pass _=>ret (.nx σ)
 | .Break _=>ret (.bk σ)
 | .Continue _=>ret (.ct σ)
 |_=>fail
end
def AlK (T:Tt)(r:Rc)(ie:IE):List Nl->Sl->M Fw
 |[],σ=>ret (.nx σ)
 |st::rest,σ=>bnd (exS T r ie σ st) λf=>match f with
  | .nx s=>AlK T r ie rest s
  | .rt v=>ret (.rt v)
  | .bk s=>ret (.bk s)
  | .ct s=>ret (.ct s)
def Ajt (T:Tt)(r:Rc)(d:Nat)(vs:Nn):M V:=match T.defs[d]? with
 |some D=>grd (decide (vs.length=(dP D.st).length)) (bnd (r.exs ⟨dN D.st,Ac D.st,D.lam⟩ (Bl D.st) (start (dN D.st) vs)) λf=>match f with
  | .rt v=>ret v
  | .nx _=>ret .non
  |_=>fail)
 |none=>fail
def step(T:Tt)(r:Rc):Rc:=⟨λie e σ=>evE T r ie σ e,λie e σ=>tvE T r ie σ e,λie l σ=>AlK T r ie l σ,Ajt T r⟩
def bot:Rc:=⟨λ_ _ _=>fail,λ_ _ _=>fail,λ_ _ _=>fail,λ_ _=>fail⟩
def go (T:Tt)(n:Nat):Rc:=Nat.rec bot (λ_ r=>step T r) n
end IV
namespace IV
open PySem PySem.Spec PyProof.Rows L2
section
variable (X:Cx)
def We (e:Expr):TE:=λσ H Q=>∀(pins:NF)(s:Na),Inv X pins σ H s->wpAny (model X.prog X.w) X.A (eval e X.env) (EP X pins σ Q) X.xe s
def Wt (e:Expr):TT:=λσ H Q=>∀(pins:NF)(s:Na),Inv X pins σ H s->wpAny (model X.prog X.w) X.A (isTrue e X.env (eval e X.env)) (TP X pins σ Q) X.xe s
def Ww (e:Expr):TT:=λσ H Q=>∀(whole:Sem Nd)(pins:NF)(s:Na),Inv X pins σ H s->wpAny (model X.prog X.w) X.A (isTrue e X.env whole) (TP X pins σ Q) X.xe s
def Wa (es:List Expr):TA:=λσ H Q=>∀(pos:Pos)(pins:NF)(s:Na),Inv X pins σ H s->wpAny (model X.prog X.w) X.A (spliced (backTo pos (starEach es X.env))) (AP X pins σ Q) X.xe s
def Wo (e:Option Expr):TO:=λσ H Q=>∀(pins:NF)(s:Na),Inv X pins σ H s->wpAny (model X.prog X.w) X.A (evalPart e X.env) (λu s'=>∃o H',Inv X pins σ H' s'/\IsPart u o/\Q o H') X.xe s
def Wc (op:CmpOp)(a b:Expr):TE:=λσ H Q=>∀(pins:NF)(s:Na),Inv X pins σ H s ->
 wpAny (model X.prog X.w) X.A (eval a X.env) (λv s₁=>wpAny (model X.prog X.w) X.A (eval b X.env) (λu s₂=>wpAny (model X.prog X.w) X.A (compareOp op v u) (EP X pins σ Q) X.xe s₂) X.xe s₁) X.xe s
def Wi (tg e:Expr):TI:=λσ H R=>∀(pins:NF)(s:Na),Inv X pins σ H s ->
 wpAny (model X.prog X.w) X.A (eval e X.env) (λv s1=>wpAny (model X.prog X.w) X.A (pyIter v) (PIE X pins σ tg R) X.xe s1) X.xe s
def Ws (l:List Nl):TS:=λD σ H=>∀(pins:NF)(s:Na),Inv X pins σ H s->wpAny (model X.prog X.w) X.A (execs l X.env) (SP X pins D) X.xe s
def W1 (st:Nl):TS:=λD σ H=>∀(pins:NF)(s:Na),Inv X pins σ H s->wpAny (model X.prog X.w) X.A (exec st X.env) (SP X pins D) X.xe s
end
section
variable {X:Cx}{σ:Sl}{H:Hp}
theorem Ag{e:Expr}:PE X e (We X e):=λpins s σ H Q I h=>h pins s I
theorem Mt{e:Expr}:PT X e (Wt X e):=λpins s σ H Q I h=>h pins s I
theorem pw_ww{e:Expr}:PW X e (Ww X e):=λa pins s σ H Q I h=>h a pins s I
theorem Du{e:List Expr}:PA X e (Wa X e):=λpos pins s σ H Q I h=>h pos pins s I
theorem AmM{e:Option Expr}:PO X e (Wo X e):=λpins s σ H Q I h=>h pins s I
theorem AmN{op:CmpOp}{a b:Expr}:PC X op a b (Wc X op a b):=λpins s σ H Q I h=>h pins s I
theorem AeX{tg e:Expr}:PI X tg e (Wi X tg e):=λpins s σ H Q I h=>h pins s I
theorem PN{l:List Nl}:PSs X l (Ws X l):=λpins s σ H D I h=>h pins s I
theorem AmO{l:Nl}:PS X l (W1 X l):=λpins s σ H D I h=>h pins s I
theorem Ay{e:Expr}{t:TE}{Q:VK}(p:PE X e t)(h:t σ H Q):We X e σ H Q:=λpins s I=>p pins s σ H Q I h
theorem AbT{e:Expr}{t:TT}{Q:Bool->Hp->Prop}(p:PT X e t)(h:t σ H Q):Wt X e σ H Q:=λpins s I=>p pins s σ H Q I h
theorem AeY{e:Expr}{t:TT}{Q:Bool->Hp->Prop}(p:PW X e t)(h:t σ H Q):Ww X e σ H Q:=λa pins s I=>p a pins s σ H Q I h
theorem AmP{e:List Expr}{t:TA}{Q:Nn->Hp->Prop}(p:PA X e t)(h:t σ H Q):Wa X e σ H Q:=λpos pins s I=>p pos pins s σ H Q I h
theorem Aju{e:Option Expr}{t:TO}{Q:Option Int->Hp->Prop}(p:PO X e t)(h:t σ H Q):Wo X e σ H Q:=λpins s I=>p pins s σ H Q I h
theorem Mu{op:CmpOp}{a b:Expr}{t:TE}{Q:VK}(p:PC X op a b t)(h:t σ H Q):Wc X op a b σ H Q:=λpins s I=>p pins s σ H Q I h
theorem W2{tg e:Expr}{t:TI}{R:It->Hp->Prop}(p:PI X tg e t)(h:t σ H R):Wi X tg e σ H R:=λpins s I=>p pins s σ H R I h
theorem AbU{l:List Nl}{t:TS}{D:Ends}(p:PSs X l t)(h:t D σ H):Ws X l D σ H:=λpins s I=>p pins s σ H D I h
theorem Cj{l:Nl}{t:TS}{D:Ends}(p:PS X l t)(h:t D σ H):W1 X l D σ H:=λpins s I=>p pins s σ H D I h
end
def Pst {α β:Type}(c:Ct)(E:XK)(R:NO->α->β->Prop)(ρ:NO)(H:Hp)(o:Oc α)(A':AH)(Q:β->Hp->Prop):Prop:=match o with
 | .ok a=>∀ ρ' H' b,Ext c ρ H ρ' A' H'->R ρ' a b->Q b H'
 | .ex k=>∀ ρ' H',Ext c ρ H ρ' A' H'->E (.ref (c.Xs k)) none H'
abbrev RE {α:Type} (_:NO)(a b:α):Prop:=a=b
section
variable {c:Ct}{E:XK}{ρ ρ1:NO}{H H1:Hp}{A1 A2:AH}
theorem Pst.over{α e:Type}{R:NO->α->e->Prop}{o:Oc α}{Q:e->Hp->Prop}(k:Pst c E R ρ H o A2 Q)(x:Ext c ρ H ρ1 A1 H1):Pst c E R ρ1 H1 o A2 Q:=by
 cases o with
 |ok a=>exact λd H' b y=>k d H' b (x.trans y)
 |ex j=>exact λd H' y=>k d H' (x.trans y)
theorem Pst.pkR{A:AH}{pr:PR}{o:Oc V}{Q:VK}{f:AH->Option PR}(h:prM f A=some (o,A2))(k:Pst c E RV ρ H o A2 Q):∃pr,f A=some pr/\PkR c ρ H A pr Q:=by
 unfold prM at h;split at h
 ·next v e=>cases h;exact⟨_,e,k⟩
 ·next v e=>cases h;exact⟨_,e,k⟩
 ·next i v e=>cases h;exact⟨_,e,k⟩
 ·cases h
end
structure COk (c:Ct)(T:Tt)(fa:Nat->NX)(fd:Nat->NY):Prop where
 val:∀x v,T.glob.lookup x=some (.val v)->∃u,c.mg x=some u/\RelV v u
 tup:∀x xs,T.glob.lookup x=some (.tup xs)->∃a,c.mg x=some (.ref a)/\∀H,SqT c.K H a xs
 tab:∀x D,T.glob.lookup x=some (.tab D)->∃a,c.mg x=some (.ref a)/\Top c.K a D
 fn:∀x d,T.glob.lookup x=some (.fn d)->c.mg x=some (.ref (fa d))/\(T.defs[d]?).isSome=true
 cls:∀x k,T.glob.lookup x=some (.cls k)->c.mg x=some (.ref (c.Cs k))
 exc:∀x k,T.glob.lookup x=some (.exc k)->c.mg x=some (.ref (c.Xs k))/\W.excIn c.K (c.Xs k) vE vN=true
 dfn:∀d D,T.defs[d]?=some D->(∃x q,Fun c.K x q D.st (fa d) (fd d)/\(D.lam=true->(fd d).code=.ref c.tc/\q ++ ".<locals>." ++ "<lambda>"=c.tq))/\Binds c.K (fd d) (dP D.st) []/\Bf (dN D.st) (dP D.st) (Ac D.st)
 ini:∀k d,T.init[k]?=some d->Mk c.K (c.Cs k) (fa d)/\(T.defs[d]?).isSome=true
 cf:∀k d,T.init[k]?=some d->T.cfs.contains k=true->AkI c.K (c.Cs k) "__init__" (fa d)
 met:∀k m d,Aaz T k m=some d->Cls c.K (c.Cs k)/\Meth c.K (c.Cs k) m (fa d)/\(T.defs[d]?).isSome=true
 fld:∀k f,T.Ajm.contains (k,f)=true->Cls c.K (c.Cs k)/\Bp c.K (c.Cs k) f
 blt:∀x,T.blt.contains x=true->c.mg x=none
 bot:∀x,T.blt.contains x=true->∃f,bootBuiltins x=some f/\((∃id,f=.builtin id)\/∃t,f=.type t)
 bm:Bm c.mg c.base
 hd:W.CodeHd c.base c.tc c.tT
end IV
namespace IV
open PySem PySem.Spec PyProof.Rows L2
structure Gd (c:Ct)(E:XK)(n:Nat)(ie:IE)(X:Cx):Prop where
 prog:X.prog=c.P
 w:X.w=c.w
 K:X.K=c.K
 mg:X.mg=c.mg
 base:X.base=c.base
 N:X.N=ie.N
 vis:∀x,IV.vis ie x=true->Vis X.env.scope x
 gl:∀x,Wx ie x=true->Gl X x
 cell:∀x,ie.sc.names.lookup x=some .cell->X.env.scope.names.lookup x=some .cell
 kind:X.env.scope.kind=.function
 room:BX n X.A
 pass:Passes (CX1 X.prog X.w) X E
 calm:X.calm=true
 lam:ie.lam=true->X.env.code=.ref c.tc/\X.env.qual ++ "<lambda>"=c.tq
structure GdB (c:Ct)(E:XK)(n:Nat)(ie:IE)(X:Cx):Prop extends Gd c E n ie X where
 body:Body X
 xe:∀e s',FlX X E e s'->X.xe e s'
 xq:X.xe=FlX X E
 nd:X.N.Nodup
 loc:∀x,IV.loc ie x=true->L2.Loc X.env.scope x
 fn:∀x,X.fn x=true
def spI (c:Ct)(r:Rc)(d:Nat)(ps:NU):Sp:=λvs H Q E=>∃ ρ A args o A',r.call d args A=some (o,A')/\args.length=ps.length/\Emb c ρ A H/\RVs ρ args vs/\Pst c E RV ρ H o A' Q
def PsF (c:Ct)(E:XK)(ρ:NO)(H:Hp)(o:Oc Fw)(A':AH)(D:Ends):Prop:=match o with
 | .ok (.nx σ)=>∀ ρ' H' σ',Ext c ρ H ρ' A' H'->RSt ρ' σ σ'->D.nx σ' H'
 | .ok (.bk σ)=>∀ ρ' H' σ',Ext c ρ H ρ' A' H'->RSt ρ' σ σ'->D.bk σ' H'
 | .ok (.ct σ)=>∀ ρ' H' σ',Ext c ρ H ρ' A' H'->RSt ρ' σ σ'->D.ct σ' H'
 | .ok (.rt v)=>∀ ρ' H' v',Ext c ρ H ρ' A' H'->RV ρ' v v'->D.rt v' H'
 | .ex k=>∀ ρ' H',Ext c ρ H ρ' A' H'->E (.ref (c.Xs k)) none H'
theorem PsF.over{c:Ct}{E:XK}{ρ ρ1:NO}{H H1:Hp}{A1 A2:AH}{o:Oc Fw}{D:Ends}(k:PsF c E ρ H o A2 D)(x:Ext c ρ H ρ1 A1 H1):PsF c E ρ1 H1 o A2 D:=by
 match o with
 | .ok (.nx _)=>exact λa H' b y=>k a H' b (x.trans y)
 | .ok (.bk _)=>exact λa H' b y=>k a H' b (x.trans y)
 | .ok (.ct _)=>exact λa H' b y=>k a H' b (x.trans y)
 | .ok (.rt _)=>exact λa H' b y=>k a H' b (x.trans y)
 | .ex _=>exact λa H' y=>k a H' (x.trans y)
structure Snd (c:Ct)(T:Tt)(fa:Nat->NX)(fd:Nat->NY)(n:Nat)(r:Rc):Prop where
 one:1<=n
 ev:∀{X:Cx} {ie:IE} {E:XK} {e:Expr} {σa:Sl} {A:AH} {o:Oc V} {A':AH},Gd c E (n+1) ie X->r.ev ie e σa A=some (o,A')->∀{ρ:NO} {H:Hp} {σ:Sl} {Q:VK},Emb c ρ A H->RSt ρ σa σ->Pst c E RV ρ H o A' Q->We X e σ H Q
 tv:∀{X:Cx} {ie:IE} {E:XK} {e:Expr} {σa:Sl} {A:AH} {o:Oc Bool} {A':AH},Gd c E (n+1) ie X->r.tv ie e σa A=some (o,A')->∀{ρ:NO} {H:Hp} {σ:Sl} {Q:Bool->Hp->Prop},Emb c ρ A H->RSt ρ σa σ->Pst c E RE ρ H o A' Q->Wt X e σ H Q
 exs:∀{X:Cx} {ie:IE} {E:XK} {l:List Nl} {σa:Sl} {A:AH} {o:Oc Fw} {A':AH},GdB c E (n+1) ie X->r.exs ie l σa A=some (o,A')->∀{ρ:NO} {H:Hp} {σ:Sl} {D:Ends},Emb c ρ A H->RSt ρ σa σ->PsF c E ρ H o A' D->Ws X l D σ H
 call:∀d D,T.defs[d]?=some D->BR c.P c.w c.K c.mg c.base (CX1 c.P c.w) n (fa d) (fd d) (dP D.st) (spI c r d (dP D.st))
 len:∀d args A p,r.call d args A=some p->∃D,T.defs[d]?=some D/\args.length=(dP D.st).length
section
variable {c:Ct}{T:Tt}{fa:Nat->NX}{fd:Nat->NY}{n:Nat}{r:Rc}{X:Cx}{ie:IE}{E:XK}{σa σ:Sl}{A A':AH}{ρ:NO}{H:Hp}
theorem Bh{e:Expr}{es:List Expr}{env:Env}(h:isStar e=false):starEach (e::es) env=(false,eval e env)::starEach es env:=by cases e<;>first|rfl|cases h
theorem Aa1{i:Nat}{v:V}(c:RSt ρ σa σ)(h:σa[i]?=some (some v)):∃w,σ[i]?=some (some w)/\RV ρ v w:=by
 obtain⟨b,a,q⟩:=Pd.get c h;cases q with
 |yes q=>exact⟨_,a,q⟩
theorem Bw(S:Snd c T fa fd n r)(G:Gd c E (n+1) ie X):∀{es:List Expr} {A:AH} {o:Oc (Nn)} {A':AH},evs r ie σa es A=some (o,A')->∀{ρ:NO} {H:Hp} {Q:Nn->Hp->Prop},Emb c ρ A H->RSt ρ σa σ->Pst c E RVs ρ H o A' Q->Wa X es σ H Q
 |[],A,o,A',h,ρ,H,Q,e,rs,k=>by
  cases h;exact AmP Al (k ρ H [] (.refl e) .nil)
 |a::es,A,o,A',h,ρ,H,Q,e,rs,k=>by
  unfold evs at h;obtain⟨hs,h⟩:=Aj h;have hs:isStar a=false:=by simpa using hs
  refine AmP (Ae Ag Du (Bh hs)) ?_;rcases Aa h with ⟨v,A1,h1,h2⟩|⟨j,h1,rfl⟩
  ·refine S.ev G h1 e rs λρ1 H1 s b p=>?_;rcases Aa h2 with ⟨vs,A2,f,i⟩|⟨j,f,rfl⟩
   ·cases i;exact Bw S G f b.em (b.rst rs) λρ2 H2 l d m=>k ρ2 H2 _ (b.trans d) (.cons (d.rv p) m)
   ·exact Bw S G f b.em (b.rst rs) λρ2 H2 d=>k ρ2 H2 (b.trans d)
  ·exact S.ev G h1 e rs k
theorem AdW(S:Snd c T fa fd n r)(G:Gd c E (n+1) ie X){op:BoolOp}{pos:Pos}:∀{es:List Expr} {A:AH} {o:Oc Bool} {A':AH},Ajn r ie σa op es A=some (o,A')->∀{ρ:NO} {H:Hp} {Q:Bool->Hp->Prop},Emb c ρ A H->RSt ρ σa σ->Pst c E RE ρ H o A' Q->Ww X (.BoolOp op es pos) σ H Q
 |[],A,o,A',h,ρ,H,Q,e,rs,k=>by cases h
 |[a],A,o,A',h,ρ,H,Q,e,rs,k=>by
  cases op with
  |And=>exact AeY (pw_and1 Mt) (S.tv G h e rs k)
  |Or=>exact AeY (pw_or1 Mt) (S.tv G h e rs k)
 |a::b::es,A,o,A',h,ρ,H,Q,e,rs,k=>by
  unfold Ajn at h;cases op with
  |And =>
   refine AeY (pw_and Mt pw_ww) ?_;rcases Aa h with ⟨v,A1,h1,h2⟩|⟨j,h1,rfl⟩
   ·refine S.tv G h1 e rs λρ1 H1 i d f=>?_;cases f;cases v with
    |true=>exact AdW S G h2 d.em (d.rst rs) (k.over d)
    |false=>cases h2;exact k ρ1 H1 _ d Z
   ·exact S.tv G h1 e rs k
  |Or =>
   refine AeY (pw_or Mt pw_ww) ?_;rcases Aa h with ⟨v,A1,h1,h2⟩|⟨j,h1,rfl⟩
   ·refine S.tv G h1 e rs λρ1 H1 i d f=>?_;cases f;cases v with
    |false=>exact AdW S G h2 d.em (d.rst rs) (k.over d)
    |true=>cases h2;exact k ρ1 H1 _ d Z
   ·exact S.tv G h1 e rs k
theorem Lr{v:V}{b:Bool}{A:AH}{o:Oc Bool}{A':AH}(h:lift (boolOf v) A=some (o,A')):∃b,v=.bl b/\o=.ok b/\A'=A:=by unfold lift at h;cases v<;>first|cases h;done | (cases h;exact⟨_,Z,Z,Z⟩)
theorem Aa2(S:Snd c T fa fd n r)(G:Gd c E (n+1) ie X){op:BoolOp}{pos:Pos}:∀{es:List Expr} {A:AH} {o:Oc V} {A':AH},Ajo r ie σa op es A=some (o,A')->∀{ρ:NO} {H:Hp} {Q:VK},Emb c ρ A H->RSt ρ σa σ->Pst c E RV ρ H o A' Q->We X (.BoolOp op es pos) σ H Q
 |[],A,o,A',h,ρ,H,Q,e,rs,k=>by cases h
 |[a],A,o,A',h,ρ,H,Q,e,rs,k=>Ay (Ah0 Ag) (S.ev G h e rs k)
 |a::b::es,A,o,A',h,ρ,H,Q,e,rs,k=>by
  unfold Ajo at h;cases op with
  |And =>
   refine Ay (Ah1 Ag Ag) ?_;rcases Aa h with ⟨v,A1,h1,h2⟩|⟨j,h1,rfl⟩
   ·refine S.ev G h1 e rs λρ1 H1 p d l=>?_;rcases Aa h2 with ⟨z,A2,f,i⟩|⟨j,f,_⟩
    ·obtain⟨m,rfl,e1,rfl⟩:=Lr (b:=true) f;cases e1;refine⟨_,l.bl,?_⟩;cases z with
     |true=>exact Aa2 S G i d.em (d.rst rs) (k.over d)
     |false=>cases i;exact k ρ1 H1 _ d (.flat Z)
    ·obtain⟨_,_,e1,_⟩:=Lr (b:=true) f;cases e1
   ·exact S.ev G h1 e rs k
  |Or =>
   refine Ay (ApV Ag Ag) ?_;rcases Aa h with ⟨v,A1,h1,h2⟩|⟨j,h1,rfl⟩
   ·refine S.ev G h1 e rs λρ1 H1 p d l=>?_;rcases Aa h2 with ⟨z,A2,f,i⟩|⟨j,f,_⟩
    ·obtain⟨m,rfl,e1,rfl⟩:=Lr (b:=true) f;cases e1;refine⟨_,l.bl,?_⟩;cases z with
     |false=>exact Aa2 S G i d.em (d.rst rs) (k.over d)
     |true=>cases i;exact k ρ1 H1 _ d (.flat Z)
    ·obtain⟨_,_,e1,_⟩:=Lr (b:=true) f;cases e1
   ·exact S.ev G h1 e rs k
end
end IV
namespace IV
open PySem PySem.Spec PyProof.Rows L2
section
variable {c:Ct}{T:Tt}{fa:Nat->NX}{fd:Nat->NY}{n:Nat}{r:Rc}{X:Cx}{ie:IE}{E:XK}{σa σ:Sl}{A A':AH}{ρ:NO}{H:Hp}
theorem Bb{α:Type}{q:Option α}{o:Oc α}(h:lift q A=some (o,A')):∃a,q=some a/\o=.ok a/\A'=A:=by
 unfold lift at h;split at h
 ·cases h;exact⟨_,Z,Z,Z⟩
 ·cases h
theorem Eh{x:Str}{i:Nat}(G:Gd c E n ie X)(h:slot ie x=some i):X.N[i]?=some x:=by obtain⟨j,e,h1,_⟩:=Aaw h;rw[AtC]at e;rw[G.N,e];exact h1
theorem Fz{x:Str}(h:Wx ie x=true):(x == ("__debug__":Str))=false/\x≠("__name__":Str):=by
 unfold Wx at h;split at h
 ·have:=yF h;exact⟨by simpa using this.1,this.2⟩
 ·cases h
theorem JH{x:Str}{g:GV}(h:glb T ie x=some g):Wx ie x=true/\T.glob.lookup x=some g:=by
 unfold glb at h;split at h
 ·next z=>exact⟨z,h⟩
 ·cases h
theorem Ei(C:COk c T fa fd){x:Str}(h:Gz T ie x=true):Wx ie x=true/\c.mg x=none:=by unfold Gz at h;rw[Ata]at h;exact⟨h.1,C.blt x h.2⟩
theorem Aba:bootBuiltins "tuple"=some (.type "tuple"):=Ap
theorem AlL(C:COk c T fa fd)(G:Gd c E n ie X){x:Str}{pos:Pos}{v:V}(h:nameV T ie x σa=some v)(l:RSt ρ σa σ){Q:VK}(k:∀w,RV ρ v w->Q w H):We X (.Name x pos) σ H Q:=by
 unfold nameV at h;split at h
 ·next i hi =>
  split at h
  ·next hv =>
   rw[Ata]at hv;have d:=yF hv.2;split at h
   ·next w hw =>
    cases h;obtain⟨m,b,q⟩:=Aa1 l hw;exact Ay (Zz (Eh G hi) (G.vis x hv.1) (by simpa using d.1) (by simpa using d.2)) ⟨_,b,k _ q⟩
   ·cases h
  ·cases h
 ·next hi =>
  split at h
  ·next w hg =>
   split at h
   ·next hn =>
    cases h;obtain⟨a,g2⟩:=JH hg;obtain⟨u,e,f⟩:=C.val x _ g2;exact Ay (O8 (G.gl x a) (by rw[G.mg];exact e) f (Fz a).1) (k _ (.flat hn))
   ·cases h
  ·cases h
  ·split at h
   ·next hb =>
    cases h;rw[Ata]at hb;have j:=yF hb.2;obtain⟨a,g2⟩:=Ei C hb.1;subst j;exact Ay (Aes (v:=.ty "tuple") (G.gl _ a) (by rw[G.mg];exact g2) Aba Z (Fz a).2 (Fz a).1) (k _ (.flat Z))
   ·cases h
theorem G3{b:Expr}{g:GV}(h:JG T ie b=some g):∃x pos,b=.Name x pos/\Wx ie x=true/\T.glob.lookup x=some g:=by
 unfold JG at h;split at h
 ·next x pos =>
  split at h
  ·obtain⟨h1,h2⟩:=JH h;exact⟨x,pos,Z,h1,h2⟩
  ·cases h
 ·cases h
theorem AeZ{b:Expr}(h:isSet b=false)(op:CmpOp):behindInMarks op b=false:=by cases b<;>first|rfl|cases h
theorem W3{op:CmpOp}{a b:Expr}{ta tb:TE}{q:R2}(o:OpR X (compareOp op) q)(d:PE X a ta)(i:PE X b tb):PC X op a b (tOp q ta tb):=λpins s σ H Q I h =>
 bin d i I h λv u c x y H2 l f e j=>o pins c σ H2 x y v u Q l f e j
theorem AbV{b:Expr}{g:GV}(h:JG T ie b=some g):isSet b=false:=by obtain⟨x,pos,rfl,_⟩:=G3 h;rfl
theorem Afa(S:Snd c T fa fd n r)(C:COk c T fa fd)(G:Gd c E (n+1) ie X){op:CmpOp}{a b:Expr}{o:Oc Bool}(h:Ajp T r ie σa a op b A=some (o,A'))(e:Emb c ρ A H)(f:RSt ρ σa σ){Q:VK}
  (k:Pst c E (λ_ z w=>w=V.bl z) ρ H o A' Q):isSet b=false/\Wc X op a b σ H Q:=by
 unfold Ajp at h;generalize F:JG T ie b=g at h;split at h
 ·next xs =>
  refine⟨AbV F,?_⟩;obtain⟨x,pos,rfl,y,g2⟩:=G3 F;obtain⟨q,J,m⟩:=C.tup x xs g2;have t:PE X (.Name x pos) (tC (.ref q)):=O8 (G.gl x y) (by rw[G.mg];exact J) Z (Fz y).1;rcases Aa h with ⟨v,A1,h1,h2⟩|⟨j,h1,rfl⟩
  ·obtain⟨z,e1,rfl,rfl⟩:=Bb h2;unfold Ark at e1;split at e1
   ·next hf =>
    rw[Ata]at hf;split at e1
    ·cases e1;refine Mu (W3 (V8 G.K) Ag t) (S.ev G h1 e f λρ1 H1 s d i=>?_);rw[i.Ci (CW hf.1)];exact⟨q,xs,Z,.inr (m H1),hf.1,hf.2,k ρ1 H1 _ d Z⟩
    ·cases e1;refine Mu (W3 (Mq G.K) Ag t) (S.ev G h1 e f λρ1 H1 s d i=>?_);rw[i.Ci (CW hf.1)];exact⟨q,xs,Z,.inr (m H1),hf.1,hf.2,k ρ1 H1 _ d Z⟩
    ·cases e1
   ·cases e1
  ·exact Mu (W3 opW Ag t) (S.ev G h1 e f k)
 ·next D =>
  refine⟨AbV F,?_⟩;obtain⟨x,pos,rfl,y,g2⟩:=G3 F;obtain⟨q,J,m⟩:=C.tab x D g2;have t:PE X (.Name x pos) (tC (.ref q)):=O8 (G.gl x y) (by rw[G.mg];exact J) Z (Fz y).1;rcases Aa h with ⟨v,A1,h1,h2⟩|⟨j,h1,rfl⟩
  ·obtain⟨z,e1,rfl,rfl⟩:=Bb h2;unfold Arl at e1;split at e1
   ·cases e1;refine Mu (Abr (by rw[G.K];exact m) Ag t) (S.ev G h1 e f λρ1 H1 s d i=>?_);exact⟨_,i.str,Z,k ρ1 H1 _ d Z⟩
   ·cases e1
  ·exact Mu (W3 opW Ag t) (S.ev G h1 e f k)
 ·obtain⟨hs,h⟩:=Aj h;refine⟨by simpa using hs,?_⟩;rcases Aa h with ⟨v,A1,h1,h2⟩|⟨j,h1,rfl⟩
  ·rcases Aa h2 with ⟨w,A2,B,O⟩|⟨j,B,rfl⟩
   ·obtain⟨z,e1,rfl,rfl⟩:=Br O;split at e1
    ·next z' hz =>
     cases e1;refine Mu (W3 opW Ag Ag) (S.ev G h1 e f λρ1 H1 s d i=>S.ev G B d.em (d.rst f) λρ2 H2 N l u=>?_);exact AoM hz G.K l.em (l.rv i) u (k ρ2 H2 _ (d.trans l) Z)
    ·unfold Arj at e1;split at e1
     ·cases p:dgB w v A' with
      |none=>rw[p]at e1;cases e1
      |some q =>
       rw[p]at e1;cases e1;refine Mu (Aoi (Ae5 G.room) Ag Ag) (S.ev G h1 e f λρ1 H1 s d i=>S.ev G B d.em (d.rst f) λρ2 H2 N l u=>?_);obtain⟨L,o',rfl,I,m⟩:=AiW p l.em u (l.rv i);refine⟨L,o',Z,I,?_⟩;have:=k ρ2 H2 _ (d.trans l) Z;rcases m with ⟨rfl,rfl⟩|⟨_,_,rfl,rfl,_⟩<;>exact this
     ·cases p:dgB w v A' with
      |none=>rw[p]at e1;cases e1
      |some q =>
       rw[p]at e1;cases e1;refine Mu (Agx (Ae5 G.room) Ag Ag) (S.ev G h1 e f λρ1 H1 s d i=>S.ev G B d.em (d.rst f) λρ2 H2 N l u=>?_);obtain⟨L,o',rfl,I,m⟩:=AiW p l.em u (l.rv i);refine⟨L,o',Z,I,?_⟩;have:=k ρ2 H2 _ (d.trans l) Z;rcases m with ⟨rfl,rfl⟩|⟨_,_,rfl,rfl,_⟩<;>exact this
     ·cases e1
   ·exact Mu (W3 opW Ag Ag) (S.ev G h1 e f λρ1 H1 s d i=>S.ev G B d.em (d.rst f) (Pst.over (R:=RV) k d))
  ·exact Mu (W3 opW Ag Ag) (S.ev G h1 e f k)
theorem Vp(S:Snd c T fa fd n r)(G:Gd c E (n+1) ie X){q:Option Expr}{o:Oc (Option Int)}(h:part r ie σa q A=some (o,A'))(e:Emb c ρ A H)(d:RSt ρ σa σ){Q:Option Int->Hp->Prop}(k:Pst c E RE ρ H o A' Q):Wo X q σ H Q:=by
 unfold part at h;split at h
 ·cases h;exact Aju Z8 (k ρ H _ (.refl e) Z)
 ·rcases Aa h with ⟨v,A1,h1,h2⟩|⟨j,h1,rfl⟩
  ·refine Aju (Ve Ag) (S.ev G h1 e d λρ1 H1 s m l=>?_);rcases Aa h2 with ⟨i,A2,b,f⟩|⟨j,b,_⟩
   ·obtain⟨p,e1,a,rfl⟩:=Bb b;cases a;cases f;unfold intOf at e1;split at e1
    ·cases e1;exact⟨_,l.int,k ρ1 H1 _ m Z⟩
    ·cases e1
   ·obtain⟨_,_,a,_⟩:=Bb b;cases a
  ·exact Aju (Ve Ag) (S.ev G h1 e d k)
theorem G4{i:Expr}(h:isSlice i=false):Ae2 i:=λo v=>by cases i<;>first|rfl|cases h
end
end IV
namespace IV
open PySem PySem.Spec PyProof.Rows L2
section
variable {c:Ct}{T:Tt}{fa:Nat->NX}{fd:Nat->NY}{n:Nat}{r:Rc}{X:Cx}{ie:IE}{E:XK}{σa σ:Sl}{A A':AH}{ρ:NO}{H:Hp}{Q:VK}{o:Oc V}
theorem AlM(S:Snd c T fa fd n r)(C:COk c T fa fd)(G:Gd c E (n+1) ie X){a i:Expr}{pos:Pos}(h:Apf T r ie σa a i A=some (o,A'))(e:Emb c ρ A H)(f:RSt ρ σa σ)(k:Pst c E RV ρ H o A' Q):We X (.Subscript a i pos) σ H Q:=by
 unfold Apf at h;split at h
 ·next lo hi sp =>
  refine Ay (V5 slW Ag AmM AmM) ?_;rcases Aa h with ⟨v,A1,h1,h2⟩|⟨j,h1,rfl⟩
  ·refine S.ev G h1 e f λρ1 H1 y b m=>?_;rcases Aa h2 with ⟨l,A2,s,B⟩|⟨j,s,rfl⟩
   ·refine Vp S G s b.em (b.rst f) λρ2 H2 l2 d t=>?_;cases t;rcases Aa B with ⟨u,A3,F,U⟩|⟨j,F,rfl⟩
    ·refine Vp S G F d.em (d.rst (b.rst f)) λa0 H3 l3 I r3=>?_;cases r3;cases o with
     |ok w=>exact Arf U I.em (I.rv (d.rv m)) (Pst.over (R:=RV) k ((b.trans d).trans I))
     |ex j=>exact(Arh U).elim
    ·exact Vp S G F d.em (d.rst (b.rst f)) (Pst.over (R:=RV) k (b.trans d))
   ·exact Vp S G s b.em (b.rst f) (Pst.over (R:=RV) k b)
  ·exact S.ev G h1 e f k
 ·cases h
 ·next i' hn1 hn2 =>
  have ns:isSlice i=false:=by
   cases i with
   |Slice lo hi st p=>cases st with
    |none=>exact(hn1 lo hi p Z).elim
    |some q=>exact(hn2 lo hi q p Z).elim
   |_=>rfl
  generalize hg:JG T ie a=g at h;split at h
  ·next D =>
   obtain⟨x,p,rfl,O,g2⟩:=G3 hg;obtain⟨q,hm,J⟩:=C.tab x D g2;have P:PE X (.Name x p) (tC (.ref q)):=O8 (G.gl x O) (by rw[G.mg];exact hm) Z (Fz O).1;rcases Aa h with ⟨v,A1,h1,h2⟩|⟨j,h1,rfl⟩
   ·refine Ay (Ag2 (by rw[G.K];exact J) P Ag (G4 ns)) (S.ev G h1 e f λρ1 H1 y b m=>?_);obtain⟨z,e1,rfl,rfl⟩:=Bb h2;split at e1
    ·next ky =>
     cases L:lk D ky with
     |none=>rw[L]at e1;cases e1
     |some w=>rw[L]at e1;cases e1;exact⟨ky,w,m.str,Z,L,k ρ1 H1 _ b (.flat Z)⟩
    ·cases e1
   ·exact Ay (Su ixW P Ag (G4 ns)) (S.ev G h1 e f k)
  ·rcases Aa h with ⟨v,A1,h1,h2⟩|⟨j,h1,rfl⟩
   ·rcases Aa h2 with ⟨w,A2,s,B⟩|⟨j,s,rfl⟩
    ·obtain⟨z,e1,rfl,rfl⟩:=Br B;split at e1
     ·next u hu =>
      cases e1;refine Ay (Su ixW Ag Ag (G4 ns)) (S.ev G h1 e f λρ1 H1 y b m=>S.ev G s b.em (b.rst f) λρ2 H2 W d t=>?_);exact Ard hu d.em G.K (d.rv m) t (Pst.over (R:=RV) k (b.trans d))
     ·split at e1
      ·next u hu =>
       cases e1;refine Ay (AkU (Ae5 G.room) Ag Ag (G4 ns)) (S.ev G h1 e f λρ1 H1 y b m=>S.ev G s b.em (b.rst f) λρ2 H2 W d t=>?_);obtain⟨a',o',rfl,Y,J⟩:=AiW hu d.em (d.rv m) t;rcases J with ⟨z,_⟩|⟨_,w',e3,rfl,N⟩
       ·cases z
       ·cases e3;exact⟨a',w',Z,Y,k ρ2 H2 _ (b.trans d) N⟩
      ·cases e1
    ·exact Ay (Su ixW Ag Ag (G4 ns)) (S.ev G h1 e f λρ1 H1 y b m=>S.ev G s b.em (b.rst f) (Pst.over (R:=RV) k b))
   ·exact Ay (Su ixW Ag Ag (G4 ns)) (S.ev G h1 e f k)
theorem Od{q:Expr}{f:Str}{env:Env}(h:Wy q=true):attributeBase q f env (eval q env)=eval q env:=by
 cases q with
 |Call g a b p=>cases a with
  |nil=>cases h
  |cons=>cases g<;>rfl
 |_=>rfl
theorem Aa3{f:Str}:∀{fs b:List (Str×V)},Paired (RP ρ) fs b->(fs.lookup f=none/\b.lookup f=none)\/∃v w,fs.lookup f=some v/\b.lookup f=some w/\RV ρ v w
 |_,_,.nil=>.inl ⟨Z,Z⟩
 |p::fs,p'::b,.cons h t=>by
  obtain⟨a,v⟩:=p;obtain⟨c,d⟩:=p';obtain⟨h1,h2⟩:=h;have h1:a=c:=h1;subst h1;rw[At4,At4];cases e:f == a with
  |true=>exact .inr ⟨_,_,Z,Z,h2⟩
  |false=>exact Aa3 t
theorem Ajv{x w:V}{k:Nat}{fs:List (Str×V)}(h:Wz x A=some (k,fs))(e:Emb c ρ A H)(q:RV ρ x w):∃i a dx b,x=.ref i/\w=.ref a/\A[i]?=some (.ins k fs)/\ρ[i]?=some a/\H a=some (.ins (c.Cs k) dx b)/\Paired (RP ρ) fs b:=by
 unfold Wz at h;split at h
 ·next i =>
  split at h
  ·next k' fs' ea =>
   cases h;obtain⟨a,rfl,d⟩:=q.Gq;obtain⟨dx,b,f,j⟩:=e.obj i _ a ea d;exact⟨i,a,dx,b,Z,Z,ea,d,f,j⟩
  ·cases h
 ·cases h
theorem Ajw(C:COk c T fa fd){f:Str}{x w v:V}(h:Aha T f x A=some v)(e:Emb c ρ A H)(q:RV ρ x w):∃a k dx b d,AgZ x A=some k/\w=.ref a/\H a=some (.ins (c.Cs k) dx b)/\Cls c.K (c.Cs k)/\Bp c.K (c.Cs k) f/\b.lookup f=some d/\RV ρ v d:=by
 unfold Aha at h;split at h
 ·next k fs hi =>
  split at h
  ·next hf =>
   obtain⟨i,a,dx,b,_,rfl,_,_,n,p⟩:=Ajv hi e q;obtain⟨l,m⟩:=C.fld k f hf;rcases Aa3 (f:=f) p with ⟨z,_⟩|⟨s,o,e1,j,r⟩
   ·rw[z]at h;cases h
   ·rw[e1]at h;cases h;exact⟨a,k,dx,b,o,by unfold AgZ;rw[hi];rfl,Z,n,l,m,j,r⟩
  ·cases h
 ·cases h
theorem AlN(S:Snd c T fa fd n r)(C:COk c T fa fd)(G:Gd c E (n+1) ie X){a:Expr}{f:Str}{pos:Pos}(h:grd (Wy a) (bnd (r.ev ie a σa) λx=>opt (Aha T f x)) A=some (o,A'))(e:Emb c ρ A H)(d:RSt ρ σa σ)(k:Pst c E RV ρ H o A' Q):We X (.Attribute a f pos) σ H Q:=by
 obtain⟨u,h⟩:=Aj h;refine Ay (AkG Ag (Od u) G.K) ?_;rcases Aa h with ⟨v,A1,h1,h2⟩|⟨j,h1,rfl⟩
 ·refine S.ev G h1 e d λρ1 H1 F b t=>?_;obtain⟨z,e1,rfl,rfl⟩:=Br h2;obtain⟨l,D,dx,w,i,_,rfl,y,B,m,s,p⟩:=Ajw C e1 b.em t;exact⟨l,_,dx,w,i,Z,y,B,m,s,k ρ1 H1 _ b p⟩
 ·exact S.ev G h1 e d k
theorem Bu{pos:Pos}{env:Env}:∀{es:List Expr},noStar es=true->(backTo pos (starEach es env)).any (·.1)=false
 |[],_=>rfl
 |e::es,h=>by
  unfold noStar at h;rw[Atz,Ata]at h;have h1:isStar e=false:=by simpa using h.1
  rw[Bh h1];show(false || (backTo pos (starEach es env)).any (·.1))=false;rw[Bu h.2];rfl
theorem Snd.fn(S:Snd c T fa fd n r)(G:Gd c E (n+1) ie X){d:Nat}{D:Dd}(h:T.defs[d]?=some D):BR X.prog X.w X.K X.mg X.base (CX1 X.prog X.w) n (fa d) (fd d) (dP D.st) (spI c r d (dP D.st)):=by rw[G.prog,G.w,G.K,G.mg,G.base];exact S.call d D h
theorem AlO(S:Snd c T fa fd n r)(C:COk c T fa fd)(G:Gd c E (n+1) ie X){x:Str}{d:Nat}{a:Expr}{es:List Expr}{p pos:Pos}(z:glb T ie x=some (.fn d))(hs:noStar (a::es)=true)
  (h:bnd (evs r ie σa (a::es)) (λvs=>r.call d vs) A=some (o,A')) (e:Emb c ρ A H) (s:RSt ρ σa σ) (k:Pst c E RV ρ H o A' Q):We X (.Call (.Name x p) (a::es) [] pos) σ H Q:=by
 obtain⟨m,g2⟩:=JH z;obtain⟨v,t⟩:=C.fn x d g2;obtain⟨D,i⟩:=Option.isSome_iff_exists.mp t;obtain⟨⟨x',J,F,_⟩,B,_⟩:=C.dfn d D i;have b:=hs;unfold noStar at b;rw[Atz,Ata]at b;refine Ay (Fq (S.fn G i) (G.room.mono (Atq n)) (G.gl x m) (by rw[G.mg];exact v) (by rw[G.K];exact F.kp) (by rw[G.K];exact B) .nil G.pass Du (Fz m).1 (Bh (by simpa using b.1)) (Bu b.2)) ?_;rcases Aa h with ⟨vs,A1,h1,h2⟩|⟨j,h1,rfl⟩
 ·refine Bw S G h1 e s λρ1 H1 u l w=>?_;obtain⟨I,f,y⟩:=S.len d vs A1 _ h2;rw[i]at f;cases f;refine⟨ρ1,A1,vs,o,A',h2,y,l.em,?_,k.over l⟩;rw[At6];exact w
 ·exact Bw S G h1 e s k
theorem AlP(S:Snd c T fa fd n r)(C:COk c T fa fd)(G:Gd c E (n+1) ie X){x:Str}{l:Nat}{a:Expr}{es:List Expr}{p pos:Pos}(hg:glb T ie x=some (.cls l))(w:(T.init[l]?).isSome=true)(hs:noStar (a::es)=true)
  (h:bnd (evs r ie σa (a::es)) (λvs=>make T r l vs) A=some (o,A')) (e:Emb c ρ A H) (R:RSt ρ σa σ) (k:Pst c E RV ρ H o A' Q):We X (.Call (.Name x p) (a::es) [] pos) σ H Q:=by
 obtain⟨O,g2⟩:=JH hg;have hm:=C.cls x l g2;have m:=hs;unfold noStar at m;rw[Atz,Ata]at m;have N:∀{d:Nat} {D:Dd},T.init[l]?=some d->T.defs[d]?=some D->PE X (.Call (.Name x p) (a::es) [] pos) (Amy (c.Cs l) (spI c r d (dP D.st)) [] E (Wa X (a::es))):=λ{d D} hi s=>by
  obtain⟨M,_⟩:=C.ini l d hi;obtain⟨⟨x',q',F,_⟩,B,_⟩:=C.dfn d D s;exact Akv (by rw[G.K];exact M) (S.fn G s) G.room (G.gl x O) (by rw[G.mg];exact hm) (by rw[G.K];exact B) .nil G.pass Du (Fz O).1 (Bh (by simpa using m.1)) (Bu m.2)
 rcases Aa h with ⟨vs,A1,h1,h2⟩|⟨j,h1,rfl⟩
 ·unfold make at h2;split at h2
  ·next d hi =>
   obtain⟨M,z⟩:=C.ini l d hi;obtain⟨D,s⟩:=Option.isSome_iff_exists.mp z;refine Ay (N hi s) (Bw S G h1 e R λρ1 H1 a0 t P=>?_);intro y dx Y v ne;have f:Ext c ρ1 H1 ρ1 A1 (upd H1 dx (.own y)):=.junk t.em v;have L:upd H1 dx (.own y) y=none:=by rw[Af (yD ne)];exact Y
   have b:Ext c ρ1 (upd H1 dx (.own y)) (ρ1++[y]) (A1++[.ins l []]) (upd (upd H1 dx (.own y)) y (.ins (c.Cs l) dx [])):=.new f.em L ⟨dx,[],Ad,.nil⟩;have I:=Vn t.em y;split at h2
   ·next A2 hc =>
    cases h2;obtain⟨U,i,J⟩:=S.len d _ _ _ hc;rw[s]at i;cases i;refine⟨_,_,_,_,_,hc,J,b.em,.cons (.ref I) (by rw[At6];exact b.rvs (f.rvs P)),λρ2 H2 v2 u W=>⟨W.non,?_⟩⟩;exact k ρ2 H2 _ (((t.trans f).trans b).trans u) (u.rv (.ref I))
   ·next j A2 hc =>
    cases h2;obtain⟨U,i,J⟩:=S.len d _ _ _ hc;rw[s]at i;cases i;exact⟨_,_,_,_,_,hc,J,b.em,.cons (.ref I) (by rw[At6];exact b.rvs (f.rvs P)),λρ2 H2 u=>k ρ2 H2 (((t.trans f).trans b).trans u)⟩
   ·cases h2
  ·cases h2
 ·obtain⟨d,hi⟩:=Option.isSome_iff_exists.mp w;obtain⟨M,z⟩:=C.ini l d hi;obtain⟨D,s⟩:=Option.isSome_iff_exists.mp z;exact Ay (N hi s) (Bw S G h1 e R k)
end
end IV
namespace IV
open PySem PySem.Spec PyProof.Rows L2
section
variable {c:Ct}{T:Tt}{fa:Nat->NX}{fd:Nat->NY}{n:Nat}{r:Rc}{X:Cx}{ie:IE}{E:XK}{σa σ:Sl}{A A':AH}{ρ:NO}{H:Hp}{Q:VK}{o:Oc V}
theorem AmQ(S:Snd c T fa fd n r)(C:COk c T fa fd)(G:Gd c E (n+1) ie X){x:Str}{a:Expr}{es:List Expr}{p pos:Pos}(B:Gz T ie x=true)(s:∃f,bootBuiltins x=some f/\((∃id,f=.builtin id)\/∃t,f=.type t))(hs:noStar (a::es)=true)
  (h:bnd (evs r ie σa (a::es)) (λvs=>prM (AbR x vs)) A=some (o,A')) (e:Emb c ρ A H) (z:RSt ρ σa σ) (k:Pst c E RV ρ H o A' Q):We X (.Call (.Name x p) (a::es) [] pos) σ H Q:=by
 obtain⟨d,g2⟩:=Ei C B;have b:=hs;unfold noStar at b;rw[Atz,Ata]at b;have l:isStar a=false:=by simpa using b.1
 have m:X.mg x=none:=by rw[G.mg];exact g2
 obtain⟨f,u,hk⟩:=s;have w:PE X (.Call (.Name x p) (a::es) [] pos) (tCB (CT X f) (Wa X (a::es))):=by
  rcases hk with ⟨id,rfl⟩|⟨t,rfl⟩
  ·exact Jy AmG (G.gl x d) m u Du (Fz d).2 (Fz d).1 (Bh l) (Bu b.2)
  ·exact Agd AmG (G.gl x d) m u Du (Fz d).2 (Fz d).1 (Bh l) (Bu b.2)
 refine Ay w ?_;rcases Aa h with ⟨vs,A1,h1,h2⟩|⟨j,h1,rfl⟩
 ·refine Bw S G h1 e z λρ1 H1 D y I=>?_;obtain⟨pr,J,F⟩:=Pst.pkR (pr:=.v .non) h2 (k.over y);obtain⟨L,i,_,hc⟩:=Ajd (X:=X) J G.K G.calm y.em I F;rw[u]at i;cases i;exact hc
 ·exact Bw S G h1 e z k
theorem AbW{x:Str}{b a:Expr}(h:inner T ie x b=some a):∃p pos,b=.Call (.Name x p) [a] [] pos/\Gz T ie x=true/\isStar a=false:=by
 unfold inner at h;split at h
 ·next y p a' pos =>
  split at h
  ·next hc =>
   cases h;simp only [Ata,decide_eq_true_eq,At7]at hc;obtain⟨⟨⟨rfl,h2⟩,_⟩,c⟩:=hc;exact⟨p,pos,Z,h2,c⟩
  ·cases h
 ·cases h
theorem PQ{a:Expr}{f:V->AH->Option PR}(h:prE r ie σa a f A=some (o,A')):(∃v A1,r.ev ie a σa A=some (.ok v,A1)/\prM (f v) A1=some (o,A'))\/∃j,r.ev ie a σa A=some (.ex j,A')/\o=.ex j:=Aa h
theorem Y9{z:Int}:∀{l:NV},z∈dedup l↔z∈l
 |[]=>Iff.rfl
 |a::l=>by
  unfold dedup;have b:=Y9 (z:=z) (l:=l);split
  ·next hc =>
   have hc:a∈dedup l:=by simpa using hc
   constructor
   ·intro h;exact Ath _ (b.mp h)
   ·intro h;rcases zZ.mp h with rfl|h
    ·exact hc
    ·exact b.mpr h
  ·rw[Ati,Ati,b]
theorem W4:∀{l:NV},(dedup l).Nodup
 |[]=>List.nodup_nil
 |a::l=>by
  unfold dedup;split
  ·exact W4
  ·next hc=>exact List.nodup_cons.mpr ⟨by simpa using hc,W4⟩
theorem RC{α:Type}[DecidableEq α]:∀{l m:List α},l.Nodup->(∀z∈l,z∈m)->l.length<=m.length
 |[],_,_,_=>Atg _
 |a::l,m,nd,h=>by
  rw[List.nodup_cons]at nd;have b:=h a Atk;have:=RC (l:=l) (m:=m.erase a) nd.2 λz c=>(List.mem_erase_of_ne (by rintro rfl;exact nd.1 c)).mpr (h z (Ath _ c));rw[List.length_erase_of_mem b]at this;have:=List.length_pos_of_mem b;simp only [At2];lia
theorem Api(S:Snd c T fa fd n r)(C:COk c T fa fd)(G:Gd c E (n+1) ie X){a:Expr}{p1 p2 pos1 pos2:Pos}(y:Gz T ie "sorted"=true) (D:Gz T ie "set"=true) (hs:isStar a=false)
  (h:prE r ie σa a setB A=some (o,A')) (e:Emb c ρ A H) (R:RSt ρ σa σ) (k:Pst c E RV ρ H o A' Q):We X (.Call (.Name "sorted" p1) [.Call (.Name "set" p2) [a] [] pos2] [] pos1) σ H Q:=by
 obtain⟨Y,g2⟩:=Ei C y;obtain⟨W,g4⟩:=Ei C D;have m1:X.mg "sorted"=none:=by rw[G.mg];exact g2
 have m2:X.mg "set"=none:=by rw[G.mg];exact g4
 have pI:PE X (.Call (.Name "sorted" p1) [.Call (.Name "set" p2) [a] [] pos2] [] pos1) (Abz c.K (We X a)):=Ad1 (G.gl _ Y) m1 (G.gl _ W) m2 Ag G.K G.calm (Bh hs) Z rfl Z;rcases PQ h with ⟨v,A1,h1,h2⟩|⟨j,h1,rfl⟩
 ·cases x:Bq v A1 with
  |none=>unfold prM setB at h2;rw[x]at h2;cases h2
  |some xs =>
   cases hi:JF xs with
   |some ns =>
    refine Ay pI (S.ev G h1 e R λρ1 H1 v1 m F=>?_);obtain⟨pr,d,O⟩:=Pst.pkR (pr:=.v .non) h2 (k.over m);unfold setB at d;rw[x]at d;dsimp only at d;rw[hi]at d;dsimp only at d;split at d
    ·next AsC =>
     cases d;obtain⟨a',rfl,L⟩:=ints_of (show intsOf v A1=some ns by unfold intsOf;rw[x];exact hi) m.em F;refine⟨a',ns,Z,.of L,As,λds N B=>AtS (RC N B) AsC,λl w hm U P=>?_⟩;have I:w.Nodup:=U.imp λ{a b} h=>As
     have pm:w.Perm (dedup ns):=(List.perm_ext_iff_of_nodup I W4).mpr λz=>(hm z).trans Y9.symm;rw[AiX pm (U.imp λ{a b} h=>As)];exact Pk.PL O m.em (RVs.own Ed) l P
    ·cases d
   |none =>
    have pT:PE X (.Call (.Name "sorted" p1) [.Call (.Name "set" p2) [a] [] pos2] [] pos1) (Y0 c.K (We X a)):=Ab6 (G.gl _ Y) m1 (G.gl _ W) m2 G.room.Abu Ag G.K G.calm (Bh hs) Z rfl Z;refine Ay pT (S.ev G h1 e R λρ1 H1 v1 m F=>?_);obtain⟨pr,d,O⟩:=Pst.pkR (pr:=.v .non) h2 (k.over m);unfold setB at d;rw[x]at d;dsimp only at d;rw[hi]at d;dsimp only at d;split at d
    ·next u =>
     split at d
     ·next ht =>
      cases d;unfold t3 at ht;split at ht
      ·next i j z hu =>
       obtain⟨_,al,ys,_,rfl,_,_,L,q2⟩:=Cq x m.em F;cases q2 with|@cons _ u' _ _ ru t =>
        cases t;obtain⟨_,au,ts,_,rfl,_,_,q3,q4⟩:=Wq hu m.em ru;have J:ts=[.int i,.int j,.str z]:=q4.flat Z;subst J;refine⟨al,[(au,(i,j,z))],Z,.of L,λq hq=>?_,λds N B=>?_,λb l' f p s hb=>?_⟩
        ·rw[AtZ]at hq;subst hq;exact .of q3
        ·exact AtS (RC N B) At
        ·have e1:l'=[(au,(i,j,z))]:=by
          match l',f,p,s with
          |[],_,_,s=>exact z9 ((s (i,j,z)).mpr At) At
          |[q],f,_,_=>rw[zF.mp (f q At)]
          |q::q'::t,f,p,_ =>
           have e1:=zF.mp (f q At);have e2:=zF.mp (f q' At);have:=(List.pairwise_cons.mp p).1 q' At;rw[e1,e2,SetW.AeL]at this;cases this
         rw[e1];exact Pk.PL O m.em (.cons ru .nil) b hb
      ·cases ht
     ·cases d
    ·cases d
 ·exact Ay pI (S.ev G h1 e R k)
theorem Apj(S:Snd c T fa fd n r)(C:COk c T fa fd)(G:Gd c E (n+1) ie X){a:Expr}{p1 p2 pos1 pos2:Pos}(d:Gz T ie "list"=true) (i:Gz T ie "reversed"=true) (hs:isStar a=false)
  (h:prE r ie σa a Apg A=some (o,A')) (e:Emb c ρ A H) (m:RSt ρ σa σ) (k:Pst c E RV ρ H o A' Q):We X (.Call (.Name "list" p1) [.Call (.Name "reversed" p2) [a] [] pos2] [] pos1) σ H Q:=by
 obtain⟨w,g2⟩:=Ei C d;obtain⟨u,s⟩:=Ei C i;refine Ay (AdF (G.gl _ w) (by rw[G.mg];exact g2) (G.gl _ u) (by rw[G.mg];exact s) Ag G.K G.calm (Bh hs) Z rfl Z) ?_;rcases PQ h with ⟨v,A1,h1,h2⟩|⟨j,h1,rfl⟩
 ·refine S.ev G h1 e m λρ1 H1 z f y=>?_;obtain⟨pr,b,x⟩:=Pst.pkR (pr:=.v .non) h2 (k.over f);unfold Apg at b;split at b
  ·next xs hl =>
   split at b
   ·next hz =>
    cases b;obtain⟨_,p,ys,_,rfl,_,_,t,l⟩:=Cq hl f.em y;exact⟨p,ys,Z,.of t,by rw[<-Pd.len l];exact hz,Pk.PL x f.em (Pd.rev l)⟩
   ·cases b
  ·cases b
 ·exact S.ev G h1 e m k
theorem AlQ(S:Snd c T fa fd n r)(C:COk c T fa fd)(G:Gd c E (n+1) ie X){a:Expr}{p pos y u:Pos}{j:Nat}(d:Gz T ie "sorted"=true) (hs:isStar a=false)
  (h:prE r ie σa a Aph A=some (o,A')) (e:Emb c ρ A H) (m:RSt ρ σa σ) (k:Pst c E RV ρ H o A' Q):We X (.Call (.Name "sorted" p) [a] [⟨some "reverse",.Constant (.bool true) j u,y⟩] pos) σ H Q:=by
 obtain⟨z,g2⟩:=Ei C d;refine Ay (Air (G.gl _ z) (by rw[G.mg];exact g2) Ag G.K (by rw[Bh hs];rfl) (by rw[Bh hs];rfl)) ?_;rcases PQ h with ⟨v,A1,h1,h2⟩|⟨j,h1,rfl⟩
 ·refine S.ev G h1 e m λρ1 H1 I f D=>?_;obtain⟨pr,b,B⟩:=Pst.pkR (pr:=.v .non) h2 (k.over f);unfold Aph at b;split at b
  ·next ns hl =>
   split at b
   ·next hz =>
    cases b;obtain⟨w,rfl,x⟩:=ints_of hl f.em D;exact⟨w,ns,Z,.of x,hz,λl s t F i=>by rw[AoN t F];exact Pk.PL B f.em (RVs.own Ed) l i⟩
   ·cases b
  ·cases b
 ·exact S.ev G h1 e m k
theorem AlR{ks:NV}(x y:Int):leK ks x y=true\/leK ks y x=true:=by unfold leK;simp only [AtO,Ata,decide_eq_true_eq];lia
theorem Apk{ks:NV}(x y z:Int)(h1:leK ks x y=true)(h2:leK ks y z=true):leK ks x z=true:=by unfold leK at *;simp only [AtO,Ata,decide_eq_true_eq]at *;lia
theorem Apl{ks:NV}(x y:Int)(h1:leK ks x y=true)(h2:leK ks y x=true):x=y:=by unfold leK at *;simp only [AtO,Ata,decide_eq_true_eq]at *;lia
theorem Ah{α:Type}{q:α}(h:none=some q):False:=nomatch h
theorem CJ(h:false=true):False:=nomatch h
theorem Apm{x nm:Str}{sc:Scope}{ps:Arguments}(h:Aa0 x nm sc ps=true):∃y b,ps=⟨[],[⟨y,none,b⟩],none,[],[],none,[]⟩:=by
 obtain⟨p1,p2,d,c,i,e,f⟩:=ps;cases p1 with
 |cons _ _=>exact(CJ h).elim
 |nil =>
 cases p2 with
 |nil=>exact(CJ h).elim
 |cons a p2 =>
 cases p2 with
 |cons _ _=>obtain⟨_,an,_⟩:=a;cases an<;>exact(CJ h).elim
 |nil =>
 obtain⟨y,an,b⟩:=a;cases an with
 |some _=>exact(CJ h).elim
 |none =>
 cases d with
 |some _=>exact(CJ h).elim
 |none =>
 cases c with
 |cons _ _=>exact(CJ h).elim
 |nil =>
 cases i with
 |cons _ _=>exact(CJ h).elim
 |nil =>
 cases e with
 |some _=>exact(CJ h).elim
 |none =>
 cases f with
 |cons _ _=>exact(CJ h).elim
 |nil=>exact⟨y,b,Z⟩
theorem Apn{kw:Keyword}{q:Str×Str×Scope×Arguments}(h:lamOf kw=some q):∃j c d e l f,kw=⟨some "key",.Lambda q.2.2.2 (.UnaryOp .USub (.Subscript (.Name q.2.1 j) (.Name q.1 c) d) e) q.2.2.1 l,f⟩:=by
 obtain⟨o,n,f⟩:=kw;cases o with
 |none=>exact(Ah h).elim
 |some k =>
 cases n<;>first|exact(Ah h).elim|skip
 rename_i ps m sc l;cases m<;>first|exact(Ah h).elim|skip
 rename_i op a e;cases op<;>first|exact(Ah h).elim|skip
 cases a<;>first|exact(Ah h).elim|skip
 rename_i b i d;cases b<;>first|exact(Ah h).elim|skip
 rename_i nm j;cases i<;>first|exact(Ah h).elim|skip
 rename_i x c;have h:(if k="key" then some (x,nm,sc,ps) else none)=some q:=h;by_cases hk:k="key"
 ·rw[z8 hk]at h;cases h;cases hk;exact⟨j,c,d,e,l,f,Z⟩
 ·rw[z7 hk]at h;cases h
theorem Apo{kw:Keyword}(h:Ajq kw=true):∃i p c,kw=⟨some "reverse",.Constant (.bool true) i p,c⟩:=by
 obtain⟨e,d,c⟩:=kw;cases e with
 |none=>exact(CJ h).elim
 |some k =>
 cases d<;>first|exact(CJ h).elim|skip
 rename_i a i p;cases a<;>first|exact(CJ h).elim|skip
 rename_i b;cases b with
 |false=>exact(CJ h).elim
 |true =>
  have h:decide (k="reverse")=true:=h;cases yF h;exact⟨i,p,c,Z⟩
theorem Apq(S:Snd c T fa fd n r)(C:COk c T fa fd)(G:Gd c E (n+1) ie X){a:Expr}{p pos kp AgB b1 b2 b3 b4:Pos}{ps:Arguments}{scope:Scope}{y nm:Str}{j:Nat}{nv:V}(u:Gz T ie "sorted"=true) (hs:isStar a=false)
  (hl:ie.lam=true) (hc:Aa0 y nm scope ps=true) (d:ie.sc.names.lookup nm=some .cell) (hj:slot ie nm=some j) (hv:σa[j]?=some (some nv))
  (h:prE r ie σa a (keyB · nv) A=some (o,A')) (e:Emb c ρ A H) (rs:RSt ρ σa σ) (k:Pst c E RV ρ H o A' Q) :
  We X (.Call (.Name "sorted" p) [a] [⟨some "key",.Lambda ps (.UnaryOp .USub (.Subscript (.Name nm b1) (.Name y b2) b3) b4) scope AgB,kp⟩] pos) σ H Q:=by
 obtain⟨g1,g2⟩:=Ei C u;obtain⟨l1,l2⟩:=G.lam hl;obtain⟨y',ap,rfl⟩:=Apm hc
 ·unfold Aa0 at hc;dsimp only at hc;simp only [Ata,decide_eq_true_eq]at hc;simp only [AtO,decide_eq_true_eq]at hc;obtain⟨⟨⟨⟨⟨⟨⟨⟨rfl,hy⟩,rfl⟩,hn⟩,F⟩,hk⟩,U⟩,L⟩,a0,W,D,N⟩:=hc;refine Ay (Ad9 (K:=c.K) (P:=c.tT) (c:=c.tc) (q:=c.tq) (x:=y') (nm:= "scores") (j:=j) (G.gl _ g1) (by rw[G.mg];exact g2) Ag (by rw[G.base];exact C.hd) (by rw[G.mg,G.base];exact C.bm) (G.room.mono (by have:=S.one;lia)) l1 l2 (Eh G hj) (G.cell _ d) hn F hk U L Z (by rcases hy with rfl|rfl<;>(intros;rfl))
   (by simpa using a0) (by simpa using W) (by simpa using D) (by simpa using N) G.K G.calm (by rw[Bh hs];rfl) (by rw[Bh hs];rfl)) ?_;rcases PQ h with ⟨v,A1,h1,h2⟩|⟨j,h1,rfl⟩
  ·refine S.ev G h1 e rs λρ1 H1 v1 f r1=>?_;obtain⟨pr,b,k'⟩:=Pst.pkR (pr:=.v .non) h2 (k.over f);unfold keyB at b;split at b
   ·next i =>
    split at b
    ·next lo hi ks hr hks =>
     split at b
     ·next hz =>
      cases b;obtain⟨R,J,Y,B,I⟩:=hz;obtain⟨s,rfl,er⟩:=r1.Gq;have q1:H1 s=some (XS s lo hi 1):=f.em.obj i _ s hr er;obtain⟨w,hw,a1⟩:=Aa1 (f.rst rs) hv;obtain⟨al,rfl,q2⟩:=ints_of hks f.em a1;refine⟨s,lo,hi,_,al,ks,Z,q1,R,J,Y,hw,.of q2,B,I,f.em.tb,λl H2 t sT tb O m pm pw=>?_⟩;have es:t=Wv (leK ks) (NZ lo 1 (hi-lo).toNat):=Aas AlR Apk Apl pm (pw.imp λ{x y} z=>by
       unfold leK;simp only [AtO,Ata,decide_eq_true_eq];lia)
      rw[es]at m;exact k' _ _ _ (.AiT f.em sT tb O ⟨_,m,RVs.own Ed⟩) (.ref (Vn f.em l))
     ·cases b
    ·cases b
   ·cases b
  ·exact S.ev G h1 e rs k
end
end IV
namespace IV
open PySem PySem.Spec PyProof.Rows L2
section
variable {c:Ct}{T:Tt}{fa:Nat->NX}{fd:Nat->NY}{n:Nat}{r:Rc}{X:Cx}{ie:IE}{E:XK}{σa σ:Sl}{A A':AH}{ρ:NO}{H:Hp}{Q:VK}{o:Oc V}
theorem Ahc(S:Snd c T fa fd n r)(C:COk c T fa fd)(G:Gd c E (n+1) ie X){x:Str}{a:Expr}{es:List Expr}{p pos:Pos}(d:Gz T ie x=true)(hs:noStar (a::es)=true)
  (h:AdQ T r ie σa x (a::es) A=some (o,A')) (e:Emb c ρ A H) (j:RSt ρ σa σ) (k:Pst c E RV ρ H o A' Q):We X (.Call (.Name x p) (a::es) [] pos) σ H Q:=by
 have i:=C.bot x (by unfold Gz at d;rw[Ata]at d;exact d.2);cases es with
 |cons b es=>exact AmQ S C G d i hs h e j k
 |nil =>
  dsimp only [AdQ]at h;cases h1:inner T ie "set" a with
  |some q =>
   rw[h1]at h;obtain⟨f,h⟩:=Aj h;have f:=yF f;subst f;obtain⟨p2,pos2,rfl,m,l⟩:=AbW h1;exact Api S C G d m l h e j k
  |none =>
   rw[h1]at h;cases h2:inner T ie "reversed" a with
   |some q =>
    rw[h2]at h;obtain⟨f,h⟩:=Aj h;have f:=yF f;subst f;obtain⟨p2,pos2,rfl,m,l⟩:=AbW h2;exact Apj S C G d m l h e j k
   |none =>
    rw[h2]at h;exact AmQ S C G d i hs h e j k
theorem Ahd(S:Snd c T fa fd n r)(C:COk c T fa fd)(G:Gd c E (n+1) ie X){x:Str}{b:List Expr}{p pos:Pos}
  (h:AdR T r ie σa x b A=some (o,A')) (e:Emb c ρ A H) (i:RSt ρ σa σ) (k:Pst c E RV ρ H o A' Q):We X (.Call (.Name x p) b [] pos) σ H Q:=by
 unfold AdR at h;obtain⟨l,h⟩:=Aj h;simp only [Ata]at l;obtain⟨⟨_,h2⟩,f⟩:=l;cases b with
 |nil=>cases h2
 |cons a es =>
  generalize j:glb T ie x=q at h;split at h
  ·exact AlO S C G j f h e i k
  ·obtain⟨d,h⟩:=Aj h;exact AlP S C G j d f h e i k
  ·cases h
  ·obtain⟨d,h⟩:=Aj h;exact Ahc S C G d f h e i k
theorem Ahe(S:Snd c T fa fd n r)(C:COk c T fa fd)(G:Gd c E (n+1) ie X){x:Str}{a:Expr}{kw:Keyword}{p pos:Pos}
  (h:AdS T r ie σa x a kw A=some (o,A')) (e:Emb c ρ A H) (t:RSt ρ σa σ) (k:Pst c E RV ρ H o A' Q):We X (.Call (.Name x p) [a] [kw] pos) σ H Q:=by
 unfold AdS at h;obtain⟨u,h'⟩:=Aj h;clear h;simp only [Ata,decide_eq_true_eq,At7]at u;obtain⟨⟨⟨v,h2⟩,_⟩,s⟩:=u;rw[v]at h2 ⊢;cases i:Ajq kw with
 |true =>
  rw[i]at h';dsimp only at h';obtain⟨_,_,_,rfl⟩:=Apo i;exact AlQ S C G h2 s h' e t k
 |false =>
  rw[i]at h';cases l:lamOf kw with
  |none=>rw[l]at h';cases h'
  |some q =>
   obtain⟨y,nm,scope,ps⟩:=q;rw[l]at h';dsimp only at h';obtain⟨d,b⟩:=Aj h';clear h';simp only [Ata,decide_eq_true_eq]at d;obtain⟨_,_,_,_,_,_,rfl⟩:=Apn l;cases m:slot ie nm with
   |none=>rw[m]at b;cases b
   |some j =>
    rw[m]at b;dsimp only at b;cases f:σa[j]? with
    |none=>rw[f]at b;cases b
    |some q=>cases q with
     |none=>rw[f]at b;cases b
     |some w =>
      rw[f]at b;exact Apq S C G h2 s d.1.1 d.1.2 d.2 m f b e t k
theorem RD{q:Expr}{m:Str}{apos pos:Pos}{a:List Expr}{env:Env}(d:Wy q=true)(hs:noStar a=true)(h:a.length<30)(b:(apos.endLine == pos.line)=true) :
  eval (.Call (.Attribute q m apos) a [] pos) env=(do
   let c <-eval q env
   standAt apos.atName
   let (f,first) <-holding [c] (getMethod c m (do return (<-importBound q env).getD true))
   callWith pos f first (backTo pos (starEach a env)) (backToKw pos (keywordEach [] env))):=by
 have j:methodCallForm (a.length+0) (backTo pos (starEach a env)) (backToKw pos (keywordEach [] env))=true:=by
  unfold methodCallForm;have h1:(backTo pos (starEach a env)).all (λx=>!x.1)=true:=by
   have:=Bu (pos:=pos) (env:=env) hs;rw[Aut]at this;rw[Atp];intro x i;have:=this x i;cases e:x.1 with
   |true=>exact z9 e this
   |false=>rfl
  rw[h1];show(true && true && decide (a.length+0+0<30))=true;simp[h]
 rw[arm_eval_Call,Od d];refine congrArg _ (funext λc=>congrArg _ (funext λ_=>?_));unfold methodCall calleeOf methodCallPos;rw[show a.length+([]:List Keyword).length=a.length+0 from Z,j];simp only [if_true,Bool.not_true,Bool.false_or,b,pure_bind]
theorem Aps{pos:Pos}{a:List Expr}{env:Env}(hs:noStar a=true)(c:a.length<30):((backTo pos (starEach a env)).all (λx=>!x.1) && (backToKw pos (keywordEach [] env)).all (λx=>x.1.isSome) && decide (a.length+([]:List Keyword).length+(if ([]:List Keyword).isEmpty then 0 else 1)<30))=true:=by
 have h1:(backTo pos (starEach a env)).all (λx=>!x.1)=true:=by
  have:=Bu (pos:=pos) (env:=env) hs;rw[Aut]at this;rw[Atp];intro x d;have:=this x d;cases b:x.1 with
  |true=>exact z9 b this
  |false=>rfl
 rw[h1];show(true && true && decide (a.length+0+0<30))=true;simp[c]
theorem CZ{α:Type}{m:M α}{o:Oc α}(h:Ajr m A=some (o,A')):∃a,o=.ok a/\m A=some (.ok a,A'):=by
 unfold Ajr at h;split at h
 ·next a A1 e=>cases h;exact⟨a,Z,e⟩
 ·cases h
theorem Ahf(S:Snd c T fa fd n r)(C:COk c T fa fd)(G:Gd c E (n+1) ie X){q:Expr}{m:Str}{apos pos:Pos}{w:List Expr}
  (h:AdT T r ie σa q m w (apos.endLine == pos.line) A=some (o,A')) (e:Emb c ρ A H) (O:RSt ρ σa σ) (k:Pst c E RV ρ H o A' Q):We X (.Call (.Attribute q m apos) w [] pos) σ H Q:=by
 unfold AdT at h;obtain⟨h1,h'⟩:=Aj h;clear h;simp only [Ata,decide_eq_true_eq]at h1;obtain⟨⟨t,hs⟩,J⟩:=h1;cases hc:clsOf T ie q with
 |some L =>
  rw[hc]at h';obtain⟨h2,h⟩:=Aj h';clear h';simp only [Ata,decide_eq_true_eq]at h2;obtain⟨rfl,a3⟩:=h2;cases w with
  |nil=>cases a3
  |cons a es =>
   unfold clsOf at hc;split at hc
   ·next k' hg =>
    split at hc
    case isFalse=>cases hc
    rename_i a2;cases hc;obtain⟨x,p,rfl,g1,g2⟩:=G3 hg;have b:=hs;unfold noStar at b;rw[Atz,Ata]at b;cases hi:T.init[L]? with
    |none=>rw[hi]at h;cases h
    |some d =>
     rw[hi]at h;obtain⟨_,hd⟩:=C.ini L d hi;obtain⟨D,N⟩:=Option.isSome_iff_exists.mp hd;obtain⟨⟨x',q',F,_⟩,B,_⟩:=C.dfn d D N;have pg:PE X (.Name x p) (tC (.ref (c.Cs L))):=O8 (G.gl x g1) (by rw[G.mg];exact C.cls x L g2) Z (Fz g1).1;refine Ay (AkL pg (by rw[G.K];exact C.cf L d hi a2) (S.fn G N) (G.room.mono (Atq n)) (by rw[G.K];exact B) .nil G.pass Du (Bh (by simpa using b.1)) (Bu b.2) (RD Z hs J t)) ⟨Z,?_⟩;rcases Aa h with ⟨vs,A1,s,I⟩|⟨j,s,rfl⟩
     ·refine Bw S G s e O λρ1 H1 a5 l y=>?_;obtain⟨D',u,J⟩:=S.len d vs A1 _ I;rw[N]at u;cases u;refine⟨ρ1,A1,vs,o,A',I,J,l.em,?_,k.over l⟩;rw[At6];exact y
     ·exact Bw S G s e O k
   ·cases hc
 |none =>
  rw[hc]at h';obtain⟨hp,h⟩:=Aj h';clear h';rcases Aa h with ⟨v,A1,W,s⟩|⟨j,W,rfl⟩
  ·obtain⟨_,e2,h2⟩:=CZ W;cases e2
   skip
   cases hi:Wz v A1 with
   |some kf =>
    obtain⟨L,fs⟩:=kf;rw[hi]at s;dsimp only at s;cases hm:Aaz T L m with
    |none=>rw[hm]at s;cases s
    |some d =>
     cases hf:fs.lookup m with
     |some _=>rw[hm,hf]at s;cases s
     |none =>
      rw[hm,hf]at s;dsimp only at s;obtain⟨c1,c2,hd⟩:=C.met L m d hm;obtain⟨D,N⟩:=Option.isSome_iff_exists.mp hd;obtain⟨_,B,_⟩:=C.dfn d D N;have a0:∀{ρ1:NO} {H1:Hp} {Y:V},Ext c ρ H ρ1 A1 H1->RV ρ1 v Y->∃a dx P,Y=.ref a/\H1 a=some (.ins (c.Cs L) dx P)/\P.lookup m=none:=λl y=>by
       obtain⟨i,a,dx,P,_,rfl,_,_,q1,q2⟩:=Ajv hi l.em y;rcases Aa3 (f:=m) q2 with ⟨_,z⟩|⟨Y,w1,e1,e2,e3⟩
       ·exact⟨a,dx,P,Z,q1,z⟩
       ·rw[hf]at e1;cases e1
      cases w with
      |nil =>
       refine Ay (AiI (K:=c.K) G.K.symm Ag (S.fn G N) (G.room.mono (Atq n)) (by rw[G.K];exact B) G.pass (RD hp hs J t)) (S.ev G h2 e O λρ1 H1 Y l y=>?_);obtain⟨a,dx,P,rfl,q1,z⟩:=a0 l y;obtain⟨D',u,J⟩:=S.len d [v] A1 _ s;rw[N]at u;cases u;exact⟨a,dx,P,_,Z,q1,z,c1,c2,⟨ρ1,A1,[v],o,A',s,J,l.em,.cons y .nil,k.over l⟩⟩
      |cons a es =>
       have b:=hs;unfold noStar at b;rw[Atz,Ata]at b;refine Ay (AgH (K:=c.K) G.K.symm Ag (S.fn G N) (G.room.mono (Atq n)) (by rw[G.K];exact B) G.pass Du (Bh (by simpa using b.1)) (Bu b.2) (RD hp hs J t)) (S.ev G h2 e O λρ1 H1 Y l y=>?_);obtain⟨a',dx,P,rfl,q1,z⟩:=a0 l y;refine⟨a',dx,P,_,Z,q1,z,c1,c2,?_⟩;rcases Aa s with ⟨vs,A2,I,h5⟩|⟨j,I,rfl⟩
       ·refine Bw S G I l.em (l.rst O) λρ2 H2 a4 U r2=>?_;obtain⟨D',u,J⟩:=S.len d _ A2 _ h5;rw[N]at u;cases u;exact⟨ρ2,A2,v::vs,o,A',h5,J,U.em,.cons (U.rv y) r2,k.over (l.trans U)⟩
       ·exact Bw S G I l.em (l.rst O) (Pst.over (R:=RV) k l)
   |none =>
    rw[hi]at s;dsimp only at s;cases hT:AeT m with
    |none=>rw[hT]at s;cases s
    |some ty =>
     rw[hT]at s;obtain⟨I,h5⟩:=Aj s;simp only [Ata]at I;cases w with
     |nil=>cases I.2
     |cons a es =>
      have b:=hs;unfold noStar at b;rw[Atz,Ata]at b;obtain⟨b1,b2,b3⟩:=Ajl hT;have a1:((backTo pos (starEach (a::es) X.env)).all (λx=>!x.1) && (backToKw pos (keywordEach [] X.env)).all (λx=>x.1.isSome) && decide ((a::es).length+([]:List Keyword).length+(if ([]:List Keyword).isEmpty then 0 else 1)<30))=true:=Aps hs J;refine Ay (Eo b1 b2 b3 mtW Ag Du (Od hp) a1 t (Bh (by simpa using b.1)) (Bu b.2) G.K) (S.ev G h2 e O λρ1 H1 Y l y=>⟨AlG I.1 l.em y,?_⟩);rcases Aa h5 with ⟨vs,A2,h6,h7⟩|⟨j,h6,rfl⟩
      ·refine Bw S G h6 l.em (l.rst O) λρ2 H2 a4 U r2=>?_;obtain⟨pr,h8,k'⟩:=Pst.pkR (pr:=.v .non) h7 (k.over (l.trans U));exact Ajk (X:=X) h8 G.K U.em (U.rv y) r2 k'
      ·exact Bw S G h6 l.em (l.rst O) (Pst.over (R:=RV) k l)
  ·obtain⟨_,e2,_⟩:=CZ W;cases e2
theorem Ajx(S:Snd c T fa fd n r)(C:COk c T fa fd)(G:Gd c E (n+1) ie X){f:Expr}{b:List Expr}{d:List Keyword}{pos:Pos}
  (h:AmI T r ie σa f b d pos A=some (o,A')) (e:Emb c ρ A H) (i:RSt ρ σa σ) (k:Pst c E RV ρ H o A' Q):We X (.Call f b d pos) σ H Q:=by
 cases f<;>first|exact(Ah h).elim|skip
 case Name x p =>
  cases d with
  |nil=>exact Ahd S C G h e i k
  |cons kw ks =>
  cases ks with
  |cons _ _=>exact(Ah h).elim
  |nil =>
  cases b with
  |nil=>exact(Ah h).elim
  |cons a as =>
  cases as with
  |cons _ _=>exact(Ah h).elim
  |nil=>exact Ahe S C G h e i k
 case Attribute o' m ap =>
  cases d with
  |cons _ _=>exact(Ah h).elim
  |nil=>exact Ahf S C G h e i k
end
end IV
namespace IV
open PySem PySem.Spec PyProof.Rows L2
def JOk (c:Ct)(ai:AI)(J:It)(ρ:NO):Prop:=∀(r0:NO)(A:AH)(H:Hp),Emb c (ρ++r0) A H->ai.chk A=true ->
 (∀(i:Nat)(v:V)(A1:AH),ai.item i A=some (.ok v,A1)->J.go i H/\∀x H',J.yld i H x H'->∃ ρ',Ext c (ρ++r0) H ρ' A1 H'/\RV ρ' v x)/\J.stop ai.len H
section
variable {c:Ct}{ρ:NO}{A:AH}{H:Hp}{i:Nat}{a:NX}{xs:Nn}
theorem Vq{b:NO}(h:ρ[i]?=some a):(ρ++b)[i]?=some a:=by rw[Atv (zC.mp h).1];exact h
theorem Aa4(e:Emb c ρ A H)(h:ρ[i]?=some a)(d:Bq (.ref i) A=some xs):∃ys,H a=some (.lst ys)/\RVs ρ xs ys:=by obtain⟨j,b,ys,e1,m,_,_,f,l⟩:=Cq d e (.ref h);cases m;exact⟨ys,f,l⟩
theorem AlS(h:ρ[i]?=some a):JOk c (.lst i xs) (Itl c.K a) ρ:=by intro m A H e hc;obtain⟨ys,b,f⟩:=Aa4 e (Vq h) (yF hc);refine⟨λk v A1 hk=>?_,ys,.of b,by rw[<-Pd.len f];exact AsY _⟩;obtain⟨w,e1,j,rfl⟩:=Bb hk;cases j;obtain⟨u,d,l⟩:=Pd.get f e1;refine⟨⟨ys,u,.of b,d⟩,λx H' y=>?_⟩;obtain⟨rfl,y⟩:=y;have:=y ys (.of b);rw[d]at this;cases this;exact⟨_,.refl e,l⟩
theorem AlT{z:Str}:JOk c (.str z) (Its z) ρ:=by
 intro i A H h hc;refine⟨λk v A1 hk=>?_,by show z.cps.size<=z.cps.toList.length;simp⟩;obtain⟨w,e1,f,rfl⟩:=Bb hk;cases f;cases b:z.cps.toList[k]? with
 |none=>rw[b]at e1;cases e1
 |some d =>
  rw[b]at e1;cases e1;have a:z.cps[k]?=some d:=by rw[<-zL];exact b
  refine⟨(Array.getElem?_eq_some_iff.mp a).1,λx H' y=>?_⟩;obtain⟨rfl,d',e,rfl⟩:=y;rw[a]at e;cases e;exact⟨_,.refl h,.flat Z⟩
theorem Afb{lo:Int}{n:Nat}:JOk c (.rng lo n) (Itr lo n) ρ:=by
 intro d A H b hc;refine⟨λk v A1 hk=>?_,AsY n⟩;obtain⟨w,e1,a,rfl⟩:=Bb hk;cases a;split at e1
 ·next hlt =>
  cases e1;refine⟨hlt,λx H' y=>?_⟩;obtain⟨rfl,rfl⟩:=y;exact⟨_,.refl b,.flat Z⟩
 ·cases e1
theorem RG{q a:Option V}{v:V}{A A1:AH}(h:W0 q a A=some (.ok v,A1)):∃x y,q=some x/\a=some y/\v=.ref A.length/\A1=A++[.tup [x,y]]:=by
 unfold W0 at h;split at h
 ·cases h;exact⟨_,_,Z,Z,Z,Z⟩
 ·cases h
theorem W5{T:NX}{x y x' y':V}(b:Emb c ρ A H)(e:H T=none)(f:RV ρ x x')(d:RV ρ y y'):∃a,Ext c ρ H a (A++[.tup [x,y]]) (upd H T (.tup [x',y']))/\RV a (.ref A.length) (.ref T):=
 ⟨_,.new b e ⟨_,Ad,.cons f.mono (.cons d.mono .nil)⟩,.ref (Vn b T)⟩
theorem AlU(h:ρ[i]?=some a):JOk c (.enl i xs) (Ite c.K a) ρ:=by intro n A H f hc;obtain⟨ys,b,j⟩:=Aa4 f (Vq h) (yF hc);refine⟨λk v A1 hk=>?_,ys,.of b,by rw[<-Pd.len j];rfl⟩;obtain⟨u,w,e1,l,rfl,rfl⟩:=RG hk;cases e1;obtain⟨e,hw,d⟩:=Pd.get j l;refine⟨⟨ys,e,.of b,hw⟩,λx H' y=>?_⟩;obtain⟨T,rfl,m,y⟩:=y;rw[y ys e (.of b) hw];exact W5 f m (.flat Z) d
theorem AlV{u:NL}:JOk c (.ens u) (AoE u) ρ:=by
 intro i A H h hc;refine⟨λk v A1 hk=>?_,Z⟩;obtain⟨_,w,e1,a,rfl,rfl⟩:=RG hk;cases e1;cases b:u[k]? with
 |none=>rw[b]at a;cases a
 |some d =>
  rw[b]at a;cases a;refine⟨(zC.mp b).1,λx H' y=>?_⟩;obtain⟨T,d',rfl,f,e,rfl⟩:=y;rw[b]at e;cases e;exact W5 h f (.flat Z) (.flat Z)
def RSr (ρ:NO):Sr->Src->Prop
 | .l i _,.l a=>ρ[i]?=some a
 | .s z,.s y=>z=y
 |_,_=>False
theorem Ajy{s:Sr}{S:Src}{f:NO}(h:RSr ρ s S)(n:Emb c (ρ++f) A H)(hc:s.chk A=true){k:Nat}{v:V}(hk:s.at k=some v):∃w,HY c.K H S k w/\RV (ρ++f) v w/\∀j,HY c.K H S k j->True:=by
 cases s with
 |l i xs=>cases S with
  |l a =>
   obtain⟨ys,m,o⟩:=Aa4 n (Vq h) (yF hc);obtain⟨w,hw,b⟩:=Pd.get o hk;exact⟨w,⟨ys,.of m,hw⟩,b,λ_ _=>trivial⟩
  |s y=>cases h
 |s z=>cases S with
  |l a=>cases h
  |s y =>
   cases h;have hk:(z.cps.toList[k]?).map (λc=>V.str ⟨#[c]⟩)=some v:=hk;cases e:z.cps.toList[k]? with
   |none=>rw[e]at hk;cases hk
   |some d=>rw[e]at hk;cases hk;exact⟨_,⟨d,by rw[<-zL];exact e,Z⟩,.flat Z,λ_ _=>trivial⟩
theorem Aa5{s:Sr}{S:Src}{d:NO}(h:RSr ρ s S)(e:Emb c (ρ++d) A H)(hc:s.chk A=true):Pz c.K H S/\R8 c.K H S s.len:=by
 cases s with
 |l i xs=>cases S with
  |l a =>
   obtain⟨ys,b,f⟩:=Aa4 e (Vq h) (yF hc);exact⟨⟨ys,.of b⟩,ys,.of b,by rw[<-Pd.len f];rfl⟩
  |s y=>cases h
 |s z=>cases S with
  |l a=>cases h
  |s y=>cases h;exact⟨trivial,by show z.cps.size=z.cps.toList.length;simp⟩
theorem Arp{s:Sr}{k:Nat}(h:k<s.len):∃v,s.at k=some v:=by
 cases s with
 |l i xs=>exact⟨_,Atc h⟩
 |s z=>exact⟨_,show(z.cps.toList[k]?).map (λc=>V.str ⟨#[c]⟩)=some _ by rw[Atc h];rfl⟩
theorem AlW{d b:Sr}{S1 S2:Src}(h1:RSr ρ d S1)(h2:RSr ρ b S2):JOk c (.zip d b) (AoC c.K S1 S2) ρ:=by
 intro p A H a hc;have hc:(d.chk A && b.chk A)=true:=hc;rw[Ata]at hc;refine⟨λk v A1 hk=>?_,(Aa5 h1 a hc.1).1,(Aa5 h2 a hc.2).1,?_⟩
 ·obtain⟨u,w,e1,l,rfl,rfl⟩:=RG hk;obtain⟨u',e,n,_⟩:=Ajy h1 a hc.1 e1;obtain⟨i,h,m,_⟩:=Ajy h2 a hc.2 l;refine⟨⟨⟨u',e⟩,i,h⟩,λx H' y=>?_⟩;obtain⟨T,rfl,o,y⟩:=y;rw[y u' i e h];exact W5 a o n m
 ·by_cases f:d.len<=b.len
  ·refine .inl ?_;show R8 c.K H S1 (min d.len b.len);rw[Nat.min_eq_left f];exact(Aa5 h1 a hc.1).2
  ·refine .inr ?_;show(∃u,HY c.K H S1 (min d.len b.len) u)/\R8 c.K H S2 (min d.len b.len);rw[Nat.min_eq_right (Nat.le_of_not_le f)];obtain⟨v,j⟩:=Arp (Nat.lt_of_not_le f);obtain⟨u',e,_⟩:=Ajy h1 a hc.1 j;exact⟨⟨u',e⟩,(Aa5 h2 a hc.2).2⟩
end
section
variable {c:Ct}{T:Tt}{fa:Nat->NX}{fd:Nat->NY}{n:Nat}{r:Rc}{X:Cx}{ie:IE}{E:XK}{σa σ:Sl}{A A':AH}{ρ:NO}{H:Hp}
theorem Vr:∀{es:List Expr} {A A':AH} {vs:Nn},evs r ie σa es A=some (.ok vs,A')->vs.length=es.length
 |[],_,_,_,h=>by cases h;rfl
 |a::es,A,A',vs,h=>by
  unfold evs at h;obtain⟨_,h⟩:=Aj h;rcases Aa h with ⟨v,A1,h1,h2⟩|⟨j,_,e⟩
  ·rcases Aa h2 with ⟨ws,A2,c,b⟩|⟨j,_,e⟩
   ·cases b;simp[Vr c]
   ·cases e
  ·cases e
theorem AlX{e:Expr}{x:Str}{a:List Expr}(h:AdU T ie e=some (x,a)):∃p pos,e=.Call (.Name x p) a [] pos/\(x="range" \/ x="zip" \/ x="enumerate")/\Gz T ie x=true/\noStar a=true:=by
 cases e<;>first|exact(Ah h).elim|skip
 rename_i f c b pos;cases f<;>first|exact(Ah h).elim|skip
 rename_i y p;cases b with
 |cons _ _=>exact(Ah h).elim
 |nil =>
 have h:(if (y="range" \/ y="zip" \/ y="enumerate")/\Gz T ie y=true/\slot ie y=none/\noStar c=true then some (y,c) else none)=some (x,a):=h;by_cases hc:(y="range" \/ y="zip" \/ y="enumerate")/\Gz T ie y=true/\slot ie y=none/\noStar c=true
 ·rw[z8 hc]at h;cases h;exact⟨p,pos,Z,hc.1,hc.2.1,hc.2.2.2⟩
 ·rw[z7 hc]at h;exact(Ah h).elim
theorem W6{a:Expr}{env:Env}(h:noStar [a]=true):starEach [a] env=[(false,eval a env)]:=Bh (by simpa [noStar]using h)
theorem PX{a b:Expr}{env:Env}(h:noStar [a,b]=true):starEach [a,b] env=[(false,eval a env),(false,eval b env)]/\starEach [b] env=[(false,eval b env)]:=by
 have h':isStar a=false/\isStar b=false:=by simpa [noStar]using h
 rw[Bh h'.1,Bh h'.2];exact⟨Z,Z⟩
theorem Afc(S:Snd c T fa fd n r)(C:COk c T fa fd)(G:Gd c E (n+1) ie X){tg e:Expr}{ai:AI}(h:AdV T r ie σa tg e A=some (.ok ai,A'))(N:Emb c ρ A H)(I:RSt ρ σa σ){R:It->Hp->Prop}
  (k:∀ ρ1 H1 J,Ext c ρ H ρ1 A' H1->JOk c ai J ρ1->R J H1):Wi X tg e σ H R:=by
 unfold AdV at h;cases hw:AdU T ie e with
 |none =>
  rw[hw]at h;obtain⟨hs,h'⟩:=Aj h;clear h;rcases Aa h' with ⟨v,A1,h1,h2⟩|⟨j,_,z⟩
  ·obtain⟨D,e1,F,rfl⟩:=Br h2;cases F;unfold itB at e1;split at e1
   ·cases e1;exact W2 (AnO Ag) (S.ev G h1 N I λρ1 H1 v1 d m=>⟨_,m.str,k ρ1 H1 _ d AlT⟩)
   ·next i =>
    cases o:Bq (.ref i) A' with
    |none=>rw[o]at e1;cases e1
    |some xs =>
     rw[o]at e1;cases e1;refine W2 (J7 Ag G.K) (S.ev G h1 N I λρ1 H1 v1 d m=>?_);obtain⟨j,a,ys,ej,rfl,_,Q,U,q2⟩:=Cq o d.em m;cases ej;exact⟨a,Z,⟨ys,.of U⟩,k ρ1 H1 _ d (AlS Q)⟩
   ·cases e1
  ·cases z
 |some q =>
  obtain⟨x,f⟩:=q;rw[hw]at h;obtain⟨p,pos,rfl,hx,hb,hs⟩:=AlX hw;obtain⟨W,g2⟩:=Ei C hb;have Y:X.mg x=none:=by rw[G.mg];exact g2
  dsimp only at h;by_cases hr:x="range"
  ·rw[z8 hr]at h;subst hr;rcases Aa h with ⟨vs,A1,h1,h2⟩|⟨j,_,z⟩
   ·obtain⟨D,e1,F,rfl⟩:=Bb h2;cases F;have O:=Vr h1;unfold Arn at e1;split at e1
    ·next j =>
     split at e1
     ·next hj =>
      cases e1
      match f,O with
      |[a],_ =>
       refine W2 (Yl (G.gl _ W) Y Du (W6 hs)) (Bw S G h1 N I λρ1 H1 B d m=>?_);exact⟨j,RVs.flat m Z,As,As,k ρ1 H1 _ d Afb⟩
     ·cases e1
    ·next i j =>
     split at e1
     ·next hj =>
      cases e1
      match f,O with
      |[a,b],_ =>
       refine W2 (AfS (G.gl _ W) Y Du (PX hs).1 (PX hs).2) (Bw S G h1 N I λρ1 H1 B d m=>?_);exact⟨i,j,RVs.flat m Z,⟨As,As,As,As⟩,k ρ1 H1 _ d Afb⟩
     ·cases e1
    ·cases e1
   ·cases z
  ·rw[z7 hr]at h;obtain⟨ht,h'⟩:=Aj h;clear h;obtain⟨es,kx,tp,rfl⟩:∃es kx tp,tg=.Tuple es kx tp:=by
    cases tg<;>first|cases ht;done|exact⟨_,_,_,Z⟩
   by_cases hz:x="zip"
   ·rw[z8 hz]at h';subst hz;rcases Aa h' with ⟨vs,A1,h1,h2⟩|⟨j,_,z⟩
    ·obtain⟨D,e1,F,rfl⟩:=Br h2;cases F;have O:=Vr h1;unfold Arm at e1;split at e1
     ·next v w =>
      match f,O with
      |[a,b],_ =>
       refine W2 (Al4 (K:=c.K) (G.gl _ W) Y Du G.K (PX hs).1 (PX hs).2) (Bw S G h1 N I λρ1 H1 B d m=>?_);cases m with|@cons _ v' _ _ rv t=>cases t with|@cons _ w' _ _ a2 t =>
        cases t;have a0:∀{u u':V} {s:Sr},Ahb u A'=some s->RV ρ1 u u'->∃S,u'=AoB S/\Pz c.K H1 S/\RSr ρ1 s S/\((∃z,s=.s z/\S=.s z)\/∃i xs a,s=.l i xs/\S=.l a):=λ{u u' s} hs ru=>by
         unfold Ahb at hs;split at hs
         ·cases hs;exact⟨.s _,ru.str,trivial,Z,.inl ⟨_,Z,Z⟩⟩
         ·next i =>
          cases o:Bq (.ref i) A' with
          |none=>rw[o]at hs;cases hs
          |some xs =>
           rw[o]at hs;cases hs;obtain⟨j,a,ys,ej,rfl,_,Q,U,q2⟩:=Cq o d.em ru;cases ej;exact⟨.l a,Z,⟨ys,.of U⟩,Q,.inr ⟨_,_,_,Z,Z⟩⟩
         ·cases hs
        cases hv:Ahb v A' with
        |none=>rw[hv]at e1;cases e1
        |some s1 =>
         cases L:Ahb w A' with
         |none=>rw[hv,L]at e1;cases s1<;>cases e1
         |some s2 =>
          obtain⟨S1,rfl,o1,z1,k1⟩:=a0 hv rv;obtain⟨S2,rfl,o2,z2,k2⟩:=a0 L a2;rw[hv,L]at e1;have P:ai=.zip s1 s2/\zOk S1 S2:=by
           rcases k1 with ⟨y,rfl,rfl⟩|⟨i,xs,a',rfl,rfl⟩<;>rcases k2 with ⟨y',rfl,rfl⟩|⟨i',a4,a3,rfl,rfl⟩<;>first | (cases e1;done) | (cases e1;exact⟨Z,trivial⟩)
          rw[P.1]at k;exact⟨S1,S2,Z,P.2,o1,o2,k ρ1 H1 _ d (AlW z1 z2)⟩
     ·cases e1
    ·cases z
   ·rw[z7 hz]at h';have a1:x="enumerate":= (hx.resolve_left hr).resolve_left hz;subst a1;rcases Aa h' with ⟨vs,A1,h1,h2⟩|⟨j,_,zz⟩
    ·obtain⟨D,e1,F,rfl⟩:=Br h2;cases F;have O:=Vr h1;unfold enB at e1;split at e1
     ·next v =>
      match f,O with
      |[a],_ =>
       split at e1
       ·next z _ =>
        cases e1;refine W2 (AiR (G.gl _ W) Y Du (W6 hs)) (Bw S G h1 N I λρ1 H1 B d m=>?_);exact⟨z.cps.toList,by rw[Wu];exact RVs.flat m Z,k ρ1 H1 _ d AlV⟩
       ·next i _ =>
        cases o:Bq (.ref i) A' with
        |none=>rw[o]at e1;cases e1
        |some xs =>
         rw[o]at e1;cases e1;refine W2 (Al7 (K:=c.K) (G.gl _ W) Y Du G.K (W6 hs)) (Bw S G h1 N I λρ1 H1 B d m=>?_);cases m with|@cons _ v' _ _ rv t =>
          cases t;obtain⟨j,a',ys,ej,rfl,_,Q,U,q2⟩:=Cq o d.em rv;cases ej;exact⟨a',Z,⟨ys,.of U⟩,k ρ1 H1 _ d (AlU Q)⟩
       ·cases e1
     ·cases e1
    ·cases zz
end
end IV
namespace IV
open PySem PySem.Spec PyProof.Rows L2
def gIs:NL->TGs
 |[]=>Anq
 |i::is=>Aet (Em i) (gIs is)
def Qa:NL->Nn->Sl->Sl
 |i::is,v::vs,s=>Qa is vs (s.set i (some v))
 |_,_,s=>s
theorem Afd{H:Hp}{Q:Sl->Hp->Prop}:∀{a:NL} {vs:Nn} {s:Sl},a.length=vs.length->Q (Qa a vs s) H->gIs a vs s H Q
 |[],[],s,_,h=>⟨Z,h⟩
 |i::a,v::vs,s,e,h=>⟨v,vs,Z,Afd (s:=s.set i (some v)) (by simpa using e) h⟩
theorem W7{e:Expr}{es:List Expr}{xs:NU}(h:namesOf (e::es)=some xs):∃x p ys,e=.Name x p/\namesOf es=some ys/\xs=x::ys:=by
 unfold namesOf at h;split at h
 ·next h'=>cases h'
 ·next x p es' h' =>
  cases h';cases hn:namesOf es with
  |none=>rw[hn]at h;cases h
  |some ys=>rw[hn]at h;cases h;exact⟨x,p,ys,Z,Z,Z⟩
 ·cases h
section
variable {X:Cx}
theorem Ajz:∀{es:List Expr} {xs:NU} {a:NL},namesOf es=some xs->a.length=xs.length->(∀(j:Nat)(x:Str)(i:Nat)(p:Pos),xs[j]?=some x->a[j]?=some i->PG X (.Name x p) (Em i))->PGs X es (gIs a)
 |[],xs,a,h,hl,k=>by
  cases h;cases a with
  |nil=>exact Vc
  |cons=>cases hl
 |e::es,xs,a,h,hl,k=>by
  obtain⟨x,p,ys,rfl,hn,rfl⟩:=W7 h;cases a with
  |nil=>cases hl
  |cons i a=>exact En (k 0 x i p Z rfl) (Ajz hn (by simpa using hl) λj x i p h1 h2=>k (j+1) x i p (by simpa using h1) (by simpa using h2)) Z
theorem YB:∀{es:List Expr} {xs:NU} {env:Env},namesOf es=some xs->(assignEach es env).length=xs.length/\(assignEach es env).findIdx? (·.1)=none
 |[],xs,env,h=>by cases h;exact⟨Z,Z⟩
 |e::es,xs,env,h=>by
  obtain⟨x,p,ys,rfl,hn,rfl⟩:=W7 h;obtain⟨h1,h2⟩:=YB (env:=env) hn;have e1:assignEach (.Name x p::es) env=(false,assign (.Name x p) env)::assignEach es env:=rfl;rw[e1];refine⟨by simp[h1],?_⟩;rw[List.findIdx?_cons];simp[h2]
def gTg (K:NA)(tg:Expr)(is:NL):TG:=match tg,is with
 | .Name _ _,[i]=>Em i
 |_,is=>Anr K is.length (gIs is)
theorem AmR{tg:Expr}{xs:NU}{a:NL}(hc:X.calm=true)(h:Eg tg=some xs)(b:a.length=xs.length)(k:∀(j:Nat)(x:Str)(i:Nat)(p:Pos),xs[j]?=some x->a[j]?=some i->PG X (.Name x p) (Em i)):PG X tg (gTg X.K tg a):=by
 unfold Eg at h;split at h
 ·next x p =>
  cases h
  match a,b with
  |[i],_=>exact k 0 x i p Z rfl
 ·next es kx tp =>
  obtain⟨h1,h2⟩:=YB (env:=X.env) h;exact Z1 hc (Ajz h b k) (h1.trans b.symm) h2
 ·cases h
end
section
variable {c:Ct}{ρ:NO}{A:AH}{H:Hp}{K:NA}
theorem AbX{tg:Expr}{v:V}{q:NU×Nn}(h:tgB tg v A=some q):Eg tg=some q.1/\q.1.length=q.2.length:=by
 unfold tgB at h;unfold Eg;split at h
 ·cases h;exact⟨Z,Z⟩
 ·split at h
  ·next xs vs h1 h2 =>
   split at h
   ·next hl=>cases h;exact⟨h1,hl⟩
   ·cases h
  ·cases h
 ·cases h
theorem Aj0{tg:Expr}{v x:V}{q:NU×Nn}{b:NL}{s:Sl}{Q:Sl->Hp->Prop}(h:tgB tg v A=some q)(f:b.length=q.1.length)(l:Emb c ρ A H)(e:RV ρ v x)(k:∀vs',RVs ρ q.2 vs'->Q (Qa b vs' s) H):gTg K tg b x s H Q:=by
 unfold tgB at h;split at h
 ·cases h
  match b,f with
  |[i],_=>exact k [x] (.cons e .nil)
 ·next es kx tp =>
  split at h
  ·next xs vs h1 h2 =>
   split at h
   ·next hl' =>
    cases h;obtain⟨_,a,ys,_,rfl,_,_,j,d⟩:=Wq h2 l e;have e1:b.length=ys.length:=by rw[f,hl'];exact Pd.len d
    exact⟨a,ys,Z,.of j,e1.symm,Afd e1 (k ys d)⟩
   ·cases h
  ·cases h
 ·cases h
theorem Aa6{q a:Option V}{o:Oc V}{A':AH}(h:W0 q a A=some (o,A')):∃v,o=.ok v:=by
 unfold W0 at h;split at h
 ·cases h;exact⟨_,Z⟩
 ·cases h
theorem AlY{c:AI}{k:Nat}{o:Oc V}{A':AH}(h:c.item k A=some (o,A')):∃v,o=.ok v:=by
 cases c with
 |lst i xs=>obtain⟨v,_,e,_⟩:=Bb h;exact⟨v,e⟩
 |str z=>obtain⟨v,_,e,_⟩:=Bb h;exact⟨v,e⟩
 |rng lo n=>obtain⟨v,_,e,_⟩:=Bb h;exact⟨v,e⟩
 |zip a b=>exact Aa6 h
 |enl i xs=>exact Aa6 h
 |ens u=>exact Aa6 h
theorem JK:∀(vs:Nn)(a os b:Sl),os.length=vs.length->Qa (List.range' a.length vs.length) vs (a++(os++b))=a++(vs.map some++b)
 |[],a,os,b,h=>by
  have:os=[]:=by simpa using h
  subst this;rfl
 |v::vs,a,[],b,h=>by cases h
 |v::vs,a,o::os,b,h=>by
  rw[At2,List.range'_succ];show Qa (List.range' (a.length+1) vs.length) vs ((a++(o::os++b)).set a.length (some v))=_;have e1:(a++(o::os++b)).set a.length (some v)=(a++[some v])++(os++b):=At
  have:=JK vs (a++[some v]) os b (by simpa using h);rw[Atm,Au7]at this;rw[e1,this];simp
theorem Aj1{σa σ:Sl}(a:RSt ρ σa σ):∀(cs:NL),RSt ρ (Ec σa cs) (Ec σ cs)
 |[]=>.nil
 |j::cs=>by
  refine .cons ?_ (Aj1 a cs);show RS ρ (σa[j]?).join (σ[j]?).join;cases h:σa[j]? with
  |none=>exact .no
  |some q=>cases q with
   |none=>exact .no
   |some v =>
    obtain⟨w,hw,r⟩:=Aa1 a h;rw[hw];exact .yes r
theorem AbY{vs ws:Nn}(h:RVs ρ vs ws):RSt ρ (vs.map some) (ws.map some):=by
 induction h with
 |nil=>exact .nil
 |cons h _ a=>exact .cons (.yes h) a
end
end IV
namespace IV
open PySem PySem.Spec PyProof.Rows L2
section
variable {c:Ct}{T:Tt}{fa:Nat->NX}{fd:Nat->NY}{n:Nat}{r:Rc}{X:Cx}{ie:IE}{E:XK}{σa σ:Sl}{A A':AH}{ρ:NO}{H:Hp}{sc:Scope}{tn:NU}
structure AlZ (ie:IE)(tn:NU)(sc:Scope):Prop where
 kind:sc.kind=.function
 loc:∀y∈sc.names,y.2=.local->sc.names.lookup y.1=some .local
 cell:∀y∈sc.names,y.2≠.cell
 fr:∀y∈sc.names,y.2=.free->ie.sc.names.lookup y.1=some .cell/\sc.names.lookup y.1=some .free
 tg:∀x∈tn,sc.names.lookup x=some .local
 nd:(tn++frees sc).Nodup
theorem Aj2(h:Ajs ie tn sc=true):AlZ ie tn sc:=by
 unfold Ajs at h;simp only [Ata,decide_eq_true_eq]at h;obtain⟨⟨⟨h1,h2⟩,b⟩,c⟩:=h;rw[Atp]at h2 b;refine⟨h1,λy a e=>?_,λy a e=>?_,λy a e=>?_,λx d=>yF (b x d),c⟩
 all_goals have:=h2 y a;rw[e]at this
 ·exact yF this
 ·cases this
 ·exact yF this
theorem Ahg{y:Str}(h:y∈frees sc):(y,NameKind.free)∈sc.names:=by unfold frees at h;obtain⟨⟨a,k⟩,h1,h2⟩:=zY.mp h;obtain⟨c,b⟩:=List.mem_filter.mp h1;have b:=yF b;cases h2;cases b;exact c
theorem Afe(G:Gd c E n ie X)(O:AlZ ie tn sc){a:List (Str×NX)}{C:NX}{fp:NO}{s:Na}{b:Hp}:Gd c E0 n ⟨tn++frees sc,sc,false⟩ (Gp X (tn++frees sc) sc a C fp s b) where
 prog:=G.prog
 w:=G.w
 K:=G.K
 mg:=G.mg
 base:=G.base
 N:=rfl
 vis:=λx h=>by
  unfold IV.vis at h;split at h
  ·next e=>exact .inl (Bv G.kind e nofun)
  ·next e=>exact .inr (.inl (Bv G.kind e nofun))
  ·next e=>exact .inr (.inl (Cm G.kind e (G.cell x (O.fr _ (zP e) Z).1)))
  ·cases h
 gl:=λx h=>by
  unfold Wx at h;split at h
  ·next e=>exact Bv G.kind e nofun
  ·cases h
 cell:=λx h=>Bv G.kind h nofun
 kind:=O.kind
 room:=G.room
 pass:=λpins σ H s e s' _ ⟨ea,C,t,H',B,_,_,_,_,_,z⟩=>z.elim
 calm:=G.calm
 lam:=nofun
theorem Ls{ie:IE}:∀{xs:NU} {a:NL},slots ie xs=some a->a.length=xs.length/\∀(k j:Nat),a[k]?=some j->∃y,xs[k]?=some y/\slot ie y=some j
 |[],a,h=>by cases h;exact⟨Z,λk j e=>by simp at e⟩
 |x::xs,a,h=>by
  unfold slots at h;split at h
  ·next i is' h1 h2 =>
   cases h;obtain⟨e1,b⟩:=Ls h2;refine⟨by simp[e1],λk j e=>?_⟩;cases k with
   |zero=>simp at e;subst e;exact⟨x,Z,h1⟩
   |succ k=>simpa using b k j (by simpa using e)
  ·cases h
theorem Apt(G:Gd c E n ie X)(O:AlZ ie tn sc){cs:NL}(hs:slots ie (frees sc)=some cs):Ys X tn.length (tn++frees sc) cs sc:=by obtain⟨e1,b⟩:=Ls hs;refine⟨O.kind,O.loc,λy a e=>⟨G.cell _ (O.fr y a e).1,(O.fr y a e).2⟩,by rw[Atm,e1,Nat.add_comm],λk j e=>?_⟩;obtain⟨y,h1,h2⟩:=b k j e;refine⟨y,?_,Eh G h2,(O.fr _ (Ahg (Ato h1)) Z).2⟩;rw[Atu (Nat.le_add_left _ _),Nat.add_sub_cancel];exact h1
def Arq (X:Cx)(Nc:NU)(sc:Scope)(ifs:List Expr):TT:=match ifs with
 |[e]=>λσ H Q=>∀(cl:List (Str×NX))(C:NX)(fp:NO)(s:Na)(H0:Hp),Wt (Gp X Nc sc cl C fp s H0) e σ H Q
 |_=>Vf
def AsD (X:Cx)(Nc:NU)(sc:Scope)(e:Expr):TE:=λσ H Q=>∀(cl:List (Str×NX))(C:NX)(fp:NO)(s:Na)(H0:Hp),We (Gp X Nc sc cl C fp s H0) e σ H Q
theorem Apu(S:Snd c T fa fd n r)(G:Gd c E (n+1) ie X)(O:AlZ ie tn sc){ifs:List Expr}{s s':Sl}{b:Bool}(h:ifE r ⟨tn++frees sc,sc,false⟩ s ifs A=some (.ok b,A'))(e:Emb c ρ A H)(f:RSt ρ s s'){Q:Bool->Hp->Prop}(k:∀ ρ1 H1,Ext c ρ H ρ1 A' H1->Q b H1) :
  Arq X (tn++frees sc) sc ifs s' H Q:=by
 unfold ifE at h;split at h
 ·cases h;exact k ρ H (.refl e)
 ·exact λj C fp l m=>S.tv (Afe G O) h e f λρ1 H1 i d a=>by cases a;exact k ρ1 H1 d
 ·cases h
theorem Vg(S:Snd c T fa fd n r)(C:COk c T fa fd)(G:Gd c E (n+1) ie X){elt:Expr}{f:List Comprehension}{o:Oc V}(h:AeV T r ie σa elt f sc A=some (o,A'))(e:Emb c ρ A H)(rs:RSt ρ σa σ){Q:VK}(k:Pst c E RV ρ H o A' Q) :
  ∃tg iter ifs tW,f=[⟨tg,iter,ifs,0⟩]/\isSet iter=false/\sc.kind=.function/\(∀y∈sc.names,y.2=.local->sc.names.lookup y.1=some .local)/\(∀y∈sc.names,y.2=.free->X.env.scope.names.lookup y.1=some .cell/\sc.names.lookup y.1=some .free) /\
   (∀pos,Blk X tg iter elt ifs sc pos (λ_ _ _=>False) tW)/\Wi X tg iter σ H λJ H1=>tW J σ H1 Q:=by
 unfold AeV at h;split at h
 ·next tg iter ifs =>
  cases a:Eg tg with
  |none=>rw[a]at h;cases h
  |some tn =>
   cases u:slots ie (frees sc) with
   |none=>rw[a,u]at h;cases h
   |some cs =>
    rw[a,u]at h;obtain⟨hg,h'⟩:=Aj h;clear h;simp only [Ata,decide_eq_true_eq,At7]at hg;obtain⟨⟨a4,a5⟩,U⟩:=hg;have O:=Aj2 a4;have CG:=Apt G O u;refine⟨tg,iter,ifs,ZP (gTg X.K tg (List.range' 0 tn.length)) tn.length cs (Arq X (tn++frees sc) sc ifs) (AsD X (tn++frees sc) sc elt),Z,a5,O.kind,O.loc,CG.fr,λpos=>?_,?_⟩
    ·refine Aq6 (λ_ _ _ _ _ _=>False) CG O.cell G.calm (λkd L C fp s F=>?_) (λL C fp s F=>?_) (λL C fp s F pins s' σ' H' Q' I hh=>hh L C fp s F pins s' I) λ_ _ _ _ _ _ _ z=>z.elim
     ·refine AmR (X:=Gp X (tn++frees sc) sc L C fp s F) G.calm a At λj x i p h1 h2=>?_;have hj:j<tn.length:=(zC.mp h1).1;rw[List.getElem?_range' hj]at h2;have ei:i=j:=by simpa using h2.symm
      subst ei;exact AhU kd O.nd (by rw[Atv hj];exact h1) (O.tg x (Ato h1))
     ·match ifs,U with
      |[],_=>exact .nil
      |[e],_=>exact .one λpins s' σ' H' Q' I hh=>hh L C fp s F pins s' I
    ·rcases Aa h' with ⟨ai,A1,h1,h2⟩|⟨j,h1,_⟩
     ·obtain⟨_,e1,a1⟩:=CZ h1;cases e1;obtain⟨v,rfl,a9⟩:=CZ h2;refine Afc S C G a1 e rs λρ1 H1 J x1 jk=>?_;refine⟨λi m Y H'=>∃t A2 ys,Ext c ρ1 H1 t A2 H'/\RVs t ys Y/\Y8 r ⟨tn++frees sc,sc,false⟩ (Ec σa cs) tg elt ifs ai m i ys A2=some (.ok v,A')/\i+m=ai.len,⟨ai.len,ρ1,A1,[],.refl x1.em,.nil,a9,AtC _⟩,?_⟩;rintro i m Y H' ⟨t,A2,ys,l,N,hc,hl⟩;obtain⟨r0,rfl⟩:=l.ap;cases m with
      |zero =>
       unfold Y8 at hc;split at hc
       ·next hch =>
        rw[Ata]at hch;cases hc;refine .inl ⟨?_,by rw[<-Pd.len N];exact Fy (Atf (yF hch.2) Ab),Pk.PL (Pst.over (R:=RV) k (x1.trans l)) l.em N⟩;have:=(jk r0 A2 H' l.em hch.1).2;rw[<-hl]at this;exact this
       ·cases hc
      |succ m =>
       unfold Y8 at hc;split at hc
       ·next hch =>
        rw[Ata]at hch;rcases Aa hc with ⟨v1,A3,h3,h4⟩|⟨j,_,z⟩
        ·obtain⟨go,yl⟩:=(jk r0 A2 H' l.em hch.1).1 i v1 A3 h3;refine .inr ⟨go,by rw[<-Pd.len N,zS];have:=yF hch.2;lia,λx a3 y os W=>?_⟩;obtain⟨a8,B,rx⟩:=yl x a3 y;rcases Aa h4 with ⟨q,A4,h5,h6⟩|⟨j,_,z⟩
         ·obtain⟨q',hq,eq,rfl⟩:=Br h5;cases eq;obtain⟨tq,lq⟩:=AbX hq;have d:tn=q.1:=yB (a.symm.trans tq);refine Aj0 hq (by rw[d];simp) B.em rx λvs' rvs=>⟨vs'.map some,by rw[AsZ,<-Pd.len rvs,<-lq,d],?_,?_⟩
          ·have P:tn.length=vs'.length:=by rw[d,lq];exact Pd.len rvs
           rw[P];exact JK vs' [] os (Ec σ cs) (by rw[W,P])
          have P:tn.length=vs'.length:=by rw[d,lq];exact Pd.len rvs
          have e2:Qa (List.range' 0 tn.length) vs' (os++Ec σ cs)=vs'.map some++Ec σ cs:=by
           rw[P];exact JK vs' [] os (Ec σ cs) (by rw[W,P])
          rw[e2];have rst:RSt a8 (q.2.map some++Ec σa cs) (vs'.map some++Ec σ cs):=Pd.app (AbY rvs) (Aj1 (B.rst (l.rst (x1.rst rs))) cs);rcases Aa h6 with ⟨b,A5,h7,h8⟩|⟨j,_,z⟩
          ·refine Apu S G O h7 B.em rst λa7 H4 D=>?_;cases b with
           |true =>
            rcases Aa h8 with ⟨w,A6,h9,a0⟩|⟨j,_,z⟩
            ·refine AaZ (λL C fp s0 F=>S.ev (Afe G O) h9 D.em (D.rst rst) λa6 H5 y' x5 a2=>?_);exact⟨m,Aty m,a6,A6,_,(l.trans B).trans (D.trans x5),Pd.app (x5.rvs (D.rvs (B.rvs N))) (.cons a2 .nil),a0,As⟩
            ·cases z
           |false=>exact Agj ⟨m,Aty m,a7,A5,_,(l.trans B).trans D,D.rvs (B.rvs N),h8,As⟩
          ·cases z
         ·cases z
        ·cases z
       ·cases hc
     ·obtain⟨_,e1,_⟩:=CZ h1;cases e1
 ·cases h
end
end IV
namespace IV
open PySem PySem.Spec PyProof.Rows L2
section
variable {c:Ct}{T:Tt}{fa:Nat->NX}{fd:Nat->NY}{n:Nat}{r:Rc}{X:Cx}{ie:IE}{E:XK}{σa σ:Sl}{A A':AH}{ρ:NO}{H:Hp}
theorem Aj3{k:Const}{i:Nat}{pos:Pos}{v:V}{Q:VK}(h:AdP k=some v)(q:Q v H):noRef v=true/\We X (.Constant k i pos) σ H Q:=by
 cases k<;>first|exact(Ah h).elim|skip
 all_goals cases h;first|exact⟨Z,Ay DP q⟩|exact⟨Z,Ay Be q⟩|exact⟨Z,Ay ApQ q⟩|exact⟨Z,Ay Ani q⟩
theorem AdX{k:Const}{v:V}(h:AdP k=some v):noRef v=true:=by cases k<;>cases h<;>rfl
theorem Qc{iter:Expr}{env:Env}(h:isSet iter=false)(x:Nd):foldedSetIterable iter env x=pure x:=by cases iter<;>first|rfl|cases h
theorem Ext.add{ρ1:NO}{H1:Hp}{A1:AH}{p:NX}{o:AO}{q l:HO}(x:Ext c ρ H ρ1 A1 H1)(m:H p=none)(t:p∉ρ1)(C:H1 p=some l)(A:∀ps,l≠.tbl ps)(I:∀f,l≠.ext f)(D:RO c (ρ1++[p]) (upd H1 p q) p o) :
  Ext c ρ H (ρ1++[p]) (A1++[o]) (upd H1 p q):=by
 obtain⟨r,rfl⟩:=x.ap;have h:=x.em;have s:∀b u,b≠p->H1 b=some u->upd H1 p q b=some u:=λb u z w=>by rw[Af z];exact w
 refine⟨⟨r++[p],At⟩,⟨by have:=h.len;simp at this ⊢;lia,List.nodup_append.mpr ⟨h.nd,At,?_⟩,λi u a e d=>?_,?_⟩,λb u z j n=>s b u (Az z m) (x.fr b u z j n),λy E=>?_⟩
 ·intro a F b j;rw[AtZ]at j;subst j;rintro rfl;exact t F
 ·by_cases hi:i<A1.length
  ·rw[Atv hi]at e;rw[Atv (by rw[h.len];exact hi)]at d;exact(h.obj i u a e d).mono.same λo z _=>s a o (by rintro rfl;exact t (Wn d)) z
  ·rw[Atu (Nat.not_lt.mp hi)]at e;rw[Atu (by rw[h.len];exact Nat.not_lt.mp hi)]at d;have z:i-A1.length=0:=by
    have:=(zC.mp e).1;simp at this;lia
   rw[h.len,z]at d;rw[z]at e;cases e;cases d;exact D
 ·obtain⟨ps,h1,h2,G⟩:=h.tb;have ne:∀b u,H1 b=some u->((∃ps,u=.tbl ps)\/∃f,u=.ext f)->b≠p:=λb u z w=>by
   rintro rfl;rw[C]at z;cases z;rcases w with ⟨ps,w⟩|⟨f,w⟩
   ·exact A ps w
   ·exact I f w
  refine⟨ps,s _ _ (ne _ _ h1 (.inl ⟨_,Z⟩)) h1,h2,λpos B e=>?_⟩;obtain⟨cc,e1,v⟩:=G pos B e;exact⟨cc,e1,s _ _ (ne _ _ v (.inr ⟨_,Z⟩)) v⟩
 ·rcases zG.mp E with z|z
  ·exact x.nw y z
  ·rw[AtZ]at z;subst z;exact .inr λo e=>by rw[m]at e;cases e
theorem Ama(S:Snd c T fa fd n r)(G:Gd c E (n+1) ie X){ks:List (Option Expr)}{vs:List Expr}{pos:Pos}{o:Oc V}(h:AmK r ie σa ks vs A=some (o,A'))(e:Emb c ρ A H)(i:RSt ρ σa σ){Q:VK}(k:Pst c E RV ρ H o A' Q):We X (.Dict ks vs pos) σ H Q:=by
 cases ks with
 |nil=>exact(Ah h).elim
 |cons I ks =>
 cases I with
 |none=>exact(Ah h).elim
 |some k0 =>
 cases ks with
 |cons _ _=>exact(Ah h).elim
 |nil =>
 cases vs with
 |nil=>exact(Ah h).elim
 |cons P vs =>
 cases vs with
 |cons _ _=>exact(Ah h).elim
 |nil =>
  refine Ay (AkX (Aio Ag Ag AkW) Z rfl At At) λp m=>?_;have f:Ext c ρ H ρ A (upd H p (.dK [])):=.junk e m;have B:p∉ρ:=e.fresh m;have stay:∀{ρ1:NO} {A1:AH} {H1:Hp},Ext c ρ (upd H p (.dK [])) ρ1 A1 H1->H1 p=some (.dK []):=λx=>x.fr p _ Ad B λ_=>nofun;have np:∀{ρ1:NO} {A1:AH} {H1:Hp},Ext c ρ (upd H p (.dK [])) ρ1 A1 H1->p∉ρ1:=λx t=>by
   rcases x.nw p t with z|z
   ·exact B z
   ·obtain⟨ps,z⟩:=z _ Ad;cases z
  rcases Aa h with ⟨u,A1,h1,h2⟩|⟨j,h1,rfl⟩
  ·refine S.ev G h1 f.em i λρ1 H1 N d J=>?_;rcases Aa h2 with ⟨ky,A2,y,C⟩|⟨j,y,_⟩
   ·obtain⟨K,e1,v,rfl⟩:=Bb y;cases v;obtain⟨rfl,F⟩:=key_is e1;rcases Aa C with ⟨w,O,l,L⟩|⟨j,l,rfl⟩
    ·refine S.ev G l d.em (d.rst i) λρ2 H2 s b D=>?_;have a:=d.trans b;refine⟨stay a,[(ky,s)],by rw[J.Ci F];rfl,At,?_⟩;have t:R3 [] [(ky,s)]=[(ky,s)]:=rfl;rw[t];cases L;refine k (ρ2++[p]) _ _ ?_ (.ref (by rw[Atu (by rw[b.em.len];exact AsY _),b.em.len,Auf];rfl));exact .add (f.trans a) m (np a) (stay a) (λ_=>nofun) (λ_=>nofun) ⟨_,Ad,.cons ⟨Z,D.mono⟩ .nil⟩
    ·exact S.ev G l d.em (d.rst i) λρ2 H2 b=>k ρ2 H2 ((f.trans d).trans b)
   ·obtain⟨_,_,v,_⟩:=Bb y;cases v
  ·exact S.ev G h1 f.em i λρ2 H2 b=>k ρ2 H2 (f.trans b)
theorem Amb{v w:V}{b:Bool}(h:Aro v A=some b)(e:Emb c ρ A H)(q:RV ρ v w):Ako c.K w H b:=by
 cases v<;>first|exact(Ah h).elim|skip
 case bl b0=>cases h;rw[q.bl];rfl
 case ref i =>
  have h:(Bq (.ref i) A).map (λxs=>!xs.isEmpty)=some b:=h;cases d:Bq (.ref i) A with
  |none=>rw[d]at h;cases h
  |some xs =>
   rw[d]at h;cases h;obtain⟨_,a,ys,_,rfl,_,_,f,j⟩:=Cq d e q;refine .inl ⟨ys,.of f,?_⟩;have:=Pd.len j;cases xs<;>cases ys<;>first|rfl|simp at this
theorem AdY{e:Expr}{env:Env}(h:plainT e=true)(a:Sem Nd):isTrue e env a=(do let v <-a;standAt e.pos;holding [v] (truthy v)):=by cases e<;>first|rfl|cases h
theorem Apv(S:Snd c T fa fd n r)(C:COk c T fa fd)(G:Gd c E (n+1) ie X){e:Expr}{o:Oc Bool}(h:tvE T r ie σa e A=some (o,A'))(i:Emb c ρ A H)(m:RSt ρ σa σ){Q:Bool->Hp->Prop}(k:Pst c E RE ρ H o A' Q):Wt X e σ H Q:=by
 have l:∀{e},tPl r ie σa e A=some (o,A')->plainT e=true:=λh=>(Aj h).1;have plain:plainT e=true->tPl r ie σa e A=some (o,A')->Wt X e σ H Q:=λp h=>by
  obtain⟨p,h'⟩:=Aj h;refine AbT (Agm (K:=c.K) Ag (AdY p) G.K) ?_;rcases Aa h' with ⟨v,A1,h1,h2⟩|⟨j,h1,rfl⟩
  ·obtain⟨b,e1,rfl,rfl⟩:=Br h2;exact S.ev G h1 i m λρ1 H1 y f t=>⟨b,Amb e1 f.em t,k ρ1 H1 _ f Z⟩
  ·exact S.ev G h1 i m k
 cases e<;>first|exact plain Z h|skip
 case BoolOp=>exact AbT (PW.pt pw_ww) (AdW S G h i m k)
 case UnaryOp op a pos =>
  cases op<;>first|exact(CJ (l h)).elim|skip
  rcases Aa h with ⟨b,A1,h1,h2⟩|⟨j,h1,rfl⟩
  ·cases h2;exact AbT (AcY Mt) (S.tv G h1 i m λρ1 H1 x f s=>by cases s;exact k ρ1 H1 _ f Z)
  ·exact AbT (AcY Mt) (S.tv G h1 i m k)
 case Compare a d bs pos =>
  cases d with
  |nil=>exact(CJ (l h)).elim
  |cons op d =>
  cases d with
  |cons _ _=>exact(CJ (l h)).elim
  |nil =>
  cases bs with
  |nil=>exact(CJ (l h)).elim
  |cons b bs =>
  cases bs with
  |cons _ _=>exact(CJ (l h)).elim
  |nil =>
  obtain⟨hs,hw⟩:=Afa (Q:=λv H'=>ApR Q v H') S C G h i m (by
   cases o with
   |ok z=>exact λρ1 H1 w f u=>⟨z,u,k ρ1 H1 _ f Z⟩
   |ex j=>exact k)
  exact AbT (Ank AmN (AeZ hs op)) hw
 case IfExp=>exact(CJ (l h)).elim
theorem Apw(S:Snd c T fa fd n r)(C:COk c T fa fd)(G:Gd c E (n+1) ie X){e:Expr}{o:Oc V}(h:evE T r ie σa e A=some (o,A'))(i:Emb c ρ A H)(f:RSt ρ σa σ){Q:VK}(k:Pst c E RV ρ H o A' Q):We X e σ H Q:=by
 cases e<;>first|exact(Ah h).elim|skip
 case Constant =>
  obtain⟨v,e1,rfl,rfl⟩:=Bb h;exact(Aj3 e1 (Pk.flat k i (AdX e1))).2
 case Name =>
  obtain⟨v,e1,rfl,rfl⟩:=Bb h;exact AlL C G e1 f λw q=>Pk.val k i q
 case BinOp =>
  rcases Aa h with ⟨v,A1,h1,h2⟩|⟨j,h1,rfl⟩
  ·rcases Aa h2 with ⟨w,A2,s,I⟩|⟨j,s,rfl⟩
   ·refine Ay (Cy opW Ag Ag) (S.ev G h1 i f λρ1 H1 t d l=>S.ev G s d.em (d.rst f) λρ2 H2 P D J=>?_);cases o with
    |ok u=>exact AoJ I G.K D.em (D.rv l) J (Pst.over (R:=RV) k (d.trans D))
    |ex j=>exact(AoK I).elim
   ·exact Ay (Cy opW Ag Ag) (S.ev G h1 i f λρ1 H1 t d l=>S.ev G s d.em (d.rst f) (Pst.over (R:=RV) k d))
  ·exact Ay (Cy opW Ag Ag) (S.ev G h1 i f k)
 case BoolOp =>
  exact Aa2 S G h i f k
 case IfExp =>
  rcases Aa h with ⟨z,A1,h1,h2⟩|⟨j,h1,rfl⟩
  ·refine Ay (AaR Mt Ag Ag) (S.tv G h1 i f λρ1 H1 O d L=>?_);cases L;cases z with
   |true=>exact AaZ (S.ev G h2 d.em (d.rst f) (k.over d))
   |false=>exact Agj (S.ev G h2 d.em (d.rst f) (k.over d))
  ·exact Ay (AaR Mt Ag Ag) (S.tv G h1 i f k)
 case List =>
  rcases Aa h with ⟨vs,A1,h1,h2⟩|⟨j,h1,rfl⟩
  ·obtain⟨F,s⟩:=Aj h2;cases s;exact Ay (Z6 Du) (Bw S G h1 i f λρ1 H1 y d l=>⟨by rw[<-Pd.len l];exact Fy (Atf (yF F) Ab),Pk.PL (Pst.over (R:=RV) k d) d.em l⟩)
  ·exact Ay (Z6 Du) (Bw S G h1 i f k)
 case Tuple =>
  rcases Aa h with ⟨vs,A1,h1,h2⟩|⟨j,h1,rfl⟩
  ·obtain⟨F,s⟩:=Aj h2;cases s;exact Ay (DQ Du) (Bw S G h1 i f λρ1 H1 y d l=>⟨by rw[<-Pd.len l];exact Fy (Atf (yF F) Ab),Pk.AiT (Pst.over (R:=RV) k d) d.em l⟩)
  ·exact Ay (DQ Du) (Bw S G h1 i f k)
 case Dict =>
  exact Ama S G h i f k
 case Subscript =>
  exact AlM S C G h i f k
 case Attribute =>
  exact AlN S C G h i f k
 case Call =>
  exact Ajx S C G h i f k
 case ListComp =>
  obtain⟨tg,iter,ifs,tW,rfl,x,hk,hn,hfr,B,W⟩:=Vg S C G h i f k;exact Ay (Adn hk hn hfr AeX (B _) (Qc x)) W
 case UnaryOp op a pos =>
  cases op<;>first|exact(Ah h).elim|skip
  case Not =>
   rcases Aa h with ⟨v,A1,h1,h2⟩|⟨j,h1,rfl⟩
   ·obtain⟨w,e1,rfl,rfl⟩:=Bb h2;cases v<;>first|exact(Ah e1).elim|skip
    ·cases e1;exact Ay (Ah2 Ag) (S.ev G h1 i f λρ1 H1 t d l=>⟨_,l.bl,k ρ1 H1 _ d (.flat Z)⟩)
   ·exact Ay (Ah2 Ag) (S.ev G h1 i f k)
  case USub =>
   rcases Aa h with ⟨v,A1,h1,h2⟩|⟨j,h1,rfl⟩
   ·obtain⟨w,e1,rfl,rfl⟩:=Bb h2;cases v<;>first|exact(Ah e1).elim|skip
    ·cases e1;exact Ay (AhB Adb Ag) (S.ev G h1 i f λρ1 H1 t d l=>⟨_,l.int,k ρ1 H1 _ d (.flat Z)⟩)
   ·exact Ay (AhB Adb Ag) (S.ev G h1 i f k)
 case Compare a p bs pos =>
  cases p with
  |nil=>exact(Ah h).elim
  |cons op p =>
  cases p with
  |cons _ _=>exact(Ah h).elim
  |nil =>
  cases bs with
  |nil=>exact(Ah h).elim
  |cons b bs =>
  cases bs with
  |cons _ _=>exact(Ah h).elim
  |nil =>
  have m:∀{o':Oc Bool} {A1:AH},Ajp T r ie σa a op b A=some (o',A1)->Pst c E (λ_ z w=>w=V.bl z) ρ H o' A1 Q->We X (.Compare a [op] [b] pos) σ H Q:=λh1 k1=>by
   obtain⟨hs,hw⟩:=Afa S C G h1 i f k1;exact Ay (Anj AmN (AeZ hs op)) hw
  rcases Aa h with ⟨z,A1,h1,h2⟩|⟨j,h1,rfl⟩
  ·cases h2;exact m h1 λρ1 H1 w d N=>by subst N;exact k ρ1 H1 _ d (.flat Z)
  ·exact m h1 k
end
end IV
namespace IV
open PySem PySem.Spec PyProof.Rows L2
section
variable {c:Ct}{T:Tt}{fa:Nat->NX}{fd:Nat->NY}{n:Nat}{r:Rc}{X:Cx}{ie:IE}{E:XK}{σa σ:Sl}{A A':AH}{ρ:NO}{H:Hp}{D:Ends}{o:Oc Fw}
theorem Aa7{e:Expr}{a:Nat}{env:Env}(h:Aay e=false)(t:Option Expr):swapsWith e t a env=pure false:=by cases e<;>first|rfl|cases h
theorem Aj4{e o:Expr}{f:Str}{p:Pos}{a:Nat}{env:Env}:swapsWith e (some (.Attribute o f p)) a env=pure false:=by cases e<;>rfl
theorem Aca{e o i:Expr}{p:Pos}{a:Nat}{env:Env}:swapsWith e (some (.Subscript o i p)) a env=pure false:=by cases e<;>rfl
theorem RSt.set{i:Nat}{v w:V}(a:RSt ρ σa σ)(h:RV ρ v w):RSt ρ (σa.set i (some v)) (σ.set i (some w)):=Pd.set (.yes h) i a
theorem Apx(S:Snd c T fa fd n r)(C:COk c T fa fd)(G:GdB c E (n+1) ie X){y:Str}{py pos:Pos}{e:Expr}{i:Nat}(hi:slot ie y=some i)(s:loc ie y=true)
  (h:bnd (rhs T r ie σa e) (λv=>ret (.nx (σa.set i (some v)))) A=some (o,A')) (p:Emb c ρ A H) (l:RSt ρ σa σ) (k:PsF c E ρ H o A' D):W1 X (.Assign [.Name y py] e pos) D σ H:=by
 have go:∀{q:Oc V} {A1:AH},rhs T r ie σa e A=some (q,A1)->Pst c E RV ρ H q A1 (λx H1=>D.nx (σ.set i (some x)) H1)->W1 X (.Assign [.Name y py] e pos) D σ H:=λ{q A1} h1 k1=>by
  unfold rhs at h1;split at h1
  ·next elt gens sc cp =>
   obtain⟨tg,iter,ifs,tW,rfl,d,hk,hn,hfr,B,W⟩:=Vg S C G.toGd h1 p l k1;have t:∃b:Bool,swapsWith (.ListComp elt [⟨tg,iter,ifs,0⟩] sc cp) (some (.Name y py)) pos.line X.env=pure b/\(b=true->X.env.scope.names.lookup y=some .local):=⟨_,Z,λa=>by
    simp only [Ata]at a;exact eq_of_beq a.1.1.2⟩
   obtain⟨b,a,f⟩:=t;cases b with
   |true=>exact Cj (AhT hk hn hfr AeX (B cp) G.nd (Eh G.toGd hi) (f Z) a (Qc d)) W
   |false=>exact Cj (Hy G.nd (Eh G.toGd hi) (G.loc y s) (Adn hk hn hfr AeX (B cp) (Qc d)) a (.inl (G.fn y))) W
  ·obtain⟨hc,h2⟩:=Aj h1;exact Cj (Hy G.nd (Eh G.toGd hi) (G.loc y s) Ag (Aa7 (by simpa using hc) _) (.inl (G.fn y))) (S.ev G.toGd h2 p l k1)
 rcases Aa h with ⟨v,A1,h1,h2⟩|⟨j,h1,rfl⟩
 ·cases h2;exact go h1 λρ1 H1 w m u=>k ρ1 H1 _ m (RSt.set (m.rst l) u)
 ·exact go h1 k
theorem Afg{f:Str}{v w:V}(b:RV ρ v w):∀{fs c:List (Str×V)},Paired (RP ρ) fs c->Paired (RP ρ) (Gn f v fs) (Gn f w c)
 |_,_,.nil=>.cons ⟨Z,b⟩ .nil
 | (a,u)::fs,(a',u')::c,.cons h t=>by
  obtain⟨h1,h2⟩:=h;have h1:a=a':=h1;subst h1;unfold Gn;split
  ·exact .cons ⟨Z,b⟩ t
  ·exact .cons ⟨Z,h2⟩ (Afg b t)
theorem Dc{f:AH->Option (Nat×AO)}{q:Oc Unit}(h:store f A=some (q,A')):∃i o,f A=some (i,o)/\q=.ok ()/\A'=A.set i o:=by
 unfold store at h;split at h
 ·next i o e=>cases h;exact⟨i,o,e,Z,Z⟩
 ·cases h
theorem Acb(C:COk c T fa fd){f:Str}{v x w x':V}{i:Nat}{d:AO}(h:AeW T f v x A=some (i,d))(e:Emb c ρ A H)(o:RV ρ x x')(rv:RV ρ v w) :
  ∃a k dx b,AgZ x A=some k/\x'=.ref a/\H a=some (.ins (c.Cs k) dx b)/\Cls c.K (c.Cs k)/\Bp c.K (c.Cs k) f/\b.length<1000/\Ext c ρ H ρ (A.set i d) (upd H a (.ins (c.Cs k) dx (Gn f w b))):=by
 unfold AeW at h;split at h
 ·next j =>
  split at h
  ·next k fs ea =>
   split at h
   ·next hf =>
    cases h;rw[Ata]at hf;obtain⟨a,rfl,l⟩:=o.Gq;obtain⟨dx,b,m,n⟩:=e.obj _ _ a ea l;obtain⟨p,r⟩:=C.fld k f hf.1;exact⟨a,k,dx,b,by simp only [AgZ,Wz,ea,Option.map],Z,m,p,r,by rw[<-Pd.len n];have:=yF hf.2;lia,.put e ea l m (λ_=>nofun) ⟨dx,_,Ad,Afg rv n⟩⟩
   ·cases h
  ·cases h
 ·cases h
theorem Apy(S:Snd c T fa fd n r)(C:COk c T fa fd)(G:GdB c E (n+1) ie X){tg e:Expr}{pos:Pos}(h:asS T r ie σa tg e A=some (o,A'))(w:Emb c ρ A H)(l:RSt ρ σa σ)(k:PsF c E ρ H o A' D):W1 X (.Assign [tg] e pos) D σ H:=by
 cases tg<;>first|exact(Ah h).elim|skip
 case Name y py =>
  unfold asS at h;dsimp only at h;cases hi:slot ie y with
  |none=>rw[hi]at h;cases h
  |some i =>
   rw[hi]at h;obtain⟨hl,h'⟩:=Aj h;exact Apx S C G hi hl h' w l k
 case Attribute q f p =>
  refine Cj (AkH Ag Ag Aj4 G.K) ?_;rcases Aa h with ⟨v,A1,h1,h2⟩|⟨j,h1,rfl⟩
  ·refine S.ev G.toGd h1 w l λρ1 H1 L b F=>?_;rcases Aa h2 with ⟨x,A2,t,O⟩|⟨j,t,rfl⟩
   ·refine S.ev G.toGd t b.em (b.rst l) λρ2 H2 U d I=>?_;rcases Aa O with ⟨_,A3,u,h6⟩|⟨j,u,_⟩
    ·obtain⟨i,ob,e1,_,rfl⟩:=Dc u;cases h6;obtain⟨a,Y,dx,gs,_,rfl,z,B,q3,q4,q5⟩:=Acb C e1 d.em I (d.rv F);exact⟨a,_,dx,gs,Z,z,B,q3,q4,k ρ2 _ _ ((b.trans d).trans q5) (d.rst (b.rst l))⟩
    ·obtain⟨_,_,_,W,_⟩:=Dc u;cases W
   ·exact S.ev G.toGd t b.em (b.rst l) λρ2 H2 d=>k ρ2 H2 (b.trans d)
  ·exact S.ev G.toGd h1 w l k
 case Subscript q i p =>
  obtain⟨hs,h'⟩:=Aj h;have hs:isSlice i=false:=by simpa using hs
  have pl:PS X (.Assign [.Subscript q i p] e pos) (Ah6 (We X e) (Aqc (We X q) (We X i) Amz)):=Z2 Ag (Anv Ag Ag set_list (λ_=>by cases i<;>first|rfl|cases hs)) (show swapsWith e (some (.Subscript q i p)) pos.line X.env=pure false from Aca) (by cases e<;>rfl) Z;rcases Aa h' with ⟨v,A1,h1,h2⟩|⟨j,h1,rfl⟩
  ·rcases Aa h2 with ⟨x,A2,t,O⟩|⟨j,t,rfl⟩
   ·rcases Aa O with ⟨y,A3,u,h6⟩|⟨j,u,rfl⟩
    ·rcases Aa h6 with ⟨_,A4,N,h8⟩|⟨j,N,_⟩
     ·obtain⟨ii,ob,e1,_,rfl⟩:=Dc N;cases h8;unfold AmL at e1;split at e1
      ·next j =>
       split at e1
       ·next xs ea =>
        split at e1
        ·next Y =>
         cases R:ixN xs.length Y with
         |none=>rw[R]at e1;cases e1
         |some jj =>
          rw[R]at e1;cases e1;refine Cj pl (S.ev G.toGd h1 w l λρ1 H1 L b F=>S.ev G.toGd t b.em (b.rst l) λρ2 H2 U d I=>S.ev G.toGd u d.em (d.rst (b.rst l)) λs Q w3 m P=>?_);obtain⟨a,rfl,J⟩:=(m.rv I).Gq;obtain⟨ys,z,B⟩:=m.em.obj _ _ a ea J;refine⟨a,ys,Y,jj,Z,P.int,z,by rw[<-Pd.len B];exact R,?_⟩;exact k s _ _ (((b.trans d).trans m).trans (.put m.em ea J z (λ_=>nofun) ⟨_,Ad,Pd.set (m.rv (d.rv F)) jj B⟩)) (m.rst (d.rst (b.rst l)))
        ·cases e1
       ·next kvs ea =>
        split at e1
        ·next ky hk =>
         split at e1
         ·next hz =>
          cases e1;obtain⟨rfl,nr⟩:=key_is hk;refine Cj (AkV (Ae5 G.room) Ag Ag Ag Aca) (S.ev G.toGd h1 w l λρ1 H1 L b F=>S.ev G.toGd t b.em (b.rst l) λρ2 H2 U d I=>S.ev G.toGd u d.em (d.rst (b.rst l)) λs Q w3 m P=>?_);obtain⟨a,rfl,J⟩:=(m.rv I).Gq;obtain⟨ys,z,B⟩:=m.em.obj _ _ a ea J;rw[P.Ci nr];refine⟨a,_,Z,.inl ⟨ys,ky,z,Z,by rw[<-Pd.len B,zS];lia,Z⟩,?_⟩;exact k s _ _ (((b.trans d).trans m).trans (.put m.em ea J z (λ_=>nofun) ⟨_,Ad,AlC B (m.rv (d.rv F))⟩)) (m.rst (d.rst (b.rst l)))
         ·cases e1
        ·cases e1
       ·cases e1
      ·cases e1
     ·obtain⟨_,_,_,W,_⟩:=Dc N;cases W
    ·exact Cj pl (S.ev G.toGd h1 w l λρ1 H1 L b F=>S.ev G.toGd t b.em (b.rst l) λρ2 H2 U d I=>S.ev G.toGd u d.em (d.rst (b.rst l)) λs Q m=>k s Q ((b.trans d).trans m))
   ·exact Cj pl (S.ev G.toGd h1 w l λρ1 H1 L b F=>S.ev G.toGd t b.em (b.rst l) λρ2 H2 d=>k ρ2 H2 (b.trans d))
  ·exact Cj pl (S.ev G.toGd h1 w l k)
theorem Qd{v:V}{q:Oc Int}(h:lift (intOf v) A=some (q,A')):∃i,v=.int i/\q=.ok i/\A'=A:=by
 obtain⟨i,e1,a,b⟩:=Bb h;cases v<;>first|exact(Ah e1).elim|skip
 cases e1;exact⟨_,Z,a,b⟩
theorem Apz(S:Snd c T fa fd n r)(C:COk c T fa fd)(G:GdB c E (n+1) ie X){tg e:Expr}{op:Operator}{pos:Pos}(h:agS T r ie σa tg op e A=some (o,A'))(P:Emb c ρ A H)(s:RSt ρ σa σ)(k:PsF c E ρ H o A' D):W1 X (.AugAssign tg op e pos) D σ H:=by
 unfold agS at h;obtain⟨t,h'⟩:=Aj h;clear h;have t:=yF t;subst t;cases tg<;>first|exact(Ah h').elim|skip
 case Name y py =>
  dsimp only at h';cases hi:slot ie y with
  |none=>rw[hi]at h';cases h'
  |some i =>
   rw[hi]at h';obtain⟨hl,l⟩:=Aj h';clear h';cases hv:σa[i]? with
   |none=>rw[hv]at l;cases l
   |some q =>
    rw[hv]at l;cases q with
    |none=>exact(Ah l).elim
    |some u =>
     cases u<;>first|exact(Ah l).elim|skip
     rename_i a;obtain⟨w,hw,a8⟩:=Aa1 s hv;have ew:=a8.int;subst ew;refine Cj (Anw G.nd (Eh G.toGd hi) (G.loc y hl) Ag Anx (.inl (G.fn y))) ⟨_,hw,?_⟩;rcases Aa l with ⟨v,A1,h1,h2⟩|⟨j,h1,rfl⟩
     ·refine S.ev G.toGd h1 P s λρ1 H1 v1 m O=>?_;rcases Aa h2 with ⟨b,A2,B,Q⟩|⟨j,B,_⟩
      ·obtain⟨b',rfl,d,rfl⟩:=Qd B;cases d;cases Q;exact⟨_,_,Z,O.int,k ρ1 H1 _ m (RSt.set (m.rst s) (.flat Z))⟩
      ·obtain⟨_,_,d,_⟩:=Qd B;cases d
     ·exact S.ev G.toGd h1 P s k
 case Attribute q f p =>
  refine Cj (Adu Ag Ag An9 G.K) ?_;rcases Aa h' with ⟨x,A1,h1,h2⟩|⟨j,h1,rfl⟩
  ·refine S.ev G.toGd h1 P s λρ1 H1 w1 m O=>?_;rcases Aa h2 with ⟨k1,a9,I,a3⟩|⟨j,I,_⟩
   ·obtain⟨_,a5,U,rfl⟩:=Br I;cases U;rcases Aa a3 with ⟨a,A2,B,Q⟩|⟨j,B,_⟩
    ·obtain⟨a',e1,d,rfl⟩:=Br B;cases d;cases hf:Aha T f x A2 with
     |none=>rw[hf]at e1;cases e1
     |some u =>
      rw[hf]at e1;have eu:u=.int a:=by
       have e1:intOf u=some a:=e1;cases u<;>first|exact(Ah e1).elim|skip
       cases e1;rfl
      subst eu;obtain⟨ad,kk,dx,gs,v',N,rfl,q1,q2,q3,q4,q5⟩:=Ajw C hf m.em O;rw[a5]at N;cases N;have a1:=q5.int;subst a1;refine⟨ad,_,dx,gs,_,Z,q1,q2,q3,q4,?_⟩;rcases Aa Q with ⟨v,A3,h5,h6⟩|⟨j,h5,rfl⟩
      ·refine S.ev G.toGd h5 m.em (m.rst s) λρ2 H2 w2 J r2=>?_;rcases Aa h6 with ⟨b,A4,h7,h8⟩|⟨j,h7,_⟩
       ·obtain⟨b',rfl,d,rfl⟩:=Qd h7;cases d;rcases Aa h8 with ⟨k2,ab,z,a0⟩|⟨j,z,_⟩
        ·obtain⟨_,a4,W,rfl⟩:=Br z;cases W;obtain⟨F,a7⟩:=Aj a0;have F:=yF F;subst F;rcases Aa a7 with ⟨_,A5,h9,R⟩|⟨j,h9,_⟩
         ·obtain⟨i,ob,e1,_,rfl⟩:=Dc h9;cases R;obtain⟨a2,aa,a6,Y,L,ea,p1,p2,p3,p4,p5⟩:=Acb (w:=.int (a+b)) C e1 J.em (J.rv O) (.flat Z);rw[a4]at L;cases L;cases ea;exact⟨_,_,Z,r2.int,a6,Y,p1,p4,k ρ2 _ _ ((m.trans J).trans p5) (J.rst (m.rst s))⟩
         ·obtain⟨_,_,_,d,_⟩:=Dc h9;cases d
        ·obtain⟨_,_,d,_⟩:=Br z;cases d
       ·obtain⟨_,_,d,_⟩:=Qd h7;cases d
      ·exact S.ev G.toGd h5 m.em (m.rst s) λρ2 H2 J=>k ρ2 H2 (m.trans J)
    ·obtain⟨_,_,d,_⟩:=Br B;cases d
   ·obtain⟨_,_,d,_⟩:=Br I;cases d
  ·exact S.ev G.toGd h1 P s k
theorem Afh:∀{xs:NU} {b:NL} {vs vs':Nn} {s a s':Sl},slots ie xs=some b->AlI ie xs vs s=some a->RSt ρ s s'->RVs ρ vs vs'->RSt ρ a (Qa b vs' s')
 |[],b,vs,vs',s,a,s',hi,h,rs,rv=>by
  cases hi;cases rv with
  |nil=>cases h;exact rs
  |cons=>cases h
 |x::xs,b,vs,vs',s,a,s',hi,h,rs,rv=>by
  unfold slots at hi;split at hi
  ·next i is' h1 h2 =>
   cases hi;cases rv with
   |nil=>cases h
   |cons c t =>
    unfold AlI at h;split at h
    ·rw[h1]at h;show RSt ρ a (Qa is' _ (s'.set i (some _)));exact Afh h2 h (RSt.set rs c) t
    ·cases h
  ·cases hi
theorem Amc(S:Snd c T fa fd n r)(G:GdB c E (n+1) ie X){tg:Expr}{body:List Nl}{w:AI}{J:It}(jk:JOk c w J ρ){tn:NU}{is:NL}(U:Eg tg=some tn)(I:slots ie tn=some is)(h:forL r ie tg body w w.len 0 σa A=some (o,A'))(em:Emb c ρ A H)(rs:RSt ρ σa σ)(k:PsF c E ρ H o A' D) :
  Ah9 (gTg X.K tg is) (Ws X body) D σ J H:=by
 refine⟨λi m s H'=>∃b A2 B,Ext c ρ H b A2 H'/\RSt b B s/\forL r ie tg body w m i B A2=some (o,A')/\i+m=w.len,⟨w.len,ρ,A,σa,.refl em,rs,h,AtC _⟩,?_⟩;rintro i m s H' ⟨b,A2,B,p,ry,hc,hl⟩;obtain⟨r0,rfl⟩:=p.ap;cases m with
 |zero =>
  unfold forL at hc;split at hc
  ·next hch =>
   cases hc;have:=(jk r0 _ H' p.em hch).2;rw[<-hl]at this;exact .inl ⟨this,k _ _ _ p ry⟩
  ·cases hc
 |succ m =>
  unfold forL at hc;split at hc
  ·next hch =>
   rcases Aa hc with ⟨v1,A3,W,h4⟩|⟨j,W,z⟩
   ·obtain⟨go,yl⟩:=(jk r0 A2 H' p.em hch).1 i v1 A3 W;refine .inr ⟨go,λs' e=>∃b A2 B,Ext c ρ H b A2 e/\RSt b B s'/\forL r ie tg body w m (i+1) B A2=some (o,A'),λs' e ⟨a0,A4,R,y1,y2,y3⟩=>⟨m,Aty m,a0,A4,R,y1,y2,y3,As⟩,λx e y=>?_⟩;obtain⟨a1,d,rx⟩:=yl x e y;rcases Aa h4 with ⟨s1,A4,h5,h6⟩|⟨j,h5,z⟩
    ·obtain⟨a2,e1,N,rfl⟩:=Br h5;cases N;cases P:tgB tg v1 A4 with
     |none=>rw[P]at e1;cases e1
     |some q =>
      rw[P]at e1;obtain⟨tq,lq⟩:=AbX P;have F:tn=q.1:=yB (U.symm.trans tq);obtain⟨q1,q2⟩:=q;dsimp only at e1 F lq;subst F;obtain⟨il,_⟩:=Ls I;refine Aj0 P il d.em rx λvs' rvs=>?_;have C:RSt a1 s1 (Qa is vs' s):=Afh I e1 (d.rst ry) rvs;rcases Aa h6 with ⟨f,A5,Y,O⟩|⟨j,Y,rfl⟩
      ·refine S.exs G Y d.em C ?_;cases f with
       |nx Q=>exact λa u L l t=>⟨a,A5,Q,(p.trans d).trans l,t,O⟩
       |ct Q=>exact λa u L l t=>⟨a,A5,Q,(p.trans d).trans l,t,O⟩
       |bk Q=>cases O;exact λa u L l t=>k a u L ((p.trans d).trans l) t
       |rt v=>cases O;exact λa u L l t=>k a u L ((p.trans d).trans l) t
      ·exact S.exs G Y d.em C λa u l=>k a u ((p.trans d).trans l)
    ·obtain⟨_,_,N,_⟩:=Br h5;cases N
   ·obtain⟨v,N⟩:=AlY W;cases N
  ·cases hc
end
end IV
namespace IV
open PySem PySem.Spec PyProof.Rows L2
section
variable {c:Ct}{T:Tt}{fa:Nat->NX}{fd:Nat->NY}{n:Nat}{r:Rc}{X:Cx}{ie:IE}{E:XK}{σa σ:Sl}{A A':AH}{ρ:NO}{H:Hp}{D:Ends}{o:Oc Fw}
theorem Ap0(S:Snd c T fa fd n r)(G:GdB c E (n+1) ie X){t:Expr}{body:List Nl}{m0:Nat}(h:whL r ie t body m0 σa A=some (o,A'))(O:Emb c ρ A H)(R:RSt ρ σa σ)(k:PsF c E ρ H o A' D):Ah7 (Wt X t) (Ws X body) D σ H:=by
 refine⟨λm s H'=>∃d A2 w,Ext c ρ H d A2 H'/\RSt d w s/\whL r ie t body m w A2=some (o,A'),⟨m0,ρ,A,σa,.refl O,R,h⟩,?_⟩;rintro m s H' ⟨d,A2,w,p,z,hc⟩;cases m with
 |zero=>cases hc
 |succ m =>
  unfold whL at hc;rcases Aa hc with ⟨b,W,K,N⟩|⟨j,K,rfl⟩
  ·refine S.tv G.toGd K p.em z λJ P U e Q=>?_;cases Q;cases b with
   |false=>cases N;exact Agj (k J P _ (p.trans e) (e.rst z))
   |true =>
    refine AaZ ⟨λs' x=>∃d A2 w,Ext c ρ H d A2 x/\RSt d w s'/\whL r ie t body m w A2=some (o,A'),λs' x y=>⟨m,Aty m,y⟩,?_⟩;rcases Aa N with ⟨f,L,I,C⟩|⟨j,I,rfl⟩
    ·refine S.exs G I e.em (e.rst z) ?_;cases f with
     |nx F=>exact λa l B i u=>⟨a,L,F,(p.trans e).trans i,u,C⟩
     |ct F=>exact λa l B i u=>⟨a,L,F,(p.trans e).trans i,u,C⟩
     |bk F=>cases C;exact λa l B i u=>k a l B ((p.trans e).trans i) u
     |rt v=>cases C;exact λa l B i u=>k a l B ((p.trans e).trans i) u
    ·exact S.exs G I e.em (e.rst z) λa l i=>k a l ((p.trans e).trans i)
  ·exact S.tv G.toGd K p.em z λa l i=>k a l (p.trans i)
theorem Aj5(G:GdB c E n ie X)(hfr:X.A.frames=some X.stack):PassesOwn (model X.prog X.w) X.A X.env X.xe:=by rw[G.xq];exact Asl G.body hfr
theorem Ap1(C:COk c T fa fd)(G:GdB c E n ie X){e:Expr}{pos:Pos}(h:raS T ie e A=some (o,A'))(t:Emb c ρ A H)(k:PsF c E ρ H o A' D):W1 X (.Raise (some e) none pos) D σ H:=by
 cases e<;>first|exact(Ah h).elim|skip
 rename_i f b d u;cases f<;>first|exact(Ah h).elim|skip
 rename_i x np;cases b with
 |nil=>exact(Ah h).elim
 |cons a as =>
 cases a<;>first|exact(Ah h).elim|skip
 rename_i cs i sp;cases cs<;>first|exact(Ah h).elim|skip
 rename_i s;cases as with
 |cons _ _=>exact(Ah h).elim
 |nil =>
 cases d with
 |cons _ _=>exact(Ah h).elim
 |nil =>
  unfold raS at h;dsimp only at h;cases j:glb T ie x with
  |none=>rw[j]at h;cases hs:slot ie x<;>(rw[hs]at h;cases h)
  |some g =>
   rw[j]at h;cases hs:slot ie x with
   |some _=>rw[hs]at h;cases h
   |none =>
    rw[hs]at h;cases g with
    |exc p =>
     cases h;obtain⟨l,g2⟩:=JH j;obtain⟨m,r⟩:=C.exc x p g2;exact Cj (Aih G.body G.calm G.xe F.excBase_ValueError Aob F.excBase_ValueError (by rw[G.K];exact r) (G.gl x l) (by rw[G.mg];exact m) (Ae Be Al) (Fz l).1) ⟨Fy At,k ρ H (.refl t)⟩
    |fn _=>cases h
    |cls _=>cases h
    |val _=>cases h
    |tup _=>cases h
    |tab _=>cases h
theorem Aj6(S:Snd c T fa fd n r)(C:COk c T fa fd)(G:GdB c E (n+1) ie X){st:Nl}(h:exS T r ie σa st A=some (o,A'))(b:Emb c ρ A H)(a:RSt ρ σa σ)(k:PsF c E ρ H o A' D):W1 X st D σ H:=by
 cases st<;>first|exact(Ah h).elim|skip
 case Expr =>
  obtain⟨hc,h'⟩:=Aj h;refine Cj (Z0 Ag (Aa7 (by simpa using hc) _)) ?_;rcases Aa h' with ⟨v,A1,h1,h2⟩|⟨j,h1,rfl⟩
  ·cases h2;exact S.ev G.toGd h1 b a λρ1 H1 R d W=>k ρ1 H1 _ d (d.rst a)
  ·exact S.ev G.toGd h1 b a k
 case AugAssign =>
  exact Apz S C G h b a k
 case If =>
  refine Cj (Ams Mt PN PN) ?_;rcases Aa h with ⟨z,A1,h1,h2⟩|⟨j,h1,rfl⟩
  ·refine S.tv G.toGd h1 b a λρ1 H1 Q d L=>?_;cases L;cases z with
   |true=>exact AaZ (S.exs G h2 d.em (d.rst a) (k.over d))
   |false=>exact Agj (S.exs G h2 d.em (d.rst a) (k.over d))
  ·exact S.tv G.toGd h1 b a k
 case Pass =>
  cases h;exact Cj Akc (k ρ H _ (.refl b) a)
 case Break =>
  cases h;exact Cj Ah3 (k ρ H _ (.refl b) a)
 case Continue =>
  cases h;exact Cj AaS (k ρ H _ (.refl b) a)
 case Return eo pos =>
  cases eo with
  |none =>
   cases h;exact Cj Ake (k ρ H _ (.refl b) (.flat Z))
  |some e =>
   refine Cj (By Ag) ?_;rcases Aa h with ⟨v,A1,h1,h2⟩|⟨j,h1,rfl⟩
   ·cases h2;exact S.ev G.toGd h1 b a k
   ·exact S.ev G.toGd h1 b a k
 case Assign s e pos =>
  cases s with
  |nil=>cases h
  |cons tg s =>
  cases s with
  |cons _ _=>cases h
  |nil =>
  exact Apy S C G h b a k
 case While cnd body els pos =>
  cases els with
  |cons _ _=>cases h
  |nil =>
  exact Cj (Am4 λhfr=>Ah8 (Aj5 G hfr) Mt PN) (Ap0 S G h b a k)
 case For tg iter body els pos =>
  cases els with
  |cons _ _=>cases h
  |nil =>
  have h:AlJ T r ie σa tg iter body A=some (o,A'):=h;cases f:Eg tg with
  |none=>unfold AlJ at h;rw[f]at h;cases h
  |some tn =>
   unfold AlJ at h;rw[f]at h;obtain⟨B,h'⟩:=Aj h;simp only [Ata,At7]at B;obtain⟨⟨t,m⟩,l⟩:=B;obtain⟨F,l⟩:=Option.isSome_iff_exists.mp l;obtain⟨P,N⟩:=Ls l;rw[Atp]at m;have O:PG X tg (gTg X.K tg F):=AmR G.calm f P λj x i p h1 h2=>by
    obtain⟨y,w,hs⟩:=N j i h2;rw[h1]at w;cases w;exact Ea G.nd (Eh G.toGd hs) (G.loc x (m x (Ato h1))) (.inl (G.fn x))
   refine Cj (Am4 λhfr=>AhA (Aj5 G hfr) G.calm AeX O PN (Qc t)) ?_;rcases Aa h' with ⟨U,A1,h1,h2⟩|⟨j,h1,_⟩
   ·obtain⟨_,e1,u⟩:=CZ h1;cases e1;exact Afc S C G.toGd u b a λρ1 H1 J d I=>Amc S G I f l h2 d.em (d.rst a) (k.over d)
   ·obtain⟨_,e1,_⟩:=CZ h1;cases e1
 case Raise eo co pos =>
  cases eo with
  |none=>cases h
  |some e =>
  cases co with
  |some _=>cases h
  |none =>
  exact Ap1 C G h b k
theorem Afi(S:Snd c T fa fd n r)(C:COk c T fa fd)(G:GdB c E (n+1) ie X):∀{l:List Nl} {σa σ:Sl} {A A':AH} {ρ:NO} {H:Hp} {o:Oc Fw},AlK T r ie l σa A=some (o,A')->Emb c ρ A H->RSt ρ σa σ->PsF c E ρ H o A' D->Ws X l D σ H
 |[],σa,σ,A,A',ρ,H,o,h,em,rs,k=>by cases h;exact AbU Akb (k ρ H _ (.refl em) rs)
 |st::rest,σa,σ,A,A',ρ,H,o,h,em,rs,k=>by
  unfold AlK at h;refine AbU (BW AmO PN) ?_;rcases Aa h with ⟨f,A1,h1,h2⟩|⟨j,h1,rfl⟩
  ·refine Aj6 S C G h1 em rs ?_;cases f with
   |nx s=>exact λρ1 H1 d a b=>Afi S C G h2 a.em b (k.over a)
   |rt v=>cases h2;exact k
   |bk s=>cases h2;exact k
   |ct s=>cases h2;exact k
  ·exact Aj6 S C G h1 em rs k
theorem Ap2{P:Program}{w:World}{K:NA}{mg:Str->NW}{base:Heap}{x qual:Str}{st:Nl}{f:NX}{fd:NY}{N ps:NU}{k:Nat}{sp:Sp}(F:Fun K x qual st f fd)(S:Bf N ps (Ac st))(len:∀vs H Q E,sp vs H Q E->vs.length=ps.length)
  (a:∀(A:Around)(outer:List Env)(s:Na)(H:Hp)(vs:Nn)(Q:VK)(E:XK),BX k (A.deeper (envOfC qual (Ac st) s.heap.objs.size f fd.code))->sp vs H Q E ->
   ∃t,PSs (cx1 P w K mg base N qual (Ac st) f fd.code A outer s H E) (Bl st) t/\t {nx:=λ_ H'=>Q .non H',rt:=Q} (start N vs) H):BR P w K mg base (CX1 P w) (k+1) f fd ps sp:=by
 obtain⟨p,o,kV,m,n,an,d,ct,i,rfl,lk,b⟩:=F.ex;refine AhL lk b S len λA outer s H vs Q E l c=>?_;obtain⟨t,h,q⟩:=a A outer s H vs Q E l c;refine⟨t,λpins j σ H1 D I h1=>?_,q⟩;exact zO (h pins j σ H1 D (I.wish _) h1) (λ_ _ z=>z.Cu) λe s' z=>leaveX (X:=O9 (CX1 P w) P w K mg base N qual (Ac st) f d A outer s H E) ⟨Z,Z,Z⟩ I.ok.frames z
theorem Acd{N:NU}{vs ws:Nn}(h:RVs ρ vs ws):RSt ρ (start N vs) (start N ws):=by
 unfold L2.start;rw[<-Pd.len h];refine Pd.app (AbY h) ?_;generalize N.length-vs.length=m
 induction m with
 |zero=>exact .nil
 |succ m a=>rw[AtL];exact .cons .no a
theorem W8{d:Nat}{vs:Nn}{p:Oc V×AH}(h:Ajt T r d vs A=some p):∃D,T.defs[d]?=some D/\vs.length=(dP D.st).length/\bnd (r.exs ⟨dN D.st,Ac D.st,D.lam⟩ (Bl D.st) (start (dN D.st) vs)) (λf=>match f with
  | .rt v=>ret v
  | .nx _=>ret .non
  |_=>fail) A=some p:=by
 unfold Ajt at h;cases a:T.defs[d]? with
 |none=>rw[a]at h;cases h
 |some D =>
  rw[a]at h;obtain⟨b,h'⟩:=Aj h;exact⟨D,Z,yF b,h'⟩
theorem Aj7(S:Snd c T fa fd n r)(C:COk c T fa fd)(d:Nat)(D:Dd)(p:T.defs[d]?=some D):BR c.P c.w c.K c.mg c.base (CX1 c.P c.w) (n+2) (fa d) (fd d) (dP D.st) (spI c (step T r) d (dP D.st)):=by
 obtain⟨⟨x,q,F,l⟩,B,i⟩:=C.dfn d D p;refine Ap2 F i (λvs H Q E ⟨ρ,A,b,o,A',_,t,_,rv,_⟩=>by rw[<-Pd.len rv];exact t) λA outer s H vs Q E y ⟨ρ,A0,b,o,A',h,t,m,rv,k⟩=>?_;obtain⟨I,a,_,h'⟩:=W8 h;rw[p]at a;cases a;refine⟨_,PN,?_⟩;have G:GdB c E (n+1) ⟨dN D.st,Ac D.st,D.lam⟩ (cx1 c.P c.w c.K c.mg c.base (dN D.st) q (Ac D.st) (fa d) (fd d).code A outer s H E):={
  prog:=rfl,w:=rfl,K:=rfl,mg:=rfl,base:=rfl,N:=rfl
  vis:=λx h=>by
   unfold IV.vis at h;split at h
   ·next e=>exact .inl e
   ·next e=>exact .inr (.inl e)
   ·next e=>exact .inr (.inr e)
   ·cases h
  gl:=λx h=>by
   unfold Wx at h;split at h
   ·next e=>exact e
   ·cases h
  cell:=λx h=>h
  kind:=i.kind,room:=y,pass:=Abf,calm:=rfl
  lam:=λh=>l h
  body:=Am3,xe:=λ_ _ z=>z,xq:=rfl,nd:=i.nd
  loc:=λx h=>by
   unfold IV.loc at h;split at h
   ·next e=>exact .inl e
   ·next e=>exact .inr e
   ·cases h
  fn:=λ_=>rfl}
 rcases Aa h' with ⟨f,A1,h1,h2⟩|⟨j,h1,rfl⟩
 ·refine S.exs G h1 m (Acd rv) ?_;cases f with
  |rt v=>cases h2;exact k
  |nx s=>cases h2;exact λρ1 H1 J u L=>k ρ1 H1 _ u (.flat Z)
  |bk s=>cases h2
  |ct s=>cases h2
 ·exact S.exs G h1 m (Acd rv) k
theorem Gd.mono{m:Nat}(G:Gd c E m ie X)(h:n<=m):Gd c E n ie X:={G with room:=G.room.mono h}
theorem GdB.mono{m:Nat}(G:GdB c E m ie X)(h:n<=m):GdB c E n ie X:={G with room:=G.room.mono h}
theorem sound(C:COk c T fa fd):∀k:Nat,Snd c T fa fd (2*k+1) (go T k)
 | 0=>{
  one:=AsY 1
  ev:=λ_ h=>by cases h
  tv:=λ_ h=>by cases h
  exs:=λ_ h=>by cases h
  call:=λd D f=>⟨λvs H Q E ⟨_,_,_,_,_,z,_⟩=>(by cases z),λ_ _ _ _ _ _ _ _ _ _ _ _ _ ⟨_,_,_,_,_,z,_⟩=>(by cases z)⟩
  len:=λ_ _ _ _ h=>by cases h}
 |k+1=>{
  one:=As
  ev:=λG h _ _ _ _ a b q=>Apw (sound C k) C (G.mono As) h a b q
  tv:=λG h _ _ _ _ a b q=>Apv (sound C k) C (G.mono As) h a b q
  exs:=λG h _ _ _ _ a b q=>Afi (sound C k) C (G.mono As) h a b q
  call:=Aj7 (sound C k) C
  len:=λd e A p h=>by obtain⟨D,h1,h2,_⟩:=W8 h;exact⟨D,h1,h2⟩}
end
end IV
namespace L2
open PySem PySem.Spec PyProof.Rows
variable {j n:Nat}
inductive Ace (K:NA) (H:Hp):Nat->V->V->Prop where
 |flat {n:Nat} {x:V} (h:Cg x=true):Ace K H n x x
 |lst {n:Nat} {p q:NX} {xs ys:Nn} (hp:SqL K H p xs) (hq:SqL K H q ys) (hl:xs.length=ys.length) (hi:∀(i:Nat)(x y:V),xs[i]?=some x->ys[i]?=some y->Ace K H n x y):Ace K H (n+1) (.ref p) (.ref q)
 |tup {n:Nat} {p q:NX} {xs ys:Nn} (hp:SqT K H p xs) (hq:SqT K H q ys) (hl:xs.length=ys.length) (hi:∀(i:Nat)(x y:V),xs[i]?=some x->ys[i]?=some y->Ace K H n x y):Ace K H (n+1) (.ref p) (.ref q)
section
variable {X:Cx}{K:NA}
theorem G5{xs:Nn}{us:NR}(r:Vals xs us)(h:j<us.toArray.size):∃x,xs[j]?=some x/\RelV x us.toArray[j]:=by
 have l:=r.length;simp only [Atd]at h;obtain⟨u,e,q⟩:=r.get (i:=j) (x:=xs[j]) At;refine⟨xs[j],At,?_⟩;have:us.toArray[j]=u:=by
  simp_all
 rw[this];exact q
theorem Aj8{pins:NF}{σ:St}{H:Hp}{s:Na}(I:Inv X pins σ H s){x y:V}(S:Ace X.K H n x y):∀{A:Around} {u v:Nd},RelV x u->RelV y v->A.units+n<cLine->SeqAt.EqAt A s u v true:=by
 induction S with
 |flat h =>
  intro A u v d b z;have:= AhM (A:=A) (s:=s) d b h h;rw[AhW h]at this;exact this
 |lst l m E hi i =>
  intro A u v d b z;rename_i n p q xs ys;cases d;cases b;by_cases e:p=q
  ·subst e;exact SeqAt.EqAt.same _
  ·refine SeqAt.EqAt.of_refs e ?_;obtain⟨its,r,pl,D⟩:=I.list l;obtain⟨a,b,c,w⟩:=I.list m;have C:=r.length;have B:=b.length;have key:=SeqAt.RcAt.lists (A:=A) (e:=λ_=>true) pl.isList c.isList (by grind) As (λj h1 h2=>?_)
   ·have e1:(List.range its.toArray.size).all (λ_=>true)=true:=At
    rw[e1]at key;exact key
   ·obtain⟨x,ex,t⟩:=G5 r h1;obtain⟨y,f,o⟩:=G5 b h2;exact i j x y ex f t o (by show A.units+1+n<cLine;lia)
 |tup l m E hi i =>
  intro A u v d b z;rename_i n p q xs ys;cases d;cases b;by_cases e:p=q
  ·subst e;exact SeqAt.EqAt.same _
  ·refine SeqAt.EqAt.of_refs e ?_;obtain⟨its,r,pl,D⟩:=I.tuple l;obtain⟨a,b,c,w⟩:=I.tuple m;have C:=r.length;have B:=b.length;have key:=SeqAt.RcAt.tuples (A:=A) (e:=λ_=>true) pl c As (λj h1 h2=>?_)
   ·have e1:((List.range (min its.toArray.size a.toArray.size)).all (λ_=>true) && its.toArray.size == a.toArray.size)=true:=by
     simp_all
    rw[e1]at key;exact key
   ·obtain⟨x,ex,t⟩:=G5 r h1;obtain⟨y,f,o⟩:=G5 b h2;exact i j x y ex f t o (by show A.units+1+n<cLine;lia)
def AsF (K:NA)(H:Hp)(p q:NX):Prop:=∃xs ys:Nn,SqL K H p xs/\SqL K H q ys/\xs.length=ys.length/\∀(i:Nat)(x y:V),xs[i]?=some x->ys[i]?=some y->Ace K H 50 x y
inductive AsG (K:NA)(x:V)(y:V)(H:Hp)(Q:VK):Prop
|mk(p:_)(q:_)(_:x=.ref p)(_:y=.ref q)(_:AsF K H p q)(_:Q (.bl true) H)
theorem Ap3(z:X.A.units+100<cLine)(f:X.K=K:=by rfl):OpR X (compareOp .Eq) (AsG K):=by
 subst f;intro pins s σ H x y v u Q I n l h;obtain⟨p,q,rfl,rfl,⟨xs,ys,i,m,E,hi⟩,k⟩:=h;cases n;cases l;obtain⟨its,r,pl,D⟩:=I.list i;obtain⟨b,c,a,w⟩:=I.list m;have C:=r.length;have B:=c.length;refine SeqAt.eq_listAt (e:=λ_=>true) pl.isList a.isList (by grind) As (λj h1 h2=>?_) ?_
 ·obtain⟨x,ex,t⟩:=G5 r h1;obtain⟨y,d,o⟩:=G5 c h2;exact Aj8 I (hi j x y ex d) t o (by grind)
 refine⟨.bl true,H,I,?_,k⟩;show Value.bool _=Value.bool _;simp
end
end L2
namespace Mine
open PySem L2
variable {ps:NU}
def top (i:Nat):Stmt:=PySem.Challenge.pw_heddle_k68_questions_refused.main.body.getD i (.Pass ⟨0,0,0,0⟩)
abbrev W9:Stmt:=top 16
abbrev G6:Stmt:=top 19
abbrev Qe:Stmt:=top 20
abbrev JL:Stmt:=top 21
abbrev S5:Stmt:=top 22
abbrev Afj:Stmt:=top 27
abbrev Mv:Stmt:=top 28
abbrev Ia:Stmt:=top 29
abbrev Dv:Stmt:=top 30
abbrev Mw:Stmt:=top 32
abbrev S6:Stmt:=top 33
abbrev G7:Stmt:=top 34
abbrev S7:Stmt:=top 35
abbrev Mx:Stmt:=top 36
abbrev Acf:Stmt:=top 37
abbrev YD:Stmt:=top 42
abbrev S8:Stmt:=top 46
abbrev WD:Stmt:=top 52
abbrev Afk:Stmt:=top 53
abbrev Qf:Stmt:=top 54
abbrev My:Stmt:=top 55
abbrev WL:Stmt:=top 57
abbrev Qg:Stmt:=top 58
abbrev S9:Stmt:=top 59
abbrev Qh:Stmt:=top 60
abbrev SJ:Stmt:=top 61
abbrev Ep:Stmt:=top 62
abbrev Acg:Stmt:=top 64
abbrev JM:Stmt:=top 65
abbrev YF:Stmt:=top 66
abbrev Ib:Stmt:=top 70
abbrev Qi:Stmt:=top 71
abbrev JN:Stmt:=top 76
abbrev SM:Stmt:=top 78
abbrev SN:Stmt:=top 80
abbrev YG:Stmt:=top 82
abbrev SQ:Stmt:=top 83
abbrev Ie:Stmt:=top 84
abbrev Qj:Stmt:=top 106
abbrev YH:Stmt:=top 109
abbrev JP:Stmt:=top 114
abbrev Qk:Stmt:=top 115
abbrev SX:Stmt:=top 116
abbrev Mz:Stmt:=top 117
abbrev Tc:Stmt:=top 118
abbrev WM:Stmt:=top 119
abbrev Dw:Stmt:=top 120
abbrev Ql:Stmt:=top 122
abbrev Qm:Stmt:=top 123
abbrev M3:Stmt:=top 124
abbrev M4:Stmt:=top 126
abbrev JQ:Stmt:=top 129
abbrev Td:Stmt:=top 130
abbrev Ig:Stmt:=top 131
abbrev Te:Stmt:=top 133
abbrev Ih:Stmt:=top 134
abbrev JR:Stmt:=top 135
abbrev Tf:Stmt:=top 136
abbrev Ach:Stmt:=top 137
abbrev Qo:Stmt:=top 138
abbrev Ii:Stmt:=top 140
abbrev G8:Stmt:=top 142
abbrev Ij:Stmt:=top 145
abbrev Es:Stmt:=top 149
abbrev Ik:Stmt:=top 150
abbrev FJ:Stmt:=top 154
abbrev Qp:Stmt:=top 159
abbrev Tg:Stmt:=top 161
abbrev JS:Stmt:=top 162
abbrev Afl:Stmt:=top 163
abbrev Afm:Stmt:=top 164
abbrev WN:Stmt:=top 167
abbrev WQ:Stmt:=top 168
abbrev Th:Stmt:=top 169
abbrev GC:Stmt:=top 170
abbrev M5:Stmt:=top 171
abbrev YJ:Stmt:=top 172
abbrev Ti:Stmt:=top 174
abbrev Qq:Stmt:=top 175
abbrev CK:Stmt:=top 179
theorem Gr:Bf ["paper","lines","book"] ["paper"] (Ac CK):=sc9
abbrev Oe:Stmt:=top 180
theorem Aci:Bf ["text"] ["text"] (Ac Oe):=sc9
abbrev Tj:Stmt:=top 181
theorem Bs:Bf ["words","book","e"] ["words","book"] (Ac Tj):=sc9
abbrev Og:Stmt:=top 182
abbrev Tn:Stmt:=top 183
abbrev Afn:Stmt:=top 184
abbrev Acj:Stmt:=top 185
abbrev Afo:Stmt:=top 186
abbrev Et:Stmt:=top 187
abbrev Qs:Stmt:=top 189
abbrev Qt:Stmt:=top 190
abbrev JT:Stmt:=top 191
abbrev Ax:Stmt:=top 193
abbrev Ao:Stmt:=top 194
abbrev WR:Stmt:=top 195
theorem Cd:Bf ["cell","question","due","name","gap"] ["cell"] (Ac WR):=sc9
abbrev AmS:Stmt:=top 196
theorem Oh:Bf ["script","lines","due","k","line","answer","found"] ["script"] (Ac AmS):=sc9
abbrev Ma:Stmt:=(Bg (top 1)).getD 0 (.Pass ⟨0,0,0,0⟩)
abbrev JV:Stmt:=(Bg (top 2)).getD 0 (.Pass ⟨0,0,0,0⟩)
theorem U9:Bf ["self"] ["self"] (Ac JV):=sc9
abbrev FN:Stmt:=(Bg (top 3)).getD 0 (.Pass ⟨0,0,0,0⟩)
theorem Oi:Bf ["self"] ["self"] (Ac FN):=sc9
abbrev GD:Stmt:=(Bg (top 4)).getD 0 (.Pass ⟨0,0,0,0⟩)
theorem Qu:Bf ["self"] ["self"] (Ac GD):=sc9
abbrev Eu:Stmt:=(Bg (top 8)).getD 0 (.Pass ⟨0,0,0,0⟩)
theorem Mg:Bf ["self"] ["self"] (Ac Eu):=sc9
abbrev FP:Stmt:=(Bg (top 9)).getD 0 (.Pass ⟨0,0,0,0⟩)
theorem Oj:Bf ["self"] ["self"] (Ac FP):=sc9
abbrev Ew:Stmt:=(Bg (top 11)).getD 0 (.Pass ⟨0,0,0,0⟩)
theorem Mh:Bf ["self"] ["self"] (Ac Ew):=sc9
abbrev GF:Stmt:=(Bg (top 12)).getD 0 (.Pass ⟨0,0,0,0⟩)
theorem Qv:Bf ["self"] ["self"] (Ac GF):=sc9
abbrev GJ:Stmt:=(Bg (top 26)).getD 0 (.Pass ⟨0,0,0,0⟩)
abbrev FQ:Stmt:=(Bg (top 45)).getD 0 (.Pass ⟨0,0,0,0⟩)
abbrev JW:Stmt:=(Bg (top 45)).getD 1 (.Pass ⟨0,0,0,0⟩)
abbrev M6:Stmt:=(Bg (top 45)).getD 2 (.Pass ⟨0,0,0,0⟩)
abbrev GK:Stmt:=(Bg (top 45)).getD 3 (.Pass ⟨0,0,0,0⟩)
abbrev Il:Stmt:=(Bg (top 45)).getD 4 (.Pass ⟨0,0,0,0⟩)
abbrev Im:Stmt:=(Bg (top 50)).getD 0 (.Pass ⟨0,0,0,0⟩)
abbrev Tp:Stmt:=(Bg (top 50)).getD 1 (.Pass ⟨0,0,0,0⟩)
abbrev JX:Stmt:=(Bg (top 50)).getD 2 (.Pass ⟨0,0,0,0⟩)
abbrev GP:Stmt:=(Bg (top 51)).getD 0 (.Pass ⟨0,0,0,0⟩)
abbrev Qw:Stmt:=(Bg (top 51)).getD 1 (.Pass ⟨0,0,0,0⟩)
abbrev Io:Stmt:=(Bg (top 51)).getD 2 (.Pass ⟨0,0,0,0⟩)
abbrev GQ:Stmt:=(Bg (top 92)).getD 0 (.Pass ⟨0,0,0,0⟩)
abbrev M7:Stmt:=(Bg (top 92)).getD 4 (.Pass ⟨0,0,0,0⟩)
abbrev Ip:Stmt:=(Bg (top 94)).getD 0 (.Pass ⟨0,0,0,0⟩)
abbrev GR:Stmt:=(Bg (top 95)).getD 0 (.Pass ⟨0,0,0,0⟩)
set_option genInjectivity false in
structure Adr where
 {HJ:NX}
 {Cr:NX}
 {Ol:NX}
 {FT:NX}
 {FW:NX}
 {Om:NX}
 {HN:NX}
 {Ack:NX}
 {Afp:NX}
 {FZ:NX}
 {Dg:NX}
 {GX:NY}
 {CP:NX}
 {Ga:NY}
 {JZ:NX}
 {Ka:NY}
 {M8:NX}
 {M9:NY}
 {GZ:NX}
 {Ha:NY}
 {Ir:NX}
 {Iu:NY}
 {DR:NX}
 {Iv:NY}
 {Tq:NX}
 {Tr:NY}
 {Kc:NX}
 {Kd:NY}
 {Dh:NX}
 {Hb:NY}
 {Qx:NX}
 {Qy:NY}
 {Iw:NX}
 {Iz:NY}
 {Ce:NX}
 {Hc:NY}
 {Dl:NX}
 {MF:NY}
 {DW:NX}
 {I9:NY}
 {Di:NX}
 {Hd:NY}
 {WT:NX}
 {WW:NY}
 {Hf:NX}
 {Hg:NY}
 {Qz:NX}
 {Q0:NY}
 {Ke:NX}
 {Kf:NY}
 {Tu:NX}
 {Tv:NY}
 {Afq:NX}
 {Afr:NY}
 {MJ:NX}
 {MK:NY}
 {IK:NX}
 {IW:NY}
 {Dy:NX}
 {Dz:NY}
 {MN:NX}
 {MP:NY}
 {Tw:NX}
 {Tz:NY}
 {Hh:NX}
 {Hi:NY}
 {T4:NX}
 {T5:NY}
 {MT:NX}
 {Nb:NY}
 {Acl:NX}
 {Acm:NY}
 {YK:NX}
 {YL:NY}
 {T6:NX}
 {T7:NY}
 {WY:NX}
 {Xa:NY}
 {Afs:NX}
 {Aft:NY}
 {Q3:NX}
 {Q4:NY}
 {Nf:NX}
 {Ng:NY}
 {Xb:NX}
 {Xc:NY}
 {Q5:NX}
 {Q6:NY}
 {T8:NX}
 {T9:NY}
 {Q7:NX}
 {Q8:NY}
 {TF:NX}
 {TJ:NY}
 {Ex:NX}
 {Ey:NY}
 {Acn:NX}
 {Aco:NY}
 {Kg:NX}
 {Kh:NY}
 {YM:NX}
 {YQ:NY}
 {Ja:NX}
 {Jb:NY}
 {Q9:NX}
 {QB:NY}
 {Kl:NX}
 {Km:NY}
 {TQ:NX}
 {TV:NY}
 {TX:NX}
 {TY:NY}
 {YS:NX}
 {YT:NY}
 {Ko:NX}
 {Bj:NY}
 {Jc:NX}
 {Jd:NY}
 {QC:NX}
 {QD:NY}
 {YW:NX}
 {YX:NY}
 {Kp:NX}
 {Kq:NY}
 {QF:NX}
 {QG:NY}
 {Ua:NX}
 {Ub:NY}
 {Nh:NX}
 {Ni:NY}
 {Uc:NX}
 {Ud:NY}
 {Xd:NX}
 {Xe:NY}
 {DG:NX}
 {DK:NY}
 {QH:NX}
 {QJ:NY}
 {QK:NX}
 {QL:NY}
 {Nj:NX}
 {Nk:NY}
 {Nm:NX}
 {Np:NY}
 {Gb:NX}
 {Ge:NY}
 {Ue:NX}
 {Ug:NY}
 {Je:NX}
 {Jf:NY}
 {Uh:NX}
 {Ui:NY}
 {Jg:NX}
 {Jh:NY}
 {Kr:NX}
 {Ks:NY}
 {Uj:NX}
 {Uk:NY}
 {Acp:NX}
 {Acq:NY}
 {QM:NX}
 {QQ:NY}
 {Ji:NX}
 {Jj:NY}
 {Hj:NX}
 {Hk:NY}
 {Jk:NX}
 {Jl:NY}
 {Ez:NX}
 {EY:NY}
 {Jm:NX}
 {Jo:NY}
 {Gf:NX}
 {Gg:NY}
 {QR:NX}
 {QS:NY}
 {Ul:NX}
 {Um:NY}
 {Ku:NX}
 {Kv:NY}
 {Afu:NX}
 {Afv:NY}
 {Afw:NX}
 {Afx:NY}
 {Xf:NX}
 {Xg:NY}
 {Xh:NX}
 {Xi:NY}
 {Uo:NX}
 {Ur:NY}
 {Hl:NX}
 {Hm:NY}
 {Nq:NX}
 {Nr:NY}
 {YZ:NX}
 {Za:NY}
 {Us:NX}
 {Ut:NY}
 {QT:NX}
 {QV:NY}
 {HQ:NX}
 {HR:NY}
 {Oo:NX}
 {Oq:NY}
 {Kw:NX}
 {Ky:NY}
 {Ot:NX}
 {Ou:NY}
 {Uu:NX}
 {Uv:NY}
 {Afy:NX}
 {Afz:NY}
 {Acr:NX}
 {Acs:NY}
 {Af0:NX}
 {Af1:NY}
 {Fb:NX}
 {Fd:NY}
 {QW:NX}
 {QX:NY}
 {QZ:NX}
 {Ra:NY}
 {Kz:NX}
 {K1:NY}
 {Nt:NX}
 {Nu:NY}
 {K3:NX}
 {K4:NY}
 {Ov:NX}
 {Ow:NY}
 {AmT:NX}
 {Acu:NY}
 {Bo:NX}
 {Mi:NX}
 {Mj:NY}
 {Bt:NX}
 {K5:NX}
 {K6:NY}
 {Ar:NX}
 {Gh:NX}
 {Gi:NY}
 {Bc:NX}
 {Hn:NX}
 {Ho:NY}
 {Am:NX}
 {Fe:NX}
 {Ff:NY}
 {Av:NX}
 {Gj:NX}
 {Gk:NY}
 {An:NX}
 {Fg:NX}
 {Fi:NY}
 {Bd:NX}
 {Hq:NX}
 {Hr:NY}
structure Txt (K:NA)(mg:Str->NW)(t:Adr):Prop where
 measured:Df K mg "measured" W9 ["cloth"] t.WT t.WW
 K7:Df K mg "measured_texts" G6 ["texts","least","signs"] t.Hf t.Hg
 Xj:Df K mg "check_pick" Qe ["text","ends","signs"] t.Qz t.Q0
 Rb:Df K mg "check_strand" JL ["number","count"] t.Ke t.Kf
 Zb:Df K mg "end_signs" S5 ["cloth","end"] t.Tu t.Tv
 AmU:Df K mg "woven" Afj ["draft"] t.Afq t.Afr
 Uw:Df K mg "least_draft" Mv ["cloth"] t.MJ t.MK
 Nv:Df K mg "check_setting" Ia ["threading","ties"] t.IK t.IW
 Fj:DfA K mg "check_count_drafts" "check_count" Dv ["count"] t.Dy t.Dz
 Ux:Df K mg "check_shaft" Mw ["shaft"] t.MN t.MP
 Zc:Df K mg "check_tie" S6 ["tie"] t.Tw t.Tz
 K8:Df K mg "check_treading" G7 ["treading","treadles"] t.Hh t.Hi
 Zd:Df K mg "shed_over" S7 ["threading","lifted"] t.T4 t.T5
 Uy:Df K mg "shafts_over" Mx ["threading","text"] t.MT t.Nb
 unlike:Df K mg "unlike" Acf ["things"] t.Acl t.Acm
 Af2:Df K mg "is_name" YD ["text"] t.YK t.YL
 Ze:Df K mg "number_of" S8 ["figures"] t.T6 t.T7
 Acv:Df K mg "unfolded" WD ["text"] t.WY t.Xa
 shown:Df K mg "shown" Afk ["row"] t.Afs t.Aft
 Xk:Df K mg "whole_size" Qf ["row_items"] t.Q3 t.Q4
 Uz:Df K mg "all_numbers" My ["row_items"] t.Nf t.Ng
 Acw:Df K mg "read_row" WL ["text"] t.Xb t.Xc
 Xl:Df K mg "read_items" Qg ["reader","depth"] t.Q5 t.Q6
 Zf:Df K mg "read_item" S9 ["reader","depth"] t.T8 t.T9
 Xm:Df K mg "read_times" Qh ["reader","count","depth"] t.Q7 t.Q8
 Zg:Df K mg "read_path" SJ ["reader","first"] t.TF t.TJ
 Hs:DfA K mg "read_number_rows" "read_number" Ep ["reader"] t.Ex t.Ey
 parted:Df K mg "parted" Acg ["row"] t.Acn t.Aco
 Rf:Df K mg "written_path" JM ["path"] t.Kg t.Kh
 Af3:Df K mg "is_stop" YF ["path","k"] t.YM t.YQ
 Nx:Df K mg "written_draft" Ib ["draft"] t.Ja t.Jb
 Xn:Df K mg "read_draft" Qi ["text"] t.Q9 t.QB
 Rg:Df K mg "overs_within" JN ["cloth","left","first","wide","high"] t.Kl t.Km
 Zh:Df K mg "times_met" SM ["start","length","count","strand"] t.TQ t.TV
 Zi:Df K mg "scores_of" SN ["cloth"] t.TX t.TY
 Af4:Df K mg "tops_of" YG ["cloth"] t.YS t.YT
 Lw:Df K mg "layers_of" SQ ["cloth"] t.Ko t.Bj
 Ny:Df K mg "layer_numbers" Ie ["cloth"] t.Jc t.Jd
 Xo:Df K mg "check_size" Qj ["ends","picks"] t.QC t.QD
 written:Df K mg "written" YH ["word","things"] t.YW t.YX
 Rh:Df K mg "read_pattern" JP ["text","known"] t.Kp t.Kq
 Xp:Df K mg "read_whole" Qk ["text"] t.QF t.QG
 Zj:Df K mg "read_node" SX ["reader","depth"] t.Ua t.Ub
 U0:Df K mg "read_things" Mz ["reader","word","depth"] t.Nh t.Ni
 Zk:Df K mg "read_runs" Tc ["reader"] t.Uc t.Ud
 Acx:Df K mg "read_run" WM ["reader"] t.Xd t.Xe
 Fl:DfA K mg "read_number_reader" "read_number" Dw ["reader"] t.DG t.DK
 Xq:Df K mg "read_comma" Ql ["reader"] t.QH t.QJ
 Xr:Df K mg "worked_out" Qm ["node","known"] t.QK t.QL
 U3:Df K mg "known_cloth" M3 ["name","known"] t.Nj t.Nk
 U4:Df K mg "made_of_two" M4 ["word","one","other"] t.Nm t.Np
 Ht:Df K mg "read_book" JQ ["text"] t.Gb t.Ge
 Zm:Df K mg "read_line" Td ["line","known"] t.Ue t.Ug
 Nz:Df K mg "parting_place" Ig ["line"] t.Je t.Jf
 Zn:Df K mg "check_set" Te ["strands","count"] t.Uh t.Ui
 N5:Df K mg "lower_strands" Ih ["texts"] t.Jg t.Jh
 Ri:Df K mg "lower_within" JR ["lower","strands"] t.Kr t.Ks
 Zo:Df K mg "ways_from" Tf ["lower","start"] t.Uj t.Uk
 Aj9:Df K mg "way_to" Ach ["ahead","goal"] t.Acp t.Acq
 Xu:Df K mg "upper_part" Qo ["lower","strands"] t.QM t.QQ
 N6:Df K mg "measured_half" Ii ["half"] t.Ji t.Jj
 K9:Df K mg "finished_cloth" G8 ["half"] t.Hj t.Hk
 N7:Df K mg "longest_float" Ij ["cloth","strand"] t.Jk t.Jl
 Hu:Df K mg "measured_picture" Es ["picture"] t.Ez t.EY
 N8:Df K mg "check_threads" Ik ["text","count","signs"] t.Jm t.Jo
 Jp:Df K mg "first_colouring" FJ ["picture","warp","weft"] t.Gf t.Gg
 Xv:Df K mg "made_draft" Qp ["picture","warp","weft"] t.QR t.QS
 Zq:Df K mg "shifts_of" Tg ["cloth"] t.Ul t.Um
 Rj:Df K mg "least_across" JS ["cloth","first","y"] t.Ku t.Kv
 stays:Df K mg "stays" Afl ["cloth","x","y"] t.Afu t.Afv
 moved:Df K mg "moved" Afm ["text","x"] t.Afw t.Afx
 Acy:Df K mg "seams_of" WN ["cloth","shuttles"] t.Xf t.Xg
 Acz:Df K mg "tubes_of" WQ ["cloth","shuttles"] t.Xh t.Xi
 Zr:Df K mg "sheets_of" Th ["cloth","shuttles"] t.Uo t.Ur
 KC:Df K mg "check_shuttles" GC ["shuttles","picks"] t.Hl t.Hm
 U5:Df K mg "seams_along" M5 ["thrown"] t.Nq t.Nr
 bearers:Df K mg "bearers" YJ ["bears","number"] t.YZ t.Za
 Zt:Df K mg "round_way" Ti ["cloth","strands"] t.Us t.Ut
 Xw:Df K mg "web_of_set" Qq ["cloth","strands"] t.QT t.QV
 HS:Df K mg "answers_to" CK ["paper"] t.HQ t.HR
 words_of:Df K mg "words_of" Oe ["text"] t.Oo t.Oq
 Lz:Df K mg "answer_to" Tj ["words","book"] t.Kw t.Ky
 answered:Df K mg "answered" Og ["words","book"] t.Ot t.Ou
 Zu:Df K mg "of_a_name" Tn ["word","things","book"] t.Uu t.Uv
 overs:Df K mg "overs" Afn ["things","book"] t.Afy t.Afz
 AjA:Df K mg "sheets" Acj ["things","book"] t.Acr t.Acs
 paint:Df K mg "paint" Afo ["things"] t.Af0 t.Af1
 Hv:DfA K mg "check_count_desk" "check_count" Et ["fits"] t.Fb t.Fd
 Xx:Df K mg "check_name" Qs ["word"] t.QW t.QX
 Xy:Df K mg "far_number" Qt ["word"] t.QZ t.Ra
 Rk:Df K mg "whole_number" JT ["word"] t.Kz t.K1
 Gm:Df K mg "_law_refused" Ax ["cell"] t.Nt t.Nu
 Ej:Df K mg "_law_answered" Ao ["cell"] t.K3 t.K4
 Rm:Df K mg "_law_line" WR ["cell"] t.Ov t.Ow
 law:Df K mg "law" AmS ["script"] t.AmT t.Acu
 Ars:mg "abs"=none
 Art:mg "all"=none
 Aru:mg "any"=none
 Ac0:mg "enumerate"=none
 Arv:mg "int"=none
 Rn:mg "isinstance"=none
 Af5:mg "len"=none
 AjB:mg "list"=none
 Arw:mg "max"=none
 Arx:mg "min"=none
 Af6:mg "range"=none
 AdZ:mg "reversed"=none
 Ary:mg "set"=none
 AjC:mg "sorted"=none
 Arz:mg "str"=none
 Ar0:mg "sum"=none
 Amd:mg "tuple"=none
 Ar1:mg "zip"=none
 Xz:∃tk,mg "MOST_STRANDS"=some (.int 40 tk)
 Yb:∃tk,mg "MOST_SHAFTS"=some (.int 40 tk)
 Ahh:∃tk,mg "LETTERS"=some (.str "abcdefghijklmnopqrstuvwxyz" tk)
 X3:∃tk,mg "MOST_LETTERS"=some (.int 20 tk)
 Ahi:∃tk,mg "FIGURES"=some (.str "0123456789" tk)
 X4:∃tk,mg "MOST_NUMBERS"=some (.int 400 tk)
 RJ:∃tk,mg "MOST_DEEP_rows"=some (.int 8 tk)
 UG:∃tk,mg "BETWEEN_PARTS"=some (.str " / " tk)
 X5:∃tk,mg "BETWEEN_TIES"=some (.str ", " tk)
 Ox:∃tk,mg "MOST_DEEP_reader"=some (.int 12 tk)
 Ac1:∃tk,mg "MOST_RUNS"=some (.int 40 tk)
 Ahj:∃tk,mg "COLOURS"=some (.str "abcdef" tk)
 Aea:∃tk,mg "SHUTTLES"=some (.int 8 tk)
 X6:∃tk,mg "MOST_FIGURES"=some (.int 60 tk)
 BK:mg "WeaveError"=some (.ref t.Bo)
 BL:Exn K t.Bo
 Ame:Mf K "called" "WeaveError.called" Ma ["self"] t.Bo t.Mi t.Mj
 Amf:mg "NoRow"=some (.ref t.Bt)
 Aa8:Exn K t.Bt
 Aa9:Mf K "called" "NoRow.called" JV ["self"] t.Bt t.K5 t.K6
 Oz:W.mroIn K t.Bt (.ref t.Bo)=some true
 AjW:W.mroIn K t.Bt (.ref t.Bt)=some true
 Ahk:W.mroIn K t.Bt (.ref t.Ar)=some false
 Ahu:W.mroIn K t.Bt (.ref t.Bc)=some false
 Af7:W.mroIn K t.Bt (.ref t.Am)=some false
 Ahl:W.mroIn K t.Bt (.ref t.Av)=some false
 Af8:W.mroIn K t.Bt (.ref t.An)=some false
 Ahv:W.mroIn K t.Bt (.ref t.Bd)=some false
 Aeb:mg "TooLarge"=some (.ref t.Ar)
 O1:Exn K t.Ar
 O2:Mf K "called" "TooLarge.called" FN ["self"] t.Ar t.Gh t.Gi
 Js:W.mroIn K t.Ar (.ref t.Bo)=some true
 Ahm:W.mroIn K t.Ar (.ref t.Bt)=some false
 AcM:W.mroIn K t.Ar (.ref t.Ar)=some true
 Aec:W.mroIn K t.Ar (.ref t.Bc)=some false
 Ac2:W.mroIn K t.Ar (.ref t.Am)=some false
 AcN:W.mroIn K t.Ar (.ref t.Av)=some false
 Ac3:W.mroIn K t.Ar (.ref t.An)=some false
 Aed:W.mroIn K t.Ar (.ref t.Bd)=some false
 Ahn:mg "NoCloth"=some (.ref t.Bc)
 RK:Exn K t.Bc
 RL:Mf K "called" "NoCloth.called" GD ["self"] t.Bc t.Hn t.Ho
 KD:W.mroIn K t.Bc (.ref t.Bo)=some true
 Ahw:W.mroIn K t.Bc (.ref t.Bt)=some false
 Aee:W.mroIn K t.Bc (.ref t.Ar)=some false
 Af9:W.mroIn K t.Bc (.ref t.Bc)=some true
 AcO:W.mroIn K t.Bc (.ref t.Am)=some false
 Aef:W.mroIn K t.Bc (.ref t.Av)=some false
 AcP:W.mroIn K t.Bc (.ref t.An)=some false
 AfA:W.mroIn K t.Bc (.ref t.Bd)=some false
 Ac4:mg "NoShuttle"=some (.ref t.Am)
 KH:Exn K t.Am
 KJ:Mf K "called" "NoShuttle.called" Eu ["self"] t.Am t.Fe t.Ff
 HW:W.mroIn K t.Am (.ref t.Bo)=some true
 AfB:W.mroIn K t.Am (.ref t.Bt)=some false
 Ac5:W.mroIn K t.Am (.ref t.Ar)=some false
 AcQ:W.mroIn K t.Am (.ref t.Bc)=some false
 AaK:W.mroIn K t.Am (.ref t.Am)=some true
 Ac6:W.mroIn K t.Am (.ref t.Av)=some false
 AaL:W.mroIn K t.Am (.ref t.An)=some false
 AcR:W.mroIn K t.Am (.ref t.Bd)=some false
 Aeg:mg "NoColour"=some (.ref t.Av)
 O3:Exn K t.Av
 O4:Mf K "called" "NoColour.called" FP ["self"] t.Av t.Gj t.Gk
 Jt:W.mroIn K t.Av (.ref t.Bo)=some true
 Aho:W.mroIn K t.Av (.ref t.Bt)=some false
 AcS:W.mroIn K t.Av (.ref t.Ar)=some false
 Aeh:W.mroIn K t.Av (.ref t.Bc)=some false
 Ac7:W.mroIn K t.Av (.ref t.Am)=some false
 AcT:W.mroIn K t.Av (.ref t.Av)=some true
 Ac8:W.mroIn K t.Av (.ref t.An)=some false
 Aei:W.mroIn K t.Av (.ref t.Bd)=some false
 Ac9:mg "NoPattern"=some (.ref t.An)
 KN:Exn K t.An
 KQ:Mf K "called" "NoPattern.called" Ew ["self"] t.An t.Fg t.Fi
 HX:W.mroIn K t.An (.ref t.Bo)=some true
 AfC:W.mroIn K t.An (.ref t.Bt)=some false
 AcA:W.mroIn K t.An (.ref t.Ar)=some false
 AcU:W.mroIn K t.An (.ref t.Bc)=some false
 AaM:W.mroIn K t.An (.ref t.Am)=some false
 AcB:W.mroIn K t.An (.ref t.Av)=some false
 AaN:W.mroIn K t.An (.ref t.An)=some true
 AcV:W.mroIn K t.An (.ref t.Bd)=some false
 Ahp:mg "Unknown"=some (.ref t.Bd)
 LC:Exn K t.Bd
 Hw:Mf K "called" "Unknown.called" GF ["self"] t.Bd t.Hq t.Hr
 KR:W.mroIn K t.Bd (.ref t.Bo)=some true
 Ahx:W.mroIn K t.Bd (.ref t.Bt)=some false
 Aej:W.mroIn K t.Bd (.ref t.Ar)=some false
 AfD:W.mroIn K t.Bd (.ref t.Bc)=some false
 AcW:W.mroIn K t.Bd (.ref t.Am)=some false
 Aek:W.mroIn K t.Bd (.ref t.Av)=some false
 AcX:W.mroIn K t.Bd (.ref t.An)=some false
 AfE:W.mroIn K t.Bd (.ref t.Bd)=some true
 Amg:mg "Draft"=some (.ref t.HJ)
 Vs:L2.Own K t.HJ t.Dg
 O5:Bp K t.HJ "threading"
 Yc:Bp K t.HJ "ties"
 Ro:Bp K t.HJ "treading"
 AjD:mg "Reader"=some (.ref t.Cr)
 Fo:L2.Own K t.Cr t.CP
 X7:Bp K t.Cr "text"
 UJ:Bp K t.Cr "place"
 Ap4:mg "Path"=some (.ref t.Ol)
 AaA:L2.Own K t.Ol t.DR
 Yd:Bp K t.Ol "stops"
 Amh:mg "Times"=some (.ref t.FT)
 Rp:L2.Own K t.FT t.Dh
 X8:Bp K t.FT "count"
 XC:Bp K t.FT "inner"
 Ami:mg "Piece"=some (.ref t.FW)
 Vt:L2.Own K t.FW t.Ce
 XD:Bp K t.FW "texts"
 RM:Bp K t.FW "writing"
 Ap5:mg "Rows"=some (.ref t.Om)
 AaB:L2.Own K t.Om t.DW
 Ye:Bp K t.Om "texts"
 UL:Bp K t.Om "writing"
 Yg:Meth K t.Om "cloth" t.Dl
 Amj:mg "Twill"=some (.ref t.HN)
 Vu:L2.Own K t.HN t.Di
 XF:Bp K t.HN "texts"
 RN:Bp K t.HN "writing"
 XH:Meth K t.HN "cloth" t.Dl
 AjE:AkI K t.FW "__init__" t.Ce
 Amk:mg "WORDS"=some (.ref t.Afp)
 Aml:Aok K t.Afp (["rows","twill","satin","beside","above","mirror","upend","back","quarter","tile","blocks","lay"]:NU)
 Rq:mg "ASKED_OF_A_NAME"=some (.ref t.FZ)
 Rr:Aok K t.FZ (["cloth","layers","draft","shifts","floats"]:NU)
 AjF:mg "THINGS"=some (.ref t.Ack)
 AjG:Top K t.Ack ([("twill","nn"),("satin","nn"),("beside","pp"),("above","pp"),("mirror","p"),("upend","p"),("back","p"),("quarter","p"),("tile","pnn"),("blocks","ppp"),("lay","pp")]:List (Str×Str))
 RQ:Mf K "__init__" "Draft.__init__" GJ ["self","threading","ties","treading"] t.HJ t.Dg t.GX
 Rt:Mf K "__init__" "Reader.__init__" FQ ["self","text"] t.Cr t.CP t.Ga
 KY:Mf K "ended" "Reader.ended" JW ["self"] t.Cr t.JZ t.Ka
 NB:Mf K "took" "Reader.took" M6 ["self","wanted"] t.Cr t.M8 t.M9
 Hx:Mf K "stretch" "Reader.stretch" GK ["self","signs"] t.Cr t.GZ t.Ha
 Jq:Mf K "number" "Reader.number" Il ["self"] t.Cr t.Ir t.Iu
 UT:Mf K "__init__" "Path.__init__" Im ["self","stops"] t.Ol t.DR t.Iv
 U6:Mf K "size" "Path.size" Tp ["self"] t.Ol t.Tq t.Tr
 KZ:Mf K "numbers" "Path.numbers" JX ["self"] t.Ol t.Kc t.Kd
 RT:Mf K "__init__" "Times.__init__" GP ["self","count","inner"] t.FT t.Dh t.Hb
 Ru:Mf K "size" "Times.size" Qw ["self"] t.FT t.Qx t.Qy
 Jr:Mf K "numbers" "Times.numbers" Io ["self"] t.FT t.Iw t.Iz
 RW:Mf K "__init__" "Piece.__init__" GQ ["self","texts","writing"] t.FW t.Ce t.Hc
 NK:Mf K "cloth" "Piece.cloth" M7 ["self"] t.FW t.Dl t.MF
 UW:Mf K "__init__" "Rows.__init__" Ip ["self","runs"] t.Om t.DW t.I9
 RX:Mf K "__init__" "Twill.__init__" GR ["self","over","under"] t.HN t.Di t.Hd
theorem bl1{fd:NY}(h:∀a:Nd,bindArgs fd ⟨[a],[]⟩=pure (ps.zip [a]))(us:NR)(c:us.length=1):bindArgs fd ⟨us,[]⟩=pure (ps.zip us):=by
 rcases us with _|⟨a,us⟩
 ·cases c
 rcases us with _|⟨b,us⟩
 ·exact h a
 ·cases c
theorem bl2{fd:NY}(h:∀c a:Nd,bindArgs fd ⟨[c,a],[]⟩=pure (ps.zip [c,a]))(us:NR)(d:us.length=2):bindArgs fd ⟨us,[]⟩=pure (ps.zip us):=by
 rcases us with _|⟨c,us⟩
 ·cases d
 rcases us with _|⟨a,us⟩
 ·cases d
 rcases us with _|⟨b,us⟩
 ·exact h c a
 ·cases d
theorem bl3{fd:NY}(h:∀e c a:Nd,bindArgs fd ⟨[e,c,a],[]⟩=pure (ps.zip [e,c,a]))(us:NR)(d:us.length=3):bindArgs fd ⟨us,[]⟩=pure (ps.zip us):=by
 rcases us with _|⟨e,us⟩
 ·cases d
 rcases us with _|⟨c,us⟩
 ·cases d
 rcases us with _|⟨a,us⟩
 ·cases d
 rcases us with _|⟨b,us⟩
 ·exact h e c a
 ·cases d
theorem bl4{fd:NY}(h:∀f d c e:Nd,bindArgs fd ⟨[f,d,c,e],[]⟩=pure (ps.zip [f,d,c,e]))(us:NR)(a:us.length=4):bindArgs fd ⟨us,[]⟩=pure (ps.zip us):=by
 rcases us with _|⟨f,us⟩
 ·cases a
 rcases us with _|⟨d,us⟩
 ·cases a
 rcases us with _|⟨c,us⟩
 ·cases a
 rcases us with _|⟨e,us⟩
 ·cases a
 rcases us with _|⟨b,us⟩
 ·exact h f d c e
 ·cases a
theorem bl5{fd:NY}(h:∀i d c e f:Nd,bindArgs fd ⟨[i,d,c,e,f],[]⟩=pure (ps.zip [i,d,c,e,f]))(us:NR)(a:us.length=5):bindArgs fd ⟨us,[]⟩=pure (ps.zip us):=by
 rcases us with _|⟨i,us⟩
 ·cases a
 rcases us with _|⟨d,us⟩
 ·cases a
 rcases us with _|⟨c,us⟩
 ·cases a
 rcases us with _|⟨e,us⟩
 ·cases a
 rcases us with _|⟨f,us⟩
 ·cases a
 rcases us with _|⟨b,us⟩
 ·exact h i d c e f
 ·cases a
section
variable {P:Program}{w:World}{K:NA}{mg:Str->NW}{base:Heap}{t:Adr}
inductive Dj (z:Str)(vs:Nn)(H:Hp)(Q:VK)(z3:XK):Prop
|mk(v:_)(_:vs=[v])(_:Q (.str z) H)
theorem RZ(T:Txt K mg t):PJ P w K mg base t.K5 t.K6 ["self"] (Dj "NoRow"):=
 T.Aa9.F.okH U9 (λvs H Q E h=>by obtain⟨v,rfl,_⟩:=h;rfl) λa A outer s H vs Q E h=>by
  obtain⟨v,rfl,k⟩:=h;exact⟨_,Aq (By Be),k⟩
theorem Ml(T:Txt K mg t):PJ P w K mg base t.Gh t.Gi ["self"] (Dj "TooLarge"):=
 T.O2.F.okH Oi (λvs H Q E h=>by obtain⟨v,rfl,_⟩:=h;rfl) λa A outer s H vs Q E h=>by
  obtain⟨v,rfl,k⟩:=h;exact⟨_,Aq (By Be),k⟩
theorem O6(T:Txt K mg t):PJ P w K mg base t.Hn t.Ho ["self"] (Dj "NoCloth"):=
 T.RL.F.okH Qu (λvs H Q E h=>by obtain⟨v,rfl,_⟩:=h;rfl) λa A outer s H vs Q E h=>by
  obtain⟨v,rfl,k⟩:=h;exact⟨_,Aq (By Be),k⟩
theorem La(T:Txt K mg t):PJ P w K mg base t.Fe t.Ff ["self"] (Dj "NoShuttle"):=
 T.KJ.F.okH Mg (λvs H Q E h=>by obtain⟨v,rfl,_⟩:=h;rfl) λa A outer s H vs Q E h=>by
  obtain⟨v,rfl,k⟩:=h;exact⟨_,Aq (By Be),k⟩
theorem Mm(T:Txt K mg t):PJ P w K mg base t.Gj t.Gk ["self"] (Dj "NoColour"):=
 T.O4.F.okH Oj (λvs H Q E h=>by obtain⟨v,rfl,_⟩:=h;rfl) λa A outer s H vs Q E h=>by
  obtain⟨v,rfl,k⟩:=h;exact⟨_,Aq (By Be),k⟩
theorem Lb(T:Txt K mg t):PJ P w K mg base t.Fg t.Fi ["self"] (Dj "NoPattern"):=
 T.KQ.F.okH Mh (λvs H Q E h=>by obtain⟨v,rfl,_⟩:=h;rfl) λa A outer s H vs Q E h=>by
  obtain⟨v,rfl,k⟩:=h;exact⟨_,Aq (By Be),k⟩
theorem Fp(T:Txt K mg t):PJ P w K mg base t.Hq t.Hr ["self"] (Dj "Unknown"):=
 T.Hw.F.okH Qv (λvs H Q E h=>by obtain⟨v,rfl,_⟩:=h;rfl) λa A outer s H vs Q E h=>by
  obtain⟨v,rfl,k⟩:=h;exact⟨_,Aq (By Be),k⟩
end
end Mine
namespace IV
open PySem PySem.Spec PyProof.Rows L2
def All {α:Type}(p:α->Prop):List α->Prop
 |[]=>True
 |a::l=>p a/\All p l
theorem All.mem{α:Type}{p:α->Prop}:∀{l:List α} {a:α},All p l->a∈l->p a
 |_::_,_,h,m=>(zZ.mp m).elim (λe=>e▸h.1) (All.mem h.2)
def GOk (c:Ct)(fa:Nat->NX)(p:Str×GV):Prop:=match p.2 with
 | .val v=>∃u,c.mg p.1=some u/\RelV v u
 | .tup xs=>∃a,c.mg p.1=some (.ref a)/\∀H,SqT c.K H a xs
 | .tab D=>∃a,c.mg p.1=some (.ref a)/\Top c.K a D
 | .fn d=>c.mg p.1=some (.ref (fa d))
 | .cls k=>c.mg p.1=some (.ref (c.Cs k))
 | .exc k=>c.mg p.1=some (.ref (c.Xs k))/\W.excIn c.K (c.Xs k) vE vN=true
def DOk (c:Ct)(D:Dd)(p:NX×NY):Prop:=(∃x q,Fun c.K x q D.st p.1 p.2/\(D.lam=true->p.2.code=.ref c.tc/\q ++ ".<locals>." ++ "<lambda>"=c.tq))/\Binds c.K p.2 (dP D.st) []
def AjH (c:Ct):List Dd->List (NX×NY)->Prop
 |D::l,p::m=>DOk c D p/\AjH c l m
 |[],_=>True
 |_,[]=>False
theorem AjH.get{c:Ct}:∀{l:List Dd} {m:List (NX×NY)} {d:Nat} {D:Dd},AjH c l m->l[d]?=some D->∃p,m[d]?=some p/\DOk c D p
 |[],_,_,_,_,e=>by simp at e
 |_::_,[],_,_,h,_=>h.elim
 |D::l,p::m,0,_,h,e=>by simp at e;subst e;exact⟨p,Z,h.1⟩
 |D::l,p::m,d+1,_,h,e=>by simpa using AjH.get (d:=d) h.2 (by simpa using e)
def Zv (D:Dd):Bool:=decide ((Ac D.st).kind=.function) && !(Ac D.st).isCoroutine && !(Ac D.st).isGenerator && decide (dN D.st).Nodup && decide ((dN D.st).take (dP D.st).length=dP D.st) &&
 ((dP D.st).all λx=>decide ((Ac D.st).names.lookup x=some .local) ||decide ((Ac D.st).names.lookup x=some .cell)) && ((Ac D.st).names.all λy=>decide (y.2≠.free))
theorem AfF{D:Dd}(h:Zv D=true):Bf (dN D.st) (dP D.st) (Ac D.st):=by unfold Zv at h;simp only [Ata,decide_eq_true_eq,At7,Atp,AtO]at h;obtain⟨⟨⟨⟨⟨⟨h1,h2⟩,b⟩,c⟩,d⟩,e⟩,a⟩:=h;exact⟨h1,h2,b,c,d,e,a⟩
def AjI (x:Str):Bool:=match bootBuiltins x with
 |some (.builtin _)=>true
 |some (.type _)=>true
 |_=>false
def Ap6 (T:Tt):Bool:=(T.defs.all Zv) && (T.glob.all λp=>match p.2 with
  | .fn d=>(T.defs[d]?).isSome
  |_=>true) && (T.init.all λd=>(T.defs[d]?).isSome) && (T.meth.all λq=>(T.defs[q.2.2]?).isSome) && T.blt.all AjI
theorem Ap7{c:Ct}{T:Tt}{fs:List (NX×NY)}{fa:Nat->NX}{fd:Nat->NY}(z:∀d p,fs[d]?=some p->fa d=p.1/\fd d=p.2)(r:Ap6 T=true)(g:All (GOk c fa) T.glob)(ds:AjH c T.defs fs)
  (o:∀k d,T.init[k]?=some d->Mk c.K (c.Cs k) (fa d)) (C:∀k d,T.init[k]?=some d->T.cfs.contains k=true->AkI c.K (c.Cs k) "__init__" (fa d))
  (n:All (λq:Nat×Str×Nat=>Cls c.K (c.Cs q.1)/\Meth c.K (c.Cs q.1) q.2.1 (fa q.2.2)) T.meth) (fld:All (λq:Nat×Str=>Cls c.K (c.Cs q.1)/\Bp c.K (c.Cs q.1) q.2) T.Ajm)
  (u:All (λx=>c.mg x=none) T.blt) (B:Bm c.mg c.base) (y:W.CodeHd c.base c.tc c.tT):COk c T fa fd:=by
 unfold Ap6 at r;simp only [Ata,Atp]at r;obtain⟨⟨⟨⟨k1,k2⟩,k3⟩,A⟩,k5⟩:=r;have i:∀{x v},T.glob.lookup x=some v->GOk c fa (x,v):=λh=>g.mem (zP h);refine⟨λx v h=>i h,λx v h=>i h,λx v h=>i h,λx d h=>⟨i h,k2 _ (zP h)⟩,λx v h=>i h,λx v h=>i h,λd D h=>?_,λk d h=>⟨o k d h,k3 d (Ato h)⟩,C,λk m d h=>?_,λk f h=>?_,λx h=>?_,λx h=>?_,B,y⟩
 ·obtain⟨p,j,h1,h2⟩:=ds.get h;obtain⟨e1,s⟩:=z d p j;rw[e1,s];exact⟨h1,h2,AfF (k1 D (Ato h))⟩
 ·unfold Aaz at h;cases l:T.meth.find? (λq=>q.1 == k && decide (q.2.1=m)) with
  |none=>rw[l]at h;cases h
  |some q =>
   rw[l]at h;cases h;have w:=List.mem_of_find?_eq_some l;have j:=List.find?_some l;rw[Ata]at j;have e1:q.1=k:=eq_of_beq j.1;have s:q.2.1=m:=yF j.2;obtain⟨a,b⟩:=n.mem w;rw[<-e1,<-s];exact⟨a,b,A q w⟩
 ·exact fld.mem (by simpa using h)
 ·exact u.mem (by simpa using h)
 ·have:=k5 x (by simpa using h);unfold AjI at this;split at this
  ·next id e=>exact⟨_,e,.inl ⟨id,Z⟩⟩
  ·next t e=>exact⟨_,e,.inr ⟨t,Z⟩⟩
  ·cases this
section
variable {c:Ct}{fa:Nat->NX}{x y qn:Str}{st:Nl}{f C:NX}{fd:NY}
theorem dk(h:Df c.K c.mg x st (dP st) f fd):DOk c ⟨st,false⟩ (f,fd):=⟨⟨_,_,h.F,nofun⟩,h.b⟩
theorem dkA(h:DfA c.K c.mg x y st (dP st) f fd):DOk c ⟨st,false⟩ (f,fd):=⟨⟨_,_,h.F,nofun⟩,h.b⟩
theorem dkM(h:Mf c.K x qn st (dP st) C f fd):DOk c ⟨st,false⟩ (f,fd):=⟨⟨_,_,h.F,nofun⟩,h.b⟩
theorem gI{i:Int}(h:∃tk,c.mg x=some (.int i tk)):GOk c fa (x,.val (.int i)):=by obtain⟨tk,h⟩:=h;exact⟨_,h,tk,Z⟩
theorem gS{s:Str}(h:∃tk,c.mg x=some (.str s tk)):GOk c fa (x,.val (.str s)):=by obtain⟨tk,h⟩:=h;exact⟨_,h,tk,Z⟩
end
end IV
namespace Mine
open PySem L2 IV
def q (s:String)(g:GV):Str×GV:=(Str.ofString s,g)
def tt:Tt:={
 defs:=[⟨W9,false⟩,⟨G6,false⟩,⟨Qe,false⟩,⟨JL,false⟩,⟨S5,false⟩,⟨GJ,false⟩,⟨Afj,false⟩,⟨Mv,false⟩,⟨Ia,false⟩,⟨Dv,false⟩,⟨Mw,false⟩,⟨S6,false⟩,⟨G7,false⟩,⟨S7,false⟩,⟨Mx,false⟩,⟨Acf,false⟩,⟨YD,false⟩,⟨FQ,false⟩,⟨JW,false⟩,⟨M6,false⟩,⟨GK,false⟩,⟨Il,false⟩,⟨S8,false⟩,⟨Im,false⟩,⟨Tp,false⟩,⟨JX,false⟩,⟨GP,false⟩,⟨Qw,false⟩,⟨Io,false⟩,⟨WD,false⟩,⟨Afk,false⟩,⟨Qf,false⟩,⟨My,false⟩,⟨WL,false⟩,⟨Qg,false⟩,⟨S9,false⟩,⟨Qh,false⟩,⟨SJ,false⟩,⟨Ep,false⟩,⟨Acg,false⟩,⟨JM,false⟩,⟨YF,false⟩,⟨Ib,false⟩,⟨Qi,false⟩,⟨JN,false⟩,⟨SM,false⟩,⟨SN,false⟩,⟨YG,false⟩,⟨SQ,true⟩,⟨Ie,false⟩,⟨GQ,false⟩,⟨M7,false⟩,⟨Ip,false⟩,⟨GR,false⟩,⟨Qj,false⟩,⟨YH,false⟩,⟨JP,false⟩,⟨Qk,false⟩,⟨SX,false⟩,⟨Mz,false⟩,⟨Tc,false⟩,⟨WM,false⟩,⟨Dw,false⟩,⟨Ql,false⟩,⟨Qm,false⟩,⟨M3,false⟩,⟨M4,false⟩,⟨JQ,false⟩,⟨Td,false⟩,⟨Ig,false⟩,⟨Te,false⟩,⟨Ih,false⟩,⟨JR,false⟩,⟨Tf,false⟩,⟨Ach,false⟩,⟨Qo,false⟩,⟨Ii,false⟩,⟨G8,false⟩,⟨Ij,false⟩,⟨Es,false⟩,⟨Ik,false⟩,⟨FJ,false⟩,⟨Qp,false⟩,⟨Tg,false⟩,⟨JS,false⟩,⟨Afl,false⟩,⟨Afm,false⟩,⟨WN,false⟩,⟨WQ,false⟩,⟨Th,false⟩,⟨GC,false⟩,⟨M5,false⟩,⟨YJ,false⟩,⟨Ti,false⟩,⟨Qq,false⟩,⟨Og,false⟩,⟨Tn,false⟩,⟨Afn,false⟩,⟨Acj,false⟩,⟨Afo,false⟩,⟨Et,false⟩,⟨Qs,false⟩,⟨Qt,false⟩,⟨JT,false⟩],
 glob:=[q "MOST_STRANDS" (.val (.int 40)),q "MOST_SHAFTS" (.val (.int 40)),q "LETTERS" (.val (.str "abcdefghijklmnopqrstuvwxyz")),q "MOST_LETTERS" (.val (.int 20)),q "WORDS" (.tup [.str "rows",.str "twill",.str "satin",.str "beside",.str "above",.str "mirror",.str "upend",.str "back",.str "quarter",.str "tile",.str "blocks",.str "lay"]),q "FIGURES" (.val (.str "0123456789")),q "MOST_NUMBERS" (.val (.int 400)),q "MOST_DEEP_rows" (.val (.int 8)),q "BETWEEN_PARTS" (.val (.str " / ")),q "BETWEEN_TIES" (.val (.str ", ")),q "MOST_DEEP_reader" (.val (.int 12)),q "MOST_RUNS" (.val (.int 40)),q "THINGS" (.tab [("twill","nn"),("satin","nn"),("beside","pp"),("above","pp"),("mirror","p"),("upend","p"),("back","p"),("quarter","p"),("tile","pnn"),("blocks","ppp"),("lay","pp")]),q "COLOURS" (.val (.str "abcdef")),q "SHUTTLES" (.val (.int 8)),q "MOST_FIGURES" (.val (.int 60)),q "ASKED_OF_A_NAME" (.tup [.str "cloth",.str "layers",.str "draft",.str "shifts",.str "floats"]),q "measured" (.fn 0),q "measured_texts" (.fn 1),q "check_pick" (.fn 2),q "check_strand" (.fn 3),q "end_signs" (.fn 4),q "woven" (.fn 6),q "least_draft" (.fn 7),q "check_setting" (.fn 8),q "check_count_drafts" (.fn 9),q "check_shaft" (.fn 10),q "check_tie" (.fn 11),q "check_treading" (.fn 12),q "shed_over" (.fn 13),q "shafts_over" (.fn 14),q "unlike" (.fn 15),q "is_name" (.fn 16),q "number_of" (.fn 22),q "unfolded" (.fn 29),q "shown" (.fn 30),q "whole_size" (.fn 31),q "all_numbers" (.fn 32),q "read_row" (.fn 33),q "read_items" (.fn 34),q "read_item" (.fn 35),q "read_times" (.fn 36),q "read_path" (.fn 37),q "read_number_rows" (.fn 38),q "parted" (.fn 39),q "written_path" (.fn 40),q "is_stop" (.fn 41),q "written_draft" (.fn 42),q "read_draft" (.fn 43),q "overs_within" (.fn 44),q "times_met" (.fn 45),q "scores_of" (.fn 46),q "tops_of" (.fn 47),q "layers_of" (.fn 48),q "layer_numbers" (.fn 49),q "check_size" (.fn 54),q "written" (.fn 55),q "read_pattern" (.fn 56),q "read_whole" (.fn 57),q "read_node" (.fn 58),q "read_things" (.fn 59),q "read_runs" (.fn 60),q "read_run" (.fn 61),q "read_number_reader" (.fn 62),q "read_comma" (.fn 63),q "worked_out" (.fn 64),q "known_cloth" (.fn 65),q "made_of_two" (.fn 66),q "read_book" (.fn 67),q "read_line" (.fn 68),q "parting_place" (.fn 69),q "check_set" (.fn 70),q "lower_strands" (.fn 71),q "lower_within" (.fn 72),q "ways_from" (.fn 73),q "way_to" (.fn 74),q "upper_part" (.fn 75),q "measured_half" (.fn 76),q "finished_cloth" (.fn 77),q "longest_float" (.fn 78),q "measured_picture" (.fn 79),q "check_threads" (.fn 80),q "first_colouring" (.fn 81),q "made_draft" (.fn 82),q "shifts_of" (.fn 83),q "least_across" (.fn 84),q "stays" (.fn 85),q "moved" (.fn 86),q "seams_of" (.fn 87),q "tubes_of" (.fn 88),q "sheets_of" (.fn 89),q "check_shuttles" (.fn 90),q "seams_along" (.fn 91),q "bearers" (.fn 92),q "round_way" (.fn 93),q "web_of_set" (.fn 94),q "answered" (.fn 95),q "of_a_name" (.fn 96),q "overs" (.fn 97),q "sheets" (.fn 98),q "paint" (.fn 99),q "check_count_desk" (.fn 100),q "check_name" (.fn 101),q "far_number" (.fn 102),q "whole_number" (.fn 103),q "Draft" (.cls 0),q "Reader" (.cls 1),q "Path" (.cls 2),q "Times" (.cls 3),q "Piece" (.cls 4),q "Rows" (.cls 5),q "Twill" (.cls 6),q "NoRow" (.exc 0),q "TooLarge" (.exc 1),q "NoCloth" (.exc 2),q "NoShuttle" (.exc 3),q "NoColour" (.exc 4),q "NoPattern" (.exc 5),q "Unknown" (.exc 6)],
 init:=[5,17,23,26,50,52,53],
 meth:=[(1,"ended",18),(1,"number",21),(1,"stretch",20),(1,"took",19),(2,"numbers",25),(2,"size",24),(3,"numbers",28),(3,"size",27),(4,"cloth",51),(5,"cloth",51),(6,"cloth",51)],
 Ajm:=[(0,"threading"),(0,"ties"),(0,"treading"),(1,"text"),(1,"place"),(2,"stops"),(3,"count"),(3,"inner"),(4,"texts"),(4,"writing"),(5,"texts"),(5,"writing"),(6,"texts"),(6,"writing")],
 cfs:=[4],
 blt:=["len","abs","sum","any","all","int","str","list","max","min","sorted","range","isinstance","set","reversed","zip","enumerate","tuple"]}
def fs (t:Adr):List (NX×NY):=[(t.WT,t.WW),(t.Hf,t.Hg),(t.Qz,t.Q0),(t.Ke,t.Kf),(t.Tu,t.Tv),(t.Dg,t.GX),(t.Afq,t.Afr),(t.MJ,t.MK),(t.IK,t.IW),(t.Dy,t.Dz),(t.MN,t.MP),(t.Tw,t.Tz),(t.Hh,t.Hi),(t.T4,t.T5),(t.MT,t.Nb),(t.Acl,t.Acm),(t.YK,t.YL),(t.CP,t.Ga),(t.JZ,t.Ka),(t.M8,t.M9),(t.GZ,t.Ha),(t.Ir,t.Iu),(t.T6,t.T7),(t.DR,t.Iv),(t.Tq,t.Tr),(t.Kc,t.Kd),(t.Dh,t.Hb),(t.Qx,t.Qy),(t.Iw,t.Iz),(t.WY,t.Xa),(t.Afs,t.Aft),(t.Q3,t.Q4),(t.Nf,t.Ng),(t.Xb,t.Xc),(t.Q5,t.Q6),(t.T8,t.T9),(t.Q7,t.Q8),(t.TF,t.TJ),(t.Ex,t.Ey),(t.Acn,t.Aco),(t.Kg,t.Kh),(t.YM,t.YQ),(t.Ja,t.Jb),(t.Q9,t.QB),(t.Kl,t.Km),(t.TQ,t.TV),(t.TX,t.TY),(t.YS,t.YT),(t.Ko,t.Bj),(t.Jc,t.Jd),(t.Ce,t.Hc),(t.Dl,t.MF),(t.DW,t.I9),(t.Di,t.Hd),(t.QC,t.QD),(t.YW,t.YX),(t.Kp,t.Kq),(t.QF,t.QG),(t.Ua,t.Ub),(t.Nh,t.Ni),(t.Uc,t.Ud),(t.Xd,t.Xe),(t.DG,t.DK),(t.QH,t.QJ),(t.QK,t.QL),(t.Nj,t.Nk),(t.Nm,t.Np),(t.Gb,t.Ge),(t.Ue,t.Ug),(t.Je,t.Jf),(t.Uh,t.Ui),(t.Jg,t.Jh),(t.Kr,t.Ks),(t.Uj,t.Uk),(t.Acp,t.Acq),(t.QM,t.QQ),(t.Ji,t.Jj),(t.Hj,t.Hk),(t.Jk,t.Jl),(t.Ez,t.EY),(t.Jm,t.Jo),(t.Gf,t.Gg),(t.QR,t.QS),(t.Ul,t.Um),(t.Ku,t.Kv),(t.Afu,t.Afv),(t.Afw,t.Afx),(t.Xf,t.Xg),(t.Xh,t.Xi),(t.Uo,t.Ur),(t.Hl,t.Hm),(t.Nq,t.Nr),(t.YZ,t.Za),(t.Us,t.Ut),(t.QT,t.QV),(t.Ot,t.Ou),(t.Uu,t.Uv),(t.Afy,t.Afz),(t.Acr,t.Acs),(t.Af0,t.Af1),(t.Fb,t.Fd),(t.QW,t.QX),(t.QZ,t.Ra),(t.Kz,t.K1)]
def fa (t:Adr)(d:Nat):Addr:=((fs t).getD d (0,t.Acu)).1
def fd (t:Adr)(d:Nat):FuncData:=((fs t).getD d (0,t.Acu)).2
def ct (P:Program)(w:World)(K:NA)(mg:Str->NW)(base:Heap)(t:Adr)(tc tT:NX):Ct:=⟨P,w,K,mg,base,λk=>([t.HJ,t.Cr,t.Ol,t.FT,t.FW,t.Om,t.HN]:NO).getD k 0,λk=>([t.Bt,t.Ar,t.Bc,t.Am,t.Av,t.An,t.Bd]:NO).getD k 0,tT,"layers_of.<locals>.<lambda>",tc⟩
theorem Ar2:Ap6 tt=true:=Ap
section
variable {P:Program}{w:World}{K:NA}{mg:Str->NW}{base:Heap}{t:Adr}{tc tT:NX}
theorem Ap8(t:Adr)(d:Nat)(p:NX×NY)(h:(fs t)[d]?=some p):fa t d=p.1/\fd t d=p.2:=by unfold fa fd;rw[At3,h];exact⟨Z,Z⟩
theorem cok(T:Txt K mg t)(a:t.Bj.code=.ref tc)(f:W.CodeHd base tc tT)(hB:Bm mg base):COk (ct P w K mg base t tc tT) tt (fa t) (fd t):=by
 refine Ap7 (fs:=fs t) (Ap8 t) Ar2 ?_ ?_ ?_ ?_ ?_ ?_ ?_ hB f
 ·exact⟨gI T.Xz,gI T.Yb,gS T.Ahh,gI T.X3,⟨_,T.Amk,T.Aml⟩,gS T.Ahi,gI T.X4,gI T.RJ,gS T.UG,gS T.X5,gI T.Ox,gI T.Ac1,⟨_,T.AjF,T.AjG⟩,gS T.Ahj,gI T.Aea,gI T.X6,⟨_,T.Rq,T.Rr⟩,T.measured.m,T.K7.m,T.Xj.m,T.Rb.m,T.Zb.m,T.AmU.m,T.Uw.m,T.Nv.m,T.Fj.m,T.Ux.m,T.Zc.m,T.K8.m,T.Zd.m,T.Uy.m,T.unlike.m,T.Af2.m,T.Ze.m,T.Acv.m,T.shown.m,T.Xk.m,T.Uz.m,T.Acw.m,T.Xl.m,T.Zf.m,T.Xm.m,T.Zg.m,T.Hs.m,T.parted.m,T.Rf.m,T.Af3.m,T.Nx.m,T.Xn.m,T.Rg.m,T.Zh.m,T.Zi.m,T.Af4.m,T.Lw.m,T.Ny.m,T.Xo.m,T.written.m,T.Rh.m,T.Xp.m,T.Zj.m,T.U0.m,T.Zk.m,T.Acx.m,T.Fl.m,T.Xq.m,T.Xr.m,T.U3.m,T.U4.m,T.Ht.m,T.Zm.m,T.Nz.m,T.Zn.m,T.N5.m,T.Ri.m,T.Zo.m,T.Aj9.m,T.Xu.m,T.N6.m,T.K9.m,T.N7.m,T.Hu.m,T.N8.m,T.Jp.m,T.Xv.m,T.Zq.m,T.Rj.m,T.stays.m,T.moved.m,T.Acy.m,T.Acz.m,T.Zr.m,T.KC.m,T.U5.m,T.bearers.m,T.Zt.m,T.Xw.m,T.answered.m,T.Zu.m,T.overs.m,T.AjA.m,T.paint.m,T.Hv.m,T.Xx.m,T.Xy.m,T.Rk.m,T.Amg,T.AjD,T.Ap4,T.Amh,T.Ami,T.Ap5,T.Amj,⟨T.Amf,T.Aa8.q⟩,⟨T.Aeb,T.O1.q⟩,⟨T.Ahn,T.RK.q⟩,⟨T.Ac4,T.KH.q⟩,⟨T.Aeg,T.O3.q⟩,⟨T.Ac9,T.KN.q⟩,⟨T.Ahp,T.LC.q⟩,trivial⟩
 ·exact⟨dk T.measured,dk T.K7,dk T.Xj,dk T.Rb,dk T.Zb,dkM T.RQ,dk T.AmU,dk T.Uw,dk T.Nv,dkA T.Fj,dk T.Ux,dk T.Zc,dk T.K8,dk T.Zd,dk T.Uy,dk T.unlike,dk T.Af2,dkM T.Rt,dkM T.KY,dkM T.NB,dkM T.Hx,dkM T.Jq,dk T.Ze,dkM T.UT,dkM T.U6,dkM T.KZ,dkM T.RT,dkM T.Ru,dkM T.Jr,dk T.Acv,dk T.shown,dk T.Xk,dk T.Uz,dk T.Acw,dk T.Xl,dk T.Zf,dk T.Xm,dk T.Zg,dkA T.Hs,dk T.parted,dk T.Rf,dk T.Af3,dk T.Nx,dk T.Xn,dk T.Rg,dk T.Zh,dk T.Zi,dk T.Af4,⟨⟨_,_,T.Lw.F,λ_=>⟨a,Z⟩⟩,T.Lw.b⟩,dk T.Ny,dkM T.RW,dkM T.NK,dkM T.UW,dkM T.RX,dk T.Xo,dk T.written,dk T.Rh,dk T.Xp,dk T.Zj,dk T.U0,dk T.Zk,dk T.Acx,dkA T.Fl,dk T.Xq,dk T.Xr,dk T.U3,dk T.U4,dk T.Ht,dk T.Zm,dk T.Nz,dk T.Zn,dk T.N5,dk T.Ri,dk T.Zo,dk T.Aj9,dk T.Xu,dk T.N6,dk T.K9,dk T.N7,dk T.Hu,dk T.N8,dk T.Jp,dk T.Xv,dk T.Zq,dk T.Rj,dk T.stays,dk T.moved,dk T.Acy,dk T.Acz,dk T.Zr,dk T.KC,dk T.U5,dk T.bearers,dk T.Zt,dk T.Xw,dk T.answered,dk T.Zu,dk T.overs,dk T.AjA,dk T.paint,dkA T.Hv,dk T.Xx,dk T.Xy,dk T.Rk,trivial⟩
 ·intro k d h
  match k,h with
  | 0,h=>cases h;exact T.Vs.m
  | 1,h=>cases h;exact T.Fo.m
  | 2,h=>cases h;exact T.AaA.m
  | 3,h=>cases h;exact T.Rp.m
  | 4,h=>cases h;exact T.Vt.m
  | 5,h=>cases h;exact T.AaB.m
  | 6,h=>cases h;exact T.Vu.m
  |k+7,h=>cases h
 ·intro k d h hc;have e:k=4:=by simpa [tt]using hc
  subst e;cases h;exact T.AjE
 ·exact⟨⟨T.Fo.c,T.KY.m⟩,⟨T.Fo.c,T.Jq.m⟩,⟨T.Fo.c,T.Hx.m⟩,⟨T.Fo.c,T.NB.m⟩,⟨T.AaA.c,T.KZ.m⟩,⟨T.AaA.c,T.U6.m⟩,⟨T.Rp.c,T.Jr.m⟩,⟨T.Rp.c,T.Ru.m⟩,⟨T.Vt.c,T.NK.m⟩,⟨T.AaB.c,T.Yg⟩,⟨T.Vu.c,T.XH⟩,trivial⟩
 ·exact⟨⟨T.Vs.c,T.O5⟩,⟨T.Vs.c,T.Yc⟩,⟨T.Vs.c,T.Ro⟩,⟨T.Fo.c,T.X7⟩,⟨T.Fo.c,T.UJ⟩,⟨T.AaA.c,T.Yd⟩,⟨T.Rp.c,T.X8⟩,⟨T.Rp.c,T.XC⟩,⟨T.Vt.c,T.XD⟩,⟨T.Vt.c,T.RM⟩,⟨T.AaB.c,T.Ye⟩,⟨T.AaB.c,T.UL⟩,⟨T.Vu.c,T.XF⟩,⟨T.Vu.c,T.RN⟩,trivial⟩
 ·exact⟨T.Af5,T.Ars,T.Ar0,T.Aru,T.Art,T.Arv,T.Arz,T.AjB,T.Arw,T.Arx,T.AjC,T.Af6,T.Rn,T.Ary,T.AdZ,T.Ar1,T.Ac0,T.Amd,trivial⟩
end
end Mine
namespace IV
open PySem PySem.Spec PyProof.Rows L2
inductive Cn (H:Hp) (B:AH):Nat->V->V->Prop
 |flat {n:Nat} {v:V} (h:Cg v=true):Cn H B n v v
 |lst {n i:Nat} {a:NX} {xs ys:Nn} (hb:B[i]?=some (.lst xs)) (ha:H a=some (.lst ys)) (hl:xs.length=ys.length) (hi:∀(j:Nat)(x y:V),xs[j]?=some x->ys[j]?=some y->Cn H B n x y):Cn H B (n+1) (.ref i) (.ref a)
 |tup {n i:Nat} {a:NX} {xs ys:Nn} (hb:B[i]?=some (.tup xs)) (ha:H a=some (.tup ys)) (hl:xs.length=ys.length) (hi:∀(j:Nat)(x y:V),xs[j]?=some x->ys[j]?=some y->Cn H B n x y):Cn H B (n+1) (.ref i) (.ref a)
theorem Cn.same{H H':Hp}{B:AH}{n:Nat}{u z:V}(c:Cn H B n u z)(s:Ai H H'):Cn H' B n u z:=by
 induction c with
 |flat h=>exact .flat h
 |lst d b e hi a=>exact .lst d (s.lst b) e a
 |tup d b e hi a=>exact .tup d (s.tup b) e a
theorem Ap9{K:NA}{H:Hp}{B:AH}{n:Nat}{u x:V}(c:Cn H B n u x):∀{y:V},Cn H B n u y->Ace K H n x y:=by
 induction c with
 |flat h =>
  intro y d;cases d with
  |flat _=>exact .flat h
  |lst=>cases h
  |tup=>cases h
 | @lst n i a xs ys o t v hi s =>
  intro y d;cases d with
  |flat h=>cases h
  |lst b f m e =>
   rw[o]at b;cases b;refine .lst (.of t) (.of f) (v.symm.trans m) λj x y ex r=>?_;have w:=(zC.mp ex).1;have p:=Atc (l:=xs) (i:=j) As;exact s j _ x p ex (e j _ y p r)
  |tup b=>rw[o]at b;cases b
 | @tup n i a xs ys o t v hi s =>
  intro y d;cases d with
  |flat h=>cases h
  |tup b f m e =>
   rw[o]at b;cases b;refine .tup (.of t) (.of f) (v.symm.trans m) λj x y ex r=>?_;have w:=(zC.mp ex).1;have p:=Atc (l:=xs) (i:=j) As;exact s j _ x p ex (e j _ y p r)
  |lst b=>rw[o]at b;cases b
def eqA (A B:AH):Nat->V->V->Bool
 | 0,v,u=>Cg v && decide (v=u)
 |n+1,v,u=>match v,u with
  | .ref i,.ref j=>match A[i]?,B[j]? with
   |some (.lst xs),some (.lst ys)=>xs.length == ys.length && (xs.zip ys).all λp=>eqA A B n p.1 p.2
   |some (.tup xs),some (.tup ys)=>xs.length == ys.length && (xs.zip ys).all λp=>eqA A B n p.1 p.2
   |_,_=>false
  |v,u=>Cg v && decide (v=u)
section
variable {c:Ct}{ρ:NO}{A B:AH}{H:Hp}
theorem AaC{f:V->V->Bool}:∀{xs ys:Nn} {j:Nat} {x y:V},(xs.zip ys).all (λp=>f p.1 p.2)=true->xs[j]?=some x->ys[j]?=some y->f x y=true
 |[],_,_,_,_,_,e,_=>by simp at e
 |_::_,[],_,_,_,_,_,e=>by simp at e
 |a::xs,b::ys,j,x,y,h,e1,e2=>by
  rw[Au8,Atz,Ata]at h;cases j with
  |zero=>simp at e1 e2;subst e1 e2;exact h.1
  |succ j=>exact AaC h.2 (by simpa using e1) (by simpa using e2)
theorem AfG(e:∀(i:Nat)(o:AO)(a:NX),A[i]?=some o->ρ[i]?=some a->RO c ρ H a o):∀{n:Nat} {v u x:V},eqA A B n v u=true->RV ρ v x->Cn H B n u x
 | 0,v,u,x,h,r=>by
  unfold eqA at h;rw[Ata]at h;have:=yF h.2;subst this;rw[r.Ci (CW h.1)];exact .flat h.1
 |n+1,v,u,x,h,r=>by
  unfold eqA at h;split at h
  ·next i j =>
   obtain⟨a,rfl,z⟩:=r.Gq;split at h
   ·next xs ys h1 h2 =>
    rw[Ata]at h;obtain⟨zs,t,f⟩:=e i _ a h1 z;have w:=eq_of_beq h.1;refine .lst h2 t (by rw[<-w];exact Pd.len f) λk x y ex p=>?_;have hk:=(zC.mp ex).1;have m:=Atc (l:=xs) (i:=k) As;obtain⟨b,d,s⟩:=Pd.get f m;rw[p]at d;cases d;exact AfG e (AaC h.2 m ex) s
   ·next xs ys h1 h2 =>
    rw[Ata]at h;obtain⟨zs,t,f⟩:=e i _ a h1 z;have w:=eq_of_beq h.1;refine .tup h2 t (by rw[<-w];exact Pd.len f) λk x y ex p=>?_;have hk:=(zC.mp ex).1;have m:=Atc (l:=xs) (i:=k) As;obtain⟨b,d,s⟩:=Pd.get f m;rw[p]at d;cases d;exact AfG e (AaC h.2 m ex) s
   ·cases h
  ·rw[Ata]at h;have:=yF h.2;subst this;rw[r.Ci (CW h.1)];exact .flat h.1
theorem RV.det{r:NO}{v x y:V}(h1:RV ρ v x)(h2:RV (ρ++r) v y):y=x:=by
 cases h1.mono (r:=r) with
 |ref h=>obtain⟨a,rfl,e⟩:=h2.Gq;rw[h]at e;cases e;rfl
 |flat h=>exact h2.Ci h
theorem RVs.det{r:NO}:∀{v x y:Nn},RVs ρ v x->RVs (ρ++r) v y->y=x
 |_,_,_,.nil,.nil=>rfl
 |_,_,_,.cons h t,.cons h' t'=>by rw[h.det h',RVs.det t t']
def XJ (A:AH):Bool:=A.all λo=>match o with
 | .lst _=>true
 | .tup _=>true
 |_=>false
theorem Ld{d:NO}{A':AH}{H':Hp}(x:Ext c ρ H d A' H')(e:Emb c ρ A H)(w:decide (A'.take A.length=A)=true)(l:XJ A=true):Ai H H':=by
 intro b o h v;by_cases s:b∈ρ
 ·obtain⟨i,hi,y⟩:=List.mem_iff_getElem.mp s;have p:ρ[i]?=some b:=by rw[Atc hi,y]
  have t:i<A.length:=by rw[<-e.len];exact hi
  have ea:=Atc t;have m:A'[i]?=some A[i]:=by
   have:=yF w;rw[<-ea]
   conv=>rhs;rw[<-this]
   rw[Auu t]
  obtain⟨r,rfl⟩:=x.ap;have f:(ρ++r)[i]?=some b:=by rw[Atv hi];exact p
  have q:=e.obj i _ b ea p;have n:=x.em.obj i _ b m f;have hk:(match A[i]with|.lst _=>true|.tup _=>true|_=>false)=true:=by
   unfold XJ at l;rw[Atp]at l;exact l _ (Ato ea)
  generalize A[i]=u at *;cases u with
  |lst xs =>
   obtain⟨ys,h1,h2⟩:=q;obtain⟨zs,a,j⟩:=n;rw[h]at h1;cases h1;rw[h2.det j]at a;exact a
  |tup xs =>
   obtain⟨ys,h1,h2⟩:=q;obtain⟨zs,a,j⟩:=n;rw[h]at h1;cases h1;rw[h2.det j]at a;exact a
  |ins _ _=>cases hk
  |dic _=>cases hk
  |rng _ _=>cases hk
 ·exact x.fr b o h s v
theorem Emb.AmV{H':Hp}(e:Emb c ρ A H)(s:Ai H H')(t:Tb c.tT c.tq H'):Emb c ρ A H':=(Ext.tbl e s t).em
theorem LK(t:Tb c.tT c.tq H):Emb c [] [] H:=⟨Z,List.nodup_nil,λ_ _ _ e=>by simp at e,t⟩
theorem Emb.snoc{w:NX}{xs:Nn}(e:Emb c ρ A H)(hn:w∉ρ)(hw:H w=some (.lst xs))(j:xs.all noRef=true):Emb c (ρ++[w]) (A++[.lst xs]) H:=by
 refine⟨by simp[e.len],List.nodup_append.mpr ⟨e.nd,At,?_⟩,λi u a h h'=>?_,e.tb⟩
 ·intro a f b d;rw[AtZ]at d;subst d;rintro rfl;exact hn f
 ·by_cases hi:i<A.length
  ·rw[Atv hi]at h;rw[Atv (by rw[e.len];exact hi)]at h';exact(e.obj i u a h h').mono
  ·rw[Atu (Nat.not_lt.mp hi)]at h;rw[Atu (by rw[e.len];exact Nat.not_lt.mp hi)]at h';have z:i-A.length=0:=by
    have:=(zC.mp h).1;simp at this;lia
   rw[e.len,z]at h';rw[z]at h;cases h;cases h';exact⟨xs,hw,RVs.own j⟩
def pv (js:NL)(x y:V):Bool:=match x,y with
 | .ref i,.ref k=>decide (js[k]?=some i)
 |x,y=>noRef x && decide (x=y)
def pkO (js:NL)(o:Option AO)(o':AO):Bool:=match o,o' with
 |some (.lst xs),.lst ys=>xs.length == ys.length && (xs.zip ys).all λp=>pv js p.1 p.2
 |some (.tup xs),.tup ys=>xs.length == ys.length && (xs.zip ys).all λp=>pv js p.1 p.2
 |_,_=>false
def AjJ (js:NL)(A A0:AH):Bool:=js.length == A0.length && decide js.Nodup && (js.zip A0).all λp=>pkO js A[p.1]? p.2
theorem Ar3{b:NL}{x y z:V}(h:pv b x y=true)(r:RV ρ x z):RV (b.map λj=>ρ.getD j 0) y z:=by
 unfold pv at h;split at h
 ·next i k =>
  obtain⟨a,rfl,c⟩:=r.Gq;have:=yF h;refine .ref ?_;rw[Atn,this];simp[At3,c]
 ·rw[Ata]at h;have:=yF h.2;subst this;rw[r.Ci h.1];exact .flat h.1
theorem Ael{a:NL}:∀{xs ys zs:Nn},xs.length=ys.length->(xs.zip ys).all (λp=>pv a p.1 p.2)=true->RVs ρ xs zs->RVs (a.map λj=>ρ.getD j 0) ys zs
 |[],[],_,_,_,.nil=>.nil
 |x::xs,y::ys,_,hl,h,.cons r t=>by
  rw[Au8,Atz,Ata]at h;exact .cons (Ar3 h.1 r) (Ael (by simpa using hl) h.2 t)
theorem zip_get{α d:Type}{l:List α}{m:List d}{f:α->d->Bool}:∀{k:Nat} {a:α} {b:d},(l.zip m).all (λp=>f p.1 p.2)=true->l[k]?=some a->m[k]?=some b->f a b=true:=by
 induction l generalizing m with
 |nil=>intro k a b _ e;simp at e
 |cons x l i =>
  intro k a b h e1 c;cases m with
  |nil=>simp at c
  |cons y m =>
   rw[Au8,Atz,Ata]at h;cases k with
   |zero=>simp at e1 c;subst e1 c;exact h.1
   |succ k=>exact i h.2 (by simpa using e1) (by simpa using c)
theorem AjK{i:NL}{A0:AH}(e:Emb c ρ A H)(h:AjJ i A A0=true):Emb c (i.map λj=>ρ.getD j 0) A0 H:=by
 unfold AjJ at h;simp only [Ata,decide_eq_true_eq]at h;obtain⟨⟨h1,h2⟩,F⟩:=h;have h1:i.length=A0.length:=eq_of_beq h1;have l:∀(k j:Nat)(o':AO),i[k]?=some j->A0[k]?=some o'->∃a,ρ[j]?=some a/\RO c (i.map λj=>ρ.getD j 0) H a o':=λk j o' e1 d=>by
  have hk:=zip_get (f:=λj o=>pkO i A[j]? o) F e1 d;unfold pkO at hk;split at hk
  ·next xs ys hx =>
   rw[Ata]at hk;obtain⟨a,m,zs,p,r⟩:=e.at hx;exact⟨a,m,zs,p,Ael (eq_of_beq hk.1) hk.2 r⟩
  ·next xs ys hx =>
   rw[Ata]at hk;obtain⟨a,m,zs,p,r⟩:=e.at hx;exact⟨a,m,zs,p,Ael (eq_of_beq hk.1) hk.2 r⟩
  ·cases hk
 refine⟨by simp[h1],?_,λk o' a e1 d=>?_,e.tb⟩
 ·unfold List.Nodup;rw[AtG];refine h2.imp_of_mem λ{a b} E v t=>?_;obtain⟨k,hk,ea⟩:=List.mem_iff_getElem.mp E;obtain⟨C,n,B⟩:=List.mem_iff_getElem.mp v;obtain⟨x,ex,_⟩:=l k a _ (by rw[Atc hk,ea]) (Atc As);obtain⟨y,u,_⟩:=l C b _ (by rw[Atc n,B]) (Atc As);rw[At3,At3,ex,u];intro z;have z:x=y:=z;subst z;have D:=zC.mp ex;have w:=zC.mp u;exact t ((Auj e.nd).mp (D.2.trans w.2.symm))
 ·rw[Atn]at d;cases s:i[k]? with
  |none=>rw[s]at d;cases d
  |some j =>
   rw[s]at d;obtain⟨x,ex,q⟩:=l k j o' s e1;have:a=x:=by
    have d:ρ.getD j 0=a:=yB d;rw[At3,ex]at d;exact d.symm
   rw[this];exact q
end
end IV
namespace Mine
open PySem L2 IV
structure Qn where
 z:Str
 du:Sum Nat (AH×V)
def rf (s:String)(k:Nat):Qn:=⟨Str.ofString s,.inl k⟩
def an (s:String)(B:AH)(u:V):Qn:=⟨Str.ofString s,.inr (B,u)⟩
def wds (z:Str):NU:=(Txt.split z " ").filter λw=>decide (w≠"")
def qr:List Qn:=[rf "" 5,rf "dance plain" 5,rf "dance nobody" 5,rf "layers" 5,rf "layers Plain" 5,rf "layers rows" 5,rf "layers plain plain" 5,rf "cloth nobody more" 5,rf "cloth nobody" 6,rf "layers nobody" 6,rf "draft nobody" 6,rf "shifts nobody" 6,rf "floats nobody" 6,rf "sheets nobody 0" 6,rf "overs nobody 0 0 1 1" 6,rf "sheets" 5,rf "overs nobody 0 0 1" 5,rf "overs nobody 0 0 1 01" 5,rf "sheets plain 0 01" 0,rf "sheets plain x" 0,rf "sheets plain" 3,rf "sheets plain 0 0 0" 3,rf "sheets plain 0 8" 3,rf "sheets plain 5*(99*(0))" 1,rf "finish" 2,rf "finish ##" 2,rf "finish # #" 2,rf "finish ## #" 2,rf "finish #? x." 2,rf "paint" 5,rf "paint ab" 5,rf "paint ab ab" 4,rf "paint ab ab ab" 4,rf "paint ab a ab ba" 4,rf "paint ab ag ab ba" 4,rf "paint ab ab ab b" 4,rf "paint ab ab ab b?" 4,rf "Cloth plain" 5,rf "sheets nobody x" 6,rf "sheets nobody 5*(99*(0))" 6,rf "sheets plain 99*(0 0 0) 99*(0 0)" 1,rf "? cloth plain" 5,rf "cloth abcdefghijklmnopqrst" 6,rf "cloth abcdefghijklmnopqrstu" 5,rf "paint a ab a b" 4,rf "cloth plain2" 5]
def qa:List Qn:=[an "cloth plain" [.lst [.str "#.",.str ".#"],.tup [.str "cloth",.ref 0]] (.ref 1),an "cloth over" [.lst [.str "##",.str "#."],.tup [.str "cloth",.ref 0]] (.ref 1),an "shifts plain" [.tup [.str "shifts",.int 2,.int 1,.int 1]] (.ref 0),an "draft plain" [.tup [.str "draft",.str "0-1 / 0, 1 / 0-1"]] (.ref 0),an "layers over" [.lst [.int 0],.lst [.int 3],.lst [.int 1],.lst [.int 2],.lst [.ref 0,.ref 1,.ref 2,.ref 3],.lst [.int 0],.lst [.int 3],.lst [.int 1],.lst [.int 2],.lst [.ref 5,.ref 6,.ref 7,.ref 8],.tup [.str "layers",.ref 4,.ref 9]] (.ref 10),an "draft set" [.tup [.str "draft",.str "0-1-0 / 0, 1 / 0-1"]] (.ref 0),an "finish #. .#" [.lst [.str "#.",.str ".#"],.lst [],.tup [.str "cloth",.ref 0,.ref 1]] (.ref 2),an "sheets plain 1*(0 0)" [.lst [],.lst [],.lst [.int 0],.lst [.ref 2],.tup [.str "sheets",.ref 0,.ref 1,.ref 3]] (.ref 4),an "sheets over 1*(0 0)" [.tup [.int 1,.int 3,.str "right"],.lst [.ref 0],.lst [],.lst [.int 0],.lst [.int 1,.int 3],.lst [.int 2],.lst [.ref 3,.ref 4,.ref 5],.tup [.str "sheets",.ref 1,.ref 2,.ref 6]] (.ref 7),an "overs plain 0 0 2 2" [.tup [.str "overs",.int 2]] (.ref 0),an "floats over" [.tup [.int 0,.int 1],.tup [.int 0,.int 1],.lst [.non,.ref 0,.non,.ref 1],.tup [.str "floats",.ref 2]] (.ref 3)]
def vt (l:NU):AO:=.lst (l.map V.str)
def A0:AH:=[vt ["#.",".#"],vt ["##","#."],vt ["#.#",".#."],.tup [.str "plain",.ref 0],.tup [.str "over",.ref 1],.tup [.str "set",.ref 2],.lst [.ref 3,.ref 4,.ref 5]]
def AcC:Str:= "plain = twill(1,1)\nover = rows(##,#.)\nset : 3 5 3 / 5, 3 / 1 0"
abbrev fuel:Nat:=70
def Ahq (q:Qn):Bool:=match (go tt fuel).call 95 [.ref 7,.ref 6] (A0++[vt (wds q.z)]),q.du with
 |some (.ex k,A'),.inl j=>Nat.beq k j && decide (A'.take 8=A0++[vt (wds q.z)])
 |some (.ok v,A'),.inr (B,u)=>eqA A' B 5 v u && decide (A'.take 8=A0++[vt (wds q.z)])
 |_,_=>false
def Ar4:Bool:=match (go tt fuel).call 67 [.str AcC] []with
 |some (.ok (.ref i),A')=>Nat.beq i 0 && AjJ [19,36,100,20,37,101,0] A' A0
 |_=>false
theorem Ahr:Ar4=true:=Ap
theorem ApA:All (λq=>Ahq q=true) qr:=by repeat' (first|exact trivial|refine⟨Ap,?_⟩)
theorem ApB:All (λq=>Ahq q=true) qa:=by repeat' (first|exact trivial|refine⟨Ap,?_⟩)
end Mine
namespace Mine
open PySem L2 IV
section
variable {P:Program}{w:World}{K:NA}{mg:Str->NW}{base:Heap}{t:Adr}{tc tT:NX}
inductive Ar5 (c:Ct)(vs:Nn)(H:Hp)(Q:VK)(z3:XK):Prop
|mk(_:vs=[.str AcC])(_:Tb c.tT c.tq H)(_:∀H' b ρ,Ai H H'->Emb c ρ A0 H'->ρ[6]?=some b->Q (.ref b) H')
theorem AaD(T:Txt K mg t)(d:t.Bj.code=.ref tc)(e:W.CodeHd base tc tT)(hB:Bm mg base):BR P w K mg base (CX1 P w) 141 t.Gb t.Ge ["text"] (Ar5 (ct P w K mg base t tc tT)):=by
 refine((sound (cok (P:=P) (w:=w) T d e hB) fuel).call 67 ⟨JQ,false⟩ Z).imp ?_;rintro vs H Q E ⟨rfl,tb,k⟩;have h:=Ahr;unfold Ar4 at h;cases c:(go tt fuel).call 67 [.str AcC] []with
 |none=>rw[c]at h;cases h
 |some p =>
  obtain⟨o,A'⟩:=p;rw[c]at h
  match o,h with
  | .ok (.ref i),h =>
   rw[Ata]at h;have f:i=0:=Nat.eq_of_beq_eq_true h.1;subst f;refine⟨[],[],[.str AcC],_,_,c,Z,LK tb,.cons (.flat Z) .nil,?_⟩;intro b H' j x rv;obtain⟨a,rfl,ea⟩:=rv.Gq;refine k H' a _ (Ld x (LK tb) (zK Z) Z) (AjK x.em h.2) ?_;show some (b.getD 0 0)=_;rw[At3,ea];rfl
def duE (c:Ct)(q:Qn)(H:Hp)(Q:VK)(E:XK):Prop:=match q.du with
 | .inl k=>∀H',Ai H H'->Tb c.tT c.tq H'->E (.ref (c.Xs k)) none H'
 | .inr (B,u)=>∀H' x,Ai H H'->Tb c.tT c.tq H'->Cn H' B 5 u x->Q x H'
inductive Ar6 (c:Ct)(vs:Nn)(H:Hp)(Q:VK)(E:XK):Prop
|mk(l:NX)(b:NX)(ρ:NO)(q:Qn)(_:vs=[.ref l,.ref b])(_:Ahq q=true)(_:Emb c ρ A0 H)(_:ρ[6]?=some b)(_:l∉ρ)(_:H l=some (.lst ((wds q.z).map V.str)))(_:duE c q H Q E)
theorem U7{A:AH}{xs:Nn}(h:XJ A=true):XJ (A++[.lst xs])=true:=by unfold XJ at h ⊢;rw[List.all_append,h];rfl
theorem Ahs(ws:NU):(ws.map V.str).all noRef=true:=by rw[List.all_map,Atp];intro x _;rfl
theorem BZ(T:Txt K mg t)(f:t.Bj.code=.ref tc)(s:W.CodeHd base tc tT)(hB:Bm mg base):BR P w K mg base (CX1 P w) 141 t.Ot t.Ou ["words","book"] (Ar6 (ct P w K mg base t tc tT)):=by
 refine((sound (cok (P:=P) (w:=w) T f s hB) fuel).call 95 ⟨Og,false⟩ Z).imp ?_;rintro vs H Q E ⟨l,b,ρ,q,rfl,h,m,A,hn,C,k⟩;have a:=m.snoc hn C (Ahs _);have r:ρ.length=7:=m.len;have n:(ρ++[l])[7]?=some l:=by rw[Atu As,r];rfl
 have d:(ρ++[l])[6]?=some b:=by rw[Atv As];exact A
 unfold Ahq at h;unfold duE at k;cases c:(go tt fuel).call 95 [.ref 7,.ref 6] (A0++[vt (wds q.z)]) with
 |none=>rw[c]at h;cases h
 |some p =>
  obtain⟨o,A'⟩:=p;rw[c]at h;cases i:q.du with
  |inl j =>
   rw[i]at h k
   match o,h,c with
   | .ex j',h,c =>
    rw[Ata]at h;have D:j'=j:=Nat.eq_of_beq_eq_true h.1;subst D;refine⟨_,_,_,_,_,c,Z,a,.cons (.ref n) (.cons (.ref d) .nil),?_⟩;intro e H' x;exact k H' (Ld x a h.2 (U7 Z)) x.em.tb
  |inr p =>
   obtain⟨B,u⟩:=p;rw[i]at h k
   match o,h,c with
   | .ok v,h,c =>
    rw[Ata]at h;refine⟨_,_,_,_,_,c,Z,a,.cons (.ref n) (.cons (.ref d) .nil),?_⟩;intro e H' y x rv;exact k H' y (Ld x a h.2 (U7 Z)) x.em.tb (AfG x.em.obj h.1 rv)
end
end Mine
namespace Mine
variable {i:Nat}{v:V}{H:Hp}
section
open PySem PySem.Spec PyProof.Rows L2 IV
inductive Amm (x:V) (vs:Nn) (H:Hp) (Q:VK):Prop
 |two (z y:Str) (_:x=.str z) (_:vs=[.str y]) (_:0<y.length) (_:z.length+2<=sizeLine) (_:(Txt.split z y).length<=sizeLine) (_:∀l,H l=none->Q (.ref l) (upd H l (.lst ((Txt.split z y).map V.str))))
 |one (z:Str) (_:x=.str z) (_:vs=[]) (_:z.length+2<=sizeLine) (_:(Txt.words z).length<=sizeLine) (_:∀l,H l=none->Q (.ref l) (upd H l (.lst ((Txt.words z).map V.str))))
theorem Px{X:Cx}:MtR X "str.split" Amm:=by
 intro pins s σ H x vs v us Q I d rv h;cases h with
 |two z y h1 h2 j f i m=>exact Y6 pins s σ H x vs v us Q I d rv ⟨z,y,h1,h2,j,f,i,m⟩
 |one z h1 h2 p hn q =>
  subst h1 h2;obtain⟨t,rfl⟩:=d;cases rv;have a:∀(l:List (Str×Tok))(tk:Nat),l.map (·.1)=Txt.words z->EP X pins σ Q (.ref s.heap.objs.size) {s with heap:=s.heap.push {cls:=.type "list",data:=.seq (strValues l).toArray},toks:=tk}:=λl tk e =>
   ⟨.ref s.heap.objs.size,_,I.laid (t':=tk) (λb o e=>zB _ e) (AsY _) (show BV X.prog X.w _ _ _ (.lst ((Txt.words z).map V.str)) from⟨by rw[AsZ];exact hn,_,_,R9 e,zD _ Z⟩),Z,q _ (I.hok.fresh (AsY _))⟩;have c:(Builtin.Str.spaceWords z (z.length+1)).length<=sizeLine:=by
   have e1:=(StrLaws.sw_weight z).1;have n:=StrLaws.len_le_wsum (Builtin.Str.spaceWords z (z.length+1));lia
  refine yM zR (typeIs_str _ _ _) yO (F.args_str_split_1 _) (meets_str_split_space z t As c) ?_;cases hw:Builtin.Str.spaceWords z (z.length+1) == [(0,z.length)]
  ·simp only [AtP,if_false];rw[strsFrom_eq];exact a (numbered s.toks (wordsOf z)) _ ((numbered_texts _ _).trans (z7 (yJ hw)).symm)
  ·simp only [if_true];exact a [(z,t)] s.toks (z8 hw).symm
end
open PySem L2 IV
theorem CQ{a:V}{σ σ':St}{b:St->Hp->Prop}(c:v=a)(h:σ.set i (some a)=σ')(k:b σ' H):Em i v σ H b:=by subst c;subst h;exact k
theorem ApC{c A B:Prop}[Decidable c](hc:¬c)(h:A):if (!decide c)=true then A else B:=by rw[decide_eq_false hc];exact AaZ h
theorem Ai.new{H1:Hp}{p:NX}{o:HO}(e:Ai H H1)(h:H1 p=none):Ai H (L2.upd H1 p o):=e.trans (Ca.upd h).toT
section
variable {P:Program}{w:World}{K:NA}{mg:Str->NW}{base:Heap}{t:Adr}{tc tT:NX}
theorem AaE{ws:NU}(h:(ws.map V.str)[i]?=some v):∃x,ws[i]?=some x/\v=.str x:=by
 rw[Atn]at h;cases e:ws[i]? with
 |none=>rw[e]at h;cases h
 |some x=>rw[e]at h;cases h;exact⟨x,_root_.rfl,_root_.rfl⟩
inductive Ar7 (vs:Nn)(H:Hp)(Q:VK)(z3:XK):Prop
|mk(z:Str)(_:vs=[.str z])(_:z.length<=1000)(_:(Txt.split z " ").length<=1000)(_:∀q H',Ca H H'->H' q=some (.lst ((wds z).map V.str))->H q=none->Q (.ref q) H')
theorem AcD(T:Txt K mg t):BR P w K mg base CX0 1 t.Oo t.Oq ["text"] Ar7:=by
 refine T.words_of.F.ok Aci ?_;rintro _ _ _ _ H _ Q E v ⟨u,rfl,r,hn,k⟩;refine⟨_,(Aq (By (ZQ (J4.mk (Aw:=[]) (Nc:=["word"]) Z Ap Ap (Vh (sc0:=Ac Oe) Z Ap) Z rfl Z Ap (λ_ _ h=>by simp at h)) Z (J7 (K:=K) (Eo (K:=K) zI zR F.type_str_split Px (pv 0) (Ae Be Al))) (λ_ _ _ _ _=>.one (Aey Amw (pv 0) Be (Adc _))) (λ_ _ _ _ _=>(pv 0))))),?_⟩;have hsz:sizeLine=16777216:=zS;refine⟨_,Z,Z,.two u _ Z rfl Ap As As λl n=>?_⟩;have f:wds u=(Txt.split u " ").filter λw:Str=>decide (w≠""):=rfl;generalize Txt.split u " "=ps at hn f ⊢;obtain⟨H1,m,d,h1⟩:=nu9 (o:=.lst (ps.map V.str)) (.refl _) n;rw[m];refine⟨_,Z,⟨_,yS h1⟩,Lg (K:=K) (a:=l) (xs:=ps.map V.str) (λi ys H2=>H2=H1/\ys=((ps.take i).filter λw:Str=>decide (w≠"")).map V.str) ⟨Z,Z⟩ ?_ ?_ ?_ ?_⟩
 ·rintro i ys H2 hi ⟨rfl,rfl⟩;refine⟨yS h1,?_⟩;rw[AsZ];exact Atf (List.length_filter_le _ _) (by rw[AtB];exact Nat.min_le_left _ _)
 ·rw[AsZ];lia
 ·rintro i s ys H2 hi p ⟨rfl,rfl⟩;obtain⟨x,b,rfl⟩:=AaE p;have j:(ps.take (i+1))=ps.take i++[x]:=by rw[Auo,b];rfl
  unfold Sw;refine⟨_,Z,Z,_,Z,?_⟩;by_cases c:x=""
  ·subst c;refine Aq3 Z ?_;exact CN.of hi ⟨Z,by rw[j,Aua];simp⟩
  ·refine ApC (λz=>c (by cases z;rfl)) ?_;refine⟨_,Z,CN.of hi ⟨Z,?_⟩⟩;rw[j,Aua,List.filter_cons_of_pos (by simpa using c),At8];rfl
 ·rintro ys H2 q ⟨rfl,rfl⟩ e;rw[AsZ,Auq,<-f];exact k q _ (d.new e) Ad (d.free e)
def nmX:NU:=["NoRow","TooLarge","NoCloth","NoShuttle","NoColour","NoPattern","Unknown"]
def DX (q:Qn):AH×V:=match q.du with
 | .inl k=>([.tup [.str "refused",.str (nmX.getD k "")]],.ref 0)
 | .inr p=>p
def kOk (q:Qn):Bool:=match q.du with
 | .inl k=>decide (k<7)
 | .inr _=>true
inductive Ar8 (c:Ct)(vs:Nn)(H:Hp)(Q:VK)(z3:XK):Prop
|mk(l:NX)(b:NX)(ρ:NO)(q:Qn)(_:vs=[.ref l,.ref b])(_:Ahq q=true)(_:kOk q=true)(_:Emb c ρ A0 H)(_:ρ[6]?=some b)(_:l∉ρ)(_:H l=some (.lst ((wds q.z).map V.str)))(_:∀H' x,Ai H H'->Tb c.tT c.tq H'->Cn H' (DX q).1 5 (DX q).2 x->Q x H')
theorem AaF(T:Txt K mg t)(f:t.Bj.code=.ref tc)(n:W.CodeHd base tc tT)(hB:Bm mg base):BR P w K mg base CX0 142 t.Kw t.Ky ["words","book"] (Ar8 (ct P w K mg base t tc tT)):=by
 refine T.Lz.F.ok Bs ?_;rintro _ _ _ _ H _ Q E h ⟨A,bk,ρ,⟨z,C⟩,rfl,d,hk,o,r,hn,v,k⟩;cases C with
 |inr p =>
  obtain⟨B,u⟩:=p;refine⟨_,(Aq (J8 (j:=2) ⟨Z,Z,Z⟩ Z (Dq (Fv (Dp ((BZ T f n hB).mono Ab) h Z T.answered.m T.answered.F.kp T.answered.b .nil (Ae (pv 0) (Ae (pv 1) Al))))) Bs.nd Z rfl Z T.BK T.BL.q Dt (λ_=>(Aq (By (DQ (Ae Be (Ae (Cw (pv 2) T.LC.c T.Hw.m (Fp T) h.hd9 T.Hw.b) Al)))))))),?_⟩;exact⟨_,Z,_,Z,A,bk,ρ,⟨z,.inr (B,u)⟩,Z,d,o,r,hn,v,λH' x s' tb hc=>k H' x s' tb hc⟩
 |inl j =>
  have l:∀{G:Hp} {p:NX} {nm:Str},nm=nmX.getD j "" -> Ai H G->Tb tT (ct P w K mg base t tc tT).tq G->G p=none->Q (.ref p) (upd G p (.tup [.str "refused",.str nm])):=λe s tb np=>by
   subst e;refine k _ _ (Ai.new s np) (tb.same (.upd np)) ?_;refine .tup (i:=0) Z Ad Z λi x y h1 h2=>?_;rw[h1]at h2;cases h2;have:Cg x=true:=by
    match i,h1 with
    | 0,h1=>cases h1;rfl
    | 1,h1=>cases h1;rfl
   exact .flat this
  have hk:j<7:=yF hk
  match j,hk with
  | 0,_ =>
   refine⟨_,(Aq (J8 (j:=2) ⟨Z,Z,Z⟩ Z (Dq (Fv (Dp ((BZ T f n hB).mono Ab) h Z T.answered.m T.answered.F.kp T.answered.b .nil (Ae (pv 0) (Ae (pv 1) Al))))) Bs.nd Z rfl Z T.BK T.BL.q Dt (λ_=>(Aq (By (DQ (Ae Be (Ae (Cw (pv 2) T.Aa8.c T.Aa9.m (RZ T) h.hd9 T.Aa9.b) Al)))))))),?_⟩;refine⟨_,Z,_,Z,A,bk,ρ,⟨z,.inl 0⟩,Z,d,o,r,hn,v,λH' s' tb=>?_⟩;refine⟨_,Z,T.Aa8.sub T.Oz,λea a=>?_⟩;refine⟨_,Z,ea,Z,Ad,_,Z,?_⟩;exact⟨(by show 2<=sizeLine;decide),λp np=>l Z (Ai.new s' a) (tb.same (.upd a)) np⟩
  | 1,_ =>
   refine⟨_,(Aq (J8 (j:=2) ⟨Z,Z,Z⟩ Z (Dq (Fv (Dp ((BZ T f n hB).mono Ab) h Z T.answered.m T.answered.F.kp T.answered.b .nil (Ae (pv 0) (Ae (pv 1) Al))))) Bs.nd Z rfl Z T.BK T.BL.q Dt (λ_=>(Aq (By (DQ (Ae Be (Ae (Cw (pv 2) T.O1.c T.O2.m (Ml T) h.hd9 T.O2.b) Al)))))))),?_⟩;refine⟨_,Z,_,Z,A,bk,ρ,⟨z,.inl 1⟩,Z,d,o,r,hn,v,λH' s' tb=>?_⟩;refine⟨_,Z,T.O1.sub T.Js,λea a=>?_⟩;refine⟨_,Z,ea,Z,Ad,_,Z,?_⟩;exact⟨(by show 2<=sizeLine;decide),λp np=>l Z (Ai.new s' a) (tb.same (.upd a)) np⟩
  | 2,_ =>
   refine⟨_,(Aq (J8 (j:=2) ⟨Z,Z,Z⟩ Z (Dq (Fv (Dp ((BZ T f n hB).mono Ab) h Z T.answered.m T.answered.F.kp T.answered.b .nil (Ae (pv 0) (Ae (pv 1) Al))))) Bs.nd Z rfl Z T.BK T.BL.q Dt (λ_=>(Aq (By (DQ (Ae Be (Ae (Cw (pv 2) T.RK.c T.RL.m (O6 T) h.hd9 T.RL.b) Al)))))))),?_⟩;refine⟨_,Z,_,Z,A,bk,ρ,⟨z,.inl 2⟩,Z,d,o,r,hn,v,λH' s' tb=>?_⟩;refine⟨_,Z,T.RK.sub T.KD,λea a=>?_⟩;refine⟨_,Z,ea,Z,Ad,_,Z,?_⟩;exact⟨(by show 2<=sizeLine;decide),λp np=>l Z (Ai.new s' a) (tb.same (.upd a)) np⟩
  | 3,_ =>
   refine⟨_,(Aq (J8 (j:=2) ⟨Z,Z,Z⟩ Z (Dq (Fv (Dp ((BZ T f n hB).mono Ab) h Z T.answered.m T.answered.F.kp T.answered.b .nil (Ae (pv 0) (Ae (pv 1) Al))))) Bs.nd Z rfl Z T.BK T.BL.q Dt (λ_=>(Aq (By (DQ (Ae Be (Ae (Cw (pv 2) T.KH.c T.KJ.m (La T) h.hd9 T.KJ.b) Al)))))))),?_⟩;refine⟨_,Z,_,Z,A,bk,ρ,⟨z,.inl 3⟩,Z,d,o,r,hn,v,λH' s' tb=>?_⟩;refine⟨_,Z,T.KH.sub T.HW,λea a=>?_⟩;refine⟨_,Z,ea,Z,Ad,_,Z,?_⟩;exact⟨(by show 2<=sizeLine;decide),λp np=>l Z (Ai.new s' a) (tb.same (.upd a)) np⟩
  | 4,_ =>
   refine⟨_,(Aq (J8 (j:=2) ⟨Z,Z,Z⟩ Z (Dq (Fv (Dp ((BZ T f n hB).mono Ab) h Z T.answered.m T.answered.F.kp T.answered.b .nil (Ae (pv 0) (Ae (pv 1) Al))))) Bs.nd Z rfl Z T.BK T.BL.q Dt (λ_=>(Aq (By (DQ (Ae Be (Ae (Cw (pv 2) T.O3.c T.O4.m (Mm T) h.hd9 T.O4.b) Al)))))))),?_⟩;refine⟨_,Z,_,Z,A,bk,ρ,⟨z,.inl 4⟩,Z,d,o,r,hn,v,λH' s' tb=>?_⟩;refine⟨_,Z,T.O3.sub T.Jt,λea a=>?_⟩;refine⟨_,Z,ea,Z,Ad,_,Z,?_⟩;exact⟨(by show 2<=sizeLine;decide),λp np=>l Z (Ai.new s' a) (tb.same (.upd a)) np⟩
  | 5,_ =>
   refine⟨_,(Aq (J8 (j:=2) ⟨Z,Z,Z⟩ Z (Dq (Fv (Dp ((BZ T f n hB).mono Ab) h Z T.answered.m T.answered.F.kp T.answered.b .nil (Ae (pv 0) (Ae (pv 1) Al))))) Bs.nd Z rfl Z T.BK T.BL.q Dt (λ_=>(Aq (By (DQ (Ae Be (Ae (Cw (pv 2) T.KN.c T.KQ.m (Lb T) h.hd9 T.KQ.b) Al)))))))),?_⟩;refine⟨_,Z,_,Z,A,bk,ρ,⟨z,.inl 5⟩,Z,d,o,r,hn,v,λH' s' tb=>?_⟩;refine⟨_,Z,T.KN.sub T.HX,λea a=>?_⟩;refine⟨_,Z,ea,Z,Ad,_,Z,?_⟩;exact⟨(by show 2<=sizeLine;decide),λp np=>l Z (Ai.new s' a) (tb.same (.upd a)) np⟩
  | 6,_ =>
   refine⟨_,(Aq (J8 (j:=2) ⟨Z,Z,Z⟩ Z (Dq (Fv (Dp ((BZ T f n hB).mono Ab) h Z T.answered.m T.answered.F.kp T.answered.b .nil (Ae (pv 0) (Ae (pv 1) Al))))) Bs.nd Z rfl Z T.BK T.BL.q Dt (λ_=>(Aq (By (DQ (Ae Be (Ae (Cw (pv 2) T.LC.c T.Hw.m (Fp T) h.hd9 T.Hw.b) Al)))))))),?_⟩;refine⟨_,Z,_,Z,A,bk,ρ,⟨z,.inl 6⟩,Z,d,o,r,hn,v,λH' s' tb=>?_⟩;refine⟨_,Z,T.LC.sub T.KR,λea a=>?_⟩;refine⟨_,Z,ea,Z,Ad,_,Z,?_⟩;exact⟨(by show 2<=sizeLine;decide),λp np=>l Z (Ai.new s' a) (tb.same (.upd a)) np⟩
end
end Mine
namespace Mine
open PySem L2 IV
variable {B i:Nat}{ps ws:NU}{xs:List Lx}{H:Hp}{as:Nn}
theorem AjL{b:Bool}{A B:Prop}(a:b=true->A)(c:b=false->B):if b=true then A else B:=by cases b with|true=>exact AaZ (a rfl)|false=>exact Agj (c rfl)
theorem AcE(z:NL):∀(ys:NN)(acc:Array Nat),(ys.map tx).foldl (λacc p=>acc++(tx z).cps++p.cps) acc=acc++((ys.map λy=>z++y).flatten).toArray
 |[],acc=>At
 |y::ys,acc=>by
  rw[Atw,AtR,AcE z ys];simp[tx]
theorem AjM(z y:NL)(ys:NN):Txt.join (tx z) ((y::ys).map tx)=tx (y++(ys.map λy=>z++y).flatten):=by show Str.mk _=_;simp only [Atw,List.drop_one,List.tail_cons,List.headD_cons];rw[AcE];simp[tx]
theorem AcF(sp:NL):∀us:NN,Txt.join (tx sp) (us.map tx)=tx (jnS sp us)
 |[]=>by simp[Txt.join,Builtin.Str.glued,tx,Str.empty,jnS]
 |u::us=>by
  have key:∀(us:NN)(u:NL),u++(us.map λy=>sp++y).flatten=jnS sp (u::us):=λus=>by
   induction us with
   |nil=>intro u;simp[jnS]
   |cons v r a =>
    intro u;rw[Atw,Auc,AtM,a v];rfl
  rw[AjM,key]
theorem AjN(c:Nat):∀a:NN,jnS [c] a=jn c a
 |[]=>rfl
 |[w]=>rfl
 |w::v::r=>by
  show w++([c]++jnS [c] (v::r))=w++c::jn c (v::r);rw[AjN c (v::r)];rfl
theorem AjO(ps:NU):(ps.map λz=>z.cps.toList).map tx=ps:=by rw[AtD];exact(AtU λz _=>by rfl).trans (List.map_id' ps)
def Le (c:Nat):NL->NN
 |[]=>[[]]
 |a::u=>if a=c then []::Le c u else match Le c u with
  |[]=>[[a]]
  |w::ws=>(a::w)::ws
theorem AfH(c:Nat):∀u,Le c u≠[]
 |[]=>by unfold Le;simp
 |a::u=>by
  unfold Le;split
  ·simp
  ·split<;>simp
theorem AfI(c:Nat):∀u,jn c (Le c u)=u
 |[]=>rfl
 |a::u=>by
  have b:=AfI c u;have ne:=AfH c u;unfold Le;split
  ·rename_i h;cases e:Le c u with
   |nil=>exact z9 e ne
   |cons w ws=>rw[e]at b;show[]++c::jn c (w::ws)=_;rw[b,h];rfl
  ·cases e:Le c u with
   |nil=>exact z9 e ne
   |cons w ws =>
    rw[e]at b;cases ws with
    |nil=>have b:w=u:=b;show a::w=_;rw[b]
    |cons v r=>have b:w++c::jn c (v::r)=u:=b;show(a::w)++c::jn c (v::r)=_;rw[List.cons_append,b]
theorem AfJ(c:Nat):∀u,∀w∈Le c u,c∉w
 |[],w,h=>by unfold Le at h;rw[zF.mp h];simp
 |a::u,w,h=>by
  have b:=AfJ c u;unfold Le at h;split at h
  ·rcases zZ.mp h with rfl|h
   ·simp
   ·exact b w h
  ·rename_i d;split at h
   ·rw[zF.mp h];simp;exact λz=>d z.symm
   ·rename_i v ws e;rcases zZ.mp h with rfl|h
    ·rw[Ati,not_or];exact⟨λz=>d z.symm,b v (by rw[e];simp)⟩
    ·exact b w (by rw[e];simp[h])
theorem AmW:(Str.ofString "\n")=⟨#[10]⟩:=Ap
theorem AfK(ps:NU):Txt.join "\n" ps=tx (jn 10 (ps.map λz=>z.cps.toList)):=by have:=AcF [10] (ps.map λz=>z.cps.toList);rw[AjO,AjN]at this;rw[AmW];exact this
theorem Aem(ne:ps≠[])(no:∀p∈ps,10∉p.cps.toList):Txt.split (Txt.join "\n" ps) "\n"=ps:=by rw[AfK,AmW,Wg Ab (ws:=ps.map λz=>z.cps.toList) (by simpa using ne) Z (λw hw=>by obtain⟨p,a,rfl⟩:=zY.mp hw;exact no p a),AjO]
theorem AjP{c B:Nat}:∀{ws:NN},(∀w∈ws,w.length<=B)->(jn c ws).length<=ws.length*(B+1)
 |[],_=>Atg _
 |[w],h=>by have:=h w At;show w.length<=_;simp;lia
 |w::v::r,h=>by
  have h1:=h w At;have h2:=AjP (c:=c) (ws:=v::r) λx a=>h x (Ath _ a);show(w++c::jn c (v::r)).length<=_;rw[Atm,At2,At2 (as:=v::r),Nat.succ_mul];lia
theorem AjQ(h:∀p∈ps,p.length<=B):(Txt.join "\n" ps).length<=ps.length*(B+1):=by
 rw[AfK,Cv];have:=AjP (c:=10) (B:=B) (ws:=ps.map λz=>z.cps.toList) λw hw=>by obtain⟨p,a,rfl⟩:=zY.mp hw;exact h p a
 rwa [AsZ]at this
theorem AaG{B:Nat}:∀{ps:NU},(∀p∈ps,p.length<=B)->(ps.map (·.length)).sum<=ps.length*B
 |[],_=>Atg _
 |p::ps,h=>by
  have h1:=h p At;have h2:=AaG λx a=>h x (Ath p a);rw[Atw,List.sum_cons,At2,Nat.succ_mul];lia
def gp (n:Nat):Str:=tx (List.replicate n [32]).flatten
def lnS (q:Qn)(n p:Nat):Str:=gp p ++ "?" ++ gp n++Txt.join (gp n) (Txt.words q.z)
def stS (s:Str):Str:=Txt.stripChars s " "
def cuS (s:Str):Str:=tx (Ads s.cps.toList (some 1) none)
def isQ (s:Str):Bool:=Txt.startswith s "?"
def wU (u:NL):NN:=(Le 32 u).filter λw=>decide (w≠[])
theorem AfL:(Str.ofString " ")=tx [32]:=Ap
theorem AmX:(Str.ofString "?")=tx [63]:=Ap
theorem Ar9:(Str.ofString "")=tx []:=Ap
theorem AcG(u:NL):Txt.split (tx u) " "=(Le 32 u).map tx:=by rw[AfL];exact Wg Ab (AfH _ _) (AfI _ _) (AfJ _ _)
theorem AhX{u v:NL}(h:tx u=tx v):u=v:=by
 have:=congrArg (λz:Str=>z.cps.toList) h
 simpa [tx]using this
theorem AjR(u:NL):wds (tx u)=(wU u).map tx:=by
 unfold wds wU;rw[AcG,List.filter_map]
 congr 1
 refine List.filter_congr λw _=>?_;show decide (tx w≠_)=_;rw[Ar9];by_cases h:w=[]
 ·subst h;simp
 ·have h2:¬tx w=tx []:=λe=>h (AhX e);simp[h,h2]
def lnU (z:NL)(n p:Nat):NL:=(List.replicate p [32]).flatten++[63]++(List.replicate n [32]).flatten++jnS (List.replicate n [32]).flatten (wU z)
def ckW (q:Qn):Bool:=decide (Txt.words q.z=(wU q.z.cps.toList).map tx) && Nat.ble q.z.length 200 && Nat.ble (wU q.z.cps.toList).length 200 && ((wU q.z.cps.toList).all λw=>Nat.ble w.length 200) && kOk q
def ckU (z:NL)(n p:Nat):Bool:=(λu v=>decide (v.head?=some 63) && decide (wU v.tail=wU z) && !u.contains 10 && Nat.ble u.length 200) (lnU z n p) (trim (lnU z n p))
theorem Amn:((qr++qa).all ckW)=true:=Ap
theorem Amo:((qr++qa).all λq=>[1,2,3].all λn=>[0,1].all λp=>ckU q.z.cps.toList n p)=true:=Ap
structure CkL (q:Qn)(n p:Nat):Prop where
 wd:Txt.words q.z=(wU q.z.cps.toList).map tx
 zl:q.z.length<=200
 wl:(wU q.z.cps.toList).length<=200
 wb:∀w∈wU q.z.cps.toList,w.length<=200
 e:lnS q n p=tx (lnU q.z.cps.toList n p)
 iq:isQ (stS (lnS q n p))=true
 w:wds (cuS (stS (lnS q n p)))=wds q.z
 no:10∉(lnS q n p).cps.toList
 l:(lnS q n p).length<=200
 l1:(stS (lnS q n p)).length<=200
 l2:(cuS (stS (lnS q n p))).length<=200
 l3:(Txt.split (cuS (stS (lnS q n p))) " ").length<=201
 k:kOk q=true
theorem ZS(u v:NL):tx u++tx v=tx (u++v):=by show Str.mk _=Str.mk _;simp[tx]
theorem AjS(u:NL):(trim u).length<=u.length:=by unfold trim;rw[AtH];refine Atf (List.dropWhile_sublist _).length_le ?_;rw[AtH];exact(List.dropWhile_sublist _).length_le
theorem AcH(c:Nat):∀u,(Le c u).length<=u.length+1
 |[]=>AsY _
 |a::u=>by
  have b:=AcH c u;unfold Le;split
  ·simp;lia
  ·cases e:Le c u with
   |nil=>simp
   |cons w ws=>rw[e]at b;simp at b ⊢;lia
theorem AsH(u:NL):Ads u (some 1) none=u.tail:=by
 unfold Ads;rw[HT.AaW,show(1:Int)=((1:Nat):Int) from Z,HT.Ae0];cases u with
 |nil=>rfl
 |cons a u=>simp
theorem ArA{q:Qn}{n p:Nat}(h1:ckW q=true)(h2:ckU q.z.cps.toList n p=true):CkL q n p:=by
 unfold ckW at h1;simp only [Ata,decide_eq_true_eq,Atp]at h1;obtain⟨⟨⟨⟨f,m⟩,j⟩,l⟩,o⟩:=h1;unfold ckU at h2;simp only [Ata,decide_eq_true_eq,At7]at h2;obtain⟨⟨⟨h,c⟩,d⟩,a⟩:=h2;have a:=Aub a;have e:lnS q n p=tx (lnU q.z.cps.toList n p):=by
  unfold lnS lnU gp;rw[f,AcF,AmX,ZS,ZS,ZS]
 have t1:=AjS (lnU q.z.cps.toList n p);have r:=e;obtain⟨u,i⟩:∃u,lnU q.z.cps.toList n p=u:=⟨_,Z⟩;rw[i]at e h c d a t1;have es:stS (tx u)=tx (trim u):=by unfold stS;rw[AfL,Al2]
 have b:cuS (tx (trim u))=tx (trim u).tail:=by unfold cuS;rw[<-AsH];rfl
 have pl:=AcH 32 (trim u).tail;have tt:(trim u).tail.length<=(trim u).length:=by rw[List.length_tail];lia
 refine⟨f,Aub m,Aub j,λw hw=>Aub (l w hw),r,?_,?_,?_,?_,?_,?_,?_,o⟩
 ·rw[e,es];unfold isQ;rw[AmX,AgI];exact zK h
 ·rw[e,es,b,AjR,c,<-AjR];rfl
 ·rw[e];simpa [tx]using d
 ·rw[e,Cv];exact a
 ·rw[e,es,Cv];lia
 ·rw[e,es,b,Cv];lia
 ·rw[e,es,b,AcG,AsZ];lia
abbrev Lx:=Qn×Nat×Nat
def lnX (x:Lx):Str:=lnS x.1 x.2.1 x.2.2
structure OkX (x:Lx):Prop where
 r:Ahq x.1=true
 c:CkL x.1 x.2.1 x.2.2
def bkL:NU:=["plain = twill(1,1)","over = rows(##,#.)","set : 3 5 3 / 5, 3 / 1 0"]
theorem ArB:bkL.map stS=bkL:=Ap
theorem ApD:(bkL.all λs=>!isQ s && !s.cps.toList.contains 10 && Nat.ble s.length 200)=true:=Ap
theorem Amp:Txt.join "\n" bkL=AcC:=Ap
theorem Amq{xs:NU}(h:∀x∈xs,isQ x=true):(bkL++xs).filter isQ=xs/\(bkL++xs).filter (λl=>!isQ l)=bkL:=by
 have b:=ApD;rw[Atp]at b;have a:∀s∈bkL,isQ s=false:=λs hs=>by have:=b s hs;simp only [Ata,At7]at this;exact this.1.1
 rw[Aua,Aua];constructor
 ·rw[List.filter_eq_nil_iff.mpr (λs hs=>by rw[a s hs];decide),List.filter_eq_self.mpr h,Auh]
 ·rw[List.filter_eq_self.mpr (λs hs=>by rw[a s hs];rfl),List.filter_eq_nil_iff.mpr (λs hs=>by rw[h s hs];decide),At6]
theorem Rv{p:Str->Bool}{x:Str}(h:ws[i]?=some x):(ws.take (i+1)).filter p=(ws.take i).filter p++(if p x=true then [x] else []):=by
 rw[Auo,h,Aua]
 congr 1
 simp only [Option.toList_some,List.filter_cons,List.filter_nil]
theorem AfM(p:Str->Bool)(i:Nat):((ws.take i).filter p).length<=i:=Atf (List.length_filter_le _ _) (by rw[AtB];exact Nat.min_le_left _ _)
theorem ApE{c:Ct}{ρ:NO}{A:AH}{a:NX}(e:Emb c ρ A H)(h:H a=none):a∉ρ:=λm=>by
 obtain⟨i,hi,ea⟩:=List.mem_iff_getElem.mp m;have l:=e.len;obtain⟨q,b,_⟩:=(e.obj i _ a (Atc (show i<A.length by lia)) (by rw[Atc hi,ea])).some;rw[h]at b;cases b
def Ds (H:Hp)(xs:List Lx)(as:Nn):Prop:=∀(j:Nat)(x:Lx)(a:V),xs[j]?=some x->as[j]?=some a->Cn H (DX x.1).1 5 (DX x.1).2 a
theorem Ds.same{H':Hp}(d:Ds H xs as)(s:Ai H H'):Ds H' xs as:=λj x a h1 h2=>(d j x a h1 h2).same s
theorem Ds.push{x:Lx}{a:V}(d:Ds H xs as)(h:xs[as.length]?=some x)(c:Cn H (DX x.1).1 5 (DX x.1).2 a):Ds H xs (as++[a]):=λj y b h1 h2=>by
 by_cases e:j<as.length
 ·rw[Atv e]at h2;exact d j y b h1 h2
 ·rw[Atu As]at h2;have z:j-as.length=0:=by
   have:=(zC.mp h2).1;simp at this;lia
  rw[z]at h2;cases h2;rw[show j=as.length by lia,h]at h1;cases h1;exact c
end Mine
namespace Mine
open PySem L2 IV
section
variable {P:Program}{w:World}{K:NA}{mg:Str->NW}{base:Heap}{t:Adr}{tc tT:NX}
inductive ApF (c:Ct)(vs:Nn)(H:Hp)(Q:VK)(z3:XK):Prop
|mk(xs:List Lx)(_:vs=[.str (Txt.join "\n" (bkL++xs.map lnX))])(_:(∀x∈xs,OkX x))(_:xs.length<=20)(_:Tb c.tT c.tq H)(_:∀p as H',Ai H H'->Tb c.tT c.tq H'->H' p=some (.lst as)->as.length=xs.length->Ds H' xs as->Q (.ref p) H')
theorem Yh(T:Txt K mg t)(R:t.Bj.code=.ref tc)(hC:W.CodeHd base tc tT)(hB:Bm mg base):BR P w K mg base (CX1 P w) 143 t.HQ t.HR ["paper"] (ApF (ct P w K mg base t tc tT)):=by
 have a6:BR P w K mg base (CX1 P w) 141 t.Gb t.Ge _ _:=AaD T R hC hB;have a2:BR P w K mg base CX0 142 t.Kw t.Ky _ _:=AaF T R hC hB;have a3:BR P w K mg base CX0 1 t.Oo t.Oq _ _:=AcD T;refine T.HS.F.okX Gr ?_;rintro _ _ _ _ H _ Q E hr ⟨xs,rfl,ok,a8,tb,k⟩;have bq:=ApD;rw[Atp]at bq;have lf:∀p∈bkL++xs.map lnX,10∉p.cps.toList/\p.length<=200:=λp u=>by
  rcases zG.mp u with u|u
  ·have:=bq p u;simp only [Ata,At7]at this;exact⟨by simpa using this.1.2,Aub this.2⟩
  ·obtain⟨x,f,rfl⟩:=zY.mp u;exact⟨(ok x f).c.no,(ok x f).c.l⟩
 have U:bkL++xs.map lnX≠[]:=by simp[bkL]
 have A:(bkL++xs.map lnX).length<=23:=by rw[Atm,AsZ];show 3+_<=_;lia
 have et:(bkL++xs.map lnX).map stS=bkL++xs.map λx=>stS (lnX x):=by rw[At8,ArB,AtD];rfl
 have hsz:sizeLine=16777216:=zS;have D:=Aem U λp u=>(lf p u).1;have I:=AjQ (B:=200) λp u=>(lf p u).2;generalize bkL++xs.map lnX=L at lf U A et D I ⊢;have I:(Txt.join "\n" L).length<=23*201:=Atf I (Aup A (AsY _));refine⟨_,(BW (PS.nox (Ak8 (i:=1) (J4.mk (Aw:=[]) (Nc:=["line"]) Z Ap Ap (Vh (sc0:=Ac CK) Z Ap) Z rfl Z Ap (λ_ _ h=>by simp at h)) Z Gr.nd Z rfl (J7 (K:=K) (Eo (K:=K) zI zR F.type_str_split Px (pv 0) (Ae Be Al))) (λ_ _ _ _ _=>.nil) (λ_ _ _ _ _=>(Eo (K:=K) zI F.slot_str_strip F.type_str_strip AbD (pv 0) (Ae Be Al))) Z))
  (BW (Hy (i:=2) Gr.nd Z (Or.inr Z) (Fq (a6.mono Ab) hr Z T.Ht.m T.Ht.F.kp T.Ht.b .nil Abf (Ae (Eo (K:=K) zI F.slot_str_join F.type_str_join (Pg (K:=K)) Be (Ae (PE.nox (ZQ (J4.mk (Aw:=[]) (Nc:=["line"]) Z Ap Ap (Vh (sc0:=Ac CK) Z Ap) Z rfl Z Ap (λ_ _ h=>by simp at h)) Z (J7 (K:=K) (pv 1)) (λ_ _ _ _ _=>.one (AcY (Ahz (Eo (K:=K) zI F.slot_str_startswith F.type_str_startswith R6 (pv 0) (Ae Be Al))))) (λ_ _ _ _ _=>(pv 0)))) Al)) Al)))
  (Aq (By (PE.nox (ZQ (J4.mk (Aw:=[2]) (Nc:=["line","book"]) Z Ap Ap (Vh (sc0:=Ac CK) Z Ap) Z rfl Z Ap (λk j h=>match k,h with | 0,h=>by obtain rfl:=yB h;exact⟨_,Z,Z,Z⟩|_+1,h=>by simp at h)) Z (J7 (K:=K) (pv 1)) (λ_ _ _ _ _=>.one (Ahz (Eo (K:=K) zI F.slot_str_startswith F.type_str_startswith R6 (pv 0) (Ae Be Al)))) (λ_ _ _ _ _=>(Fq (a2.mono (by decide)) hr Z T.Lz.m T.Lz.F.kp T.Lz.b .nil Am0 (Ae (Fq (a3.mono (by decide)) hr Z T.words_of.m T.words_of.F.kp T.words_of.b .nil Am0 (Ae (V5 Ail (pv 0) (Ve DP) Z8) Al)) (Ae (pv 1) Al)))))))))),?_⟩;refine⟨_,Z,Z,.two _ "\n" rfl Z Ap As (by rw[D];lia) λl hl=>?_⟩;rw[D];obtain⟨H1,e9,s1,h1⟩:=nu9 (o:=.lst (L.map V.str)) (.refl _) hl;rw[e9];refine⟨_,Z,⟨_,yS h1⟩,Lg (K:=K) (a:=l) (xs:=L.map V.str) (λi ys G=>G=H1/\ys=((L.take i).map stS).map V.str) ⟨Z,Z⟩ ?_ ?_ ?_ ?_⟩
 ·rintro i ys G hi ⟨rfl,rfl⟩;refine⟨yS h1,?_⟩;rw[AsZ,AsZ,AtB];exact Nat.min_le_left _ _
 ·rw[AsZ];lia
 ·rintro i xv ys G hi f ⟨rfl,rfl⟩;obtain⟨b,n,rfl⟩:=AaE f;refine Sw.no ?_;have:=(lf b (Ato n)).2;refine⟨_,Z,Z,_,_,Z,Z,As,?_⟩;refine CN.of hi ⟨Z,?_⟩;rw[Auo,n,At8,At8];rfl
 ·rintro ys G p1 ⟨rfl,rfl⟩ a7;rw[AsZ,Auq];have tl:(L.map stS).length<=23:=by rw[AsZ];exact A
  generalize L.map stS=e at et tl ⊢;have hf:=Amq (xs:=xs.map λx=>stS (lnX x)) λs hs=>by obtain⟨x,f,rfl⟩:=zY.mp hs;exact(ok x f).c.iq
  rw[<-et]at hf;obtain⟨H2,e9,s2,h2⟩:=nu9 (o:=.lst (e.map V.str)) s1 a7;rw[e9];refine CQ Z rfl ?_;refine⟨Z,_,Z,_,Z,⟨_,yS h2⟩,Lg (K:=K) (a:=p1) (xs:=e.map V.str) (λi ys G=>G=H2/\ys=((e.take i).filter λl=>!isQ l).map V.str) ⟨Z,Z⟩ ?_ ?_ ?_ ?_⟩
  ·rintro i ys G hi ⟨rfl,rfl⟩;refine⟨yS h2,?_⟩;rw[AsZ];exact AfM _ _
  ·rw[AsZ];lia
  ·rintro i xv ys G hi f ⟨rfl,rfl⟩;obtain⟨b,n,rfl⟩:=AaE f;unfold Sw;refine⟨_,Z,Z,_,_,Z,Z,?_⟩;refine⟨_,Z,?_⟩;show if (!isQ b)=true then _ else _
   refine AjL (λc=>?_) (λc=>?_)
   ·refine⟨_,Z,CN.of hi ⟨Z,?_⟩⟩;rw[Rv n,z8 c,At8];rfl
   ·exact CN.of hi ⟨Z,by rw[Rv n,z7 (by rw[c];decide),At6]⟩
  ·rintro ys G p2 ⟨rfl,rfl⟩ a1;rw[AsZ,Auq,hf.2];have s3:Ca H (upd G p2 (.lst (bkL.map V.str))):=s2.new a1;have h3:(upd G p2 (.lst (bkL.map V.str))) p2=some (.lst (bkL.map V.str)):=Ad;have S:(upd G p2 (.lst (bkL.map V.str))) p1=some (.lst (e.map V.str)):=by rw[Af (Az h2 a1)];exact h2
   generalize upd G p2 (.lst (bkL.map V.str))=H3 at s3 h3 S ⊢;refine⟨_,p2,bkL,Z,Z,yS h3,Ap,?_⟩;rw[Amp];refine⟨Z,tb.same s3,λH4 bk ρ s4 em e6=>?_⟩;refine CQ Z rfl ?_;have h4:H4 p1=some (.lst (e.map V.str)):=s4.lst S;have u4:=s3.toT.trans s4;refine⟨_,Z,_,Z,⟨_,yS h4⟩,Lg (K:=K) (a:=p1) (xs:=e.map V.str) (λi ys G=>Ai H4 G/\Tb tT (ct P w K mg base t tc tT).tq G/\ys.length=((e.take i).filter isQ).length/\Ds G xs ys) ⟨λ_ _ h _=>h,em.tb,Z,λj x a _ h=>by simp at h⟩ ?_ ?_ ?_ ?_⟩
   ·rintro i ys G hi ⟨v,J,y,d⟩;refine⟨yS (v.lst h4),?_⟩;rw[y];exact AfM _ _
   ·rw[AsZ];lia
   ·rintro i xv ys G hi f ⟨v,J,y,d⟩;obtain⟨b,n,rfl⟩:=AaE f;unfold Sw;refine⟨_,Z,Z,_,_,Z,Z,?_⟩;refine⟨_,Z,?_⟩;show if isQ b=true then _ else _
    refine AjL (λc=>?_) (λc=>?_)
    ·have N:(xs.map λx=>stS (lnX x))[ys.length]?=some b:=by
      have e1:e.filter isQ=(e.take i).filter isQ++(b::(e.drop (i+1)).filter isQ):=by
       have a0:i<e.length:=(zC.mp n).1;have a5:e[i]=b:=by have:=Atc a0;rw[n]at this;injection this with this;exact this.symm
       conv=>lhs;rw[<-AtW i e]
       rw[Aua,Aux a0,a5,List.filter_cons_of_pos c]
      rw[<-hf.1,e1,y,Atu (AsY _),Auf];rfl
     rw[Atn]at N;obtain⟨x,Y,rfl⟩:=Option.map_eq_some_iff.mp N;have O:=ok x (Ato Y);have o1:=O.c.l1;have o2:=O.c.l2;have o3:=O.c.l3;refine⟨_,Z,_,Z,(stS (lnX x)).cps.toList,Z,(by rw[<-Cv];exact Atf o1 As),?_⟩;refine⟨_,Z,Atf o2 Ab,Atf o3 Ab,λwp G1 g1 hw hn=>?_⟩;have t1:=J.same g1;have a4:=em.AmV (v.trans g1.toT) t1;have hw:G1 wp=some (.lst ((wds x.1.z).map V.str)):=by rw[<-O.c.w];exact hw
     refine⟨_,Z,wp,bk,ρ,x.1,Z,O.r,O.c.k,a4,e6,ApE (em.AmV v J) hn,hw,λG2 a g2 t2 hc=>?_⟩;have X:=g1.toT.trans g2;refine CN.of hi ⟨v.trans X,t2,by rw[Rv n,z8 c,Atm,Atm,y];rfl,(d.same X).push Y hc⟩
    ·exact CN.of hi ⟨v,J,by rw[Rv n,z7 (by rw[c];decide),At6];exact y,d⟩
   ·rintro ys G q ⟨v,J,y,d⟩ C;rw[AsZ,Auq,hf.1,AsZ]at y;exact k q ys _ (Ai.new (u4.trans v) C) (J.same (.upd C)) Ad y (d.same (Ca.upd C).toT)
end
end Mine
namespace IV
open PySem PySem.Spec PyProof.Rows L2
section
variable {c:Ct}{T:Tt}{fa:Nat->NX}{fd:Nat->NY}{n:Nat}{r:Rc}{X:Cx}{ie:IE}{E:XK}{D:Ends}
def Aht (r:Rc)(ie:IE)(y:Str):List Nl->Option V->AH->Option (Option V×AH)
 |[],va,A=>some (va,A)
 |st::rest,va,A=>match st with
  | .Assign [.Name x _] e _=>if decide (x=y) && !Aay e then match r.ev ie e [none,va] A with
    |some (.ok u,A1)=>Aht r ie y rest (some u) A1
    |_=>none
   else none
  |_=>none
theorem Aeo(S:Snd c T fa fd n r)(C:COk c T fa fd)(G:GdB c E (n+1) ie X){y:Str}(hi:slot ie y=some 1)(o:loc ie y=true){m:Option V}{b:List Nl}:∀{l:List Nl} {d f v:Option V} {A A':AH} {ρ:NO} {H:Hp},Aht r ie y l d A=some (f,A')->Emb c ρ A H->RS ρ d v->(∀a H' i,Ext c ρ H a A' H'->RS a f i->Ws X b D [m,i] H')->Ws X (l++b) D [m,v] H
 |[],d,f,v,A,A',ρ,H,h,em,rs,k=>by cases h;exact k ρ H _ (.refl em) rs
 |st::rest,d,f,v,A,A',ρ,H,h,em,rs,k=>by
  unfold Aht at h;split at h
  ·next x py e pos =>
   split at h
   ·next hc =>
    rw[Ata]at hc;have z:=yF hc.1;subst z;split at h
    ·next u A1 h1 =>
     refine AbU (BW AmO PN) ?_;refine Cj (Hy G.nd (Eh G.toGd hi) (G.loc x o) Ag (Aa7 (by simpa using hc.2) _) (.inl (G.fn x))) (S.ev G.toGd h1 em (.cons .no (.cons rs .nil)) λρ1 H1 B j w=>?_);exact Aeo S C G hi o h j.em (.yes w) λρ2 H2 p s t=>k ρ2 H2 p (j.trans s) t
    ·cases h
   ·cases h
  ·cases h
theorem ApG{q:Str}{st:Nl}{f:NX}{a:Nd}{A:Around}{outer:List Env}{s:Na}{H:Hp}(b:Bf (dN st) (dP st) (Ac st))(d:BX n (A.deeper (envOfC q (Ac st) s.heap.objs.size f a))):GdB c E n ⟨dN st,Ac st,false⟩ (cx1 c.P c.w c.K c.mg c.base (dN st) q (Ac st) f a A outer s H E):={
  prog:=rfl,w:=rfl,K:=rfl,mg:=rfl,base:=rfl,N:=rfl
  vis:=λx h=>by
   unfold IV.vis at h;split at h
   ·next e=>exact .inl e
   ·next e=>exact .inr (.inl e)
   ·next e=>exact .inr (.inr e)
   ·cases h
  gl:=λx h=>by
   unfold Wx at h;split at h
   ·next e=>exact e
   ·cases h
  cell:=λx h=>h
  kind:=b.kind,room:=d,pass:=Abf,calm:=rfl
  lam:=nofun
  body:=Am3,xe:=λ_ _ z=>z,xq:=rfl,nd:=b.nd
  loc:=λx h=>by
   unfold IV.loc at h;split at h
   ·next e=>exact .inl e
   ·next e=>exact .inr e
   ·cases h
  fn:=λ_=>rfl}
end
end IV
namespace Mine
open PySem L2 IV
variable {c:Ct}{n:Nat}{A:AH}{H H' G:Hp}{qs:List Qn}{ρ:NO}{i:Int}{vs xs:Nn}
def ieF (st:Nl):IE:=⟨dN st,Ac st,false⟩
section
open PySem.Spec PyProof.Rows
theorem ArC{E:XK}{q:Str}{st:Nl}{f:NX}{a:Nd}{A:Around}{outer:List Env}{s:Na}(h:Zv ⟨st,false⟩=true)(b:BX n (A.deeper (envOfC q (Ac st) s.heap.objs.size f a))):GdB c E n (ieF st) (cx1 c.P c.w c.K c.mg c.base (dN st) q (Ac st) f a A outer s H E):=ApG (AfF h) b
end
def Pr (H:Hp)(q:Qn)(x:V):Prop:=match q.du with
 | .inl k=>x=.str (nmX.getD k "")
 | .inr (B,u)=>Cn H B 5 u x
def ckP (A:AH)(q:Qn)(v:V):Bool:=match v,q.du with
 | .ref i,.inl k=>decide (A[i]?=some (.tup [.str q.z,.str (nmX.getD k "")]))
 | .ref i,.inr (B,u)=>match A[i]? with
  |some (.tup [.str z,w])=>decide (z=q.z) && eqA A B 5 w u
  |_=>false
 |_,_=>false
def okP (st:Nl)(n:Nat)(qs:List Qn):Bool:=match Aht (go tt 14) (ieF st) "some" ((Bl st).take n) none []with
 |some (some (.ref i),A)=>match A[i]? with
  |some (.lst vs)=>vs.length == qs.length && (vs.zip qs).all λp=>ckP A p.2 p.1
  |_=>false
 |_=>false
theorem ArD:okP Ax 17 qr=true:=Ap
theorem ArE:okP Ao 7 qa=true:=Ap
theorem ArF:Zv ⟨Ax,false⟩=true:=Ap
theorem ArG:Zv ⟨Ao,false⟩=true:=Ap
theorem AsI:dN Ax=(["cell","some"]:NU):=Ap
theorem AsJ:dN Ao=(["cell","some"]:NU):=Ap
theorem AsK:slot (ieF Ax) "some"=some 1/\loc (ieF Ax) "some"=true:=Ap
theorem AsL:slot (ieF Ao) "some"=some 1/\loc (ieF Ao) "some"=true:=Ap
theorem AcK{st:Nl}(h:okP st n qs=true):∃i A vs,Aht (go tt 14) (ieF st) "some" ((Bl st).take n) none []=some (some (.ref i),A)/\A[i]?=some (.lst vs)/\vs.length=qs.length/\∀(j:Nat) q v,qs[j]?=some q->vs[j]?=some v->ckP A q v=true:=by
 unfold okP at h;split at h
 ·next i A e =>
  split at h
  ·next vs ea =>
   rw[Ata]at h;exact⟨i,A,vs,e,ea,eq_of_beq h.1,λj q v h1 h2=>zip_get (f:=λv q=>ckP A q v) h.2 h2 h1⟩
  ·cases h
 ·cases h
def Nw (H H' G:Hp):Prop:=∀b o,G b=some o->H' b=some o/\(∀ps,o≠.tbl ps)/\∀o',H b=some o'->∃ps,o'=.tbl ps
theorem AjT(x:Ext c [] H ρ A H'):∃G,Nw H H' G/\∀(i:Nat)(o:AO)(a:NX),A[i]?=some o->ρ[i]?=some a->RO c ρ G a o:=by
 refine⟨λb=>if b∈ρ then H' b else none,λb o h=>?_,λi o a h1 h2=>(x.em.obj i o a h1 h2).same λo' e _=>?_⟩
 ·by_cases d:b∈ρ
  ·have h:(if b∈ρ then H' b else none)=some o:=h;rw[z8 d]at h;obtain⟨i,hi⟩:=List.getElem?_of_mem d;have l:i<A.length:=by rw[<-x.em.len];exact(zC.mp hi).1
   obtain⟨q,e,n⟩:=(x.em.obj i _ b (Atc l) hi).some;rw[h]at e;cases e;exact⟨h,n,(x.nw b d).resolve_left At⟩
  ·have h:(if b∈ρ then H' b else none)=some o:=h;rw[z7 d]at h;cases h
 ·show(if a∈ρ then H' a else none)=some o';rw[z8 (Ato h2),e]
theorem ApH{q:Qn}{v y:V}(e:∀(i:Nat)(o:AO)(a:NX),A[i]?=some o->ρ[i]?=some a->RO c ρ H a o)(h:ckP A q v=true)(r:RV ρ v y):∃a x,y=.ref a/\H a=some (.tup [.str q.z,x])/\Pr H q x:=by
 unfold ckP at h;unfold Pr;cases j:q.du with
 |inl k =>
  rw[j]at h
  match v,h with
  | .ref i,h =>
   have h:=yF h;obtain⟨a,rfl,d⟩:=r.Gq;obtain⟨ys,f,b⟩:=e _ _ a h d;cases RVs.flat b Z;exact⟨a,_,Z,f,Z⟩
 |inr p =>
  obtain⟨B,u⟩:=p;rw[j]at h
  match v,h with
  | .ref i,h =>
   obtain⟨a,rfl,d⟩:=r.Gq;dsimp only at h;split at h
   ·next z w ha =>
    rw[Ata]at h;obtain⟨ys,f,b⟩:=e _ _ a ha d;have n:=yF h.1;subst n;cases b with
    |cons m b =>
     cases b with
     |cons l b =>
      cases b;cases m.Ci Z;exact⟨a,_,Z,f,AfG e h.2 l⟩
   ·cases h
theorem st0{N:NU}(h:N=(["cell","some"]:NU)):L2.start N [V.int i]=[some (.int i),none]:=by rw[h];rfl
section
variable {P:Program}{w:World}{K:NA}{mg:Str->NW}{base:Heap}{t:Adr}{tc tT:NX}
inductive AmY (c:Ct)(qs:List Qn)(vs:Nn)(H:Hp)(Q:VK)(z3:XK):Prop
|mk(i:_)(_:vs=[.int i])(_:Tb c.tT c.tq H)(_:∀q a x H' G,q∈qs->Ai H H'->Tb c.tT c.tq H'->Nw H H' G->G a=some (.tup [.str q.z,x])->Pr G q x->Q (.ref a) H')
theorem AfN{Q:VK}(hn:0<qs.length)(h:vs.length=qs.length)(u:∀(j:Nat) q v,qs[j]?=some q->vs[j]?=some v->ckP A q v=true)(f:Nw H H' G)(m:∀(i:Nat)(o:AO)(a:NX),A[i]?=some o->ρ[i]?=some a->RO c ρ G a o)(tb:Tb c.tT c.tq H')(b:RVs ρ vs xs)(s:Ai H H')
  (k:∀q a x H' G,q∈qs->Ai H H'->Tb c.tT c.tq H'->Nw H H' G->G a=some (.tup [.str q.z,x])->Pr G q x->Q (.ref a) H'):∃y,xs[(i%(xs.length:Int)).toNat]?=some y/\Q y H':=by
 have B:xs.length=qs.length:=by rw[<-Pd.len b,h]
 have p:0<=i%(xs.length:Int):=AtX _ As;have p2:i%(xs.length:Int)<xs.length:=Aun _ As;obtain⟨j,d⟩:∃j,(i%(xs.length:Int)).toNat=j:=⟨_,Z⟩;have w:j<xs.length:=As
 rw[d];have e1:=Atc (show j<vs.length by lia);have e:=Atc (show j<qs.length by lia);obtain⟨y,t,r⟩:=Pd.get b e1;obtain⟨a,x,rfl,l,n⟩:=ApH m (u j _ _ e e1) r;exact⟨_,t,k _ a x H' G (At9 _) s tb f l n⟩
end
end Mine
namespace Mine
open PySem L2 IV
seal Aht go okP ieF
section
variable {P:Program}{w:World}{K:NA}{mg:Str->NW}{base:Heap}{t:Adr}{tc tT:NX}
theorem XM(T:Txt K mg t)(d:t.Bj.code=.ref tc)(D:W.CodeHd base tc tT)(hB:Bm mg base):BR P w K mg base (CX1 P w) 31 t.Nt t.Nu ["cell"] (AmY (ct P w K mg base t tc tT) qr):=by
 have C:=cok (P:=P) (w:=w) T d D hB;have v:Bf (dN Ax) (dP Ax) (Ac Ax):=AfF ArF;refine Ap2 (k:=30) T.Gm.F v (λvs H Q E h=>?_) (λA outer s H vs Q E B h=>?_)
 ·obtain⟨i,rfl,_⟩:=h;rfl
 ·obtain⟨i,rfl,tb,k⟩:=h;refine⟨_,PN,?_⟩;obtain⟨Y,X,vs,h1,h2,j,p⟩:=AcK ArD;rw[<-AtW 17 (Bl Ax)];rw[st0 AsI];have S:=sound C 14;have G:=ArC (c:=ct P w K mg base t tc tT) (E:=E) (outer:=outer) (H:=H) ArF B;have b:=AsK;generalize go tt 14=r at S h1;generalize ieF Ax=ie at G h1 b;generalize List.take 17 (Bl Ax)=l at h1 ⊢;generalize u:List.drop 17 (Bl Ax)=n;refine Aeo S C G b.1 b.2 h1 (LK tb) .no ?_;intro m H' U x N;cases N with
  |yes rv =>
  obtain⟨a,rfl,z⟩:=rv.Gq;obtain⟨ys,e,f⟩:=x.em.obj _ _ a h2 z;have I:=Ld x (LK tb) (zK Z) Z;obtain⟨R,L,o⟩:=AjT x;obtain⟨y,e1,J⟩:=AfN (i:=i) Ab j p L o x.em.tb f I k;subst u;refine AbU (Aq (By (Su (Pb (K:=K)) (pv 1) (Cy Rw (pv 0) (Jy (Dk (K:=K)) Z T.Af5 ZV (Ae (pv 1) Al))) (λ_ _=>rfl)))) ?_;refine⟨_,Z,_,Z,_,Z,_,_,Z,.inl (yS e),?_⟩;have O:ys.length=46:=by rw[<-Pd.len f,j];rfl
  refine⟨i,_,Z,Z,(by show(0:Int)<(ys.length:Int);lia),?_⟩;exact⟨a,ys,_,y,Z,Z,yS e,ZX (AtX _ As) e1,J⟩
theorem Va(T:Txt K mg t)(d:t.Bj.code=.ref tc)(D:W.CodeHd base tc tT)(hB:Bm mg base):BR P w K mg base (CX1 P w) 31 t.K3 t.K4 ["cell"] (AmY (ct P w K mg base t tc tT) qa):=by
 have C:=cok (P:=P) (w:=w) T d D hB;have v:Bf (dN Ao) (dP Ao) (Ac Ao):=AfF ArG;refine Ap2 (k:=30) T.Ej.F v (λvs H Q E h=>?_) (λA outer s H vs Q E B h=>?_)
 ·obtain⟨i,rfl,_⟩:=h;rfl
 ·obtain⟨i,rfl,tb,k⟩:=h;refine⟨_,PN,?_⟩;obtain⟨Y,X,vs,h1,h2,j,p⟩:=AcK ArE;rw[<-AtW 7 (Bl Ao)];rw[st0 AsJ];have S:=sound C 14;have G:=ArC (c:=ct P w K mg base t tc tT) (E:=E) (outer:=outer) (H:=H) ArG B;have b:=AsL;generalize go tt 14=r at S h1;generalize ieF Ao=ie at G h1 b;generalize List.take 7 (Bl Ao)=l at h1 ⊢;generalize u:List.drop 7 (Bl Ao)=n;refine Aeo S C G b.1 b.2 h1 (LK tb) .no ?_;intro m H' U x N;cases N with
  |yes rv =>
  obtain⟨a,rfl,z⟩:=rv.Gq;obtain⟨ys,e,f⟩:=x.em.obj _ _ a h2 z;have I:=Ld x (LK tb) (zK Z) Z;obtain⟨R,L,o⟩:=AjT x;obtain⟨y,e1,J⟩:=AfN (i:=i) Ab j p L o x.em.tb f I k;subst u;refine AbU (Aq (By (Su (Pb (K:=K)) (pv 1) (Cy Rw (pv 0) (Jy (Dk (K:=K)) Z T.Af5 ZV (Ae (pv 1) Al))) (λ_ _=>rfl)))) ?_;refine⟨_,Z,_,Z,_,Z,_,_,Z,.inl (yS e),?_⟩;have O:ys.length=11:=by rw[<-Pd.len f,j];rfl
  refine⟨i,_,Z,Z,(by show(0:Int)<(ys.length:Int);lia),?_⟩;exact⟨a,ys,_,y,Z,Z,yS e,ZX (AtX _ As) e1,J⟩
end
end Mine
namespace Mine
open PySem L2 IV
variable {p a:NX}{H H' G:Hp}{d:V}
theorem ApI{q:Qn}{n p:Nat}(a:q∈qr++qa)(hn:n∈[1,2,3])(b:p∈[0,1]):OkX (q,n,p):=by
 have h1:=Amn;have h2:=Amo;rw[Atp]at h1 h2;have h2:=h2 q a;rw[Atp]at h2;have h2:=h2 n hn;rw[Atp]at h2;refine⟨?_,ArA (h1 q a) (h2 p b)⟩;rcases zG.mp a with h|h
 ·exact ApA.mem h
 ·exact ApB.mem h
theorem ApJ:(qa.all λq=>match q.du with
  | .inr _=>true
  | .inl _=>false)=true:=Ap
theorem ApK:(qr.all λq=>match q.du with
  | .inl _=>true
  | .inr _=>false)=true:=Ap
theorem AsM{q:Qn}(a:q∈qa)(h:Pr H q d):Cn H (DX q).1 5 (DX q).2 d:=by
 have h1:=ApJ;rw[Atp]at h1;have h1:=h1 q a;unfold Pr at h;unfold DX;cases e:q.du with
 |inl k=>rw[e]at h1;cases h1
 |inr p=>rw[e]at h;exact h
theorem AsN{q:Qn}(c:q∈qr)(h:Pr H q d)(f:H' a=some (.tup [.str "refused",d])):Cn H' (DX q).1 5 (DX q).2 (.ref a):=by
 have h1:=ApK;rw[Atp]at h1;have h1:=h1 q c;unfold Pr at h;unfold DX;cases e:q.du with
 |inr k=>rw[e]at h1;cases h1
 |inl k =>
  rw[e]at h;subst h;refine .tup Z f Z λj x y ex b=>?_;rw[ex]at b;cases b
  match j,ex with
  | 0,ex=>cases ex;exact .flat Z
  | 1,ex=>cases ex;exact .flat Z
theorem Nw.push(n:Nw H H' G)(s:Ai H H'){o:HO}(d:H' p=none)(i:∀ps,o≠.tbl ps):Nw H (upd H' p o) (upd G p o):=λb u h=>by
 by_cases e:b=p
 ·subst e;rw[Ad]at h;cases h;refine⟨Ad,i,λo' h'=>?_⟩;rcases Ai.free (o:=o) s d with a|⟨ps,a⟩
  ·rw[a]at h';cases h'
  ·rw[a]at h';cases h';exact⟨ps,Z⟩
 ·rw[Af e]at h;obtain⟨j,c,f⟩:=n b u h;exact⟨by rw[Af e];exact j,c,f⟩
theorem Nw.same{H1:Hp}(n:Nw H H1 G)(s:Ca H1 H'):Nw H H' G:=λb u h=>by
 obtain⟨d,a,c⟩:=n b u h;exact⟨s _ _ d,a,c⟩
theorem AjU(n:Nat):(gp n).length=n:=by unfold gp;rw[Cv];simp
section
variable {P:Program}{w:World}{K:NA}{mg:Str->NW}{base:Heap}{t:Adr}{tc tT:NX}
inductive ArH (c:Ct)(vs:Nn)(H:Hp)(Q:VK)(z3:XK):Prop
|mk(i:_)(_:vs=[.int i])(_:Tb c.tT c.tq H)(_:∀(x:Lx) a d H' G,OkX x->Ai H H'->Tb c.tT c.tq H'->H' a=some (.tup [.str (lnX x),d])->Nw H H' G->Cn G (DX x.1).1 5 (DX x.1).2 d->Q (.ref a) H')
theorem AcL(T:Txt K mg t)(j:t.Bj.code=.ref tc)(R:W.CodeHd base tc tT)(hB:Bm mg base):BR P w K mg base (CX1 P w) 32 t.Ov t.Ow ["cell"] (ArH (ct P w K mg base t tc tT)):=by
 refine T.Rm.F.okX Cd ?_;rintro _ _ _ _ H _ Q E N ⟨i,rfl,tb,k⟩;refine⟨_,(BW (Ams (Aey Amv (Cy Rw (Cy Vd (pv 0) DP) DP) DP (Adc _))
   (Aq (Z2 (Fq ((Va T j R hB).mono Ab) N Z T.Ej.m T.Ej.F.kp T.Ej.b .nil Abf (Ae (Cy Vd (pv 0) DP) Al)) (Z1 Z (En (Ea (i:=1) Cd.nd Z (Or.inl Z)) (En (Ea (i:=2) Cd.nd Z (Or.inl Z)) Vc)))))
   (BW (Z2 (Fq ((XM T j R hB).mono Ab) N Z T.Gm.m T.Gm.F.kp T.Gm.b .nil Abf (Ae (Cy Vd (pv 0) DP) Al)) (Z1 Z (En (Ea (i:=1) Cd.nd Z (Or.inl Z)) (En (Ea (i:=3) Cd.nd Z (Or.inl Z)) Vc))))
   (Aq (Hy (i:=2) Cd.nd Z (Or.inl Z) (DQ (Ae Be (Ae (pv 3) Al)))))))
  (BW (Hy (i:=4) Cd.nd Z (Or.inl Z) (Cy Aad Be (Cy Ada DP (Cy Rw (pv 0) DP))))
  (Aq (By (DQ (Ae (Cy Hz (Cy Hz (Cy Hz (Cy Aad Be (Cy Rw (pv 0) DP)) Be) (pv 4)) (Eo (K:=K) zI F.slot_str_join F.type_str_join (Pg (K:=K)) (pv 4) (Ae (AkA (K:=K) zI zR F.type_str_split Px (pv 1)) Al))) (Ae (pv 2) Al))))))),?_⟩;refine⟨_,Z,i,2,Z,Z,⟨Ab,Ab⟩,?_⟩;refine⟨_,4,Z,Z,Ab,?_⟩;refine⟨Z,_,Z,?_⟩;refine AjL (λc=>?aa) (λc=>?bb)
 case' aa =>
  refine⟨_,Z,i,8,Z,Z,⟨Ab,Ab⟩,?_⟩;refine⟨_,Z,tb,λq a d H1 G e x t1 s I y=>?_⟩;refine⟨a,_,Z,SqT.of (s a _ I).1,Z,?_⟩;refine⟨_,_,Z,?_⟩;refine CQ Z rfl ?_;refine⟨_,_,Z,?_⟩;refine CQ Z rfl ?_;refine⟨Z,?_⟩;have hc:=AsM e y;have e:=zG.mpr (.inr e:_∈qr\/_)
 case' bb =>
  refine⟨_,Z,i,8,Z,Z,⟨Ab,Ab⟩,?_⟩;refine⟨_,Z,tb,λq a r H0 J e L t0 h I y=>?_⟩;refine⟨a,_,Z,SqT.of (h a _ I).1,Z,?_⟩;refine⟨_,_,Z,?_⟩;refine CQ Z rfl ?_;refine⟨_,_,Z,?_⟩;refine CQ Z rfl ?_;refine⟨Z,?_⟩;refine⟨_,Z,(show 2<=sizeLine by decide),λp1 f=>?_⟩;have x:=Ai.new L (o:=.tup [.str "refused",r]) f;have t1:=t0.same (Ca.upd (o:=.tup [.str "refused",r]) f);have s:=h.push L (o:=.tup [.str "refused",r]) f nofun;have hc:=AsN e y (Ad (H:=J) (a:=p1));have e:=zG.mpr (.inl e:_\/_∈qa);generalize upd H0 p1 (.tup [.str "refused",r])=H1 at x t1 s ⊢;generalize upd J p1 (.tup [.str "refused",r])=G at s hc;obtain⟨d,Y⟩:∃d,V.ref p1=d:=⟨_,Z⟩;rw[Y]at hc ⊢;refine CQ Z rfl ?_
 all_goals
  have m3:0<=i%3:=AtX _ Ab;have X:i%3<3:=Aun _ Ab;have m2:0<=i%2:=AtX _ Ab;have a0:i%2<2:=Aun _ Ab;have hsz:sizeLine=16777216:=zS;refine⟨_,Z,i,3,Z,Z,Ab,?_⟩;refine⟨1,_,Z,Z,?_⟩;have O:=ApI (n:=(1+i%3).toNat) (p:=(i%2).toNat) e (by simp only [Ati,Atl,yE];lia) (by simp only [Ati,Atl,yE];lia);refine⟨[32],_,(by rw[AfL]),Z,As,As,(by rw[Au7];lia),?_⟩;have S:(1+i%3).toNat<=3:=As
  have n2:(i%2).toNat<=1:=As
  have C:=O.c;have v:lnS q (1+i%3).toNat (i%2).toNat=lnX (q,(1+i%3).toNat,(i%2).toNat):=rfl;unfold lnS at v;have k:=λ(a:NX)(H' G:Hp)=>k (q,(1+i%3).toNat,(i%2).toNat) a d H' G O;rw[<-v]at k;show Em _ (.str (gp (1+i%3).toNat)) _ _ _;generalize (1+i%3).toNat=n at S C k ⊢;refine CQ Z rfl ?_;refine⟨_,Z,i,2,Z,Z,Ab,?_⟩;refine⟨[32],_,(by rw[AfL]),Z,As,As,(by rw[Au7];lia),?_⟩;show Amu _ _ _ _ (.str (gp (i%2).toNat)) _;generalize (i%2).toNat=p at n2 C k ⊢;have g1:=AjU n;have g2:=AjU p;have ew:(Txt.words q.z).length<=200:=by rw[C.wd,AsZ];exact C.wl
  have es:=AaG (B:=200) (ps:=Txt.words q.z) λw hw=>by rw[C.wd]at hw;obtain⟨u,U,rfl⟩:=zY.mp hw;rw[Cv];exact C.wb u U
  have zl:=C.zl;have A:=C.l;unfold lnS at A;have l3:(Txt.join (gp n) (Txt.words q.z)).length<=200:=by
   rw[Str.length_append,Str.length_append,Str.length_append]at A;exact Atf (Nat.le_add_left _ _) A
  have q1:(Str.ofString "?").length=1:=Ap
  refine⟨_,_,Z,Z,As,?_⟩;refine⟨_,Z,_,_,Z,Z,(by rw[Str.length_append];lia),?_⟩;refine⟨_,Z,Z,_,Z,Z,.one _ Z rfl (Atf (Nat.add_le_add_right zl 2) As) As λl v=>?_⟩;refine⟨_,l,Txt.words q.z,Z,Z,yS Ad,(by have:=Aup ew S;rw[g1];lia),?_⟩;refine⟨_,_,Z,Z,(by rw[Str.length_append,Str.length_append];lia),?_⟩;refine⟨_,Z,(show 2<=sizeLine by decide),λa ha=>?_⟩;have s2:Ca H1 (upd H1 l (.lst ((Txt.words q.z).map V.str))):=.upd v;have D:=s2.new (o:=.tup [.str (gp p ++ "?" ++ gp n++Txt.join (gp n) (Txt.words q.z)),d]) ha;exact k a _ G (Ai.trans x D.toT) (t1.same D) Ad (s.same D) hc
end
end Mine
namespace Mine
open PySem L2 IV
variable {P:Program}{l d tc tT a:NX}{G H F H':Hp}{xs:List Lx}{ds:Nn}{o:HO}{c:Ct}{i n:Nat}{w:World}{mg:Str->NW}{t:Adr}
abbrev ArI:Str:= "layers_of.<locals>.<lambda>"
theorem Tb.put{P:NX}{q:Str}{xs ys:Nn}(t:Tb P q G)(h:G l=some (.lst xs)):Tb P q (upd G l (.lst ys)):=by
 obtain⟨ps,h1,h2,f⟩:=t;have ne:∀{b u},G b=some u->(∀z,u≠.lst z)->b≠l:=λe n r=>by subst r;rw[h]at e;cases e;exact n _ Z
 refine⟨ps,by rw[Af (ne h1 nofun)];exact h1,h2,λpos d e=>?_⟩;obtain⟨c,e1,a⟩:=f pos d e;exact⟨c,e1,by rw[Af (ne a nofun)];exact a⟩
theorem Ai.over(s:Ai H G)(h:H l=none):Ai H (upd G l o):=λb u e n=>by rw[Af (Az e h)];exact s b u e n
def Fr (F G:Hp):Prop:=∀b o,F b=some o->G b=some o/\∀ps,o≠.tbl ps
theorem Fr.put(f:Fr F G)(h:F l=none):Fr F (upd G l o):=λb u e=>by rw[Af (Az e h)];exact f b u e
def un (F G:Hp):Hp:=λb=>match F b with
 |some o=>some o
 |none=>G b
theorem AsO:Ai F (un F G):=λb o e _=>by unfold un;rw[e]
theorem AsP(f:Fr F H)(n:Nw H H' G):Ai G (un F G):=λb o e _=>by
 unfold un;cases a:F b with
 |none=>exact e
 |some u =>
  obtain⟨d,c⟩:=f b u a;obtain⟨ps,h⟩:=(n b o e).2.2 u d;exact z9 h (c ps)
theorem ArJ(f:Fr F H)(n:Nw H H' G)(s:Ai H H'):Fr (un F G) H':=λb o e=>by
 unfold un at e;cases a:F b with
 |none=>rw[a]at e;exact⟨(n b o e).1,(n b o e).2.1⟩
 |some u =>
  rw[a]at e;cases e;obtain⟨d,c⟩:=f b _ a;exact⟨s b _ d c,c⟩
theorem AmZ{xs:Nn}(n:Nw H H' G)(h:F l=none)(a:H l=some (.lst xs)):un F G l=none:=by
 unfold un;rw[h];show G l=none;cases e:G l with
 |none=>rfl
 |some o=>obtain⟨ps,h⟩:=(n l o e).2.2 _ a;cases h
structure Lp (c:Ct)(H:Hp)(l d:NX)(i:Nat)(G:Hp)(xs:List Lx)(ds:Nn)(F:Hp):Prop where
 xl:xs.length=i
 dl:ds.length=i
 ok:∀x∈xs,OkX x
 hl:G l=some (.lst ((bkL++xs.map lnX).map V.str))
 hd:G d=some (.lst ds)
 s:Ai H G
 tb:Tb c.tT c.tq G
 fr:Fr F G
 fl:F l=none
 fd:F d=none
 cn:Ds F xs ds
theorem Lp.step{b e:Hp}{x:Lx}{y:V}(L:Lp c H l d i G xs ds F)(A:H l=none)(u:H d=none)(ne:l≠d)(t:OkX x)(s:Ai G b)(tb:Tb c.tT c.tq b)(n:Nw G b e)(B:Cn e (DX x.1).1 5 (DX x.1).2 y):Lp c H l d (i+1) (upd (upd b l (.lst ((bkL++xs.map lnX).map V.str++[.str (lnX x)]))) d (.lst (ds++[y]))) (xs++[x]) (ds++[y]) (un F e):=by
 have h1:=s.lst L.hl;have h2:=s.lst L.hd;have m:=AmZ n L.fl L.hl;have r:=AmZ n L.fd L.hd;refine⟨by rw[Atm,L.xl];rfl,by rw[Atm,L.dl];rfl,λz w=>?_,?_,Ad,Ai.over (Ai.over (Ai.trans L.s s) A) u,Tb.put (Tb.put tb h1) (by rw[Af ne.symm];exact h2),((ArJ L.fr n s).put m).put r,m,r,λj z v e1 a=>?_⟩
 ·rcases zG.mp w with h|h
  ·exact L.ok z h
  ·rw[zF.mp h];exact t
 ·rw[Af ne,Ad,At8 (f:=lnX),<-AtM,At8 (f:=V.str) (l₂:=List.map lnX [x])];rfl
 ·by_cases p:j<ds.length
  ·rw[Atv p]at a;rw[Atv (by rw[L.xl,<-L.dl];exact p)]at e1;exact(L.cn j z v e1 a).same AsO
  ·rw[Atu (by omega)]at a;rw[Atu (by rw[L.xl,<-L.dl];omega)]at e1;have o:j-ds.length=0:=by
    have:=(zC.mp a).1;simp at this;omega
   rw[o]at a;rw[L.xl,<-L.dl,o]at e1;cases e1;cases a;exact B.same (AsP L.fr n)
theorem Lp.same{a:Hp}(L:Lp c H l d i G xs ds F)(s:Ca G a):Lp c H l d i a xs ds F:=⟨L.xl,L.dl,L.ok,s _ _ L.hl,s _ _ L.hd,Ai.trans L.s s.toT,L.tb.same s,λb o e=>⟨s _ _ (L.fr b o e).1,(L.fr b o e).2⟩,L.fl,L.fd,L.cn⟩
section
variable {K:NA}{base:Heap}
theorem Ana{B:AH}{u z:V}(c:Cn H B n u z):Cn H B (n+45) u z:=by
 induction c with
 |flat h=>exact .flat h
 |lst a e b hi d=>exact .lst a e b d
 |tup a e b hi d=>exact .tup a e b d
theorem AjV(K:NA)(n:String):W.kitOne K (.type n) (.type n)=some true:=z8 (beq_self_eq_true _)
inductive AaH (K:NA)(tT:NX)(vs:Nn)(H:Hp)(Q:VK)(z3:XK):Prop
|mk(a:NX)(ns:NV)(_:vs=[.ref a])(_:SqL K H a (vI ns))(_:ns.length<=63)(_:Tb tT ArI H)(_:∀H',Q (.bl true) H')
theorem AaI{K:NA}{ns:NV}(c:ns.length<=63)(b:SqL K H a (ns.map V.int))(tb:Tb tT ArI H):AaH K tT [.ref a] H (λv _=>v=.bl true) λ_ _ _=>False:=⟨a,ns,Z,b,c,tb,λ_=>rfl⟩
theorem ApL(T:Txt K mg t)(u:t.Bj.code=.ref tc)(hC:W.CodeHd base tc tT)(hB:Bm mg base):BR P w K mg base CX0 150 t.AmT t.Acu ["script"] (AaH K tT):=by
 have U:BR P w K mg base (CX1 P w) 32 t.Ov t.Ow _ _:=AcL T u hC hB;have I:BR P w K mg base (CX1 P w) 143 t.HQ t.HR _ _:=Yh T u hC hB;refine T.law.F.ok Oh ?_;rintro _ _ _ _ H _ Q E Y ⟨a,ns,rfl,hS,hl,tb,k⟩;have hsz:sizeLine=16777216:=zS;refine⟨_,(BW (Hy (i:=1) Oh.nd Z (Or.inl Z) (Z6 (Ae Be (Ae Be (Ae Be Al)))))
  (BW (Hy (i:=2) Oh.nd Z (Or.inl Z) (Z6 Al))
  (BW (AhA PassesOwn.never Z (Yl Z T.Af6 (Ae (Jy (Dk (K:=K)) Z T.Af5 ZV (Ae (V5 (Aic (K:=K)) (pv 0) Z8 (Ve DP)) Al)) Al)) (Ea (i:=3) Oh.nd Z (Or.inl Z))
   (BW (Z2 (Fq (U.mono Ab) Y Z T.Rm.m T.Rm.F.kp T.Rm.b .nil Am8 (Ae (Cy Ada (Su (Pb (K:=K)) (pv 0) (pv 3) (λ_ _=>rfl)) (Cy AhC DP (pv 3))) Al)) (Z1 Z (En (Ea (i:=4) Oh.nd Z (Or.inl Z)) (En (Ea (i:=5) Oh.nd Z (Or.inl Z)) Vc))))
   (BW (Z0 (Eo (K:=K) F.plainAttrs_list F.slot_list_append F.type_list_append R0 (pv 1) (Ae (pv 4) Al)))
   (Aq (Z0 (Eo (K:=K) F.plainAttrs_list F.slot_list_append F.type_list_append R0 (pv 2) (Ae (pv 5) Al)))))))
  (BW (Hy (i:=6) Oh.nd Z (Or.inl Z) (Fq (I.mono Ab) Y Z T.HS.m T.HS.F.kp T.HS.b .nil Am8 (Ae (Eo (K:=K) zI F.slot_str_join F.type_str_join (Pg (K:=K)) Be (Ae (pv 1) Al)) Al)))
  (Aq (By (Ah1 (Jy (R1 (K:=K)) Z T.Rn Mp (Ae (pv 6) (Ae (Aes (v:=.ty "list") Z T.AjB ZW Z) Al))) (Ah0 (Akm (Ap3 (K:=K) (Y.Abu)) (pv 6) (pv 2) (Adc _)))))))))),?_⟩;refine⟨(show 3<=sizeLine by decide),λl nl=>?_⟩;have B:Ca H (upd H l (.lst (bkL.map V.str))):=.upd nl;have h1:(upd H l (.lst (bkL.map V.str))) l=some (.lst (bkL.map V.str)):=Ad;show Ah5 _ _ _ _ (upd H l (.lst (bkL.map V.str)));generalize upd H l (.lst (bkL.map V.str))=H1 at B h1 ⊢;refine CQ (σ':=[some (.ref a),some (.ref l),none,none,none,none,none]) Z rfl ?_;refine⟨(show 0<=sizeLine by decide),λd N=>?_⟩;have ne:l≠d:=Az h1 N;have S:H d=none:=B.free N;have A:Ca H (upd H1 d (.lst [])):=B.new N;have h2:(upd H1 d (.lst [])) l=some (.lst (bkL.map V.str)):=by rw[Af ne];exact h1
 have h3:(upd H1 d (.lst [])) d=some (.lst []):=Ad;generalize upd H1 d (.lst [])=H2 at A h2 h3 ⊢;refine CQ (σ':=[some (.ref a),some (.ref l),some (.ref d),none,none,none,none]) Z rfl ?_;have L0:Lp (ct P w K mg base t tc tT) H l d 0 H2 [] [] (λ_=>none):=⟨Z,Z,λx D=>(by simp at D),(by rw[h2];simp),h3,A.toT,tb.same A,λ_ _ e=>(by cases e),Z,Z,λj x a e1 e2=>(by simp at e1)⟩;refine⟨_,Z,_,Z,a,vI ns,Z,A.seq hS,λp np=>?_⟩;have hn:(NT (vI ns) none (some 20)).length<=20/\(NT (vI ns) none (some 20)).length<=ns.length:=by
  unfold NT;rw[HT.AaW,show(20:Int)=((20:Nat):Int) from Z,HT.Ae0,<-J5 ns];simp;omega
 obtain⟨hn,O⟩:=hn;have L1:=L0.same (.upd (o:=.lst (NT (vI ns) none (some 20))) np);have J:(upd H2 p (.lst (NT (vI ns) none (some 20)))) p=some (.lst (NT (vI ns) none (some 20))):=Ad;generalize upd H2 p (.lst (NT (vI ns) none (some 20)))=H3 at L1 J ⊢;generalize NT (vI ns) none (some 20)=cv at hn O J ⊢;refine⟨_,_,Z,.inl (yS J),_,Z,(by omega),(by omega),?_⟩;rw[AtJ];refine AfU (lo:=0) (n:=cv.length) (λi σ G=>∃v3 z f,σ=[some (.ref a),some (.ref l),some (.ref d),v3,z,f,none]/\∃xs ds F,Lp (ct P w K mg base t tc tT) H l d i G xs ds F) ⟨_,_,_,Z,_,_,_,L1⟩ ?_ ?_
 ·rintro i σ G hi ⟨v3,z,f,rfl,xs,ds,F,L⟩;refine CQ (σ':=[some (.ref a),some (.ref l),some (.ref d),some (.int (i:Int)),z,f,none]) (congrArg V.int (Int.zero_add _)) Z ?_;have R:i<ns.length:=by omega
  have hG:SqL K G a (vI ns):=Ai.seq L.s hS;refine⟨_,Z,_,Z,_,_,_,_,Z,Z,hG,ZX (by omega) (by rw[AtJ];exact AnY (Atc R)),?_⟩;refine⟨_,Z,_,_,Z,Z,(by unfold Akk;omega),?_⟩;refine⟨_,_,Z,Z,?_⟩;refine⟨_,Z,L.tb,λx p2 y G1 G2 ox C tG X nw cn=>?_⟩;have ly:=L.step nl S ne ox C tG nw cn;have u1:=C.lst L.hl;have u2:=C.lst L.hd;refine⟨p2,_,Z,SqT.of X,Z,?_⟩;refine⟨_,_,Z,?_⟩;refine CQ (σ':=[some (.ref a),some (.ref l),some (.ref d),some (.int (i:Int)),some (.str (lnX x)),f,none]) Z rfl ?_;refine⟨_,_,Z,?_⟩;refine CQ (σ':=[some (.ref a),some (.ref l),some (.ref d),some (.int (i:Int)),some (.str (lnX x)),some y,none]) Z rfl ?_;refine⟨Z,?_⟩;have e1:=L.xl;have e2:=L.dl;refine⟨_,Z,.inl ⟨Z,_,yS u1⟩,_,Z,_,_,_,Z,Z,u1,(by rw[AsZ,Atm,AsZ];show 3+_<_;omega),?_⟩;have u3:(upd G1 l (.lst ((bkL++xs.map lnX).map V.str++[.str (lnX x)]))) d=some (.lst ds):=by rw[Af ne.symm];exact u2
  refine⟨_,Z,.inl ⟨Z,_,yS u3⟩,_,Z,_,_,_,Z,Z,u3,(by omega),?_⟩;exact⟨_,_,_,Z,_,_,_,ly⟩
 ·rintro σ G ⟨v3,z,f,rfl,xs,ds,F,L⟩;have bq:=ApD;rw[Atp]at bq;have lf:∀p∈bkL++xs.map lnX,p.length<=200:=λp r=>by
   rcases zG.mp r with r|r
   ·have:=bq p r;simp only [Ata,At7]at this;exact Aub this.2
   ·obtain⟨x,D,rfl⟩:=zY.mp r;exact(L.ok x D).c.l
  have e1:=L.xl;have e2:=L.dl;have ll:(bkL++xs.map lnX).length<=23:=by rw[Atm,AsZ];show 3+_<=_;omega
  have sl:=AaG lf;have z1:(Str.ofString "\n").length=1:=Ap
  refine⟨Z,_,Z,_,l,bkL++xs.map lnX,Z,Z,yS L.hl,(by rw[z1];omega),?_⟩;refine⟨xs,Z,L.ok,(by omega),L.tb,λpf as H9 s9 t9 h9 l9 D9=>?_⟩;refine CQ (σ':=[some (.ref a),some (.ref l),some (.ref d),v3,z,f,some (.ref pf)]) Z rfl ?_;refine⟨_,Z,_,_,true,.lst h9,.inl ⟨_,Z,AjV K "list"⟩,_,Z,AaZ ?_⟩;refine⟨_,Z,_,Z,pf,d,Z,Z,⟨as,ds,yS h9,yS (s9.lst L.hd),(by omega),λi x y f1 f2=>?_⟩,k _⟩;have hi:=(zC.mp f1).1;have f0:=Atc (show i<xs.length by omega);exact Ap9 (Ana (D9 i _ x f0 f1)) (Ana ((L.cn i _ y f0 f2).same λb o h n=>s9 b o (L.fr b o h).1 n))
end
theorem ApM{K:NA}{fa:NX}{t1:Nd}{x:Option NX}{t3:Array (NW)}{b:Array Nd}(d:mg "law"=some (.ref fa)) (T:Txt K mg t) (j:W.nsIn K mainGlobals "layers_of"=some (some (.ref t.Ko))) (a:t.Bj.code=.ref tc) (l:K.lookup tc=some ⟨t1,x,.fields b,t3⟩) (f:(b[11]?:NW)=some (.ref tT)) (h:W.noTabs K=true) :
  ∃(fd:NY)(c T:NX),(∀(s:Na)(v:Nd),BindsTo s fd ⟨[v],[]⟩ [("script",v)])/\W.tabIn K "layers_of"=some (c,T)/\W.noTabs K=true/\∀base:Heap,K.In base->base.Ns mainGlobals mg->W.CodeHd base c T->Bm mg base->BR P w K mg base CX0 150 fa fd ["script"] (AaH K T):=by
 have e:=d.symm.trans T.law.m;injection e with e;injection e with e;subst e;obtain⟨A,z,kV,u,y,an,o,ct,n,e1,lk,r⟩:=T.law.F.ex;obtain⟨_,_,_,_,_,_,_,_,_,_,i,_⟩:=T.Lw.F.ex;exact⟨t.Acu,tc,tT,λs v=>by rw[e1];exact .of_eq Z,Ao6 j i a l f,h,λbase _ _ p hB=>ApL T a p hB⟩
end Mine
open PySem PySem.W PyProof.Rows
open Lean in
local macro_rules|`(universe $x)=>do
 let mut n:=0;let mut d:=0;let mut i:=0;let mut r:=#[]
 for c in x.getId.getString!.toList do
  d:=d*82+("!$%&*+,.0123456789:;<=>?ABCDEFGHIJKLMNOPQRSTUVWXYZ^_abcdefghijklmnopqrstuvwxyz{|}~".toList.idxOf c);i:=i+1
  if i%9==0 then n:=n+d;d:=0;r:=r.push (← `(def $(mkIdent (.mkSimple s!"tw{n}")):ident:=()))
 return mkNullNode r
namespace PySem.W.Fast
universe «N{YED<aJU.=ZMy0BQ8$UPni<T^f&mk?K{Tc2!^^I5c7dF.W{&8bGl~2X~}!MAj&0.CPBumP21S5:y|Dzv&DDfvU=k4&1v}c.StF!FbxsR^4R=M0Km1eUY.:jw$>OpR!Wu6ay~+r1u*i2AXzm&Vy{69+6x!?$T=m37pNRaIR;O^C+3pxa!PO!1Z*AGVNhv0jBJpAc6;$x47y|2FX!4&1pJ=Iv+0Yo<8JvK!}KR^}2R3*ld$yVOD3%OX+X.0T4+Oh,C?Is5C!VKETRQc<4HYyvMK:&>2|z<Nln$?q{>|?mW5qv9Ul~2A!eq^GB2q8&D|ac66j3%qrPvyTkR,M$r1$u.,*<w=Gh_;Z+^qAl~qWV$ap8UnPYK$bzCeFA=0!d5Dd>%.F,^bKsF7:H,k%Y}.ft:&ASVPa8rT*pJ2Fa~*^$3DW!EO4+!$J<POrb|3i<QBM;x|7dVl%^U$+$$%AlAa_,!l$Jbx~N7+oF$MWoVN&S$QFXX654<,KBo?:5,BH*|YlsQ,V;br=0uf%pc%VnC~j!DP;ha|vG$e$c^SQhV&5UEy2eq.,nVgdsLLr83h;TP2q&*2zvY:qfe$tWmdV^Os%}Ct?dN4=0%6UCuD5!%?Y9=4muT3J}=x.!5*1Uu&CBi,;$q;7jr!lGET5SrDV,h3rL3Vu4Z$!jh5en<CK.U%Vb<RWA!E*j2A9UJ6Ef<lBK!p9T8i,F~lP&Uc~{ntCr%R5!M}5zv&x0qW?|gB,XfD*Rhhv!_qTcj<zc,hr:El^$^+Gbmd*%~B!_s:l;58w0$tmDwAf5&<u4bN81J+;}ZKp2XT$xLt8+O|i,8~OoCdB9*^7$+*Ad081gC*w~xa%i!LR3emU+CPv2tZ8+$mc80kScO>YMw:BzE{$4$%XVrYJ!PfOQ99^Q&ke3Hy}:T3CWGC5a+~+vtNU>01_%st;4wR^Y!xIHq=B}G$paz>m*b=*ODsh*WDw*O>*{FRRW%A;fdvIN:5E}B_LOgv!QYoYFwN!!E:F3!vg+%UfJ;v+XP!H.eLm1yj0nhUb%Dgi0FK6g^hny%APeaH3~M*$<pAW&<o!>dS9.y7A$4<N^xO}R2b;_?IwQ3$e>05q^e2!~Y2QDNln$n?hLS>:Y&D4}ggNOB<F44zoj6t8_^{4_TZE!.S4s4:8H+%a2KSB?=*NVq.GlwY%mOiZ!9P?0u|9murfI*oOf!QEDR!7un?DE2e*LSIEO?3g8VHj%^Rq.$g53G2ZUY$>CFX4;zg%RQ{pPI+d1g$pj8kvM+G+{c0L4W%VycXt7Sr0aI$ha1^b+tvbirtGI60Ui}1~bm!7CxirCng!Df|IZ?Is!56z~iY,h$Ud{<WQCV$5$g<YDBE%FJGTE{r$!yxh<SO0E!*InQkl2I:Hc:.cGb7AD$vCxsd,%3=%.e11F42&*d+m}m!?Hl^wXNx8oeH_m4>n&,u+Yr23l*U?MMl;jK,TRk|elgC.9A>sG*232X}jWp4Rx$$.8FNqi8%zp,R~$6Z<>.k3^0wS%byzizZ06$UY2OQPGb3tvaPj;^~:%WSLzKJp.:csceP=}1_4YC0>xS7k2&+:bHe2PIN=*w<{7I&gQoFE*+?%SY2KdN$$Ls?mHmc?Hc>:e39u!Ra4Qi9BR2Wu},p?xH%H:+>gNz9$7RV_a}o+&p3lMR4B=!T?LO*11P.X4GN*>_&%SjvTy}Mf$ed8N,AdW1Pf&:536U&uZ$2NzVw.3dEL4k{{!OO%?bqgm%XzAz8jBqTpE9mXCJW:bKQtLMu7!S,.14fY9!v8uShVw_&l2;M,Wcv!yg.$hfRo5,w0lSSi5&vXrCZ:9r&cGa=$cMl,3S{,mw0x1r6nVK7%v5Q_a$3Y?K!n;VSrdlh$G!znrt8F6xqLncDe=$*NGE3XWi+aI{5+6hV%YHOy0Y5x&qIvv%SZ+$WpLO.eYM$_pHwWC!,4hKl*s<&80K8=vPcDs!4.*rz0,u&qg_5*0Bs!T9d;OtCY!hZy_bs7G!!_mUpq*x!et^y}Ocy!r?o0vK<|,!M$D|Hy4*_ACdhC|4!4o0y66v550LOH}S6E*5STm::!|$6ltnkSI5+PU>q2$%L5BtMH*HSr3IGst38q?%Apt,aDLR$|o,q{SfH!>61yduVX%;xXCpvw!,t!T.iY,;!0%?uQLze&rG;eaCvB%L,wp~IFx+ti0jm}I?&Vtx<,{8ZGv0=g}h57*z:7&.mdf0m_d<!rag*6O~{n4B9=&H=l*L+Q!unX%^>7{I8>?~i<Iq!Xa:A}2VE!m5V0mLCe$OuNYH=Qc,!m:mB3QO%_w4F*NecAI6$SXjIK8r~Ze5iwD$^aRG<U0+.E!vj,c34*,oeY=vFH<?S6a5x862fz9D1,Qd2;=Xflw0!3_FJsg<f61&D1oQEd65%.Dm,PrG.M5.K3wnr4^e5_X}8|+}|a36uCi*^M%NMFPY,S;rmb:Y4$0X,fP$uH&>Nid>S>m&T:6f$XT7*0yd!Wtg;4&$VAC_8B$%_XoAW2D*l.aoYQ7X,MlBI:r!y>2mRl5*!J!31BKKA,S<8j6U=$8x$gWr01V%Z+V2yezPlx$^Wj9U{Or0+a}>>sVL$$L6dwb6>!YDUxB9^R&}L:b9TM0$TpBsZa6T*lUDm_n2%=O0o7Y9PX*K43P9G~{M_!A0dp$r,$Fp1YzU5153D1<ibR${rMd>Q^1&JFwY9:2z*vSd8>F8t!eS27E3*9$P5X9jYzM78v+q:o.%9Xe9oG5K9!~xILOSF=&;AHOT453$!V;UQE4{&p&q06_dE$kBhduI~*$gqV*_WHZ!K&$<K38J1Q~pO*x&h!5i?ss=LxHi.jYunuw$5jbrX!8*!9K{Ns~D,*%itp3;2R+ZGSOEp~8!_}Ccu{WH:YqqQnBhA%j:ZEb7Yb+1jhyW2X:&<E<y<Weo!Ve5Vy^7^$cujWiXmM+vi}zPzp>!M;Lw?9wI0M;r:pO0P%woJaaUvL!cQyw0Vpo0B{=P<jda$?A%X%MX9%}5eUH$r5A?Z+xY{tX!FsW$%>2}!CqPe1dx$0lNb8nEi4*R_*fnvnJ$$;?Ir3dk%DT<V8p=R%;Aof~L_Z!nZ8Wx:18%|hf+S5u*24Ru~t$4l4vH>iG&KQ4,8D=NeI=1S!lBPqcEB0uzuLq5X>qW^71co5*7M;W+^Zc$LGG_e*FP,Hqh,_!A7&>a4O&aYp+M5pLWq%k*XSj1+u}G7kY_ozrLG$APzZ,xm^4GAGFhGxR+jhuao?Qd!s}eUuSQd.2+D$AExO!pXe;U17F$0p.d8ng8*KI1O}M~W$woZKYRe!*,%m>n?wI%v68|?&~b$|W|K>T8q,K~0iBl.X5.KHT_jhH!nk:Mbcxp,NgaF8ZXb2x^CY|RgZ%.HMKs8qf$gP?o{jrI5E}7r&pqu%+aZmOT!2%Cb<2V}NO.^v?YOqn<!hGTKkRBZ4>S$9d0Kr.yuLHb5E2!ja&aN0A!$RGLL=9|:870p&B_uB2e.nCIP9b%=pzZd^p**_}NauuNB&ia61lcJ3!%Ou6TK2b&DJW$%&EQ+2431cHLs.=8Y.1|4!5DDK2%}Of!;!3fRV=X4gVEz>ix3<7xMxE?kb!*qKTl!SB>~u=R^Dr,+PVV7>X{5+qWEK{V{4&6|CYHB>s*gUBxYmDo&S:eHnxLh+xZvjVg>w&QR}cQ1Bg*%jy.sm4a.FsDXk}uv1jiPTh+3&$s7ayJ!W>$0WdU}ME7!P?LrQ&_x$bHMQrfS9%rX?W0Zx;!xzFn0f&O$F1+~mZpg$+:d+oV+G2QSPpXwL3%OPs+0W}g%;LL%59S}0<sPg3!>E$*iv~pEn05kXmkAJv>*f9lqOP&%%QDUWG}VR!nS0~iI!n%9pE_Ab&k$+6cH_2Mo0_0NdzAJs3;mI0DeN86Tvet=s~*%m_+UD3X02FC;x|i}h9<8h%IC&l+ZeKSR>~E&8ZVt0Vw&+v{E$4C%W*g:G;u8.&*TW,Je!~5!mQ_bEDS_8KynW6XSf!IX$3EejM*wx}7hM6b4%+iZn.BR$YP^T&$Jw,bWVSw3I0*PE_{Rrh{,k6W!Mmac%ME8Oibib+..LnWujT%6EnuuNNw!rU>ggcC,!T+U_T3&d%bZ34M2a%.:<,e&gSa3y?^!dWUw7P2?T}*qh!!ueZ*5rC!=~Z;&}<z!8e_?gXr_%CcLdZd|V!I}~qRZ28%x5{sv=uf!ni5lvk3L!,W!lRZtb$4IFWPEJ9LLiLPLC+_1{E7VKDQY&PzI?Y?42FjneKi*qm?}{<K.L416Q!%%L*u7=z}o|CeA%!IbT+YIRs,C6i9>;.K<Hy{t!KRu%L==zG+iy;Zedit}QJ*{y&6BKNA+LP_sVXg;*;i3.,WiF%.NAgZ6ia$cLOy_~.X!HL}UscGO$|sht!_<c$pJo4?x0D*hv12PGA3.gTR6Sgd.7nW6*KpLH$50gww7Nu$Fg^MLKIw*PyUTip:l495Rl$_|7%p,,M;a.M.8.BxHQOB3Wfu&p&>q$F,T,,&3~!&7v^4DrL.G85olmV{1D+3G{0*I!|97cT5&_&BavNbB&Q4cNnvX0xH&Bsvs$$,:%49X5$f06%QkP13SL<$0W,MOcGd,oh7>.n&J0,y3vgtRc$JjSTRzL~1W;g$qs3V0m;zkZ&ul!i|}37oeb7vb>R>FEA%{7eB_7V=$;pJfrzoV%Ew^9bob^$DQb|*Lsf!yF7CDqDa<O2QMM02&!=W$Dz6^7$ZB?kougx7T*yqY=4J!<tZ$gIh:!~2P_9zBK&lD6u,+Y,.QoEUM*|!+_;21Wjv4?bz87X^F%!7anbEwsO!oD}P*VCT,haXZUBl{7BUITn%k*!PrZ9Fi}B,57h52<vP*|1~QkG&|%oWx_?jb=+6WppxqGi%xk5<9&We*fS<PttMZ2ubcu>7Y52:;HJ0C!}!f78.Wl7?!bZ_^o6&I.T2w.Czft.928Ou4av%NKFrrdmS1I.S|tB3<2tm_8A2uH$i{DJLCJ6&6{PQ0DBv$Gn_:E!Av,LsLp5G*E%mezCvpK;0~;Nau}LZ$eJ>jKTZB*k^D^3,2R7e!ecrn%M9M0Z.A>ta*H|vJZroF,%,&BEgOf+toKZ5i28.ob;x7~nA0Kd~g7I&>5upt~Zq^D9!Lg7>cix%cFr;j^sZ.kPtvb<nE;|<_6%m:v%~eaHH*x4!C,?tgXbZ$kFFyp!9,;0E13k&{$&aK={{K^97+34:ugEL%j^+^lq;Z!Pe;>u._v$1kHsQwD4&EWdzBiGq$PhaP4J<7$}zXVq7$n3$!IAzMCr*=042CjTC!DY;Xm0Bd$<<oipF3V!Sz3:bMod!q~2z1lm2*m,YlbO6&3dEBt91KD$nj}a}RNx11zjZtM:+,*w^BRFsI.Hbc~4eN*&A^ml=ToZ*{5&6nDCG2N::$Qtu|%ocEmEfAO0LLW&!K,s06J<0S^zK,6O*7lZ!&*,Ar3;Snr!DiyUocoF1xL<Zfi_V&u|g8n}wX.B{AlJliD.uco>xrR}4.!Ou39D!3mV47P52s0iC=gKd}m*?.vIi.Ol.h8QW6!OO<J?v?e0LZ&^L*m+xIx.0Dk*3xy.$Y&16d*4z%9vL_5,8e+d*r~*id+.yHd:x0h1&8j9}d>Sa!&QIRPC<E%HkAhm*~h%b_y1foi9%,1^lC<^*%nFy:Y$Lm+e+_^xXFL&Fi>C$n?i,0qsyNpwp1;+GG?d|*2s{t>h|prFWoQLRJY^$<7s$69iK:R<}4Dlvo0<sKMGEcm1sw,6,?O^$+}7rrm$q$?e8%Mb$a,i|JZRd?~,U,Y%5r^N*5*Q|31}p$iNW_|N$552o:5v7{M&REH}6XZ02^tx116!N*PO>3e}6A&R,88Tl08!&6NVXRA%*n};X8lQBCj;B6E:}$92xF8bgNF%DhN<4Z?J,$7pYb:s0EisxOXy9>9iBa,PpQb%FeO5}jHw+!:ZP0U;P6d,E86QZW4_Q{+Sl%7&7vjX.}?>,~p?YYAkc$jF%,GOLE%4DL*M6$v%b,;0|Cht%cjBCGa5_11_PYsASS&rAx06l~gE$!Z*kO<$+4:pzHu3%&RcvLxEA=!~++^<ZH{4pjkzIvHN9Vc3NV>if!a.qiOyDG4G4!N;BdU!AJgxWx_I$4rC5fM7J%c{H*{^q%!5S81u$;<1*9aA&g0v&zeui_S1Y42{FG4Sp*1_PQ5wQ3v1ybvTf_!J0vOf,NB{~$Rw5KA5^l&LwF2&+!B1A+;5wS=A.hVxd83P91IDO2j9,4!LO;x8^s}$LEmg*o1T,hGPeU&AU.6e7<pbF*%I,GuHSLY$$f239Tty3v7HY3Ne01_^A0}67P!jiq47AGp%bdqDyxkNEg3>aKwud,Z~^|wMW146;R|:4>1&CDJX4Ozp$E!u9H4D:7m:ftrf+u&QOamVVu0>6;GUKL3v%6FYRV=RC0!WL*cXo*%iuB7|Dbr!S%9Lnp3|&f8~XoRLp1fiRlQuO!%K*vc$!Hw%+Ama$<U;&XIQwE?,S$=Q:s5apD!5TLeB4N$!JF7;^b?&+xAjEJiCu+34$S=Vz6+r7mSAxZu*_L^3LOE<,IGiBHHqD4<l+w!=QG3,I<lN^v1CiZcf2nbZ&ua,Kz6Wm&h.wqh$d<!BNF}+MV_2zON{qXU_0HQMB,cPX$HCQtV$cL6Wcro_w6X=JB&db78u,JV_=sFN|4H=bz=XaO0;sa2r|Ay,oJhaky}8.NWw<lvro!.ZHcSu:E$EdHcrqT|0>ASeJimm;=Ky;*|F_%Ra+5de+o.~l=^e|aH.%3==;R==%$>UfN~J6+K_pwG=TQ2K&>mEH6*,v0Sapko,.:tZF2Wp&6}jtTm1Cz&Va;:>$N,,bY>9>_>O*:0xV3.?&.iRalPKa>!Prh7g0R12_DI%p08&%>ej3Q?sZ=WbjHm.To6nU|8+pvJ=E;6y,c7D47Yc{{4v<%St}o3J$*&aCUa.DIz1EH{jzkr}&Jw5IdYrh$J3knd?cO+fM6EUWXC1zT!zjVW1A!Y>3YxhV+}7FnY,TB&rtIFh2ah!7,O:cB=l+kY}R:L6^%Fc=L1X8q3q0wB<}|.%%.FI7%2v!SD|Ype?q>,9zNPsiL6NO~eB!uk1w9uBN45&.~}UT2LNM$p3Xosiv_35Bq3hQU&,c64=rMlU$p0?qidg*+ARWk!5Yz&&a;^OHCv*eK$z18uw+%e1L|rk9$jW2{EjBh,l6DpmjA,$NaW%?p^:!tD1qXY~d!$Cjl+LK7*?si:brEN,A1=$kP9180?Kkii|N1DSKsx5Wf!VFl_mEYe$v<~}WPsd,__Mx}=gs2>7N6}AT5$RKn_ba;x1UdjHyLZC&^c=_Zpoh%!Fb,:RQx$nFsTwrZV3o!2R+~nU+$_O0vJRi7wG.yTm^L.N;5;uKd~*>i;+J*:b&IUgF,krd,$jK+,&sQ&:|=1P;Pv+9DSMD^wj=>bK4PIRd$4=Ma|lXf;,sxwbEuv++SpXwW79!v%?.fr^<!+UR|y6<SG^MB^M.fk$U,aK^%G*,G+ggE8;U!eiL}|jk:4U_W~3vZ*,EzTN1OSY!f=c<up+*%er=|a$p|*F~19A^Z$*+Er*K<TP&6&tp5j4s,IexITV+e1v|fl&GaG,Wj:?u*lZ%8bndc*jh$KYA99Ml*.?ZK69O=2.4|:3oH$:*+EFs+5*Y$L|CgNHK{!tXa>&5J},~k^1HO3A3elDG>ev{$1=!xSP|z7v1TQF4!>1+43bS>^X5qJpYx0D*+W>B2dxCC%NEwF7Qks$6dMH0Hjf&;ddDyLCn0go>C~eed5z$|PFU.c$DYgk_a+w*mJ2&bjop8nF*u$;IX*f>9y6XtH4Ynr83O|C!:x*JS,zi&XTG+Dww1.KhrE;MgU*Gwrl&~j,CaroNo+595oEp|r;q=!AsKby8=1$K{YB,p7F2MDY$JNhv05%TtOX:u!+{{hz+bvD+k+qeGh<*8lwQl|g++&3pC,%;l9N~^a*<Ba7g=3oYfs0$,amW{}ZP,5!l3~^{>7.AdHlBq,6zn0wv5wC$8Z8x%Ry.*r9UK^Qi4!knSn=jzQ6OswFx>uM&+35EO5eB!PinM|O$%%8KgaUYmG%Z5m{:t*O%.u<Ati?Q*xHC>XKGL+2H+C!f>i$a}K2wC|1!IMe~8s5N$T4CjN08E%.My;{9^2!pKQTdiNu!f&T2j68O%klv0j?jt&cfh_mQai6oao7i*Q$86BtxBHf75nNd=ccI:*O%*}9Hh{04{upPLq_$upCd::tu*NG+*hhX+*}wff^LdM*yjKLP9LB0gKX6U{;C:{ULx^8u&%cvKu{gIk,;?!CIbrB8h2lzVSCz*mwzi%nl25v{y.&U1l$nuEXyP$B1AIuw+J|56f.tT$l1y*a?>B=.^?%x>6~n{1a1Itlt??b{*bWZrg2iM!q1h24EYT&:%pg0gFZ7N!H?qhN;%0gjgR3K.%5fmO3w}o+V:4n_vw.%_1kIBDr_+R,6,qvay11hi=4<d6%%wiR$B;3!oX;6T$q02HSxGVEgI.%;MGW:3V87jA|BXa|!Ehm<a1Z8&O,xtZ;|u:Br3K:0W~$3*9gwEL6&4JD&HUWn+fIr5vOTN*k>pMo<}T!<d_>*_NM&JKLgIxYT2;e~fRg$:0Nf1C<9n5&5aD8?mB&,W1Cy59%A$BJ*GOJgp**!jj1fkT0gMm&}sHh.Lt;i&xV|BuyjACU<T%g_lmy:K3$ZKA>4GF&0NIymE14q+0rW<A~uT!__qZz&_:&|<<3t:a<,hJ;K$y9}%+.7.XBJ_!NtaARYX<!73qQVxBOAp9}^9ebx61:{aDuVu%L1x:oE7F&V6Wi=h%d%*l7fuZ3*$7%eNQlH7*.OTB5sU8*p3Sd!eHL,g8fQgN,h&lrnvr;bQ1|,+SSy8%2?Ksu}gva$7Y~dIr%P0ESj77Rvk!16<4;*;2!785if{_I%rsc3e0*S0ob,D?>zW3Yu_>6en6&g42JCq$=9MXnDI.kQ.%E<z~0rz15Fx:_0R23&qGmW>yA$v8P|HvBuH;jV5QOsm$dY2c9{,H$VdX|c7CI.K3A4{62D7IBV+:}H2!uDGGI+sY$&I*R$%:65n;I6%0YC*FH&Hi<.O+<aVR%>M*0%a:yB*b19,Chi0BAX47I508zUt&4hhSiDI9.j>WGhOnY&O;x;>1v4$ufiC2GR+0zQ?<~9pP2kQ,v?Y^m$g<GN_sZo!<<*k5M1?!Sks{HGho!v*Wc*UNa&>rs3|{Kp*AnHS*mmt*.siZ^:;3!w+18s_c8$B7zq~^cR7JrCX35oQ%:}Q36,2z%3MA,o,&&5dY*>Rj}U.x8Y>buq7,^TVpKzll1m,1w}b|8$,9U~hYo+${V7Ub2R+*qKHe0*2A%~qFB%=:~!<ig^^p1d%5:7<J5{,4:40aa>up+_K&$8w1J$p!Jt%<cF3Yl}cZ:Ac,qEIJ^13t&X5o3VNon!9Ivh|z0m$~LurA|?N*5X~9^b=F!jEvB|^74.adZPYJmM0ieC<P|Lt+CkFM274S1CFYD0;jz+ClIe~>3c!Sjmj,A2A,U**cl6es!HtY$>NmD,<^hr$+*h+0,Jv&DpF!{9Ml;sA=&an7czqMy5yJYa:aO3+4!q2FD>E,seUF<Ol9&8^nF%N!|!%4.c:ah{29csuw5^,5pR2eBZmn&LZeq92}h$ompF3cf.&lZ17!?K:+Esvt1^m08;wc!>CaN&%^}ytzno.ZwnF6zPG!2>f^2Lw%,lr>|9v!z&uPI!Z?CS1UNj<IpB?&M4Q{,%qW;6PeCjbZ%%78R!M>tD29;5B8sbZ&_13VZPaf1+qd4KUoO1&d>hy~X>:F=BZ_0Fz*EmDAyN>j1uPga3au+*|5yytwL:!<8*}WJVw&i|umbt0a7%&lRoN$KBLagWVx,=1xhV8gM,P*BqCnG!Wr13Ve_42wU%UU5lt~|U%=!*s}Tr}00nUreEXK.ii5w|vB60z&;B+0S=%MVn>R63b*C4P3t}XY;mA=uxf+%5:u8+qIRL*^oYJwV{5+Ha{LtNXz%&Aci|Ai6$qCpA.4cm!=0Q3$WMG2tNK~Z{11!47ot%aB50!,QM|Zu%%DJNrE$,~*Mj:SE_EA++L*|!$zz!HIovNWAr%h1YZfYKX!RTYW^I2W*.SL0m^8i*0Wm}16yg,Fd{=;H:B!%$mKGW&m!^fp,:NBc2_Ind$ZZR!wB;GN2uP$,w$&9pe}%vPfnU+yG&06Q1ITc2%AJ:TmEKl*J;ee^BkVLWF=G_iEj*VUPH4Mhp0N__4o5PR$K>Z6zwrL=JOw|=}T~!?<ifWk{v0AO}=G~tl6U5kebi$+*4.skO{::%R4P~oLdp!:fjZNYkH!w8aO=iEI!.>6tSw^Z4JP:{lRA{&yu^>j}Nf;MY$mF2>n$68U,=+yC.R.1%U&5L,Utei2BKs!x0lh}wVN4;vPD1|}.$VU^o}XgoAAV2;XW>I+}?$k$>j.%*.;D8F|N&}6qKa?^..={{z&ma?,yB!^:jm$.qSU:QE9K3DvvTN%me3ddJ4cBXr!15q6Q_2<!X5OT7S+21RB>LK+2f$!z$^gAkJ7BLwKQGxG*sz,:$E$%%H5NGLl7,2F9TwQJD^*Z4&15obd.I{gh6Z$Q$_c*Gs;g=;^:GcoHMU3~IC|O<Tm.7i:,oVD!0=D|uBq8u6C><<!Emr.XmfKA&k;%oCck.j7Z7N8AY0c3=6ZyytVR0{!oC.+Ly;E%F,qR10cE!Th6GJmGJ0XK^w_9s3+JEfbtapY!Q$&!tzv*+W1+l?GX3%KJ*iaotP!8L$qE3%P,m%hW4<=;:JQh8zC3%*&mUmcflL3||Jl7hQ>%0Wm_,6Gq55c:1pXMy!962jdsB1$?dMWOL|&!bpnRC!TJ!7x5aNcXY1Vv+opY$l,5p:~}Kjw&k4+BmSDn!CA1G*Wwv*?zVAq~T3*_1FOhK6D.>bJb5}%L!N1YQjy<r=ya{?{3tN3Hy|4fMZu6zh<h^xYC0~Tj~OmK=%Fe{?sSU9*Zpfswa6B&wPOx}?<K&8Ab5ERWU05x=,7zeu!W$m_{n$j$X*xj27Wl+{mJm&iGa$8W{QL26!+,f%Qy%Dh%pC}2h~rn&Kx;q=0dB%?qA9laV$!bkb{ghPP!$MXgB,~Q2O1%E?g.z1q!;AzLw~*?+;hdN2M.q~^oPh3z+ZyRv7YnN!5ZScF,A&!W+97M%8x3Y$<eZQnT&58P^^F0T%i|O<,Ptl4=~4A,Sy64+.W&v{L>,W8+c=rW76O1{t=*HV3IVj7bkV=&8~t2fZ?<$$ziJYGwF!PwYf6zbW2XE>._yTF*ME|Aq>NN$omk>9q?H*D8wLKKNU!W_$xXF0T*bS+>qG7Q*y*cg5qK&%x~Q4bYol$ZMq2&$57!c1riDrtd!pTf3^:~%**yF57K}x,Q:G2CLLw$lus_Ps.^9oX3rwB0J,q|,~:,|8$f+k^!E7i$51;~Pqz%153lPzDUv&,hNBH_D5&PUlJzvgl$4V0KqI7W$?zFhLF0H4*Dly~2Bv$N:W0%~yq6zU09rgu0!i2DQO~.%,f^;e{R$a;V2oiPrYE&Y{9|+2kL%BrMtY9tP%_iI${DB<:gsF%AyXU$gFH9xf9N%H5=sHoL455u8oI7I5,W|9?nX^{7f%xb=t+O%TOMTJ:Xn%B$V,&qFN$snMZNB,8&jAmV3DJsT!&*+72:J!J<u0B_^m!l_GyZ2AW$n_*vZCb$*OiqukM^F%yY!<kN3_1zzqJ_Je{%LMY*oBn5$otaA*yYu+aR5YV~H=+8WnSdJ{E$3WOYD3Be!D*Au&_aC%p:Ue7GQ.*Zmb9%wgp$JL!Dtvx3!erUKZKthDZ>6m.dUU+TGr4DS1D,L3eF$rxP6755UZV3w&&C<3ar9W$jensz<jO14,NqpkT!%?4T!Urv093XDk;NHE*}0rv|mQh%;?MdNYVID{tBUed7u!n1o*B~H<.U1FAtyF8&CaQb.1C*?be,tGKBwQOdNYLs*c!WnWEfC>C$UAddh5101>apv*9+,.hsj>YOmtCJ!sVPMnL8>f4D{hdp$ZG.RJGRN7nCK^e$.Q$nUyF,YXV2puiGE:GA$7c4Y|J|T2RP1%e!pY,JxrP&UuG!ZoyYLP&A$4$|ZX+bo%*G2.Sdrn&RwL:?t|U&{kx+|Ke?*&aybHras6.Po7GY2}0bd2C&ByRLwNY^WGwD1WYBc7>wW*VB_0506F*73X!%Qai&SmbbsV^37J=%PH=~T%Z1mY:uVl!,qJ21nhe$Lz~Odn~9.rls?}W|Q1WGr!zpG,$Ex91~Qeq5SfP<mUUv%6vbtBINE:jVWhfFnZ&t5%0YcH7&:9*XDz&x%tUz;muVL1;;S;^XRj1~lDZXED3!&_uK5Pxc*zalQuhCu&E$Q{l30S%<h~sJKH!.5x6<m%9{%|pxxYwPd$z%&SY$QT&4+;4|7nL%zmdtly}_,py9nfhh$&O!qGR{P&,9jca86..<8,lOjWR*!YBMq2%yT;yDfdoFEJ*<;j}bEYr%I53.Ua0}!yqoL0,f>*U2!q9,Pm1zkOZlG{25g+a|U_<M1bBSRbTRr!Y2<j:0Cx+~9&y%K.l;r7ssY.hZ!ytR>C^3:31fhSPa{73LmYHF~^G,|~:E_|rx!3o5{.RNL,2M6kF5_E+Kad3ra7&5Ge$O.O5l!;fSMUjW+!z:ID{*tE$4Th~O!uY$B:egaXWO2Jj%FC31E»
end PySem.W.Fast
namespace HdQ
open PySem PySem.W
def live (o:Obj):Bool:= match o.data with
  | .freed => false
  |_ => true
noncomputable def pick (l:List Obj):Nat -> NL -> List (Obj×Bool):=
  @List.rec Obj (λ_ => Nat -> NL -> List (Obj×Bool)) (λ_ _ => [])
    (λo _ ih i as => @List.rec Nat (λ_ => List (Obj×Bool)) [] (λa as' _ => @Bool.rec (λ_ => List (Obj×Bool)) (ih (i + 1) (a :: as')) ((o,live o) :: ih (i + 1) as') (Nat.beq i a)) as) l
theorem pick_is:∀(l:List Obj) (i:Nat) (as:NL),(pick l i as).length=as.length -> ∀(k a:Nat) (o:Obj×Bool),as[k]? = some a -> (pick l i as)[k]? = some o -> i <= a /\ l[a - i]? = some o.1 /\ o.2=live o.1
  |[],i,as,h,k,a,o,h1,h2 => by
    exfalso;have:(pick [] i as)[k]? = none:= rfl;rw [this]at h2;cases h2
  |x :: l,i,[],h,k,a,o,h1,h2 => by simp at h1
  |x :: l,i,b :: as,h,k,a,o,h1,h2 => by
    have e:pick (x :: l) i (b :: as) = @Bool.rec (λ_ => List (Obj×Bool)) (pick l (i + 1) (b :: as)) ((x,live x) :: pick l (i + 1) as) (Nat.beq i b):= rfl;rw [e]at h h2;cases q:Nat.beq i b with
    |true =>
      have f:= Nat.eq_of_beq_eq_true q;rw [q]at h h2;have h':(pick l (i + 1) as).length + 1=as.length + 1:= h;cases k with
      |zero =>
        cases h1;cases h2;exact ⟨by omega,by rw [f,Nat.sub_self]; rfl,rfl⟩
      |succ k =>
        obtain ⟨d,g2,c⟩:= pick_is l (i + 1) as (by omega) k a o h1 h2;exact ⟨by omega,by rw [show a - i=(a - (i + 1)) + 1 by omega]; exact g2,c⟩
    |false =>
      rw [q]at h h2;obtain ⟨d,g2,c⟩:= pick_is l (i + 1) (b :: as) h k a o h1 h2;exact ⟨by omega,by rw [show a - i=(a - (i + 1)) + 1 by omega]; exact g2,c⟩
theorem get_live {h:Heap} {a:NX} {o:Obj} (e:h.objs[a]? = some o) (l:live o=true):h.get? a=some o:= by
  unfold Heap.get?;rw [e];obtain ⟨c,d,b,f⟩:= o;cases b<;>first|rfl | (exact absurd l Bool.false_ne_true)
theorem pick_get {K:Frag} {as:NO} {h:Heap} (e:as=K.map (·.1)) (x:pick h.objs.toList 0 as=K.map λp => (p.2,true)):as.map h.get? = K.map λp => some p.2:= by
  have b:(pick h.objs.toList 0 as).length=as.length:= by rw [x,e,List.length_map,List.length_map]
  refine List.ext_getElem? λk => ?_;rw [List.getElem?_map,List.getElem?_map];cases q:K[k]? with
  |none =>
    have:as[k]? = none:= by rw [e,List.getElem?_map,q]; rfl
    rw [this]; rfl
  |some p =>
    have h1:as[k]? = some p.1:= by rw [e,List.getElem?_map,q]; rfl
    have h2:(pick h.objs.toList 0 as)[k]? = some (p.2,true):= by rw [x,List.getElem?_map,q]; rfl
    obtain ⟨_,g,a⟩:= pick_is _ _ _ b k p.1 _ h1 h2;rw [h1];show some (h.get? p.1)=some (some p.2);rw [Nat.sub_zero,Array.getElem?_toList]at g;rw [get_live g a.symm]
noncomputable def hk (K:Params -> Frag) (as:NO) (e:∀P,as=(K P).map (·.1)):Hook:=
  ⟨List (Obj×Bool),λs => pick s.heap.objs.toList 0 as,λw => (K w.params).map λp => (p.2,true),InK K,λw s x => InK.of e w s (pick_get (e _) x),InK.keeps⟩
theorem hk_in {K:Params -> Frag} {as:NO} {e:∀P,as=(K P).map (·.1)} {w:World} {h:Heap} (Y:(hk K as e).says w h):(K w.params).In h:= Y
end HdQ
namespace HdQ
open PySem PySem.W
def q0 : Program := { PySem.Challenge.rw_heddle_k68_questions_refused.prog with main := { PySem.Challenge.rw_heddle_k68_questions_refused.prog.main with body := (PySem.Challenge.rw_heddle_k68_questions_refused.prog.main.body.drop 83).take 1 ++ PySem.Challenge.rw_heddle_k68_questions_refused.prog.main.body.drop 196 } }
def l0 : List Str := [Str.ofString "WeaveError",Str.ofString "NoRow",Str.ofString "TooLarge",Str.ofString "NoCloth",Str.ofString "NoDraft",Str.ofString "NoStrand",Str.ofString "NoLaying",Str.ofString "NoShuttle",Str.ofString "NoColour",Str.ofString "NoBlock",Str.ofString "NoPattern",Str.ofString "Unknown",Str.ofString "Twice",Str.ofString "MOST_STRANDS",Str.ofString "measured",Str.ofString "back_of",Str.ofString "quarter_of",Str.ofString "measured_texts",Str.ofString "check_pick",Str.ofString "check_strand",Str.ofString "end_signs",Str.ofString "turned_signs",Str.ofString "MOST_SHAFTS",Str.ofString "Draft",Str.ofString "woven",Str.ofString "least_draft",Str.ofString "check_setting",Str.ofString "check_count",Str.ofString "check_count_drafts",Str.ofString "check_shaft",Str.ofString "check_tie",Str.ofString "check_treading",Str.ofString "shed_over",Str.ofString "shafts_over",Str.ofString "unlike",Str.ofString "LETTERS",Str.ofString "MOST_LETTERS",Str.ofString "WORDS",Str.ofString "is_name",Str.ofString "FIGURES",Str.ofString "Reader",Str.ofString "number_of",Str.ofString "MOST_NUMBERS",Str.ofString "MOST_DEEP_rows",Str.ofString "Path",Str.ofString "Times",Str.ofString "unfolded",Str.ofString "shown",Str.ofString "whole_size",Str.ofString "all_numbers",Str.ofString "steps_between",Str.ofString "read_row",Str.ofString "read_items",Str.ofString "read_item",Str.ofString "read_times",Str.ofString "read_path",Str.ofString "read_number",Str.ofString "read_number_rows",Str.ofString "parted",Str.ofString "written_path",Str.ofString "is_stop",Str.ofString "BETWEEN_PARTS",Str.ofString "BETWEEN_TIES",Str.ofString "written_draft",Str.ofString "read_draft",Str.ofString "filled_blocks",Str.ofString "unit_size",Str.ofString "overs_within",Str.ofString "tiled",Str.ofString "times_met",Str.ofString "scores_of",Str.ofString "tops_of",Str.ofString "layer_numbers",Str.ofString "laid_together",Str.ofString "check_owners",Str.ofString "check_piece",Str.ofString "places_within",Str.ofString "sign_at",Str.ofString "Piece",Str.ofString "Named",Str.ofString "Rows",Str.ofString "Twill",Str.ofString "Satin",Str.ofString "Beside",Str.ofString "Above",Str.ofString "Mirror",Str.ofString "Upend",Str.ofString "Back",Str.ofString "Quarter",Str.ofString "Tile",Str.ofString "Blocks",Str.ofString "Lay",Str.ofString "check_size",Str.ofString "check_one_size",Str.ofString "prime_to",Str.ofString "written",Str.ofString "MOST_DEEP_reader",Str.ofString "MOST_RUNS",Str.ofString "THINGS",Str.ofString "read_pattern",Str.ofString "read_whole",Str.ofString "read_node",Str.ofString "read_things",Str.ofString "read_runs",Str.ofString "read_run",Str.ofString "read_number_reader",Str.ofString "read_comma",Str.ofString "worked_out",Str.ofString "known_cloth",Str.ofString "made_of_one",Str.ofString "made_of_two",Str.ofString "made_of_three",Str.ofString "read_book",Str.ofString "read_line",Str.ofString "parting_place",Str.ofString "check_set",Str.ofString "lower_strands",Str.ofString "lower_within",Str.ofString "ways_from",Str.ofString "way_to",Str.ofString "upper_part",Str.ofString "measured_half",Str.ofString "finished_cloth",Str.ofString "settle",Str.ofString "longest_float",Str.ofString "COLOURS",Str.ofString "free_half",Str.ofString "measured_picture",Str.ofString "check_threads",Str.ofString "free_pick",Str.ofString "free_sign",Str.ofString "first_colouring",Str.ofString "crossings_of",Str.ofString "settle_strand",Str.ofString "chain_from",Str.ofString "made_draft",Str.ofString "shifts_of",Str.ofString "least_across",Str.ofString "stays",Str.ofString "moved",Str.ofString "SHUTTLES",Str.ofString "seams_of",Str.ofString "tubes_of",Str.ofString "sheets_of",Str.ofString "check_shuttles",Str.ofString "seams_along",Str.ofString "bearers",Str.ofString "round_way",Str.ofString "web_of_set",Str.ofString "MOST_FIGURES",Str.ofString "ASKED_OF_A_NAME",Str.ofString "answers_to",Str.ofString "words_of",Str.ofString "answer_to",Str.ofString "answered",Str.ofString "of_a_name",Str.ofString "overs",Str.ofString "sheets",Str.ofString "paint",Str.ofString "check_count_desk",Str.ofString "check_name",Str.ofString "far_number",Str.ofString "whole_number",Str.ofString "_law_refused",Str.ofString "_law_answered",Str.ofString "_law_line"]
end HdQ
open Lean in
local macro_rules
  | `(tactic| refine $f:ident $args*) => do
    unless f.getId == `PySem.W.holds_open do Macro.throwUnsupported
    let some qa := args.find? λa => a.raw.isOfKind ``Lean.Parser.Term.namedArgument && a.raw[1].getId.eraseMacroScopes == `q | Macro.throwUnsupported
    let qs := qa.raw[3]
    if qs.isIdent && qs.getId == `HdQ.q0 then Macro.throwUnsupported
    let q0 := (mkIdent `HdQ.q0).raw
    let args := args.map λa => ⟨Id.run do
      if a.raw.isOfKind ``Lean.Parser.Term.namedArgument then
        if a.raw[1].getId.eraseMacroScopes == `loose then return a.raw.setArg 3 (mkIdent `HdQ.l0)
        return Id.run (a.raw.replaceM λs => pure (if s.structEq qs then some q0 else none))
      return a.raw⟩
    `(tactic| refine $f:ident $args*)
open Lean in
local macro_rules
  | `(tactic| o_head ($h:ident $a $b $c $_ds*)) => do
    unless [`kHook, `kmHook, `PySem.W.kHook, `PySem.W.kmHook].contains h.getId.eraseMacroScopes do Macro.throwUnsupported
    `(tactic| o_head (HdQ.hk $a $b $c))
set_option maxRecDepth 100000 in
set_option maxHeartbeats 0 in
theorem PySem.Challenge.cw_heddle_k68_questions_refused_holds : PySem.Challenge.rw_heddle_k68_questions_refused.Holds := by
 w_on;o_law;k_head;(case hw=>w_witness2)
 k_fill
 refine L2.AiE (l:=PySem.Challenge.rw_heddle_k68_questions_refused) (n:=63) (k:=150) (x := "script") (y := "layers_of") (qn := "layers_of.<locals>.<lambda>") (CX:=L2.CX0) (sp:=Mine.AaH) rfl (by decide) rfl ⟨rfl,by decide,by decide⟩ (λw h Y=>HdQ.hk_in Y) rfl ?QQF ?QQS ?QQC
 case QQF =>
  intro w mg fa h KX G hmg
  refine' Mine.ApM (t:=Mine.Adr.mk) hmg ?QQT ?QQt4 ?QQt0 ?QQt1 ?QQt3 ?QQt2
  case QQT =>
   constructor <;> (try dsimp only) <;> first
   | (refine' L2.DfH.df ⟨?QQa,?QQb⟩ KX G ?QQc;(case QQa=>k_is);(case QQb=>(apply L2.Adk <;> k_is));(case QQc=>(intro _ _ _ _ _ _ us hl;first | exact Mine.bl1 (λ_=>rfl) us hl | exact Mine.bl2 (λ_ _=>rfl) us hl | exact Mine.bl3 (λ_ _ _=>rfl) us hl | exact Mine.bl4 (λ_ _ _ _=>rfl) us hl | exact Mine.bl5 (λ_ _ _ _ _=>rfl) us hl)))
   | (refine' L2.DfA.of ?QQa ?QQb KX G ?QQc;(case QQa=>k_is);(case QQb=>(apply L2.Adk <;> k_is));(case QQc=>(intro _ _ _ _ _ _ us hl;first | exact Mine.bl1 (λ_=>rfl) us hl | exact Mine.bl2 (λ_ _=>rfl) us hl | exact Mine.bl3 (λ_ _ _=>rfl) us hl | exact Mine.bl4 (λ_ _ _ _=>rfl) us hl | exact Mine.bl5 (λ_ _ _ _ _=>rfl) us hl)))
   | exact W.mg_none_of KX G (by k_is)
   | exact⟨_,W.mg_of KX G (by k_is)⟩
   | exact W.mg_of KX G (by k_is)
   | (refine' L2.MfH.mf ⟨?QQa,?QQb,?QQd⟩ ?QQc;(case QQa=>k_is);(case QQb=>k_is);(case QQd=>(apply L2.Adk <;> k_is));(case QQc=>(intro _ _ _ _ _ _ us hl;first | exact Mine.bl1 (λ_=>rfl) us hl | exact Mine.bl2 (λ_ _=>rfl) us hl | exact Mine.bl3 (λ_ _ _=>rfl) us hl | exact Mine.bl4 (λ_ _ _ _=>rfl) us hl | exact Mine.bl5 (λ_ _ _ _ _=>rfl) us hl)))
   | (apply L2.Aoe <;> k_is)
   | (unfold L2.Bp;k_is)
   | (apply L2.Aoa <;> first | k_exc | k_is)
   | k_is
   | kernel_rfl
   | (refine L2.AkZ (by k_is) rfl rfl (by decide) ?_;repeat (first | exact .nil | refine .cons ⟨_,rfl⟩ ?_))
   | (refine L2.Aoj ?_;kernel_rfl)
   | (constructor <;> first | k_is | rfl)
  case QQt4=>k_is
  case QQt0=>exact rfl
  case QQt1=>k_is
  case QQt3=>exact rfl
  case QQt2=>kernel_rfl
 case QQS=>exact λK T H a ns hl hS tb=>Mine.AaI hl hS tb
 case QQC=>exact λ_ _ _ _ z=>z
