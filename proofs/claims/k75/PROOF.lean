import PyProof.Rows.All
import Wide.FinOn
import KE.KNestM
import OpenK.KOwn
import KE.KItem
import KE.IntText
import KE.KTabLook
import KE.KFromBytes
import KE.KIntText
import KE.KTab
import KE.KIsAll
import KE.KLam
import KE.KRevIter
import KE.KDictOf
import KE.KxBytes
import OpenK.KRaise
import Lean
import PyProof.EqAt
import PyProof.EqKinds
import PyProof.TupleCall
import PyProof.StrBlockL
import PyProof.EnumMake
import PyProof.CollectIter
import PyProof.JoinWalk
import PyProof.StrOps
import PyProof.StrLawsIdx
import PyProof.StrLawsIn
import PyProof.ListRange
import PyProof.Rows.Range3
import PyProof.Rows.SumAny
import KE.LcSums
import OpenK.KCls
import PyProof.LongRange
import PyProof.StrOps2
import PyProof.FitsBits
import PyProof.Rows.ZipGen
import PyProof.NeKinds
import PyProof.Draws
import PyProof.Rows.SeqMore
import Wide.Txt
import PyProof.Rows.StrNews
import PyProof.StrLawsChain
import PyProof.ConsumeWalk
import KE.KUnpack
import PySem.Challenge.RW_heddle_k75_whole_papers_refused
set_option compiler.extract_closed false
open Lean in
local macro_rules
|`($m:declModifiers def $i:declId $s:optDeclSig $v:declVal)=>do
 unless m.raw[4].isNone && ![`vE,`vN].contains i.raw[0].getId do Macro.throwUnsupported
 let m:=⟨m.raw.setArg 4 (mkNullNode #[.node .none ``Lean.Parser.Command.noncomputable #[mkAtom "noncomputable"]])⟩
 `($m:declModifiers def $i:declId $s:optDeclSig $v:declVal)
|`($m:declModifiers abbrev $i:declId $s:optDeclSig $v:declVal)=>do
 unless m.raw[4].isNone && ![`vE,`vN].contains i.raw[0].getId do Macro.throwUnsupported
 let m:=⟨m.raw.setArg 4 (mkNullNode #[.node .none ``Lean.Parser.Command.noncomputable #[mkAtom "noncomputable"]])⟩
 `($m:declModifiers abbrev $i:declId $s:optDeclSig $v:declVal)
theorem Ap{p:Prop}(h:p:=by decide):p:=h
theorem At{p:Prop}(h:p:=by decide +kernel):p:=h
theorem Au{p:Prop}(h:p:=by omega):p:=h
theorem AA{p:Prop}(h:p:=by lia):p:=h
theorem AB{p:Prop}(h:p:=by simp):p:=h
theorem AC{p:Prop}(h:p:=by simp_all):p:=h
theorem AD{p:Prop}(h:p:=by grind):p:=h
theorem AE{p:Prop}(h:p:=by show 2<=sizeLine;decide):p:=h
theorem U.{u}{α:Sort u}{a:α}:a=a:=rfl
theorem NN.{u}{α:Sort u}{a:α}{p:Prop}:a=a\/p:=Or.inl rfl
abbrev NI:=List (List Nat)
abbrev NV:=List Nat
abbrev NA:=List (List Int)
abbrev NF:=List Int
abbrev NO:=PySem.W.Frag
abbrev NR:=List (PySem.Addr×PySem.Obj)
abbrev NU:=PySem.Value->PySem.Shared->Prop
abbrev NW:=List PySem.Addr
abbrev NX:=List PySem.Value
abbrev NY:=List PySem.Str
abbrev Na:=Option PySem.Value
abbrev Nn:=PySem.Addr
abbrev No:=PySem.FuncData
abbrev Nw:=PySem.Shared
abbrev N0:=PySem.Value
abbrev LL:=PySem.Stmt
set_option Elab.async false
set_option linter.all false
set_option maxRecDepth 100000
namespace Zy
open PySem PySem.Spec PyProof.Rows PySem.W
def zA:=@wpAny_bind
def zB:=@Heap.get?_push_of_some
def zC:=@List.getElem?_eq_some_iff
def zD:=@Heap.get?_push_size
def zE:=@wpAny_pure
def zF:=@List.mem_singleton
def zG:=@List.mem_append
def zH:=@Heap.get?_update_other
def zI:=@F.plainAttrs_str
def zJ:=@decide_eq_false
def zK:=@Array.length_toList
def zL:=@F.slot_list_append
def zM:=@F.plainAttrs_list
def zN:=@decide_eq_true
def zO:=@Array.getElem?_toList
def zP:=@Array.getElem?_eq_getElem
def zQ:=@F.type_list_append
def zR:=@Heap.get?_update_self
def zS:=@F.slot_str_join
def zT:=@wpAny_mono
def zU:=@Option.map_eq_some_iff
def zV:=@F.type_str_join
def zW:=@PySem.mem_of_lookup
def zX:=@Obj.data_mapFields
def zY:=@F.slot_str_split
def zZ:=@beq_eq_false_iff_ne
def z5:=@decide_eq_decide
def z6:=@F.type_str_split
def z7:=@sizeLine_eq
def z8:=@wpAny_holding
def z9:=@wpAny_field
def yA:=@wpAny_truthy_bool
def yB:=@List.mem_map
def yC:=@List.mem_cons
def yD:=@List.mem_range
def yE:=@if_neg
def yF:=@if_pos
def yG:=@absurd
def yH:=@Heap.lt_size
def yI:=@Option.some.inj
def yJ:=@PassesOwn.never
def yK:=@PyProof.Rows.callWith_type1
def yL:=@Ne.symm
def yM:=@or_false
def yN:=@of_decide_eq_true
def yO:=@Heap.size_push
def yP:=@wpAny_Call_Name_kw
def yQ:=@Decidable.of_not_not
def yR:=@False.elim
def yS:=@List.cons.inj
def yT:=@ne_true_of_eq_false
def yU:=@wpAny_seqItems
def yV:=@wpAny_call_entry
end Zy
open Zy
namespace Zz
def AxR:=@List.length_map
def AxS:=@List.length_append
def AxT:=@List.getElem?_eq_getElem
def AxU:=@Nat.le_refl
def AxV:=@List.map_append
def AxW:=@List.mem_cons_self
def AxX:=@List.length_cons
def AxY:=@List.mem_cons_of_mem
def AxZ:=@List.getElem?_map
def Aya:=@List.take_add_one
def Ayb:=@List.mem_of_getElem?
def Ayc:=@List.length_take
def Ayd:=@List.map_cons
def Aye:=@Nat.ne_of_lt
def Ayf:=@Nat.zero_le
def Ayg:=@List.take_length
def Ayh:=@Nat.le_trans
def Ayi:=@Int.toNat_natCast
def Ayj:=@yC
def Ayk:=@Nat.le_of_ble_eq_true
def Ayl:=@Nat.lt_of_lt_of_le
def Aym:=@List.getElem?_append_right
def Ayn:=@Bool.false_ne_true
def Ayo:=@List.getElem?_append_left
def Ayp:=@List.getElem_mem
def Ayq:=@List.not_mem_nil
def Ayr:=@List.append_nil
def Ays:=@List.length_drop
def Ayt:=@List.size_toArray
def Ayu:=@List.length_nil
def Ayv:=@List.flatten_cons
def Ayw:=@List.length_range
def Ayx:=@List.length_replicate
def Ayy:=@List.take_of_length_le
def Ayz:=@List.replicate_succ
def Ay0:=@List.append_assoc
def Ay1:=@List.length_reverse
def Ay2:=@List.getD_eq_getElem?_getD
def Ay3:=@Nat.le_of_lt
def Ay4:=@Nat.lt_irrefl
def Ay5:=@Int.zero_add
def Ay6:=@List.sum_cons
def Ay7:=@List.map_map
def Ay8:=@List.range_succ
def Ay9:=@List.cons_append
def AyA:=@List.mem_append_right
def AyB:=@Nat.min_le_left
def AyC:=@List.lookup_cons
def AyD:=@List.filter_append
def AyE:=@Nat.ne_of_gt
def AyF:=@Nat.lt_succ_self
def AyG:=@List.take_succ_cons
def AyH:=@List.takeWhile_cons
def AyI:=@List.take_append_drop
def AyJ:=@Nat.sub_self
def AyK:=@List.getElem?_eq_none
def AyL:=@List.filterMap_cons
def AyM:=@Bool.and_eq_true
def AyN:=@Nat.min_eq_left
def AyO:=@List.drop_drop
def AyP:=@List.map_id
def AyQ:=@Int.emod_nonneg
def AyR:=@List.any_cons
def AyS:=@List.getElem?_drop
def AyT:=@Int.emod_lt_of_pos
def AyU:=@Bool.eq_iff_iff
def AyV:=@Nat.le_of_eq
def AyW:=@Nat.le_succ
def AyX:=@List.forIn_cons
def AyY:=@List.drop_zero
def AyZ:=@List.drop_eq_getElem_cons
def Aza:=@List.take_append_of_le_length
def Azb:=@Nat.min_self
def Azc:=@List.length_singleton
def Azd:=@List.filter_cons_of_pos
def Aze:=@Nat.mul_zero
def Azf:=@List.length_filter_le
def Azg:=@List.mem_append_left
def Azh:=@List.of_mem_zip
def Azi:=@Nat.lt_of_le_of_lt
def Azj:=@List.ext_getElem?
def Azk:=@List.getElem?_range
def Azl:=@List.find?_cons
def Azm:=@List.getLast?_append
def Azn:=@List.dropWhile_suffix
def Azo:=@Int.toNat_of_nonneg
def Azp:=@List.all_cons
def Azq:=@List.foldl_cons
def Azr:=@Nat.mul_comm
def Azs:=@Nat.lt_trans
def Azt:=@List.all_map
def Azu:=@List.getElem?_reverse
def Azv:=@Nat.sub_zero
def Azw:=@Option.map_some
def Azx:=@List.all_eq_true
def Azy:=@Nat.add_zero
def Azz:=@List.take_left
def Az0:=@List.drop_left
def Az1:=@List.getElem?_take
def Az2:=@List.count_append
def Az3:=@List.any_map
def Az4:=@List.drop_length
def Az5:=@List.filter_nil
def Az6:=@List.getElem?_set_ne
def Az7:=@List.any_eq_false
def Az8:=@List.map_congr_left
def Az9:=@List.eq_nil_of_length_eq_zero
def AzA:=@List.range'_succ
def AzB:=@List.dropWhile_cons
def AzC:=@List.takeWhile_append_dropWhile
def AzD:=@List.reverse_append
def AzE:=@List.reverse_reverse
def AzF:=@Nat.mod_eq_of_lt
def AzG:=@Option.toList_some
def AzH:=@List.flatMap_cons
def AzI:=@List.length_zipWith
def AzJ:=@List.any_eq_true
def AzK:=@List.getElem_of_mem
def AzL:=@List.filter_cons_of_neg
def AzM:=@List.head?_reverse
def AzN:=@List.drop_append_of_le_length
def AzO:=@Int.mul_le_mul_of_nonneg_right
end Zz
open Zz
namespace L2
open PySem PySem.Spec PyProof.Rows
variable {xs vs:LI}{us ds:NX}{H H':Hp}{a b it C dx:Nn}{o o':HO}{u cd:N0}{P prog:Program}{w:World}{h h':Heap}{x name m qual:Str}{e c tg l iter:Expr}{ch fp:NW}{X:Cx}{pins:NR}{σ:St}{s s':Nw}{g':Array GenState}{t' i j n tk:Nat}{d':Drawn}{N ns ps:NY}{M:Model}{A:Around}{E:NU}{v y:V}{Q:Unit->Nw->Prop}{α κ:Type}{pos pos' p:Pos}{ta te tl:TE}{tb:TS}{op:CmpOp}{tc:TT}{D:Ends}{f:N0->N0->Sem N0}{es:List Expr}{body:List LL}{pl:Sem Bool}{r:R2}{mA mg:Str->Na}{kw:List (Str×N0)}{CX:CXT}{fd:No}{sp:Sp}{sc scope:Scope}
abbrev Key:=Sum Int Str
def AeL:Key->N0->Bool
 | .inl k,v=>Value.isInt k v
 | .inr x,v=>Value.isStrOf x v
def Aw8 (w:World):Key->Int
 | .inl k=>hashInt k
 | .inr x=>hashStr w x
theorem Fe:∀{k:Key} {v:N0},AeL k v=true->(∃i t,k=Sum.inl i/\v=Value.int i t)\/(∃x t,k=Sum.inr x/\v=Value.str x t)
 | .inl i,v,h=>by
  obtain⟨t,e⟩:=Value.isInt_shape h;exact .inl ⟨i,t,U,e⟩
 | .inr x,v,h=>by
  obtain⟨t,e⟩:=Value.isStrOf_shape h;exact .inr ⟨x,t,U,e⟩
theorem Al1(i:Int)(t:Tok):AeL (.inl i) (.int i t)=true:=by simp[AeL,Value.isInt]
theorem Al2(x:Str)(t:Tok):AeL (.inr x) (.str x t)=true:=by simp[AeL,Value.isStrOf]
theorem As7(a b:Int):decide ((Sum.inl a:Key)=Sum.inl b)=(a == b):=by
 by_cases e:a=b
 ·subst e;simp
 ·simp_all
theorem As8(a b:Str):decide ((Sum.inr a:Key)=Sum.inr b)=decide (a=b):=AC
theorem As9(a:Int)(b:Str):decide ((Sum.inl a:Key)=Sum.inr b)=false:=zJ (λq=>nomatch q)
theorem AsA(a:Str)(b:Int):decide ((Sum.inr a:Key)=Sum.inl b)=false:=zJ (λq=>nomatch q)
def Ku (prog:Program)(w:World):PySem.KeyKind prog w Key where
 is:=AeL
 hash:=Aw8 w
 inj:=λv a b ha hb=>by
  rcases Fe ha with ⟨i,t,rfl,rfl⟩|⟨x,t,rfl,rfl⟩
  ·rcases Fe hb with ⟨j,u,rfl,e⟩|⟨y,u,rfl,e⟩
   ·injection e with e1 _;rw[e1]
   ·exact nomatch e
  ·rcases Fe hb with ⟨j,u,rfl,e⟩|⟨y,u,rfl,e⟩
   ·exact nomatch e
   ·injection e with e1 _;rw[e1]
 byValue:=λk v h=>by
  rcases Fe h with ⟨i,t,rfl,rfl⟩|⟨x,t,rfl,rfl⟩<;>rfl
 pyHash:=λhv h=>by
  rcases Fe hv with ⟨i,t,rfl,rfl⟩|⟨x,t,rfl,rfl⟩
  ·exact wpAny_pyHash_int h
  ·exact wpAny_pyHash_str h
 eqBool:=λhu hv h=>by
  rcases Fe hu with ⟨i,t,rfl,rfl⟩|⟨x,t,rfl,rfl⟩
  ·rcases Fe hv with ⟨j,u,rfl,rfl⟩|⟨y,u,rfl,rfl⟩
   ·rw[As7]at h;exact wpAny_eqBool_int h
   ·rw[As9]at h;exact SeqAt.EqAt.int_str i t y u _ _ _ _ h
  ·rcases Fe hv with ⟨j,u,rfl,rfl⟩|⟨y,u,rfl,rfl⟩
   ·rw[AsA]at h;exact SeqAt.EqAt.str_int x t j u _ _ _ _ h
   ·rw[As8]at h;exact wpAny_eqBool_str h
 «strs»:=λk x t v h=>by
  rcases Fe h with ⟨i,u,rfl,e⟩|⟨y,u,rfl,e⟩
  ·exact nomatch e
  ·injection e with e1 _
   subst e1
   cases v<;>rfl
theorem Ahy(prog:Program)(w:World)(i:Int)(t:Tok):(Ku prog w).is (.inl i) (.int i t)=true:=Al1 i t
theorem Ahz(prog:Program)(w:World)(x:Str)(t:Tok):(Ku prog w).is (.inr x) (.str x t)=true:=Al2 x t
inductive V where
 |non|bl (b:Bool)|int (i:Int)|str (x:Str)|byt (b:Array UInt8)|flt (b:UInt64)|ref (a:Nn)|ty (n:String)
 deriving DecidableEq
abbrev LI:=List V
def RelV:V->N0->Prop
 | .non,u=>u=Value.none
 | .bl b,u=>u=Value.bool b
 | .int i,u=>∃t,u=Value.int i t
 | .str x,u=>∃t,u=Value.str x t
 | .byt b,u=>∃t,u=Value.bytes b t
 | .flt b,u=>∃t,u=Value.float b t
 | .ref a,u=>u=Value.ref a
 | .ty n,u=>u=Value.type n
abbrev Vals:LI->NX->Prop:=Paired RelV
theorem Vals.length(r:Vals xs us):xs.length=us.length:=Paired.length r
theorem Vals.get:∀{xs:LI} {us:NX} {i:Nat} {x:V},Vals xs us->xs[i]?=some x->∃u,us[i]?=some u/\RelV x u
 |_,_,_,_,.nil,e=>by simp at e
 |_,_,0,_,.cons r _,e=>AC
 |_,_,i+1,x,.cons _ t,e=>by
  obtain⟨u,h1,h2⟩:=Vals.get t (by simpa using e);exact⟨u,by simpa using h1,h2⟩
theorem Vals.append:∀{xs ys:LI} {us ws:NX},Vals xs us->Vals ys ws->Vals (xs++ys) (us++ws)
 |_,_,_,_,.nil,s=>s
 |_,_,_,_,.cons r t,s=>.cons r (Vals.append t s)
theorem Vals.take:∀{xs:LI} {us:NX} (n:Nat),Vals xs us->Vals (xs.take n) (us.take n)
 |_,_,0,_=>.nil
 |_,_,_+1,.nil=>.nil
 |_,_,n+1,.cons r t=>.cons r (Vals.take n t)
theorem Vals.drop:∀{xs:LI} {us:NX} (n:Nat),Vals xs us->Vals (xs.drop n) (us.drop n)
 |_,_,0,r=>r
 |_,_,_+1,.nil=>.nil
 |_,_,n+1,.cons _ t=>Vals.drop n t
def Z9:Option V->Na->Prop
 |some v,some u=>RelV v u
 |none,none=>True
 |_,_=>False
def KV {κ:Type}:List (κ×V)->List (κ×N0)->Prop:=Paired λ(p:κ×V)(q:κ×N0)=>p.1=q.1/\RelV p.2 q.2
def kV:Key->V
 | .inl i=>.int i
 | .inr x=>.str x
inductive HO where
 |lst (xs:LI)
 |tup (xs:LI)
 |dK (kvs:List (Key×V))|dT (kvs:List (List Key×V))
 |set (S:Int->Bool) (n:Nat)
 |ins (C dx:Nn) (fs:List (Str×V))
 |own (x:Nn)
 |xd (fs:List (Str×V))
 |met (f x:Nn)
 |rng (lo hi:Int)
 |frz (o:Obj) (u:HO)
 |tbl (ps:Array N0)
 |ext (φ:Heap->Prop)
abbrev Hp:=Nn->Option HO
def upd (H:Hp)(a:Nn)(o:HO):Hp:=λb=>if b=a then some o else H b
theorem Ae:upd H a o a=some o:=by unfold upd;rw[yF rfl]
theorem Ao(h:b≠a):upd H a o b=H b:=by unfold upd;rw[yE h]
theorem Kv{u:HO}:upd (upd H a o) a u=upd H a u:=by
 funext b;unfold upd;split<;>rfl
theorem Bf(h:H a=some o)(h':H b=none):a≠b:=by intro e;subst e;rw[h]at h';cases h'
section
variable (P:Program) (w:World)
def Gp (H:Hp)(h:Heap)(a:Nn):HO->Prop
 | .lst xs=>xs.length<=sizeLine/\∃(its:NX)(n:Nat),Vals xs its/\h.get? a=some {cls:=.type "list",data:=.seq its.toArray n}
 | .tup xs=>xs.length<=sizeLine/\∃its:NX,Vals xs its/\IsTup h a its.toArray
 | .dK kvs=>kvs.length<=sizeLine/\(a == sysModules)=false/\∃vs,KV kvs vs/\h.DictOf (Ku P w) a vs
 | .dT kvs=>kvs.length<=sizeLine/\(a == sysModules)=false/\∃xs:List (List Key×Nn×N0),
   Paired (λ(p:List Key×V)(q:List Key×Nn×N0)=>p.1=q.1/\H q.2.1=some (.tup (p.1.map kV))/\RelV p.2 q.2.2) kvs xs /\
   ∃o es ep,h.get? a=some o/\o.ExactDict/\o.data=.dict es ep/\es.toList=xs.map (entryOfKey (tupleKind (Ku P w)))/\(xs.map (·.1)).Nodup
 | .set S n=>h.SetOf (intKind P w) a S n
 | .ins C dx fs=>H dx=some (.own a)/\fs.length<=1000/\dx≠a/\h.get? a=some (W.instObj C dx) /\
   ∃mA,h.Ns1 dx mA/\(∀f,Z9 (fs.lookup f) (mA f))/\PySem.Within mA (fs.map (·.1))
 | .own _=>∃o,h.get? a=some o
 | .xd fs=>∃mA,h.Ns1 a mA/\∀f,Z9 (fs.lookup f) (mA f)
 | .rng lo hi=>∃t u v,h.get? a=some {cls:=.type "range",data:=.fields #[.int lo t,.int hi u,.int 1 v]}
 | .frz o u=>h.get? a=some o/\Gp H h a u
 | .tbl ps=>h.get? a=some {cls:=.none,data:=.fields ps}
 | .met f x=>h.get? a=some (W.methodObj (.ref f) (.ref x))
 | .ext φ=>φ h/\(∃o,h.get? a=some o)/\∀h1 h2:Heap,φ h1->(∀o,h1.get? a=some o->h2.get? a=some o)->φ h2
def HOk (H:Hp)(h:Heap):Prop:=∀a o,H a=some o->Gp P w H h a o
end
theorem Gp.lt(x:Gp P w H h a o):a<h.objs.size:=by
 cases o with
 |lst xs=>obtain⟨_,_,_,_,e⟩:=x;exact yH e
 |tup xs=>obtain⟨_,_,_,p⟩:=x;exact p.lt
 |dK kvs=>obtain⟨_,_,_,_,o,_,_,e,_⟩:=x;exact yH e
 |dT kvs=>obtain⟨_,_,_,_,o,_,_,e,_⟩:=x;exact yH e
 |set S n=>obtain⟨o,_,_,_,e,_⟩:=x;exact yH e
 |ins C dx fs=>obtain⟨_,_,_,e,_⟩:=x;exact yH e
 |own y=>obtain⟨_,e⟩:=x;exact yH e
 |xd fs=>obtain⟨_,⟨_,_,_,e,_⟩,_⟩:=x;exact yH e
 |rng lo hi=>obtain⟨_,_,_,e⟩:=x;exact yH e
 |frz b u=>obtain⟨e,_⟩:=x;exact yH e
 |tbl ps=>exact yH (x)
 |met f y=>exact yH (x)
 |ext c=>obtain⟨_,⟨_,e⟩,_⟩:=x;exact yH e
theorem Paired.AuF{α β:Type}{F G:α->β->Prop}:∀{d:List α} {c:List β},Paired F d c->(∀a b,F a b->G a b)->Paired G d c
 |_,_,.nil,_=>.nil
 |_,_,.cons r t,f=>.cons (f _ _ r) (Paired.AuF t f)
theorem Gp.stay(x:Gp P w H h a o)(k:∀b u,(b=a\/H b=some (.own a))->h.get? b=some u->h'.get? b=some u)
  (s:∀b,H b=some (.own a)->H' b=some (.own a)) (m:∀b xs,H b=some (.tup xs)->H' b=some (.tup xs)):Gp P w H' h' a o:=by
 induction o with
 |lst xs=>obtain⟨z,its,n,r,e⟩:=x;exact⟨z,its,n,r,k _ _ (.inl U) e⟩
 |tup xs=>obtain⟨z,its,r,i,e,c⟩:=x;exact⟨z,its,r,i,k _ _ (.inl U) e,c⟩
 |dK kvs=>obtain⟨z,y,vs,r,i,es,j,e,c⟩:=x;exact⟨z,y,vs,r,i,es,j,k _ _ (.inl U) e,c⟩
 |dT kvs =>
  obtain⟨z,y,xs,r,i,es,j,e,c⟩:=x;exact⟨z,y,xs,Paired.AuF r λp q z=>⟨z.1,m _ _ z.2.1,z.2.2⟩,i,es,j,k _ _ (.inl U) e,c⟩
 |set S n=>obtain⟨i,es,j,t,e,c⟩:=x;exact⟨i,es,j,t,k _ _ (.inl U) e,c⟩
 |ins C dx fs =>
  obtain⟨d,z,A,e,mA,⟨l,es,j,e2,c⟩,r⟩:=x;exact⟨s _ d,z,A,k _ _ (.inl U) e,mA,⟨l,es,j,k _ _ (.inr d) e2,c⟩,r⟩
 |own y=>obtain⟨i,e⟩:=x;exact⟨i,k _ _ (.inl U) e⟩
 |xd fs=>obtain⟨mA,⟨l,es,j,e,c⟩,r⟩:=x;exact⟨mA,⟨l,es,j,k _ _ (.inl U) e,c⟩,r⟩
 |rng lo hi=>obtain⟨t,u,v,e⟩:=x;exact⟨t,u,v,k _ _ (.inl U) e⟩
 |frz i u B=>obtain⟨e,q⟩:=x;exact⟨k _ _ (.inl U) e,B q⟩
 |tbl ps =>
  have e:=x;exact k a _ (.inl U) e
 |met f y =>
  have e:=x;exact k a _ (.inl U) e
 |ext D=>obtain⟨p,⟨o,e⟩,st⟩:=x;exact⟨st _ _ p λo q=>k _ _ (.inl U) q,⟨o,k _ _ (.inl U) e⟩,st⟩
theorem HOk.lt(x:HOk P w H h)(e:H a=some o):a<h.objs.size:=(x a o e).lt
theorem HOk.fresh(x:HOk P w H h)(e:h.objs.size<=a):H a=none:=by
 cases q:H a with
 |none=>rfl
 |some u=>exact yG (Ayl (x.lt q) e) (Ay4 _)
theorem HOk.kept(x:HOk P w H h)(k:∀b u,h.get? b=some u->h'.get? b=some u):HOk P w H h':=λa o e =>
 (x a o e).stay (λb u _ q=>k b u q) (λ_ q=>q) λ_ _ q=>q
theorem HOk.laid(x:HOk P w H h)(k:∀b u,h.get? b=some u->h'.get? b=some u)(f:h.objs.size<=a)(new:Gp P w (upd H a o) h' a o):HOk P w (upd H a o) h':=λb u e=>by
 have hn:=x.fresh f;by_cases d:b=a
 ·subst d;rw[Ae]at e;cases e;exact new
 ·rw[Ao d]at e;exact(x b u e).stay (λc v _ q=>k c v q) (λc q=>by rw[Ao (Bf q hn)];exact q) λc xs q=>by rw[Ao (Bf q hn)];exact q
def Rd (H:Hp)(a:Nn)(u:HO):Prop:=H a=some u\/∃o,H a=some (.frz o u)
theorem Rd.ok{u:HO}(r:Rd H a u)(x:HOk P w H h):Gp P w H h a u:=by
 rcases r with r|⟨o,r⟩
 ·exact x a u r
 ·obtain⟨_,q⟩:=x a _ r;exact q
def Mut:Option HO->Prop
 |some (.lst _)=>True
 |some (.dK _)=>True
 |some (.dT _)=>True
 |some (.set _ _)=>True
 |some (.ins _ _ _)=>True
 |some (.ext _)=>True
 |_=>False
section
variable {x e:Nn}
theorem HOk.write(ok:HOk P w H h)(d:Mut (H x))(o:e=x\/H e=some (.own x))(k:∀b u,b≠e->h.get? b=some u->h'.get? b=some u)(j:∃u,h'.get? e=some u)
  (new:Gp P w (upd H x o') h' x o'):HOk P w (upd H x o') h':=λb u q=>by
 have i:∀c y,H c=some (.own y)->c≠x:=λc y r z=>by subst z;rw[r]at d;exact d
 have l:∀c xs,H c=some (.tup xs)->c≠x:=λc xs r z=>by subst z;rw[r]at d;exact d
 by_cases f:b=x
 ·subst f;rw[Ae]at q;cases q;exact new
 ·rw[Ao f]at q;by_cases a:b=e
  ·have m:H b=some (.own x):=by
    rcases o with z|z
    ·exact yG (a.trans z) f
    ·rw[a];exact z
   rw[q]at m;cases m;obtain⟨v,n⟩:=j;exact⟨v,by rw[a];exact n⟩
  ·refine(ok b u q).stay (λc v hc r=>k c v ?_ r) (λc r=>by rw[Ao (i c b r)];exact r) λc xs r=>by rw[Ao (l c xs r)];exact r
   grind
end
structure Un (fs ex:NW)(H H':Hp)(h h':Heap):Prop where
 keep:∀b o,h.get? b=some o->H b=none->b∉fs->b∉ex->h'.get? b=some o
 slot:∀b o,h.get? b=some o->H b=none->b∈fs->b∉ex->∃sl,h'.get? b=some {o with slots:=sl}
 free:∀b o,h.get? b=some o->H b=none->b∉ex->H' b=none
 there:∀b o,h.get? b=some o->b∉ex->∃o',h'.get? b=some o'
 tups:∀b xs,H b=some (.tup xs)->H' b=some (.tup xs)
 Iv:∀b o u,H b=some (.frz o u)->H' b=some (.frz o u)
 JB:∀b ps,H b=some (.tbl ps)->∃more,H' b=some (.tbl (ps++more))
section
variable {fs fs' ex ex':NW}{H1 H2:Hp}{h1 h2:Heap}{x e:Nn}
theorem Un.any(u:Un fs ex H H1 h h1){ob:Obj}(q:h.get? b=some ob)(n:H b=none)(c:b∉ex):∃d,h1.get? b=some {ob with slots:=d}:=by
 by_cases a:b∈fs
 ·exact u.slot b ob q n a c
 ·exact⟨ob.slots,u.keep b ob q n a c⟩
theorem Un.trans(a:Un fs ex H H1 h h1)(b:Un fs ex H1 H2 h1 h2):Un fs ex H H2 h h2 where
 keep:=λc e q n hc d=>b.keep c e (a.keep c e q n hc d) (a.free c e q n d) hc d
 slot:=λc e q n hc d=>by
  obtain⟨l,f⟩:=a.slot c e q n hc d;obtain⟨i,e2⟩:=b.slot c _ f (a.free c e q n d) hc d;exact⟨i,e2⟩
 free:=λc e q n d=>by
  obtain⟨o',f⟩:=a.there c e q d;exact b.free c o' f (a.free c e q n d) d
 there:=λc e q d=>by
  obtain⟨o',f⟩:=a.there c e q d;exact b.there c o' f d
 tups:=λc xs q=>b.tups c xs (a.tups c xs q)
 Iv:=λc e xs q=>b.Iv c e xs (a.Iv c e xs q)
 JB:=λc ps q=>by
  obtain⟨j,f⟩:=a.JB c ps q;obtain⟨m2,e2⟩:=b.JB c _ f;exact⟨j++m2,by rw[e2,Array.append_assoc]⟩
theorem Un.kept(k:∀b u,h.get? b=some u->h'.get? b=some u):Un fs ex H H h h':=
 ⟨λb a q _ _ _=>k b a q,λb a q _ _ _=>⟨a.slots,k b a q⟩,λ_ _ _ n _=>n,λb a q _=>⟨a,k b a q⟩,λ_ _ q=>q,λ_ _ _ q=>q,λ_ ps q=>⟨#[],by rw[q];simp⟩⟩
theorem Un.refl:Un fs ex H H h h:=Un.kept λ_ _ q=>q
theorem Un.laid(k:∀b u,h.get? b=some u->h'.get? b=some u)(c:h.objs.size<=a)(hn:H a=none):Un fs ex H (upd H a o) h h' where
 keep:=λb u q _ _ _=>k b u q
 slot:=λb u q _ _ _=>⟨u.slots,k b u q⟩
 free:=λb u q n _=>by rw[Ao (Aye (Ayl (yH q) c))];exact n
 there:=λb u q _=>⟨u,k b u q⟩
 tups:=λb xs q=>by rw[Ao (Bf q hn)];exact q
 Iv:=λb u xs q=>by rw[Ao (Bf q hn)];exact q
 JB:=λb ps q=>⟨#[],by rw[Ao (Bf q hn),q];simp⟩
theorem Un.write(f:Mut (H x))(l:e=x\/H e=some (.own x))(k:∀b u,b≠e->h.get? b=some u->h'.get? b=some u)(i:∃u,h'.get? e=some u):Un fs ex H (upd H x o) h h':=by
 have j:∀b,H b=none->b≠x:=λb n z=>by subst z;rw[n]at f;exact f
 have d:∀b,H b=none->b≠e:=λb n z=>by
  simp_all
 have c:∀b u,H b=some u->¬Mut (some u)->b≠x:=λb u q nm z=>AC
 refine⟨λb u q n _ _=>k b u (d b n) q,λb u q n _ _=>⟨u.slots,k b u (d b n) q⟩,λb u q n _=>by rw[Ao (j b n)];exact n,λb u q _=>?_,
  λb xs q=>by rw[Ao (c b _ q λz=>z)];exact q,λb u xs q=>by rw[Ao (c b _ q λz=>z)];exact q,λb ps q=>⟨#[],by rw[Ao (c b _ q λz=>z),q];simp⟩⟩;by_cases a:b=e
 ·simp_all
 ·exact⟨u,k b u a q⟩
end
def trk (h:Heap)(H:Hp):NW:=(List.range h.objs.size).filter λa=>(H a).isSome
def Ah0 (h:Heap)(H:Hp):Heap:=W.hideAll h (trk h H)
theorem Al3(h:Heap)(H:Hp):(Ah0 h H).objs.size=h.objs.size:=W.hideAll_size _ _
theorem AmW{o:Obj}(e:h.get? b=some o)(n:H b=none):(Ah0 h H).get? b=some o:=
 W.hideAll_get _ e λa=>by
  have q:=(List.mem_filter.mp a).2;rw[n]at q;simp at q
theorem Aqi{o:Obj}(e:(Ah0 h H).get? b=some o):h.get? b=some o/\H b=none:=by
 have a:=W.of_hideAll (trk h H) e;refine⟨a,?_⟩;cases q:H b with
 |none=>rfl
 |some x =>
  have c:b∈trk h H:=List.mem_filter.mpr ⟨yD.mpr (yH a),by simp[q]⟩;have z:(Ah0 h H).get? b=none:=W.hideAll_none (trk h H) c;rw[z]at e;cases e
def Aqj (g h:Heap)(L:Nn):NR:=(List.range h.objs.size).filterMap λa=>if a=L\/(g.get? a).isSome=true then none else (h.get? a).map λo=>(a,o)
def rest(g h:Heap)(L d:Nn):NR:=(Aqj g h L).filter λp=>decide (p.1≠d)
structure Mod (K:NO)(mg:Str->Na)(base:Heap):Prop where
 kin:K.In base
 glob:base.Ns mainGlobals mg
 blt:∃mb,base.Ns builtinsNs mb/\∀x:Str,x≠"__name__" -> mb x=bootBuiltins x
 nolimit:base.NoLimit
structure Cx where
 prog:Program
 w:World
 K:NO
 mg:Str->Na
 base:Heap
 A:Around
 N:NY
 s₀:Nw
 H₀:Hp
 env:Env
 outer:List Env
 stack:List Env
 ex:NW
 fn:Str->Bool
 calm:Bool
 pn:NR
 xe:N0->Nw->Prop
def frs (l:List Env):NW:=l.filterMap (·.frame)
abbrev Cx.fs (X:Cx):NW:=frs X.outer
def Vis (sc:Scope)(x:Str):Prop:=sc.names.lookup x=some .local\/sc.names.lookup x=some .cell\/sc.names.lookup x=some .free
def Loc (sc:Scope)(x:Str):Prop:=sc.names.lookup x=some .local\/sc.names.lookup x=some .cell
def Look(env:Env)(h:Heap)(m:Str->Na)(x:Str)(u:N0):Prop:=
 (env.kindOf x=some .local/\m x=some u)\/((env.kindOf x=some .cell\/env.kindOf x=some .free)/\∃c,env.cells.lookup x=some c/\h.IsCell c (some u))
structure Cx.Ok (X:Cx):Prop where
 mod:Mod X.K X.mg X.base
 kind:X.env.scope.kind=.function
 glob:X.env.globals=mainGlobals
 blt:X.env.builtins=builtinsNs
 above:X.s₀.heap.objs.size<=X.env.locals
 inj:∀x y c,X.env.cells.lookup x=some c->X.env.cells.lookup y=some c->x=y
 has:∀x,(X.env.kindOf x=some .cell\/X.env.kindOf x=some .free)->∃c,X.env.cells.lookup x=some c
 cab:∀x c,X.fn x=true->X.env.cells.lookup x=some c->X.s₀.heap.objs.size<=c
 hd:X.calm=true->X.A.handled=none
 frames:X.A.frames=some X.stack
 stk:X.stack=X.outer\/(X.stack=X.env::X.outer/\X.env.frame=some X.env.locals)
 exf:∀b∈X.ex,b≠X.env.locals/\∀x c,X.env.cells.lookup x=some c->c≠b
 bs:∀b o,X.base.get? b=some o->X.s₀.heap.get? b=some o/\X.H₀ b=none
 bsz:X.base.objs.size<=X.s₀.heap.objs.size
 AfE:∀b o,X.base.get? b=some o->b∉X.ex
 AfF:∀b∈X.ex,b∉X.fs
 Td:X.s₀.heap.FunFrames X.base X.outer
 frf:∀b∈X.fs,X.H₀ b=none
structure Inv (X:Cx)(pins:NR)(σ:List (Option V))(H:Hp)(s:Nw):Prop where
 ok:X.Ok
 os:s.os=X.s₀.os
 bare:AllBare s.gens
 base:Un X.fs X.ex X.H₀ H X.s₀.heap s.heap
 loc:∃m,s.heap.Ns X.env.locals m/\∀(i:Nat)(x:Str)(v:V),X.N[i]?=some x->σ[i]?=some (some v)->Vis X.env.scope x->∃u,RelV v u/\Look X.env s.heap m x u
 cell:∀x c,X.env.cells.lookup x=some c->∃v,s.heap.IsCell c v
 free:H X.env.locals=none
 Lg:∀x c,X.env.cells.lookup x=some c->H c=none
 pin:∀p∈X.pn++pins,s.heap.get? p.1=some p.2/\H p.1=none/\p.1≠X.env.locals/\p.1∉X.fs/\∀v,p.2.data≠.cell v
 hok:HOk X.prog X.w H s.heap
 len:σ.length=X.N.length
section
variable {σ:List (Option V)}
theorem Cx.Ok.AwB(ok:X.Ok){o:Obj}(e:X.base.get? b=some o):b∉X.fs:=λa=>by
 have:= (ok.Td.mem a).1;rw[e]at this;cases this
theorem Inv.bs(I:Inv X pins σ H s):∀b o,X.base.get? b=some o->s.heap.get? b=some o/\H b=none:=λb o e =>
 ⟨I.base.keep b o (I.ok.bs b o e).1 (I.ok.bs b o e).2 (I.ok.AwB e) (I.ok.AfE b o e),I.base.free b o (I.ok.bs b o e).1 (I.ok.bs b o e).2 (I.ok.AfE b o e)⟩
theorem Inv.bk(I:Inv X pins σ H s):∀b o,X.base.get? b=some o->s.heap.get? b=some o:=λb o e=>(I.bs b o e).1
theorem Inv.mod(I:Inv X pins σ H s):Mod X.K X.mg X.base:=I.ok.mod
theorem Inv.kIn(I:Inv X pins σ H s):X.K.In s.heap:=I.ok.mod.kin.keeps I.bk
theorem Inv.lt(I:Inv X pins σ H s):X.env.locals<s.heap.objs.size:=let ⟨_,hn,_⟩:=I.loc;hn.lt
theorem Inv.sz(I:Inv X pins σ H s):X.s₀.heap.objs.size<=s.heap.objs.size:=Ayh I.ok.above (Ay3 I.lt)
theorem Inv.AwC(I:Inv X pins σ H s)(h:s.heap.objs.size<=a):a∉X.fs:=λb=>by
 obtain⟨_,o,c,_⟩:=I.ok.Td.mem b;exact yG (Ayl (yH c) (Ayh I.sz h)) (Ay4 _)
theorem Inv.cne(I:Inv X pins σ H s):∀x c,X.env.cells.lookup x=some c->c≠X.env.locals:=λx c e z=>by
 obtain⟨v,o,d,f⟩:=I.cell x c e;obtain⟨m,⟨o',es,h,a,b,_⟩,_⟩:=I.loc;grind
theorem Inv.Td(I:Inv X pins σ H s):s.heap.FunFrames X.base X.outer:=by
 have all:∀(l:List Env),(∀b∈frs l,b∈X.fs)->X.s₀.heap.FunFrames X.base l->s.heap.FunFrames X.base l:=by
  intro l
  induction l with
  |nil=>intro _ _;trivial
  |cons env r j =>
   intro f m;obtain⟨hk,⟨L,o,d,hn,h,i⟩,n⟩:=m;have c:=f L (by unfold frs;rw[AyL,d];exact AxW);obtain⟨p,e⟩:=I.base.slot L o h (I.ok.frf L c) c λz=>I.ok.AfF L z c;exact⟨hk,⟨L,_,d,hn,e,i⟩,j (λb a=>f b (by unfold frs;rw[AyL,d];exact AxY _ a)) n⟩
 exact all X.outer (λ_ a=>a) I.ok.Td
theorem Inv.stack(I:Inv X pins σ H s):s.heap.FunFrames X.base X.stack:=by
 rcases I.ok.stk with e|⟨e,a⟩
 ·rw[e];exact I.Td
 ·rw[e];obtain⟨m,hn,_⟩:=I.loc;refine .cons (by rw[I.ok.kind];decide) a hn ?_ I.Td;exact Heap.get?_none_of_le (Ayh I.ok.bsz I.ok.above)
theorem Inv.AfG(I:Inv X pins σ H s):∀b∈frs X.stack,b∈X.env.locals::X.fs:=λb a=>by
 rcases I.ok.stk with e|⟨e,c⟩
 ·rw[e]at a;exact AxY _ a
 ·rw[e]at a;unfold frs at a;rw[AyL,c]at a;exact a
theorem Inv.AbP(I:Inv X pins σ H s):∀b∈frs X.stack,H b=none:=λb a=>by
 rcases yC.mp (I.AfG b a) with e|a
 ·rw[e];exact I.free
 ·obtain⟨_,o,c,_⟩:=I.ok.Td.mem a;exact I.base.free b o c (I.ok.frf b a) λz=>I.ok.AfF b z a
theorem Inv.step(I:Inv X pins σ H s)
  (f:∀b∈ch,(b∈X.ex\/X.s₀.heap.objs.size<=b)/\b≠X.env.locals/\(∀x c,X.env.cells.lookup x=some c->c≠b)/\∀p∈X.pn++pins,p.1≠b)
  (keep:∀b o,b≠X.env.locals->b∉X.fs->b∉ch->s.heap.get? b=some o->H b=none->h'.get? b=some o)
  (B:∀b o,b≠X.env.locals->b∈X.fs->b∉ch->s.heap.get? b=some o->H b=none->∃J,h'.get? b=some {o with slots:=J}) (free:∀b o,b∉ch->s.heap.get? b=some o->H b=none->H' b=none)
  (D:∀b o,b∉ch->s.heap.get? b=some o->∃o',h'.get? b=some o')
  (F:∀b xs,H b=some (.tup xs)->H' b=some (.tup xs)) (R:∀b o u,H b=some (.frz o u)->H' b=some (.frz o u)) (S:∀b ps,H b=some (.tbl ps)->∃more,H' b=some (.tbl (ps++more)))
  (ns:∀m,s.heap.Ns X.env.locals m->h'.Ns X.env.locals m) (M:HOk X.prog X.w H' h') (T:AllBare g') :
  Inv X pins σ H' {s with heap:=h',gens:=g',drawn:=d',toks:=t'}:=by
 have G:∀b o,X.s₀.heap.get? b=some o->b≠X.env.locals:=λb o e=>Aye (Ayl (yH e) I.ok.above);have A:∀b o,X.s₀.heap.get? b=some o->b∉X.ex->b∉ch:=λb o e a C=>by
  rcases(f b C).1 with z|z
  ·exact a z
  ·exact yG (Ayl (yH e) z) (Ay4 _)
 have h:∀x c,X.env.cells.lookup x=some c->∀v,s.heap.IsCell c v->h'.IsCell c v:=λx c e v ⟨o,E,L⟩=>by
  have j:=λz=>(f c z).2.2.1 x c e U;by_cases hc:c∈X.fs
  ·obtain⟨J,q⟩:=B c o (I.cne x c e) hc j E (I.Lg x c e);exact⟨_,q,L⟩
  ·exact⟨o,keep c o (I.cne x c e) hc j E (I.Lg x c e),L⟩
 refine⟨I.ok,I.os,T,⟨λb o e n C a=>?_,λb o e n C a=>?_,λb o e n a=>?_,λb o e a=>?_,λb xs e=>F b xs (I.base.tups b xs e),λb o xs e=>R b o xs (I.base.Iv b o xs e),λb ps e=>?_⟩,?_,λx c e=>?_,?_,λx c e=>?_,λp P=>?_,M,I.len⟩
 ·exact keep b o (G b o e) C (A b o e a) (I.base.keep b o e n C a) (I.base.free b o e n a)
 ·obtain⟨J,y⟩:=I.base.slot b o e n C a;obtain⟨K,e2⟩:=B b _ (G b o e) C (A b o e a) y (I.base.free b o e n a);exact⟨K,e2⟩
 ·obtain⟨o',y⟩:=I.base.there b o e a;exact free b o' (A b o e a) y (I.base.free b o e n a)
 ·obtain⟨o',y⟩:=I.base.there b o e a;exact D b o' (A b o e a) y
 ·obtain⟨W,y⟩:=I.base.JB b ps e;obtain⟨m2,e2⟩:=S b _ y;exact⟨W++m2,by rw[e2,Array.append_assoc]⟩
 ·obtain⟨m,hn,Y⟩:=I.loc;refine⟨m,ns m hn,λi x v y e2 Q=>?_⟩;obtain⟨u,r,l⟩:=Y i x v y e2 Q;refine⟨u,r,?_⟩;rcases l with l|⟨k,c,e,z⟩
  ·exact .inl l
  ·exact .inr ⟨k,c,e,h x c e _ z⟩
 ·obtain⟨v,z⟩:=I.cell x c e;exact⟨v,h x c e v z⟩
 ·obtain⟨m,⟨o,_,_,E,_⟩,_⟩:=I.loc;exact free _ o (λz=>(f _ z).2.1 U) E I.free
 ·obtain⟨v,o,E,L⟩:=I.cell x c e;exact free c o (λz=>(f c z).2.2.1 x c e U) E (I.Lg x c e)
 ·obtain⟨e,n,O,N,d⟩:=I.pin p P;have j:=λz=>(f p.1 z).2.2.2 p P U;exact⟨keep p.1 p.2 O N j e n,free p.1 p.2 j e n,O,N,d⟩
theorem Inv.un(I:Inv X pins σ H s)(u:Un X.fs [] H H' s.heap h')(h:HOk X.prog X.w H' h'):Inv X pins σ H' {s with heap:=h',toks:=t'}:=by
 obtain⟨m,⟨o,es,x,i,r⟩,_⟩:=id I.loc;obtain⟨v,j⟩:=u.any i I.free AB;exact I.step (ch:=[]) (λ_ z=>nomatch z) (λb o _ c _ e n=>u.keep b o e n c AB) (λb o _ c _ e n=>u.slot b o e n c AB) (λb o _ e n=>u.free b o e n AB) (λb o _ e=>u.there b o e AB) u.tups u.Iv u.JB (λq l=>by
  obtain⟨o',f,d,a,p⟩:=l;rw[i]at a;cases a;exact⟨_,f,d,j,p⟩) h I.bare
theorem Inv.call(I:Inv X pins σ H s)(u:Un (frs X.stack) ch H H' s.heap h')(j:HOk X.prog X.w H' h')(v:AllBare g')
  (a:∀b∈ch,(b∈X.ex\/X.s₀.heap.objs.size<=b)/\b≠X.env.locals/\(∀x c,X.env.cells.lookup x=some c->c≠b)/\∀p∈X.pn++pins,p.1≠b) :
  Inv X pins σ H' {s with heap:=h',gens:=g',drawn:=d',toks:=t'}:=by
 obtain⟨m,⟨o,es,D,l,r⟩,_⟩:=id I.loc;obtain⟨C,h⟩:=u.any l I.free λz=>(a _ z).2.1 U;exact I.step a (λb o h q hc e n=>u.keep b o e n (λz=>(yC.mp (I.AfG b z)).elim h q) hc) (λb o _ _ hc e n=>u.any e n hc) (λb o hc e n=>u.free b o e n hc) (λb o hc e=>u.there b o e hc) u.tups u.Iv u.JB (λB y=>by
  obtain⟨o',i,f,d,A⟩:=y;rw[l]at d;cases d;exact⟨_,i,f,h,A⟩) j v
theorem Inv.turned(I:Inv X pins σ H s)(k:∀b o,b≠it->s.heap.get? b=some o->h'.get? b=some o)(hn:H it=none)(d:it≠X.env.locals)
  (h1:it∈X.ex\/X.s₀.heap.objs.size<=it) (h2:∀x c,X.env.cells.lookup x=some c->c≠it) (h3:∀p∈X.pn++pins,p.1≠it):Inv X pins σ H {s with heap:=h',toks:=t'}:=by
 have a:∀b u,H b=some u->b≠it:=λb u e z=>AD
 refine I.step (ch:=[it]) (λb f=>?_) (λb o _ _ hc e _=>k b o (λz=>hc (by simp[z])) e) (λb o _ _ hc e _=>⟨o.slots,k b o (λz=>hc (by simp[z])) e⟩) (λ_ _ _ _ n=>n)
  (λb o hc e=>⟨o,k b o (λz=>hc (by simp[z])) e⟩) (λ_ _ e=>e) (λ_ _ _ e=>e) (λb ps e=>⟨#[],by rw[e];simp⟩) (λm h=>?_) (λb u e=>?_) I.bare
 ·have e:b=it:=by simpa using f
  subst e;exact⟨h1,d,h2,h3⟩
 ·obtain⟨o,es,i,j,r⟩:=h;exact⟨o,es,i,k _ o (yL d) j,r⟩
 ·refine(I.hok b u e).stay (λc v hc q=>k c v ?_ q) (λ_ q=>q) λ_ _ q=>q;rcases hc with z|z
  ·rw[z];exact a b u e
  ·exact a c _ z
theorem Inv.tok(I:Inv X pins σ H s)(t:Nat):Inv X pins σ H {s with toks:=t}:=I.un (h':=s.heap) (t':=t) Un.refl I.hok
theorem Inv.kept(I:Inv X pins σ H s)(k:∀b u,s.heap.get? b=some u->h'.get? b=some u):Inv X pins σ H {s with heap:=h',toks:=t'}:=I.un (Un.kept k) (I.hok.kept k)
theorem Inv.laid(I:Inv X pins σ H s)(k:∀b u,s.heap.get? b=some u->h'.get? b=some u)(c:s.heap.objs.size<=a)(new:Gp X.prog X.w (upd H a o) h' a o) :
  Inv X pins σ (upd H a o) {s with heap:=h',toks:=t'}:=I.un (Un.laid k c (I.hok.fresh c)) (I.hok.laid k c new)
theorem Inv.write{x e:Nn}(I:Inv X pins σ H s)(d:Mut (H x))(c:e=x\/H e=some (.own x))(k:∀b u,b≠e->s.heap.get? b=some u->h'.get? b=some u)(a:∃u,h'.get? e=some u)
  (new:Gp X.prog X.w (upd H x o) h' x o):Inv X pins σ (upd H x o) {s with heap:=h',toks:=t'}:=I.un (Un.write d c k a) (I.hok.write d c k a new)
theorem Inv.Xm{AmX:NR}(I:Inv X pins σ H s)(h:∀p∈AmX,s.heap.get? p.1=some p.2/\H p.1=none/\p.1≠X.env.locals/\p.1∉X.fs/\∀v,p.2.data≠.cell v):Inv X AmX σ H s:=
 ⟨I.ok,I.os,I.bare,I.base,I.loc,I.cell,I.free,I.Lg,λp a=>(zG.mp a).elim (λz=>I.pin p (Azg _ z)) (h p),I.hok,I.len⟩
theorem Aci(d:N.Nodup)(a:N[i]?=some x)(b:N[j]?=some x):i=j:=by obtain⟨h1,c⟩:=zC.mp a;obtain⟨h2,e2⟩:=zC.mp b;exact(List.getElem_inj d).mp (c.trans e2.symm)
theorem AeM(I:Inv X pins σ H s)(hN:X.N.Nodup)(hi:X.N[i]?=some x)(C:Loc X.env.scope x)(r:RelV v u)
  (h:∀s',Inv X pins (σ.set i (some v)) H s'->(∃a,Heap.SameBut a s.heap s'.heap/\(a=X.env.locals\/X.env.cells.lookup x=some a))->Q () s') (hf:X.fn x=true\/X.env.scope.names.lookup x=some .local:=by first|exact .inl U|exact .inr U|assumption):wpAny M A (storeName X.env x u) Q E s:=by
 obtain⟨m,hn,hl⟩:=id I.loc;have K:(X.env.scope.kind == .class || (X.env.scope.kind == .module && X.env.locals != X.env.globals))=false:=by rw[I.ok.kind];rfl
 have D:i<σ.length:=by rw[I.len];exact(zC.mp hi).1
 have cne:=I.cne;have B:∀{a:Nn} {h':Heap},(∃o,s.heap.get? a=some o/\H a=none)->Heap.SameBut a s.heap h'->HOk X.prog X.w H h':=λ{a h'} ha f b ob e=>by
  obtain⟨_,_,aa⟩:=ha;refine(I.hok b ob e).stay (λc S hc q=>(f.2 c ?_).trans q) (λ_ q=>q) λ_ _ q=>q;rintro rfl;grind
 rcases C with hk|hk
 ·refine wpAny_storeName_local hk hn (λh' a6 f=>?_) K;obtain⟨oL,_,_,ab,_⟩:=id hn;refine h _ ⟨I.ok,I.os,I.bare,⟨λb o e n F C=>?_,λb o e n F C=>?_,I.base.free,λb o e C=>?_,I.base.tups,I.base.Iv,I.base.JB⟩,⟨_,a6,λj y v' l e2 W=>?_⟩,λy c e=>?_,I.free,I.Lg,λp hp=>?_,B ⟨oL,ab,I.free⟩ f,by simpa using I.len⟩ ⟨_,f,.inl U⟩
  ·exact(f.2 b (Aye (Ayl (yH e) I.ok.above))).trans (I.base.keep b o e n F C)
  ·obtain⟨Z,l⟩:=I.base.slot b o e n F C;exact⟨Z,(f.2 b (Aye (Ayl (yH e) I.ok.above))).trans l⟩
  ·obtain⟨o',l⟩:=I.base.there b o e C;exact⟨o',(f.2 b (Aye (Ayl (yH e) I.ok.above))).trans l⟩
  ·by_cases G:j=i
   ·subst G;rw[hi]at l;cases l;rw[List.getElem?_set_self D]at e2;cases e2;exact⟨u,r,.inl ⟨hk,AB⟩⟩
   ·rw[Az6 (yL G)]at e2;obtain⟨Y,r',q⟩:=hl j y v' l e2 W;refine⟨Y,r',?_⟩;rcases q with ⟨k,e⟩|⟨k,c,e,z⟩
    ·refine .inl ⟨k,?_⟩;have:y≠x:=λe=>G (Aci hN l (e▸hi));simp[this,e]
    ·exact .inr ⟨k,c,e,z.sameBut f (cne y c e)⟩
  ·obtain⟨S,z⟩:=I.cell y c e;exact⟨S,z.sameBut f (cne y c e)⟩
  ·obtain⟨e,n,T,nf,d⟩:=I.pin p hp;exact⟨(f.2 p.1 T).trans e,n,T,nf,d⟩
 ·have J:X.fn x=true:=by
   simp_all
  obtain⟨c,hc⟩:=I.ok.has x (.inl hk);obtain⟨S,z⟩:=I.cell x c hc;refine wpAny_storeName_cell I.ok.kind hk hc z (λh' P f=>?_);obtain⟨oc,L,a0⟩:=id z;refine h {s with heap:=h'} ⟨I.ok,I.os,I.bare,⟨λb o e n F C=>?_,λb o e n F C=>?_,I.base.free,λb o e C=>?_,I.base.tups,I.base.Iv,I.base.JB⟩,⟨m,hn.sameBut f (yL (cne x c hc)),λj y v' l e2 W=>?_⟩,λy R e=>?_,I.free,I.Lg,λp hp=>?_,B ⟨oc,L,I.Lg x c hc⟩ f,by simpa using I.len⟩ ⟨c,f,.inr hc⟩
  ·exact(f.2 b (Aye (Ayl (yH e) (I.ok.cab x c J hc)))).trans (I.base.keep b o e n F C)
  ·obtain⟨Z,l⟩:=I.base.slot b o e n F C;exact⟨Z,(f.2 b (Aye (Ayl (yH e) (I.ok.cab x c J hc)))).trans l⟩
  ·obtain⟨o',l⟩:=I.base.there b o e C;exact⟨o',(f.2 b (Aye (Ayl (yH e) (I.ok.cab x c J hc)))).trans l⟩
  ·by_cases G:j=i
   ·subst G;rw[hi]at l;cases l;rw[List.getElem?_set_self D]at e2;cases e2;exact⟨u,r,.inr ⟨.inl hk,c,hc,P⟩⟩
   ·rw[Az6 (yL G)]at e2;obtain⟨Y,r',q⟩:=hl j y v' l e2 W;refine⟨Y,r',?_⟩;rcases q with q|⟨k,R,e,z'⟩
    ·exact .inl q
    ·refine .inr ⟨k,R,e,z'.sameBut f ?_⟩;rintro rfl;exact G (Aci hN l (I.ok.inj _ _ _ e hc▸hi))
  ·by_cases O:R=c
   ·subst O;exact⟨_,P⟩
   ·obtain⟨w2,z2⟩:=I.cell y R e;exact⟨w2,z2.sameBut f O⟩
  ·obtain⟨e,n,T,nf,d⟩:=I.pin p hp;refine⟨(f.2 p.1 ?_).trans e,n,T,nf,d⟩;intro q;rw[q,L]at e;have q':=yI e;exact d S (by rw[<-q'];exact a0)
theorem Te(I:Inv X pins σ H s)(b:X.N.Nodup)(hi:X.N[i]?=some x)(c:Loc X.env.scope x)(r:RelV v u)
  (h:∀s',Inv X pins (σ.set i (some v)) H s'->Q () s') (a:X.fn x=true\/X.env.scope.names.lookup x=some .local:=by first|exact .inl U|exact .inr U|assumption):wpAny M A (storeName X.env x u) Q E s:=
 AeM I b hi c r (λs' d _=>h s' d) a
theorem Inv.call'(I:Inv X pins σ H s)(h:s'.os=s.os)(u:Un (frs X.stack) ch H H' s.heap s'.heap)(d:HOk X.prog X.w H' s'.heap)(f:AllBare s'.gens)
  (a:∀b∈ch,(b∈X.ex\/X.s₀.heap.objs.size<=b)/\b≠X.env.locals/\(∀x c,X.env.cells.lookup x=some c->c≠b)/\∀p∈X.pn++pins,p.1≠b):Inv X pins σ H' s':=by
 obtain⟨h',g',d',t',o'⟩:=s';have e:o'=s.os:=h;subst e;exact I.call u d f a
end
abbrev XK:=N0->Option Nn->Hp->Prop
abbrev St:=List (Option V)
abbrev VK:=V->Hp->Prop
abbrev TE:=St->Hp->VK->Prop
abbrev TT:=St->Hp->(Bool->Hp->Prop)->Prop
abbrev TA:=St->Hp->(LI->Hp->Prop)->Prop
structure Ends where
 nx:St->Hp->Prop
 rt:VK
 bk:St->Hp->Prop:=λ_ _=>False
 ct:St->Hp->Prop:=λ_ _=>False
abbrev TS:=Ends->St->Hp->Prop
def EP (X:Cx)(pins:NR)(σ:St)(Q:VK)(u:N0)(s':Nw):Prop:=∃v H',Inv X pins σ H' s'/\RelV v u/\Q v H'
def TP (X:Cx)(pins:NR)(σ:St)(Q:Bool->Hp->Prop)(b:Bool)(s':Nw):Prop:=∃H',Inv X pins σ H' s'/\Q b H'
def AP (X:Cx)(pins:NR)(σ:St)(Q:LI->Hp->Prop)(us:NX)(s':Nw):Prop:=∃vs H',Inv X pins σ H' s'/\Vals vs us/\Q vs H'
def SP (X:Cx)(pins:NR)(D:Ends)(f:Flow)(s':Nw):Prop:=
 match f with
 | .next=>∃σ' H',Inv X pins σ' H' s'/\D.nx σ' H'
 | .brk=>∃σ' H',Inv X pins σ' H' s'/\D.bk σ' H'
 | .cont=>∃σ' H',Inv X pins σ' H' s'/\D.ct σ' H'
 | .ret u=>∃v σ' H',Inv X pins σ' H' s'/\RelV v u/\D.rt v H'
def PE (X:Cx)(e:Expr)(t:TE):Prop:=
 ∀(pins:NR)(s:Nw)(σ:St)(H:Hp)(Q:VK),Inv X pins σ H s->t σ H Q->wpAny (model X.prog X.w) X.A (eval e X.env) (EP X pins σ Q) X.xe s
def PT (X:Cx)(e:Expr)(t:TT):Prop:=
 ∀(pins:NR)(s:Nw)(σ:St)(H:Hp)(Q:Bool->Hp->Prop),Inv X pins σ H s->t σ H Q->wpAny (model X.prog X.w) X.A (isTrue e X.env (eval e X.env)) (TP X pins σ Q) X.xe s
def PW (X:Cx)(e:Expr)(t:TT):Prop:=
 ∀(whole:Sem N0)(pins:NR)(s:Nw)(σ:St)(H:Hp)(Q:Bool->Hp->Prop),Inv X pins σ H s->t σ H Q->wpAny (model X.prog X.w) X.A (isTrue e X.env whole) (TP X pins σ Q) X.xe s
theorem PW.pt{t:TT}(h:PW X e t):PT X e t:=h _
def PA (X:Cx)(es:List Expr)(t:TA):Prop:=
 ∀(pos:Pos)(pins:NR)(s:Nw)(σ:St)(H:Hp)(Q:LI->Hp->Prop),Inv X pins σ H s->t σ H Q->wpAny (model X.prog X.w) X.A (spliced (backTo pos (starEach es X.env))) (AP X pins σ Q) X.xe s
def PS (X:Cx)(st:LL)(t:TS):Prop:=
 ∀(pins:NR)(s:Nw)(σ:St)(H:Hp)(D:Ends),Inv X pins σ H s->t D σ H->wpAny (model X.prog X.w) X.A (exec st X.env) (SP X pins D) X.xe s
def PSs (X:Cx)(st:List LL)(t:TS):Prop:=
 ∀(pins:NR)(s:Nw)(σ:St)(H:Hp)(D:Ends),Inv X pins σ H s->t D σ H->wpAny (model X.prog X.w) X.A (execs st X.env) (SP X pins D) X.xe s
theorem thn{t:Sem α}{Q b:α->Nw->Prop}(h:wpAny M A t Q E s)(c:∀a s,Q a s->b a s):wpAny M A t b E s:=zT h c λ_ _ x=>x
section
inductive AsB (i:Nat)(σ:St)(H:Hp)(Q:VK):Prop
|mk(v:_)(_:σ[i]?=some (some v))(_:Q v H)
def tC (v:V):TE:=λ_ H Q=>Q v H
theorem AsC(n:X.N[i]?=some x)(f:Vis X.env.scope x)(d:(x == ("__debug__":Str))=false:=by decide) (b:(x == ("__classdict__":Str))=false:=by decide):PE X (.Name x pos) (AsB i):=by
 intro pins s σ H Q I h;obtain⟨v,e,h⟩:=h;obtain⟨m,hn,o⟩:=I.loc;obtain⟨u,r,l⟩:=o i x v n e f;have fin:EP X pins σ Q u s:=⟨v,H,I,r,h⟩;rcases l with ⟨hk,j⟩|⟨hk,c,hc,a⟩
 ·exact wpAny_Name (wpAny_loadName_local I.ok.kind hk hn j fin) d
 ·rcases hk with hk|hk
  ·exact wpAny_Name (wpAny_loadName_cell I.ok.kind hk hc a fin) d
  ·exact wpAny_Name (wpAny_loadName_free I.ok.kind hk hc a fin b) d
theorem Ah{i j pos}:PE X (.Constant (.int i) j pos) (tC (.int i)):=λ_ _ _ H _ I h=>wpAny_Constant_int ⟨.int i,H,I.tok _,⟨_,U⟩,h⟩
theorem AeN{b j pos}:PE X (.Constant (.bool b) j pos) (tC (.bl b)):=λ_ _ _ H _ I h=>Constant_bool ⟨.bl b,H,I,U,h⟩
theorem W3{j pos}:PE X (.Constant .none j pos) (tC .non):=λ_ _ _ H _ I h=>Constant_none ⟨.non,H,I,U,h⟩
theorem Af{x j pos}:PE X (.Constant (.str x) j pos) (tC (.str x)):=λ_ _ _ H _ I h=>Calls.Constant_str ⟨.str x,H,I.tok _,⟨_,U⟩,h⟩
def Gl (X:Cx)(x:Str):Prop:=X.env.kindOf x=some .globalImplicit
theorem Q5{Q:NU}(I:Inv X pins σ H s)(a:Gl X x)(c:X.mg x=some u)(h:Q u s)
  (b:(x == ("__debug__":Str))=false:=by decide):wpAny (model X.prog X.w) X.A (eval (.Name x pos) X.env) Q E s:=
 Calls.Name_function_global I.ok.kind a (Calls.loadGlobal_global (by rw[I.ok.glob];exact I.mod.glob.keeps I.bk) c h) b
theorem IV{Q:NU}(I:Inv X pins σ H s)(a:Gl X x)(d:X.mg x=none)(b:bootBuiltins x=some u)(h:Q u s)
  (hn:x≠"__name__":= by decide) (c:(x == ("__debug__":Str))=false:=by decide):wpAny (model X.prog X.w) X.A (eval (.Name x pos) X.env) Q E s:=by
 obtain⟨mb,h1,h2⟩:=I.mod.blt;exact Calls.Name_function_global I.ok.kind a (Calls.loadGlobal_builtin (by rw[I.ok.glob];exact I.mod.glob.keeps I.bk) d (by rw[I.ok.blt];exact h1.keeps I.bk) ((h2 x hn).trans b) h) c
theorem Ce(a:Gl X x)(c:X.mg x=some u)(r:RelV v u)(b:(x == ("__debug__":Str))=false:=by decide):PE X (.Name x pos) (tC v):=
 λ_ _ _ H _ I h=>Q5 I a c ⟨v,H,I,r,h⟩ b
theorem Akl(a:Gl X x)(d:X.mg x=none)(b:bootBuiltins x=some u)(r:RelV v u)(hn:x≠"__name__":= by decide) (c:(x == ("__debug__":Str))=false:=by decide):PE X (.Name x pos) (tC v):=
 λ_ _ _ H _ I h=>IV I a d b ⟨v,H,I,r,h⟩ hn c
variable {a b:Expr}{tb:TE}
def PC (X:Cx)(op:CmpOp)(a b:Expr)(t:TE):Prop:=
 ∀(pins:NR)(s:Nw)(σ:St)(H:Hp)(Q:VK),Inv X pins σ H s->t σ H Q ->
  wpAny (model X.prog X.w) X.A (eval a X.env) (λv s₁=>wpAny (model X.prog X.w) X.A (eval b X.env) (λu s₂=>wpAny (model X.prog X.w) X.A (compareOp op v u) (EP X pins σ Q) X.xe s₂) X.xe s₁) X.xe s
theorem AmY(b:Expr)(h:op≠.In)(h2:op≠.NotIn):behindInMarks op b=false:=by
 have a:(op == CmpOp.In)=false:=AD
 have e2:(op == CmpOp.NotIn)=false:=AD
 cases b<;>simp[behindInMarks,a,e2]
inductive AwE (Q:(Bool->Hp->Prop))(x:V)(H1:Hp):Prop
|mk(c:_)(_:x=.bl c)(_:Q c H1)
def tB (t:TE)(σ:St)(H:Hp)(Q:(Bool->Hp->Prop)):Prop:=t σ H (AwE Q)
theorem AmZ{t:TE}(h:PC X op a b t)(h1:behindInMarks op b=false:=by first|exact AmY _ Ap Ap|rfl):PT X (.Compare a [op] [b] pos) (tB t):=by intro pins s σ H Q I hw;refine wpAny_isTrue_Compare1 (thn (h pins s σ H _ I hw) λv l h1=>thn h1 λu m h2=>thn h2 λc j ⟨x,H1,i,e,f⟩=>?_) h1;obtain⟨d,rfl,q⟩:=f;cases e;exact yA ⟨H1,i,q⟩
theorem Fb{t:TE}(h:PE X e t)(c:∀whole,isTrue e X.env whole=(do let v <-whole;standAt e.pos;holding [v] (truthy v)):=by intro _;rfl):PT X e (tB t):=by intro pins s σ H Q I hw;refine isTrue_plain (thn (h pins s σ H _ I hw) λv i ⟨x,H1,f,a,b⟩=>?_) (c _);obtain⟨d,rfl,q⟩:=b;cases a;exact yA ⟨H1,f,q⟩
variable {tA tB':TT}{rest:List Expr}
abbrev AsD (u:TT)(σ:St)(Q:(Bool->Hp->Prop))(c:Bool)(H1:Hp):Prop:=if c=true then u σ H1 Q else Q false H1
def AwF (t:TT)(u:TT)(σ:St)(H:Hp)(Q:(Bool->Hp->Prop)):Prop:=t σ H (AsD u σ Q)
abbrev AuG (u:TT)(σ:St)(Q:(Bool->Hp->Prop))(c:Bool)(H1:Hp):Prop:=if c=true then Q true H1 else u σ H1 Q
def tOr (t:TT)(u:TT)(σ:St)(H:Hp)(Q:(Bool->Hp->Prop)):Prop:=t σ H (AuG u σ Q)
abbrev AsE (Q:(Bool->Hp->Prop))(c:Bool)(H1:Hp):Prop:=Q (!c) H1
def AwG (t:TT)(σ:St)(H:Hp)(Q:(Bool->Hp->Prop)):Prop:=t σ H (AsE Q)
theorem pw_and1(b:PT X a tA):PW X (.BoolOp .And [a] pos) tA:=by
 intro d pins s σ H Q I h;refine isTrue_and (thn (b pins s σ H Q I h) λc f e=>?_);cases c with
 |true=>exact isTrue_and_nil e
 |false=>exact e
theorem pw_or1(b:PT X a tA):PW X (.BoolOp .Or [a] pos) tA:=by
 intro d pins s σ H Q I h;refine isTrue_or (thn (b pins s σ H Q I h) λc f e=>?_);cases c with
 |false=>exact isTrue_or_nil e
 |true=>exact e
theorem pw_and(l:PT X a tA)(f:PW X (.BoolOp .And (b::rest) pos) tB'):PW X (.BoolOp .And (a::b::rest) pos) (AwF tA tB'):=by
 intro i pins s σ H Q I h;refine isTrue_and (thn (l pins s σ H _ I h) λc j ⟨H1,e,d⟩=>?_);cases c with
 |true=>exact f i pins j σ H1 Q e d
 |false=>exact⟨H1,e,d⟩
theorem pw_or(l:PT X a tA)(f:PW X (.BoolOp .Or (b::rest) pos) tB'):PW X (.BoolOp .Or (a::b::rest) pos) (tOr tA tB'):=by
 intro i pins s σ H Q I h;refine isTrue_or (thn (l pins s σ H _ I h) λc j ⟨H1,e,d⟩=>?_);cases c with
 |true=>exact⟨H1,e,d⟩
 |false=>exact f i pins j σ H1 Q e d
theorem Hr(b:PT X a tA):PT X (.UnaryOp .Not a pos) (AwG tA):=by intro pins s σ H Q I h;exact isTrue_not (b pins s σ H (λc H1=>Q (!c) H1) I h)
inductive Aqk (tb:TE)(σ:St)(Q:VK)(x:V)(H1:Hp):Prop
|mk(c:_)(_:x=.bl c)(_:if c=true then tb σ H1 Q else Q (.bl false) H1)
def AuH (ta:TE)(tb:TE)(σ:St)(H:Hp)(Q:VK):Prop:=ta σ H (Aqk tb σ Q)
theorem AsF{op}{t:TE}(h:PE X a t):PE X (.BoolOp op [a] pos) t:=λpins s σ H Q I hw=>BoolOp_one (h pins s σ H Q I hw)
theorem AsG(l:PE X a ta)(f:PE X (.BoolOp .And (b::rest) pos) tb):PE X (.BoolOp .And (a::b::rest) pos) (AuH ta tb):=by
 intro pins s σ H Q I h;refine BoolOp_and (thn (l pins s σ H _ I h) λv i ⟨x,H1,e,j,d⟩=>?_);obtain⟨c,rfl,d⟩:=d;cases j;refine yA ?_;cases c with
 |true=>exact f pins i σ H1 Q e d
 |false=>exact⟨.bl false,H1,e,U,d⟩
abbrev AuI (ta:TE)(tb:TE)(σ:St)(Q:VK)(c:Bool)(H1:Hp):Prop:=if c=true then ta σ H1 Q else tb σ H1 Q
def tIf (t:TT)(ta:TE)(tb:TE)(σ:St)(H:Hp)(Q:VK):Prop:=t σ H (AuI ta tb σ Q)
theorem Oz(hc:PT X c tA)(l:PE X a ta)(j:PE X b tb):PE X (.IfExp c a b pos) (tIf tA ta tb):=by
 intro pins s σ H Q I h;refine wpAny_IfExp (thn (hc pins s σ H _ I h) λd i ⟨H1,f,e⟩=>?_);cases d with
 |true=>exact l pins i σ H1 Q f e
 |false=>exact j pins i σ H1 Q f e
end
def SqL (K:NO)(H:Hp)(a:Nn)(xs:LI):Prop:=
 Rd H a (.lst xs) \/
  ∃(o:Obj)(its:Array N0)(n:Nat),K.lookup a=some o/\o.cls=.type "list" /\ o.dict=none/\o.data=.seq its n/\its.size<=sizeLine/\Vals xs its.toList
def SqT (K:NO)(H:Hp)(a:Nn)(xs:LI):Prop:=
 Rd H a (.tup xs) \/
  ∃(o:Obj)(its:Array N0)(n:Nat),K.lookup a=some o/\o.cls=.type "tuple" /\ o.data=.seq its n/\its.size<=sizeLine/\Vals xs its.toList
def AwH:N0->Option V
 | .none=>some .non
 | .bool b=>some (.bl b)
 | .int i _=>some (.int i)
 | .str x _=>some (.str x)
 | .bytes b _=>some (.byt b)
 | .float b _=>some (.flt b)
 | .ref a=>some (.ref a)
 | .type n=>some (.ty n)
 |_=>none
theorem RelV.abs{x:V}(r:RelV x u):AwH u=some x:=by
 cases x with
 |non=>cases r;rfl
 |bl _=>cases r;rfl
 |int _=>obtain⟨t,rfl⟩:=r;rfl
 |str _=>obtain⟨t,rfl⟩:=r;rfl
 |byt _=>obtain⟨t,rfl⟩:=r;rfl
 |flt _=>obtain⟨t,rfl⟩:=r;rfl
 |ref _=>cases r;rfl
 |ty _=>cases r;rfl
theorem RelV.inj{x:V}(r:RelV x u)(q:RelV y u):x=y:=yI (r.abs.symm.trans q.abs)
theorem Vals.inj:∀{xs ys:LI} {us:NX},Vals xs us->Vals ys us->xs=ys:=by
 intro xs ys us h;induction h generalizing ys with
 |nil=>intro g;cases g;rfl
 |cons r _ a=>intro g;cases g with|cons b t'=>rw[r.inj b,a t']
section
variable {ys:LI}
theorem SqL.of{K:NO}(h:H a=some (.lst xs)):SqL K H a xs:=.inl (.inl h)
def yW:=@SqL.of
theorem SqT.of{K:NO}(h:H a=some (.tup xs)):SqT K H a xs:=.inl (.inl h)
theorem Inv.list(I:Inv X pins σ H s)(h:SqL X.K H a xs):∃its:NX,Vals xs its/\PlainL s.heap a its.toArray/\xs.length<=sizeLine:=by
 rcases h with h|⟨o,its,n,hk,hc,c,b,d,r⟩
 ·obtain⟨z,its,n,r,e⟩:=h.ok I.hok;exact⟨its,r,⟨_,n,e,U,U,U⟩,z⟩
 ·refine⟨its.toList,r,⟨o,n,I.kIn a o hk,hc,c,by simpa using b⟩,?_⟩;have e:=r.length;grind
theorem Inv.tuple(I:Inv X pins σ H s)(h:SqT X.K H a xs):∃its:NX,Vals xs its/\IsTup s.heap a its.toArray/\xs.length<=sizeLine:=by
 rcases h with h|⟨o,its,n,hk,hc,b,c,r⟩
 ·obtain⟨z,its,r,p⟩:=h.ok I.hok;exact⟨its,r,p,z⟩
 ·refine⟨its.toList,r,⟨o,I.kIn a o hk,hc,n,by simpa using b⟩,?_⟩;have e:=r.length;simp only [zK]at e;omega
theorem Inv.Tf(I:Inv X pins σ H s)(h:SqL X.K H a xs)(h':SqL X.K H a ys):xs=ys:=by
 obtain⟨its,r,⟨o,n,e,_,_,d⟩,_⟩:=I.list h;obtain⟨b,f,⟨o',i,c,_,_,d'⟩,_⟩:=I.list h';rw[e]at c;cases c;rw[d]at d';injection d' with d1 _;have:its=b:=by simpa using congrArg Array.toList d1
 subst this;exact r.inj f
end
abbrev Cx.wish (X:Cx)(E:NU):Cx:={X with xe:=E}
abbrev Cx.nox (X:Cx):Cx:=X.wish λ_ _=>False
theorem Cx.Ok.wish(ok:X.Ok)(E:NU):(X.wish E).Ok:=
 ⟨ok.mod,ok.kind,ok.glob,ok.blt,ok.above,ok.inj,ok.has,ok.cab,ok.hd,ok.frames,ok.stk,ok.exf,ok.bs,ok.bsz,ok.AfE,ok.AfF,ok.Td,ok.frf⟩
theorem Cx.Ok.Hz(ok:(X.wish E).Ok):X.Ok:=
 ⟨ok.mod,ok.kind,ok.glob,ok.blt,ok.above,ok.inj,ok.has,ok.cab,ok.hd,ok.frames,ok.stk,ok.exf,ok.bs,ok.bsz,ok.AfE,ok.AfF,ok.Td,ok.frf⟩
theorem Inv.wish(I:Inv X pins σ H s)(E:NU):Inv (X.wish E) pins σ H s:=⟨I.ok.wish E,I.os,I.bare,I.base,I.loc,I.cell,I.free,I.Lg,I.pin,I.hok,I.len⟩
theorem Inv.Hz(I:Inv (X.wish E) pins σ H s):Inv X pins σ H s:=⟨I.ok.Hz,I.os,I.bare,I.base,I.loc,I.cell,I.free,I.Lg,I.pin,I.hok,I.len⟩
theorem SP.Hz{f:Flow}(h:SP (X.wish E) pins D f s'):SP X pins D f s':=by
 cases f with
 |next=>obtain⟨σ',H',I,q⟩:=h;exact⟨σ',H',I.Hz,q⟩
 |brk=>obtain⟨σ',H',I,q⟩:=h;exact⟨σ',H',I.Hz,q⟩
 |cont=>obtain⟨σ',H',I,q⟩:=h;exact⟨σ',H',I.Hz,q⟩
 |ret u=>obtain⟨v,σ',H',I,r,q⟩:=h;exact⟨v,σ',H',I.Hz,r,q⟩
theorem PE.nox{t:TE}(h:PE X.nox e t):PE X e t:=λpins s σ H Q I hw =>
 zT (h pins s σ H Q (I.wish _) hw) (λ_ _ ⟨v,H',a,r,q⟩=>⟨v,H',a.Hz,r,q⟩) λ_ _ z=>yR z
theorem PSs.nox{st:List LL}{t:TS}(h:PSs X.nox st t):PSs X st t:=λpins s σ H D I hw =>
 zT (h pins s σ H D (I.wish _) hw) (λ_ _ q=>q.Hz) λ_ _ z=>yR z
section
variable {st:LL}{rest:List LL}{t u:TS}
def AuJ:TS:=λD σ H=>D.nx σ H
def AuK (t u:TS):TS:=λD σ H=>t {D with nx:=u D} σ H
theorem Aq:PSs X [] AuJ:=λ_ _ σ H _ I h=>wpAny_execs_nil ⟨σ,H,I,h⟩
theorem Ac(h1:PS X st t)(h2:PSs X rest u):PSs X (st::rest) (AuK t u):=by
 intro pins s σ H D I h;refine wpAny_execs_cons (thn (h1 pins s σ H {D with nx:=u D} I h) λf b q=>?_);cases f with
 |next =>
  obtain⟨σ',H',a,q⟩:=q;exact h2 pins b σ' H' D a q
 |ret v=>exact q
 |brk=>exact q
 |cont=>exact q
theorem Ad(h1:PS X st t):PSs X [st] t:=by
 intro pins s σ H D I h;refine wpAny_execs_cons (thn (h1 pins s σ H D I h) λf a q=>?_);cases f with
 |next=>exact wpAny_execs_nil q
 |ret v=>exact q
 |brk=>exact q
 |cont=>exact q
theorem Inv.quiet(I:Inv X pins σ H s):interactive X.env=false:=by simp[interactive,I.ok.kind]
abbrev Aql (D:Ends)(σ:St)(z0:V)(H1:Hp):Prop:=D.nx σ H1
def AuL (te:TE)(D:Ends)(σ:St)(H:Hp):Prop:=te σ H (Aql D σ)
theorem Bj(c:PE X e te)(b:swapsWith e none pos.line X.env=pure false:=by rfl):PS X (.Expr e pos) (AuL te):=by intro pins s σ H D I h;exact wpAny_Expr_any (thn (c pins s σ H _ I h) λv f ⟨x,H1,d,i,a⟩=>⟨σ,H1,d,a⟩) I.quiet b
def AuM (te:TE):TS:=λD σ H=>te σ H D.rt
theorem Az(b:PE X e te):PS X (.Return (some e) pos) (AuM te):=by intro pins s σ H D I h;exact wpAny_Return_some (thn (b pins s σ H _ I h) λv f ⟨x,H1,c,d,a⟩=>⟨x,σ,H1,c,d,a⟩)
abbrev AsH (t:TS)(u:TS)(D:Ends)(σ:St)(b:Bool)(H1:Hp):Prop:=if b=true then t D σ H1 else u D σ H1
def AwI (c:TT)(t:TS)(u:TS)(D:Ends)(σ:St)(H:Hp):Prop:=c σ H (AsH t u D σ)
theorem Bl{a b:List LL}(hc:PT X c tc)(l:PSs X a t)(j:PSs X b u):PS X (.If c a b pos) (AwI tc t u):=by
 intro pins s σ H D I h;refine wpAny_If (thn (hc pins s σ H _ I h) λd i ⟨H1,f,e⟩=>?_);cases d with
 |true=>exact l pins i σ H1 D f e
 |false=>exact j pins i σ H1 D f e
def AsI:TS:=λ_ _ _=>False
theorem DK:PS X st AsI:=λ_ _ _ _ _ _ h=>h.elim
end
abbrev TG:=V->St->Hp->(St->Hp->Prop)->Prop
abbrev TGs:=LI->St->Hp->(St->Hp->Prop)->Prop
def PG (X:Cx)(target:Expr)(t:TG):Prop:=
 ∀(pins:NR)(s:Nw)(σ:St)(H:Hp)(v:V)(u:N0)(Q:St->Hp->Prop),Inv X pins σ H s->RelV v u->t v σ H Q ->
  wpAny (model X.prog X.w) X.A (assign target X.env u) (λ_ s'=>∃σ' H',Inv X pins σ' H' s'/\Q σ' H') X.xe s
def PGs (X:Cx)(ts:List Expr)(t:TGs):Prop:=
 ∀(pins:NR)(s:Nw)(σ:St)(H:Hp)(vs:LI)(us:NX)(Q:St->Hp->Prop),Inv X pins σ H s->Vals vs us->t vs σ H Q ->
  wpAny (model X.prog X.w) X.A (assignInOrder ((assignEach ts X.env).map (·.2)) us) (λ_ s'=>∃σ' H',Inv X pins σ' H' s'/\Q σ' H') X.xe s
abbrev AwJ:=V->V->V->Hp->(Hp->Prop)->Prop
def AwK (X:Cx)(t:AwJ):Prop:=
 ∀(pins:NR)(s:Nw)(σ:St)(H:Hp)(o i v:V)(ov iv u:N0)(Q:Hp->Prop),Inv X pins σ H s->RelV o ov->RelV i iv->RelV v u->t o i v H Q ->
  wpAny (model X.prog X.w) X.A (setItem ov iv u) (λ_ s'=>∃H',Inv X pins σ H' s'/\Q H') X.xe s
abbrev TIp:=V->V->Hp->VK->Prop
def PIp (X:Cx)(op:Operator)(t:TIp):Prop:=
 ∀(pins:NR)(s:Nw)(σ:St)(H:Hp)(x y:V)(v u:N0)(Q:VK),Inv X pins σ H s->RelV x v->RelV y u->t x y H Q ->
  wpAny (model X.prog X.w) X.A (inplaceOp op v u) (EP X pins σ Q) X.xe s
def HB (i:Nat):TG:=λv σ H Q=>Q (σ.set i (some v)) H
theorem Bs(c:X.N.Nodup)(hi:X.N[i]?=some x)(d:Loc X.env.scope x)(a:X.fn x=true\/X.env.scope.names.lookup x=some .local:=by first|exact .inl U|exact .inr U|assumption):PG X (.Name x pos) (HB i):=by intro pins s σ H v u Q I r h;exact wpAny_assign_Name (Te I c hi d r (λs' b=>⟨_,H,b,h⟩) a)
inductive AuN (vs:LI)(σ:St)(H:Hp)(Q:(St->Hp->Prop)):Prop
|mk(_:vs=[])(_:Q σ H)
inductive Ana (t:TG)(u:TGs)(vs:LI)(σ:St)(H:Hp)(Q:(St->Hp->Prop)):Prop
|mk(v:_)(r:_)(_:vs=v::r)(_:t v σ H λσ' H'=>u r σ' H' Q)
theorem GJ:PGs X [] AuN:=by intro pins s σ H vs us Q I r h;obtain⟨e,h⟩:=h;exact assignInOrder_nil ⟨σ,H,I,h⟩
theorem CG{t:TG}{u:TGs}(h1:PG X e t)(h2:PGs X es u)
  (d:(assignEach (e::es) X.env).map (·.2)=assign e X.env::(assignEach es X.env).map (·.2):=by rfl):PGs X (e::es) (Ana t u):=by
 intro pins s σ H vs us Q I r h;obtain⟨v,l,j,h⟩:=h;subst j;cases r with
 |cons r f =>
  rw[d];refine assignInOrder_cons (thn (h1 pins s σ H _ _ _ I r h) λ_ b ⟨a,H1,i,c⟩=>?_);exact h2 pins b a H1 _ _ Q i f c
inductive AuO (K:NO)(n:Nat)(t:TGs)(v:V)(σ:St)(H:Hp)(Q:(St->Hp->Prop)):Prop
|mk(a:_)(xs:_)(_:v=.ref a)(_:SqT K H a xs)(_:xs.length=n)(_:t xs σ H Q)
theorem IW{k:Nat}{t:TGs}(hc:X.calm=true)(h:PGs X es t)
  (hn:(assignEach es X.env).length=n:=by rfl) (c:(assignEach es X.env).findIdx? (·.1)=none:=by rfl):PG X (.Tuple es k pos) (AuO X.K n t):=by
 intro pins s σ H v u Q I r hw;obtain⟨a,xs,p,i,m,hw⟩:=hw;subst p;cases r;obtain⟨its,d,f,q⟩:=I.tuple i;refine assign_Tuple_tuple (I.ok.hd hc) f (by simp[hn,<-m,d.length]) c λh' j=>?_;have l:Inv X pins σ H {s with heap:=h'}:=I.kept λb o e=>j b o (Aye (yH e)) e;exact h pins _ σ H xs _ Q l (by simpa using d) hw
abbrev Anb (g:TG)(D:Ends)(σ:St)(x:V)(H1:Hp):Prop:=g x σ H1 D.nx
def Aby (te:TE)(g:TG)(D:Ends)(σ:St)(H:Hp):Prop:=te σ H (Anb g D σ)
theorem W4{g:TG}(i:PE X e te)(a:PG X tg g)(f:swapsWithSole [tg] e pos.line X.env=pure false:=by rfl)(hw:swappedStores [tg] e X.env=pure none:=by rfl)
  (h1:(assignEach [tg] X.env).map (·.2)=[assign tg X.env]:=by rfl):PS X (.Assign [tg] e pos) (Aby te g):=by
 intro pins s σ H D I h;refine wpAny_Assign_stores (thn (i pins s σ H _ I h) λv b ⟨x,H1,j,c,d⟩=>?_) f hw;rw[h1];exact thn (a pins b σ H1 x v _ j c d) λ_ l q=>q
theorem Bd(l:X.N.Nodup)(hi:X.N[i]?=some x)(m:Loc X.env.scope x)(j:PE X e te)(f:swapsWith e (some (.Name x pos')) pos.line X.env=pure false:=by rfl)(d:X.fn x=true\/X.env.scope.names.lookup x=some .local:=by first|exact .inl U|exact .inr U|assumption) :
  PS X (.Assign [.Name x pos'] e pos) (Aby te (HB i)):=by
 intro pins s σ H D I h;refine wpAny_Assign_Name (thn (j pins s σ H _ I h) λv o ⟨y,H1,n,b,c⟩=>?_) f;exact Te n l hi m b (λp a=>⟨_,H1,a,c⟩) d
inductive AwL (i:Nat)(te:TE)(ti:TIp)(D:Ends)(σ:St)(H:Hp):Prop
|mk(x:_)(_:σ[i]?=some (some x))(_:te σ H λy H1=>ti x y H1 λz H2=>D.nx (σ.set i (some z)) H2)
theorem AsJ{op:Operator}{n:TIp}(O:X.N.Nodup)(hi:X.N[i]?=some x)(j:Loc X.env.scope x)(C:PE X e te)(E:PIp X op n)(B:X.fn x=true\/X.env.scope.names.lookup x=some .local:=by first|exact .inl U|exact .inr U|assumption) :
  PS X (.AugAssign (.Name x pos') op e pos) (AwL i te n):=by
 intro pins s σ H D I h;obtain⟨v,G,h⟩:=h;obtain⟨m,hn,P⟩:=I.loc;have f:Vis X.env.scope x:=by rcases j with k|k;exact .inl k;exact .inr (.inl k)
 obtain⟨u,r,l⟩:=P i x v hi G f;refine wpAny_AugAssign_Name ?_;have go:wpAny (model X.prog X.w) X.A (eval e X.env) (λw d=>wpAny (model X.prog X.w) X.A (inplaceOp op u w) (λr b=>wpAny (model X.prog X.w) X.A (storeName X.env x r) (λ_=>SP X pins D .next) X.xe b) X.xe d) X.xe s:=by
  refine thn (C pins s σ H _ I h) λw L ⟨y,H1,F,K,M⟩=>?_;refine thn (E pins L σ H1 v y u w _ F r K M) λz Q ⟨R,H2,o,r2,J⟩=>?_;exact Te o O hi j r2 (λS p=>⟨_,H2,p,J⟩) B
 rcases l with ⟨hk,q⟩|⟨hk,c,hc,a⟩
 ·exact wpAny_loadName_local I.ok.kind hk hn q go
 ·rcases hk with hk|hk
  ·exact wpAny_loadName_cell I.ok.kind hk hc a go
  ·rcases j with k|k
   ·have:X.env.scope.names.lookup x=some .free:=hk;rw[k]at this;cases this
   ·have:X.env.scope.names.lookup x=some .free:=hk;rw[k]at this;cases this
def AwM (X:Cx)(t:V->V->Hp->VK->Prop):Prop:=
 ∀(pins:NR)(s:Nw)(σ:St)(H:Hp)(o i:V)(ov iv:N0)(Q:VK),Inv X pins σ H s->RelV o ov->RelV i iv->t o i H Q ->
  wpAny (model X.prog X.w) X.A (getItem ov iv) (EP X pins σ Q) X.xe s
inductive ipI (f:Int->Int->Int)(x:V)(y:V)(H:Hp)(Q:VK):Prop
|mk(i:_)(j:_)(_:x=.int i)(_:y=.int j)(_:Q (.int (f i j)) H)
theorem AsK:PIp X .Add (ipI λi j=>i+j):=by intro pins s σ H x y v u Q I a r2 h;obtain⟨i,j,b,e2,q⟩:=h;subst b;subst e2;obtain⟨t,rfl⟩:=a;obtain⟨t',rfl⟩:=r2;exact iadd_int ⟨.int _,H,I.tok _,⟨_,U⟩,q⟩
def AsL (c:TT)(tb:TS):TS:=λD σ H=>∃W:Nat->St->Hp->Prop,(∃m,W m σ H)/\∀m σ H,W m σ H ->
 c σ H λb H1=>if b=true then ∃N:St->Hp->Prop,(∀σ' H',N σ' H'->∃m',m'<m/\W m' σ' H')/\tb {D with nx:=N,ct:=N,bk:=D.nx} σ H1 else D.nx σ H1
theorem Xn(x:PassesOwn (model X.prog X.w) X.A X.env X.xe)(hc:PT X c tc)(y:PSs X body tb):PS X (.While c body [] pos) (AsL tc tb):=by
 intro pins s σ H D I h;obtain⟨W,⟨m0,E⟩,e⟩:=h;refine wpAny_While (codeAny_whileLoop (λn s'=>∃σ' H',Inv X pins σ' H' s'/\W n σ' H') ?_ m0 ⟨σ,H,I,E⟩);rintro n C ⟨d,H1,B,F⟩;refine wpAny_passesOwn x (thn (hc pins C d H1 _ B (e n d H1 F)) λb z ⟨H2,r,j⟩=>?_);cases b with
 |true =>
  obtain⟨N,u,j⟩:=j;refine wpAny_passesOwn x (thn (y pins z d H2 _ r j) λf G i=>?_);cases f with
  |next =>
   obtain⟨a,H3,m,l⟩:=i;obtain⟨q,o,p⟩:=u a H3 l;exact⟨q,o,a,H3,m,p⟩
  |cont =>
   obtain⟨a,H3,m,l⟩:=i;obtain⟨q,o,p⟩:=u a H3 l;exact⟨q,o,a,H3,m,p⟩
  |brk=>exact i
  |ret v=>exact i
 |false =>
  exact wpAny_execs_nil ⟨d,H2,r,j⟩
structure It where
 go:Nat->Hp->Prop
 yld:Nat->Hp->V->Hp->Prop
 stop:Nat->Hp->Prop
def Q6 (X:Cx)(pins:NR)(H:Hp)(b:Nn):Prop:=
 H b=none/\b≠X.env.locals/\b∉X.fs/\(b∈X.ex\/X.s₀.heap.objs.size<=b)/\(∀x c,X.env.cells.lookup x=some c->c≠b)/\∀p∈X.pn++pins,p.1≠b
theorem Inv.Aja(I:Inv X pins σ H s)(a:s.heap.objs.size<=b)(hn:H' b=none):Q6 X pins H' b:=by
 refine⟨hn,AyE (Ayl I.lt a),I.AwC a,.inr (Ayh I.sz a),λx c e z=>?_,λp d z=>?_⟩
 ·obtain⟨v,q⟩:=I.cell x c e;exact yG (Ayl q.lt AC) (Ay4 _)
 ·exact yG (Ayl (yH (I.pin p d).1) AC) (Ay4 _)
structure Turn (P:Program)(w:World)(K:NO)(tg:Expr)(J:It)(fp:NW)(it:Nn)(tn:Nat->Heap->Prop):Prop where
 mem:it∈fp
 obj:∀i h,tn i h->∀b∈fp,∃o,h.get? b=some o/\∀v,o.data≠.cell v
 keep:∀i h h',tn i h->(∀b∈fp,∀o,h.get? b=some o->h'.get? b=some o)->tn i h'
 item:∀(X:Cx),X.prog=P->X.w=w->X.K=K->X.calm=true->∀(i:Nat)(pins:NR)(s:Nw)(σ:St)(H:Hp)(E:NU),Inv X pins σ H s->(∀b∈fp,Q6 X pins H b)->tn i s.heap->J.go i H ->
  wpAny (model P w) X.A (pyNext (.ref it)) (λr s1=>∃u,r=some u /\
   wpAny (model P w) X.A (letOwnedTupleGo tg (.ref it) u) (λ_ s2=>∃x H',Inv X pins σ H' s2/\RelV x u/\J.yld i H x H'/\tn (i+1) s2.heap/\∀b∈fp,H' b=none) E s1) E s
 done:∀(X:Cx),X.prog=P->X.w=w->X.K=K->X.calm=true->∀(i:Nat)(pins:NR)(s:Nw)(σ:St)(H:Hp)(E:NU),Inv X pins σ H s->(∀b∈fp,Q6 X pins H b)->tn i s.heap->J.stop i H ->
  wpAny (model P w) X.A (pyNext (.ref it)) (λr s1=>r=none/\Inv X pins σ H s1) E s
 self:∀(A:Around)(i:Nat)(s:Nw)(Q:NU)(E:NU),tn i s.heap->Q (.ref it) s->wpAny (model P w) A (pyIter (.ref it)) Q E s
abbrev TI:=St->Hp->(It->Hp->Prop)->Prop
def PIE (X:Cx)(pins:NR)(σ:St)(tg:Expr)(R:It->Hp->Prop)(itv:N0)(s2:Nw):Prop:=
 ∃(it:Nn)(fp:NW)(tn:Nat->Heap->Prop)(J:It)(H':Hp),itv=.ref it/\Inv X pins σ H' s2/\Turn X.prog X.w X.K tg J fp it tn/\tn 0 s2.heap/\(∀b∈fp,Q6 X pins H' b)/\R J H'
def PI (X:Cx)(tg iter:Expr)(wi:TI):Prop:=
 ∀(pins:NR)(s:Nw)(σ:St)(H:Hp)(R:It->Hp->Prop),Inv X pins σ H s->wi σ H R ->
  wpAny (model X.prog X.w) X.A (eval iter X.env) (λv s1=>wpAny (model X.prog X.w) X.A (pyIter v) (PIE X pins σ tg R) X.xe s1) X.xe s
theorem Ah1{o:Obj}{n:String}{vs:Array N0}(b:s.heap.get? it=some o)(hc:o.cls=.type n)(c:o.data=.fields vs)
    (hn:["enumerate","zip","dict_itemiterator","dict_reverseitemiterator","odict_iterator","itertools.zip_longest","itertools.pairwise"].contains n=false) (a:Q () s):wpAny M A (letOwnedTupleGo tg (.ref it) u) Q E s:=by
  cases tg<;>first
    |exact zE a
    | (cases u<;>first
        |exact zE a
        | (refine zA (wpAny_load b ?_)
           rw[hc,c];show wpAny M A (if (["enumerate","zip","dict_itemiterator","dict_reverseitemiterator","odict_iterator","itertools.zip_longest","itertools.pairwise"].contains n && vs[0]? == some (rawInt _))=true then _ else _) Q E s;rw[yE (by intro h;rw[hn,Bool.false_and]at h;cases h)];exact zE a))
def Itl (K:NO)(a:Nn):It:=
 ⟨λi H=>∃xs x,SqL K H a xs/\xs[i]?=some x,λi H x H'=>H'=H/\∀xs,SqL K H a xs->xs[i]?=some x,λi H=>∃xs,SqL K H a xs/\xs.length<=i⟩
def Itr (lo:Int)(n:Nat):It:=⟨λi _=>i<n,λi H x H'=>H'=H/\x=.int (lo+i),λi _=>n<=i⟩
theorem Al4{K:NO}(a it:Nn):Turn P w K tg (Itl K a) [it] it (λi h=>h.IsListIter it a i) where
 mem:=AB
 obj:=λi h st b f=>by
  have e:b=it:=by simpa using f
  subst e;obtain⟨o,e,c,d⟩:=st;exact⟨o,e,λv z=>AD⟩
 keep:=λi h h' st k=>st.at λo e=>k it AB o e
 item:=by
  intro X q hw n hc i pins s σ H E I l st B;subst q hw n;obtain⟨xs,x,m,y⟩:=B;obtain⟨its,A,p,J⟩:=I.list m;obtain⟨u,M,F⟩:=A.get y;obtain⟨C,f1,D,r,f4,f5⟩:=l it AB;refine wpAny_pyNext_list_item st p.isList (by simpa using M) λh' j L=>?_;have G:Inv X pins σ H {s with heap:=h'}:=I.turned (λb o f e=>(L.2 b f).trans e) C f1 r f4 f5;obtain⟨o,e,c,d⟩:=id j;exact⟨u,U,Ah1 e c d Ap ⟨x,H,G,F,⟨U,λys O=>by rw[I.Tf O m];exact y⟩,j,λb f=>(l b f).1⟩⟩
 done:=by
  intro X q hw n hc i pins s σ H E I l st B;subst q hw n;obtain⟨xs,m,y⟩:=B;obtain⟨its,A,p,J⟩:=I.list m;obtain⟨C,f1,D,r,f4,f5⟩:=l it AB;have Q:=A.length;exact wpAny_pyNext_list_end (I.ok.hd hc) st p.isList (by simp;lia) λh' N=>⟨U,I.turned (λb o f e=>N b o f e) C f1 r f4 f5⟩
 self:=λ_ _ _ _ _ st h=>wpAny_pyIter_listiter st h
theorem Ajb{K:NO}(it:Nn)(lo:Int)(n:Nat):Turn P w K tg (Itr lo n) [it] it (λi h=>IsRangeIter h it (lo+(i:Nat)*1) ((n:Int)-(i:Nat)) 1) where
 mem:=AB
 obj:=λi h st b a=>by
  simp_all
 keep:=λi h h' st k=>k it AB _ st
 item:=by
  intro X j hw f hc i pins s σ H E I d st l;subst j hw f;obtain⟨m,f1,q,p,f4,f5⟩:=d it AB;have W:=Walks.range (prog:=X.prog) (w:=X.w) (I.ok.hd hc) it lo 1 n;refine W.item i s _ _ l st λv h' tk r c x=>?_;obtain⟨t,rfl⟩:=r;have u:Inv X pins σ H {s with heap:=h',toks:=tk}:=I.turned (λb o a e=>x b o (by simpa using a) e) m f1 p f4 f5;refine⟨_,U,Ah1 c U rfl Ap ⟨.int (lo+i),H,u,⟨t,?_⟩,⟨U,U⟩,c,λb a=>(d b a).1⟩⟩;rw[Int.mul_one]
 done:=by
  intro X j hw f hc i pins s σ H E I d st l;subst j hw f;obtain⟨m,f1,q,p,f4,f5⟩:=d it AB;exact wpAny_pyNext_range_end (I.ok.hd hc) st (by have:n<=i:=l;lia) λh' y=>⟨U,I.turned (λb o a e=>y b o a e) m f1 p f4 f5⟩
 self:=λ_ _ _ _ _ st h=>wpAny_pyIter_rangeiter st h
inductive Aqm (K:NO)(R:(It->Hp->Prop))(x:V)(H1:Hp):Prop
|mk(a:_)(_:x=.ref a)(_:(∃xs,SqL K H1 a xs))(_:R (Itl K a) H1)
def Anc (K:NO)(tl:TE)(σ:St)(H:Hp)(R:(It->Hp->Prop)):Prop:=tl σ H (Aqm K R)
theorem Aqn(n:PE X l tl):PI X tg l (Anc X.K tl):=by
 intro pins s σ H R I h;refine thn (n pins s σ H _ I h) λv d ⟨x,H1,c,i,m⟩=>?_;obtain⟨a,e,⟨xs,j⟩,q⟩:=m;subst e;cases i;obtain⟨its,u,p,r⟩:=c.list j;refine wpAny_pyIter_list p.isList ?_;refine⟨d.heap.objs.size,[d.heap.objs.size],_,_,H1,U,c.kept λb o e=>zB _ e,Al4 a _,⟨_,zD _ U,U,U⟩,λb f=>?_,q⟩;have e:b=d.heap.objs.size:=by simpa using f
 subst e;exact c.Aja (AxU _) (c.hok.fresh (AxU _))
theorem Ah2{R:It->Hp->Prop}{lo hi:Int}{t u v:Tok}(I:Inv X pins σ H s)(h1 : -(2 ^ 62)<=lo)(h2:lo<2 ^ 62)(h3 : -(2 ^ 62)<=hi)(d:hi<2 ^ 62)
  (q:R (Itr lo (hi-lo).toNat) H):wpAny (model X.prog X.w) X.A (pyIter (.ref s.heap.objs.size)) (PIE X pins σ tg R) E {s with heap:=s.heap.push {cls:=.type "range",data:=.fields #[.int lo t,.int hi u,.int 1 v]},toks:=tk}:=by
 refine wpAny_pyIter_range (IsRange.new ..) (small_one h1 h2 h3 d) ?_;have a:Inv X pins σ H {s with heap:=s.heap.push {cls:=.type "range",data:=.fields #[.int lo t,.int hi u,.int 1 v]},toks:=tk}:=I.kept λb o e=>zB _ e;refine⟨(s.heap.push {cls:=.type "range",data:=.fields #[.int lo t,.int hi u,.int 1 v]}).objs.size,[(s.heap.push {cls:=.type "range",data:=.fields #[.int lo t,.int hi u,.int 1 v]}).objs.size],_,_,H,U,
  a.kept λb o e=>zB _ e,Ajb _ lo (hi-lo).toNat,?_,λb c=>?_,q⟩
 ·have f:lo+((0:Nat):Int)*1=lo:=AB
  have e2:(((hi-lo).toNat:Nat):Int)-((0:Nat):Int)=Builtin.Range.rangeSize lo hi 1:=by rw[rangeSize_one];split<;>lia
  rw[f,e2];exact zD _ U
 ·have e:b=(s.heap.push {cls:=.type "range",data:=.fields #[.int lo t,.int hi u,.int 1 v]}).objs.size:=by simpa using c
  subst e;exact a.Aja (AxU _) (a.hok.fresh (AxU _))
inductive Aqo (R:(It->Hp->Prop))(vs:LI)(H1:Hp):Prop
|mk(j:Int)(_:vs=[.int j])(_ : -(2 ^ 62)<=j)(_:j<2 ^ 62)(_:R (Itr 0 j.toNat) H1)
def AuP (ta:TA)(σ:St)(H:Hp)(R:(It->Hp->Prop)):Prop:=ta σ H (Aqo R)
inductive Aqp (R:(It->Hp->Prop))(vs:LI)(H1:Hp):Prop
|mk(i:Int)(j:Int)(_:vs=[.int i,.int j])(_:(-(2 ^ 62)<=i/\i<2 ^ 62 /\ -(2 ^ 62)<=j/\j<2 ^ 62))(_:R (Itr i (j-i).toNat) H1)
def AuQ (ta:TA)(σ:St)(H:Hp)(R:(It->Hp->Prop)):Prop:=ta σ H (Aqp R)
theorem Ea{a:Expr}{ta:TA}(c:Gl X "range") (i:X.mg "range"=none) (o:PA X [a] ta) (l:starEach [a] X.env=[(false,eval a X.env)]:=by rfl):PI X tg (.Call (.Name "range" p) [a] [] pos) (AuP ta):=by
 intro pins s σ H R I h;refine Call_ (IV I c i boot_range (yK (thn (o pos pins s σ H _ I h) λus u ⟨vs,H1,n,f,b⟩=>?_) l U));obtain⟨j,e,b,d,q⟩:=b;subst e;cases f with
 |cons r m =>
  cases m;obtain⟨t,rfl⟩:=r;exact call_range_1 (Ah2 n AA AA b d (by simpa using q))
theorem Al5{a b:Expr}{ta:TA}(l:Gl X "range") (o:X.mg "range"=none) (y:PA X [a,b] ta) (u:starEach [a,b] X.env=[(false,eval a X.env),(false,eval b X.env)]:=by rfl) (c:starEach [b] X.env=[(false,eval b X.env)]:=by rfl) :
  PI X tg (.Call (.Name "range" p) [a,b] [] pos) (AuQ ta):=by
 intro pins s σ H R I h;refine Call_ (IV I l o boot_range (yK (thn (y pos pins s σ H _ I h) λus A ⟨vs,H1,v,n,d⟩=>?_) (by rw[u,c]) (by rw[c];rfl)));obtain⟨i,j,e,⟨d,m,x,z⟩,q⟩:=d;subst e;cases n with
 |cons r f =>
  cases f with
  |cons w f =>
   cases f;obtain⟨t,rfl⟩:=r;obtain⟨t',rfl⟩:=w;exact call_range_2 (Ah2 v d m x z q)
abbrev AsM (g:TG)(tb:TS)(D:Ends)(σ:St)(J:It)(H1:Hp):Prop:=∃W:Nat->Nat->St->Hp->Prop,(∃m,W 0 m σ H1)/\∀i m σ H,W i m σ H ->
 (J.stop i H/\D.nx σ H)\/(J.go i H/\∃N:St->Hp->Prop,(∀σ' H',N σ' H'->∃m',m'<m/\W (i+1) m' σ' H')/\∀x H',J.yld i H x H'->g x σ H' λσ2 H2=>tb {D with nx:=N,ct:=N,bk:=D.nx} σ2 H2)
def AwN (wi:TI)(g:TG)(tb:TS)(D:Ends)(σ:St)(H:Hp):Prop:=wi σ H (AsM g tb D σ)
def Acj (fp:NW)(h:Heap):NR:=fp.filterMap λb=>(h.get? b).map λo=>(b,o)
theorem W5{o:Obj}(a:b∈fp)(e:h.get? b=some o):(b,o)∈Acj fp h:=List.mem_filterMap.mpr ⟨b,a,by rw[e];rfl⟩
theorem Al6{p:Nn×Obj}(d:p∈Acj fp h):p.1∈fp/\h.get? p.1=some p.2:=by
 obtain⟨b,a,e⟩:=List.mem_filterMap.mp d;cases q:h.get? b with
 |none=>simp_all
 |some o =>
  rw[q]at e;have c:=yI e;subst c;exact⟨a,q⟩
theorem Inv.pinned(I:Inv X pins σ H s)(i:∀b∈fp,Q6 X pins H b)(j:∀b∈fp,∃o,s.heap.get? b=some o/\∀v,o.data≠.cell v):Inv X (pins++Acj fp s.heap) σ H s:=
 I.Xm λp l=>(zG.mp l).elim (λz=>I.pin p (AyA _ z)) λz=>by
  obtain⟨a,e⟩:=Al6 z;obtain⟨f,f1,h,_⟩:=i p.1 a;obtain⟨o,c,d⟩:=j p.1 a;rw[e]at c;cases c;exact⟨e,f,f1,h,d⟩
theorem Inv.Ack{pl:NR}(I:Inv X (pins++pl) σ H s):Inv X pins σ H s:=I.Xm λp a=>I.pin p (AyA _ (Azg _ a))
theorem DP{wi:TI}{g:TG}(K:PassesOwn (model X.prog X.w) X.A X.env X.xe)(hc:X.calm=true)(hi:PI X tg iter wi)(hg:PG X tg g)(l:PSs X body tb)
  (hs:∀x,foldedSetIterable iter X.env x=pure x:=by intro _;rfl):PS X (.For tg iter body [] pos) (AwN wi g tb):=by
 intro pins s σ H D I h;refine wpAny_For (thn (hi pins s σ H _ I h) λv s1 h1=>thn h1 λa0 s2 h2=>?_) hs;obtain⟨it,fp,tn,J,H2,e,I2,T,Q,S,W,⟨m0,w0⟩,G⟩:=h2;subst e;have c:∀{H':Hp},(∀b∈fp,H' b=none)->∀b∈fp,Q6 X pins H' b:=λhn b l=>⟨hn b l,(S b l).2⟩;refine codeAny_forLoop_any (λn s'=>∃i σ' H',Inv X pins σ' H' s'/\tn i s'.heap/\(∀b∈fp,H' b=none)/\W i n σ' H') ?_ m0 ⟨0,σ,H2,I2,Q,λb l=>(S b l).1,w0⟩;rintro n s3 ⟨i,q,H3,Y,F,E,w3⟩;rcases G i n q H3 w3 with ⟨C,qn⟩|⟨go,N,hN,step⟩
 ·refine wpAny_passesOwn K (thn (T.done X U rfl U hc i pins s3 q H3 X.xe Y (c E) F C) λr s4 ⟨R,I4⟩=>?_);subst R;exact wpAny_execs_nil ⟨q,H3,I4,qn⟩
 ·refine wpAny_passesOwn K (thn (T.item X U rfl U hc i pins s3 q H3 X.xe Y (c E) F go) λr s4 ⟨u,R,h4⟩=>?_);subst R;refine wpAny_passesOwn K (thn h4 λ_ Z ⟨x,H5,I5,r5,y5,z,O⟩=>?_);have P:=I5.pinned (c O) (T.obj _ _ z);refine wpAny_passesOwn K (thn (hg _ Z q H5 x u _ P r5 (step x H5 y5)) λ_ s6 ⟨M,H6,I6,q6⟩=>?_);refine wpAny_passesOwn K (thn (l _ s6 M H6 _ I6 q6) λf L y=>?_);have again:∀{a:St} {p:Hp},Inv X (pins++Acj fp Z.heap) a p L->N a p->∃m,m<n/\∃i σ' H',Inv X pins σ' H' L/\tn i L.heap/\(∀b∈fp,H' b=none)/\W i m σ' H':=λ{a p} j B=>by
   obtain⟨m',hm,w7⟩:=hN a p B;refine⟨m',hm,i+1,a,p,j.Ack,T.keep _ _ _ z λb l o e=>(j.pin (b,o) (AyA _ (AyA _ (W5 l e)))).1,λb l=>?_,w7⟩;obtain⟨o,e,d⟩:=T.obj _ _ z b l;exact(j.pin (b,o) (AyA _ (AyA _ (W5 l e)))).2.1
  cases f with
  |next=>obtain⟨a,p,j,B⟩:=y;exact again j B
  |cont=>obtain⟨a,p,j,B⟩:=y;exact again j B
  |brk=>obtain⟨a,p,j,y⟩:=y;exact⟨a,p,j.Ack,y⟩
  |ret v=>obtain⟨x7,a,p,j,r7,y⟩:=y;exact⟨x7,a,p,j.Ack,r7,y⟩
theorem Ff{K:NO}{g:TG}(Pv:Nat->St->Hp->Prop)(n:Pv 0 σ H)(l:∀i σ H,i<=xs.length->Pv i σ H->SqL K H a xs)
  (j:∀i x σ H,xs[i]?=some x->Pv i σ H->g x σ H λb H2=>tb {D with nx:=Pv (i+1),ct:=Pv (i+1),bk:=D.nx} b H2) (h:∀σ H,Pv xs.length σ H->D.nx σ H) :
  ∃W:Nat->Nat->St->Hp->Prop,(∃m,W 0 m σ H)/\∀i m σ H,W i m σ H ->
   ((Itl K a).stop i H/\D.nx σ H)\/((Itl K a).go i H/\∃N:St->Hp->Prop,(∀σ' H',N σ' H'->∃d,d<m/\W (i+1) d σ' H')/\∀x H',(Itl K a).yld i H x H'->g x σ H' λb H2=>tb {D with nx:=N,ct:=N,bk:=D.nx} b H2):=by
 refine⟨λi m σ H=>m=xs.length-i/\i<=xs.length/\Pv i σ H,⟨xs.length,AB,Ayf _,n⟩,?_⟩;rintro i m σ H ⟨rfl,hi,p⟩;have q:=l i σ H hi p;by_cases c:i<xs.length
 ·refine .inr ⟨⟨xs,xs[i],q,AB⟩,Pv (i+1),λσ' H' f=>⟨xs.length-(i+1),Au,U,c,f⟩,λx H' y=>?_⟩;obtain⟨e,y⟩:=y;subst e;exact j i x σ _ (y xs q) p
 ·have e:i=xs.length:=AA
  subst e;exact .inl ⟨⟨xs,q,AxU _⟩,h σ H p⟩
theorem GK{lo:Int}{g:TG}(Pv:Nat->St->Hp->Prop)(j:Pv 0 σ H)
  (h:∀i σ H,i<n->Pv i σ H->g (.int (lo+i)) σ H λb H2=>tb {D with nx:=Pv (i+1),ct:=Pv (i+1),bk:=D.nx} b H2) (f:∀σ H,Pv n σ H->D.nx σ H) :
  ∃W:Nat->Nat->St->Hp->Prop,(∃m,W 0 m σ H)/\∀i m σ H,W i m σ H ->
   ((Itr lo n).stop i H/\D.nx σ H)\/((Itr lo n).go i H/\∃N:St->Hp->Prop,(∀σ' H',N σ' H'->∃c,c<m/\W (i+1) c σ' H')/\∀x H',(Itr lo n).yld i H x H'->g x σ H' λb H2=>tb {D with nx:=N,ct:=N,bk:=D.nx} b H2):=by
 refine⟨λi m σ H=>m=n-i/\i<=n/\Pv i σ H,⟨n,AB,Ayf _,j⟩,?_⟩;rintro i m σ H ⟨rfl,hi,p⟩;by_cases a:i<n
 ·refine .inr ⟨a,Pv (i+1),λσ' H' d=>⟨n-(i+1),Au,U,a,d⟩,λx H' y=>?_⟩;obtain⟨e,y⟩:=y;subst e y;exact h i σ _ a p
 ·have e:i=n:=AA
  subst e;exact .inl ⟨AxU _,f σ H p⟩
abbrev R2:=V->V->Hp->VK->Prop
def OpR (X:Cx)(f:N0->N0->Sem N0)(r:R2):Prop:=
 ∀(pins:NR)(s:Nw)(σ:St)(H:Hp)(x y:V)(v u:N0)(Q:VK),Inv X pins σ H s->RelV x v->RelV y u->r x y H Q ->
  wpAny (model X.prog X.w) X.A (f v u) (EP X pins σ Q) X.xe s
def UnR (X:Cx)(f:N0->Sem N0)(r:V->Hp->VK->Prop):Prop:=
 ∀(pins:NR)(s:Nw)(σ:St)(H:Hp)(x:V)(v:N0)(Q:VK),Inv X pins σ H s->RelV x v->r x H Q ->
  wpAny (model X.prog X.w) X.A (f v) (EP X pins σ Q) X.xe s
def Hw (X:Cx)(f:N0)(r:LI->Hp->VK->Prop):Prop:=
 ∀(pins:NR)(s:Nw)(σ:St)(H:Hp)(xs:LI)(us:NX)(Q:VK),Inv X pins σ H s->Vals xs us->r xs H Q ->
  wpAny (model X.prog X.w) X.A (call f us) (EP X pins σ Q) X.xe s
def AwO (X:Cx)(r:V->Hp->(Bool->Hp->Prop)->Prop):Prop:=
 ∀(pins:NR)(s:Nw)(σ:St)(H:Hp)(x:V)(v:N0)(Q:Bool->Hp->Prop),Inv X pins σ H s->RelV x v->r x H Q ->
  wpAny (model X.prog X.w) X.A (truthy v) (TP X pins σ Q) X.xe s
abbrev AuR (r:R2)(Q:VK)(x:V)(y:V)(H2:Hp):Prop:=r x y H2 Q
abbrev AuS (r:R2)(tb:TE)(σ:St)(Q:VK)(x:V)(H1:Hp):Prop:=tb σ H1 (AuR r Q x)
def tOp (r:R2)(ta:TE)(tb:TE)(σ:St)(H:Hp)(Q:VK):Prop:=ta σ H (AuS r tb σ Q)
abbrev AuT (r:V->Hp->VK->Prop)(Q:VK)(x:V)(H1:Hp):Prop:=r x H1 Q
def tUn (r:V->Hp->VK->Prop)(ta:TE)(σ:St)(H:Hp)(Q:VK):Prop:=ta σ H (AuT r Q)
inductive rI (C:Int->Int->Prop)(g:Int->Int->V)(x:V)(y:V)(H:Hp)(Q:VK):Prop
|mk(i:_)(j:_)(_:x=.int i)(_:y=.int j)(_:C i j)(_:Q (g i j) H)
inductive rI0 (g:Int->Int->V)(x:V)(y:V)(H:Hp)(Q:VK):Prop
|mk(i:_)(j:_)(_:x=.int i)(_:y=.int j)(_:Q (g i j) H)
inductive rU (g:Int->V)(x:V)(H:Hp)(Q:VK):Prop
|mk(i:_)(_:x=.int i)(_:Q (g i) H)
section
variable {a b:Expr}{tb tc:TE}
theorem AsN(r:PE X a ta)(j:PE X b tb){R:V->V->Hp->Prop}(I:Inv X pins σ H s)
  (h:ta σ H λx H1=>tb σ H1 λy H2=>R x y H2) {Q:NU} 
  (p:∀v u e x y H2,Inv X pins σ H2 e->RelV x v->RelV y u->R x y H2->wpAny (model X.prog X.w) X.A (f v u) Q X.xe e) :
  wpAny (model X.prog X.w) X.A (eval a X.env) (λv d=>wpAny (model X.prog X.w) X.A (eval b X.env) (λu c=>wpAny (model X.prog X.w) X.A (f v u) Q X.xe c) X.xe d) X.xe s:=by
 refine thn (r pins s σ H _ I h) λv m ⟨x,H1,q,n,o⟩=>?_;refine thn (j pins m σ H1 _ q o) λu e ⟨y,H2,i,r2,l⟩=>?_;exact p v u e x y H2 i n r2 l
theorem Ak{op:Operator}(f:OpR X (binaryOp op) r)(l:PE X a ta)(d:PE X b tb):PE X (.BinOp a op b pos) (tOp r ta tb):=by intro pins s σ H Q I h;exact wpAny_BinOp (AsN l d I h λv u i x y H2 c e j q=>f pins i σ H2 x y v u Q c e j q)
theorem Akm{op:UnaryOp}{r:V->Hp->VK->Prop}(c:UnR X (unaryOp op) r)(i:PE X a ta):PE X (.UnaryOp op a pos) (tUn r ta):=by intro pins s σ H Q I h;exact UnaryOp_ (thn (i pins s σ H _ I h) λv e ⟨x,H1,d,f,b⟩=>c pins e σ H1 x v Q d f b)
theorem opI{C:Int->Int->Prop}{g:Int->Int->Int}
  (rule:∀(i j:Int)(t u:Tok)(s:Nw)(Q:NU)(E:NU),C i j->Q (.int (g i j) s.toks) {s with toks:=s.toks+1}->wpAny (model X.prog X.w) X.A (f (.int i t) (.int j u)) Q E s) :
  OpR X f (rI C λi j=>.int (g i j)):=by
 intro pins s σ H x y v u Q I a b h;obtain⟨i,j,rfl,rfl,hc,q⟩:=h;obtain⟨t,rfl⟩:=a;obtain⟨t',rfl⟩:=b;exact rule i j t t' s _ _ hc ⟨.int (g i j),H,I.tok _,⟨_,U⟩,q⟩
theorem AuU{g:Int->Int->Int}
  (rule:∀(i j:Int)(t u:Tok)(s:Nw)(Q:NU)(E:NU),Q (.int (g i j) s.toks) {s with toks:=s.toks+1}->wpAny (model X.prog X.w) X.A (f (.int i t) (.int j u)) Q E s) :
  OpR X f (rI0 λi j=>.int (g i j)):=by
 intro pins s σ H x y v u Q I a b h;obtain⟨i,j,rfl,rfl,q⟩:=h;obtain⟨t,rfl⟩:=a;obtain⟨t',rfl⟩:=b;exact rule i j t t' s _ _ ⟨.int (g i j),H,I.tok _,⟨_,U⟩,q⟩
theorem Aqq{g:Int->Int->Bool}
  (rule:∀(i j:Int)(t u:Tok)(s:Nw)(Q:NU)(E:NU),Q (.bool (g i j)) s->wpAny (model X.prog X.w) X.A (f (.int i t) (.int j u)) Q E s) :
  OpR X f (rI0 λi j=>.bl (g i j)):=by
 intro pins s σ H x y v u Q I a b h;obtain⟨i,j,rfl,rfl,q⟩:=h;obtain⟨t,rfl⟩:=a;obtain⟨t',rfl⟩:=b;exact rule i j t t' s _ _ ⟨.bl (g i j),H,I,U,q⟩
def AwP (i j:Int):Prop:=0<j/\j<1073741824
def AsO (i j:Int):Prop:=(-(2 ^ 64)<i/\i<2 ^ 64)\/(-(2 ^ 64)<j/\j<2 ^ 64)
theorem AsO.ok{i j:Int}(h:AsO i j):IntMulOk i j:=by
 rcases h with ⟨h1,h2⟩|⟨h1,h2⟩
 ·exact .of_left (intBits_le_64 h1 h2)
 ·exact .of_right (intBits_le_64 h1 h2)
theorem Em:OpR X (binaryOp .Add) (rI0 λi j=>.int (i+j)):=AuU λ_ _ _ _ _ _ _ q=>add_int q
theorem Q7:OpR X (binaryOp .Sub) (rI0 λi j=>.int (i-j)):=AuU λ_ _ _ _ _ _ _ q=>sub_int q
theorem Q8:OpR X (binaryOp .Mult) (rI AsO λi j=>.int (i*j)):=opI λ_ _ _ _ _ _ _ hc q=>mul_int q hc.ok
theorem Eo:OpR X (binaryOp .FloorDiv) (rI AwP λi j=>.int (i / j)):=opI λi j _ _ _ _ _ hc q=>by
 have h1:=hc.1;have h2:=hc.2;exact floordiv_int AA (by rw[Int.fdiv_eq_ediv_of_nonneg i Au];exact q) (.inl (PyProof.noPylong_small Au))
theorem Dd:OpR X (binaryOp .Mod) (rI (λ_ j=>0<j) λi j=>.int (i%j)):=opI λi j _ _ _ _ _ hc q=>by
 exact mod_int' AA (by rw[Int.fmod_eq_emod_of_nonneg i Au];exact q)
theorem unI{f:N0->Sem N0}{g:Int->Int}
  (rule:∀(i:Int)(t:Tok)(s:Nw)(Q:NU)(E:NU),Q (.int (g i) s.toks) {s with toks:=s.toks+1}->wpAny (model X.prog X.w) X.A (f (.int i t)) Q E s) :
  UnR X f (rU λi=>.int (g i)):=by
 intro pins s σ H x v Q I a h;obtain⟨i,rfl,q⟩:=h;obtain⟨t,rfl⟩:=a;exact rule i t s _ _ ⟨.int (g i),H,I.tok _,⟨_,U⟩,q⟩
theorem AfH:UnR X (unaryOp .USub) (rU λi=>.int (-i)):=unI λ_ _ _ _ _ q=>neg_int q
end
def AuV:V->V->Bool
 | .non,.non=>true|.non,.int _=>true|.int _,.non=>true|.non,.bl _=>true|.bl _,.non=>true|.non,.str _=>true|.str _,.non=>true
 | .int _,.int _=>true|.bl _,.bl _=>true|.str _,.str _=>true|.byt _,.byt _=>true
 | .int _,.str _=>true|.str _,.int _=>true|.bl _,.str _=>true|.str _,.bl _=>true
 |_,_=>false
inductive rEq (x:V)(y:V)(H:Hp)(Q:VK):Prop
|mk(_:AuV x y=true)(_:Q (.bl (decide (x=y))) H)
inductive rNe (x:V)(y:V)(H:Hp)(Q:VK):Prop
|mk(_:AuV x y=true)(_:Q (.bl (!decide (x=y))) H)
theorem Akn{i j:Int}:decide (V.int i=V.int j)=(i == j):=by rw[AyU];simp
theorem Ane{i j:Bool}:decide (V.bl i=V.bl j)=(i == j):=by rw[AyU];simp
theorem Ako{i j:Str}:decide (V.str i=V.str j)=(i == j):=by rw[AyU];simp
theorem Akp{i j:Array UInt8}:decide (V.byt i=V.byt j)=(i.toList == j.toList):=by rw[AyU];cases i;cases j;simp
section
variable {a b:Expr}{tb tc:TE}
theorem Dr{Q:VK}{k k':Bool}(I:Inv X pins σ H s)(q:Q (.bl k) H)(e:k=k'):EP X pins σ Q (.bool k') s:=by subst e;exact⟨.bl k,H,I,U,q⟩
theorem Cj:OpR X (compareOp .Eq) rEq:=by
 intro pins s σ H x y v u Q I c a h;obtain⟨b,q⟩:=h;cases x with
 |non =>
  cases c;cases y with
  |non=>cases a;exact PySem.EqNone.eq_none_none (Dr I q AB)
  |bl j=>cases a;exact PySem.EqNone.eq_none_bool (Dr I q AB)
  |int j=>obtain⟨t',rfl⟩:=a;exact PySem.EqNone.eq_none_int (Dr I q AB)
  |str j=>obtain⟨t',rfl⟩:=a;exact PySem.EqNone.eq_none_str (Dr I q AB)
  |_=>exact yG (show false=true from b) Ayn
 |bl i =>
  cases c;cases y with
  |non=>cases a;exact PySem.EqNone.eq_bool_none (Dr I q AB)
  |bl j=>cases a;exact eq_bool (Dr I q Ane)
  |str j=>obtain⟨t',rfl⟩:=a;exact PySem.EqMixed.eq_bool_str (Dr I q AB)
  |_=>exact yG (show false=true from b) Ayn
 |int i =>
  obtain⟨t,rfl⟩:=c;cases y with
  |non=>cases a;exact PySem.EqNone.eq_int_none (Dr I q AB)
  |int j=>obtain⟨t',rfl⟩:=a;exact eq_int (Dr I q Akn)
  |str j=>obtain⟨t',rfl⟩:=a;exact PySem.EqMixed.eq_int_str (Dr I q AB)
  |_=>exact yG (show false=true from b) Ayn
 |str i =>
  obtain⟨t,rfl⟩:=c;cases y with
  |non=>cases a;exact PySem.EqNone.eq_str_none (Dr I q AB)
  |bl j=>cases a;exact PySem.EqMixed.eq_str_bool (Dr I q AB)
  |int j=>obtain⟨t',rfl⟩:=a;exact PySem.EqMixed.eq_str_int (Dr I q AB)
  |str j=>obtain⟨t',rfl⟩:=a;exact eq_str (Dr I q Ako)
  |_=>exact yG (show false=true from b) Ayn
 |byt i =>
  obtain⟨t,rfl⟩:=c;cases y with
  |byt j=>obtain⟨t',rfl⟩:=a;exact W.eq_bytes (Dr I q Akp)
  |_=>exact yG (show false=true from b) Ayn
 |_=>cases y<;>exact yG (show false=true from b) Ayn
theorem Lh:OpR X (compareOp .NotEq) rNe:=by
 intro pins s σ H x y v u Q I c a h;obtain⟨b,q⟩:=h;cases x with
 |non =>
  cases c;cases y with
  |non=>cases a;exact PySem.EqNone.ne_none_none (Dr I q AB)
  |bl j=>cases a;exact PySem.EqNone.ne_none_bool (Dr I q AB)
  |int j=>obtain⟨t',rfl⟩:=a;exact PySem.EqNone.ne_none_int (Dr I q AB)
  |str j=>obtain⟨t',rfl⟩:=a;exact PySem.EqNone.ne_none_str (Dr I q AB)
  |_=>exact yG (show false=true from b) Ayn
 |bl i =>
  cases c;cases y with
  |non=>cases a;exact PySem.EqNone.ne_bool_none (Dr I q AB)
  |bl j=>cases a;exact ne_bool (Dr I q (congrArg not Ane))
  |str j=>obtain⟨t',rfl⟩:=a;exact PySem.EqMixed.ne_bool_str (Dr I q AB)
  |_=>exact yG (show false=true from b) Ayn
 |int i =>
  obtain⟨t,rfl⟩:=c;cases y with
  |non=>cases a;exact PySem.EqNone.ne_int_none (Dr I q AB)
  |int j=>obtain⟨t',rfl⟩:=a;exact ne_int (Dr I q (congrArg not Akn))
  |str j=>obtain⟨t',rfl⟩:=a;exact PySem.EqMixed.ne_int_str (Dr I q AB)
  |_=>exact yG (show false=true from b) Ayn
 |str i =>
  obtain⟨t,rfl⟩:=c;cases y with
  |non=>cases a;exact PySem.EqNone.ne_str_none (Dr I q AB)
  |bl j=>cases a;exact PySem.EqMixed.ne_str_bool (Dr I q AB)
  |int j=>obtain⟨t',rfl⟩:=a;exact PySem.EqMixed.ne_str_int (Dr I q AB)
  |str j=>obtain⟨t',rfl⟩:=a;exact ne_str (Dr I q (congrArg not Ako))
  |_=>exact yG (show false=true from b) Ayn
 |byt i =>
  obtain⟨t,rfl⟩:=c;cases y with
  |byt j=>obtain⟨t',rfl⟩:=a;exact W.ne_bytes (Dr I q (congrArg not Akp))
  |_=>exact yG (show false=true from b) Ayn
 |_=>cases y<;>exact yG (show false=true from b) Ayn
theorem Hf:OpR X (compareOp .Lt) (rI0 λi j=>.bl (decide (i<j))):=Aqq λ_ _ _ _ _ _ _ q=>lt_int q
theorem AuW:OpR X (compareOp .LtE) (rI0 λi j=>.bl (decide (i<=j))):=Aqq λ_ _ _ _ _ _ _ q=>le_int q
theorem HD:OpR X (compareOp .Gt) (rI0 λi j=>.bl (decide (j<i))):=Aqq λ_ _ _ _ _ _ _ q=>gt_int q
theorem Anf:OpR X (compareOp .GtE) (rI0 λi j=>.bl (decide (j<=i))):=Aqq λ_ _ _ _ _ _ _ q=>ge_int q
inductive Ah3 (x:V)(y:V)(H:Hp)(Q:VK):Prop
|mk(i:_)(j:_)(_:x=.str i)(_:y=.str j)(_:Q (.bl (!(Builtin.Str.occurrences j i 0 j.length 1).isEmpty)) H)
theorem ZC:OpR X (compareOp .In) Ah3:=by intro pins s σ H x y v u Q I a b h;obtain⟨i,j,rfl,rfl,q⟩:=h;obtain⟨t,rfl⟩:=a;obtain⟨t',rfl⟩:=b;exact in_str (Dr I q U)
inductive Ang (x:V)(y:V)(H:Hp)(Q:VK):Prop
|mk(_:y=.non)(_:Q (.bl (decide (x=.non))) H)
theorem Ajc:OpR X (compareOp .Is) Ang:=by
 intro pins s σ H x y v u Q I a b h;obtain⟨rfl,q⟩:=h;cases b;refine is_none_gen (Dr I q ?_);cases x<;>first
  |grind
  | (obtain⟨t,rfl⟩:=a;rfl)
inductive Acl (x:V)(y:V)(H:Hp)(Q:VK):Prop
|mk(i:_)(j:_)(_:x=.str i)(_:y=.str j)(_:Q (.bl (!(!(Builtin.Str.occurrences j i 0 j.length 1).isEmpty))) H)
theorem Xo:OpR X (compareOp .NotIn) Acl:=by intro pins s σ H x y v u Q I a b h;obtain⟨i,j,rfl,rfl,q⟩:=h;obtain⟨t,rfl⟩:=a;obtain⟨t',rfl⟩:=b;exact notIn_str (Dr I q U)
theorem OpR.or{b:R2}(h:OpR X f r)(h':OpR X f b):OpR X f (λx y H Q=>r x y H Q\/b x y H Q):=by
 intro pins s σ H x y v u Q I a c q;rcases q with q|q
 ·exact h pins s σ H x y v u Q I a c q
 ·exact h' pins s σ H x y v u Q I a c q
theorem Av(b:Expr)(h:op≠.In:=by decide)(h2:op≠.NotIn:=by decide):behindInMarks op b=false:=by
 have a:(op == CmpOp.In)=false:=AD
 have e2:(op == CmpOp.NotIn)=false:=AD
 cases b<;>simp[behindInMarks,a,e2]
theorem Jv(i:OpR X (compareOp op) r)(m:PE X a ta)(d:PE X b tb)(f:behindInMarks op b=false):PE X (.Compare a [op] [b] pos) (tOp r ta tb):=by intro pins s σ H Q I h;exact wpAny_Compare1 (AsN m d I h λv u j x y H2 c e l q=>i pins j σ H2 x y v u Q c e l q) f
inductive Aqr (Q:(Bool->Hp->Prop))(x:V)(H':Hp):Prop
|mk(k:_)(_:x=.bl k)(_:Q k H')
def AuX (t:TE)(σ:St)(H:Hp)(Q:(Bool->Hp->Prop)):Prop:=t σ H (Aqr Q)
theorem Ai(p:OpR X (compareOp op) r)(C:PE X a ta)(f:PE X b tb)(n:behindInMarks op b=false):PT X (.Compare a [op] [b] pos) (AuX (tOp r ta tb)):=by
 intro pins s σ H Q I h;refine wpAny_isTrue_Compare1 (thn (C pins s σ H _ I h) λv l ⟨x,H1,q,m,o⟩=>thn (f pins l σ H1 _ q o) λu w ⟨y,H2,d,r2,j⟩ =>
  thn (p pins w σ H2 x y v u _ d m r2 j) λc D ⟨z,H3,i,B,k,e,A⟩=>?_) n;subst e;cases B;exact yA ⟨H3,i,A⟩
def AsP (K:NO)(x:V)(H:Hp)(k:Bool):Prop:=
 match x with
 | .non=>k=false
 | .bl b=>k=b
 | .int i=>k=(i != 0)
 | .str y=>y.length<=sizeLine/\k=((y.length:Int) != 0)
 | .byt y=>y.size<=sizeLine/\k=((y.size:Int) != 0)
 | .ref p=>(∃xs,SqL K H p xs/\k=!xs.isEmpty)\/(∃xs,SqT K H p xs/\k=!xs.isEmpty)\/∃kvs,H p=some (.dK kvs)/\k=!kvs.isEmpty
 |_=>False
theorem Ajd{kvs:List (κ×V)}{vs:List (κ×N0)}(r:KV kvs vs):(!vs.isEmpty)=!kvs.isEmpty:=by cases r<;>rfl
theorem Acm{its:NX}(r:Vals xs its):(!its.toArray.isEmpty)=!xs.isEmpty:=by cases r<;>simp
theorem Acn:(sizeLine:Nat)<2 ^ 63:=by rw[z7];decide
theorem AsQ:AwO X (λx H Q=>∃k,AsP X.K x H k/\Q k H):=by
 intro pins s σ H x v Q I d h;obtain⟨k,e,q⟩:=h;have o:=z7;cases x with
 |non =>
  cases d;have a:=e;subst a;exact truthy_none ⟨H,I,q⟩
 |bl b =>
  cases d;have a:=e;subst a;exact yA ⟨H,I,q⟩
 |int i =>
  obtain⟨t,rfl⟩:=d;have a:=e;subst a;exact PySem.P.truthy_int ⟨H,I,q⟩
 |str y =>
  obtain⟨t,rfl⟩:=d;obtain⟨n,a⟩:y.length<=sizeLine/\k=((y.length:Int) != 0):=e;subst a;exact PySem.P.truthy_str AA ⟨H,I.tok _,q⟩
 |byt y =>
  obtain⟨t,rfl⟩:=d;obtain⟨n,a⟩:y.size<=sizeLine/\k=((y.size:Int) != 0):=e;subst a;exact W.truthy_bytes AA ⟨H,I.tok _,q⟩
 |ref p =>
  cases d;have a:=e;rcases a with ⟨xs,f,a⟩|⟨xs,f,a⟩|⟨kvs,f,a⟩
  ·subst a;obtain⟨its,r,pl,j⟩:=I.list f;have c:=r.length;exact wpAny_truthy_list pl.isList (by simp only [Ayt];omega) ⟨H,I.tok _,by rw[Acm r];exact q⟩
  ·subst a;obtain⟨its,r,pl,j⟩:=I.tuple f;have c:=r.length;exact truthy_tuple pl (by simp only [Ayt];omega) ⟨H,I.tok _,by rw[Acm r];exact q⟩
  ·subst a;obtain⟨j,l,vs,r,m⟩:kvs.length<=sizeLine/\(p == sysModules)=false/\∃vs,KV kvs vs/\s.heap.DictOf (Ku X.prog X.w) p vs:=I.hok p _ f;have c:=Paired.length r;exact wpAny_truthy_dict l m AA ⟨H,I.tok _,by rw[Ajd r];exact q⟩
 |_=>exact(e).elim
theorem Anh(i:PE X a ta)(e:∀whole,isTrue a X.env whole=(do let v <-whole;standAt a.pos;holding [v] (truthy v))) :
  PT X a (λσ H Q=>ta σ H λx H'=>∃k,AsP X.K x H' k/\Q k H'):=by
 intro pins s σ H Q I h;exact isTrue_plain (thn (i pins s σ H _ I h) λv b ⟨x,H1,f,c,d⟩=>AsQ pins b σ H1 x v Q f c d) (e _)
inductive AfI (x:V)(y:V)(H:Hp)(Q:VK):Prop
|mk(i:_)(j:_)(_:x=.str i)(_:y=.str j)(_:i.length+j.length<=sizeLine)(_:Q (.str (i++j)) H)
theorem Am:OpR X (binaryOp .Add) AfI:=by intro pins s σ H x y v u Q I a c h;obtain⟨i,j,rfl,rfl,b,q⟩:=h;obtain⟨t,rfl⟩:=a;obtain⟨t',rfl⟩:=c;exact add_str (λt' tk=>⟨.str (i++j),H,I.tok _,⟨_,U⟩,q⟩) b
theorem vals1{x:V}(r:Vals [x] us):∃u,us=[u]/\RelV x u:=by
 cases r with
 |cons a r2=>cases r2;exact⟨_,U,a⟩
inductive Aje (xs:LI)(H:Hp)(Q:VK):Prop
|mk(i:_)(_:xs=[.int i])(_:Q (.int (if i<0 then -i else i)) H)
theorem Ani:Hw X (.builtin "abs") Aje:=by intro pins s σ H xs us Q I r h;obtain⟨i,rfl,q⟩:=h;obtain⟨u,rfl,t,rfl⟩:=vals1 r;exact call_abs_int λu tk=>⟨.int (if i<0 then -i else i),H,I.tok _,⟨_,U⟩,q⟩
theorem ZD:Hw X (.type "int") (λxs H Q=>(∃i,xs=[.int i]/\Q (.int i) H)\/∃k,xs=[.bl k]/\Q (.int (if k then 1 else 0)) H):=by
 intro pins s σ H xs us Q I r h;rcases h with ⟨i,rfl,q⟩|⟨k,rfl,q⟩
 ·obtain⟨u,rfl,t,rfl⟩:=vals1 r;exact call_int_int ⟨.int i,H,I,⟨_,U⟩,q⟩
 ·obtain⟨u,rfl,a⟩:=vals1 r;cases a;exact call_int_bool ⟨.int (if k then 1 else 0),H,I.tok _,⟨_,U⟩,q⟩
inductive Tg (xs:LI)(H:Hp)(Q:VK):Prop
|mk(i:_)(_:xs=[.int i])(_:i.natAbs.log2<1920)(_:Q (.str (toString i)) H)
theorem Dy:Hw X (.type "str") Tg:=by intro pins s σ H xs us Q I r h;obtain⟨i,rfl,a,q⟩:=h;obtain⟨u,rfl,t,rfl⟩:=vals1 r;exact PySem.P.str_of_int a ⟨.str _,H,I.tok _,⟨_,U⟩,q⟩
end
structure Ajf (h:Heap)(x dx C:Nn)(mA:Str->Na):Prop where
 obj:h.get? x=some (W.instObj C dx)
 ns:h.Ns1 dx mA
 ne:dx≠x
theorem Al7(n:h.Ns1 dx mA):∃c,h.get? dx=some c/\∀name,W.lookIn name c=some (mA name):=by
 obtain⟨o,es,m,i,j,hk,_,f⟩:=n;refine⟨o,i,λname=>?_⟩;have e:=f name;unfold nsFind findBy at e;rw[<-Array.find?_toList]at e;unfold W.lookIn;rw[j]
 try dsimp only
 split
 ·rename_i y q;rw[q]at e;exact congrArg some e
 ·rename_i q;rw[q]at e;have a:es.toList.any (·.refKey)=false:=by
   rw[Az7];intro y l;obtain⟨z,t,b⟩:=hk y (Array.mem_toList_iff.mp l);simp[DictEntry.refKey,b]
  have d:¬es.toList.any (·.refKey)=true:=by rw[a];exact Ayn
  rw[yE d];exact congrArg some e
theorem Ajf.look{x:Nn}(I:Ajf h x dx C mA):∃a,W.InstAt h x (W.instObj C dx) C (some a)/\∀name,W.lookIn name a=some (mA name):=
 let ⟨a,ho,hl⟩:=Al7 I.ns
 ⟨a,⟨I.obj,U,U,ho⟩,hl⟩
section
variable {K:NO}{x f:Nn}{v:N0}
theorem get_map{a:Bool}{Q:NU}(X:K.In s.heap)(I:Ajf s.heap x dx C mA)(c:W.plainGet K C name=true)(e:W.hasDictIn K C=true)
  (i:W.findIn K (.ref C) name=some none) (f:mA name=some v) (b:W.handedIn v=true) (h:Q v {s with toks:=s.toks+1}) :
  wpAny (model prog w) A (getAttr (.ref x) name a) Q E s:=by
 obtain⟨j,J,d⟩:=I.look;exact W.get_value X J (W.plainGet_of c).1 (W.findObj_own e i U (by rw[d,f])) b h
theorem Anj{Q:N0×NX->Nw->Prop}(X:K.In s.heap)(I:Ajf s.heap x dx C mA)(a:W.plainGet K C name=true)
  (c:W.findIn K (.ref C) name=some (some (.ref f))) (b:W.isFn K (.ref f)=true) (i:mA name=none) (h:Q (.ref f,[.ref x]) s) :
  wpAny (model prog w) A (getMethod (.ref x) name pl) Q E s:=by
 obtain⟨e,J,d⟩:=I.look;exact W.method_fn X J (W.plainGet_of a).1 (W.plainGet_of a).2 c (beq_iff_eq.mp b) (by show(W.lookIn name e).map (·.isSome)=some false;rw[d,i];rfl) h
theorem Aqs(X:K.In s.heap)(I:Ajf s.heap x dx C mA)
  (m:W.findIn K (.ref C) "__setattr__"=some (some (.builtin "object.__setattr__"))) (o:W.plainOver K C=true) (j:W.takerIn K C name=some none) (q:W.hasDictIn K C=true)
  (hw:PySem.Within mA ns) (hsz:ns.length<=sizeLine)
  (h:∀h',Ajf h' x dx C (λy=>if y=name then some v else mA y)->Heap.SameBut dx s.heap h'->Q () {s with heap:=h',toks:=s.toks+2}) :
  wpAny (model prog w) A (setAttr (.ref x) name v) Q E s:=by
 obtain⟨r,J,z⟩:=I.look;refine W.set_plain X J m (W.osa_open X J o j λb=>?_);obtain⟨cd,hc,e⟩:=W.any_some q;have p:=I.obj;refine zA (zE (zA (zA (wpAny_loadPart p (zA (W.Looks.here (W.looks_clsIn X hc) ?_))))));rw[e];refine zE (zA (zE (zA ?_)));refine wpAny_nsSet1 I.ns λh' a c=>?_;obtain⟨u,l,n,f,d,i⟩:=a.count (PySem.Within.cons name v hw);refine zA (wpAny_lookBehind f (by rw[d];exact pastItsLine_dict (Ayh i AD)) ?_);exact zE (h _ ⟨(c.2 _ (yL I.ne)).trans I.obj,a,I.ne⟩ c)
theorem Ank{R:Result->Nw->Prop}{vs:NX}(X:K.In s.heap)(c:W.makesIn K C=true)
  (hi:W.findIn K (.ref C) "__init__"=some (some (.ref f))) (b:W.typeIn K (.ref f)=some (.type "function"))
  (h:codeAny (model prog w) (A.under (.builtin "type.__call__" ⟨.ref C::vs,kw⟩)) (.call (.ref f) ⟨.ref (s.heap.objs.size+1)::vs,kw⟩) (W.InitBack (s.heap.objs.size+1) R)
   {s with heap:=(s.heap.push W.emptyDict).push (W.instObj C s.heap.objs.size)}) :
  codeAny (model prog w) A (.call (.ref C) ⟨vs,kw⟩) R s:=by
 exact W.make_core (W.makes_of X c) (W.looks_findIn X hi) (λa=>W.bind_fn X a b) (.inl U) h
end
def O1 (f:Str)(v:V):List (Str×V)->List (Str×V)
 |[]=>[(f,v)]
 | (g,x)::r=>if g=f then (g,v)::r else (g,x)::O1 f v r
theorem Aa3(f g:Str)(v:V):∀fs:List (Str×V),(O1 f v fs).lookup g=if g=f then some v else fs.lookup g
 |[]=>by
  show List.lookup g [(f,v)]=_;by_cases h:g=f
  ·simp_all
  ·simp_all
 | (k,x)::r=>by
  have b:=Aa3 f g v r;rw[show O1 f v ((k,x)::r)=(if k=f then (k,v)::r else (k,x)::O1 f v r) from rfl];by_cases hk:k=f
  ·rw[yF hk];by_cases h:g=k
   ·simp_all
   ·have a:=zZ.mpr h;simp only [List.lookup,a,yE (λe:g=f=>h (e.trans hk.symm))]
  ·rw[yE hk];by_cases h:g=k
   ·simp_all
   ·have a:=zZ.mpr h;simp only [List.lookup,a];exact b
theorem ZF(f:Str)(v:V):∀fs:List (Str×V),f∈(O1 f v fs).map (·.1)/\∀g,g∈fs.map (·.1)->g∈(O1 f v fs).map (·.1)
 |[]=>⟨by simp[O1],λg h=>by simp at h⟩
 | (k,x)::r=>by
  obtain⟨i1,i2⟩:=ZF f v r;rw[show O1 f v ((k,x)::r)=(if k=f then (k,v)::r else (k,x)::O1 f v r) from rfl];grind
theorem Aa4(f:Str)(v:V):∀fs:List (Str×V),(O1 f v fs).length<=fs.length+1
 |[]=>by simp[O1]
 | (k,x)::r=>by
  have a:=Aa4 f v r;rw[show O1 f v ((k,x)::r)=(if k=f then (k,v)::r else (k,x)::O1 f v r) from rfl];grind
theorem Z9.some_of{o:Na}(r:Z9 (some v) o):∃u,o=some u/\RelV v u:=by
 cases o with
 |none=>exact(r).elim
 |some u=>exact⟨u,U,r⟩
theorem Z9.none_of{o:Na}(r:Z9 none o):o=none:=by
 cases o with
 |none=>rfl
 |some u=>exact(show False from r).elim
theorem Al8(r:RelV v u):W.handedIn u=true:=by
 cases v with
 |non=>cases (r);rfl
 |bl b=>cases (r);rfl
 |int i=>obtain⟨t,e⟩:=(r);cases e;rfl
 |str x=>obtain⟨t,e⟩:=(r);cases e;rfl
 |byt b=>obtain⟨t,e⟩:=(r);cases e;rfl
 |flt b=>obtain⟨t,e⟩:=(r);cases e;rfl
 |ref a=>cases (r);rfl
 |ty n=>cases (r);rfl
section
variable {fs fs':List (Str×V)}
theorem AbQ(b:HOk P w H h)(e:H a=some (.ins C dx fs)):∃mA,Ajf h a dx C mA/\(∀f,Z9 (fs.lookup f) (mA f))/\PySem.Within mA (fs.map (·.1))/\fs.length<=1000/\H dx=some (.own a):=by obtain⟨d,z,c,i,mA,n,r,q⟩:=(b a _ e);exact⟨mA,⟨i,n,c⟩,r,q,z,d⟩
end
structure Cls (K:NO)(C:Nn):Prop where
 pg:W.plainGet K C Str.empty=true
 hd:W.hasDictIn K C=true
 po:W.plainOver K C=true
 sa:W.findIn K (.ref C) "__setattr__"=some (some (.builtin "object.__setattr__"))
theorem Cls.get{K:NO}(c:Cls K C)(f:Str):W.plainGet K C f=true:=c.pg
def Ck (K:NO)(C:Nn)(f:Str):Prop:=W.findIn K (.ref C) f=some none
theorem Ck.taker{K:NO}{f:Str}(n:Ck K C f):W.takerIn K C f=some none:=by unfold W.takerIn;rw[show W.findIn K (.ref C) f=some none from n];rfl
structure Meth (K:NO)(C:Nn)(m:Str)(f:Nn):Prop where
 at_:W.findIn K (.ref C) m=some (some (.ref f))
 fn:W.isFn K (.ref f)=true
 kp:W.keepIn K (.ref f)=true
section
variable {fs:List (Str×V)}{f:Str}
theorem Aco{b:Bool}{Q:NU}(I:Inv X pins σ H s)(e:H a=some (.ins C dx fs))(c:Cls X.K C)(n:Ck X.K C f)(l:fs.lookup f=some v)
  (h:∀u s',Inv X pins σ H s'->RelV v u->Q u s'):wpAny (model X.prog X.w) A (getAttr (.ref a) f b) Q E s:=by
 obtain⟨mA,O,r,_,_,_⟩:=AbQ I.hok e;obtain⟨u,i,d⟩:=Z9.some_of (by rw[<-l];exact r f);exact get_map I.kIn O (c.get f) c.hd n i (Al8 d) (h u _ (I.tok _) d)
theorem Li{g:Nn}{Q:N0×NX->Nw->Prop}(I:Inv X pins σ H s)(e:H a=some (.ins C dx fs))(c:Cls X.K C)(k:Meth X.K C m g)(l:fs.lookup m=none)
  (h:Q (.ref g,[.ref a]) s):wpAny (model X.prog X.w) A (getMethod (.ref a) m pl) Q E s:=by
 obtain⟨mA,O,r,_,_,_⟩:=AbQ I.hok e;have hn:=Z9.none_of (by rw[<-l];exact r m);exact Anj I.kIn O (c.get m) k.at_ k.fn hn h
theorem Acp(I:Inv X pins σ H s)(e:H a=some (.ins C dx fs))(c:Cls X.K C)(n:Ck X.K C f)(B:fs.length<1000)(v:RelV y u)
  (h:∀s',Inv X pins σ (upd H a (.ins C dx (O1 f y fs))) s'->Q () s'):wpAny (model X.prog X.w) A (setAttr (.ref a) f u) Q E s:=by
 obtain⟨mA,O,r,wi,_,i⟩:=AbQ I.hok e;have m:(fs.map (·.1)).length<=sizeLine:=by rw[AxR,z7];lia
 refine Aqs I.kIn O c.sa c.po n.taker c.hd wi m λh' d x=>h _ ?_;have p:∃o,h'.get? dx=some o:=let ⟨o,_,_,e',_⟩:=d.ns;⟨o,e'⟩
 refine I.write (by rw[e];exact True.intro) (.inr i) (λb q j z=>(x.2 b j).trans z) p ?_;refine⟨by rw[Ao O.ne];exact i,?_,O.ne,d.obj,_,d.ns,λg=>?_,λg l=>?_⟩
 ·have:= Aa4 f y fs;lia
 ·rw[Aa3];by_cases q:g=f
  ·rw[yF q,yF q];exact v
  ·rw[yE q,yE q];exact r g
 ·by_cases q:g=f
  ·rw[q];exact(ZF f y fs).1
  ·refine(ZF f y fs).2 g (wi g λz=>l ?_);show(if g=f then some u else mA g)=none;rw[yE q];exact z
theorem Inv.made(I:Inv X pins σ H s):Inv X pins σ (upd (upd H s.heap.objs.size (.own (s.heap.objs.size+1))) (s.heap.objs.size+1) (.ins C s.heap.objs.size []))
  {s with heap:=(s.heap.push W.emptyDict).push (W.instObj C s.heap.objs.size)}:=by
 have c:(s.heap.push W.emptyDict).get? s.heap.objs.size=some W.emptyDict:=zD s.heap U;have e2:((s.heap.push W.emptyDict).push (W.instObj C s.heap.objs.size)).get? (s.heap.objs.size+1)=some (W.instObj C s.heap.objs.size):=by
  have:= zD (s.heap.push W.emptyDict) (o:=W.instObj C s.heap.objs.size) U
  rwa [yO]at this
 have d:(s.heap.push W.emptyDict).Ns s.heap.objs.size (λ_=>none):=⟨W.emptyDict,#[],_,c,U,(λe f=>yG f AB),λ_=>rfl⟩;have h:=I.laid (o:=.own (s.heap.objs.size+1)) (t':=s.toks) (λb u q=>zB _ q) (AxU _) ⟨_,c⟩;refine h.laid (λb u q=>zB _ q) (AyV (yO _ _)) ?_;have a:s.heap.objs.size≠s.heap.objs.size+1:=Aye (AyF _);refine⟨by rw[Ao a,Ae],Ayf _,a,e2,λ_=>none,(Heap.Ns1.of_empty d).at λo q=>zB _ q,λ_=>True.intro,λy i=>yG rfl i⟩
theorem Aqt{env:Env}{f:Str}{Q:NU}(a:attributeBase e f env (eval e env)=eval e env)
  (h:wpAny (model prog w) A (eval e env) (λo s₁=>wpAny (model prog w) A (getAttr o f true) Q E s₁) E s):wpAny (model prog w) A (eval (.Attribute e f pos) env) Q E s:=
 Attribute_any_ h (by rw[arm_eval_Attribute,a])
end
inductive AsR (K:NO)(f:Str)(Q:VK)(x:V)(H1:Hp):Prop
|mk(a:_)(C:_)(dx:_)(fs:_)(v:_)(_:x=.ref a)(_:H1 a=some (.ins C dx fs))(_:Cls K C)(_:Ck K C f)(_:fs.lookup f=some v)(_:Q v H1)
def AuY (K:NO)(ta:TE)(f:Str)(σ:St)(H:Hp)(Q:VK):Prop:=ta σ H (AsR K f Q)
inductive AsS (K:NO)(f:Str)(D:Ends)(σ:St)(y:V)(x:V)(H2:Hp):Prop
|mk(a:_)(C:_)(dx:_)(fs:_)(_:x=.ref a)(_:H2 a=some (.ins C dx fs))(_:Cls K C)(_:Ck K C f)(_:fs.length<1000)(_:D.nx σ (upd H2 a (.ins C dx (O1 f y fs))))
abbrev AsT (K:NO)(ta:TE)(f:Str)(D:Ends)(σ:St)(y:V)(H1:Hp):Prop:=ta σ H1 (AsS K f D σ y)
def AuZ (K:NO)(ta:TE)(tv:TE)(f:Str)(D:Ends)(σ:St)(H:Hp):Prop:=tv σ H (AsT K ta f D σ)
def AsU (X:Cx)(op:Operator)(rd:V->V->Hp->VK->Prop):Prop:=
 ∀(pins:NR)(s:Nw)(σ:St)(H:Hp)(x y:V)(u v:N0)(Q:VK),Inv X pins σ H s->RelV x u->RelV y v->rd x y H Q->wpAny (model X.prog X.w) X.A (inplaceOp op u v) (EP X pins σ Q) X.xe s
inductive Al9 (K:NO)(tv:TE)(rd:V->V->Hp->VK->Prop)(f:Str)(D:Ends)(σ:St)(x:V)(H1:Hp):Prop
|mk(a:_)(C:_)(dx:_)(fs:_)(v:_)(_:x=.ref a)(_:H1 a=some (.ins C dx fs))(_:Cls K C)(_:Ck K C f)(_:fs.lookup f=some v)(_:tv σ H1 λy H2=>rd v y H2 λz H3=>∃dx' fs',H3 a=some (.ins C dx' fs')/\fs'.length<1000/\D.nx σ (upd H3 a (.ins C dx' (O1 f z fs'))))
def Akq (K:NO)(ta:TE)(tv:TE)(rd:V->V->Hp->VK->Prop)(f:Str)(D:Ends)(σ:St)(H:Hp):Prop:=ta σ H (Al9 K tv rd f D σ)
section
variable {o value:Expr}{f:Str}{tpos:Pos}{tv:TE}
theorem AsV(m:PE X e ta)(d:attributeBase e f X.env (eval e X.env)=eval e X.env):PE X (.Attribute e f pos) (AuY X.K ta f):=by intro pins s σ H Q I h;refine Aqt d (thn (m pins s σ H _ I h) λu r ⟨x,H1,o,i,a,C,dx,fs,v,ex,ea,c,n,l,q⟩=>?_);subst ex;obtain rfl:u=Value.ref a:=i;exact Aco o ea c n l λp w b j=>⟨v,H1,b,j,q⟩
theorem AsW(z:PE X o ta)(p:PE X value tv)(r:swapsWith value (some (.Attribute o f pos')) pos.line X.env=pure false):PS X (.Assign [.Attribute o f pos'] value pos) (AuZ X.K ta tv f):=by intro pins s σ H D I h;refine plainObj_wpAny_Assign_Attribute (thn (p pins s σ H _ I h) λu m ⟨y,H1,v,w,q⟩=>thn (z pins m σ H1 _ v q) λi B ⟨x,H2,b,d,a,C,dx,fs,ex,ea,c,n,l,j⟩=>?_) r;subst ex;obtain rfl:i=Value.ref a:=d;exact Acp b ea c n l w λA e=>⟨σ,_,e,j⟩
theorem AlA{op:Operator}{e:V->V->Hp->VK->Prop}(J:PE X o ta)(r:PE X value tv)(d:AsU X op e):PS X (.AugAssign (.Attribute o f tpos) op value pos) (Akq X.K ta tv e f):=by intro pins s σ H D I h;refine wpAny_AugAssign_AttributeAny (thn (J pins s σ H _ I h) λp Y ⟨x,H1,B,N,a,C,dx,fs,v,ex,ea,c,n,l,q⟩=>?_);subst ex;obtain rfl:p=Value.ref a:=N;refine Aco B ea c n l λu E i w=>thn (r pins E σ H1 _ i q) λA O ⟨y,H2,j,F,G⟩=>thn (d pins O σ H2 v y u A _ j w F G) λS W ⟨z,H3,Q,R,P,fs',b,m,M⟩=>?_;exact Acp Q b c n m R λT L=>⟨σ,_,L,M⟩
inductive AwQ (x:V)(y:V)(H:Hp)(Q:VK):Prop
|mk(i:_)(j:_)(_:x=.int i)(_:y=.int j)(_:Q (.int (i+j)) H)
theorem AsX:AsU X .Add AwQ:=by rintro pins s σ H x y u v Q I a b ⟨i,j,rfl,rfl,q⟩;obtain⟨t,rfl⟩:=(a);obtain⟨t',rfl⟩:=(b);exact PyProof.Rows.iadd_int ⟨.int (i+j),H,I.tok _,⟨_,U⟩,q⟩
end
section
variable {Q:NU}{c:N0}{b:Bool}
inductive ZG (K:NO) (H:Hp):V->N0->Prop where
 |non:ZG K H .non (.type "NoneType")
 |bl (x:Bool):ZG K H (.bl x) (.type "bool")
 |int (i:Int):ZG K H (.int i) (.type "int")
 |str (x:Str):ZG K H (.str x) (.type "str")
 |flt (x:UInt64):ZG K H (.flt x) (.type "float")
 |lst {a:Nn} {xs:LI} (e:H a=some (.lst xs)):ZG K H (.ref a) (.type "list")
 |frz {a:Nn} {o:Obj} {xs:LI} (e:H a=some (.frz o (.lst xs))):ZG K H (.ref a) (.type "list")
 |tup {a:Nn} {xs:LI} (e:H a=some (.tup xs)):ZG K H (.ref a) (.type "tuple")
 |dK {a:Nn} {kvs:List (Key×V)} (e:H a=some (.dK kvs)):ZG K H (.ref a) (.type "dict")
 |dT {a:Nn} {kvs:List (List Key×V)} (e:H a=some (.dT kvs)):ZG K H (.ref a) (.type "dict")
 |ins {a C dx:Nn} {fs:List (Str×V)} (e:H a=some (.ins C dx fs)) (cl:Cls K C) (ha:W.findIn K (.ref C) "__class__"=some (some (.builtin "object.__class__")))
   (hn:W.specialIn K (.builtin "object.__class__") "__get__"=some (some (.builtin "getset_descriptor.__get__"))) (htk:W.takesIn K (.builtin "object.__class__")=some true)
   (hm:W.mroIn K C (.type "object")=some true):ZG K H (.ref a) (.ref C)
theorem AeO{x:V}{t:N0}(I:Inv X pins σ H s)(d:RelV x u)(ty:ZG X.K H x t)(e:W.kitOne X.K t c=some b)(h:∀tk,Q (.bool b) {s with toks:=tk}) :
  wpAny (model X.prog X.w) A (call (.builtin "isinstance") [u,c]) Q E s:=by
 cases ty with
 |non=>cases (d);exact W.kia_one W.kitx_none I.kIn True.intro e (λz=>nomatch z) h
 |bl y=>cases (d);exact W.kia_one W.kitx_bool I.kIn True.intro e (λz=>nomatch z) h
 |int i=>obtain⟨t,q⟩:=(d);cases q;exact W.kia_one W.kitx_int I.kIn True.intro e (λz=>nomatch z) h
 |str y=>obtain⟨t,q⟩:=(d);cases q;exact W.kia_one W.kitx_str I.kIn True.intro e (λz=>nomatch z) h
 |flt y=>obtain⟨t,q⟩:=(d);cases q;exact W.kia_one W.kitx_float I.kIn True.intro e (λz=>nomatch z) h
 | @lst a xs ea =>
  cases (show u=Value.ref a from d);obtain⟨_,_,n,_,h1⟩:=(I.hok a _ ea);exact W.kia_one W.kitx_list I.kIn ⟨_,h1,U⟩ e (λz=>nomatch z) h
 | @frz a r xs ea =>
  cases (d);obtain⟨_,_,_,n,_,h1⟩:=(I.hok a _ ea);exact W.kia_one W.kitx_list I.kIn ⟨_,h1,U⟩ e (λz=>nomatch z) h
 | @tup a xs ea =>
  cases (show u=Value.ref a from d);obtain⟨_,_,_,p⟩:=(I.hok a _ ea);obtain⟨o,h1,h2,_⟩:=p;exact W.kia_one W.kitx_tuple I.kIn ⟨o,h1,h2⟩ e (λz=>nomatch z) h
 | @dK a kvs ea =>
  cases (show u=Value.ref a from d);obtain⟨_,_,vs,_,p⟩:=(I.hok a _ ea);obtain⟨o,es,l,h1,h2,_⟩:=p;exact W.kia_one W.kitx_dict I.kIn ⟨o,h1,h2.1⟩ e (λz=>nomatch z) h
 | @dT a kvs ea =>
  cases (show u=Value.ref a from d);obtain⟨_,_,xs,_,o,es,l,h1,h2,_⟩:=(I.hok a _ ea);exact W.kia_one W.kitx_dict I.kIn ⟨o,h1,h2.1⟩ e (λz=>nomatch z) h
 | @ins a C dx fs ea cl m hn f j =>
  cases (d);obtain⟨mA,O,_⟩:=AbQ I.hok ea;obtain⟨v,J,_⟩:=O.look;exact W.kia_one (W.kitx_own (cl.get _) cl.hd m hn f j) I.kIn J e (λz=>nomatch z) h
end
structure FT (k:Nat)(A:Around):Prop where
 hd:A.handled=none
 dp:A.depth+3*k+5<recursionLimit
 un:A.units+16*k+200<cLine
theorem FT.mono{k:Nat}(r:FT k A)(h:j<=k):FT j A:=⟨r.hd,by have:=r.dp;omega,by have:=r.un;omega⟩
theorem FT.deeper{k:Nat}(r:FT (k+1) A)(env:Env):FT k (A.deeper env):=
 ⟨r.hd,by have:= r.dp;show A.depth+1+3*k+5<_;lia,by have:= r.un;show A.units+3+16*k+200<_;lia⟩
theorem Ajg:(A.under (.builtin "type.__call__" ⟨.ref C::us,kw⟩)).depth=A.depth+1:=by
 first|rfl|grind
theorem Ajh:(A.under (.builtin "type.__call__" ⟨.ref C::us,kw⟩)).units=A.units+1:=by
 first|rfl|grind
theorem FT.make{k:Nat}(r:FT (k+1) A)(C:Nn)(us:NX)(kw:List (Str×N0)):FT k (A.under (.builtin "type.__call__" ⟨.ref C::us,kw⟩)):=
 ⟨r.hd,by have:= r.dp;rw[Ajg];lia,by have:= r.un;rw[Ajh];lia⟩
theorem FT.depth{k:Nat}(r:FT k A):A.depth<recursionLimit:=by have:=r.dp;omega
theorem FT.units{k:Nat}(r:FT k A):A.units+64<cLine:=by have:=r.un;omega
theorem FT.AsY{k:Nat}(r:FT k A):A.units<cLine:=by have:=r.un;omega
def Aqu:TA:=λ_ H Q=>Q [] H
abbrev Aqv (Q:(LI->Hp->Prop))(x:V)(xs:LI)(H2:Hp):Prop:=Q (x::xs) H2
abbrev Aqw (tr:TA)(σ:St)(Q:(LI->Hp->Prop))(x:V)(H1:Hp):Prop:=tr σ H1 (Aqv Q x)
def Anl (ta:TE)(tr:TA)(σ:St)(H:Hp)(Q:(LI->Hp->Prop)):Prop:=ta σ H (Aqw tr σ Q)
section
variable {t:TA}
theorem Ab:PA X [] Aqu:=λ_ _ _ _ H Q I h=>Calls.spliced_nil ⟨[],H,I,.nil,h⟩
theorem Aa(m:PE X e te)(l:PA X es t)(i:starEach (e::es) X.env=(false,eval e X.env)::starEach es X.env:=by rfl):PA X (e::es) (Anl te t):=by intro pos pins s σ H Q I h;rw[i];show wpAny _ _ (spliced ((false,eval e X.env)::backTo pos (starEach es X.env))) _ _ s;refine Calls.spliced_cons (thn (m pins s σ H _ I h) λu c ⟨x,H1,j,d,f⟩=>?_);exact thn (l pos pins c σ H1 _ j f) λus n ⟨xs,H2,a,r2,b⟩=>⟨x::xs,H2,a,.cons d r2,b⟩
inductive Aji (Q:VK)(xs:LI)(H1:Hp):Prop
|mk(_:xs.length<=sizeLine)(_:∀p,H1 p=none->Q (.ref p) (upd H1 p (.tup xs)))
def AwR (t:TA)(σ:St)(H:Hp)(Q:VK):Prop:=t σ H (Aji Q)
inductive Anm (Q:VK)(xs:LI)(H1:Hp):Prop
|mk(_:xs.length<=sizeLine)(_:∀p,H1 p=none->Q (.ref p) (upd H1 p (.lst xs)))
def AwS (t:TA)(σ:St)(H:Hp)(Q:VK):Prop:=t σ H (Anm Q)
theorem CT{x1}(h:PA X es t):PE X (.Tuple es x1 pos) (AwR t):=by intro pins s σ H Q I d;refine wpAny_Tuple_spliced (thn (h pos pins s σ H _ I d) λus a ⟨xs,H1,c,r,z,q⟩=>⟨by rw[<-r.length];exact z,?_⟩);have f:=c.hok.fresh (AxU _);refine⟨.ref a.heap.objs.size,upd H1 a.heap.objs.size (.tup xs),c.laid (λb u e=>zB _ e) (AxU _) ?_,U,q _ f⟩;exact⟨z,us,r,⟨_,zD _ U,U,_,U⟩⟩
theorem Cm(h:PA X es t):PE X (.List es pos) (AwS t):=by intro pins s σ H Q I d;refine wpAny_List_spliced (thn (h pos pins s σ H _ I d) λus a ⟨xs,H1,c,r,z,q⟩=>⟨by rw[<-r.length];exact z,?_⟩);have f:=c.hok.fresh (AxU _);refine⟨.ref a.heap.objs.size,upd H1 a.heap.objs.size (.lst xs),c.laid (λb u e=>zB _ e) (AxU _) ?_,U,q _ f⟩;exact⟨z,us,0,r,zD _ U⟩
end
abbrev Sp:=LI->Hp->VK->XK->Prop
abbrev CXT:=List Env->Hp->Nw->XK->N0->Nw->Prop
structure AdX (P:Program)(w:World)(K:NO)(mg:Str->Na)(base:Heap)(A:Around)(outer:List Env)(s:Nw)(H:Hp):Prop where
 frames:A.frames=some outer
 mod:Mod K mg base
 bs:∀b o,base.get? b=some o->s.heap.get? b=some o/\H b=none
 bsz:base.objs.size<=s.heap.objs.size
 Td:s.heap.FunFrames base outer
 frf:∀b∈frs outer,H b=none
 hok:HOk P w H s.heap
 bare:AllBare s.gens
def CE (outer:List Env)(P:Program)(w:World)(H:Hp)(s:Nw)(Q:VK)(u:N0)(s':Nw):Prop:=
 ∃v H',s'.os=s.os/\AllBare s'.gens/\Un (frs outer) [] H H' s.heap s'.heap/\HOk P w H' s'.heap/\RelV v u/\Q v H'
def CR (CX:CXT)(outer:List Env)(P:Program)(w:World)(H:Hp)(s:Nw)(Q:VK)(E:XK)(r:Result)(s':Nw):Prop:=
 match r with
 | .ok (.ret u)=>CE outer P w H s Q u s'
 | .ok _=>False
 | .error e=>CX outer H s E e s'
structure Bm (P:Program)(w:World)(K:NO)(mg:Str->Na)(base:Heap)(CX:CXT)(k:Nat)(f:Nn)(fd:No)(ps:NY)(sp:Sp):Prop where
 len:∀vs H Q E,sp vs H Q E->vs.length=ps.length
 run:∀(A:Around)(outer:List Env)(s:Nw)(H:Hp)(args:Args)(us:NX)(vs:LI)(Q:VK)(E:XK),FT k A->AdX P w K mg base A outer s H->BindsTo s fd args (ps.zip us)->Vals vs us->sp vs H Q E ->
  codeAny (model P w) A (.call (.ref f) args) (CR CX outer P w H s Q E) s
theorem Bm.mono{K:NO}{base:Heap}{k:Nat}{f:Nn}(F:Bm P w K mg base CX j f fd ps sp)(h:j<=k) :
  Bm P w K mg base CX k f fd ps sp:=⟨F.len,λA outer s H args us vs Q E a=>F.run A outer s H args us vs Q E (a.mono h)⟩
theorem Bm.imp{K:NO}{base:Heap}{k:Nat}{f:Nn}{sp':Sp}(F:Bm P w K mg base CX k f fd ps sp)
  (h:∀vs H Q E,sp' vs H Q E->sp vs H Q E):Bm P w K mg base CX k f fd ps sp':=
 ⟨λvs H Q E q=>F.len vs H Q E (h _ _ _ _ q),λA outer s H args us vs Q E e d a b c=>F.run A outer s H args us vs Q E e d a b (h _ _ _ _ c)⟩
theorem AdX.make{K:NO}{base:Heap}{outer:List Env}(e:AdX P w K mg base A outer s H)(C:Nn)(us:NX)(kw:List (Str×N0)) :
  AdX P w K mg base (A.under (.builtin "type.__call__" ⟨.ref C::us,kw⟩)) outer s H:=⟨by first|exact e.frames|grind,e.mod,e.bs,e.bsz,e.Td,e.frf,e.hok,e.bare⟩
theorem Inv.env0(I:Inv X pins σ H s):AdX X.prog X.w X.K X.mg X.base X.A X.stack s H:=
 ⟨I.ok.frames,I.ok.mod,I.bs,Ayh I.ok.bsz I.sz,I.stack,I.AbP,I.hok,I.bare⟩
theorem Inv.after{Q:VK}(I:Inv X pins σ H s)(h:CE X.stack X.prog X.w H s Q u s'):EP X pins σ Q u s':=by obtain⟨v,H',os,a,un,e,r,q⟩:=h;obtain⟨f,g,d,t,c⟩:=s';obtain rfl:c=s.os:=os;exact⟨v,H',I.call un e a (λb z=>yG z AB),r,q⟩
abbrev Aqx (sp:Sp)(dvs:LI)(E:XK)(Q:VK)(vs:LI)(H1:Hp):Prop:=sp (vs++dvs) H1 Q E
def Asl (sp:Sp)(dvs:LI)(E:XK)(t:TA)(σ:St)(H:Hp)(Q:VK):Prop:=t σ H (Aqx sp dvs E Q)
abbrev Aqy (sp:Sp)(dvs:LI)(E:XK)(Q:VK)(x:V)(vs:LI)(H2:Hp):Prop:=sp (x::(vs++dvs)) H2 Q E
inductive Aqz (C:Nn)(m:Str)(sp:Sp)(dvs:LI)(E:XK)(t:TA)(σ:St)(Q:VK)(x:V)(H1:Hp):Prop
|mk(a:_)(dx:_)(fs:_)(_:x=.ref a)(_:H1 a=some (.ins C dx fs))(_:fs.lookup m=none)(_:t σ H1 (Aqy sp dvs E Q x))
def Asm (C:Nn)(m:Str)(sp:Sp)(dvs:LI)(E:XK)(ta:TE)(t:TA)(σ:St)(H:Hp)(Q:VK):Prop:=ta σ H (Aqz C m sp dvs E t σ Q)
abbrev Aq0 (C:Nn)(sp:Sp)(dvs:LI)(E:XK)(Q:VK)(vs:LI)(H1:Hp):Prop:=∀x dx,H1 x=none->H1 dx=none->dx≠x ->
 sp (.ref x::(vs++dvs)) (upd (upd H1 dx (.own x)) x (.ins C dx [])) (λv H2=>v=.non/\Q (.ref x) H2) E
def Ava (C:Nn)(sp:Sp)(dvs:LI)(E:XK)(t:TA)(σ:St)(H:Hp)(Q:VK):Prop:=t σ H (Aq0 C sp dvs E Q)
def Binds(K:NO)(fd:No)(ps:NY)(ds:NX):Prop:=
 ∀(s:Nw)(us:NX),K.In s.heap->(us++ds).length=ps.length->BindsTo s fd ⟨us,[]⟩ (ps.zip (us++ds))
theorem Binds.all{K:NO}(h:∀us:NX,us.length=ps.length->bindArgs fd ⟨us,[]⟩=pure (ps.zip us)):Binds K fd ps []:=λs us _ a=>by
 rw[Ayr]at a ⊢;exact .of_eq (h us a)
def Passes(CX:CXT)(X:Cx)(E:XK):Prop:=∀(pins:NR)(σ:St)(H:Hp)(s:Nw)(e:N0)(s':Nw),Inv X pins σ H s->CX X.stack H s E e s'->X.xe e s'
section
variable {k:Nat}{f:Nn}{dvs:LI}{E:XK}{apos:Pos}{o:Expr}{t:TA}
theorem W7{Q:VK}(F:Bm X.prog X.w X.K X.mg X.base CX k f fd ps sp)(i:FT k X.A)(b:Binds X.K fd ps ds)(j:Vals dvs ds)(c:Passes CX X E)
  (I:Inv X pins σ H s) (r:Vals vs us) (h:sp (vs++dvs) H Q E):wpAny (model X.prog X.w) X.A (call (.ref f) us) (EP X pins σ Q) X.xe s:=by
 have r2:=r.append j;have d:(us++ds).length=ps.length:=by rw[<-r2.length];exact F.len _ _ _ _ h
 refine wpAny_call (codeAny_mono (F.run X.A X.stack s H ⟨us,[]⟩ (us++ds) (vs++dvs) Q E i I.env0 (b s us I.kIn d) r2 h) λr s' a=>?_);cases r with
 |error e=>exact c pins σ H s e s' I a
 |ok fl =>
  cases fl with
  |ret u=>exact I.after a
  |next=>exact yR a
  |brk=>exact yR a
  |cont=>exact yR a
theorem Aj(F:Bm X.prog X.w X.K X.mg X.base CX k f fd ps sp)(u:FT k X.A)(i:Gl X x)(m:X.mg x=some (.ref f))(hk:W.keepIn X.K (.ref f)=true)(d:Binds X.K fd ps ds)(l:Vals dvs ds)(o:Passes CX X E)
  (j:PA X (e::es) t) (a:(x == ("__debug__":Str))=false:=by decide) (n:starEach (e::es) X.env=(false,eval e X.env)::starEach es X.env:=by rfl) (b:(backTo pos (starEach es X.env)).any (·.1)=false:=by rfl) :
  PE X (.Call (.Name x p) (e::es) [] pos) (Asl sp dvs E t):=by
 intro pins s σ H Q I h;refine yP (Q5 I i m ?_ a);refine W.callWith_K I.ok.mod.kin hk (thn (j pos pins s σ H _ I h) λus v ⟨vs,H1,c,r,q⟩=>⟨c.kIn,?_⟩) n b;exact W7 F u d l o c r q
theorem El(y:PE X o ta)(c:Cls X.K C)(j:Meth X.K C m f)(F:Bm X.prog X.w X.K X.mg X.base CX k f fd ps sp)(M:FT k X.A)(v:Binds X.K fd ps ds)(L:Vals dvs ds)(z:Passes CX X E)(B:PA X (e::es) t)
  (b:starEach (e::es) X.env=(false,eval e X.env)::starEach es X.env:=by rfl) (d:(backTo pos (starEach es X.env)).any (·.1)=false:=by rfl)
  (p:eval (.Call (.Attribute o m apos) (e::es) [] pos) X.env=(do
   let ov <-eval o X.env
   standAt apos.atName
   let (f,first) <-holding [ov] (getMethod ov m pl)
   callWith pos f first (backTo pos (starEach (e::es) X.env)) (backToKw pos (keywordEach [] X.env))):=by rfl) :
  PE X (.Call (.Attribute o m apos) (e::es) [] pos) (Asm C m sp dvs E ta t):=by
 intro pins s σ H Q I h;refine W.methodCall_KW (thn (y pins s σ H _ I h) λu J ⟨x,H1,n,D,a,dx,fs,ex,ea,l,q⟩=>?_) p;subst ex;obtain rfl:u=Value.ref a:=D;refine Li n ea c j l ?_;refine W.callWith_K I.ok.mod.kin j.kp (thn (B pos pins J σ H1 _ n q) λus N ⟨vs,H2,i,r,G⟩=>⟨i.kIn,?_⟩) b d;exact W7 (vs:=.ref a::vs) F M v L z i (.cons U r) G
theorem Th(p:PE X o ta)(c:Cls X.K C)(d:Meth X.K C m f)(F:Bm X.prog X.w X.K X.mg X.base CX k f fd ps sp)(v:FT k X.A)(i:Binds X.K fd ps ds)(n:Vals dvs ds)(r:Passes CX X E)
  (e:eval (.Call (.Attribute o m apos) [] [] pos) X.env=(do
   let ov <-eval o X.env
   standAt apos.atName
   let (f,first) <-holding [ov] (getMethod ov m pl)
   callWith pos f first (backTo pos (starEach [] X.env)) (backToKw pos (keywordEach [] X.env))):=by rfl) :
  PE X (.Call (.Attribute o m apos) [] [] pos) (Asm C m sp dvs E ta Aqu):=by
 intro pins s σ H Q I h;refine W.methodCall_KW (thn (p pins s σ H _ I h) λu y ⟨x,H1,b,j,a,dx,fs,ex,ea,l,q⟩=>?_) e;subst ex;obtain rfl:u=Value.ref a:=j;refine Li b ea c d l ?_;exact W.callWith_K0 b.kIn d.kp (W7 (us:=[.ref a]) (vs:=[.ref a]) F v i n r b (.cons U .nil) q)
structure Mk (K:NO)(C f:Nn):Prop where
 makes:W.makesIn K C=true
 init:W.findIn K (.ref C) "__init__"=some (some (.ref f))
 fn:W.isFn K (.ref f)=true
 kp:W.keepIn K (.ref C)=true
theorem Ann{Q:VK}(M:Mk X.K C f)(F:Bm X.prog X.w X.K X.mg X.base CX k f fd ps sp)(p:FT (k+1) X.A)(d:Binds X.K fd ps ds)(n:Vals dvs ds)
  (j:Passes CX X E) (I:Inv X pins σ H s) (r:Vals vs us)
  (h:∀x dx,H x=none->H dx=none->dx≠x->sp (.ref x::(vs++dvs)) (upd (upd H dx (.own x)) x (.ins C dx [])) (λv H2=>v=.non/\Q (.ref x) H2) E) :
  wpAny (model X.prog X.w) X.A (call (.ref C) us) (EP X pins σ Q) X.xe s:=by
 have c:=h (s.heap.objs.size+1) s.heap.objs.size (I.hok.fresh (AyW _)) (I.hok.fresh (AxU _)) (Aye (AyF _));have b:=Inv.made (C:=C) I;have r2:Vals (V.ref (s.heap.objs.size+1)::(vs++dvs)) (Value.ref (s.heap.objs.size+1)::(us++ds)):=.cons U (r.append n);have o:(Value.ref (s.heap.objs.size+1)::us++ds).length=ps.length:=by
  have e:=r2.length;rw[F.len _ _ _ _ c]at e;exact e.symm
 refine wpAny_call (Ank I.kIn M.makes M.init (beq_iff_eq.mp M.fn) (codeAny_mono (F.run _ X.stack _ _ ⟨Value.ref (s.heap.objs.size+1)::us,[]⟩ (Value.ref (s.heap.objs.size+1)::(us++ds)) _ _ E (p.make C us [])
  (b.env0.make C us []) (d _ (Value.ref (s.heap.objs.size+1)::us) b.kIn o) r2 c) λr s' a=>?_));cases r with
 |error e=>exact j pins σ _ _ e s' b a
 |ok fl =>
  cases fl with
  |ret u =>
   obtain⟨v,H',i,m,q,l⟩:=b.after a;subst q;exact⟨m,⟨V.ref (s.heap.objs.size+1),H',i,U,l⟩⟩
  |next=>exact yR a
  |brk=>exact yR a
  |cont=>exact yR a
theorem Ez(M:Mk X.K C f)(F:Bm X.prog X.w X.K X.mg X.base CX k f fd ps sp)(u:FT (k+1) X.A)(i:Gl X x)(m:X.mg x=some (.ref C))(d:Binds X.K fd ps ds)(l:Vals dvs ds)(o:Passes CX X E)
  (j:PA X (e::es) t) (a:(x == ("__debug__":Str))=false:=by decide) (n:starEach (e::es) X.env=(false,eval e X.env)::starEach es X.env:=by rfl) (b:(backTo pos (starEach es X.env)).any (·.1)=false:=by rfl) :
  PE X (.Call (.Name x p) (e::es) [] pos) (Ava C sp dvs E t):=by
 intro pins s σ H Q I h;refine yP (Q5 I i m ?_ a);refine W.callWith_K I.ok.mod.kin M.kp (thn (j pos pins s σ H _ I h) λus v ⟨vs,H1,c,r,q⟩=>⟨c.kIn,?_⟩) n b;exact Ann M F u d l o c r q
end
structure Al (N P:NY)(sc:Scope):Prop where
 kind:sc.kind=.function
 co:sc.isCoroutine=false
 gen:sc.isGenerator=false
 nd:N.Nodup
 pre:N.take P.length=P
 par:∀x∈P,sc.names.lookup x=some .local\/sc.names.lookup x=some .cell
 AsZ:∀y∈sc.names,y.2≠.free
theorem AeP{kindOf:Str->Option NameKind}{x:Str}:∀{binds:List (Str×N0)} {m:Str->Na},(∀v,(x,v)∉binds)->bindL kindOf binds m x=m x
 |[],_,_=>rfl
 | (n,v)::r,m,h=>by
  unfold bindL;rw[AeP λw hw=>h w (AxY _ hw)];split
  ·have:x≠n:=by rintro rfl;exact h v AxW
   simp[this]
  ·rfl
theorem AeQ{kindOf:Str->Option NameKind}{x:Str}:∀{binds:List (Str×N0)} {m:Str->Na},(∀v,(x,v)∉binds)->bindC kindOf binds m x=m x
 |[],_,_=>rfl
 | (n,v)::r,m,h=>by
  unfold bindC;rw[AeQ λw hw=>h w (AxY _ hw)];split
  ·rfl
  ·have:x≠n:=by rintro rfl;exact h v AxW
   simp[this]
theorem AeR{kindOf:Str->Option NameKind}{x:Str}{v:N0}:∀{P:NY} {vs:NX} {i:Nat} {m:Str->Na},P.Nodup->P[i]?=some x->vs[i]?=some v->kindOf x=some .local ->
  bindL kindOf (P.zip vs) m x=some v
 |[],_,_,_,_,h,_,_=>by simp at h
 |_::_,[],_,_,_,_,h,_=>by simp at h
 |p::P,w::vs,0,m,nd,h1,h2,hk=>by
  simp at h1 h2;subst h1;subst h2;show bindL kindOf ((p,w)::P.zip vs) m p=_;unfold bindL;rw[AeP λv a=>(List.nodup_cons.mp nd).1 (Azh a).1,yF hk];simp
 |p::P,w::vs,i+1,m,nd,h1,h2,hk=>by
  show bindL kindOf ((p,w)::P.zip vs) m x=_;exact AeR (List.nodup_cons.mp nd).2 (by simpa using h1) (by simpa using h2) hk
theorem AeS{kindOf:Str->Option NameKind}{x:Str}{v:N0}:∀{P:NY} {vs:NX} {i:Nat} {m:Str->Na},P.Nodup->P[i]?=some x->vs[i]?=some v->kindOf x≠some .local ->
  bindC kindOf (P.zip vs) m x=some v
 |[],_,_,_,_,h,_,_=>by simp at h
 |_::_,[],_,_,_,_,h,_=>by simp at h
 |p::P,w::vs,0,m,nd,h1,h2,hk=>by
  simp at h1 h2;subst h1;subst h2;show bindC kindOf ((p,w)::P.zip vs) m p=_;unfold bindC;rw[AeQ λv a=>(List.nodup_cons.mp nd).1 (Azh a).1,yE hk];simp
 |p::P,w::vs,i+1,m,nd,h1,h2,hk=>by
  show bindC kindOf ((p,w)::P.zip vs) m x=_;exact AeS (List.nodup_cons.mp nd).2 (by simpa using h1) (by simpa using h2) hk
def start(N:NY)(vs:LI):St:=vs.map some++List.replicate (N.length-vs.length) none
def ZJ (CX:CXT)(P:Program)(w:World)(K:NO)(mg:Str->Na)(base:Heap)(N:NY)(qual:Str)(scope:Scope)(f:Nn)(cd:N0)(A:Around)(outer:List Env)(s:Nw)(H:Hp)(E:XK):Cx where
 prog:=P
 w:=w
 K:=K
 mg:=mg
 base:=base
 A:=A.deeper (envOfC qual scope s.heap.objs.size f cd)
 N:=N
 s₀:=s
 H₀:=H
 env:=envOfC qual scope s.heap.objs.size f cd
 outer:=outer
 stack:=envOfC qual scope s.heap.objs.size f cd::outer
 ex:=[]
 calm:=true
 fn:=λ_=>true
 pn:=[]
 xe:=λe s'=>wpAny (model P w) (A.deeper (envOfC qual scope s.heap.objs.size f cd)) (leaving (envOfC qual scope s.heap.objs.size f cd) e) (λ_ s''=>CX outer H s E e s'') (λe' s''=>CX outer H s E e' s'') s'
theorem Ah4(h:sc.names.lookup x=some .cell):∃c,(cellsFrom n sc.names []).lookup x=some c:=by have q:=W.cellsFrom_some sc.names n [] (.inl h);exact Option.isSome_iff_exists.mp q
theorem AeT{K:NO}{base:Heap}{f:Nn}{outer:List Env}{o:Nw}{E:XK}
  (S:Al N ps scope) (F:A.handled=none) (d:AdX P w K mg base A outer s H) (I:vs.length=ps.length) (r:Vals vs us)
  (x:InCallC s s.heap.objs.size (bindL (envOfC qual scope s.heap.objs.size f cd).kindOf (ps.zip us) λ_=>none) (cellsFrom (s.heap.objs.size+1) scope.names []) (bindC (envOfC qual scope s.heap.objs.size f cd).kindOf (ps.zip us) λ_=>none) o) :
  Inv (ZJ CX P w K mg base N qual scope f cd A outer s H E) [] (start N vs) H o:=by
 have G:ps.length<=N.length:=by have:= congrArg List.length S.pre;rw[Ayc]at this;lia
 obtain⟨h1,tk,rfl,hk⟩:=x.done;have j:∀b:Nn,b∉(ZJ CX P w K mg base N qual scope f cd A outer s H E).ex:=λb z=>yG (show b∈([]:NW) from z) AB;refine⟨⟨d.mod,S.kind,U,U,AxU _,λy z c h1 h2=>?_,λy n=>?_,λy c _ h=>?_,λ_=>F,Around.frames_deeper d.frames,.inr ⟨U,U⟩,λb z=>yG z (j b),d.bs,d.bsz,λb _ _=>j b,λb z=>yG z (j b),d.Td,d.frf⟩,
  rfl,d.bare,Un.kept hk,⟨_,x.toInCall.ns,λi y v h1 h2 h3=>?_⟩,λy c h=>⟨_,x.cell y c h⟩,d.hok.fresh (AxU _),λy c h=>?_,λp m=>yG (show p∈([]:NR) from m) AB,d.hok.kept hk,?_⟩
 ·exact name_of_addr x.apart (zW h1) (zW h2)
 ·rcases n with n|n
  ·exact Ah4 n
  ·exact yG U (S.AsZ _ (zW n))
 ·exact Ay3 (x.above y c (zW h))
 ·have hi:i<vs.length:=by
   unfold start at h2;by_cases hi:i<vs.length
   ·exact hi
   ·rw[Aym (by simpa using hi)]at h2;rw[List.getElem?_replicate]at h2;split at h2<;>cases h2
  have D:vs[i]?=some v:=by
   unfold start at h2;rw[Ayo (by simpa using hi)]at h2;cases e:vs[i]? with
   |none=>simp_all
   |some a=>simp_all
  obtain⟨u,B,C⟩:=r.get D;have m:ps[i]?=some y:=by
   rw[<-S.pre,List.getElem?_take_of_lt Au];exact h1
  have l:ps.Nodup:=by rw[<-S.pre];exact S.nd.sublist (List.take_sublist _ _)
  refine⟨u,C,?_⟩;rcases S.par y (Ayb m) with k|k
  ·exact .inl ⟨k,AeR l m B k⟩
  ·obtain⟨c,e⟩:=Ah4 k;refine .inr ⟨.inl k,c,e,?_⟩;have q:=x.cell y c e;rw[AeS l m B (by show scope.names.lookup y≠_;rw[k];decide)]at q;exact q
 ·exact d.hok.fresh (Ay3 (x.above y c (zW h)))
 ·unfold start;show _=N.length;grind
theorem Asn{K:NO}{base:Heap}{k:Nat}{f:Nn}{c:Arguments}{G kV m F a R Z:N0}{L od:Option Nn}
  {z:Array (Na)} (lk:K.lookup f=some ⟨Z,od,.func (W.fnOf name qual c body scope G kV m F L a R),z⟩) (p:W.codeIn K a qual=true) (S:Al N ps scope)
  (len:∀vs H Q E,sp vs H Q E->vs.length=ps.length)
  (h:∀(A:Around)(outer:List Env)(s:Nw)(H:Hp)(vs:LI)(Q:VK)(E:XK),FT k (A.deeper (envOfC qual scope s.heap.objs.size f a))->sp vs H Q E ->
   ∃t,PSs (ZJ CX P w K mg base N qual scope f a A outer s H E) body t/\t {nx:=λ_ H'=>Q .non H',rt:=Q} (start N vs) H) :
  Bm P w K mg base CX (k+1) f (W.fnOf name qual c body scope G kV m F L a R) ps sp:=by
 refine⟨len,λA outer s H args us vs Q E D j X r l=>?_⟩;have hl:=len _ _ _ _ l;have O:=j.mod.kin.keeps λb o e=>(j.bs b o e).1;have B:=j.mod.nolimit.keeps λb o e=>(j.bs b o e).1;have d:∀y∈ps.zip us,scope.names.lookup y.1=some .local\/(scope.names.lookup y.1=some .cell/\((cellsFrom (s.heap.objs.size+1) scope.names []).lookup y.1).isSome=true):=λ⟨n,v⟩ hy=>by
  rcases S.par n (Azh hy).1 with q|q
  ·exact .inl q
  ·exact .inr ⟨q,W.cellsFrom_some _ _ _ (.inl q)⟩
 refine codeAny_call_function D.depth (O _ _ lk) U S.co S.gen U (W.codeRec_of O p) (X _ _ _ _ ?_);refine wpAny_newFunctionEnv_cells S.kind d λenv Y M x=>?_;subst Y;refine⟨B.keeps x.toInCall.keep,codeAny_func ?_⟩;obtain⟨t,T,hq⟩:=h A outer s H vs Q E (D.deeper _) l;have I:Inv (ZJ CX P w K mg base N qual scope f a A outer s H E) [] (start N vs) H M:=AeT S D.hd j hl r x;refine zT (T [] M (start N vs) H _ I hq) (λfl s' i=>?_) λe s' i=>i;have fin:∀{σ':St} {H':Hp} {v:V} {u:N0},Inv (ZJ CX P w K mg base N qual scope f a A outer s H E) [] σ' H' s'->RelV v u->Q v H'->CE outer P w H s Q u s':=
  λ{σ' H' v u} J C q=>⟨v,H',J.os,J.bare,J.base,J.hok,C,q⟩;cases fl with
 |ret u =>
  obtain⟨v,σ',H',J,C,q⟩:=i;exact fin J C q
 |next =>
  obtain⟨σ',H',J,q⟩:=i;exact fin (v:=V.non) J U q
 |brk =>
  obtain⟨_,_,_,q⟩:=i;exact yR q
 |cont =>
  obtain⟨_,_,_,q⟩:=i;exact yR q
section
variable {t:TA}{id T:String}{r:LI->Hp->VK->Prop}
abbrev Avb (r:LI->Hp->VK->Prop)(Q:VK)(vs:LI)(H1:Hp):Prop:=r vs H1 Q
def tCB (r:LI->Hp->VK->Prop)(t:TA)(σ:St)(H:Hp)(Q:VK):Prop:=t σ H (Avb r Q)
theorem Bb(hc:Hw X (.builtin id) r)(c:Gl X x)(l:X.mg x=none)(i:bootBuiltins x=some (.builtin id))(j:PA X (e::es) t)(hn:x≠"__name__":= by decide) (a:(x == ("__debug__":Str))=false:=by decide)
  (n:starEach (e::es) X.env=(false,eval e X.env)::starEach es X.env:=by rfl) (b:(backTo pos (starEach es X.env)).any (·.1)=false:=by rfl):PE X (.Call (.Name x p) (e::es) [] pos) (tCB r t):=by
 intro pins s σ H Q I h;refine yP (IV I c l i ?_ hn a);exact PyProof.Rows.callWith_builtin1 (thn (j pos pins s σ H _ I h) λus d ⟨vs,H1,o,f,m⟩=>hc pins d σ H1 vs us Q o f m) n b
theorem BR(hc:Hw X (.type T) r)(c:Gl X x)(l:X.mg x=none)(i:bootBuiltins x=some (.type T))(j:PA X (e::es) t)(hn:x≠"__name__":= by decide) (a:(x == ("__debug__":Str))=false:=by decide)
  (n:starEach (e::es) X.env=(false,eval e X.env)::starEach es X.env:=by rfl) (b:(backTo pos (starEach es X.env)).any (·.1)=false:=by rfl):PE X (.Call (.Name x p) (e::es) [] pos) (tCB r t):=by
 intro pins s σ H Q I h;refine yP (IV I c l i ?_ hn a);exact yK (thn (j pos pins s σ H _ I h) λus d ⟨vs,H1,o,f,m⟩=>hc pins d σ H1 vs us Q o f m) n b
end
end L2
namespace HT
open PySem PyProof.Rows
section
variable {prog:Program}{w:World}{A:Around}{E:NU}{s:Nw}
def sIx (n d:Nat):Option Int->Nat
 |none=>d
 |some v=>if v<0 then (v+(n:Int)).toNat else min v.toNat n
theorem Ti(n d:Nat):sIx n d none=d:=rfl
theorem Kw(n d k:Nat):sIx n d (some (k:Int))=min k n:=by show(if (k:Int)<0 then ((k:Int)+(n:Int)).toNat else min (k:Int).toNat n)=min k n;rw[yE Au,Ayi]
theorem Ata(n d:Nat)(a:d<=n)(o:Option Int):sIx n d o<=n:=by
 cases o with
 |none=>exact a
 |some v =>
  show(if v<0 then (v+(n:Int)).toNat else min v.toNat n)<=n;grind
end
end HT
namespace L2
open PySem PySem.Spec PyProof.Rows
variable {X:Cx}{e a b o:Expr}{pos:Pos}{n j t':Nat}{i:Int}{α:Type}{pins:NR}{σ:St}{H:Hp}{s:Nw}{xs:LI}{y x:V}{u v:N0}{T:String}{its:NX}
abbrev TO:=St->Hp->(Option Int->Hp->Prop)->Prop
def PO (X:Cx)(e:Option Expr)(t:TO):Prop:=
 ∀(pins:NR)(s:Nw)(σ:St)(H:Hp)(Q:Option Int->Hp->Prop),Inv X pins σ H s->t σ H Q ->
  wpAny (model X.prog X.w) X.A (evalPart e X.env) (λu s'=>∃o H',Inv X pins σ H' s'/\IsPart u o/\Q o H') X.xe s
def Aq1:TO:=λ_ H Q=>Q none H
def Avc (t:TE):TO:=λσ H Q=>t σ H λx H1=>∃i,x=.int i/\Q (some i) H1
theorem intsAre_of{ns:NF}:∀{us:NX},Vals (ns.map V.int) us->IntsAre us ns:=by
 induction ns with
 |nil=>intro us r;cases r;exact .nil
 |cons n ns a =>
  intro us r;cases r with
  |cons b r2 =>
   obtain⟨t,e⟩:=b;subst e;exact .cons n t (a r2)
section
variable {te:TE}{lo hi:Option Expr}{tl th:TO}{p2:Pos}
theorem Ky:PO X none Aq1:=by intro pins s σ H Q I h;rw[evalPart_none];exact zE ⟨none,H,I,.none,h⟩
theorem GP(h:PE X e te):PO X (some e) (Avc te):=by intro pins s σ H Q I hw;refine thn (h pins s σ H _ I hw) λu d ⟨x,H1,c,a,b⟩=>?_;obtain⟨i,rfl,q⟩:=b;obtain⟨t,rfl⟩:=a;exact⟨some i,H1,c,.int i t,q⟩
def SlR (X:Cx)(r:V->Option Int->Option Int->Hp->VK->Prop):Prop:=
 ∀(pins:NR)(s:Nw)(σ:St)(H:Hp)(x:V)(v vl vu:N0)(lo hi:Option Int)(sl:Nn)(Q:VK),Inv X pins σ H s->RelV x v->s.heap.IsSliceOf sl vl vu .none->IsPart vl lo->IsPart vu hi->r x lo hi H Q ->
  ∃T id,typeLookup (.type T) "__getitem__"=pure (some (.builtin id))/\s.TypeIs v T/\wpAny (model X.prog X.w) X.A (getItem v (.ref sl)) (EP X pins σ Q) X.xe s
abbrev Avd (r:V->Option Int->Option Int->Hp->VK->Prop)(Q:VK)(x:V)(l:Option Int)(u:Option Int)(H3:Hp):Prop:=r x l u H3 Q
abbrev Ave (r:V->Option Int->Option Int->Hp->VK->Prop)(th:TO)(σ:St)(Q:VK)(x:V)(l:Option Int)(H2:Hp):Prop:=th σ H2 (Avd r Q x l)
abbrev Avf (r:V->Option Int->Option Int->Hp->VK->Prop)(tl:TO)(th:TO)(σ:St)(Q:VK)(x:V)(H1:Hp):Prop:=tl σ H1 (Ave r th σ Q x)
def tSl (r:V->Option Int->Option Int->Hp->VK->Prop)(te:TE)(tl:TO)(th:TO)(σ:St)(H:Hp)(Q:VK):Prop:=te σ H (Avf r tl th σ Q)
theorem Gq{r:V->Option Int->Option Int->Hp->VK->Prop}(F:SlR X r)(i:PE X e te)(E:PO X lo tl)(A:PO X hi th):PE X (.Subscript e (.Slice lo hi none p2) pos) (tSl r te tl th):=by intro pins s σ H Q I h;refine Subscript_ (thn (i pins s σ H _ I h) λv y ⟨x,H1,j,z,C⟩=>?_);refine wpAny_Slice (thn (E pins y σ H1 _ j C) λa m ⟨l,H2,c,pl,p⟩=>thn (A pins m σ H2 _ c p) λvu s3 ⟨u,H3,f,B,n⟩=>?_);refine zE ?_;have D:Inv X pins σ H3 {s3 with heap:=s3.heap.push {cls:=.type "slice",data:=.fields #[a,vu,.none]} }:=f.kept λb G q=>zB _ q;obtain⟨T,id,w,d,o⟩:=F pins {s3 with heap:=s3.heap.push {cls:=.type "slice",data:=.fields #[a,vu,.none]} } σ H3 x v a vu l u s3.heap.objs.size Q D z (Heap.IsSliceOf.new ..) pl B n;exact tail_any d w o (by with_unfolding_all rfl)
def ZK (xs:LI)(lo hi:Option Int):LI:=(xs.drop (HT.sIx xs.length 0 lo)).take (HT.sIx xs.length xs.length hi-HT.sIx xs.length 0 lo)
theorem Aa5(xs:LI)(lo hi:Option Int):(ZK xs lo hi).length<=xs.length:=by unfold ZK;rw[Ayc,Ays];lia
end
def ixN (n:Nat)(i:Int):Option Nat:=if 0<=i then (if i<n then some i.toNat else none) else if -(n:Int)<=i then some (i+n).toNat else none
def atI {α:Type}(xs:List α)(i:Int):Option α:=(ixN xs.length i).bind λj=>xs[j]?
theorem Aq2(h:ixN n i=some j):seqIndex? i n=some j/\j<n /\ -(n:Int)<=i/\i<n:=by
 unfold ixN at h;by_cases a:0<=i
 ·rw[yF a]at h;by_cases h1:i<n
  ·rw[yF h1]at h;have e:=yI h;exact⟨by rw[seqIndex_of a h1,e],AA,AA,h1⟩
  ·simp_all
 ·rw[yE a]at h;by_cases h1 : -(n:Int)<=i
  ·rw[yF h1]at h;have e:=yI h;exact⟨by rw[seqIndex_neg Au h1,e],AA,h1,AA⟩
  ·simp_all
theorem AfJ{xs:List α}{v:α}(h:atI xs i=some v):∃j,seqIndex? i xs.length=some j/\xs[j]?=some v/\j<xs.length /\ -(xs.length:Int)<=i/\i<xs.length:=by
 unfold atI at h;cases e:ixN xs.length i with
 |none=>simp_all
 |some j =>
  rw[e]at h;obtain⟨h1,h2,h3,a⟩:=Aq2 e;exact⟨j,h1,h,h2,h3,a⟩
theorem Akr{xs:List α}{v:α}(h:xs[j]?=some v):atI xs (j:Int)=some v:=by
 have a:=(zC.mp h).1;have e:ixN xs.length (j:Int)=some j:=by
  unfold ixN;rw[yF Au,yF Au];simp
 unfold atI;rw[e];exact h
theorem Ah5(xs:List α)(v:α):atI (xs++[v]) (-1)=some v:=by
 have a:(xs++[v]).length=xs.length+1:=AB
 have e:ixN (xs++[v]).length (-1)=some xs.length:=by
  unfold ixN;grind
 unfold atI;rw[e];simp
def Aq3 (b:Expr):Prop:=∀o i,subscripted b false o i=operate [o,i] (getItem o i)
def IxR (X:Cx)(r:R2):Prop:=
 ∀(value slice:Expr)(pins:NR)(s:Nw)(σ:St)(H:Hp)(x y:V)(v u:N0)(Q:VK),Inv X pins σ H s->RelV x v->RelV y u->r x y H Q ->
  subscripted slice false v u=operate [v,u] (getItem v u)->wpAny (model X.prog X.w) X.A (subscriptTail value slice v u) (EP X pins σ Q) X.xe s
def MtR (X:Cx)(id:String)(r:V->LI->Hp->VK->Prop):Prop:=
 ∀(pins:NR)(s:Nw)(σ:St)(H:Hp)(x:V)(xs:LI)(v:N0)(us:NX)(Q:VK),Inv X pins σ H s->RelV x v->Vals xs us->r x xs H Q ->
  wpAny (model X.prog X.w) X.A (call (.builtin id) (v::us)) (EP X pins σ Q) X.xe s
section
variable {ta tb:TE}
theorem Bq{r:R2}(l:IxR X r)(m:PE X a ta)(d:PE X b tb)(f:Aq3 b):PE X (.Subscript a b pos) (tOp r ta tb):=by intro pins s σ H Q I h;exact Subscript_ (AsN m d I h λv u i x y H2 c e j q=>l a b pins i σ H2 x y v u Q c e j q (f _ _))
inductive Avg (K:NO)(x:V)(y:V)(H:Hp)(Q:VK):Prop
|mk(p:_)(xs:_)(i:_)(v:_)(_:x=.ref p)(_:y=.int i)(_:SqL K H p xs)(_:atI xs i=some v)(_:Q v H)
inductive Avh (K:NO)(x:V)(y:V)(H:Hp)(Q:VK):Prop
|mk(p:_)(xs:_)(i:_)(v:_)(_:x=.ref p)(_:y=.int i)(_:SqT K H p xs)(_:atI xs i=some v)(_:Q v H)
inductive Avi (x:V)(y:V)(H:Hp)(Q:VK):Prop
|mk(z:_)(i:_)(c:_)(_:x=.str z)(_:y=.int i)(_:z.length<=sizeLine)(_:atI z.cps.toList i=some c)(_:Q (.str ⟨#[c]⟩) H)
theorem Aq4:IxR X (Avg X.K):=by
 intro value c pins s σ H x y v u Q I A n h d;obtain⟨p,xs,i,z,rfl,rfl,B,m,q⟩:=h;cases A;obtain⟨t,rfl⟩:=n;obtain⟨its,r,pl,D⟩:=I.list B;obtain⟨j,h1,h2,h3,l,o⟩:=AfJ m;obtain⟨w,f,b⟩:=r.get h2;have C:=r.length;have hn:=Acn;have fin:EP X pins σ Q w s:=⟨z,H,I,b,q⟩;by_cases e:0<=i
 ·have a:i.toNat=j:=by
   rw[seqIndex_of e o]at h1;exact yI h1
  exact item_listR pl.isList e AA (by rw[a];simpa using f) fin d
 ·have a:(i+(its.toArray.size:Int)).toNat=j:=by
   rw[seqIndex_neg Au l]at h1;rw[Ayt,<-C];exact yI h1
  exact subscriptTail_builtinR pl.isList.typeIs slot_list_getitem.lookup
   (wpAny_getItem_list_neg pl.isList Au AC AA (by rw[a];simpa using f) ⟨U,fin⟩) d
theorem Atb:IxR X (Avh X.K):=by
 intro value b pins s σ H x y v u Q I f e h c;obtain⟨p,xs,i,z,rfl,rfl,m,d,q⟩:=h;cases f;obtain⟨t,rfl⟩:=e;obtain⟨its,r,pl,B⟩:=I.tuple m;obtain⟨j,h1,h2,h3,o,A⟩:=AfJ d;obtain⟨w,l,a⟩:=r.get h2;have n:=r.length;have hn:=Acn;have fin:EP X pins σ Q w s:=⟨z,H,I,a,q⟩;exact subscriptTail_builtinR pl.typeIs slot_tuple_getitem.lookup
  (getItem_tuple pl AA AA (by rw[Ayt,<-n];exact h1) (by simpa using l) ⟨U,fin⟩) c
theorem JS:IxR X Avi:=by
 intro value a pins s σ H x y v u Q I b l h e;obtain⟨z,i,c,rfl,rfl,o,f,q⟩:=h;obtain⟨t,rfl⟩:=b;obtain⟨t',rfl⟩:=l;obtain⟨j,h1,h2,h3,d,n⟩:=AfJ f;have m:z.cps.toList.length=z.length:=by simp[Str.length]
 rw[m]at h1 d n;have hn:=Acn;exact tail_any (typeIs_str s z t) slot_str_getitem.lookup (getItem_str (by
  grind) (by rw[h1];simpa using h2) ⟨.str ⟨#[c]⟩,H,I.tok _,⟨_,U⟩,q⟩) e
theorem Inv.lst{p:Nn}(I:Inv X pins σ H s)(h:H p=some (.lst xs)) :
  ∃(its:NX)(n:Nat),Vals xs its/\s.heap.get? p=some {cls:=.type "list",data:=.seq its.toArray n}/\xs.length<=sizeLine:=by
 obtain⟨z,its,n,r,e⟩:=I.hok p _ h;exact⟨its,n,r,e,z⟩
theorem AfK(lo hi:Option Int)(n:Nat):(sliceBounds lo hi none n).1=((HT.sIx n 0 lo:Nat):Int)/\(sliceBounds lo hi none n).2.1=((HT.sIx n n hi:Nat):Int)/\(sliceBounds lo hi none n).2.2=1:=by
 refine⟨?_,?_,U⟩
 ·cases lo with
  |none=>simp[sliceBounds,HT.sIx]
  |some i =>
   simp only [sliceBounds,HT.sIx];grind
 ·cases hi with
  |none=>simp[sliceBounds,HT.sIx]
  |some i =>
   simp only [sliceBounds,HT.sIx];grind
theorem AdY(its:NX)(lo hi:Option Int):slicePick its.toArray lo hi none=((its.drop (HT.sIx its.length 0 lo)).take (HT.sIx its.length its.length hi-HT.sIx its.length 0 lo)).toArray:=by obtain⟨h1,h2,h3⟩:=AfK lo hi its.toArray.size;unfold slicePick;rw[h1,h2,h3];simp only [sliceRange_one,pick_run]<;>rfl
inductive Avj (K:NO)(x:V)(lo:Option Int)(hi:Option Int)(H:Hp)(Q:VK):Prop
|mk(a:_)(xs:_)(_:x=.ref a)(_:SqL K H a xs)(_:∀p,H p=none->Q (.ref p) (upd H p (.lst (ZK xs lo hi))))
theorem Aq5:SlR X (Avj X.K):=by intro pins s σ H x v n p lo hi m Q I e j pl i h;obtain⟨a,xs,rfl,l,q⟩:=h;cases e;obtain⟨its,r,d,f⟩:=I.list l;have c:=r.length;refine⟨"list",_,slot_list_getitem.lookup,d.isList.typeIs,?_⟩;refine wpAny_getItem_list_slice d.isList j pl i .none AB ?_ AD;rw[AdY,<-c];refine⟨.ref s.heap.objs.size,_,I.laid (λb o q=>zB _ q) (AxU _) ?_,U,q _ (I.hok.fresh (AxU _))⟩;exact⟨Ayh (Aa5 xs lo hi) f,_,0,(r.drop (HT.sIx xs.length 0 lo)).take (HT.sIx xs.length xs.length hi-HT.sIx xs.length 0 lo),zD _ U⟩
def Lj:V->Bool
 | .non=>true
 | .bl _=>true
 | .int _=>true
 | .str _=>true
 |_=>false
def eqV:V->V->Bool
 | .non,.non=>true
 | .bl a,.bl b=>a == b
 | .bl a,.int b=>(if a then 1 else 0) == b
 | .int a,.bl b=>a == (if b then 1 else 0)
 | .int a,.int b=>a == b
 | .str a,.str b=>a == b
 |_,_=>false
theorem Ajj{A:Around}(d:RelV y u)(c:RelV x v)(f:Lj y=true)(e:Lj x=true):SeqAt.EqAt A s u v (eqV y x):=by
 cases y with
 |non =>
  cases d;cases x with
  |non=>cases c;exact SeqAt.EqAt.same _
  |bl b=>cases c;exact SeqAt.EqAt.none_bool b
  |int b=>obtain⟨t,rfl⟩:=c;exact SeqAt.EqAt.none_int b t
  |str b=>obtain⟨t,rfl⟩:=c;exact SeqAt.EqAt.none_str b t
  |_=>exact yG (show false=true from e) Ayn
 |bl a =>
  cases d;cases x with
  |non=>cases c;exact SeqAt.EqAt.bool_none a
  |bl b=>cases c;exact SeqAt.EqAt.bool_bool a b
  |int b=>obtain⟨t,rfl⟩:=c;exact SeqAt.EqAt.bool_int a b t
  |str b=>obtain⟨t,rfl⟩:=c;exact SeqAt.EqAt.bool_str a b t
  |_=>exact yG (show false=true from e) Ayn
 |int a =>
  obtain⟨t',rfl⟩:=d;cases x with
  |non=>cases c;exact SeqAt.EqAt.int_none a t'
  |bl b=>cases c;exact SeqAt.EqAt.int_bool a t' b
  |int b=>obtain⟨t,rfl⟩:=c;exact SeqAt.EqAt.int_int a t' b t
  |str b=>obtain⟨t,rfl⟩:=c;exact SeqAt.EqAt.int_str a t' b t
  |_=>exact yG (show false=true from e) Ayn
 |str a =>
  obtain⟨t',rfl⟩:=d;cases x with
  |non=>cases c;exact SeqAt.EqAt.str_none a t'
  |bl b=>cases c;exact SeqAt.EqAt.str_bool a t' b
  |int b=>obtain⟨t,rfl⟩:=c;exact SeqAt.EqAt.str_int a t' b t
  |str b=>obtain⟨t,rfl⟩:=c;exact SeqAt.EqAt.str_str a t' b t
  |_=>exact yG (show false=true from e) Ayn
 |_=>exact yG (show false=true from f) Ayn
def eqU (x:V)(u:N0):Bool:=match u with
 | .none=>eqV .non x
 | .bool b=>eqV (.bl b) x
 | .int i _=>eqV (.int i) x
 | .str z _=>eqV (.str z) x
 |_=>false
theorem Ano(r:RelV y u)(f:Lj y=true):eqU x u=eqV y x:=by
 cases y with
 |non=>cases r;rfl
 |bl b=>cases r;rfl
 |int i=>obtain⟨t,rfl⟩:=r;rfl
 |str z=>obtain⟨t,rfl⟩:=r;rfl
 |_=>exact yG (show false=true from f) Ayn
theorem Xp{x:V}:∀{xs:LI} {us:NX},Vals xs us->xs.all Lj=true->us.any (eqU x)=xs.any λy=>eqV y x
 |_,_,.nil,_=>rfl
 |y::xs,u::us,.cons r t,f=>by
  rw[Azp,AyM]at f;rw[AyR,AyR,Ano r f.1,Xp t f.2]
theorem Tj{A:Around}{s:Nw}{x:V}{v:N0}(b:RelV x v)(c:Lj x=true):∀{xs:LI} {us:NX},Vals xs us->xs.all Lj=true->∀u∈us,SeqAt.EqAt A s u v (eqU x u)
 |_,_,.nil,_=>λu a=>by cases a
 |y::xs,u::us,.cons r t,f=>λd a=>by
  rw[Azp,AyM]at f;rcases yC.mp a with rfl|a
  ·rw[Ano r f.1];exact Ajj r b f.1 c
  ·exact Tj b c t f.2 d a
def inV (x:V)(xs:LI):Bool:=xs.any λy=>eqV y x
inductive rIn (K:NO)(neg:Bool)(x:V)(y:V)(H:Hp)(Q:VK):Prop
|mk(p:_)(xs:_)(_:y=.ref p)(_:(SqL K H p xs\/SqT K H p xs))(_:Lj x=true)(_:xs.all Lj=true)(_:Q (.bl (if neg then !inV x xs else inV x xs)) H)
theorem AlB:OpR X (compareOp .In) (rIn X.K false):=by
 intro pins s σ H x y v u Q I b e h;obtain⟨p,xs,rfl,a,c,fs,q⟩:=h;cases e;rcases a with a|a
 ·obtain⟨its,r,pl,d⟩:=I.list a;refine SeqAt.in_listAt (eqU x) pl.isList (λw hw=>Tj b c r fs w (by simpa using hw)) ⟨.bl _,H,I,U,?_⟩;rw[show its.toArray.any (eqU x)=its.any (eqU x) by simp,Xp r fs];exact q
 ·obtain⟨its,r,pl,d⟩:=I.tuple a;refine SeqAt.in_tupleAt (eqU x) pl (λw hw=>Tj b c r fs w (by simpa using hw)) ⟨.bl _,H,I,U,?_⟩;rw[show its.toArray.any (eqU x)=its.any (eqU x) by simp,Xp r fs];exact q
theorem AfL:OpR X (compareOp .NotIn) (rIn X.K true):=by
 intro pins s σ H x y v u Q I b e h;obtain⟨p,xs,rfl,a,c,fs,q⟩:=h;cases e;rcases a with a|a
 ·obtain⟨its,r,pl,d⟩:=I.list a;refine SeqAt.notIn_listAt (eqU x) pl.isList (λw hw=>Tj b c r fs w (by simpa using hw)) ⟨.bl _,H,I,U,?_⟩;rw[show its.toArray.any (eqU x)=its.any (eqU x) by simp,Xp r fs];exact q
 ·obtain⟨its,r,pl,d⟩:=I.tuple a;refine SeqAt.notIn_tupleAt (eqU x) pl (λw hw=>Tj b c r fs w (by simpa using hw)) ⟨.bl _,H,I,U,?_⟩;rw[show its.toArray.any (eqU x)=its.any (eqU x) by simp,Xp r fs];exact q
inductive Tn (K:NO)(xs:LI)(H:Hp)(Q:VK):Prop
|mk(p:_)(ys:_)(_:xs=[.ref p])(_:(SqL K H p ys\/SqT K H p ys))(_:Q (.int ys.length) H)
theorem AfM:Hw X (.builtin "len") (Tn X.K):=by
 intro pins s σ H xs us Q I r h;obtain⟨p,ys,rfl,b,q⟩:=h;obtain⟨u,rfl,d⟩:=vals1 r;cases d;have hn:=Acn;rcases b with b|b
 ·obtain⟨its,c,pl,e⟩:=I.list b;have a:=c.length;exact Calls.call_len_list pl.isList (by simp only [Ayt]<;>omega) ⟨.int ys.length,H,I.tok _,⟨s.toks+1,by rw[Ayt,a]⟩,q⟩
 ·obtain⟨its,c,pl,e⟩:=I.tuple b;have a:=c.length;exact len_tuple pl (by simp only [Ayt]<;>omega) ⟨.int ys.length,H,I.tok _,⟨s.toks+1,by rw[Ayt,a]⟩,q⟩
inductive Acq (xs:LI)(H:Hp)(Q:VK):Prop
|mk(z:_)(_:xs=[.str z])(_:z.length<=sizeLine)(_:Q (.int z.length) H)
theorem BL:Hw X (.builtin "len") Acq:=by intro pins s σ H xs us Q I r h;obtain⟨z,rfl,a,q⟩:=h;obtain⟨u,rfl,t,rfl⟩:=vals1 r;have hn:=Acn;exact len_str AA ⟨.int z.length,H,I.tok _,⟨_,U⟩,q⟩
inductive Tp (K:NO)(xs:LI)(H:Hp)(Q:VK):Prop
|mk(p:_)(ys:_)(_:xs=[.ref p])(_:(SqL K H p ys\/SqT K H p ys))(_:∀l,H l=none->Q (.ref l) (upd H l (.lst ys)))
theorem AfN:Hw X (.type "list") (Tp X.K):=by
 intro pins s σ H xs us Q I r h;obtain⟨p,ys,rfl,i,q⟩:=h;obtain⟨u,rfl,m⟩:=vals1 r;cases m;have fin:∀(its:NX),Vals ys its->ys.length<=sizeLine->∀(h':Heap)(a:Nat),(∀b o',s.heap.get? b=some o'->h'.get? b=some o') ->
   h'.get? s.heap.objs.size=some {cls:=.type "list",dict:=none,data:=.seq its.toArray a,slots:=#[]}->EP X pins σ Q (.ref s.heap.objs.size) {s with heap:=h'}:=λits c d h' a kp e =>
  ⟨.ref s.heap.objs.size,_,I.laid kp (AxU _) (show Gp X.prog X.w _ h' _ (.lst ys) from⟨d,its,a,c,e⟩),U,q _ (I.hok.fresh (AxU _))⟩;rcases i with i|i
 ·obtain⟨its,c,pl,d⟩:=I.list i;have f:=c.length;obtain⟨o,l,hc,n,j⟩:=pl.isList;exact call_list_seq p (.inl U) l hc j (λh' a kp e=>fin its c d h' a kp e) (by simp only [Ayt]<;>omega)
 ·obtain⟨its,c,pl,d⟩:=I.tuple i;have f:=c.length;obtain⟨o,l,hc,n,j⟩:=pl;exact call_list_seq p (.inr U) l hc j (λh' a kp e=>fin its c d h' a kp e) (by simp only [Ayt]<;>omega)
def tyV (K:NO)(T:String)(x:V)(H:Hp):Prop:=match x with
 | .str _=>T="str"
 | .int _=>T="int"
 | .ref p=>(T="list" /\ ∃xs,SqL K H p xs)\/(T="tuple" /\ ∃o,K.lookup p=some o/\o.cls=.type "tuple" /\ o.dict=none) \/
   (T="dict" /\ ((∃kvs,H p=some (.dK kvs))\/∃kvs,H p=some (.dT kvs)))\/(T="set" /\ ∃S n,H p=some (.set S n))
 |_=>False
theorem Atc(I:Inv X pins σ H s)(r:RelV x v)(ty:tyV X.K T x H) :
  s.TypeIs v T/\∀a,v=.ref a->∃d,s.heap.get? a=some d/\d.dict=none:=by
 cases x with
 |str z =>
  obtain⟨t,rfl⟩:=r;cases (show T="str" from ty);exact⟨typeIs_str s z t,λ_ e=>nomatch e⟩
 |int i =>
  obtain⟨t,rfl⟩:=r;cases (show T="int" from ty);exact⟨typeIs_int s i t,λ_ e=>nomatch e⟩
 |ref p =>
  cases r;rcases ty with ⟨rfl,xs,f⟩|⟨rfl,o,hk,hc,b⟩|⟨rfl,hk⟩|⟨rfl,S,n,hk⟩
  ·obtain⟨its,_,pl,_⟩:=I.list f;refine⟨pl.isList.typeIs,λa e=>?_⟩;cases e;obtain⟨o,n,e,c,b,_⟩:=pl;exact⟨o,e,b⟩
  ·refine⟨⟨o,I.kIn p o hk,hc⟩,λa e=>?_⟩;cases e;exact⟨o,I.kIn _ o hk,b⟩
  ·have z:∃o,s.heap.get? p=some o/\o.ExactDict:=by
    rcases hk with ⟨kvs,hk⟩|⟨kvs,hk⟩
    ·obtain⟨_,_,_,_,o,_,_,e,ex,_⟩:=I.hok p _ hk;exact⟨o,e,ex⟩
    ·obtain⟨_,_,_,_,o,_,_,e,ex,_⟩:=I.hok p _ hk;exact⟨o,e,ex⟩
   obtain⟨o,e,ex⟩:=z;refine⟨⟨o,e,ex.1⟩,λa e2=>?_⟩;cases e2;exact⟨o,e,ex.2.1⟩
  ·obtain⟨o,_,_,_,e,ex,_⟩:=I.hok p _ hk;refine⟨⟨o,e,ex.1⟩,λa e2=>?_⟩;cases e2;exact⟨o,e,ex.2.1⟩
 |_=>exact yR ty
abbrev Avk (r:V->LI->Hp->VK->Prop)(Q:VK)(x:V)(xs:LI)(H2:Hp):Prop:=r x xs H2 Q
inductive Avl (K:NO)(T:String)(r:V->LI->Hp->VK->Prop)(t:TA)(σ:St)(Q:VK)(x:V)(H1:Hp):Prop
|mk(_:tyV K T x H1)(_:t σ H1 (Avk r Q x))
def tBM (K:NO)(T:String)(r:V->LI->Hp->VK->Prop)(to:TE)(t:TA)(σ:St)(H:Hp)(Q:VK):Prop:=to σ H (Avl K T r t σ Q)
variable {es:List Expr}{to:TE}{t:TA}{name:Str}{apos cpos:Pos}{id:String}{r:V->LI->Hp->VK->Prop}
theorem Avm(p:PlainAttrs T)(f:Slot T name id)(i:typeOf (.builtin id)=pure (.type "method_descriptor")) (w:MtR X id r) (A:PE X o to) (C:PA X (e::es) t)
  (b:attributeBase o name X.env (eval o X.env)=eval o X.env:=by rfl)
  (d:((backTo cpos (starEach (e::es) X.env)).all (λx=>!x.1) && (backToKw cpos (keywordEach [] X.env)).all (λx=>x.1.isSome)
   && decide ((e::es).length+([]:List Keyword).length+(if ([]:List Keyword).isEmpty then 0 else 1)<30))=true:=by rfl)
  (c:(apos.endLine == cpos.line)=true:=by rfl) (z:starEach (e::es) X.env=(false,eval e X.env)::starEach es X.env:=by rfl) (a:(backTo cpos (starEach es X.env)).any (·.1)=false:=by rfl) :
  PE X (.Call (.Attribute o name apos) (e::es) [] cpos) (tBM X.K T r to t):=by
 intro pins s σ H Q I h;refine wpAny_Call_method_late b d c U (thn (A pins s σ H _ I h) λv u ⟨x,H1,l,j,ty,y⟩=>?_);obtain⟨h1,h2⟩:=Atc l j ty;refine⟨T,id,p,f,i,h1,h2,?_⟩;have m:=C cpos pins u σ H1 _ l y;rw[z]at m ⊢;refine Calls.callWith_builtin (by show(false || (backTo cpos (starEach es X.env)).any (·.1))=false;rw[a]<;>rfl) (Calls.evalArgs_plain ?_);exact thn m λus B ⟨vs,H2,n,r2,q⟩=>w pins B σ H2 x vs v us Q n j r2 q
end
def MtM (X:Cx)(id:String)(r:V->LI->Hp->VK->Prop):Prop:=
 ∀(pins:NR)(s:Nw)(σ:St)(H:Hp)(x:V)(xs:LI)(v:N0)(us:NX)(Q:VK),Inv X pins σ H s->RelV x v->Vals xs us->r x xs H Q ->
  wpAny (model X.prog X.w) X.A (call (.builtin id) (v::us)) (EP X pins σ Q) X.xe s
theorem Vals.one:∀{x:V} {us:NX},Vals [x] us->∃u,us=[u]/\RelV x u:=by intro _ _ h;cases h with|cons r t=>cases t;exact⟨_,U,r⟩
theorem Vals.two:∀{x y:V} {us:NX},Vals [x,y] us->∃u v,us=[u,v]/\RelV x u/\RelV y v:=by intro _ _ _ h;cases h with|cons r t=>obtain⟨v,rfl,q⟩:=Vals.one t;exact⟨_,_,U,r,q⟩
theorem Vals.rep{xs:LI}{us:NX}(h:Vals xs us):∀k:Nat,Vals (List.replicate k xs).flatten (List.replicate k us).flatten
 | 0=>.nil
 |k+1=>by
  exact Vals.append h (Vals.rep h k)
theorem foldl_rep(its:NX):∀(k:Nat)(acc:NX),
  List.foldl (λb a=>b++a) acc.toArray (List.replicate k its.toArray)=(acc++(List.replicate k its).flatten).toArray
 | 0,acc=>AB
 |k+1,acc=>by
  have e:acc.toArray++its.toArray=(acc++its).toArray:=AB
  have e2:(acc++its)++(List.replicate k its).flatten=acc++(List.replicate (k+1) its).flatten:=by
   rw[Ayz,Ayv,Ay0]
  rw[<-e2,<-foldl_rep its k (acc++its),<-e,Ayz,Azq]
section
variable {l b:Nn}{ys zs:LI}
theorem Inv.Avn{a:NX}{f:Array N0->Array N0}(I:Inv X pins σ H s)(d:H l=some (.lst xs))
  (e:s.heap.get? l=some {cls:=.type "list",data:=.seq its.toArray n}) (b:f its.toArray=a.toArray) (i:Vals ys a) (h:ys.length<=sizeLine) :
  Inv X pins σ (upd H l (.lst ys)) {s with heap:=s.heap.update l (Obj.mapSeq f),toks:=t'}:=by
 have q:=PySem.IsL.update e f;rw[b]at q;refine I.write (by rw[d];exact trivial) (.inl U) (λm u c j=>(zH s.heap (Obj.mapSeq f) (yL c)).trans j) ⟨_,q⟩ ?_;exact⟨h,a,_,i,q⟩
theorem Inv.Avo(I:Inv X pins σ H s)(b:Vals ys its)(a:ys.length<=sizeLine) :
  Inv X pins σ (upd H s.heap.objs.size (.lst ys)) {s with heap:=s.heap.push {cls:=.type "list",data:=.seq its.toArray},toks:=t'}:=
 I.laid (λ_ _ q=>zB _ q) (AxU _) ⟨a,its,0,b,zD _ U⟩
theorem Inv.fresh(I:Inv X pins σ H s):H s.heap.objs.size=none:=I.hok.fresh (AxU _)
theorem Inv.AlC(I:Inv X pins σ H s)(a:H l=some (.lst xs)):xs.length<=sizeLine/\∃(its:NX)(n:Nat),Vals xs its/\xs.length=its.length/\s.heap.get? l=some {cls:=.type "list",data:=.seq its.toArray n}:=by obtain⟨z,its,n,r,e⟩:=I.hok l _ a;exact⟨z,its,n,r,r.length,e⟩
theorem Ah6(h:n<=sizeLine):Builtin.List.listTooLong n=false:=by exact zJ AA
end
inductive Aks (x:V)(vs:LI)(H:Hp)(Q:VK):Prop
|mk(l:_)(xs:_)(y:_)(_:x=.ref l)(_:vs=[y])(_:H l=some (.lst xs))(_:xs.length<sizeLine)(_:Q .non (upd H l (.lst (xs++[y]))))
theorem Dg:MtM X "list.append" Aks:=by intro pins s σ H x vs v us Q I b d h;obtain⟨l,xs,y,rfl,rfl,a,f,q⟩:=h;cases b;obtain⟨u,rfl,c⟩:=d.one;obtain⟨z,its,n,r,i,e⟩:=I.AlC a;refine call_meets zL ⟨_,e,U⟩ F.entry_list_append (F.args_list_append_2 _ _) (PySem.list_append l its.toArray n u AD) ⟨e,?_⟩;refine⟨.non,_,I.Avn a e AB (r.append (.cons c .nil)) ?_,U,q⟩;grind
inductive Aq6 (x:V)(vs:LI)(H:Hp)(Q:VK):Prop
|mk(l:_)(b:_)(xs:_)(zs:_)(_:x=.ref l)(_:vs=[.ref b])(_:H l=some (.lst xs))(_:H b=some (.lst zs))(_:xs.length+zs.length<=sizeLine)(_:Q .non (upd H l (.lst (xs++zs))))
theorem AeU:MtM X "list.extend" Aq6:=by
 intro pins s σ H x vs v us Q I m f h;obtain⟨l,b,xs,zs,rfl,rfl,d,hB,o,q⟩:=h;cases m;obtain⟨u,rfl,j⟩:=f.one;cases j;obtain⟨z,its,n,r,w,e⟩:=I.AlC d;obtain⟨p,a,n2,r2,i,e2⟩:=I.AlC hB;have hsz:its.toArray.size+a.toArray.size<=sizeLine:=AD
 have c:¬(!its.toArray.isEmpty && Builtin.List.listTooLong (its.toArray.size+a.toArray.size))=true:=by
  rw[Ah6 hsz,Bool.and_false];exact Ayn
 refine call_meets F.slot_list_extend ⟨_,e,U⟩ F.entry_list_extend (F.args_list_extend_2 _ _)
  (AutoSeq1.list_extend_list_list_0 l its.toArray n b a.toArray n2 c AD AA) ⟨e,e2,?_⟩;refine⟨.non,_,I.Avn d e AB (r.append r2) ?_,U,q⟩;rw[AxS];omega
inductive Avp (x:V)(y:V)(H:Hp)(Q:VK):Prop
|mk(l:_)(b:_)(xs:_)(zs:_)(_:x=.ref l)(_:y=.ref b)(_:H l=some (.lst xs))(_:H b=some (.lst zs))(_:xs.length+zs.length<=sizeLine)(_:∀p,H p=none->Q (.ref p) (upd H p (.lst (xs++zs))))
theorem Lk:OpR X (binaryOp .Add) Avp:=by
 intro pins s σ H x y v u Q I c i h;obtain⟨l,b,xs,zs,rfl,rfl,d,hB,j,q⟩:=h;cases c;cases i;obtain⟨z,its,n,r,o,e⟩:=I.AlC d;obtain⟨m,a,n2,r2,f,e2⟩:=I.AlC hB;refine PySem.P.add_list e e2 ?_ AC;have ea:its.toArray++a.toArray=(its++a).toArray:=AB
 rw[ea];exact⟨.ref _,_,I.Avo (r.append r2) (by rw[AxS];omega),U,q _ I.fresh⟩
inductive AwT (x:V)(y:V)(H:Hp)(Q:VK):Prop
|mk(l:_)(k:_)(xs:_)(_:x=.ref l)(_:y=.int k)(_:H l=some (.lst xs))(_ : -(2 ^ 63)<=k)(_:k<2 ^ 63)(_:xs.length*k.toNat<=sizeLine)(_:∀p,H p=none->Q (.ref p) (upd H p (.lst (List.replicate k.toNat xs).flatten)))
theorem len_rep(xs:List α)(k:Nat):(List.replicate k xs).flatten.length=k*xs.length:=AC
theorem AfO:OpR X (binaryOp .Mult) AwT:=by
 intro pins s σ H x y v u Q I A w h;obtain⟨l,k,xs,rfl,rfl,C,h1,h2,j,q⟩:=h;cases A;obtain⟨t,rfl⟩:=w;obtain⟨z,its,n,r,p,e⟩:=I.AlC C;have b:its.toArray.size*k.toNat<=sizeLine:=by rw[Ayt,<-p];exact j
 have f:¬its.toArray.size*k.toNat>(2 ^ 63-1) / 8:=by
  have:(sizeLine:Nat)<=(2 ^ 63-1) / 8:=Ap
  lia
 have c:¬(!Builtin.List.listFitsIndex k)=true:=by
  rw[fitsIndex_both h1 h2];exact Ayn
 have i:¬Builtin.List.listTooLong (its.toArray.size*k.toNat)=true:=by
  rw[Ah6 b];exact Ayn
 have d:List.foldl (λo B=>o++B) #[] (List.replicate (if its.toArray.isEmpty=true then 0 else k.toNat) its.toArray)=(List.replicate k.toNat its).flatten.toArray:=by
  have D:=λm=>by
   have:= foldl_rep its m [];exact this
  cases its with
  |nil=>simp
  |cons a E=>simp_all
 refine wpAny_binaryOp_repeat_ref Ap ⟨_,e,U⟩ (λs'=>typeIs_int s' k t) noFill_list_mul F.fills_int_mul F.slot_int_rmul repeat_list F.slot_int_index.lookup
  (call_meets F.slot_int_rmul (typeIs_int s k t) F.entry_int_rmul (F.args_int_rmul_2 _ _) (int___rmul___int_list k t l its.toArray n)
   ⟨e,U,⟨_,e,U⟩,call_meets F.slot_list_mul ⟨_,e,U⟩ F.entry_list_mul (F.args_list_mul_2 _ _) (AutoListH.list___mul___list_int_3 l its.toArray n k t c f i) ⟨e,?_⟩⟩);rw[d];exact⟨.ref _,_,I.Avo (r.rep k.toNat) (by rw[len_rep,Azr];exact j),U,q _ I.fresh⟩
end L2
namespace Att
open PySem PySem.W PySem.Calls PyProof.Rows
theorem Abz{P:Params}{h:Heap}:∀(ns:NF)(vs:NX),WellAll P h vs (ns.map WData.int)->IntsAre vs ns:=by
 intro ns
 induction ns with
 |nil =>
  intro vs w;cases w;exact .nil
 |cons n ns c =>
  intro vs w;cases w with
  |cons a b =>
   cases a;exact .cons _ _ (c _ b)
theorem AlD{l:OpenLaw}{n:Nat}(hn:l.most=some n){P:Params}{h:Heap}{args:List WData}{c:NX}
  (b:l.row.toRowW.claim.pre args=true) (m:WellAll P h c args) :
  ∃a vs ns,c=[Value.ref a]/\args=[WData.list (ns.map WData.int)]/\h.get? a=some {cls:=.type "list",data:=.seq vs.toArray}/\IntsAre vs ns/\ns.length<=n:=by
 have j:WShape.hasAll [] args [.list .int]=true:=(pre_splitW b).1;have hc:l.pre.holds [] {args:=args}=true:=(pre_splitW b).2;obtain⟨d,r,rfl,h1,h2⟩:=hasAllW_cons j;obtain rfl:=hasAllW_nil h2;obtain⟨xs,rfl,h3⟩:=hasW_list h1;obtain⟨ns,rfl⟩:=items_int h3;have e:ns.length<=n:=by
  have i:(WTm.not (.lt (.lit (.int (n:Int))) (.len (.arg 0)))).holds [] {args:=[.list (ns.map .int)]}=true:=by
   have i:=(holds_andW hc).1;rw[hn]at i;exact i
  have o:=condW_of i (w_not (w_lt w_lit (w_len_list (w_arg U))));rw[AxR]at o;refine Nat.le_of_not_lt λq=>?_;have v:(n:Int)<((ns.length:Nat):Int):=Au
  first
   | (rw[zN v]at o;exact yG o Ap)
   |grind
 cases m with
 |cons u p =>
  cases p;cases u with
  |list s f=>exact⟨_,_,ns,U,U,s,Abz ns _ f,e⟩
theorem AlE(l:OpenLaw)(args:List WData):l.row.toRowW.claim.post args (.bool true) args=true:=
 postW_of
  (by first|rfl|decide|simp[WShape.has,WShape.arms,WShape.armsAll])
  (w_eq_bool (w_res U) w_lit) U
theorem Ah7{l:OpenLaw}{n:Nat}{q:Program}{loose:NY}{XP:(Str->Na)->Heap->Prop}{YP:World->Heap->Prop}{d:DefRec}
  (hn:l.most=some n) (u:d.params.defaults=[])
  (call:∀(w:World)(c b:Nw)(mg mb:Str->Na)(fa:Nn)(o:Obj)(p cd h:N0)(a:Nn)(vs:NX)(ns:NF),
   Ground q loose [] XP w c mg mb b.heap->YP w b.heap ->
   b.heap.get? fa=some o->o.data=.func (docDef d.name d.params d.body d.scope p cd h)->b.heap.CodeRec cd d.name->mg d.name=some (.ref fa) ->
   b.heap.get? a=some {cls:=.type "list",data:=.seq vs.toArray}->IntsAre vs ns->ns.length<=n->b.gens=#[] ->
   codeAny (model l.prog w) callerA (.call (.ref fa) ⟨[.ref a],[]⟩) (λr s'=>r=.ok (.ret (.bool true))/\OldK b.heap s'.heap/\s'.os=b.os/\AllBare s'.gens) b) :
  WalkO q loose XP YP l.row.toRowW d [] (λf vs=>PySem.call f vs):=by
 intro w c b mg mb G Y fa o p cd h C kV E H s z v F args A as j y K x J;obtain rfl:C=.none:=Dflts.none z u;obtain rfl:kV=.none:=Dflts.noKw z;obtain⟨a,vs,ns,rfl,rfl,i,e,m⟩:=AlD hn j x;refine enter_call (codeAny_mono (call w c b mg mb fa o p cd h a vs ns G Y E (fd_plain H) s v i e m F) λr s' I=>?_);obtain⟨rfl,h2,h3,D⟩:=I;exact⟨.inl ⟨.bool true,.bool true,[],U,λ_=>rfl,.bool true,AlE l _,λ_=>⟨List.Pairwise.nil,λ_ B=>(nomatch B)⟩⟩,h2,h3,D⟩
section
variable {prog:Program}{w:World}{A:Around}{E:NU}{s:Nw}{K:Frag}
def ledger(h:Heap)(L d:Nn):NR:=(List.range h.objs.size).filterMap λa=>if a=L\/a=d then none else (h.get? a).map λo=>(a,o)
end
end Att
namespace L2
open PySem PySem.Spec PyProof.Rows
variable {P q:Program}{w:World}{mg mb:Str->Na}{CX:CXT}{a f:Nn}{fd:No}{x qual:Str}{sp:Sp}{l:W.OpenLaw}{n:Nat}{loose ps:NY}{XP:(Str->Na)->Heap->Prop}{YP:World->Heap->Prop}{d:DefRec}{X:Cx}{A B:Prop}{H H':Hp}
theorem AeV:∀{vs:NX} {ns:NF},IntsAre vs ns->Vals (ns.map V.int) vs
 |_,_,.nil=>.nil
 |_,_,.cons n t h=>.cons ⟨t,U⟩ (AeV h)
def Only(H:Hp):Prop:=∀b,H b=none\/∃o xs,H b=some (.frz o (.lst xs))
theorem Anq{K:NO}{k:Nat}{fa:Nn}{c:Nw}{vs:NX}{ns:NF}
  (X:K.In c.heap) (C:c.heap.Ns mainGlobals mg) (f:c.heap.Ns builtinsNs mb) (M:∀x:Str,x≠"__name__" -> mb x=bootBuiltins x) (y:c.heap.NoLimit) (hg:c.gens=#[])
  (J:c.heap.get? a=some {cls:=.type "list",data:=.seq vs.toArray}) (hi:IntsAre vs ns) (Y:ns.length<=sizeLine) (hr:FT k callerA)
  (F:∀base:Heap,K.In base->base.Ns mainGlobals mg->Bm P w K mg base CX k fa fd [x] sp) (l:∀(s:Nw)(u:N0),BindsTo s fd ⟨[u],[]⟩ [(x,u)])
  (Q:∀H:Hp,Only H->SqL K H a (ns.map V.int)->sp [.ref a] H (λv _=>v=.bl true) λ_ _ _=>False)
  (L:∀H e s',CX [] H c (λ_ _ _=>False) e s'->False) :
  codeAny (model P w) callerA (.call (.ref fa) ⟨[.ref a],[]⟩) (λr s'=>r=.ok (.ret (.bool true))/\OldK c.heap s'.heap/\s'.os=c.os/\AllBare s'.gens) c:=by
 have S:=AeV hi;have B:=hi.length;have j:∀H:Hp,Only H->SqL K H a (ns.map V.int)->HOk P w H c.heap->(∀b,H b≠none->b=a)->(H a≠none->K.lookup a=none) ->
   codeAny (model P w) callerA (.call (.ref fa) ⟨[.ref a],[]⟩) (λr s'=>r=.ok (.ret (.bool true))/\OldK c.heap s'.heap/\s'.os=c.os/\AllBare s'.gens) c:=by
  intro H W Z E T hK;have G:∀{b:Nn} {o:Obj},c.heap.get? b=some o->H b=none->(Ah0 c.heap H).get? b=some o:=λe n=>AmW e n;have O:∀{b:Nn} {o:Obj} {es:Array DictEntry} {I:Nat},c.heap.get? b=some o->o.data=.dict es I->H b=none:=λ{b o es I} e d=>by
   cases q:H b with
   |none=>rfl
   |some u =>
    have N:=T b (by rw[q];simp);subst N;rw[J]at e;cases e;have d':=d;cases d'
  have i:∀{b:Nn} {m:Str->Na},c.heap.Ns b m->(Ah0 c.heap H).Ns b m:=λ{b m} ⟨o,es,I,e,d,r⟩=>⟨o,es,I,G e (O e d),d,r⟩;have A:=λb o e=>G (X b o e) (by
   cases q:H b with
   |none=>rfl
   |some u =>
    have N:=T b (by rw[q];simp);subst N;rw[hK (by rw[q];simp)]at e;cases e)
  have hM:Mod K mg (Ah0 c.heap H):=⟨A,i C,⟨mb,i f,M⟩,let ⟨mc,h1,h2⟩:=y;⟨mc,i h1,h2⟩⟩;have e0:AdX P w K mg (Ah0 c.heap H) callerA [] c H:=⟨U,hM,λb o e=>Aqi e,AyV (Al3 _ _),trivial,λb f=>yG (show b∈([]:NW) from f) AB,E,.of_eq hg⟩;refine codeAny_mono ((F _ A (i C)).run callerA [] c H ⟨[.ref a],[]⟩ [.ref a] [.ref a] _ _ hr e0 (l c (.ref a)) (.cons U .nil) (Q H W Z)) λr s' h=>?_;cases r with
  |error e=>exact(L H e s' h).elim
  |ok fl =>
   cases fl with
   |next=>exact yR h
   |brk=>exact yR h
   |cont=>exact yR h
   |ret u =>
    obtain⟨v,H',os,p,un,D,r',q⟩:=h;have q':=q;subst q';obtain rfl:u=Value.bool true:=r';refine⟨U,OldK.of_keep λb o e=>?_,os,p⟩;cases q:H b with
    |none=>exact un.keep b o e q (by intro z;exact yG (show b∈([]:NW) from z) AB) AB
    |some u =>
     rcases W b with z|⟨ob,xs,z⟩
     ·rw[q]at z;cases z
     ·have z2:=un.Iv b ob _ z;obtain⟨R,_⟩:=E b _ z;obtain⟨e2,_⟩:=D b _ z2;rw[e]at R;cases R;exact e2
 cases hk:K.lookup a with
 |some o =>
  have e:=X a o hk;rw[J]at e;cases e;refine j (λ_=>none) (λ_=>.inl U) (.inr ⟨_,vs.toArray,_,hk,U,U,U,by rw[Ayt,B];exact Y,by simpa using S⟩) (λb u z=>AC) (λb z=>yG U z) λz=>yG U z
 |none =>
  refine j (λb=>if b=a then some (.frz {cls:=.type "list",data:=.seq vs.toArray} (.lst (ns.map V.int))) else none) (λb=>?_) (.inl (.inr ⟨{cls:=.type "list",data:=.seq vs.toArray},yF U⟩)) (λb u z=>?_) (λb z=>?_) λ_=>hk
  ·by_cases f:b=a
   ·exact .inr ⟨_,_,yF f⟩
   ·exact .inl (yE f)
  ·by_cases f:b=a
   ·have z':=(yF f).symm.trans z;cases z';subst f;exact⟨J,by rw[AxR];exact Y,vs,_,S,J⟩
   ·simp_all
  ·by_cases f:b=a
   ·exact f
   ·exact yG (yE f) z
abbrev KOf {K:NO} {h:Heap} (_:K.In h):NO:=K
theorem Aq7{k:Nat}{K:Params->NO}{CX:World->CXT}{sp:World->Sp}
  (hn:l.most=some n) (y:n<=sizeLine) (r:d.params.defaults=[]) (O:FT k callerA)
  (M:∀(w:World)(h:Heap),YP w h->(K w.params).In h)
  (F:∀(w:World)(mg:Str->Na)(fa:Nn)(h:Heap),(K w.params).In h->h.Ns mainGlobals mg->mg d.name=some (.ref fa) ->
   ∃fd:No,(∀(s:Nw)(u:N0),BindsTo s fd ⟨[u],[]⟩ [(x,u)]) /\
    ∀base:Heap,(K w.params).In base->base.Ns mainGlobals mg->Bm l.prog w (K w.params) mg base (CX w) k fa fd [x] (sp w))
  (z:∀(w:World)(H:Hp)(a:Nn)(ns:NF),ns.length<=n->Only H->SqL (K w.params) H a (ns.map V.int)->sp w [.ref a] H (λv _=>v=.bl true) λ_ _ _=>False)
  (p:∀(w:World)(H:Hp)(s:Nw)(e:N0)(s':Nw),CX w [] H s (λ_ _ _=>False) e s'->False) :
  W.WalkO q loose XP YP l.row.toRowW d [] (λf vs=>PySem.call f vs):=by
 refine Att.Ah7 hn r λw B j mg mb fa o Q cd P a vs ns G Y R S E A m i c J=>?_;have C:=M w _ Y;obtain⟨fd,D,N⟩:=F w mg fa _ C G.T.g A;exact Anq C G.T.g G.T.b G.T.builtins G.T.nolimit J m i (Ayh c y) O N D (λH L I=>z w H a ns c L I) λH e s'=>p w H j e s'
theorem Anr{k:Nat}{K:Params->NO}{sp:NO->Sp}
  (hn:l.most=some n) (c:n<=sizeLine) (b:d.params.defaults=[]) (o:FT k callerA)
  (m:∀(w:World)(h:Heap),YP w h->(K w.params).In h)
  (F:∀(w:World)(mg:Str->Na)(fa:Nn)(h:Heap),(K w.params).In h->h.Ns mainGlobals mg->mg d.name=some (.ref fa) ->
   ∃fd:No,(∀(s:Nw)(u:N0),BindsTo s fd ⟨[u],[]⟩ [(x,u)]) /\
    ∀base:Heap,(K w.params).In base->base.Ns mainGlobals mg->Bm l.prog w (K w.params) mg base CX k fa fd [x] (sp (K w.params)))
  (j:∀(K:NO)(H:Hp)(a:Nn)(ns:NF),ns.length<=n->Only H->SqL K H a (ns.map V.int)->sp K [.ref a] H (λv _=>v=.bl true) λ_ _ _=>False)
  (i:∀(H:Hp)(s:Nw)(e:N0)(s':Nw),CX [] H s (λ_ _ _=>False) e s'->False) :
  W.WalkO q loose XP YP l.row.toRowW d [] (λf vs=>PySem.call f vs):=
 Aq7 hn c b o m F (λw H a ns h1 h2 h3=>j (K w.params) H a ns h1 h2 h3) λ_ H s e s'=>i H s e s'
def Q9 (s:LL):Arguments:=match s with
 | .FunctionDef _ a _ _ _ _ _ _ _ _=>a
 |_=>{posonlyargs:=[],args:=[],vararg:=none,kwonlyargs:=[],kw_defaults:=[],kwarg:=none,defaults:=[]}
def Jw (s:LL):List Stmt:=match s with
 | .FunctionDef _ _ b _ _ _ _ _ _ _=>b
 |_=>[]
def Ag (s:LL):Scope:=match s with
 | .FunctionDef _ _ _ _ _ _ sc _ _ _=>sc
 |_=>{kind:=.function,names:=[],isGenerator:=false,isCoroutine:=false}
abbrev CX0:CXT:=λ_ _ _ _ _ _=>False
abbrev E0:XK:=λ_ _ _=>False
theorem Ay:Passes CX0 X E0:=λ_ _ _ _ _ _ _ h=>h.elim
structure Fun (K:NO)(x qual:Str)(st:LL)(f:Nn)(fd:No):Prop where
 ex:∃(oc:N0)(od:Option Nn)(kV doc pm:N0)(an:Option Nn)(cdv ct:N0)(osl:Array (Na)),
  fd=W.fnOf x qual (Q9 st) (Jw st) (Ag st) .none kV doc pm an cdv ct/\K.lookup f=some ⟨oc,od,.func fd,osl⟩/\W.codeIn K cdv qual=true
 kp:W.keepIn K (.ref f)=true
section
variable {K:NO}{base:Heap}
theorem Fun.ok{st:LL}{N:NY}{k:Nat}(F:Fun K x qual st f fd)(S:Al N ps (Ag st))
  (b:∀(a:N0)(A:Around)(outer:List Env)(s:Nw)(H:Hp)(vs:LI)(Q:VK)(E:XK),FT k (A.deeper (envOfC qual (Ag st) s.heap.objs.size f a))->sp vs H Q E ->
   ∃t,PSs (ZJ CX0 P w K mg base N qual (Ag st) f a A outer s H E).nox (Jw st) t/\t {nx:=λ_ H'=>Q .non H',rt:=Q} (start N vs) H) (len:∀vs H Q E,sp vs H Q E->vs.length=ps.length:=by intro _ _ _ _ h;cases h;subst_vars;rfl):Bm P w K mg base CX0 (k+1) f fd ps sp:=by
 obtain⟨m,n,kV,j,l,o,a,p,e,rfl,lk,c⟩:=F.ex;refine Asn lk c S len λA outer s H vs Q E i d=>?_;obtain⟨t,h,q⟩:=b a A outer s H vs Q E i d;exact⟨t,h.nox,q⟩
theorem Fun.binds{st:LL}(F:Fun K x qual st f fd)
  (h:∀(kV b c:N0)(d:Option Nn)(a e:N0)(us:NX),us.length=ps.length->bindArgs (W.fnOf x qual (Q9 st) (Jw st) (Ag st) .none kV b c d a e) ⟨us,[]⟩=pure (ps.zip us)):Binds K fd ps []:=by
 obtain⟨l,m,kV,b,c,d,a,e,j,rfl,lk,i⟩:=F.ex;exact .all (h kV b c d a e)
theorem Ajk{st:LL}{j:N0}{m h:Option Nn}{d:Array (Na)}{kV b e a i:N0}(l:K.lookup f=some ⟨j,m,.func (W.fnOf x qual (Q9 st) (Jw st) (Ag st) .none kV b e h a i),d⟩)
  (c:W.codeIn K a qual=true) (k:W.keepIn K (.ref f)=true):Fun K x qual st f (W.fnOf x qual (Q9 st) (Jw st) (Ag st) .none kV b e h a i):=⟨⟨j,m,kV,b,e,h,a,i,d,U,l,c⟩,k⟩
end
theorem Ans{A:Around}{k:Nat}(a:FT k A):A.units+1<cLine:=Azi (Nat.add_le_add_left (by decide:1<=64) _) a.units
theorem AlF(h:n<=1000):n<sizeLine:=Azi h Ap
theorem pv(i:Nat){pos:Pos}(c:X.N[i]?=some x:=by rfl)(b:Vis X.env.scope x:=by first|exact Or.inl U|exact Or.inr NN|exact Or.inr (Or.inr U))(d:(x == ("__debug__":Str))=false:=by decide)
  (a:(x == ("__classdict__":Str))=false:=by decide):PE X (.Name x pos) (AsB i):=AsC c b d a
theorem GQ(h:B):if false=true then A else B:=by rw[yE Ayn];exact h
theorem Kz(h:A):if true=true then A else B:=by rw[yF rfl];exact h
theorem Vz{c:Prop}[Decidable c](hc:c)(h:B):if (!decide c)=true then A else B:=by rw[zN hc];exact GQ h
def Aw (H H':Hp):Prop:=∀b o,H b=some o->H' b=some o
theorem Aw.refl(H:Hp):Aw H H:=λ_ _ h=>h
theorem Aw.trans{H1 H2:Hp}(a:Aw H H1)(b:Aw H1 H2):Aw H H2:=λc o h=>b c o (a c o h)
theorem Aw.free(e:Aw H H'){l:Nn}(h:H' l=Option.none):H l=Option.none:=by
 cases q:H l with
 |none=>rfl
 |some o =>
  rw[e l o q]at h;cases h
theorem Aw.seq{K:NO}{xs:LI}(e:Aw H H')(h:SqL K H a xs):SqL K H' a xs:=by
 rcases h with (h|⟨o,h⟩)|h
 ·exact .inl (.inl (e _ _ h))
 ·exact .inl (.inr ⟨o,e _ _ h⟩)
 ·exact .inr h
end L2
namespace Ar
variable {a b c d:Nat}{x y z:Int}
theorem a1(h:¬a<b):b<=a:=Nat.le_of_not_lt h
theorem a2(h:a<=b)(e:Nat.ble b c=true:=by rfl):a<=c:=Ayh h (Ayk e)
theorem a3:a<=a+b:=Nat.le_add_right a b
theorem a4:a<=b+a:=Nat.le_add_left a b
theorem a5:(0:Int)<=0+↑a:=Au
theorem a7 : -(2:Int)^62<=↑a:=Au
theorem a8(h:a<=b)(e:Nat.ble b 1000000000000=true:=by rfl):(↑a:Int)<2^62:=by have:=Ayk e;omega
theorem a9:(0:Int)<=↑a:=Au
theorem b1(h:(↑a:Int)=↑b):a=b:=Au
theorem b2(h:b=c)(g:a<b):a<c:=h▸g
theorem b3(h:b=c)(g:a<c):a<b:=h▸g
theorem b8(h:a<=b)(g:b<=c):a<=c:=Ayh h g
theorem c1(h:a<=b)(g:b<c):a<c:=Azi h g
theorem c3(h:a<b):a<=b:=Ay3 h
theorem c5(h:a<b):a-1<b:=Au
theorem c7(h:a<b):b-1+1=b:=Au
theorem c8(h:¬a=0):a-1+1=a:=Au
theorem c9(h:a<b):b-1<b:=Au
theorem d1(h:a<b):0<b:=Au
theorem d2(h:a=b):a<=b:=AyV h
theorem d7(h:a+b<=c):a<=c:=Au
theorem d8(h:a+b<=c):b<=c:=Au
theorem d9(h:a+b<c):a<c:=Au
theorem e2(h:a<=b):a<=b+c:=Au
theorem e6(h:x<y):¬y<=x:=Au
theorem e7(h:x<=y):¬y<x:=Au
theorem e9(h:a<=b):¬b<a:=Au
theorem f1:(↑a:Int).toNat=a:=Au
theorem f4(h:a<=b)(e:Nat.ble (b+c) d=true:=by rfl):a+c<=d:=Ayh (Nat.add_le_add_right h c) (Ayk e)
theorem f5(h:a<b):(↑a:Int)<↑b:=Au
theorem f6(h:(↑a:Int)<↑b):a<b:=Au
theorem f7(h:¬x<y):y<=x:=Au
theorem f9(h:¬x<=y):y<x:=Au
theorem g1(h:x<0)(g:0<=x):False:=Au
theorem g2(h:a<b)(e:Nat.ble b (c+1)=true:=by rfl):a<=c:=by have:=Ayk e;omega
theorem g3(h:a<=b)(e:Nat.ble (b+1) c=true:=by rfl):a<c:=by have:=Ayk e;omega
theorem g6(h:a=b)(g:b<=c)(e:Nat.ble c d=true:=by rfl):a<=d:=by have:=Ayk e;omega
theorem h3(h:a=b):a=b:=h
theorem h9(h:a<b)(g:¬a=0):(0:Int)<0+↑a:=Au
theorem i1:a<=a:=AxU a
theorem i2(h:b<=a)(e:Nat.ble c (b+d)=true:=by rfl):c<=a+d:=by have:=Ayk e;omega
theorem i3(h:a<=b)(e:(↑b:Int)=y:=by rfl):¬y<↑a:=Au
theorem i7:((1:Int)+↑a-1).toNat=a:=Au
theorem i8:(0:Int)<=1+↑a-1:=Au
theorem j3(h:a<=b):(↑a:Int)<=↑b:=Au
theorem j4(h:a<b):a+1<=b:=h
theorem j6(h:a<=b):a<b+1:=Au
theorem j8(h:a<=b)(g:b<a):False:=Au
theorem j9(h:a<b)(g:b=a):False:=Au
theorem k3(h:b<a):¬a=b:=Au
theorem k7:min a b<=a:=AyB a b
theorem k9(h:a<b):min a b=a:=Au
theorem l7(h:a=b+c):c<=a:=Au
theorem l8(h:a=b+c):b<=a:=Au
theorem m2:(↑(0+a):Int).toNat=a:=Au
end Ar
namespace L2
open PySem PySem.Spec PyProof.Rows
variable {scope:Scope}{env:Env}{prog P:Program}{w:World}{R:Result->Nw->Prop}{s s':Nw}{elt target iter tg l:Expr}{ifs:List Expr}{pos py spos px:Pos}{X:Cx}{pins:NR}{σ:St}{H H':Hp}{Q:VK}{ex fp:NW}{h h' h₁:Heap}{a c C:Nn}{o:HO}{y x z:Str}{fn:Str->Bool}{q tk i n:Nat}{Nc:NY}{Bp:NV}{cs:List (Str×Nn)}{ye:NU}{m0 m:Str->Na}{tc:TT}{te tl:TE}{D Dn:Ends}{J:It}{Er:Nn->N0->Nw->Prop}{wi:TI}{tW tV:It->St->Hp->VK->Prop}{ys xs:LI}
theorem W8(h:∀y∈scope.names,y.2=.free->∃c,env.cells.lookup y.1=some c) :
  ∃cl,closureFor scope env=pure cl/\(∀x c,cl.lookup x=some c->env.cells.lookup x=some c/\(x,NameKind.free)∈scope.names) /\
   ∀x,(x,NameKind.free)∈scope.names->cl.lookup x=env.cells.lookup x:=by
 have i:∀(l:List (Str×NameKind))(cs:List (Str×Nn)),(∀y∈l,y.2=.free->∃c,env.cells.lookup y.1=some c) ->
   ∃cl,(forIn l cs (λ(x:Str×NameKind)(cs:List (Str×Nn))=>do
     if x.2 == .free then
      let c <-cellOf env x.1
      pure (ForInStep.yield ((x.1,c)::cs))
     else pure (ForInStep.yield cs)):Sem (List (Str×Nn)))=pure cl /\
    (∀x c,cl.lookup x=some c->(env.cells.lookup x=some c/\(x,NameKind.free)∈l)\/cs.lookup x=some c) /\
    ∀x,((x,NameKind.free)∈l->cl.lookup x=env.cells.lookup x)/\((cs.lookup x=env.cells.lookup x)->cl.lookup x=env.cells.lookup x):=by
  intro l
  induction l with
  |nil=>intro cs _;exact⟨cs,U,λx c e=>.inr e,λx=>⟨λz=>yG z AB,λz=>z⟩⟩
  |cons y r q =>
   intro cs p;obtain⟨n,k⟩:=y;by_cases hk:k=.free
   ·subst hk;obtain⟨c,hc⟩:=p (n,.free) AxW U;obtain⟨cl,f,e2,b⟩:=q ((n,c)::cs) λy j=>p y (AxY _ j);refine⟨cl,?_,λx d e=>?_,λx=>⟨λz=>?_,λz=>?_⟩⟩
    ·rw[AyX];simp only [beq_self_eq_true,cellOf,hc];exact f
    ·rcases e2 x d e with ⟨m,s⟩|z
     ·exact .inl ⟨m,AxY _ s⟩
     ·rw[AyC]at z;by_cases o:x == n
      ·rw[o]at z;have a:x=n:=by simpa using o
       subst a;refine .inl ⟨?_,AxW⟩;rw[hc];exact z
      ·have a:(x == n)=false:=by simpa using o
       rw[a]at z;exact .inr z
    ·rcases yC.mp z with z|z
     ·injection z with m _;subst m;refine(b x).2 ?_;rw[hc];simp
     ·exact(b x).1 z
    ·grind
   ·obtain⟨cl,f,e2,b⟩:=q cs λy j=>p y (AxY _ j);grind
 obtain⟨cl,f,e2,b⟩:=i scope.names [] h;refine⟨cl,?_,λx c e=>?_,λx z=>(b x).1 z⟩
 ·unfold closureFor;have:= f
  simpa using this
 ·grind
theorem HF{env:Env}(hk:env.scope.kind=.function):∀{a:List (Str×NameKind)} {x:Str} {k:NameKind},a.lookup x=some k->k≠.free ->
  (a.map λ(n,k)=>if (k == NameKind.free && env.scope.kind == .function && env.kindOf n == some .cell) then (n,NameKind.cell) else (n,k)).lookup x=some k
 |[],_,_,h,_=>by simp at h
 | (n,k')::r,x,k,h,hf=>by
  have c:=@HF env hk r x k;show List.lookup x ((if (k' == NameKind.free && env.scope.kind == .function && env.kindOf n == some .cell)=true then (n,NameKind.cell) else (n,k'))::_)=_;cases b:x == n with
  |true =>
   simp_all
  |false =>
   simp only [AyC,b]at h;by_cases hc:(k' == NameKind.free && env.scope.kind == .function && env.kindOf n == some .cell)=true
   ·rw[yF hc];simp only [AyC,b];exact c h hf
   ·rw[yE hc];simp only [AyC,b];exact c h hf
theorem Kr{env:Env}(hk:env.scope.kind=.function):∀{a:List (Str×NameKind)} {x:Str},a.lookup x=some .free->env.kindOf x=some .cell ->
  (a.map λ(n,k)=>if (k == NameKind.free && env.scope.kind == .function && env.kindOf n == some .cell) then (n,NameKind.cell) else (n,k)).lookup x=some .cell
 |[],_,h,_=>by simp at h
 | (n,k')::r,x,h,hc=>by
  have c:=@Kr env hk r x;show List.lookup x ((if (k' == NameKind.free && env.scope.kind == .function && env.kindOf n == some .cell)=true then (n,NameKind.cell) else (n,k'))::_)=_;cases b:x == n with
  |true =>
   simp_all
  |false =>
   simp only [AyC,b]at h;by_cases d:(k' == NameKind.free && env.scope.kind == .function && env.kindOf n == some .cell)=true
   ·rw[yF d];simp only [AyC,b];exact c h hc
   ·rw[yE d];simp only [AyC,b];exact c h hc
def cxG (X:Cx)(fn:Str->Bool)(Nc:NY)(scope:Scope)(cs:List (Str×Nn))(C:Nn)(fp:NW)(s:Nw)(H:Hp)(ye:NU):Cx where
 prog:=X.prog
 w:=X.w
 K:=X.K
 mg:=X.mg
 base:=X.base
 A:=X.A
 N:=Nc
 s₀:=s
 H₀:=H
 env:=compEnvC scope cs C X.env
 outer:=X.stack
 stack:=X.stack
 ex:=fp
 fn:=fn
 calm:=X.calm
 pn:=[]
 xe:=ye
def Ob (X:Cx)(Nc:NY)(scope:Scope)(cl:List (Str×Nn))(C:Nn)(fp:NW)(s:Nw)(H:Hp):Cx:=cxG X (λ_=>false) Nc scope cl C fp s H λ_ _=>False
def O3 (σ:St)(Bp:NV):St:=Bp.map λj=>(σ[j]?).join
structure CJ (X:Cx)(x:Str)(Nc:NY)(Bp:NV)(scope:Scope):Prop where
 kind:scope.kind=.function
 cell:∀y∈scope.names,y.2≠.cell
 names:∀y∈scope.names,y.2=.local->scope.names.lookup y.1=some .local
 fr:∀y∈scope.names,y.2=.free->X.env.scope.names.lookup y.1=some .cell/\scope.names.lookup y.1=some .free
 loc:scope.names.lookup x=some .local
 len:Nc.length=Bp.length+1
 hd:Nc[0]?=some x
 nd:Nc.Nodup
 cap:∀k j,Bp[k]?=some j->∃y,Nc[k+1]?=some y/\X.N[j]?=some y/\scope.names.lookup y=some .free
theorem AfP{A:Around}{it acc:N0}(I:Nat->Nw->Prop)
  (p:∀n s,I n s->wpAny (model prog w) A (pyNext it) (λr a=>match r with
   |none=>R (.ok .next) a
   |some v=>wpAny (model prog w) A (letOwnedTupleGo target it v) (λ_ l=>wpAny (model prog w) A (assign target env v) (λ_ f =>
     wpAny (model prog w) A (forIn ifs true λc r=>if r=true then do let ok <-isTrue c env (eval c env);pure (ForInStep.yield ok) else pure (ForInStep.yield r)) (λok b =>
      if ok=true then wpAny (model prog w) A (eval elt env) (λx i =>
       wpAny (model prog w) A (call (.builtin "list.append") [acc,x]) (λ_ j=>∃m,m<n/\I m j) (notedBy (model prog w) A env λe s'=>R (.error e) s') i) (notedBy (model prog w) A env λe s'=>R (.error e) s') b
      else ∃m,m<n/\I m b) (notedBy (model prog w) A env λe s'=>R (.error e) s') f) (notedBy (model prog w) A env λe s'=>R (.error e) s') l) (notedBy (model prog w) A env λe s'=>R (.error e) s') a) (notedBy (model prog w) A env λe s'=>R (.error e) s') s)
  (n:Nat) (h:I n s) :
  codeAny (model prog w) A (.compLoop (.ListComp elt [⟨target,iter,ifs,0⟩] scope pos) 0 it acc env) R s:=by
 refine codeAny_loop U I (λn s y=>?_) n h;show wpAny _ A ((compTurn (.ListComp elt [⟨target,iter,ifs,0⟩] scope pos) 0 it acc env).onRaise (λx=>do noteFrame x env;theTreesLotGoes x)) _ _ s;refine wpAny_noted ?_;rw[compTurn_list];refine zA (wpAny_standAt (zA (zT (p n s y) (λr a h₁=>?_) λ_ _ h'=>h')));cases r with
 |none=>exact zE h₁
 |some v =>
  refine zA (zT h₁ (λ_ l h₁=>?_) λ_ _ h'=>h');refine zA (zT h₁ (λ_ f o=>zA (zT o (λok b d=>?_) λ_ _ h'=>h')) λ_ _ h'=>h');cases ok with
  |false=>exact zE ⟨U,d⟩
  |true =>
   exact zA (zA (zT d (λx i u=>zA (zT u (λ_ j q=>zE (zE ⟨U,q⟩)) λ_ _ h'=>h')) λ_ _ h'=>h'))
def AbR:TT:=λ_ H Q=>Q true H
inductive PIf (X:Cx):List Expr->TT->Prop where
 |nil:PIf X [] AbR
 |one {c:Expr} {t:TT} (h:PT X c t):PIf X [c] t
theorem PIf.run{t:TT}(h:PIf X ifs t){Q:Bool->Hp->Prop}(I:Inv X pins σ H s)(a:t σ H Q) :
  wpAny (model X.prog X.w) X.A (forIn ifs true λc r=>if r=true then do let ok <-isTrue c X.env (eval c X.env);pure (ForInStep.yield ok) else pure (ForInStep.yield r)) (TP X pins σ Q) X.xe s:=by
 cases h with
 |nil=>exact wpAny_tests_nil ⟨H,I,a⟩
 |one h=>exact wpAny_tests_one (h pins s σ H Q I a)
def Tq (Bp:NV)(tc:TT)(te:TE)(J:It)(σ:St)(H:Hp)(Q:VK):Prop:=
 ∃W:Nat->Nat->LI->Hp->Prop,(∃m,W 0 m [] H)/\∀i m ys H,W i m ys H ->
  (J.stop i H/\ys.length<=sizeLine/\∀p,H p=none->Q (.ref p) (upd H p (.lst ys))) \/
  (J.go i H/\ys.length<sizeLine/\∀x H',J.yld i H x H'->tc (some x::O3 σ Bp) H' λb H2 =>
   if b=true then te (some x::O3 σ Bp) H2 λy H3=>∃m',m'<m/\W (i+1) m' (ys++[y]) H3 else ∃m',m'<m/\W (i+1) m' ys H2)
abbrev Aq8 (Bp:NV)(tc:TT)(te:TE)(σ:St)(Q:VK)(J:It)(H1:Hp):Prop:=Tq Bp tc te J σ H1 Q
def AeW (wi:TI)(Bp:NV)(tc:TT)(te:TE)(σ:St)(H:Hp)(Q:VK):Prop:=wi σ H (Aq8 Bp tc te σ Q)
theorem Un.track{fs:NW}(u:Un fs ex H H' h h')(f:h.objs.size<=a)(hn:H' a=none):Un fs ex H (upd H' a o) h h' where
 keep:=u.keep
 slot:=u.slot
 free:=λb c q n d=>by rw[Ao (Aye (Ayl (yH q) f))];exact u.free b c q n d
 there:=u.there
 tups:=λb xs q=>by rw[Ao (Bf (u.tups b xs q) hn)];exact u.tups b xs q
 Iv:=λb c xs q=>by rw[Ao (Bf (u.Iv b c xs q) hn)];exact u.Iv b c xs q
 JB:=λb ps q=>by
  obtain⟨m,e⟩:=u.JB b ps q;exact⟨m,by rw[Ao (Bf e hn)];exact e⟩
theorem HOk.track(x:HOk P w H h)(hn:H a=none)(new:Gp P w (upd H a o) h a o):HOk P w (upd H a o) h:=λb u e=>by
 by_cases d:b=a
 ·subst d;rw[Ae]at e;cases e;exact new
 ·rw[Ao d]at e;exact(x b u e).stay (λc v _ q=>q) (λc q=>by rw[Ao (Bf q hn)];exact q) λc xs q=>by rw[Ao (Bf q hn)];exact q
structure Aq9 (X:Cx)(fn:Str->Bool)(scope:Scope)(cs:List (Str×Nn))(C n:Nat):Prop where
 old:∀y c,cs.lookup y=some c->X.env.cells.lookup y=some c\/n<c/\c≠C
 cab:∀y c,fn y=true->cs.lookup y=some c->n<=c
 inj:∀a b c,cs.lookup a=some c->cs.lookup b=some c->n<=c->a=b
 has:∀y,(y,NameKind.cell)∈scope.names->∃c,cs.lookup y=some c
 fr:∀y,(y,NameKind.free)∈scope.names->cs.lookup y=X.env.cells.lookup y
structure Acr (X:Cx)(q:Nat)(Nc:NY)(Bp:NV)(scope:Scope):Prop where
 kind:scope.kind=.function
 names:∀y∈scope.names,y.2=.local->scope.names.lookup y.1=some .local
 fr:∀y∈scope.names,y.2=.free->X.env.scope.names.lookup y.1=some .cell/\scope.names.lookup y.1=some .free
 len:Nc.length=Bp.length+q
 cap:∀k j,Bp[k]?=some j->∃y,Nc[k+q]?=some y/\X.N[j]?=some y/\scope.names.lookup y=some .free
theorem Inv.clt(I:Inv X pins σ H s)(h:X.env.cells.lookup y=some c):c<s.heap.objs.size:=by obtain⟨v,q⟩:=I.cell y c h;exact q.lt
theorem AqA(I:Inv X pins σ H s)(O:Acr X q Nc Bp scope)
  (G:Aq9 X fn scope cs C s.heap.objs.size) (p:s.heap.objs.size<=C) (d:∀b∈fp,Q6 X pins H b) (l:∀b∈fp,b<s.heap.objs.size):(cxG X fn Nc scope cs C fp s H ye).Ok where
 mod:=I.ok.mod
 kind:=O.kind
 glob:=I.ok.glob
 blt:=I.ok.blt
 above:=p
 inj:=λa b c i e2=>by
  rcases G.old a c i with z|z
  ·rcases G.old b c e2 with m|m
   ·exact I.ok.inj a b c z m
   ·exact G.inj a b c i e2 (Ay3 m.1)
  ·exact G.inj a b c i e2 (Ay3 z.1)
 has:=λy u=>by
  obtain⟨k,r,hk⟩:∃k,(y,k)∈(relabel scope X.env).names/\(k=.cell\/k=.free):=u.elim (λh=>⟨_,zW h,.inl U⟩) λh=>⟨_,zW h,.inr U⟩;obtain⟨⟨n,k'⟩,j,e⟩:=yB.mp r;have fr:k'=.free->n=y->∃c,cs.lookup y=some c:=λz m=>by
   subst z m;rw[G.fr _ j];exact I.ok.has _ (.inl (O.fr _ j U).1)
  dsimp only at e;split at e
  ·injection e with i _;refine fr ?_ i;simp_all
  ·injection e with i e2;subst i e2;rcases hk with rfl|rfl
   ·exact G.has _ j
   ·exact fr U rfl
 cab:=λy c z e=>G.cab y c z e
 hd:=I.ok.hd
 frames:=I.ok.frames
 stk:=.inl U
 exf:=λb f=>⟨Aye (Ayl (l b f) p),λy c e=>(G.old y c e).elim (λz=>(d b f).2.2.2.2.1 y c z) λz=>AyE (Azs (l b f) z.1)⟩
 bs:=I.bs
 bsz:=Ayh I.ok.bsz I.sz
 AfE:=λb o e f=>by
  rcases(d b f).2.2.2.1 with z|z
  ·exact I.ok.AfE b o e z
  ·exact yG (Ayl (yH e) (Ayh I.ok.bsz z)) (Ay4 _)
 AfF:=λb f z=>(yC.mp (I.AfG b z)).elim (d b f).2.1 (d b f).2.2.1
 Td:=I.stack
 frf:=I.AbP
theorem Ant(σ:St)(Bp:NV):(O3 σ Bp).length=Bp.length:=by unfold O3;rw[AxR]
theorem Anu{k:Nat}{v:V}(e:(O3 σ Bp)[k]?=some (some v)):∃j,Bp[k]?=some j/\σ[j]?=some (some v):=by
 unfold O3 at e;rw[AxZ]at e;cases hk:Bp[k]? with
 |none=>simp_all
 |some j =>
  rw[hk]at e;have a:(σ[j]?).join=some v:=yI e;refine⟨j,U,?_⟩;cases b:σ[j]? with
  |none=>rw[b]at a;cases a
  |some o=>rw[b]at a;rw[show o=some v from a]
theorem Un.but{fs:NW}{h1 h2:Heap}(u:Un fs ex H H' h h1)(c:Heap.SameBut C h1 h2)(f:h.objs.size<=C):Un fs ex H H' h h2 where
 keep:=λb o q n d a=>(c.2 b (Aye (Ayl (yH q) f))).trans (u.keep b o q n d a)
 slot:=λb o q n d a=>by
  obtain⟨i,e⟩:=u.slot b o q n d a;exact⟨i,(c.2 b (Aye (Ayl (yH q) f))).trans e⟩
 free:=u.free
 there:=λb o q a=>by
  obtain⟨o',e⟩:=u.there b o q a;exact⟨o',(c.2 b (Aye (Ayl (yH q) f))).trans e⟩
 tups:=u.tups
 Iv:=u.Iv
 JB:=u.JB
theorem Ajl(I:Inv X pins σ H s)(O:Acr X q Nc Bp scope)
  (G:Aq9 X fn scope cs C s.heap.objs.size) (J:s.heap.objs.size<=C) (B:∀b∈fp,Q6 X pins H b) (F:∀b∈fp,b<s.heap.objs.size)
  (a:∀b o,s.heap.get? b=some o->h'.get? b=some o) (A:h'.Ns C m0) (E:∀y c,cs.lookup y=some c->s.heap.objs.size<c->∃v,h'.IsCell c v) :
  Inv (cxG X fn Nc scope cs C fp s H ye) [] (List.replicate q none++O3 σ Bp) H {s with heap:=h',toks:=tk} where
 ok:=AqA I O G J B F
 os:=rfl
 bare:=I.bare
 base:=Un.kept a
 loc:=by
  refine⟨m0,A,λi y v M d Q=>?_⟩;rw[List.getElem?_append,Ayx]at d;split at d
  ·simp_all
  ·obtain⟨j,L,K⟩:=Anu d;obtain⟨z,h,w,f⟩:=O.cap _ j L;rw[Nat.sub_add_cancel Au]at h;cases h.symm.trans (M);have n:=zW f;have hk:=(O.fr _ n U).1;obtain⟨m,hn,P⟩:=I.loc;obtain⟨u,r,l⟩:=P j y v w K (.inr (.inl hk));refine⟨u,r,?_⟩;rcases l with ⟨k',_⟩|⟨_,c,hc,o,x,D⟩
   ·cases hk.symm.trans (k')
   ·exact .inr ⟨.inl (Kr I.ok.kind f hk),c,(G.fr y n).trans hc,o,a _ _ x,D⟩
 cell:=λy c e=>by
  rcases G.old y c e with z|z
  ·obtain⟨v,o,x,D⟩:=I.cell y c z;exact⟨v,o,a _ _ x,D⟩
  ·exact E y c e z.1
 free:=I.hok.fresh J
 Lg:=λy c e=>(G.old y c e).elim (I.Lg y c) λz=>I.hok.fresh (Ay3 z.1)
 pin:=λp N=>yG (show p∈([]:NR) from N) AB
 hok:=I.hok.kept a
 len:=by
  show(List.replicate q none++O3 σ Bp).length=Nc.length;rw[AxS,Ayx,Ant,O.len,Nat.add_comm]
abbrev W9 (us:NX)(n:Nat):Obj:={cls:=.type "list",data:=.seq us.toArray n}
theorem Cg{sc0:Scope}(h:X.env.scope=sc0)(a:∀y∈scope.names,y.2=.free->sc0.names.lookup y.1=some .cell/\scope.names.lookup y.1=some .free) :
  ∀y∈scope.names,y.2=.free->X.env.scope.names.lookup y.1=some .cell/\scope.names.lookup y.1=some .free:=by
 rw[h];exact a
def AfQ (g:TG)(q:Nat)(Bp:NV)(tc:TT)(te:TE)(J:It)(σ:St)(H:Hp)(Q:VK):Prop:=
 ∃W:Nat->Nat->LI->Hp->Prop,(∃m,W 0 m [] H)/\∀i m ys H,W i m ys H ->
  (J.stop i H/\ys.length<=sizeLine/\∀p,H p=none->Q (.ref p) (upd H p (.lst ys))) \/
  (J.go i H/\ys.length<sizeLine/\∀x H',J.yld i H x H'->∀os:St,os.length=q->g x (os++O3 σ Bp) H' λσ2 H2=>∃os':St,os'.length=q/\σ2=os'++O3 σ Bp/\tc σ2 H2 λb H2 =>
   if b=true then te σ2 H2 λy H3=>∃m',m'<m/\W (i+1) m' (ys++[y]) H3 else ∃m',m'<m/\W (i+1) m' ys H2)
theorem Aku{g:TG}{it D:Nn}{tn:Nat->Heap->Prop}
   (O:Acr X q Nc Bp scope) (hc:X.calm=true) (G:Aq9 X fn scope cs C s.heap.objs.size)
  (ar:PG (cxG X fn Nc scope cs C fp s H ye) target g) (hte:PE (cxG X fn Nc scope cs C fp s H ye) elt te) (htc:PIf (cxG X fn Nc scope cs C fp s H ye) ifs tc)
  (I:Inv X pins σ H s) (T:Turn X.prog X.w X.K target J fp it tn) (st:tn 0 s.heap) (S:∀b∈fp,Q6 X pins H b) (h:AfQ g q Bp tc te J σ H Q)
  (f:s.heap.objs.size=D) (DC:D<C) (ac:∀b o,s.heap.get? b=some o->h₁.get? b=some o) (ae:h₁.get? D=some (W9 [] 0)) (al:h₁.Ns C m0) (ap:∀y c,cs.lookup y=some c->s.heap.objs.size<c->∃v,h₁.IsCell c v)
  (aw:∀(s':Nw)(m:Str->Na),s'.heap.Ns C m->(∀h',Heap.SameBut C s'.heap h'->∃H',Inv X pins σ H' {s' with heap:=h'}/\H' C=none/\Q (.ref D) H')->R (.ok .next) s')
  (N:∀e s',ye e s'->notedBy (model X.prog X.w) X.A (compEnvC scope cs C X.env) (λe s''=>R (.error e) s'') e s') :
  codeAny (model X.prog X.w) X.A (.compStart (.ListComp elt [⟨target,iter,ifs,0⟩] scope pos) 0 (.ref it) (.ref D) (compEnvC scope cs C X.env)) R {s with heap:=h₁,toks:=tk}:=by
 have l:∀b∈fp,b<D:=λb a=>by
  obtain⟨o,e,_⟩:=T.obj _ _ st b a;exact f▸yH e
 have aa:=T.keep _ _ _ st λb _ o e=>ac b o e;have sC:=f▸Ay3 DC;have u:=Aye DC;generalize hY:cxG X fn Nc scope cs C fp s H ye=Y at *;have I0:Inv Y [] (List.replicate q none++O3 σ Bp) H {s with heap:=h₁,toks:=tk}:=hY▸Ajl I O G sC S (λb a=>f▸l b a) ac al ap;have ao:=I.hok.fresh (AyV f);have ak:D∉Y.fs:=λz=>by
  obtain⟨_,o,e,_⟩:=I.stack.mem (by rw[<-hY]at z;exact z);exact yG (yH e) (by rw[f];exact Ay4 _)
 have av:∀y c,Y.env.cells.lookup y=some c->c≠D:=λy c e=>by
  rw[<-hY]at e;exact(G.old y c e).elim (λz=>Aye (f▸I.clt z)) λz=>AyE (f▸z.1)
 have YC:Y.env.locals=C:=by rw[<-hY];rfl
 have a0:∀{H':Hp} {x:Obj},(∀b∈fp,H' b=none)->∀b∈fp,Q6 Y [(D,x)] H' b:=λ{H' x} hn b a=>by
  have ex:b∈Y.ex:=by rw[<-hY];exact a
  refine⟨hn b a,by rw[YC];exact Aye (Azs (l b a) DC),I0.ok.AfF b ex,.inl ex,(I0.ok.exf b ex).2,λp j=>?_⟩;have e:=zF.mp (by rw[<-hY]at j;exact j);rw[e];exact AyE (l b a)
 obtain⟨W,⟨an,w0⟩,ah⟩:=h;have L:codeAny (model X.prog X.w) X.A (.compLoop (.ListComp elt [⟨target,iter,ifs,0⟩] scope pos) 0 (.ref it) (.ref D) (compEnvC scope cs C X.env)) R {s with heap:=h₁,toks:=tk}:=by
  refine AfP (λn s'=>∃(i:Nat)(os:St)(H':Hp)(ys:LI)(us:NX)(k:Nat),os.length=q/\Inv Y [] (os++O3 σ Bp) H' s'/\tn i s'.heap/\(∀b∈fp,H' b=none)/\s'.heap.get? D=some (W9 us k)/\H' D=none/\Vals ys us/\W i n ys H')
   ?_ an ⟨0,_,H,[],[],0,Ayx,I0,aa,λb a=>(S b a).1,ae,ao,.nil,w0⟩;rintro n s3 ⟨i,o3,H3,ys,us,k,ol,I3,ag,af,au,as,rv,w3⟩;have IP:Inv Y [(D,W9 us k)] (o3++O3 σ Bp) H3 s3:=I3.Xm λp j=>by
   cases zF.mp j;exact⟨au,as,YC▸u,ak,λv z=>by cases z⟩
  have P:∀{σ':St} {H':Hp} {s':Nw} {pl:NR},Inv Y ([(D,W9 us k)]++pl) σ' H' s'->s'.heap.get? D=some (W9 us k)/\H' D=none:=λI'=>by
   have z:=I'.pin (D,W9 us k) (AyA _ (Azg _ AxW));exact⟨z.1,z.2.1⟩
  subst hY;rcases ah i n ys H3 w3 with ⟨ab,B,fin⟩|⟨go,B,step⟩
  ·
   refine zT (T.done (cxG X fn Nc scope cs C fp s H ye) U rfl U hc i _ s3 _ H3 (λ_ _=>False) IP (a0 af) ag ab) (λr s4 hr=>?_) λ_ _ z=>z.elim;obtain⟨rfl,E⟩:=hr;obtain⟨M,nD⟩:=P (by simpa using E);obtain⟨m,hn,_⟩:=E.loc;refine aw s4 m hn λh' a6=>⟨upd H3 D (.lst ys),?_,(Ao (yL u)).trans E.free,fin D nD⟩;have nt:∀b x,H3 b=some x->b≠C:=λb x e z=>by
    subst z;cases e.symm.trans E.free
   have am:HOk X.prog X.w H3 h':=λb x e=>(E.hok b x e).stay (λc v hc q=>(a6.2 c (hc.elim (λz=>z▸nt b x e) λz=>nt c _ z)).trans q) (λ_ q=>q) λ_ _ q=>q;exact I.call' E.os ((Un.but E.base a6 sC).track (AyV f) nD) (am.track nD ⟨B,us,k,rv,(a6.2 D u).trans M⟩) E.bare λb a=>by
    obtain⟨_,g1,_,g3,g4,g5⟩:=S b a;exact⟨g3,g1,g4,g5⟩
  ·
   refine zT (T.item (cxG X fn Nc scope cs C fp s H ye) U rfl U hc i _ s3 _ H3 (λ_ _=>False) IP (a0 af) ag go) (λr s4 hr=>?_) λ_ _ z=>z.elim;obtain⟨u0,rfl,h4⟩:=hr;refine zT h4 (λ_ s5 h5=>?_) λ_ _ z=>z.elim;obtain⟨x5,H5,I5,r5,y5,Z,aq⟩:=h5;refine zT (ar _ s5 _ H5 x5 u0 _ (I5.pinned (a0 aq) (T.obj _ _ Z)) r5 (step x5 _ y5 o3 ol)) (λ_ s6 h6=>?_) N;obtain⟨ax,H6,I6,o6,l6,rfl,q6⟩:=h6;refine zT (htc.run I6 q6) (λb s7 h7=>?_) N;obtain⟨H7,I7,q7⟩:=h7;have aj:∀{σ':St} {H':Hp} {s':Nw},Inv (cxG X fn Nc scope cs C fp s H ye) ([(D,W9 us k)]++Acj fp s5.heap) σ' H' s'->tn (i+1) s'.heap/\∀b∈fp,H' b=none:=λI'=>by
    have p:=λ{b o} a e=>I'.pin (b,o) (AyA _ (AyA _ (W5 a e)));refine⟨T.keep _ _ _ Z λb a o e=>(p a e).1,λb a=>?_⟩;obtain⟨o,e,d⟩:=T.obj _ _ Z b a;exact(p a e).2.1
   cases b with
   |false =>
    obtain⟨m',hm,w7⟩:=(yE Ayn).mp q7;obtain⟨M,nD⟩:=P I7;obtain⟨k1,k2⟩:=aj I7;exact⟨m',hm,i+1,o6,H7,ys,us,k,l6,I7.Xm (λp j=>nomatch j),k1,k2,M,nD,rv,w7⟩
   |true =>
    refine zT (hte _ s7 _ H7 _ I7 q7) (λu8 s8 h8=>?_) N;obtain⟨y8,H8,I8,r8,m',hm,w8⟩:=h8;obtain⟨M,nD⟩:=P I8;obtain⟨k1,k2⟩:=aj I8;refine call_meets zL ⟨_,M,U⟩ F.entry_list_append (F.args_list_append_2 _ _) (PySem.list_append D us.toArray k u8 (by rw[Ayt,<-rv.length];lia)) ⟨M,?_⟩;have q:=PySem.IsL.update M (·.push u8);rw[List.push_toArray]at q;have keep:=λb (a:b≠D)=>zH s8.heap (Obj.mapSeq (·.push u8)) (yL a);exact⟨m',hm,i+1,o6,H8,ys++[y8],us++[u8],_,l6,(I8.Xm (AmX:=[]) (λp j=>nomatch j)).turned (λb o a e=>(keep b a).trans e) nD u (.inr (AyV f)) av (λp j=>nomatch j),T.keep _ _ _ k1 λb a o e=>(keep b (Aye (l b a))).trans e,k2,q,nD,rv.append (.cons r8 .nil),w8⟩
 exact codeAny_compStart_list L (T.self X.A 0 _ _ _ aa L)
def Blk (X:Cx)(target iter elt:Expr)(ifs:List Expr)(scope:Scope)(pos:Pos)(Er:Nn->N0->Nw->Prop)(tW:It->St->Hp->VK->Prop):Prop:=
 ∀{cl:List (Str×Nn)} {pins:NR} {σ:St} {H:Hp} {s:Nw} {J:It} {fp:NW} {it:Nn} {tn:Nat->Heap->Prop} {Q:VK} {RR:N0->Nn->Option Nn->Result->Nw->Prop} {E:NU},
  (∀x c,cl.lookup x=some c->X.env.cells.lookup x=some c/\(x,NameKind.free)∈scope.names)->(∀x,(x,NameKind.free)∈scope.names->cl.lookup x=X.env.cells.lookup x) ->
  Inv X pins σ H s->Turn X.prog X.w X.K target J fp it tn->tn 0 s.heap->(∀b∈fp,Q6 X pins H b)->tW J σ H Q ->
  (∀(D C:Nn)(s':Nw)(m:Str->Na),s'.heap.Ns C m->(∀h',Heap.SameBut C s'.heap h'->∃H',Inv X pins σ H' {s' with heap:=h'}/\H' C=none/\Q (.ref D) H')->s.heap.objs.size<=C->RR (.ref D) C X.env.frame (.ok .next) s') ->
  (∀(D C:Nn)(e:N0)(s':Nw),Er C e s'->RR (.ref D) C X.env.frame (.error e) s') ->
  wpAny (model X.prog X.w) X.A (newList []) (λacc s₃=>wpAny (model X.prog X.w) X.A (newFunctionEnv scope X.env.globals cl [] X.env.qual none .none (some X.env)) (λcenv s₄ =>
   codeAny (model X.prog X.w) X.A (.compStart (.ListComp elt [⟨target,iter,ifs,0⟩] scope pos) 0 (.ref it) acc {cenv with scope:=relabel scope X.env}) (RR acc cenv.locals cenv.frame) s₄) E s₃) E s
theorem Ate{g:TG}(ye:Nn->NW->Nw->Hp->N0->Nw->Prop)
  (O:Acr X q Nc Bp scope) (d:∀y∈scope.names,y.2≠.cell) (hc:X.calm=true) (n:X.env.scope.kind=.function->∀cl C fp s H,PG (cxG X (λ_=>false) Nc scope cl C fp s H (ye C fp s H)) target g)
  (htc:∀cl C fp s H,PIf (cxG X (λ_=>false) Nc scope cl C fp s H (ye C fp s H)) ifs tc) (hte:∀cl C fp s H,PE (cxG X (λ_=>false) Nc scope cl C fp s H (ye C fp s H)) elt te)
  (r:∀{pins σ H s fp C cenv} {R:NU},Inv X pins σ H s->(∀b∈fp,Q6 X pins H b)->s.heap.objs.size<=C->cenv.frame=X.env.frame->(∀e s',Er C e s'->R e s')->∀e s',ye C fp s H e s'->notedBy (model X.prog X.w) X.A cenv R e s') :
  Blk X target iter elt ifs scope pos Er (AfQ g q Bp tc te):=by
 intro cl pins σ H s J fp it B Q RR E f p I T st j h l v;refine wpAny_newObj_type (wpAny_newFunctionEnv d (by intro y x;simp at x) (λh₁ u i=>?_) O.kind);have lt:s.heap.objs.size<(s.heap.push (W9 [] 0)).objs.size:=AC
 have G:Aq9 X (λ_=>false) scope cl (s.heap.push (W9 [] 0)).objs.size s.heap.objs.size:=⟨λy c e=>.inl (f y c e).1,λ_ _ z=>yG z Ayn,λa b c e _ z=>yG (I.clt (f a c e).1) (Nat.not_lt.mpr z),λy x=>yG U (d _ x),p⟩;refine Aku (s:=s) O hc G (n I.ok.kind _ _ _ _ _) (hte _ _ _ _ _) (htc _ _ _ _ _) I T st j h U lt (λb o e=>i.extBut b o (Aye (Azs (yH e) lt)) (zB _ (zB _ e)))
  (i.extBut _ _ (Aye lt) (zB _ (zD _ U))) u (λy c e z=>yG (I.clt (f y c e).1) (Nat.not_lt.mpr (Ay3 z)))
  (λs' m hn k=>l _ _ s' m hn k (Ay3 lt)) (r I j (Ay3 lt) U λe s'=>v _ _ e s')
section
variable (hk:scope.kind=.function) (hn:∀y∈scope.names,y.2=.local->scope.names.lookup y.1=some .local)
 (hfr:∀y∈scope.names,y.2=.free->X.env.scope.names.lookup y.1=some .cell/\scope.names.lookup y.1=some .free) (hi:PI X target iter wi)
theorem Acs{D:Nn}(B:X.N.Nodup)(I:X.N[i]?=some y)(r:X.env.scope.names.lookup y=some .local)(h:Inv X pins σ H s)(hn:s'.heap.Ns C m)
  (x:∀h',Heap.SameBut C s'.heap h'->∃H',Inv X pins σ H' {s' with heap:=h'}/\H' C=none/\HB i (.ref D) σ H' λσ' H''=>Dn.nx σ' H'') (j:s.heap.objs.size<=C) :
  wpAny (model X.prog X.w) X.A (assign (.Name y py) X.env (.ref D)) (λ_ s''=>∃m,s''.heap.Ns C m/\∀h',Heap.SameBut C s''.heap h'->SP X pins Dn .next {s'' with heap:=h'}) X.xe s':=by
 obtain⟨H',F,nC,q⟩:=x s'.heap (.refl ..);have n:=AyE (Ayl h.lt j);have f:∀y c,X.env.cells.lookup y=some c->c≠C:=λy c e=>Aye (Ayl (h.clt e) j);refine wpAny_assign_Name (AeM (F) B I (.inl r) (show RelV (.ref D) (.ref D) from U) (λK v d=>?_) (.inr r));obtain⟨a,d,J⟩:=d;have G:=J.elim (λz=>z▸n) λz=>yL (f _ _ z);exact⟨m,hn.sameBut d G,λL l=>⟨_,H',v.turned (λb o u e=>(l.2 b u).trans e) nC n (.inr (Ayh h.sz j)) f (λp E z=>yG (Ayl (yH (h.pin p E).1) j) (by rw[z];exact Ay4 _)),q⟩⟩
include hk hn hfr hi in
theorem Anv(B:Blk X target iter elt ifs scope pos (λ_ _ _=>False) tW)(l:∀x,foldedSetIterable iter X.env x=pure x) :
  PE X (.ListComp elt [⟨target,iter,ifs,0⟩] scope pos) (λσ H Q=>wi σ H λJ H1=>tW J σ H1 Q):=by
 intro pins s σ H Q I h;rw[eval_ListComp];obtain⟨cl,n,e2,f⟩:=W8 (scope:=scope) (env:=X.env) λy u j=>I.ok.has y.1 (.inl (hfr y u j).1);refine wpAny_comprehension_free (use:=none) U l n hk hn (thn (hi pins s σ H _ I h) λv G h1=>thn h1 λo E ⟨it,fp,K,J,H2,e,c,T,b,d,i⟩=>?_);subst e;exact B (RR:=λacc C _=>compPost (model X.prog X.w) X.A X.xe none (EP X pins σ Q) acc C) e2 f c T b d i (λD C s' m hn p F=>⟨m,hn,λh' a=>by
  obtain⟨H',r,_,q⟩:=p h' a;exact⟨.ref D,H',r,U,q⟩⟩) λ_ _ _ _ z=>z.elim
include hk hn hfr hi in
theorem Ajm(B:Blk X target iter elt ifs scope pos (λ_ _ _=>False) tW)(F:X.N.Nodup)(d:X.N[i]?=some y)(q:X.env.scope.names.lookup y=some .local)
  (a:swapsWith (.ListComp elt [⟨target,iter,ifs,0⟩] scope pos) (some (.Name y py)) spos.line X.env=pure true) (p:∀x,foldedSetIterable iter X.env x=pure x) :
  PS X (.Assign [.Name y py] (.ListComp elt [⟨target,iter,ifs,0⟩] scope pos) spos) (Aby (λσ H Q=>wi σ H λJ H1=>tW J σ H1 Q) (HB i)):=by
 intro pins s σ H Dn I h;rw[exec_Assign_Name_used _ _ _ _ a];refine zA (wpAny_standAt (zA ?_));obtain⟨cl,r,e2,l⟩:=W8 (scope:=scope) (env:=X.env) λy d o=>I.ok.has y.1 (.inl (hfr y d o).1);show wpAny _ X.A (do let _ <-comprehension (.ListComp elt [⟨target,iter,ifs,0⟩] scope pos) scope X.env _ (newList []) false (eval iter X.env) (some (assign (.Name y py) X.env))) _ _ s;refine zA (zT (wpAny_comprehension_free (use:=some (assign (.Name y py) X.env)) (Q:=λ_ s'=>SP X pins Dn .next s') U p r hk hn
  (thn (hi pins s σ H _ I h) λv K h1=>thn h1 λE G ⟨it,fp,L,J,H2,e,f,T,c,j,n⟩=>?_)) (λ_ s' b=>zE (zE b)) λ_ _ e=>e);subst e;exact B (RR:=λacc C _=>compPost (model X.prog X.w) X.A X.xe (some (assign (.Name y py) X.env)) (λ_ s'=>SP X pins Dn .next s') acc C) e2 l f T c j n (λD C s' m hn b u=>Acs F d q f hn b u) λ_ _ _ _ z=>z.elim
end
theorem CJ.g(O:CJ X x Nc Bp scope):Acr X 1 Nc Bp scope:=⟨O.kind,O.names,O.fr,O.len,O.cap⟩
theorem Blk.imp(B:Blk X target iter elt ifs scope pos Er tV)(h:∀{J σ H Q},tW J σ H Q->tV J σ H Q):Blk X target iter elt ifs scope pos Er tW:=
 λa b c d e f w=>B a b c d e f (h w)
theorem Anw(h:Tq Bp tc te J σ H Q):AfQ (HB 0) 1 Bp tc te J σ H Q:=by
 obtain⟨W,c,a⟩:=h;refine⟨W,c,λi m ys H w=>(a i m ys H w).imp id λ⟨g,l,k⟩=>⟨g,l,λx H' y os b=>?_⟩⟩
 match os,b with
 |[o],_=>exact⟨[some x],U,U,k x H' y⟩
theorem AfR(hk:X.env.scope.kind=.function)(b:Nc.Nodup)(hi:Nc[i]?=some x)(a:scope.names.lookup x=some .local) :
  PG (cxG X fn Nc scope cs C fp s H ye) (.Name x px) (HB i):=Bs b hi (.inl (HF hk a nofun)) (.inr (HF hk a nofun))
section
variable (O:CJ X x Nc Bp scope) (hc:X.calm=true) (hi:PI X (.Name x px) iter wi)
 (htc:∀cl C fp s H,PIf (Ob X Nc scope cl C fp s H) ifs tc) (hte:∀cl C fp s H,PE (Ob X Nc scope cl C fp s H) elt te)
include O hc htc hte in
theorem Avs:Blk X (.Name x px) iter elt ifs scope pos (λ_ _ _=>False) (Tq Bp tc te):=
 Blk.imp (Ate (λ_ _ _ _ _ _=>False) O.g O.cell hc (λk _ _ _ _ _=>AfR k O.nd O.hd O.loc) htc hte λ_ _ _ _ _ _ _ z=>z.elim) Anw
include O hc hi htc hte in
theorem CV(a:∀x,foldedSetIterable iter X.env x=pure x:=by intro _;rfl):PE X (.ListComp elt [⟨.Name x px,iter,ifs,0⟩] scope pos) (AeW wi Bp tc te):=Anv O.kind O.names O.fr hi (Avs O hc htc hte) a
end
theorem AfS(O:CJ X x Nc Bp scope)(hc:X.calm=true)
  (d:X.N.Nodup) (e:X.N[i]?=some y) (c:X.env.scope.names.lookup y=some .local) (hi:PI X (.Name x px) iter wi)
  (htc:∀cl C fp s H,PIf (Ob X Nc scope cl C fp s H) ifs tc) (hte:∀cl C fp s H,PE (Ob X Nc scope cl C fp s H) elt te)
  (a:swapsWith (.ListComp elt [⟨.Name x px,iter,ifs,0⟩] scope pos) (some (.Name y py)) spos.line X.env=pure true) (b:∀x,foldedSetIterable iter X.env x=pure x:=by intro _;rfl) :
  PS X (.Assign [.Name y py] (.ListComp elt [⟨.Name x px,iter,ifs,0⟩] scope pos) spos) (Aby (AeW wi Bp tc te) (HB i)):=Ajm O.kind O.names O.fr hi (Avs O hc htc hte) d e c a b
def Its (x:Str):It:=⟨λi _=>i<x.cps.size,λi H v H'=>H'=H/\∃c,x.cps[i]?=some c/\v=.str ⟨#[c]⟩,λi _=>x.cps.size<=i⟩
theorem AlG{K:NO}(it:Nn)(x:Str)(t:Tok):Turn P w K tg (Its x) [it] it (λi h=>i<=x.cps.size/\h.IsStrIter it "str_ascii_iterator" x t i) where
 mem:=AB
 obj:=λi h st b a=>by
  have e:b=it:=by simpa using a
  subst e;obtain⟨_,o,e,c,d⟩:=st;exact⟨o,e,λv z=>AD⟩
 keep:=λi h h' st k=>by
  obtain⟨n,o,e,c,d⟩:=st;exact⟨n,o,k it AB o e,c,d⟩
 item:=by
  intro X r hw q hc i pins s σ H E I l st f;obtain⟨n,st⟩:=st;have f:i<x.cps.size:=f;obtain⟨m,f1,y,p,f4,f5⟩:=l it AB;have u:x.cps[i]?=some x.cps[i]:=AB
  refine wpAny_pyNext_ascii_item st u λh' j B=>?_;have A:Inv X pins σ H {s with heap:=h',toks:=s.toks+1}:=I.turned (λb o a e=>(B.2 b a).trans e) m f1 p f4 f5;obtain⟨o,e,c,d⟩:=id j;exact⟨_,U,Ah1 e c d Ap ⟨.str ⟨#[x.cps[i]]⟩,H,A,⟨_,U⟩,⟨U,_,u,U⟩,⟨f,j⟩,λb a=>(l b a).1⟩⟩
 done:=by
  intro X r hw q hc i pins s σ H E I l st f;subst r hw q;obtain⟨n,st⟩:=st;have f:x.cps.size<=i:=f;obtain⟨m,f1,y,p,f4,f5⟩:=l it AB;exact wpAny_pyNext_ascii_end (I.ok.hd hc) st (by simp;omega) λh' C=>⟨U,I.turned (λb o a e=>C b o a e) m f1 p f4 f5⟩
 self:=λ_ _ _ _ _ st h=>wpAny_pyIter_striter_ascii st.2 h
theorem AlH{K:NO}(it:Nn)(x:Str)(t:Tok):Turn P w K tg (Its x) [it] it (λi h=>i<=x.cps.size/\h.IsStrIter it "str_iterator" x t i) where
 mem:=AB
 obj:=λi h st b a=>by
  have e:b=it:=by simpa using a
  subst e;obtain⟨_,o,e,c,d⟩:=st;exact⟨o,e,λv z=>AD⟩
 keep:=λi h h' st k=>by
  obtain⟨n,o,e,c,d⟩:=st;exact⟨n,o,k it AB o e,c,d⟩
 item:=by
  intro X r hw q hc i pins s σ H E I l st f;obtain⟨n,st⟩:=st;have f:i<x.cps.size:=f;obtain⟨m,f1,y,p,f4,f5⟩:=l it AB;have u:x.cps[i]?=some x.cps[i]:=AB
  refine wpAny_pyNext_wide_item st u λh' j B=>?_;have A:Inv X pins σ H {s with heap:=h',toks:=s.toks+1}:=I.turned (λb o a e=>(B.2 b a).trans e) m f1 p f4 f5;obtain⟨o,e,c,d⟩:=id j;exact⟨_,U,Ah1 e c d Ap ⟨.str ⟨#[x.cps[i]]⟩,H,A,⟨_,U⟩,⟨U,_,u,U⟩,⟨f,j⟩,λb a=>(l b a).1⟩⟩
 done:=by
  intro X r hw q hc i pins s σ H E I l st f;subst r hw q;obtain⟨n,st⟩:=st;have f:x.cps.size<=i:=f;obtain⟨m,f1,y,p,f4,f5⟩:=l it AB;exact wpAny_pyNext_wide_end (I.ok.hd hc) st (by simp;omega) λh' C=>⟨U,I.turned (λb o a e=>C b o a e) m f1 p f4 f5⟩
 self:=λ_ _ _ _ _ st h=>wpAny_pyIter_striter_wide st.2 h
inductive Atg (R:(It->Hp->Prop))(x:V)(H1:Hp):Prop
|mk(z:_)(_:x=.str z)(_:R (Its z) H1)
def AwV (tl:TE)(σ:St)(H:Hp)(R:(It->Hp->Prop)):Prop:=tl σ H (Atg R)
theorem WD(n:PE X l tl):PI X tg l (AwV tl):=by
 intro pins s σ H R I h;refine thn (n pins s σ H _ I h) λv a ⟨x,H1,d,j,m⟩=>?_;obtain⟨z,e,q⟩:=m;subst e;obtain⟨t,rfl⟩:=j;have c:∀b∈[a.heap.objs.size],Q6 X pins H1 b:=λb i=>by
  have e:b=a.heap.objs.size:=by simpa using i
  subst e;exact d.Aja (AxU _) (d.hok.fresh (AxU _))
 cases f:z.cps.all (·<128)
 ·exact wpAny_pyIter_wide f ⟨a.heap.objs.size,[a.heap.objs.size],_,_,H1,U,d.kept λb o e=>zB _ e,AlH _ z t,⟨Ayf _,_,zD _ U,U,U⟩,c,q⟩
 ·exact wpAny_pyIter_ascii f ⟨a.heap.objs.size,[a.heap.objs.size],_,_,H1,U,d.kept λb o e=>zB _ e,AlG _ z t,⟨Ayf _,_,zD _ U,U,U⟩,c,q⟩
theorem AfT{g:TG}{tb:TS}(Pv:Nat->St->Hp->Prop)(l:Pv 0 σ H)
  (j:∀i c σ H,z.cps[i]?=some c->Pv i σ H->g (.str ⟨#[c]⟩) σ H λa H2=>tb {D with nx:=Pv (i+1),ct:=Pv (i+1),bk:=D.nx} a H2) (h:∀σ H,Pv z.cps.size σ H->D.nx σ H) :
  ∃W:Nat->Nat->St->Hp->Prop,(∃m,W 0 m σ H)/\∀i m σ H,W i m σ H ->
   ((Its z).stop i H/\D.nx σ H)\/((Its z).go i H/\∃N:St->Hp->Prop,(∀σ' H',N σ' H'->∃d,d<m/\W (i+1) d σ' H')/\∀x H',(Its z).yld i H x H'->g x σ H' λa H2=>tb {D with nx:=N,ct:=N,bk:=D.nx} a H2):=by
 refine⟨λi m σ H=>m=z.cps.size-i/\i<=z.cps.size/\Pv i σ H,⟨z.cps.size,AB,Ayf _,l⟩,?_⟩;rintro i m σ H ⟨rfl,hi,p⟩;by_cases b:i<z.cps.size
 ·refine .inr ⟨b,Pv (i+1),λσ' H' f=>⟨z.cps.size-(i+1),Au,U,b,f⟩,λx H' y=>?_⟩;obtain⟨e,c,hc,rfl⟩:=y;subst e;exact j i c σ _ hc p
 ·have e:i=z.cps.size:=AA
  subst e;exact .inl ⟨AxU _,h σ H p⟩
def CN (n:Nat)(Pv:Nat->LI->Hp->Prop)(i:Nat)(ys:LI)(H:Hp):Prop:=∃m',m'<n-i/\m'=n-(i+1)/\i+1<=n/\Pv (i+1) ys H
theorem CN.of{Pv:Nat->LI->Hp->Prop}(h:i<n)(p:Pv (i+1) ys H):CN n Pv i ys H:=⟨n-(i+1),AA,U,h,p⟩
def Iz (n:Nat)(Pv:Nat->LI->Hp->Prop)(tc:TT)(te:TE)(σ:St)(i:Nat)(ys:LI)(H:Hp):Prop:=
 tc σ H λb H2=>if b=true then te σ H2 λy H3=>CN n Pv i (ys++[y]) H3 else CN n Pv i ys H2
theorem Iz.no{Pv:Nat->LI->Hp->Prop}(h:te σ H λy H3=>CN n Pv i (ys++[y]) H3):Iz n Pv AbR te σ i ys H:=by unfold Iz AbR;exact Kz h
theorem CK{K:NO}(Pv:Nat->LI->Hp->Prop)(l:Pv 0 [] H)(j:∀i ys H,i<=xs.length->Pv i ys H->SqL K H a xs/\ys.length<=i)
  (n:xs.length<=sizeLine) (f:∀i x ys H,i<xs.length->xs[i]?=some x->Pv i ys H->Iz xs.length Pv tc te (some x::O3 σ Bp) i ys H)
  (d:∀ys H p,Pv xs.length ys H->H p=none->Q (.ref p) (upd H p (.lst ys))):Tq Bp tc te (Itl K a) σ H Q:=by
 refine⟨λi m ys H=>m=xs.length-i/\i<=xs.length/\Pv i ys H,⟨xs.length,AB,Ayf _,l⟩,?_⟩;rintro i m ys H ⟨rfl,hi,p⟩;obtain⟨q,o⟩:=j i ys H hi p;by_cases b:i<xs.length
 ·refine .inr ⟨⟨xs,xs[i],q,AB⟩,AA,λx H' y=>?_⟩;obtain⟨e,y⟩:=y;subst e;exact f i x ys _ b (y xs q) p
 ·have e:i=xs.length:=AA
  subst e;exact .inl ⟨⟨xs,q,AxU _⟩,AA,λc h=>d ys H c p h⟩
theorem Gr{lo:Int}(Pv:Nat->LI->Hp->Prop)(j:Pv 0 [] H)(h:∀i ys H,i<=n->Pv i ys H->ys.length<=i)
  (o:n<=sizeLine) (d:∀i ys H,i<n->Pv i ys H->Iz n Pv tc te (some (.int (lo+i))::O3 σ Bp) i ys H)
  (c:∀ys H p,Pv n ys H->H p=none->Q (.ref p) (upd H p (.lst ys))):Tq Bp tc te (Itr lo n) σ H Q:=by
 refine⟨λi m ys H=>m=n-i/\i<=n/\Pv i ys H,⟨n,AB,Ayf _,j⟩,?_⟩;rintro i m ys H ⟨rfl,hi,p⟩;have l:=h i ys H hi p;by_cases a:i<n
 ·refine .inr ⟨a,AA,λx H' y=>?_⟩;obtain⟨e,y⟩:=y;subst e y;exact d i ys _ a p
 ·have e:i=n:=AA
  subst e;exact .inl ⟨AxU _,AA,λb f=>c ys H b p f⟩
theorem Xq(Pv:Nat->LI->Hp->Prop)(l:Pv 0 [] H)(j:∀i ys H,i<=z.cps.size->Pv i ys H->ys.length<=i)
  (n:z.cps.size<=sizeLine) (f:∀i c ys H,i<z.cps.size->z.cps[i]?=some c->Pv i ys H->Iz z.cps.size Pv tc te (some (.str ⟨#[c]⟩)::O3 σ Bp) i ys H)
  (d:∀ys H p,Pv z.cps.size ys H->H p=none->Q (.ref p) (upd H p (.lst ys))):Tq Bp tc te (Its z) σ H Q:=by
 refine⟨λi m ys H=>m=z.cps.size-i/\i<=z.cps.size/\Pv i ys H,⟨z.cps.size,AB,Ayf _,l⟩,?_⟩;rintro i m ys H ⟨rfl,hi,p⟩;have o:=j i ys H hi p;by_cases a:i<z.cps.size
 ·refine .inr ⟨a,AA,λx H' y=>?_⟩;obtain⟨e,c,hc,rfl⟩:=y;subst e;exact f i c ys _ a hc p
 ·have e:i=z.cps.size:=AA
  subst e;exact .inl ⟨AxU _,AA,λb h=>d ys H b p h⟩
theorem Ajn{ys:NY}:∀{us:NX},Vals (ys.map V.str) us->StrsAre us ys:=by
 induction ys with
 |nil=>intro us r;cases r;exact .nil
 |cons n ns a =>
  intro us r;cases r with
  |cons b r2 =>
   obtain⟨t,e⟩:=b;subst e;exact .cons n t (a r2)
inductive rJoin (K:NO)(x:V)(vs:LI)(H:Hp)(Q:VK):Prop
|mk(z:_)(a:_)(ys:_)(_:x=.str z)(_:vs=[.ref a])(_:SqL K H a (ys.map V.str))(_:(ys.map (·.length)).sum+ys.length*z.length<=16777216)(_:Q (.str (Txt.join z ys)) H)
theorem AqC:MtR X "str.join" (rJoin X.K):=by intro pins s σ H x vs v us Q I b f h;obtain⟨z,a,ys,rfl,rfl,e,c,q⟩:=h;obtain⟨t,rfl⟩:=b;obtain⟨u,rfl,d⟩:=f.one;cases d;obtain⟨its,r,pl,i⟩:=I.list e;exact join_list pl.isList (Ajn (by simpa using r)) c λt' k=>⟨.str _,H,I.tok _,⟨_,U⟩,q⟩
inductive Avt (K:NO)(vs:LI)(H:Hp)(Q:VK):Prop
|mk(x:_)(t:_)(b:_)(_:ZG K H x t)(_:((∃n,vs=[x,.ty n]/\W.kitOne K t (.type n)=some b)\/(∃a,vs=[x,.ref a]/\W.kitOne K t (.ref a)=some b)))(_:Q (.bl b) H)
theorem Anx:Hw X (.builtin "isinstance") (Avt X.K):=by
 intro pins s σ H xs us Q I d h;obtain⟨x,t,b,ty,f,q⟩:=h;rcases f with ⟨n,rfl,e⟩|⟨a,rfl,e⟩
 ·obtain⟨j,i,rfl,c,r2⟩:=d.two;cases r2;exact AeO I c ty e λtk=>⟨.bl b,H,I.tok _,U,q⟩
 ·obtain⟨j,i,rfl,c,r2⟩:=d.two;cases r2;exact AeO I c ty e λtk=>⟨.bl b,H,I.tok _,U,q⟩
def eqL:LI->LI->Bool
 |[],[]=>true
 |x::xs,y::ys=>eqV x y && eqL xs ys
 |_,_=>false
theorem Xr{x:V}(h:Lj x=true):eqV x x=true:=by
 cases x with
 |non=>rfl
 |bl b=>simp[eqV]
 |int i=>simp[eqV]
 |str z=>simp[eqV]
 |_=>exact yG (show false=true from h) Ayn
theorem Ah8:∀{xs:LI},xs.all Lj=true->eqL xs xs=true
 |[],_=>rfl
 |x::xs,h=>by
  rw[Azp,AyM]at h;rw[eqL,Xr h.1,Ah8 h.2];rfl
theorem Akv:∀{xs ys:LI},xs.length≠ys.length->eqL xs ys=false
 |[],[],h=>yG U h
 |[],_::_,_=>rfl
 |_::_,[],_=>rfl
 |x::xs,y::ys,h=>by
  rw[eqL,Akv (xs:=xs) (ys:=ys) (λz=>h (by rw[AxX,AxX,z])),Bool.and_false]
theorem AeX:∀{xs ys:LI},xs.length=ys.length->(List.range xs.length).all (λj=>eqV (xs.getD j .non) (ys.getD j .non))=eqL xs ys
 |[],[],_=>rfl
 |[],_::_,h=>by simp at h
 |_::_,[],h=>by simp at h
 |x::xs,y::ys,h=>by
  have h':xs.length=ys.length:=by simpa using h
  rw[AxX,List.range_succ_eq_map,Azp,Azt];rw[eqL,<-AeX h'];rfl
open PySem
def tx (l:NV):Str:=⟨l.toArray⟩
theorem Ba(l:NV):(tx l).length=l.length:=by simp[tx,Str.length]
theorem M7(l:NV):(tx l).cps.size=l.length:=by simp[tx]
theorem Fv(l:NV):(tx l).cps.toList=l:=by simp[tx]
theorem WK(l:NV)(i:Nat):(tx l).cps[i]?=l[i]?:=by simp[tx]
theorem Avu(z:Str):tx z.cps.toList=z:=by cases z;simp[tx]
theorem Bt(a b:NV):tx a++tx b=tx (a++b):=by show Str.append (tx a) (tx b)=_;simp[tx,Str.append]
theorem Ja{a b:NV}(h:tx a=tx b):a=b:=by
 have:=congrArg (λz:Str=>z.cps.toList) h
 simpa [tx]using this
theorem JT(c:Nat):(⟨#[c]⟩:Str)=tx [c]:=rfl
theorem AeY:∀(ys:NI)(acc:Array Nat),(ys.map tx).foldl (λacc p=>acc++(tx []).cps++p.cps) acc=acc++ys.flatten.toArray
 |[],acc=>AB
 |y::ys,acc=>by
  rw[Ayd,Azq,AeY ys];simp[tx]
theorem GR:∀(ys:NI),Txt.join (tx []) (ys.map tx)=tx ys.flatten
 |[]=>by simp[Txt.join,Builtin.Str.glued,tx,Str.empty]
 |y::ys=>by
  show Str.mk _=_;simp only [Ayd,List.drop_one,List.tail_cons,List.headD_cons];rw[AeY];simp[tx]
theorem Ri{α:Type}(f:α->Nat):∀(l:List α),(l.map λc=>[f c]).flatten=l.map f
 |[]=>rfl
 |a::l=>by rw[Ayd,Ayv,Ri f l];rfl
theorem AlI{α:Type}(f:α->Nat):∀(l:List α),(((l.map λc=>[f c]).map tx).map (·.length)).sum=l.length
 |[]=>rfl
 |a::l=>by
  rw[Ayd,Ayd,Ayd,Ay6,AlI f l,Ba,AxX];show 1+l.length=l.length+1;omega
end L2
namespace PySem
open Sem (wp)
open Builtin Builtin.Str Builtin.Int
namespace RV
theorem mro_reversed:mroOf (.type "reversed")=pure [.type "reversed",.type "object"]:=by rw[mroOf_type];kernel_rfl
theorem lookup_reversed_new:typeLookup (.type "reversed") "__new__"=pure (some (.builtin "reversed.__new__")):=by kernel_rfl
theorem AlJ:Slot "reversed" "__init__" "object.__init__":=
 .of (owner:= "object") (n:= "__init__") (by kernel_rfl) At At At
  (by first|exact .inl At|grind) (by kernel_rfl)
theorem Ab0:TypeCalled "reversed" "reversed.__new__" "object.__init__":=
 ⟨At,At,⟨_,_,mro_reversed⟩,madeBy_type mro_reversed lookup_reversed_new At,At,by kernel_rfl,AlJ⟩
theorem Ajo(a:N0):checkTypeCall "reversed" ⟨[a],[]⟩=pure ():=by kernel_rfl
theorem AlK(a:N0):checkBuiltinCall "reversed.__new__" ⟨[.type "reversed",a],[]⟩=pure ():=by kernel_rfl
theorem AlL:entryFor table "reversed.__new__"=some Builtin.«reversed.__new__»:=entryFor_of_tree (by kernel_rfl)
theorem sub_self:isSubtype (.type "reversed") (.type "reversed")=pure true:=by rw[isSubtype_type];kernel_rfl
theorem AlM:typeLookup (.type "str") "__reversed__"=pure none:=by rw[typeLookup_type,builtinLookup_eq_fast];kernel_rfl
theorem Ajp:isSubtype (.type "str") (.type "dict")=pure false:=by rw[isSubtype_type];kernel_rfl
theorem slot_next:Slot "reversed" "__next__" "reversed.__next__":=
 .of (owner:= "reversed") (n:= "__next__") (by kernel_rfl) At At At
  (by first|exact .inl At|grind) (by kernel_rfl)
theorem entry_next:entryFor table "reversed.__next__"=some Builtin.«reversed.__next__»:=entryFor_of_tree (by kernel_rfl)
theorem Aa6(a:N0):argsOk "reversed.__next__" ⟨[a],[]⟩:=by unfold argsOk;kernel_rfl
theorem AeZ:Slot "reversed" "__iter__" "reversed.__iter__":=
 .of (owner:= "reversed") (n:= "__iter__") (by kernel_rfl) At At At
  (by first|exact .inl At|grind) (by kernel_rfl)
theorem Ajq:entryFor table "reversed.__iter__"=some Builtin.«dict_keyiterator.__iter__» :=
 entryFor_alias (id':= "dict_keyiterator.__iter__") (by kernel_rfl) (by first|rfl|decide +kernel|grind) At (by kernel_rfl)
theorem Ah9(a:N0):argsOk "reversed.__iter__" ⟨[a],[]⟩:=by unfold argsOk;kernel_rfl
theorem Afa:Slot "reversed" "__length_hint__" "reversed.__length_hint__":=
 .of (owner:= "reversed") (n:= "__length_hint__") (by kernel_rfl) At At At
  (by first|grind|exact .inr At) (by kernel_rfl)
theorem Ajr:entryFor table "reversed.__length_hint__"=some Builtin.«reversed.__length_hint__»:=entryFor_of_tree (by kernel_rfl)
theorem AhA(a:N0):argsOk "reversed.__length_hint__" ⟨[a],[]⟩:=by unfold argsOk;kernel_rfl
theorem Avv:typeLookup (.type "reversed") "__len__"=pure none:=by rw[typeLookup_type,builtinLookup_eq_fast];kernel_rfl
theorem hint:typeLookup (.type "reversed") "__length_hint__"=pure (some (.builtin "reversed.__length_hint__")):=by kernel_rfl
end RV
def Ajs (x:Str)(t:Tok)(i:Int):Obj:={cls:=.type "reversed",data:=.fields #[.str x t,rawInt i]}
set_option maxHeartbeats 1000000 in
theorem Acu(x:Str)(t:Tok)(b:¬(x.length:Int) ≥ 2 ^ 63) :
  Meets (Builtin.«reversed.__new__» ⟨[.type "reversed",.str x t],[]⟩) (λ_ R s =>
   R (.ok (.ret (.ref s.heap.objs.size))) {s with heap:=s.heap.push (Ajs x t ((x.length:Int)-1)),toks:=s.toks+1+1}):=
 .of_wp λprog w A R s h=>by
  obtain⟨c,g,d,tk,os⟩:=s;have a:=RV.sub_self;have h1:=RV.AlM;have h2:=RV.Ajp;have h3:=F.slot_str_getitem.lookup
  wp_walk using (PySem.P.len_str b)
  exact⟨_,U,h⟩
def Heap.Ex(h:Heap)(a:Nn)(x:Str)(t:Tok)(i:Int):Prop:=∃o,h.get? a=some o/\o.cls=.type "reversed" /\ o.data=.fields #[.str x t,rawInt i]
theorem Heap.Ex.typeIs{s:Nw}{a:Nn}{x:Str}{t:Tok}{i:Int}(y:s.heap.Ex a x t i):s.TypeIs (.ref a) "reversed":= let ⟨o,ho,hc,_⟩:=y;⟨o,ho,hc⟩
theorem Heap.Ex.at{h h':Heap}{a:Nn}{x:Str}{t:Tok}{i:Int}(y:h.Ex a x t i)(e:∀o,h.get? a=some o->h'.get? a=some o):h'.Ex a x t i:=let ⟨o,ho,r⟩:=y;⟨o,e _ ho,r⟩
section
variable {prog:Program}{w:World}{A:Around}{E:NU}{s:Nw}
theorem HH{x:Str}{t:Tok}{Q:NU}(b:¬(x.length:Int) ≥ 2 ^ 63)
  (h:Q (.ref s.heap.objs.size) {s with heap:=s.heap.push (Ajs x t ((x.length:Int)-1)),toks:=s.toks+1+1}):wpAny (model prog w) A (call (.type "reversed") [.str x t]) Q E s:=
 callType_new RV.Ab0 Ap (RV.Ajo _) (RV.AlK _) (λa=>F.args_object_init_2 a _) RV.AlL (Acu x t b) ⟨⟨_,zD _ U,U⟩,h⟩
theorem M8{it:Nn}{x:Str}{t:Tok}{i:Int}{Q:NU}(a:s.heap.Ex it x t i)(h:Q (.ref it) s):wpAny (model prog w) A (pyIter (.ref it)) Q E s:=by refine wpAny_pyIter_slot a.typeIs RV.AeZ (yV RV.AeZ a.typeIs RV.Ajq ?_ (RV.Ah9 _));exact zE ⟨_,U,"reversed",_,a.typeIs,RV.slot_next.lookup,h⟩
theorem O4{it:Nn}{x:Str}{t:Tok}{i c:Nat}{Q:Na->Nw->Prop}(a:s.heap.Ex it x t (i:Int))(e:x.cps[i]?=some c)(j:¬(x.length:Int) ≥ 2 ^ 63)
  (h:∀h' u tk,h'.Ex it x t ((i:Int)-1)->Heap.SameBut it s.heap h'->Q (some (.str ⟨#[c]⟩ u)) {s with heap:=h',toks:=tk}):wpAny (model prog w) A (pyNext (.ref it)) Q E s:=by
 obtain⟨o,d,hc,b⟩:=id a;have hi:i<x.length:=(Array.getElem?_eq_some_iff.mp e).1;refine zA (wpAny_attempt (wpAny_callSpecial?_slot a.typeIs RV.slot_next
  (yV RV.slot_next a.typeIs RV.entry_next ?_ (RV.Aa6 _))));refine zA (wpAny_of_eq U ?_);refine zA (z9 d b (x:=.str x t) U ?_);refine zA (z9 d b (x:=rawInt (i:Int)) U ?_);refine zA (wpAny_specialOf (typeIs_str s x t) F.slot_str_getitem.lookup ?_);refine zA (wpAny_mkInt ?_);have f:seqIndex? (i:Int) x.length=some i:=by
  have:= PySem.StrLaws.seqIndex_nonneg (i:=(i:Int)) (n:=x.length) AA AA
  simpa using this
 refine zA (wpAny_attempt (PySem.P.getItem_str (by
  grind) (by rw[f];exact e) ?_))
 refine zA (z9 d b (x:=rawInt (i:Int)) U ?_);refine zA (wpAny_setField d b AB ?_);refine zE ⟨_,U,zE (h _ _ _ ?_ (Heap.SameBut.update ..))⟩;exact⟨_,zR _ d (Obj.isFreed_of_fields (zX b _)),(Obj.cls_mapFields ..).trans hc,by
  rw[zX b];simp⟩
theorem Rj{it:Nn}{x:Str}{t:Tok}{Q:Na->Nw->Prop}(j:A.handled=none)(b:s.heap.Ex it x t (-1))
  (l:∀h',Heap.ExtBut it s.heap h'->(∃o,h'.get? it=some o)->Q none {s with heap:=h'}):wpAny (model prog w) A (pyNext (.ref it)) Q E s:=by
 obtain⟨o,f,hc,e⟩:=id b;refine zA (wpAny_attempt (wpAny_callSpecial?_slot b.typeIs RV.slot_next
  (yV RV.slot_next b.typeIs RV.entry_next ?_ (RV.Aa6 _))));refine zA (wpAny_of_eq U ?_);refine zA (z9 f e (x:=.str x t) U ?_);refine zA (z9 f e (x:=rawInt (-1)) U ?_);refine zA (wpAny_rule ?_);refine zA ?_;refine zA (wpAny_setField f e AB ?_);have c:=zR (Obj.mapFields λvs=>vs.set! 1 (rawInt (-1))) f (Obj.isFreed_of_fields (zX e _));have d:=zX e λvs=>vs.set! 1 (rawInt (-1));refine wpAny_setField c d AB ?_;have i:=zX d λvs=>vs.set! 0 Value.none;have h:=zR (Obj.mapFields λvs=>vs.set! 0 Value.none) c (Obj.isFreed_of_fields i);refine zA ?_;refine zA ?_;refine zA (wpAny_newObj_type ?_ (by size_fits));refine zA (wpAny_of_eq (a:=Value.none) (by first|rfl|grind) ?_);refine wpAny_newObj_type ?_ (by size_fits);refine zA (wpAny_handled ?_)
 first|grind|rw[j]
 refine zA (zE (wpAny_throw ?_));refine zA (wpAny_isInstance ⟨_,zD _ U,U⟩ isSubtype_stop ?_);refine zE (l _ ((((Heap.SameBut.update ..).extBut.trans (Heap.SameBut.update ..).extBut).push _).push _) ⟨_,zB _ (zB _ h)⟩)
theorem Acv{it:Nn}{x:Str}{t:Tok}{Q:NU}(d:¬(x.length:Int) ≥ 2 ^ 63)(a:s.heap.Ex it x t ((x.length:Int)-1))
  (h:∀u tk,s.toks<=tk->Q (.int x.length u) {s with toks:=tk}):wpAny (model prog w) A (call (.builtin "reversed.__length_hint__") [.ref it]) Q E s:=by
 obtain⟨o,b,hc,c⟩:=id a;refine yV RV.Afa a.typeIs RV.Ajr ?_ (RV.AhA _);refine zA (wpAny_of_eq U ?_);refine zA (z9 b c (x:=.str x t) U ?_);refine zA (PySem.P.len_str d ?_);refine zA (zE ?_);refine zA (z9 b c (x:=rawInt ((x.length:Int)-1)) U ?_);show wpAny _ _ (if (x.length:Int)<(x.length:Int)-1+1 then _ else retInt ((x.length:Int)-1+1)) _ _ _;rw[yE Au,show(x.length:Int)-1+1=x.length by omega];refine zA (wpAny_mkInt (zE ⟨_,U,h _ _ ?_⟩));show s.toks<=s.toks+1+1+1;lia
theorem V1{R:Result->Nw->Prop}{I:Nn}{x:Str}{t:Tok}(P:A.handled=none)(O:x.length<=sizeLine)(S:Nn)(l:S≠I)(m:N0) :
  ∀(k i:Nat)(s:Nw)(acc:Array N0)(c:Nat),x.cps.size-i=k->i<=x.cps.size->s.heap.Ex I x t ((x.cps.size:Int)-1-(i:Int)) ->
  s.heap.get? S=some {cls:=.type "list",dict:=none,data:=.seq acc c,slots:=#[]}->ItemsOf (λi v=>∃c u,x.cps[x.cps.size-1-i]?=some c/\v=.str ⟨#[c]⟩ u) acc i ->
  (∀h' tk d E,(∀b o,b≠S->b≠I->s.heap.get? b=some o->h'.get? b=some o)->(∃o,h'.get? I=some o)->h'.get? S=some {cls:=.type "list",dict:=none,data:=.seq d E,slots:=#[]} ->
   ItemsOf (λi v=>∃c u,x.cps[x.cps.size-1-i]?=some c/\v=.str ⟨#[c]⟩ u) d x.cps.size->R (.ok (.ret m)) {s with heap:=h',toks:=tk}) ->
  codeAny (model prog w) A (.builtin "list.extend.loop" ⟨[.ref S,.ref I,m],[]⟩) R s:=by
 have W:=z7;have B:¬(x.length:Int) ≥ 2 ^ 63:=AA
 have hn:x.cps.size<=sizeLine:=O;intro k
 induction k with
 |zero =>
  intro i s acc c hk hi f D a C;have L:i=x.cps.size:=Au
  subst L;refine codeAny_builtin F.entry_extend_loop ?_;rw[Around.under_plainId F.plain_extend_loop _];have e:(x.cps.size:Int)-1-(x.cps.size:Int) = -1:=AA
  rw[e]at f;refine zA (Rj (by exact P) f λh' z G=>?_);exact zE (C h' s.toks acc c (λb o _ Q q=>z b o Q q) G (z S _ l D) a)
 |succ k T =>
  intro i s acc c hk hi f D a C;have J:i<x.cps.size:=AA
  refine codeAny_builtin F.entry_extend_loop ?_;have e:(x.cps.size:Int)-1-(i:Int)=((x.cps.size-1-i:Nat):Int):=AA
  rw[e]at f;have N:x.cps[x.cps.size-1-i]?=some (x.cps[x.cps.size-1-i]' Au):=zP Au;refine zA (O4 f N B λh' u tk h p=>?_);have e2:((x.cps.size-1-i:Nat):Int)-1=(x.cps.size:Int)-1-((i+1:Nat):Int):=AA
  rw[e2]at h;have r:=(p.2 S l).trans D;refine zA ?_;refine wpAny_updateSeq r U (zE ⟨plainId_quiet F.plain_extend_loop _,T (i+1) _ (acc.push _) _ AA J (h.at λo q=>(zH _ _ l).trans q) (zR _ r U) (a.push ⟨_,u,N,U⟩) λh2 K d E kp H M j=>?_⟩)
   (by rw[a.1];lia) (by rw[Array.size_push,a.1];lia);exact C h2 K d E (λb o y n q=>kp b o y n ((zH _ _ (yL y)).trans ((p.2 b n).trans q))) H M j
abbrev RvP (x:Str):Nat->N0->Prop:=λi v=>∃c u,x.cps[x.cps.size-1-i]?=some c/\v=.str ⟨#[c]⟩ u
theorem Acw{M I:Nn}{x:Str}{t:Tok}{c:Nat}(O:A.handled=none)(B:x.length<=sizeLine)(a:s.heap.Ex I x t ((x.length:Int)-1))(n:M≠I)(h:s.heap.get? M=some {cls:=.type "list",data:=.seq #[] c}) (C:N0)
  (fin:∀h' tk acc D,(∀b o,b≠M->b≠I->s.heap.get? b=some o->h'.get? b=some o)->h'.get? M=some {cls:=.type "list",dict:=none,data:=.seq acc D,slots:=#[]}->ItemsOf (RvP x) acc x.cps.size->(∃o,h'.get? I=some o)->R (.ok (.ret C)) {s with heap:=h',toks:=tk}) :
  wpAny (model prog w) A.in1 (Builtin.List.listExtendWith (.ref M) (.ref I) C)
   (λf s'=>match f with|.done d=>R (.ok d) s'|.again k=>k.quiet=true/\codeAny (model prog w) A k R s') (λe s'=>R (.error e) s') s:=by
 have T:=z7;have J:¬(x.length:Int) ≥ 2 ^ 63:=AA
 have h1:Builtin.List.listSameRef (.ref M) (.ref I)=false:=by simp[Builtin.List.listSameRef,n]
 have m:=a.typeIs;refine zA (wpAny_typeOf m ?_);rw[yE (by rw[h1];decide)];refine zA (M8 a ?_);refine zA (z8 ?_);refine zA (wpAny_specialOf m RV.Avv ?_);refine zA (wpAny_specialOf m RV.hint ?_);refine zA (wpAny_isInstance (b:=true) m (by kernel_rfl) ?_);refine zA (wpAny_rule ?_);refine zA (wpAny_of_eq (RV.Afa.bind _) ?_);refine zA (wpAny_attempt (Acv J a λu tk S=>?_));have N:∃k:Int,k=(x.length:Int):=⟨_,U⟩;obtain⟨k,hk⟩:=N;rw[<-hk];refine zA (zE ?_)
 try dsimp only
 have f1:Builtin.List.listFitsIndex k=true:=by
  unfold Builtin.List.listFitsIndex;lia
 have P:Builtin.List.listTooLong k.toNat=false:=by
  exact zJ AA
 rw[yE (by rw[f1];decide),yE Au,yE (by rw[P];decide)];refine zE ?_;have G:(x.cps.size:Int)-1-((0:Nat):Int)=(x.length:Int)-1:=by show(x.cps.size:Int)-1-((0:Nat):Int)=(x.cps.size:Int)-1;lia
 by_cases Q:x.length=0
 ·have K:(k != 0)=false:=by rw[hk,Q];rfl
  rw[K];have y:s.heap.Ex I x t ((x.cps.size:Int)-1-((0:Nat):Int)):=by rw[G];exact a
  refine zE ⟨plainId_quiet F.plain_extend_loop _,?_⟩;refine V1 O B _ n _ _ 0 {s with toks:=tk} #[] _ rfl (Ayf _) y h (ItemsOf.nil _) λh' r i D kp p v j=>?_;exact fin h' r i D (λb o H L q=>kp b o H L q) v j p
 ·have K:(k != 0)=true:=by simp;lia
  rw[K];refine zA (wpAny_rule ?_);refine zA ?_;refine zA (wpAny_updateSeq h U ?_);have l:=zR (Obj.mapSeq (·.push Value.none)) h U;refine wpAny_updateSeq l U ?_;have z:=zR (Obj.mapSeq (·.pop)) l U;have E:∀b o,b≠M->s.heap.get? b=some o->((s.heap.update M (Obj.mapSeq (·.push Value.none))).update M (Obj.mapSeq (·.pop))).get? b=some o:=
   λb o B e=>(zH _ _ (yL B)).trans ((zH _ _ (yL B)).trans e);have y:((s.heap.update M (Obj.mapSeq (·.push Value.none))).update M (Obj.mapSeq (·.pop))).Ex I x t ((x.cps.size:Int)-1-((0:Nat):Int)):=by
   rw[G];exact a.at λo q=>E I o (yL n) q
  refine zE ⟨plainId_quiet F.plain_extend_loop _,?_⟩;refine V1 O B _ n _ _ 0
   {s with heap:=(s.heap.update M (Obj.mapSeq (·.push Value.none))).update M (Obj.mapSeq (·.pop)),toks:=tk} #[] _ rfl (Ayf _) y z (ItemsOf.nil _) λh' r i D kp p v j=>?_;exact fin h' r i D (λb o H L q=>kp b o H L (E b o H q)) v j p
theorem AfU{I:Nn}{x:Str}{t:Tok}{Q:NX->Nw->Prop}(z:A.handled=none)(r:x.length<=sizeLine)(d:s.heap.Ex I x t ((x.length:Int)-1))
  (B:∀h' tk acc,(∀b o,b≠I->s.heap.get? b=some o->h'.get? b=some o)->(∃o,h'.get? I=some o)->ItemsOf (λi v=>∃c u,x.cps[x.cps.size-1-i]?=some c/\v=.str ⟨#[c]⟩ u) acc x.cps.size->Q acc.toList {s with heap:=h',toks:=tk}) :
  wpAny (model prog w) A (collect (.ref I)) Q E s:=by
 have l:s.heap.objs.size≠I:=by
  obtain⟨o,y,_⟩:=d;exact(Aye (yH y)).symm
 have a:(s.heap.push {cls:=.type "list",data:=.seq ([]:NX).toArray}).get? s.heap.objs.size=some {cls:=.type "list",data:=.seq ([]:NX).toArray}:=zD _ U;have j:∀R:Result->Nw->Prop,(∀h' tk acc p,(∀b o,b≠s.heap.objs.size->b≠I->(s.heap.push {cls:=.type "list",data:=.seq ([]:NX).toArray}).get? b=some o->h'.get? b=some o)->h'.get? s.heap.objs.size=some {cls:=.type "list",dict:=none,data:=.seq acc p,slots:=#[]}->ItemsOf (RvP x) acc x.cps.size->(∃o,h'.get? I=some o)->R (.ok (.ret (.ref s.heap.objs.size))) {s with heap:=h',toks:=tk})->codeAny (model prog w) A (.builtin "proto.collect" ⟨[.ref I],[]⟩) R s:=λR fin=>codeAny_builtin F.entry_proto_collect (zA (wpAny_newObj_type (zE ⟨plainId_quiet F.plain_list_iadd _,codeAny_builtin F.entry_list_iadd (Acw (s:={s with heap:=s.heap.push {cls:=.type "list",data:=.seq ([]:NX).toArray} }) z r (d.at λo e=>zB _ e) l a _ fin)⟩)));refine zA (wpAny_runValue (j _ λh' tk acc p kp n f m=>?_));refine zA (wpAny_load n ?_);exact zE (B h' tk acc (λb o h q=>kp b o (Aye (yH q)) h (zB _ q)) m f)
theorem AlN{I:Nn}{sep x:Str}{t u:Tok}{Q:NU}(M:A.handled=none)(N:x.length<=1000)(P:sep.length<=16)(i:s.heap.Ex I x t ((x.length:Int)-1))
  (h:∀h' t' k,(∀b o,b≠I->s.heap.get? b=some o->h'.get? b=some o)->(∃o,h'.get? I=some o)->Q (.str (Txt.join sep (x.cps.toList.reverse.map λc=>⟨#[c]⟩)) t') {s with heap:=h',toks:=k}) :
  wpAny (model prog w) A (call (.builtin "str.join") [.str sep u,.ref I]) Q E s:=by
 have T:=z7;refine wpAny_call (codeAny_call_builtin zS.plain F.entry_str_join (zS.check _ _ _ _ _ _ _ _ (typeIs_str _ _ _) (F.args_str_join_2 _ _) ?_));rw[join_tree_other];refine zA (wpAny_typeOf i.typeIs ?_);refine zA (wpAny_tryCatch (M8 i ?_));refine zA (AfU (by exact M) AA i λh' L acc K C d=>?_);obtain⟨l,m⟩:=exists_strValues acc.toList λv O=>by
  obtain⟨j,y,rfl⟩:=Array.mem_iff_getElem.mp (Array.mem_toList_iff.mp O);obtain⟨c,u,_,e⟩:=d.2 j _ (zP y);exact⟨_,u,e⟩
 rw[<-m];have n:l.map (·.1)=x.cps.toList.reverse.map λc=>(⟨#[c]⟩:Str):=by
  have J:l.length=x.cps.size:=by
   have:= congrArg List.length m;simp only [strValues,AxR,zK,d.1]at this;exact this
  apply Azj;intro j;rw[AxZ,AxZ];by_cases y:j<x.cps.size
  ·have z:j<acc.size:=by rw[d.1];exact y
   obtain⟨c,u,G,e2⟩:=d.2 j _ (zP z);have g:(strValues l)[j]?=some (.str ⟨#[c]⟩ u):=by
    simp_all
   have g2:l[j]?=some (⟨#[c]⟩,u):=by
    unfold strValues at g;rw[AxZ]at g;cases D:l[j]? with
    |none=>simp_all
    |some p =>
     rw[D]at g;obtain⟨p1,p2⟩:=p;have g':Value.str p1 p2=Value.str ⟨#[c]⟩ u:=yI g;injection g' with a b;rw[a,b]
   rw[g2,Azu (by simpa using y)];simp only [zK,zO,G];rfl
  ·grind
 have H:JoinOk sep (l.map (·.1))=true:=by
  rw[n];unfold JoinOk;rw[StrLaws.joinTotal];have G:((x.cps.toList.reverse.map λc=>(⟨#[c]⟩:Str)).map (·.length)).sum=x.cps.size:=by
   have:∀(l:NV),((l.map λc=>(⟨#[c]⟩:Str)).map (·.length)).sum=l.length:=by
    intro l
    induction l with
    |nil=>rfl
    |cons a r S=>simp only [Ayd,Ay6,AxX,S];show 1+_=_;lia
   rw[this];simp
  rw[G];simp only [AxR,Ay1,zK];have R:x.cps.size<=1000:=N;have K:=Nat.mul_le_mul R P;unfold tooLong;rw[zJ Au];rfl
 have f:=H;unfold JoinOk at f;rw[Bool.not_eq_true']at f;have g:Gives (joinTail sep (strValues l)) (joinMade sep l):=by
  have B:=gives_joinTail sep l f;cases l with
  |nil=>exact B
  |cons p r=>cases r with
   |nil=>exact B
   |cons q W=>exact B
 refine g prog w A (wants Q E) _ (post_join l ⟨joinFit_length f,λt' k=>?_⟩);rw[n];exact h h' t' k K C
end
end PySem
namespace L2
open PySem PySem.Spec PyProof.Rows
variable {X:Cx}{c:Prop}{A:Around}{B h h2 h':Heap}{b had:Bool}{H H1 H':Hp}{p a C f ea Ch z it:Nn}{o tg e value:Expr}{i n j tk t' n1 n2 kx:Nat}{ns:NF}{v y:V}{α κ:Type}{l:List Env}{tl ta tv td ty:TE}{es:List Expr}{x qual m q:Str}{apos cpos np pos pos' tpos tp:Pos}{T nid nC nD:String}{env:Env}{fl tb cd u:N0}{M:Model}{E:XK}{s s':Nw}{Q:Unit->Nw->Prop}{P prog:Program}{w:World}{pins:NR}{σ:St}{E':NU}{bmB ds us:NX}{mg:Str->Na}{N ps ys:NY}{scope sc:Scope}{fd:No}{sp:Sp}{dvs:LI}{D:List (Str×Str)}{body:List LL}{pl:Sem Bool}{CX:CXT}{kvs:List (Key×V)}{fp1 fp2:NW}{P1 P2:Nat->N0->Prop}{S1 S2:Nat->Heap->Prop}{S:Src}
def Ath (p:Nn)(x:Str):HO:=.ext λh=>∃t,h.Ex p x t ((x.length:Int)-1)
def Avw (p:Nn):HO:=.ext λh=>∃o,h.get? p=some o
inductive AdZ (xs:LI)(H:Hp)(Q:VK):Prop
|mk(z:_)(_:xs=[.str z])(_:z.length<=sizeLine)(_:∀p,H p=none->Q (.ref p) (upd H p (Ath p z)))
theorem Aa7:Hw X (.type "reversed") AdZ:=by
 intro pins s σ H xs us Q I d h;obtain⟨z,rfl,f,q⟩:=h;obtain⟨u,rfl,c⟩:=d.one;obtain⟨t,rfl⟩:=c;have i:sizeLine=16777216:=z7;refine HH Au ?_;have a:(s.heap.push (Ajs z t ((z.length:Int)-1))).get? s.heap.objs.size=some (Ajs z t ((z.length:Int)-1)):=zD _ U;refine⟨.ref s.heap.objs.size,_,I.laid (o:=Ath s.heap.objs.size z) (λb o e=>zB _ e) (AxU _) ?_,U,q _ (I.hok.fresh (AxU _))⟩;exact⟨⟨t,_,a,U,U⟩,⟨_,a⟩,λh1 h2 y k=>by
  obtain⟨t',y⟩:=y;exact⟨t',y.at k⟩⟩
inductive AfV (x:V)(vs:LI)(H:Hp)(Q:VK):Prop
|mk(z:_)(y:_)(p:_)(_:x=.str z)(_:vs=[.ref p])(_:H p=some (Ath p y))(_:z.length<=16)(_:y.length<=1000)(_:Q (.str (Txt.join z (y.cps.toList.reverse.map λc=>⟨#[c]⟩))) (upd H p (Avw p)))
theorem Acx(hc:X.calm=true:=by rfl):MtR X "str.join" AfV:=by
 intro pins s σ H x vs v us Q I l j h;obtain⟨z,y,p,rfl,rfl,d,m,n,q⟩:=h;obtain⟨t,rfl⟩:=l;obtain⟨u,rfl,i⟩:=j.one;cases i;obtain⟨⟨t',c⟩,⟨o,w⟩,_⟩:=I.hok p _ d;refine AlN (I.ok.hd hc) n m c λh' r k kp a=>⟨.str _,_,I.write (t':=k) (x:=p) (e:=p) (o:=Avw p) (by rw[d];exact trivial) (.inl U) (λb u f e=>kp b u f e) a ?_,⟨_,U⟩,q⟩;exact⟨a,a,λh1 h2 y k=>by
  obtain⟨o,y⟩:=y;exact⟨o,k o y⟩⟩
theorem DQ{A B:Prop}[Decidable c](h:¬c)(k:B):if decide c=true then A else B:=by rw[zJ h];exact GQ k
theorem I9{A B:Prop}[Decidable c](h:c)(k:A):if decide c=true then A else B:=by rw[zN h];exact Kz k
theorem Acy{A B:Prop}[Decidable c](h:¬c)(k:A):if (!decide c)=true then A else B:=by rw[zJ h];exact Kz k
theorem Ati{A B:Prop}(h1:b=true->A)(h2:b=false->B):if b=true then A else B:=AC
theorem CP{A B:Prop}[Decidable c](h1:c->A)(h2:¬c->B):if decide c=true then A else B:=by
 by_cases h:c
 ·exact I9 h (h1 h)
 ·exact DQ h (h2 h)
theorem Aw.upd{o:HO}(h:H p=none):Aw H (L2.upd H p o):=λb o' e=>by rw[Ao (Bf e h)];exact e
theorem Aw.new{o:HO}(e:Aw H H1)(h:H1 p=none):Aw H (L2.upd H1 p o):=e.trans (.upd h)
theorem nu9{G B:Hp}{o:HO}(s:Aw G B)(n:B a=none):∃N,upd B a o=N/\Aw G N/\N a=some o:=⟨_,U,s.new n,Ae⟩
theorem Aw.over{o:HO}(e:Aw H H1)(h:H p=none):Aw H (L2.upd H1 p o):=λb o' q=>by rw[Ao (Bf q h)];exact e b o' q
theorem Bv:bootBuiltins "len"=some (.builtin "len"):=At
theorem V2:bootBuiltins "isinstance"=some (.builtin "isinstance"):=At
theorem Atj:bootBuiltins "abs"=some (.builtin "abs"):=At
theorem Atk:bootBuiltins "sum"=some (.builtin "sum"):=At
theorem Anz:bootBuiltins "any"=some (.builtin "any"):=At
theorem Atl:bootBuiltins "all"=some (.builtin "all"):=At
theorem Hk:bootBuiltins "list"=some (.type "list"):=At
theorem JV:bootBuiltins "str"=some (.type "str"):=At
theorem AfW:bootBuiltins "int"=some (.type "int"):=At
theorem An0:bootBuiltins "tuple"=some (.type "tuple"):=At
theorem JC:bootBuiltins "reversed"=some (.type "reversed"):=At
theorem Xu:bootBuiltins "enumerate"=some (.type "enumerate"):=At
theorem Atm:bootBuiltins "zip"=some (.type "zip"):=At
theorem AhB:bootBuiltins "range"=some (.type "range"):=At
structure Df (K:NO)(mg:Str->Na)(x:Str)(st:LL)(ps:NY)(f:Nn)(fd:No):Prop where
 F:Fun K x x st f fd
 m:mg x=some (.ref f)
 b:Binds K fd ps []
def vS (cl:NI):LI:=cl.map λt=>V.str (tx t)
def vI (ns:NF):LI:=ns.map V.int
theorem Bc(cl:NI):(vS cl).length=cl.length:=by unfold vS;rw[AxR]
theorem Cp(ns:NF):(vI ns).length=ns.length:=by unfold vI;rw[AxR]
theorem Acz{cl:NI}{t:NV}(h:cl[i]?=some t):(vS cl)[i]?=some (.str (tx t)):=by unfold vS;rw[AxZ,h];rfl
theorem JW{n:Int}(h:ns[i]?=some n):(vI ns)[i]?=some (.int n):=by unfold vI;rw[AxZ,h];rfl
theorem Fw{cl:NI}(h:(vS cl)[i]?=some v):∃t,cl[i]?=some t/\v=.str (tx t):=by
 unfold vS at h;rw[AxZ]at h;cases e:cl[i]? with
 |none=>simp_all
 |some t=>rw[e]at h;exact⟨t,U,(yI h).symm⟩
theorem Ln(h:(vI ns)[i]?=some v):∃t,ns[i]?=some t/\v=.int t:=by
 unfold vI at h;rw[AxZ]at h;cases e:ns[i]? with
 |none=>simp_all
 |some t=>rw[e]at h;exact⟨t,U,(yI h).symm⟩
theorem Akw(ns:NF):(vI ns).all Lj=true:=by unfold vI;rw[Azt];exact List.all_eq_true.mpr λ_ _=>rfl
theorem AfX(cl:NI):(vS cl).all Lj=true:=by unfold vS;rw[Azt];exact List.all_eq_true.mpr λ_ _=>rfl
theorem Gj(cl:NI):vS cl=(cl.map tx).map V.str:=by unfold vS;rw[Ay7];rfl
theorem Ajt(ns:NF)(n:Int):vI ns++[.int n]=vI (ns++[n]):=by unfold vI;rw[AxV];rfl
theorem Dj(cl:NI)(t:NV):vS cl++[.str (tx t)]=vS (cl++[t]):=by unfold vS;rw[AxV];rfl
theorem Bw{xs:List α}{i:Int}{v:α}(a:0<=i)(h:xs[i.toNat]?=some v):atI xs i=some v:=by
 have e:i=(i.toNat:Int):=AA
 rw[e];exact Akr h
section
variable {K:NO}
theorem Be(a:X.K=K:=by rfl):IxR X (Avg K):=by subst a;exact Aq4
theorem Ep(a:X.K=K:=by rfl):IxR X (Avh K):=by subst a;exact Atb
theorem WL(a:X.K=K:=by rfl):OpR X (compareOp .In) (rIn K false):=by subst a;exact AlB
theorem Aea(a:X.K=K:=by rfl):OpR X (compareOp .NotIn) (rIn K true):=by subst a;exact AfL
theorem Ax(a:X.K=K:=by rfl):Hw X (.builtin "len") (Tn K):=by subst a;exact AfM
theorem Fj(a:X.K=K:=by rfl):Hw X (.type "list") (Tp K):=by subst a;exact AfN
theorem Afb(a:X.K=K:=by rfl):Hw X (.builtin "isinstance") (Avt K):=by subst a;exact Anx
theorem DN(a:X.K=K:=by rfl):MtR X "str.join" (rJoin K):=by subst a;exact AqC
theorem Xv(a:X.K=K:=by rfl):SlR X (Avj K):=by subst a;exact Aq5
theorem BJ{l:Expr}(b:PE X l tl)(a:X.K=K:=by rfl):PI X tg l (Anc K tl):=by subst a;exact Aqn b
theorem ZL{a:Expr}(d:PE X a ta)(b:∀whole,isTrue a X.env whole=(do let v <-whole;standAt a.pos;holding [v] (truthy v)))(c:X.K=K:=by rfl) :
  PT X a (λσ H Q=>ta σ H λx H'=>∃k,AsP K x H' k/\Q k H'):=by subst c;exact Anh d b
variable {to:TE}{t:TA}{name:Str}{id:String}{r:V->LI->Hp->VK->Prop}
theorem Bx(j:PlainAttrs T)(d:Slot T name id)(h:typeOf (.builtin id)=pure (.type "method_descriptor")) (p:MtR X id r) (l:PE X o to) (n:PA X (e::es) t)
  (c:attributeBase o name X.env (eval o X.env)=eval o X.env:=by rfl)
  (f:((backTo cpos (starEach (e::es) X.env)).all (λx=>!x.1) && (backToKw cpos (keywordEach [] X.env)).all (λx=>x.1.isSome)
   && decide ((e::es).length+([]:List Keyword).length+(if ([]:List Keyword).isEmpty then 0 else 1)<30))=true:=by rfl)
  (b:(apos.endLine == cpos.line)=true:=by rfl) (i:starEach (e::es) X.env=(false,eval e X.env)::starEach es X.env:=by rfl) (a:(backTo cpos (starEach es X.env)).any (·.1)=false:=by rfl) (m:X.K=K:=by rfl) :
  PE X (.Call (.Attribute o name apos) (e::es) [] cpos) (tBM K T r to t):=by
 subst m;exact Avm j d h p l n c f b i a
end
abbrev exO (C t:Nn)(tb:N0):Obj:={cls:=.ref C,data:=.fields #[.ref t,tb,.none,.none,.bool false,.none]}
structure Fx (B:Heap)(l:List Env)(e C t:Nn)(fl:N0)(h:Heap):Prop where
 st:B.StaysIn h
 ne:B.get? e=none
 fr:h.FunFrames B l
 ob:∃(T:Nn)(oT:Obj)(ts:Array N0),h.get? e=some (exO C t (.ref T))/\B.get? T=none/\T≠e/\h.get? T=some oT/\oT.data=.fields ts/\ts[3]?=some fl
theorem Fx.outer{e t:Nn}(x:Fx B (env::l) e C t fl h):Fx B l e C t fl h:=⟨x.st,x.ne,x.fr.2.2,x.ob⟩
section
variable {E:NU}{e t L:Nn}
theorem Xw(x:Fx B l e C t fl s.heap)(k:∀h',Fx B l e C t .none h'->s.heap.UpToSlots h'->Q () {s with heap:=h'}):wpAny M A (setFlight (.ref e) none) Q E s:=by
 obtain⟨st,r,fr,T,u,ts,p,h,j,n,c,h3⟩:=x;have m:3<ts.size:=(Array.getElem?_eq_some_iff.mp h3).1;unfold setFlight;refine zA (z9 p U (x:=.ref T) U ?_);rw[yF (show(Value.ref T != Value.none)=true by simp)];refine wpAny_setField n c m (k _ ?_ ?_)
 all_goals
  have d:∀b,b≠T->(s.heap.update T (Obj.mapFields (·.setIfInBounds 3 ((none:Option Nn).elim Value.none λf=>rawInt f)))).get? b=s.heap.get? b:=λb a=>zH _ _ (yL a);have i:∀b o,s.heap.get? b=some o->(∀vs,o.data≠.fields vs)->b≠T:=λb o a hn q=>by
   rw[q,n]at a;cases a;exact hn ts c
 ·refine⟨λb o a=>(d b λq=>by rw[q,h]at a;cases a).trans (st b o a),r,fr.of_keeps λb o a hn=>⟨o,(d b (i b o a hn)).trans a,U⟩,T,_,_,(d e (yL j)).trans p,h,j,
   zR _ n (Obj.isFreed_of_fields (zX c _)),zX c _,?_⟩;simp[m]
 ·exact λb o a hn=>⟨o.slots,(d b (i b o a hn)).trans a⟩
theorem AhC(hfr:A.frames=some (env::l))(D:env.frame=some L)(st:B.StaysIn s.heap)(r:B.get? e=none)(fr:s.heap.FunFrames B (env::l))
  (m:s.heap.get? e=some (exO C t tb)) (k:∀h',Fx B (env::l) e C t (rawInt L) h'->s.heap.UpToSlots h'->Q () {s with heap:=h'}) :
  wpAny M A (do let a <-frameOf env;let pl <-entryPlaceOf L had;let b <-EntryCells.newEntry tb a .none (rawInt L) .none pl;setField (.ref e) 1 b) Q E s:=by
 have z:e∉(env::l).filterMap (·.frame):=λn=>by
  obtain⟨_,o,x,hn⟩:=fr.mem n;rw[m]at x;cases x;exact hn _ U
 refine zA (wpAny_frameOf_fun hfr fr D λh1 j=>zA (wpAny_entryPlaceOf λpl p=>?_));unfold EntryCells.newEntry newFields;refine zA (wpAny_newObj_type ?_ (p.sizeOk5 _ _ _ _ _));have v:h1.get? e=some (exO C t tb):=(j.2.1 e z).trans m;have h:B.StaysIn h1:=λb o c=>(j.2.1 b λn=>by rw[(fr.mem n).1]at c;cases c).trans (st b o c);have TE:h1.objs.size≠e:=AyE (yH v);generalize y:({cls:=.type "traceback",dict:=none,data:=.fields ([tb,.ref L,.none,rawInt L,.none]++(if pl.isEmpty then List.replicate 6 Value.none else pl)).toArray}:Obj)=d;have u:(h1.push d).get? e=some (exO C t tb):=zB d v;refine wpAny_setField (s:={s with heap:=h1.push d}) u rfl (by show 1<6;decide) (k _ ?_ ?_)
 all_goals
  have kp:∀b o,b≠e->h1.get? b=some o->((h1.push d).update e (Obj.mapFields (·.setIfInBounds 1 (Value.ref h1.objs.size)))).get? b=some o:=λb o c q =>
   (zH _ _ (yL c)).trans (zB d q);have i:∀b o,s.heap.get? b=some o->(∀vs,o.data≠.fields vs)->b≠e:=λb o c hn q=>by
   rw[q,m]at c;cases c;exact hn _ U
 ·have f:d.isFreed=false:=by rw[<-y];rfl
  refine⟨λb o c=>kp b o (λq=>by rw[q,r]at c;cases c) (h b o c),r,fr.of_keeps λb o c hn=>?_,h1.objs.size,d,_,zR _ u U,h.fresh,TE,
   (zH _ _ (yL TE)).trans (zD h1 f),by rw[<-y],AB⟩;obtain⟨w,q⟩:=j.2.2 b o c;exact⟨_,kp b _ (i b o c hn) q,U⟩
 ·intro b o c hn;obtain⟨w,q⟩:=j.2.2 b o c;exact⟨w,kp b _ (i b o c hn) q⟩
theorem An1(hfr:A.frames=some (env::l))(a:env.frame=some L)(st:B.StaysIn s.heap)(c:B.get? e=none)(fr:s.heap.FunFrames B (env::l))
  (b:s.heap.get? e=some (exO C t .none)) (k:∀h',Fx B (env::l) e C t (rawInt L) h'->s.heap.UpToSlots h'->Q () {s with heap:=h'}):wpAny M A (noteFrame (.ref e) env) Q E s:=by
 unfold noteFrame;simp only [a];refine zA (z9 b U (x:=.none) U ?_);rw[yE Ap];exact AhC hfr a st c fr b k
theorem AqE(hfr:A.frames=some (env::l))(n:env.frame=some L)(x:Fx B (env::l) e C t .none s.heap)
  (k:∀h',Fx B (env::l) e C t (rawInt L) h'->s.heap.UpToSlots h'->Q () {s with heap:=h'}):wpAny M A (noteFrame (.ref e) env) Q E s:=by
 obtain⟨st,p,fr,T,r,ts,m,h,j,i,d,h3⟩:=x;unfold noteFrame;simp only [n];refine zA (z9 m U (x:=.ref T) U ?_);rw[yF (show(Value.ref T != Value.none)=true by simp)];refine zA (z9 i d h3 ?_);rw[yE (show ¬((Value.none == rawInt L)=true) by simp[rawInt])];refine zA (wpAny_setField i d (Array.getElem?_eq_some_iff.mp h3).1 ?_);have c:∀b,b≠T->(s.heap.update T (Obj.mapFields (·.setIfInBounds 3 Value.none))).get? b=s.heap.get? b:=λb a=>zH _ _ (yL a);have f:∀b o,s.heap.get? b=some o->(∀vs,o.data≠.fields vs)->b≠T:=λb o a hn q=>by
  rw[q,i]at a;cases a;exact hn ts d
 exact AhC (s:={s with heap:=s.heap.update T (Obj.mapFields (·.setIfInBounds 3 Value.none))}) hfr n (λb o a=>(c b λq=>by rw[q,h]at a;cases a).trans (st b o a)) p
  (fr.of_keeps λb o a hn=>⟨o,(c b (f b o a hn)).trans a,U⟩) ((c e (yL j)).trans m)
  λh' y u=>k h' y λb o a hn=>u b o ((c b (f b o a hn)).trans a) hn
theorem Afc{f:Option Nn}(x:Fx B l e C t fl s.heap)(k:∀h',Fx B l e C t (f.elim Value.none λf=>rawInt f) h'->s.heap.UpToSlots h'->Q () {s with heap:=h'}):wpAny M A (setFlight (.ref e) f) Q E s:=by
 obtain⟨st,r,fr,T,u,ts,p,h,j,n,c,h3⟩:=x;have m:3<ts.size:=(Array.getElem?_eq_some_iff.mp h3).1;unfold setFlight;refine zA (z9 p U (x:=.ref T) U ?_);rw[yF (show(Value.ref T != Value.none)=true by simp)];refine wpAny_setField n c m (k _ ?_ ?_)
 all_goals
  have d:∀b,b≠T->(s.heap.update T (Obj.mapFields (·.setIfInBounds 3 (f.elim Value.none λf=>rawInt f)))).get? b=s.heap.get? b:=λb a=>zH _ _ (yL a);have i:∀b o,s.heap.get? b=some o->(∀vs,o.data≠.fields vs)->b≠T:=λb o a hn q=>by
   rw[q,n]at a;cases a;exact hn ts c
 ·refine⟨λb o a=>(d b λq=>by rw[q,h]at a;cases a).trans (st b o a),r,fr.of_keeps λb o a hn=>⟨o,(d b (i b o a hn)).trans a,U⟩,T,_,_,(d e (yL j)).trans p,h,j,
   zR _ n (Obj.isFreed_of_fields (zX c _)),zX c _,?_⟩;simp[m]
 ·exact λb o a hn=>⟨o.slots,(d b (i b o a hn)).trans a⟩
theorem An2(b:env.frame=some L)(x:Fx B l e C t (rawInt L) s.heap)(k:Q () s):wpAny M A (noteFrame (.ref e) env) Q E s:=by obtain⟨st,i,fr,T,j,ts,d,f,c,h,a,h3⟩:=x;unfold noteFrame;simp only [b];refine zA (z9 d U (x:=.ref T) U ?_);rw[yF (show(Value.ref T != Value.none)=true by simp)];refine zA (z9 h a h3 ?_);rw[yF (show((rawInt L == rawInt L)=true) by simp)];exact zE k
end
structure Bk (P:Program)(w:World)(outer:List Env)(H:Hp)(h:Heap)(H':Hp)(B h':Heap):Prop where
 ok:HOk P w H' B
 keep:∀b o,h.get? b=some o->H b=none->b∉frs outer->B.get? b=some o
 slot:∀b o,h.get? b=some o->b∈frs outer->∃sl,h'.get? b=some {o with slots:=sl}
 free:∀b o,h.get? b=some o->H b=none->H' b=none
 there:∀b o,h.get? b=some o->b∉frs outer->∃o',B.get? b=some o'
 tups:∀b xs,H b=some (.tup xs)->H' b=some (.tup xs)
 Iv:∀b o u,H b=some (.frz o u)->H' b=some (.frz o u)
 JB:∀b ps,H b=some (.tbl ps)->∃more,H' b=some (.tbl (ps++more))
theorem Bk.slots{outer:List Env}{h1:Heap}(k:Bk P w outer H h H' B h1)(fr:h1.FunFrames B outer)(u:h1.UpToSlots h2):Bk P w outer H h H' B h2:=
 ⟨k.ok,k.keep,λb o q c=>by
  obtain⟨f,e⟩:=k.slot b o q c;obtain⟨_,o2,e2,n2⟩:=fr.mem c;rw[e]at e2;cases e2;obtain⟨a,d⟩:=u b _ e n2;exact⟨a,d⟩,k.free,k.there,k.tups,k.Iv,k.JB⟩
def CX1 (P:Program)(w:World):CXT:=λouter H s E e s'=>∃ea C t H' B,e=.ref ea/\Fx B outer ea C t .none s'.heap/\s'.os=s.os/\AllBare s'.gens/\Bk P w outer H s.heap H' B s'.heap/\E (.ref C) none H'
inductive Fly (B:Heap) (l:List Env) (L ea C t:Nn) (h:Heap):Prop where
 |new (st:B.StaysIn h) (ne:B.get? ea=none) (fr:h.FunFrames B l) (ob:h.get? ea=some (exO C t .none))
 |came (x:Fx B l ea C t .none h)
 |seen (x:Fx B l ea C t (rawInt L) h)
theorem Fly.fr{B:Heap}{l:List Env}{L ea C t:Nn}{h:Heap}(x:Fly B l L ea C t h):h.FunFrames B l:=by
 cases x with
 |new st a fr b=>exact fr
 |came x=>exact x.fr
 |seen x=>exact x.fr
def FlX (X:Cx)(E:XK):N0->Nw->Prop:=λe s'=>∃ea C t H' B,e=.ref ea/\Fly B X.stack X.env.locals ea C t s'.heap/\s'.os=X.s₀.os/\AllBare s'.gens/\Bk X.prog X.w X.outer X.H₀ X.s₀.heap H' B s'.heap/\E (.ref C) none H'
structure Body (X:Cx):Prop where
 stack:X.stack=X.env::X.outer
 frame:X.env.frame=some X.env.locals
 ex:X.ex=[]
section
variable {e:N0}
theorem Inv.AlO(I:Inv X pins σ H s){b:Nn}{o:Obj}(q:X.s₀.heap.get? b=some o)(a:b∉X.fs):b∉frs X.stack:=λc=>by
 rcases yC.mp (I.AfG b c) with z|z
 ·rw[z]at q;exact yG (Ayl (yH q) I.ok.above) (Ay4 _)
 ·exact a z
theorem Avx(hB:Body X)(I:Inv X pins σ H s)(c:CX1 X.prog X.w X.stack H s E e s'):FlX X E e s':=by
 obtain⟨ea,C,t,H',B,rfl,m,os,h,bk,q⟩:=c;have f:∀b:Nn,b∉X.ex:=λb z=>by rw[hB.ex]at z;exact nomatch z
 have j:∀b,b∈X.fs->b∈frs X.stack:=λb a=>by
  rw[hB.stack];unfold frs;rw[AyL,hB.frame];exact AxY _ a
 refine⟨ea,C,t,H',B,U,.came m,os.trans I.os,h,⟨bk.ok,λb o e n a=>?_,λb o e a=>?_,λb o e n=>?_,λb o e a=>?_,λb xs e=>bk.tups b xs (I.base.tups b xs e),λb o u e=>bk.Iv b o u (I.base.Iv b o u e),λb ps e=>?_⟩,q⟩
 ·exact bk.keep b o (I.base.keep b o e n a (f b)) (I.base.free b o e n (f b)) (I.AlO e a)
 ·obtain⟨p,d⟩:=I.base.slot b o e (I.ok.frf b a) a (f b);obtain⟨i,e2⟩:=bk.slot b _ d (j b a);exact⟨i,e2⟩
 ·obtain⟨o',d⟩:=I.base.there b o e (f b);exact bk.free b o' d (I.base.free b o e n (f b))
 ·obtain⟨o',d⟩:=I.base.there b o e (f b);exact bk.there b o' d (I.AlO e a)
 ·obtain⟨l,d⟩:=I.base.JB b ps e;obtain⟨m2,e2⟩:=bk.JB b _ d;exact⟨l++m2,by rw[e2,Array.append_assoc]⟩
theorem Avy{vs:NX}(hB:Body X)(I:Inv X pins σ H s)(f:Heap.MadeExcOf s.heap h' ea (.ref C) vs)(q:E (.ref C) none H):FlX X E (.ref ea) {s with heap:=h'}:=by
 obtain⟨t,l,_,_⟩:=f.there;have i:∀b:Nn,b∉X.ex:=λb z=>by rw[hB.ex]at z;exact nomatch z
 have h:∀b u,H b=some u->b∉frs X.stack:=λb u e p=>by rw[I.AbP b p]at e;cases e
 refine⟨ea,C,t,H,W.hideAll s.heap (frs X.stack),U,.new (λb o e=>f.keeps b o (W.of_hideAll _ e)) ?_ ?_ l,I.os,I.bare,⟨λb u e=>?_,λb o e n d=>?_,λb o e d=>?_,λb o e n=>I.base.free b o e n (i b),λb o e d=>?_,I.base.tups,I.base.Iv,I.base.JB⟩,q⟩
 ·cases z:(W.hideAll s.heap (frs X.stack)).get? ea with
  |none=>rfl
  |some o =>
   have:=W.of_hideAll _ z;rw[f.new]at this;cases this
 ·exact(W.funFrames_hide I.stack λenv r a w=>List.mem_filterMap.mpr ⟨env,r,w⟩).of_keeps λb o d _=>⟨o,f.keeps b o d,U⟩
 ·refine(I.hok b u e).stay (λc v hc z=>W.hideAll_get _ z ?_) (λ_ z=>z) λ_ _ z=>z;rcases hc with z|z
  ·rw[z];exact h b u e
  ·exact h c _ z
 ·exact W.hideAll_get _ (I.base.keep b o e n d (i b)) (I.AlO e d)
 ·obtain⟨m,j⟩:=I.base.slot b o e (I.ok.frf b d) d (i b);exact⟨m,f.keeps _ _ j⟩
 ·obtain⟨o',j⟩:=I.base.there b o e (i b);exact⟨o',W.hideAll_get _ j (I.AlO e d)⟩
theorem AhD{t:Nn}(hB:Body X)(hfr:X.A.frames=some X.stack)(x:Fly B X.stack X.env.locals ea C t s.heap)
  (k:∀h',Fx B X.stack ea C t (rawInt X.env.locals) h'->s.heap.UpToSlots h'->Q () {s with heap:=h'}):wpAny M X.A (noteFrame (.ref ea) X.env) Q E' s:=by
 rw[hB.stack]at x hfr k;cases x with
 |new st a fr b=>exact An1 hfr hB.frame st a fr b k
 |came x=>exact AqE hfr hB.frame x k
 |seen x=>exact An2 hB.frame x (k s.heap x (.refl _))
theorem AbS(hB:Body X)(x:h.FunFrames B X.stack):h.FunFrames B X.outer:=by rw[hB.stack]at x;exact x.2.2
theorem leaveX(hB:Body X)(hfr:X.A.frames=some X.stack)(c:FlX X E e s):wpAny M X.A (leaving X.env e) (λ_ b=>CX1 X.prog X.w X.outer X.H₀ X.s₀ E e b) E' s:=by obtain⟨ea,C,t,H',B,rfl,d,os,a,bk,q⟩:=c;unfold leaving;refine zA (AhD hB hfr d λh1 h l=>Xw (s:={s with heap:=h1}) h λh2 j i=>?_);have f:=j;rw[hB.stack]at f;exact⟨ea,C,t,H',B,U,f.outer,os,a,bk.slots (AbS hB d.fr) (l.trans i),q⟩
theorem AfY(hB:Body X)(hfr:X.A.frames=some X.stack):PassesOwn (model X.prog X.w) X.A X.env (FlX X E):=by rintro e s ⟨ea,C,t,H',B,rfl,c,os,a,bk,q⟩;unfold notedBy;refine AhD hB hfr c λh1 b j=>?_;obtain⟨T,l,ts,h,_⟩:=b.ob;unfold cameBackBy;refine zA (z9 (s:={s with heap:=h1}) h rfl (x:=.ref T) rfl ?_);rw[yE AB];refine Afc (s:={s with heap:=h1}) (f:=X.env.frame) b λh2 d i=>?_;rw[hB.frame]at d;exact⟨ea,C,t,H',B,U,.seen d,os,a,bk.slots (AbS hB c.fr) (j.trans i),q⟩
end
def Aeb (K:NO)(C:Nn):NX:=match K.lookup C with
 |some ⟨_,_,.cls cd,_⟩=>cd.mro
 |_=>[]
theorem AfZ{K:NO}(X:K.In h)(q:W.excIn K C bmB nid=true) :
  ∃c N nm j bs hdct sn sub ab col dd k0 k1 k2 k3 k5 mN,Aeb K C=.ref C::c/\h.get? C=some (excClassObj nm j C N bs c hdct sn sub ab col dd k0 k1 k2 k3 k5 nid)/\h.Ns N mN/\mN "__init__"=none/\OwnTail h bmB c:=by
 unfold W.excIn at q;split at q
 next dd cd sl ho =>
  split at q
  next C' c k0 k1 k2 k3 n k5 hm hs =>
   have f:Aeb K C=cd.mro:=by unfold Aeb;rw[ho]
   simp only [AyM,beq_iff_eq,Bool.not_eq_true']at q;obtain⟨⟨⟨⟨⟨m,l⟩,a⟩,i⟩,b⟩,d⟩:=q;subst m l;have e:sl=#[k0,k1,k2,k3,some (.builtin n),k5]:=by rw[<-hs]
   rw[hm]at f;cases cd;dsimp only at hm a b d;subst hm a e;exact⟨c,_,_,_,_,_,_,_,_,_,dd,k0,k1,k2,k3,k5,_,f,X _ _ ho,.of_isNs (W.isNs_of_in X b),W.nsMap_none_of_in X b d,W.tail_of_in X i⟩
  next=>cases q
 next=>cases q
inductive An3 (C:Nn)(E:XK)(vs:LI)(H1:Hp):Prop
|mk(_:vs.length<=sizeLine)(_:E (.ref C) none H1)
def An4 (C:Nn)(E:XK)(t:TA)(z0:Ends)(σ:St)(H:Hp):Prop:=t σ H (An3 C E)
section
variable {bmN:NX}{B Bn AwW iid AwX:String}{t:TA}
theorem An5(hB:Body X)(hc:X.calm=true)(hw:∀e s',FlX X E e s'->X.xe e s')(y:ExcBaseFacts Bn nid iid bmN)(hn:bmB.contains (.type Bn)=true)(d:ExcBaseFacts B AwW AwX bmB)(q:W.excIn X.K C bmB nid=true)(p:Gl X x)(j:X.mg x=some (.ref C))(o:PA X.nox (e::es) t)
  (w:(x == ("__debug__":Str))=false) (f:starEach (e::es) X.env=(false,eval e X.env)::starEach es X.env) (c:(backTo cpos (starEach es X.env)).any (·.1)=false) :
  PS X (.Raise (some (.Call (.Name x np) (e::es) [] cpos)) none pos) (An4 C E t):=by
 intro pins s σ H D I h;obtain⟨G,N,nm,i,bs,hdct,sn,sub,ab,col,dd,k0,k1,k2,k3,k5,mN,_,u,A,b,T⟩:=AfZ I.ok.mod.kin q;refine wpAny_Raise_call_subU (N:=N) (C:=C) (k5:=k5) (k3:=k3) (k2:=k2) (k1:=k1) (k0:=k0) (dd:=dd) (col:=col) (ab:=ab) (sub:=sub) (sn:=sn) (hdct:=hdct) (bs:=bs) (q:=i) (nm:=nm) (newId:=nid) y hn d (mN:=mN) (T.hasType d.hasBase) (I.ok.hd hc) (by rw[f];show(false || (backTo cpos (starEach es X.env)).any (·.1))=false;rw[c];rfl) b (Q5 I p j ⟨U,?_⟩ w);have h1:=o cpos pins s σ H _ (I.wish _) h;rw[f]at h1 ⊢;refine Calls.evalArgs_plain (zT h1 (λus m z=>?_) λ_ _ z=>z.elim);obtain⟨vs,H1,n,r,F,v⟩:=z;have a:Inv X pins σ H1 m:=n.Hz;exact⟨U,by rw[<-r.length];exact F,a.bk _ _ u,A.keeps a.bk,T.keeps a.bk,λh' ea l=>hw _ _ (Avy hB a l v)⟩
end
abbrev cx1 (P:Program)(w:World)(K:NO)(mg:Str->Na)(base:Heap)(N:NY)(qual:Str)(scope:Scope)(f:Nn)(cd:N0)(A:Around)(outer:List Env)(s:Nw)(H:Hp)(E:XK):Cx:=
 (ZJ (CX1 P w) P w K mg base N qual scope f cd A outer s H E).wish (FlX (ZJ (CX1 P w) P w K mg base N qual scope f cd A outer s H E) E)
section
variable {K:NO}{base:Heap}
theorem O5{outer:List Env}:Body (cx1 P w K mg base N qual scope f cd A outer s H E):=⟨U,U,U⟩
theorem Fun.okX{st:LL}{k:Nat}(F:Fun K x qual st f fd)(S:Al N ps (Ag st))
  (b:∀(a:N0)(A:Around)(outer:List Env)(s:Nw)(H:Hp)(vs:LI)(Q:VK)(E:XK),FT k (A.deeper (envOfC qual (Ag st) s.heap.objs.size f a))->sp vs H Q E ->
   ∃t,PSs (cx1 P w K mg base N qual (Ag st) f a A outer s H E) (Jw st) t/\t {nx:=λ_ H'=>Q .non H',rt:=Q} (start N vs) H) (len:∀vs H Q E,sp vs H Q E->vs.length=ps.length:=by intro _ _ _ _ h;cases h;subst_vars;rfl):Bm P w K mg base (CX1 P w) (k+1) f fd ps sp:=by
 obtain⟨p,r,kV,j,n,o,a,u,i,rfl,lk,c⟩:=F.ex;refine Asn lk c S len λA outer s H vs Q E m d=>?_;obtain⟨t,h,q⟩:=b a A outer s H vs Q E m d;refine⟨t,λpins l σ H1 D I h1=>?_,q⟩;exact zT (h pins l σ H1 D (I.wish _) h1) (λ_ _ z=>z.Hz) λe s' z=>leaveX (X:=ZJ (CX1 P w) P w K mg base N qual (Ag st) f a A outer s H E) ⟨U,U,U⟩ I.ok.frames z
theorem Cq{outer:List Env} :
  Passes (CX1 P w) (cx1 P w K mg base N qual scope f cd A outer s H E) E:=λ_ _ _ _ _ _ I c=>Avx ⟨U,U,U⟩ I.Hz c
end
theorem PS.nox{st:LL}{t:TS}(h:PS X.nox st t):PS X st t:=λpins s σ H D I hw =>
 zT (h pins s σ H D (I.wish _) hw) (λ_ _ q=>q.Hz) λ_ _ z=>yR z
def PEX (X:Cx)(e:Expr)(t:XK->TE):Prop:=∀(pins:NR)(s:Nw)(σ:St)(H:Hp)(Q:VK)(E:XK),Inv X pins σ H s->t E σ H Q ->
 wpAny (model X.prog X.w) X.A (eval e X.env) (EP X pins σ Q) (λex s'=>∃H1 s1,Inv X pins σ H1 s1/\CX1 X.prog X.w X.stack H1 s1 E ex s') s
section
variable {k:Nat}{p:Pos}{t:TA}
theorem AqF{Q:VK}{vs:LI}(F:Bm X.prog X.w X.K X.mg X.base (CX1 X.prog X.w) k f fd ps sp)(i:FT k X.A)(c:Binds X.K fd ps ds)(j:Vals dvs ds)
  (I:Inv X pins σ H s) (r:Vals vs us) (h:sp (vs++dvs) H Q E):wpAny (model X.prog X.w) X.A (call (.ref f) us) (EP X pins σ Q) (λex s'=>∃H1 b,Inv X pins σ H1 b/\CX1 X.prog X.w X.stack H1 b E ex s') s:=by
 have r2:Vals (vs++dvs) (us++ds):=r.append j;have d:(us++ds).length=ps.length:=(r2.length.symm).trans (F.len _ _ _ _ h);refine wpAny_call (codeAny_mono (F.run X.A X.stack s H ⟨us,[]⟩ (us++ds) (vs++dvs) Q E i I.env0 (c s us I.kIn d) r2 h) λrs s' a=>?_)
 match rs,a with
 | .error e,a=>exact⟨H,s,I,a⟩
 | .ok (.ret u),a=>exact I.after a
 | .ok .next,a=>exact yR a
 | .ok .brk,a=>exact yR a
 | .ok .cont,a=>exact yR a
theorem AhE(F:Bm X.prog X.w X.K X.mg X.base (CX1 X.prog X.w) k f fd ps sp)(o:FT k X.A)(i:Gl X x)(m:X.mg x=some (.ref f))(hk:W.keepIn X.K (.ref f)=true)(d:Binds X.K fd ps ds)(l:Vals dvs ds)
  (j:PA X.nox (e::es) t) (a:(x == ("__debug__":Str))=false:=by decide) (n:starEach (e::es) X.env=(false,eval e X.env)::starEach es X.env:=by rfl) (b:(backTo pos (starEach es X.env)).any (·.1)=false:=by rfl) :
  PEX X (.Call (.Name x p) (e::es) [] pos) λE=>Asl sp dvs E t:=by
 intro pins s σ H Q E I h;refine yP (Q5 I i m ?_ a);refine W.callWith_K (h₀:=X.base) I.ok.mod.kin hk (zT (j pos pins s σ H _ (I.wish _) h) (λus u ⟨vs,H1,c,r,q⟩=>⟨c.kIn,?_⟩) λ_ _ z=>z.elim) n b;exact AqF F o d l (c.Hz) r q
end
def exH (C a:Nn):HO:=.ext λh=>∃t tb,h.get? a=some (exO C t tb)
theorem Gp.get{o:HO}(x:Gp P w H h a o):∃u,h.get? a=some u:=by
 induction o with
 |lst xs=>obtain⟨_,_,_,_,e⟩:=x;exact⟨_,e⟩
 |tup xs=>obtain⟨_,_,_,_,e,_⟩:=x;exact⟨_,e⟩
 |dK kvs=>obtain⟨_,_,_,_,_,_,_,e,_⟩:=x;exact⟨_,e⟩
 |dT kvs=>obtain⟨_,_,_,_,_,_,_,e,_⟩:=x;exact⟨_,e⟩
 |set S n=>obtain⟨_,_,_,_,e,_⟩:=x;exact⟨_,e⟩
 |ins C dx fs=>obtain⟨_,_,_,e,_⟩:=x;exact⟨_,e⟩
 |own y=>obtain⟨_,e⟩:=x;exact⟨_,e⟩
 |xd fs=>obtain⟨_,⟨_,_,_,e,_⟩,_⟩:=x;exact⟨_,e⟩
 |rng lo hi=>obtain⟨_,_,_,e⟩:=x;exact⟨_,e⟩
 |frz b u d=>obtain⟨e,_⟩:=x;exact⟨_,e⟩
 |tbl ps=>exact⟨_,x⟩
 |met f y=>exact⟨_,x⟩
 |ext c=>exact x.2.1
section
variable {t:Nn}
theorem Bk.none{P:Program}{w:World}{outer:List Env}{h h':Heap}(k:Bk P w outer H h H' B h')(a:B.get? ea=Option.none):H' ea=Option.none:=by
 cases q:H' ea with
 |none=>rfl
 |some o =>
  obtain⟨u,e⟩:=(k.ok ea o q).get;rw[a]at e;cases e
theorem AbT(I:Inv X pins σ H s)(os:s'.os=s.os)(i:AllBare s'.gens)(bk:Bk X.prog X.w X.stack H s.heap H' B h2)(h:Fx B X.stack ea C t fl h2) :
  Inv X pins σ (upd H' ea (exH C ea)) {s' with heap:=h2}:=by
 have hn:=bk.none h.ne;obtain⟨T,y,ts,p,_⟩:=h.ob;have r:∀b o,s.heap.get? b=some o->b≠ea:=λb o e z=>by
  by_cases f:b∈frs X.stack
  ·obtain⟨_,o2,e2,n2⟩:=h.fr.mem f;rw[z,p]at e2;cases e2;exact n2 _ U
  ·obtain⟨o',a⟩:=bk.there b o e f;rw[z,h.ne]at a;cases a
 have j:∀b u,H' b=some u->b≠ea:=λb u e z=>by
  rw[z,hn]at e;cases e
 obtain⟨D,g,d,tk,m⟩:=s';obtain rfl:m=s.os:=os;refine I.call (s:=s) (h':=h2) (g':=g) (d':=d) (t':=tk) (ch:=[]) ⟨λb o e n f _=>h.st _ _ (bk.keep b o e n f),λb o e n f _=>bk.slot b o e f,λb o e n _=>?_,λb o e _=>?_,λb xs e=>?_,λb o u e=>?_,λb ps e=>?_⟩ (λb u e=>?_) i (λb z=>nomatch z)
 ·rw[Ao (r b o e)];exact bk.free b o e n
 ·by_cases f:b∈frs X.stack
  ·obtain⟨A,a⟩:=bk.slot b o e f;exact⟨_,a⟩
  ·obtain⟨o',a⟩:=bk.there b o e f;exact⟨o',h.st _ _ a⟩
 ·have a:=bk.tups b xs e;rw[Ao (j _ _ a)];exact a
 ·have a:=bk.Iv b o u e;rw[Ao (j _ _ a)];exact a
 ·obtain⟨x,a⟩:=bk.JB b ps e;exact⟨x,by rw[Ao (j _ _ a)];exact a⟩
 ·by_cases f:b=ea
  ·subst f;rw[Ae]at e;cases e;exact⟨⟨t,_,p⟩,⟨_,p⟩,λh1 h3 ⟨t',l,q⟩ k=>⟨t',l,k _ q⟩⟩
  ·rw[Ao f]at e;refine(bk.ok b u e).stay (λc v _ q=>h.st _ _ q) (λc q=>?_) λc xs q=>?_
   ·rw[Ao (j _ _ q)];exact q
   ·rw[Ao (j _ _ q)];exact q
abbrev Cx.hdl (X:Cx)(e:Nn):Cx:={X with A:=X.A.mark (some (.ref e)),calm:=false,xe:=λ_ _=>False}
theorem Inv.hdl(I:Inv X pins σ H s)(e:Nn):Inv (X.hdl e) pins σ H s:=
 ⟨⟨I.ok.mod,I.ok.kind,I.ok.glob,I.ok.blt,I.ok.above,I.ok.inj,I.ok.has,I.ok.cab,(λz=>nomatch z),I.ok.frames,I.ok.stk,I.ok.exf,I.ok.bs,I.ok.bsz,I.ok.AfE,I.ok.AfF,I.ok.Td,I.ok.frf⟩,I.os,I.bare,I.base,I.loc,I.cell,I.free,I.Lg,I.pin,I.hok,I.len⟩
theorem Inv.AhF{e:Nn}(a:X.calm=true->X.A.handled=none)(I:Inv (X.hdl e) pins σ H s):Inv X pins σ H s:=
 ⟨⟨I.ok.mod,I.ok.kind,I.ok.glob,I.ok.blt,I.ok.above,I.ok.inj,I.ok.has,I.ok.cab,a,I.ok.frames,I.ok.stk,I.ok.exf,I.ok.bs,I.ok.bsz,I.ok.AfE,I.ok.AfF,I.ok.Td,I.ok.frf⟩,I.os,I.bare,I.base,I.loc,I.cell,I.free,I.Lg,I.pin,I.hok,I.len⟩
theorem Inv.forget{n:Str}{m:Str->Na}{v:Na}(I:Inv X pins σ H s)(P:X.N.Nodup)(M:X.N[j]?=some n)(hn:s.heap.Ns X.env.locals m)
  (J:∀(i:Nat)(x:Str)(v:V),X.N[i]?=some x->σ[i]?=some (some v)->Vis X.env.scope x->∃u,RelV v u/\Look X.env s.heap m x u) (D:h'.Ns X.env.locals (λx=>if x=n then v else m x)) (a:Heap.SameBut X.env.locals s.heap h') :
  Inv X pins (σ.set j none) H {s with heap:=h',toks:=tk}:=by
 obtain⟨R,_,_,O,_⟩:=id hn;have h:∀b o,X.s₀.heap.get? b=some o->b≠X.env.locals:=λb o e=>Aye (Ayl (yH e) I.ok.above);refine⟨I.ok,I.os,I.bare,⟨λb o e n C B=>?_,λb o e n C B=>?_,I.base.free,λb o e B=>?_,I.base.tups,I.base.Iv,I.base.JB⟩,⟨_,D,λi y w A e2 E=>?_⟩,λy c e=>?_,I.free,I.Lg,λp Q=>?_,λb u e=>?_,by rw[List.length_set];exact I.len⟩
 ·exact(a.2 b (h b o e)).trans (I.base.keep b o e n C B)
 ·obtain⟨F,A⟩:=I.base.slot b o e n C B;exact⟨F,(a.2 b (h b o e)).trans A⟩
 ·obtain⟨o',A⟩:=I.base.there b o e B;exact⟨o',(a.2 b (h b o e)).trans A⟩
 ·by_cases f:i=j
  ·subst f;rw[List.getElem?_set]at e2;split at e2
   ·split at e2<;>cases e2
   ·exact yG U ‹_›
  ·rw[Az6 (yL f)]at e2;obtain⟨u,r,l⟩:=J i y w A e2 E;refine⟨u,r,?_⟩;rcases l with ⟨k,z⟩|⟨k,c,z,K⟩
   ·have:y≠n:=λq=>f (Aci P A (q▸M));exact .inl ⟨k,by simp[this,z]⟩
   ·exact .inr ⟨k,c,z,K.sameBut a (I.cne y c z)⟩
 ·obtain⟨L,z⟩:=I.cell y c e;exact⟨L,z.sameBut a (I.cne y c e)⟩
 ·obtain⟨e,n1,n2,G,d⟩:=I.pin p Q;exact⟨(a.2 p.1 n2).trans e,n1,n2,G,d⟩
 ·refine(I.hok b u e).stay (λc S hc q=>(a.2 c ?_).trans q) (λ_ q=>q) λ_ _ q=>q;rintro rfl;rcases hc with z|z
  ·rw[<-z,I.free]at e;cases e
  ·rw[I.free]at z;cases z
end
section
variable {E:NU}{g:Array GenState}{d:Drawn}{t:Nat}{os:OsState}
theorem Aa8{K:NO}{D e:Nn}{u j:NX}{m:Obj}{Q:Bool->Nw->Prop}(X:K.In h)(r:W.excIn K C u nC=true)(q:W.excIn K D j nD=true)
  (n:j.contains (.type "BaseException")=true) (s:h.get? e=some m) (hc:m.cls=.ref C) (a:Q ((Aeb K C).contains (.ref D)) ⟨h,g,d,t,os⟩):wpAny M A (excMatches (.ref e) (.ref D)) Q E ⟨h,g,d,t,os⟩:=by
 obtain⟨b,_,_,_,_,_,_,_,_,_,_,_,_,_,_,_,_,v,o,_,_,w⟩:=AfZ X r;obtain⟨c,_,_,_,_,_,_,_,_,_,_,_,_,_,_,_,_,_,l,_,_,p⟩:=AfZ X q;have i:(Value.ref D::c).contains (.type "BaseException")=true:=by rw[List.contains_cons,p.hasType n,Bool.or_true]
 have f:=tc_notTuple;rw[v]at a;unfold excMatches
 repeat (first | (with_reducible refine wpAny_loadPart_at s ?_;rw[hc])|with_reducible refine wpAny_loadPart_at l ?_ | (with_reducible refine wpAny_isSubtype_exc l ?_;rw[i])|with_reducible refine wpAny_isSubtype_exc o ?_|wp_step)
 all_goals (revert a;cases (Value.ref C::b).contains (Value.ref D)<;>intro a)
 all_goals (repeat (first|exact a|wp_step))
end
abbrev WX (X:Cx)(pins:NR)(σ:St)(E:XK):N0->Nw->Prop:=λex s'=>∃H1 s1,Inv X pins σ H1 s1/\CX1 X.prog X.w X.stack H1 s1 E ex s'
def PSX (X:Cx)(st:LL)(t:XK->TS):Prop:=∀(pins:NR)(s:Nw)(σ:St)(H:Hp)(D:Ends)(E:XK),Inv X pins σ H s->t E D σ H->wpAny (model X.prog X.w) X.A (exec st X.env) (SP X pins D) (WX X pins σ E) s
def AqG (X:Cx)(st:List LL)(t:XK->TS):Prop:=∀(pins:NR)(s:Nw)(σ:St)(H:Hp)(D:Ends)(E:XK),Inv X pins σ H s->t E D σ H->wpAny (model X.prog X.w) X.A (execs st X.env) (SP X pins D) (WX X pins σ E) s
section
variable {t u:XK->TS}{te:XK->TE}{st:LL}
theorem AhG(h:PSX X st t):AqG X [st] t:=by
 intro pins s σ H D E I h1;refine wpAny_execs_cons (thn (h pins s σ H D E I h1) λf a q=>?_)
 match f,q with
 | .next,q=>exact wpAny_execs_nil q
 | .brk,q=>exact q
 | .cont,q=>exact q
 | .ret u,q=>exact q
theorem AqH(l:X.N.Nodup)(hi:X.N[i]?=some x)(m:Loc X.env.scope x)(j:PEX X e te)(f:swapsWith e (some (.Name x pos')) pos.line X.env=pure false:=by rfl)
  (d:X.fn x=true\/X.env.scope.names.lookup x=some .local:=by first|exact .inl U|exact .inr U|assumption):PSX X (.Assign [.Name x pos'] e pos) λE=>Aby (te E) (HB i):=by
 intro pins s σ H D E I h;refine wpAny_Assign_Name (thn (j pins s σ H _ E I h) λv o ⟨y,H1,n,b,c⟩=>?_) f;exact Te n l hi m b (λp a=>⟨_,H1,a,c⟩) d
theorem AqI(b:PEX X e te):PSX X (.Return (some e) pos) λE=>AuM (te E):=by intro pins s σ H D E I h;exact wpAny_Return_some (thn (b pins s σ H _ E I h) λv f ⟨x,H1,c,d,a⟩=>⟨x,σ,H1,c,d,a⟩)
abbrev Ends.un (D:Ends)(j:Nat):Ends:={nx:=λσ H=>D.nx (σ.set j none) H,rt:=D.rt,bk:=λσ H=>D.bk (σ.set j none) H,ct:=λσ H=>D.ct (σ.set j none) H}
def Sub (K:NO)(C D:Nn):Prop:=(∃bm nid,W.excIn K C bm nid=true)/\(Aeb K C).contains (.ref D)=true
def AwY (K:NO)(Ch:Nn)(j:Nat)(t:XK->TS)(ts:TS):TS:=λD σ H=>t (λc _ H'=>∃C,c=.ref C/\Sub K C Ch/\∀ea,H' ea=none->ts (D.un j) (σ.set j (some (.ref ea))) (upd H' ea (exH C ea))) D σ H
theorem Atn{b:List LL}{e:LL}{ts:TS}{n:Str}{c:Pos}(hB:Body X)(hc:X.calm=true)(hb:AqG X body t)(Z:X.N.Nodup)(Y:X.N[j]?=some n)
  (hn:X.env.scope.names.lookup n=some .local) (hg:Gl X x) (hm:X.mg x=some (.ref Ch)) (hq:W.excIn X.K Ch bmB nid=true) (M:bmB.contains (.type "BaseException")=true) (hs:∀ea,PSs (X.hdl ea) (e::b) ts)
  (hd:(x == ("__debug__":Str))=false:=by decide) :
  PS X (.Try body [.ExceptHandler (some (.Name x np)) (some n) (e::b) c] [] [] pos) (AwY X.K Ch j t ts):=by
 intro pins s σ H D I h;refine wpAny_Try_except (zT (hb pins s σ H D _ I h) (λf s1 q=>?_) λex s1 z=>?_)
 ·match f,q with
  | .next,q=>exact wpAny_execs_nil q
  | .brk,q=>exact q
  | .cont,q=>exact q
  | .ret u,q=>exact q
 ·obtain⟨H1,s0,R,ea,C,t0,H',B,rfl,F,os,d,bk,C',eC,⟨⟨bC,nC,qC⟩,sub⟩,ht⟩:=z;obtain rfl:C=C':=by cases eC;rfl
  refine AhD hB I.ok.frames (.came F) λh1 O u1=>Xw (s:={s1 with heap:=h1}) O λh2 y u2=>?_;have p:=(bk.slots F.fr u1).slots O.fr u2;have S:Inv X pins σ (upd H' ea (exH C ea)) {s1 with heap:=h2}:=AbT R os d p y;refine wpAny_handleBy_cons (codeAny_handlers_test (Q5 (X:=X.hdl ea) (S.hdl ea) hg hm ?_ hd)) (by intro q;cases q);obtain⟨T,oT,tt,hE,_⟩:=y.ob;refine Aa8 S.kIn qC hq M hE U ?_;rw[sub];refine codeAny_handlers_suite_as (Xw (s:={s1 with heap:=h2}) y λh3 x3 u3=>?_);have I3:Inv X pins σ (upd H' ea (exH C ea)) {s1 with heap:=h3}:=AbT R os d (p.slots y.fr u3) x3;refine Te (X:=X.hdl ea) (I3.hdl ea) Z Y (.inl hn) (v:=.ref ea) U (λs4 I4=>?_) (.inr hn);refine zT (hs ea pins s4 _ _ _ I4 (ht ea (bk.none F.ne))) (λf G q=>?_) λ_ _ z=>z.elim;have go:∀{σ':St} {a:Hp} {Q:Unit->Nw->Prop},Inv (X.hdl ea) pins σ' a G->(∀l,Inv X pins (σ'.set j none) a l->Q () l)->wpAny (model X.prog X.w) X.A (do bindName X.env n .none;unbindBehindTheSuite X.env n c) Q X.xe G:=λ{σ' a Q} J k=>by
   have P:Inv X pins σ' a G:=J.AhF I.ok.hd;obtain⟨m,o,hl⟩:=id P.loc;exact wpAny_nameGoes_keeps hn o (by rw[I.ok.kind];rfl) λh6 v E L=>k _ (P.forget Z Y o hl E L)
  match f,q with
  | .next,⟨σ',a,J,q⟩=>exact go J λl i=>⟨_,a,i,q⟩
  | .brk,⟨σ',a,J,q⟩=>exact go J λl i=>⟨_,a,i,q⟩
  | .cont,⟨σ',a,J,q⟩=>exact go J λl i=>⟨_,a,i,q⟩
  | .ret u,⟨v,σ',a,J,r,q⟩=>exact go J λl i=>⟨v,_,a,i,r,q⟩
end
structure ExC (K:NO)(C:Nn):Prop where
 ga:W.findIn K (.ref C) "__getattribute__"=some (some (.builtin "BaseException.__getattribute__"))
 gt:W.findIn K (.ref C) "__getattr__"=some none
 cl:W.findIn K (.ref C) "__class__"=some (some (.builtin "object.__class__"))
 gc:W.specialIn K (.builtin "object.__class__") "__get__"=some (some (.builtin "getset_descriptor.__get__"))
 tk:W.takesIn K (.builtin "object.__class__")=some true
 ob:W.mroIn K C (.type "object")=some true
 be:W.mroIn K C (.type "BaseException")=some true
 is:(W.clsIn K C).isSome=true
theorem AlP:(Manifest.canonical "BaseException.__getattribute__" != "object.__getattribute__")=false:=At
section
variable {E:NU}{K:NO}{x t:Nn}
theorem AqJ(a:h.get? x=some (exO C t tb)):W.InstAt h x (exO C t tb) C none:=⟨a,U,U,True.intro⟩
theorem AqK{Q:N0×NX->Nw->Prop}(X:K.In s.heap)(b:s.heap.get? x=some (exO C t tb))(c:ExC K C)(e:W.findIn K (.ref C) m=some (some (.ref f)))
  (d:W.isFn K (.ref f)=true) (h:Q (.ref f,[.ref x]) s):wpAny (model prog w) A (getMethod (.ref x) m pl) Q E s:=by
 have I:=AqJ b;have a:W.typeIn K (.ref f)=some (.type "function"):=beq_iff_eq.mp d;unfold getMethod specialOf;refine zA (zA (I.type.here ((W.looks_findIn X c.ga).here ?_)))
 try dsimp only
 rw[AlP,yE Ayn];refine zA (zA (I.type.here ((W.looks_findIn X c.gt).here (zA (zA (I.type.here ((W.looks_findIn X e).here (zA ((W.looks_typeIn X a).here ?_)))))))));rw[yE At];exact zA (wpAny_loadPart b (zA (wpAny_rule (zE h))))
end
section
variable {K:NO}
theorem Avz(I:Inv X pins σ H s)(e:H a=some (exH C a)):∃t tb,s.heap.get? a=some (exO C t tb):=(I.hok a _ e).1
variable {k:Nat}{sp:Nn->Sp}
end
abbrev vE:NX:=[.type "ValueError",.type "Exception",.type "BaseException",.type "object"]
abbrev vN:String:= "ValueError.__new__"
structure Exn (K:NO)(C:Nn):Prop where
 q:W.excIn K C vE vN=true
 c:ExC K C
 ty:W.typeIn K (.ref C)=some (.type "type")
 ve:W.mroIn K C (.type "ValueError")=some true
theorem Ato{K:NO}(q:W.excIn K C vE vN=true)(b:W.findIn K (.ref C) "__getattribute__"=some (some (.builtin "BaseException.__getattribute__"))) (e:W.findIn K (.ref C) "__getattr__"=some none)
  (cl:W.findIn K (.ref C) "__class__"=some (some (.builtin "object.__class__"))) (f:W.specialIn K (.builtin "object.__class__") "__get__"=some (some (.builtin "getset_descriptor.__get__"))) (tk:W.takesIn K (.builtin "object.__class__")=some true)
  (h:W.mroIn K C (.type "object")=some true) (c:W.mroIn K C (.type "BaseException")=some true) (d:W.isClsIn K C=true) (ty:W.typeIn K (.ref C)=some (.type "type")) (a:W.mroIn K C (.type "ValueError")=some true):Exn K C:=
 ⟨q,⟨b,e,cl,f,tk,h,c,d⟩,ty,a⟩
theorem Lp:vE.contains (.type "BaseException")=true:=Ap
theorem Atp:vE.contains (.type "ValueError")=true:=Ap
theorem DR{K:NO}{base:Heap}{outer:List Env}{t:TA}(q:Exn K C)(a:Gl (cx1 P w K mg base N qual scope f cd A outer s H E) x)(c:mg x=some (.ref C))(b:PA (cx1 P w K mg base N qual scope f cd A outer s H E).nox (e::es) t)
  (h:(x == ("__debug__":Str))=false/\starEach (e::es) (cx1 P w K mg base N qual scope f cd A outer s H E).env=(false,eval e (cx1 P w K mg base N qual scope f cd A outer s H E).env)::starEach es (cx1 P w K mg base N qual scope f cd A outer s H E).env/\(backTo cpos (starEach es (cx1 P w K mg base N qual scope f cd A outer s H E).env)).any (·.1)=false:=by exact⟨Ap,U,U⟩) :
  PS (cx1 P w K mg base N qual scope f cd A outer s H E) (.Raise (some (.Call (.Name x np) (e::es) [] cpos)) none pos) (An4 C E t):=An5 O5 U (λ_ _ z=>z) F.excBase_ValueError Atp F.excBase_ValueError q.q a c b h.1 h.2.1 h.2.2
theorem Exn.sub{K:NO}{D:Nn}(x:Exn K C)(r:W.mroIn K C (.ref D)=some true):Sub K C D:=by
 refine⟨⟨_,_,x.q⟩,?_⟩;obtain⟨cd,h1,h2⟩:=Option.bind_eq_some_iff.mp r;unfold W.clsIn at h1;unfold Aeb;split at h1
 next c d cd' sl ho =>
  cases h1;rw[ho];split at h2
  ·cases h2
  ·exact yI h2
 next=>cases h1
section
variable {k:Nat}
inductive An6 (C:Nn)(sp:Sp)(E:XK)(Q:VK)(x:V)(H1:Hp):Prop
|mk(a:_)(_:x=.ref a)(_:H1 a=some (exH C a))(_:sp [x] H1 Q E)
def Atq (C:Nn)(sp:Sp)(E:XK)(ta:TE)(σ:St)(H:Hp)(Q:VK):Prop:=ta σ H (An6 C sp E Q)
end
def Dk (s:LL):List Stmt:=match s with
 | .ClassDef _ _ _ b _ _ _ _ _ _ _=>b
 |_=>[]
structure Mf (K:NO)(x q:Str)(st:LL)(ps:NY)(C f:Nn)(fd:No):Prop where
 F:Fun K x q st f fd
 m:Meth K C x f
 b:Binds K fd ps []
theorem Exn.has{K:NO}{D:Nn}(r:W.mroIn K C (.ref D)=some b):(Aeb K C).contains (.ref D)=b:=by
 obtain⟨cd,h1,h2⟩:=Option.bind_eq_some_iff.mp r;unfold W.clsIn at h1;unfold Aeb;split at h1
 next c d cd' sl ho =>
  cases h1;rw[ho]
  try dsimp only
  split at h2
  ·cases h2
  ·exact yI h2
 ·cases h1
section
variable {t:XK->TS}
def pick(K:NO)(C:Nn):List (Nn×TS)->TS
 |[]=>λ_ _ _=>False
 | (Ch,ts)::l=>λD σ H=>((Aeb K C).contains (.ref Ch)=true/\ts D σ H)\/((Aeb K C).contains (.ref Ch)=false/\pick K C l D σ H)
def Av0 (K:NO)(l:List (Nn×TS))(t:XK->TS):TS:=λD σ H=>t (λc _ H'=>∃C,c=.ref C/\(∃bm nid,W.excIn K C bm nid=true)/\∀ea,H' ea=none->pick K C l D σ (upd H' ea (exH C ea))) D σ H
inductive HL (X:Cx):List ExceptHandler->List (Nn×TS)->Prop
 |nil:HL X [] []
 |cons {suite:List LL} {b₀:LL} {ts:TS} {x:Str} {Ch:Nn} {bmB:NX} {nid:String} {np hpos:Pos} {hs:List ExceptHandler} {l:List (Nn×TS)}
   (hg:Gl X x) (hm:X.mg x=some (.ref Ch)) (hq:W.excIn X.K Ch bmB nid=true) (hbs:bmB.contains (.type "BaseException")=true) (hs':∀ea,PSs (X.hdl ea) (b₀::suite) ts) (hd:(x == ("__debug__":Str))=false) (r:HL X hs l) :
   HL X (.ExceptHandler (some (.Name x np)) none (b₀::suite) hpos::hs) ((Ch,ts)::l)
theorem AqL{h₀:ExceptHandler}{i:List ExceptHandler}{l:List (Nn×TS)}(hB:Body X)(hc:X.calm=true)(x:AqG X body t)(L:HL X (h₀::i) l) :
  PS X (.Try body (h₀::i) [] [] pos) (Av0 X.K l t):=by
 intro pins s σ H D I h;refine wpAny_Try_except (zT (x pins s σ H D _ I h) (λf s1 q=>?_) λex s1 z=>?_)
 ·match f,q with
  | .next,q=>exact wpAny_execs_nil q
  | .brk,q=>exact q
  | .cont,q=>exact q
  | .ret u,q=>exact q
 ·obtain⟨H1,s0,w,ea,C,Z,H',B,rfl,m,os,b,bk,C',G,⟨bC,nC,F⟩,a⟩:=z;obtain rfl:C=C':=by cases G;rfl
  refine AhD hB I.ok.frames (.came m) λh1 p S=>Xw (s:={s1 with heap:=h1}) p λh2 d A=>?_;have c:=(bk.slots m.fr S).slots p.fr A;have o:Inv X pins σ (upd H' ea (exH C ea)) {s1 with heap:=h2}:=AbT w os b c d
  replace a:=a ea (bk.none m.ne)
  generalize e:h₀::i=all at L ⊢;clear e h
  induction L with
  |nil=>exact a.elim
  |cons M E P n j O r Q =>
   refine wpAny_handleBy_cons (codeAny_handlers_test (Q5 (X:=X.hdl ea) (o.hdl ea) M E ?_ O)) (by intro q;cases q);obtain⟨T,Y,tt,N,_⟩:=id d.ob;refine Aa8 o.kIn F P n N U ?_;rcases a with ⟨sub,a⟩|⟨sub,a⟩
   ·rw[sub];refine codeAny_handlers_suite (Xw (s:={s1 with heap:=h2}) d λh3 W R=>?_);have y:Inv X pins σ (upd H' ea (exH C ea)) {s1 with heap:=h3}:=AbT w os b (c.slots d.fr R) W;refine zT (j ea pins _ _ _ _ (y.hdl ea) a) (λf s5 q=>?_) λ_ _ z=>z.elim
    match f,q with
    | .next,⟨σ',H5,J,q⟩=>exact⟨σ',H5,J.AhF I.ok.hd,q⟩
    | .brk,⟨σ',H5,J,q⟩=>exact⟨σ',H5,J.AhF I.ok.hd,q⟩
    | .cont,⟨σ',H5,J,q⟩=>exact⟨σ',H5,J.AhF I.ok.hd,q⟩
    | .ret u,⟨v,σ',H5,J,r,q⟩=>exact⟨v,σ',H5,J.AhF I.ok.hd,r,q⟩
   ·rw[sub];exact Q a
end
open Builtin Builtin.Str
def Tr (u:NV)(lo hi:Option Int):NV:=(u.drop (HT.sIx u.length 0 lo)).take (HT.sIx u.length u.length hi-HT.sIx u.length 0 lo)
theorem Atr(a b:Nat):sliceRange (a:Int) (b:Int) 1=(List.range (b-a)).map λk=>a+k:=by
 unfold sliceRange;simp only [show(1:Int)>0 by decide,if_true];by_cases h:(a:Int)<(b:Int)
 ·rw[yF h,Int.ediv_one,show(b:Int)-(a:Int)+1-1=((b-a:Nat):Int) by omega,Ayi];exact Az8 λk _=>Au
 ·rw[yE h,show b-a=0 by omega];rfl
theorem UL(n d:Nat)(i:Int):max 0 (min (if i<0 then i+(n:Int) else i) (n:Int))=(HT.sIx n d (some i):Int):=by
 show _=(((if i<0 then (i+(n:Int)).toNat else min i.toNat n):Nat):Int);by_cases h:i<0
 ·rw[yF h,yF h];omega
 ·rw[yE h,yE h];omega
theorem idx_eq(n:Nat)(lo hi:Option Int):strSliceIndices lo hi 1 n=(List.range (HT.sIx n n hi-HT.sIx n 0 lo)).map λk=>HT.sIx n 0 lo+k:=by
 rw[<-Atr];cases lo with
 |none =>
  cases hi with
  |none=>rfl
  |some j=>rw[<-UL];rfl
 |some i =>
  cases hi with
  |none=>rw[<-UL n 0 i];rfl
  |some j=>rw[<-UL n 0 i,<-UL n n j];rfl
theorem An7(u:NV)(lo hi:Option Int):Txt.slice (tx u) lo hi=tx (Tr u lo hi):=by
 unfold Txt.slice Tr;rw[Ba,idx_eq];have f:HT.sIx u.length u.length hi<=u.length:=HT.Ata _ _ (AxU _) _;have b:∀(a k:Nat),a+k<=u.length->((List.range k).map λj=>a+j).filterMap (λi=>(tx u).cps[i]?)=(u.drop a).take k:=by
  intro a k
  induction k with
  |zero=>intro _;simp
  |succ k d =>
   intro h;rw[Ay8,AxV,List.filterMap_append,d Au];have:a+k<u.length:=Au
   simp only [Ayd,List.map_nil,AyL,List.filterMap_nil,WK,AxT this];rw[List.take_succ,AyS,AxT this];rfl
 split
 next h =>
  simp only [AxR,Ayw,AyM,beq_iff_eq]at h;have h2:=h.2;have:HT.sIx u.length 0 lo=0\/u.length=0:=Au
  rcases this with e|e
  ·rw[e,AyY,Ayy Au]
  ·rw[Az9 e];simp
 next h =>
  by_cases c:HT.sIx u.length 0 lo<=HT.sIx u.length u.length hi
  ·show(Str.mk _)=_;rw[b _ _ Au];rfl
  ·have e:HT.sIx u.length u.length hi-HT.sIx u.length 0 lo=0:=Au
   rw[e];simp[tx]
theorem Ats{u:NV}{k:Nat}(h:k<=u.length):Tr u none (some (k:Int))=u.take k:=by unfold Tr;rw[HT.Ti,HT.Kw,AyY,AyN h,Azv]
inductive An8 (x:V)(lo:Option Int)(hi:Option Int)(H:Hp)(Q:VK):Prop
|mk(u:NV)(_:x=.str (tx u))(_:u.length<=sizeLine)(_:Q (.str (tx (Tr u lo hi))) H)
theorem WM:SlR X An8:=by
 intro pins s σ H x v C B lo hi f Q I r o pl n h;obtain⟨u,rfl,y,q⟩:=h;obtain⟨t,rfl⟩:=r;rw[<-An7]at q;refine⟨"str",_,F.slot_str_getitem.lookup,typeIs_str _ _ _,?_⟩;have hsz:(tx u).length<=sizeLine:=by rw[Ba];exact y
 obtain⟨os,c,a,b⟩:=id o;have fin:∀(l d:Option (Int×Tok)),s.heap.IsSlice f l d none->Q (.str (Txt.slice (tx u) (l.map (·.1)) (d.map (·.1)))) H->wpAny (model X.prog X.w) X.A (getItem (.str (tx u) t) (.ref f)) (EP X pins σ Q) X.xe s:=λl d z p =>
  wpAny_getItem_str_slice z U (post_val_or_str ⟨Ayh (Txt.slice_le (tx u) _ _) hsz,λt' k=>⟨.str _,H,I.tok _,⟨t',U⟩,p⟩⟩);cases pl with
 |none=>cases n with
  |none=>exact fin none none ⟨os,c,a,b⟩ q
  |int j e=>exact fin none (some (j,e)) ⟨os,c,a,b⟩ q
 |int i m=>cases n with
  |none=>exact fin (some (i,m)) none ⟨os,c,a,b⟩ q
  |int j e=>exact fin (some (i,m)) (some (j,e)) ⟨os,c,a,b⟩ q
theorem Xx:∀(xs:LI)(us:NX),xs.length=us.length->(∀(i:Nat) x u,xs[i]?=some x->us[i]?=some u->RelV x u)->Vals xs us
 |[],[],_,_=>.nil
 |[],_::_,h,_=>by simp at h
 |_::_,[],h,_=>by simp at h
 |x::xs,u::us,h,p=>.cons (p 0 x u U rfl) (Xx xs us (by simpa using h) λi y v a e2=>p (i+1) y v a e2)
def AqM (p:Nn)(a b c:Int):HO:=.ext λh=>∃t u v,IsRange h p a b c t u v
def Ab1 (a c:Int)(n:Nat):NF:=(List.range n).map λ(i:Nat)=>a+(i:Int)*c
section
variable {K:NO}
theorem AhH{a b c:Int}{t u v:Tok}{Q:VK}(I:Inv X pins σ H s)(q:∀p,H p=none->Q (.ref p) (upd H p (AqM p a b c))) :
  EP X pins σ Q (.ref s.heap.objs.size) {s with heap:=s.heap.push {cls:=.type "range",data:=.fields #[.int a t,.int b u,.int c v]},toks:=tk}:=by
 have d:(s.heap.push {cls:=.type "range",data:=.fields #[.int a t,.int b u,.int c v]}).get? s.heap.objs.size=some {cls:=.type "range",data:=.fields #[.int a t,.int b u,.int c v]}:=zD _ U;refine⟨.ref s.heap.objs.size,_,I.laid (λb o e=>zB _ e) (AxU _) ?_,U,q _ (I.hok.fresh (AxU _))⟩;exact⟨⟨t,u,v,d⟩,⟨_,d⟩,λh1 h2 y k=>by
  obtain⟨t',f,h,y⟩:=y;exact⟨t',f,h,k _ y⟩⟩
inductive AhI (xs:LI)(H:Hp)(Q:VK):Prop
|mk(a:_)(b:_)(_:xs=[.int a,.int b])(_:∀p,H p=none->Q (.ref p) (upd H p (AqM p a b 1)))
theorem AlQ:Hw X (.type "range") AhI:=by intro pins s σ H xs us Q I d h;obtain⟨a,b,rfl,q⟩:=h;obtain⟨f,e,rfl,c,r2⟩:=d.two;obtain⟨t,rfl⟩:=c;obtain⟨t',rfl⟩:=r2;exact call_range_2 (AhH I q)
inductive AhJ (xs:LI)(H:Hp)(Q:VK):Prop
|mk(a:_)(b:_)(c:_)(_:xs=[.int a,.int b,.int c])(_:c≠0)(_:c.natAbs<1000000)(_:∀p,H p=none->Q (.ref p) (upd H p (AqM p a b c)))
theorem AlR:Hw X (.type "range") AhJ:=by
 intro pins s σ H xs us Q I d h;obtain⟨a,b,c,rfl,hc,j,q⟩:=h;cases d with
 |cons e d=>cases d with
  |cons r2 d=>cases d with
   |cons i d =>
    cases d;obtain⟨t,rfl⟩:=e;obtain⟨t',rfl⟩:=r2;obtain⟨f,rfl⟩:=i;exact call_range_3 hc (AhH I q) (Or.inl (PyProof.noPylong_small AA))
inductive Aga (xs:LI)(H:Hp)(Q:VK):Prop
|mk(p:Nn)(a:Int)(b:Int)(c:Int)(n:Nat)(_:xs=[.ref p])(_:H p=some (AqM p a b c))(_:Builtin.Range.small a b c=true)(_:Builtin.Range.rangeSize a b c=n)(_:n<=1000)(_:∀l,H l=none->Q (.ref l) (upd H l (.lst (vI (Ab1 a c n)))))
theorem Ac1(hc:X.calm=true:=by rfl):Hw X (.type "list") Aga:=by
 intro pins s σ H xs us Q I w h;obtain⟨p,a,b,c,n,rfl,y,r,hn,l,q⟩:=h;obtain⟨u,rfl,o⟩:=w.one;cases o;obtain⟨⟨t,u,v,B⟩,_,_⟩:=I.hok p _ y;refine call_list_range (I.ok.hd hc) B r hn (Ayh l Ap) λh' tk acc m hk A hi=>⟨.ref s.heap.objs.size,_,I.laid hk (AxU _) ?_,U,q _ (I.hok.fresh (AxU _))⟩;have d:(vI (Ab1 a c n)).length=n:=by rw[Cp];unfold Ab1;rw[AxR,Ayw]
 refine⟨by rw[d];exact Ay3 (AlF l),acc.toList,m,?_,A⟩;refine Xx _ _ (by rw[d,zK,hi.1]) λi x u j e2=>?_;obtain⟨z,e,rfl⟩:=Ln j;obtain⟨t',rfl⟩:=hi.2 i u (by rw[<-zO];exact e2);have f:i<n:=by
  have:= (zC.mp j).1
  rwa [d]at this
 unfold Ab1 at e;rw[AxZ,Azk f]at e;cases e;exact⟨t',U⟩
inductive Aa9 (xs:LI)(H:Hp)(Q:VK):Prop
|mk(z:_)(n:_)(_:xs=[.str z])(_:PySem.intText? z=some n)(_:z.length<=640)(_:Q (.int n) H)
theorem AlS:Hw X (.type "int") Aa9:=by intro pins s σ H xs us Q I b h;obtain⟨z,n,rfl,hn,a,q⟩:=h;obtain⟨u,rfl,t,rfl⟩:=b.one;exact W.KIN.call_text hn a ⟨.int n,H,I.tok _,⟨_,U⟩,q⟩
inductive AhK (K:NO)(xs:LI)(H:Hp)(Q:VK):Prop
|mk(a:_)(ns:_)(_:xs=[.ref a])(_:SqL K H a (vI ns))(_:Q (.int ns.sum) H)
theorem AlT(c:X.K=K:=by rfl)(hc:X.calm=true:=by rfl):Hw X (.builtin "sum") (AhK K):=by
 subst c;intro pins s σ H xs us Q I i h;obtain⟨a,ns,rfl,f,q⟩:=h;obtain⟨u,rfl,d⟩:=i.one;cases d;obtain⟨its,r,pl,l⟩:=I.list f;have hi:=intsAre_of r;obtain⟨xs,b⟩:=hi.allInts.items;have e:s.heap.IsList a (intItems xs):=by rw[<-b];exact pl.isList
 refine sum_intListG (I.ok.hd hc) e λh' tk t' hk=>?_;have j:xs.toList.map (·.1)=ns:=by
  have z:numsOf its.toArray.toList=ns:=hi.numsOf;rw[b,nums_intItems]at z;exact z
 rw[show preSum (numAt xs) xs.size=ns.sum by rw[preSum_eq,Ayy AB,j]];exact⟨.int ns.sum,H,I.kept hk,⟨t',U⟩,q⟩
end
section
variable {K:NO}{f:Str}{st:LL}{t:TS}
theorem Dt(a:PE X e ta)(c:attributeBase e f X.env (eval e X.env)=eval e X.env)(b:X.K=K:=by rfl):PE X (.Attribute e f pos) (AuY K ta f):=by subst b;exact AsV a c
theorem HJ(c:PE X o ta)(b:PE X value tv)(d:swapsWith value (some (.Attribute o f pos')) pos.line X.env=pure false:=by rfl)(a:X.K=K:=by rfl):PS X (.Assign [.Attribute o f pos'] value pos) (AuZ K ta tv f):=by subst a;exact AsW c b d
theorem Aju{op:Operator}{b:V->V->Hp->VK->Prop}(e:PE X o ta)(d:PE X value tv)(a:AsU X op b)(c:X.K=K:=by rfl):PS X (.AugAssign (.Attribute o f tpos) op value pos) (Akq K ta tv b f):=by subst c;exact AlA e d a
theorem Xy(h:X.A.frames=some X.stack->PS X st t):PS X st t:=λpins s σ H D I hw=>h I.ok.frames pins s σ H D I hw
end
structure Own (K:NO)(C f:Nn):Prop where
 c:Cls K C
 m:Mk K C f
theorem Atu{K:NO}(h1:W.plainGet K C Str.empty=true)(h2:W.hasDictIn K C=true)(h3:W.plainOver K C=true)(a:W.findIn K (.ref C) "__setattr__"=some (some (.builtin "object.__setattr__")))
  (e:W.makesIn K C=true) (b:W.findIn K (.ref C) "__init__"=some (some (.ref f))) (c:W.isFn K (.ref f)=true) (d:W.keepIn K (.ref C)=true):Own K C f:=⟨⟨h1,h2,h3,a⟩,⟨e,b,c,d⟩⟩
structure Av1 (K:NO)(C:Nn)(m:Str)(f:Nn):Prop where
 rd:W.readsIn K C (.type "type")=true
 fi:W.findCls K (.ref C) (.type "type") m=some (.val (.ref f))
 ha:W.handedIn (.ref f)=true
 sp:W.specialIn K (.ref C) "__getattribute__"=some (some (.builtin "type.__getattribute__"))
 kp:W.keepIn K (.ref f)=true
abbrev AqN (sp:Sp)(dvs:LI)(E:XK)(Q:VK)(vs:LI)(H2:Hp):Prop:=sp (vs++dvs) H2 Q E
inductive AqO (C:Nn)(sp:Sp)(dvs:LI)(E:XK)(t:TA)(σ:St)(Q:VK)(x:V)(H1:Hp):Prop
|mk(_:x=.ref C)(_:t σ H1 (AqN sp dvs E Q))
def Av2 (C:Nn)(sp:Sp)(dvs:LI)(E:XK)(ta:TE)(t:TA)(σ:St)(H:Hp)(Q:VK):Prop:=ta σ H (AqO C sp dvs E t σ Q)
section
variable {k:Nat}{t:TA}
theorem HN(z:PE X o ta)(M:Av1 X.K C m f)(F:Bm X.prog X.w X.K X.mg X.base CX k f fd ps sp)(D:FT k X.A)(j:Binds X.K fd ps ds)(y:Vals dvs ds)(B:Passes CX X E)(v:PA X (e::es) t)
  (b:starEach (e::es) X.env=(false,eval e X.env)::starEach es X.env:=by rfl) (c:(backTo pos (starEach es X.env)).any (·.1)=false:=by rfl)
  (i:eval (.Call (.Attribute o m apos) (e::es) [] pos) X.env=(do
   let ov <-eval o X.env
   standAt apos.atName
   let (f,first) <-holding [ov] (getMethod ov m pl)
   callWith pos f first (backTo pos (starEach (e::es) X.env)) (backToKw pos (keywordEach [] X.env))):=by rfl) :
  PE X (.Call (.Attribute o m apos) (e::es) [] pos) (Av2 C sp dvs E ta t):=by
 intro pins s σ H Q I h;refine W.methodCall_KW (pl:=pl) (thn (z pins s σ H _ I h) λu p ⟨x,H1,a,l,ex,q⟩=>?_) i;subst ex;obtain rfl:u=Value.ref C:=l;refine W.method_cls a.kIn M.sp (W.cls_value a.kIn M.rd M.fi M.ha (W.callWith_K (first:=[]) (h₀:=X.base) I.ok.mod.kin M.kp (thn (v pos pins _ σ H1 _ (a.tok (p.toks+1)) q) λus G ⟨vs,H2,d,r,n⟩=>⟨d.kIn,?_⟩) b c));exact W7 (us:=us) (vs:=vs) F D j y B d r n
end
section
variable [DecidableEq κ]
def O6 (kvs:List (κ×V))(k:κ):Option V:=(kvs.find? λkv=>decide (kv.1=k)).map (·.2)
def putK(kvs:List (κ×V))(k:κ)(v:V):List (κ×V):=
 if (kvs.any λkv=>decide (kv.1=k))=true then kvs.map (λkv=>if kv.1=k then (kv.1,v) else kv) else kvs++[(k,v)]
theorem Hh{p:κ×V}{r:List (κ×V)}{k:κ}(e:p.1=k):O6 (p::r) k=some p.2:=by simp[O6,Azl,e]
theorem Hi{p:κ×V}{r:List (κ×V)}{k:κ}(e:¬p.1=k):O6 (p::r) k=O6 r k:=by simp[O6,Azl,e]
theorem Ac2(k:κ):∀kvs:List (κ×V),(kvs.any λa=>decide (a.1=k))=(O6 kvs k).isSome
 |[]=>rfl
 |p::r=>by
  rw[AyR];by_cases e:p.1=k
  ·simp only [Hh e,zN e,Bool.true_or,Option.isSome_some]
  ·rw[Hi e,zJ e,Bool.false_or];exact Ac2 k r
theorem AhL(k j:κ)(y:V):∀kvs:List (κ×V),O6 (kvs.map λa=>if a.1=k then (a.1,y) else a) j=(O6 kvs j).map λx=>if j=k then y else x
 |[]=>rfl
 |p::r=>by
  have b:=AhL k j y r;rw[Ayd];by_cases h:p.1=k
  ·rw[yF h];by_cases e:p.1=j
   ·rw[Hh (p:=(p.1,y)) e,Hh e,Azw,yF (e.symm.trans h)]
   ·rw[Hi (p:=(p.1,y)) e,Hi e,b]
  ·rw[yE h];by_cases e:p.1=j
   ·rw[Hh (p:=p) e,Hh e,Azw,yE (λz=>h (e.trans z))]
   ·rw[Hi (p:=p) e,Hi e,b]
theorem Afd(k j:κ)(y:V):∀kvs:List (κ×V),O6 kvs k=none->O6 (kvs++[(k,y)]) j=if j=k then some y else O6 kvs j
 |[],_=>by
  by_cases e:k=j
  ·rw[yF e.symm];exact Hh (p:=(k,y)) e
  ·rw[yE (λz=>e z.symm)];exact Hi (p:=(k,y)) e
 |p::r,hn=>by
  rw[Ay9];have hk:¬p.1=k:=λz=>by rw[Hh z]at hn;cases hn
  rw[Hi hk]at hn;have a:=Afd k j y r hn;by_cases e:p.1=j
  ·rw[Hh e,Hh e,yE (λz=>hk (e.trans z))]
  ·rw[Hi e,Hi e,a]
theorem An9(kvs:List (κ×V))(k j:κ)(y:V):O6 (putK kvs k y) j=if j=k then some y else O6 kvs j:=by
 unfold putK;by_cases a:(kvs.any λb=>decide (b.1=k))=true
 ·rw[yF a,AhL];rw[Ac2]at a;by_cases e:j=k
  ·obtain⟨x,c⟩:=Option.isSome_iff_exists.mp a;rw[yF e,e,c,Azw,yF rfl]
  ·rw[yE e];cases O6 kvs j with
   |none=>rfl
   |some x=>rw[Azw,yE e]
 ·rw[yE a];refine Afd k j y kvs ?_;rw[Ac2]at a;cases q:O6 kvs k with
  |none=>rfl
  |some x=>rw[q]at a;exact(a U).elim
theorem AaA(kvs:List (κ×V))(k:κ)(v:V):(putK kvs k v).length<=kvs.length+1:=by
 unfold putK;split
 ·rw[AxR];omega
 ·rw[AxS,AxX,Ayu];omega
theorem Z9.AlU{o:Option V}{u:Na}(r:Z9 o u):o.isSome=u.isSome:=by
 cases o with
 |none=>cases u with
  |none=>rfl
  |some _=>exact(show False from r).elim
 |some _=>cases u with
  |none=>exact(show False from r).elim
  |some _=>rfl
theorem KV.val{kvs:List (κ×V)}{vs:List (κ×N0)}(r:KV kvs vs)(k:κ):Z9 (O6 kvs k) (valueAt vs k):=by
 unfold KV at r
 induction r with
 |nil=>exact True.intro
 | @cons p q ps qs h t c =>
  obtain⟨h1,h2⟩:=h;by_cases e:p.1=k
  ·have a:q.1=k:=h1.symm.trans e;have b:valueAt (q::qs) k=some q.2:=by simp[valueAt,Azl,a]
   rw[Hh e,b];exact h2
  ·have a:¬q.1=k:=λz=>e (h1.trans z);have b:valueAt (q::qs) k=valueAt qs k:=by simp[valueAt,Azl,a]
   rw[Hi e,b];exact c
theorem KV.any{kvs:List (κ×V)}{vs:List (κ×N0)}(r:KV kvs vs)(k:κ):(kvs.any λa=>decide (a.1=k))=vs.any λa=>decide (a.1=k):=by
 unfold KV at r
 induction r with
 |nil=>rfl
 |cons h t b=>rw[AyR,AyR,b,h.1]
theorem KV.repl{kvs:List (κ×V)}{vs:List (κ×N0)}(r:KV kvs vs)(k:κ)(c:RelV y u) :
  KV (kvs.map λa=>if a.1=k then (a.1,y) else a) (vs.map λa=>if a.1=k then (a.1,u) else a):=by
 unfold KV at r ⊢
 induction r with
 |nil=>exact .nil
 | @cons p q ps qs h t b =>
  rw[Ayd,Ayd];refine .cons ?_ b;obtain⟨h1,h2⟩:=h;by_cases e:p.1=k
  ·rw[yF e,yF (h1.symm.trans e)];exact⟨h1,c⟩
  ·rw[yE e,yE (λz=>e (h1.trans z))];exact⟨h1,h2⟩
theorem KV.put{kvs:List (κ×V)}{vs:List (κ×N0)}(r:KV kvs vs)(k:κ)(a:RelV y u):KV (putK kvs k y) (stored vs k u):=by
 unfold putK stored;rw[r.any k];by_cases e:(vs.any λb=>decide (b.1=k))=true
 ·rw[yF e,yF e];exact r.repl k a
 ·rw[yE e,yE e];exact Paired.snoc r ⟨U,a⟩
theorem KV.length{kvs:List (κ×V)}{vs:List (κ×N0)}(r:KV kvs vs):kvs.length=vs.length:=Paired.length r
end
theorem AnA{k:Key}(r:RelV (kV k) u):(Ku P w).is k u=true:=by
 cases k with
 |inl i=>obtain⟨t,e⟩:=(show ∃t,u=Value.int i t from r);subst e;exact Ahy P w i t
 |inr x=>obtain⟨t,e⟩:=(show ∃t,u=Value.str x t from r);subst e;exact Ahz P w x t
theorem Av3{u:HO}(ok:HOk P w H h)(e:Rd H a u):Gp P w H h a u:=e.ok ok
theorem Akx(ok:HOk P w H h)(e:Rd H a (.dK kvs)):kvs.length<=sizeLine/\(a == sysModules)=false/\∃vs,KV kvs vs/\h.DictOf (Ku P w) a vs:=
 show Gp P w H h a (.dK kvs) from Av3 ok e
theorem Av4(ok:HOk P w H h)(e:H a=some (.dK kvs)):kvs.length<=sizeLine/\(a == sysModules)=false/\∃vs,KV kvs vs/\h.DictOf (Ku P w) a vs:=Akx ok (.inl e)
def Agb (H:Hp)(a:Nn)(y:V)(r:Option V):Prop:=∃kvs k,Rd H a (.dK kvs)/\y=kV k/\r=O6 kvs k
def AnB (H:Hp)(a:Nn)(y v:V)(H':Hp):Prop:=∃kvs k,H a=some (.dK kvs)/\y=kV k/\kvs.length<sizeLine/\H'=upd H a (.dK (putK kvs k v))
theorem Agb.k{H:Hp}{a:Nn}{kvs:List (Key×V)}{k:Key}(e:H a=some (.dK kvs)):Agb H a (kV k) (O6 kvs k):=⟨kvs,k,.inl e,U,U⟩
theorem AnB.k{H:Hp}{a:Nn}{kvs:List (Key×V)}{k:Key}{v:V}(e:H a=some (.dK kvs))(b:kvs.length<sizeLine):AnB H a (kV k) v (upd H a (.dK (putK kvs k v))):=⟨kvs,k,e,U,b,U⟩
section
variable {r:N0}{o:Option V}{E:NU}
theorem Inv.big(I:Inv X pins σ H s):sysModules<s.heap.objs.size:=by have h:mainGlobals<s.heap.objs.size:=(I.mod.glob.keeps I.bk).lt;exact Azs Ap h
theorem AlV{Q:NU}(j:A.units+1<cLine)(I:Inv X pins σ H s)(g:Agb H a y (some v))(i:RelV y u)(h:∀b s',Inv X pins σ H s'->RelV v b->Q b s') :
  wpAny (model X.prog X.w) A (getItem (.ref a) u) Q E s:=by
 obtain⟨kvs,k,e,f,l⟩:=g;subst f;obtain⟨z,m,vs,d,dd⟩:=Akx I.hok e;obtain⟨b,hw,c⟩:=Z9.some_of (v:=v) (o:=valueAt vs k) (by rw[l];exact d.val k);exact wpAny_getItem_of (AnA i) dd.mapOf hw (h b _ (I.tok _) c)
theorem AwZ{Q:NU}(i:A.units+1<cLine)(I:Inv X pins σ H s)(g:Agb H a y o)(c:RelV y u)(h:∀s',Inv X pins σ H s'->Q (.bool o.isSome) s') :
  wpAny (model X.prog X.w) A (compareOp .In u (.ref a)) Q E s:=by
 obtain⟨kvs,k,e,f,l⟩:=g;subst f;obtain⟨z,d,vs,b,dd⟩:=Akx I.hok e;refine wpAny_in_of (AnA c) d dd.mapOf ?_;rw[<-(b.val k).AlU,<-l];exact h _ (I.tok _)
theorem AqP{c:HO}(I:Inv X pins σ H s)(i:Mut (H a))(f:Heap.SameBut a s.heap h')(h:∃q,h'.get? a=some q)(new:Gp X.prog X.w (upd H a c) h' a c) :
  Inv X pins σ (upd H a c) {s with heap:=h',toks:=t'}:=
 I.write (x:=a) (e:=a) i (.inl U) (λb q d z=>(f.2 b d).trans z) h new
theorem Atv{vs:List (Key×N0)}(z:kvs.length<=sizeLine)(c:(a == sysModules)=false)(b:KV kvs vs)(dd:h'.DictOf (Ku P w) a vs) :
  Gp P w H' h' a (.dK kvs):=⟨z,c,vs,b,dd⟩
theorem AlW(B:A.units+1<cLine)(I:Inv X pins σ H s)(g:AnB H a y v H')(n:RelV y u)(p:RelV v r)(h:∀s',Inv X pins σ H' s'->Q () s') :
  wpAny (model X.prog X.w) A (setItem (.ref a) u r) Q E s:=by
 obtain⟨kvs,k,e,i,l,x⟩:=g;subst i x;obtain⟨z,f,vs,b,dd⟩:=Av4 I.hok e;have d:vs.length<=sizeLine:=by rw[<-b.length];exact z
 have o:(putK kvs k v).length<=sizeLine:=by have:=AaA kvs k v;omega
 refine wpAny_setItem_pairs (hsz:=d) (AnA n) dd λh' c j=>h _ ?_;have m:∃q,h'.get? a=some q:=let ⟨q,_,_,hq,_⟩:=c;⟨q,hq⟩
 exact AqP I (by rw[e];exact True.intro) j m (Atv o f (b.put k p) c)
end
def Atw (i:Expr):Prop:=∀ov iv,subscripted i false ov iv=operate [ov,iv] (getItem ov iv)
theorem Aky{E:NU}{a:Expr}{id:String}{Q:NU}
  (m:typeLookup (.type T) "__getitem__"=pure (some (.builtin id))) (l:Atw a)
  (h:wpAny (model prog w) A (eval value env) (λo d=>wpAny (model prog w) A (eval a env) (λi b=>b.TypeIs o T/\wpAny (model prog w) A (getItem o i) Q E b) E d) E s) :
  wpAny (model prog w) A (eval (.Subscript value a pos) env) Q E s:=by
 refine Subscript_ (zT h (λo d h₁=>zT h₁ (λi b c=>?_) λ_ _ x=>x) λ_ _ x=>x);obtain⟨j,c⟩:=c;unfold subscriptTail;refine zA ?_;rw[getitemInPython_of_ne j.not_modules];refine zA (wpAny_specialOf j m ?_);have fin:wpAny (model prog w) A (subscripted a false o i) (λr e=>wpAny (model prog w) A (letTemporaryGo value o r >>= λ_=>pure r) Q E e) E b:=by
  rw[l o i];exact wpAny_operating (zT c (λr e f=>zA (wpAny_letTemporaryGo (zE f))) λ_ _ x=>x)
 first
  |exact zE (zA fin)
  |exact zA (zE (zA fin))
  |exact zA fin
theorem AhM{o:Option V}(I:Inv X pins σ H s)(g:Agb H a y o):s.TypeIs (.ref a) "dict":= by
 obtain⟨kvs,k,e,_,_⟩:=g;obtain⟨_,_,vs,_,dd⟩:=Akx I.hok e;exact dd.typeIs
inductive AqQ (Q:VK)(x:V)(y:V)(H2:Hp):Prop
|mk(a:_)(v:_)(_:x=.ref a)(_:Agb H2 a y (some v))(_:Q v H2)
abbrev AqR (ty:TE)(σ:St)(Q:VK)(x:V)(H1:Hp):Prop:=ty σ H1 (AqQ Q x)
def Av5 (td:TE)(ty:TE)(σ:St)(H:Hp)(Q:VK):Prop:=td σ H (AqR ty σ Q)
inductive Atx (Q:VK)(y:V)(x:V)(H2:Hp):Prop
|mk(a:_)(o:_)(_:x=.ref a)(_:Agb H2 a y o)(_:Q (.bl o.isSome) H2)
abbrev Aty (td:TE)(σ:St)(Q:VK)(y:V)(H1:Hp):Prop:=td σ H1 (Atx Q y)
def Axa (ty:TE)(td:TE)(σ:St)(H:Hp)(Q:VK):Prop:=ty σ H (Aty td σ Q)
inductive AqS (D:Ends)(σ:St)(v:V)(x:V)(y:V)(H3:Hp):Prop
|mk(a:_)(H4:_)(_:x=.ref a)(_:AnB H3 a y v H4)(_:D.nx σ H4)
abbrev AqT (ty:TE)(D:Ends)(σ:St)(v:V)(x:V)(H2:Hp):Prop:=ty σ H2 (AqS D σ v x)
abbrev AqU (td:TE)(ty:TE)(D:Ends)(σ:St)(v:V)(H1:Hp):Prop:=td σ H1 (AqT ty D σ v)
def Av6 (td:TE)(ty:TE)(tv:TE)(D:Ends)(σ:St)(H:Hp):Prop:=tv σ H (AqU td ty D σ)
section
variable {i:Expr}
theorem AqV(l:X.A.units+1<cLine)(p:PE X o td)(hi:PE X i ty)(n:Atw i):PE X (.Subscript o i pos) (Av5 td ty):=by intro pins s σ H Q I h;refine Aky F.slot_dict_getitem.lookup n (thn (p pins s σ H _ I h) λu j ⟨x,H1,q,d,m⟩=>thn (hi pins j σ H1 _ q m) λz C ⟨y,H2,c,r,a,v,ex,g,f⟩=>?_);subst ex;obtain rfl:u=Value.ref a:=d;exact⟨AhM c g,AlV l c g r λB w e b=>⟨v,H2,e,b,f⟩⟩
theorem Atz(l:X.A.units+1<cLine)(hi:PE X i ty)(n:PE X o td):PC X .In i o (Axa ty td):=by intro pins s σ H Q I h;refine thn (hi pins s σ H _ I h) λv j ⟨y,H1,p,q,m⟩=>thn (n pins j σ H1 _ p m) λu w ⟨x,H2,b,c,a,e,ex,g,f⟩=>?_;subst ex;obtain rfl:u=Value.ref a:=c;exact AwZ l b g q λr d=>⟨.bl e.isSome,H2,d,U,f⟩
theorem AqW(C:X.A.units+1<cLine)(j:PE X o td)(hi:PE X i ty)(e:PE X value tv)(f:swapsWith value (some (.Subscript o i pos')) pos.line X.env=pure false) :
  PS X (.Assign [.Subscript o i pos'] value pos) (Av6 td ty tv):=by
 intro pins s σ H D I h;refine wpAny_Assign_Subscript (thn (e pins s σ H _ I h) λr B ⟨v,H1,l,q,E⟩=>thn (j pins B σ H1 _ l E) λu m ⟨x,H2,b,w,z⟩=>thn (hi pins m σ H2 _ b z) λK J ⟨y,H3,c,n,a,d,ex,g,p⟩=>?_) f;subst ex;obtain rfl:u=Value.ref a:=w;exact AlW C c g n q λG F=>⟨σ,d,F,p⟩
end
theorem AnC(h:Heap)(a:sysModules<h.objs.size):Gp P w H (h.push {cls:=.type "dict",data:=.dict #[]}) h.objs.size (.dK []):=
 ⟨Ayf _,zZ.mpr (yL (Aye a)),[],.nil,Heap.DictOf.new h⟩
def At0:TE:=λ_ H Q=>∀p,H p=none->Q (.ref p) (upd H p (.dK []))
theorem AnD:PE X (.Dict [] [] pos) At0:=λpins s σ H Q I h =>
 wpAny_Dict_empty ⟨.ref s.heap.objs.size,_,I.laid (a:=s.heap.objs.size) (o:=.dK []) (t':=s.toks) (λ_ _ q=>zB _ q) (AxU _) (AnC s.heap I.big),U,h _ (I.hok.fresh (AxU _))⟩
def IsD (H:Hp)(a:Nn):Prop:=(∃kvs,Rd H a (.dK kvs))\/∃kvs,Rd H a (.dT kvs)
open PySem PySem.Spec PySem.Calls PyProof.Rows PyProof.Rows.KTD
def Top (K:NO)(a:Nn)(D:List (Str×Str)):Prop:=∀h:Heap,K.In h->TextTab h a (D.map λp=>(p.1,Dat.flat (.str p.2)))
theorem At1{K:NO}(c:tabLook (datLooks λb=>K.lookup b) (λb=>K.lookup b) a (D.map λp=>(p.1,Dat.flat (.str p.2)))=true):Top K a D:=λh X=>text_of_look (λb o e=>X b o e) c
def lk (D:List (Str×Str))(k:Str):Option Str:=(D.find? λp=>decide (p.1=k)).map (·.2)
theorem Afe(k:Str):∀D:List (Str×Str),inKeys k (D.map λp=>(p.1,Dat.flat (.str p.2)))=(lk D k).isSome
 |[]=>rfl
 |p::D=>by
  have a:=Afe k D;unfold lk at a ⊢;by_cases c:p.1=k
  ·simp[inKeys,c]
  ·have b:¬k=p.1:=λz=>c z.symm;simp[inKeys,c,b]
   simpa using a
theorem Asq{k v:Str}:∀{D:List (Str×Str)},lk D k=some v->∃d,datumAt k (D.map λp=>(p.1,Dat.flat (.str p.2)))=some d/\d=Dat.flat (.str v)
 |[],h=>by simp[lk]at h
 |p::D,h=>by
  unfold lk at h;rw[Azl]at h;by_cases c:p.1=k
  ·simp[c]at h;subst h;exact⟨_,by simp[datumAt,c],U⟩
  ·have b:¬k=p.1:=λz=>c z.symm;simp only [c]at h;obtain⟨d,a,e2⟩:=Asq h;exact⟨d,by simp[datumAt,b,a],e2⟩
inductive AhN (a:Nn)(D:List (Str×Str))(Q:VK)(y:V)(x:V)(H2:Hp):Prop
|mk(k:_)(_:y=.str k)(_:x=.ref a)(_:Q (.bl (!(lk D k).isSome)) H2)
abbrev AhO (a:Nn)(D:List (Str×Str))(td:TE)(σ:St)(Q:VK)(y:V)(H1:Hp):Prop:=td σ H1 (AhN a D Q y)
def AlX (a:Nn)(D:List (Str×Str))(ty:TE)(td:TE)(σ:St)(H:Hp)(Q:VK):Prop:=ty σ H (AhO a D td σ Q)
inductive AlY (a:Nn)(D:List (Str×Str))(Q:VK)(x:V)(y:V)(H2:Hp):Prop
|mk(k:_)(v:_)(_:y=.str k)(_:x=.ref a)(_:lk D k=some v)(_:Q (.str v) H2)
abbrev AlZ (a:Nn)(D:List (Str×Str))(ty:TE)(σ:St)(Q:VK)(x:V)(H1:Hp):Prop:=ty σ H1 (AlY a D Q x)
def AqX (a:Nn)(D:List (Str×Str))(td:TE)(ty:TE)(σ:St)(H:Hp)(Q:VK):Prop:=td σ H (AlZ a D ty σ Q)
section
variable {i:Expr}
theorem AhP(T:Top X.K a D)(hi:PE X i ty)(n:PE X o td):PC X .NotIn i o (AlX a D ty td):=by intro pins s σ H Q I h;refine thn (hi pins s σ H _ I h) λv j ⟨y,H1,p,q,m⟩=>thn (n pins j σ H1 _ p m) λu r ⟨x,H2,c,d,k,l,ex,f⟩=>?_;subst l ex;obtain⟨tk,rfl⟩:=q;obtain rfl:u=Value.ref a:=d;refine notin_text ⟨T r.heap c.kIn,λb o e=>e⟩ ?_;rw[Afe];exact⟨.bl _,H2,c.tok _,U,f⟩
theorem AhQ{E:NU}{k v:Str}{tk:Tok}{Q:NU}(T:Top X.K a D)(I:Inv X pins σ H s)(e:lk D k=some v)(h:∀t s',Inv X pins σ H s'->Q (.str v t) s') :
  wpAny (model X.prog X.w) A (getItem (.ref a) (.str k tk)) Q E s:=by
 have c:Here s.heap s.heap a (D.map λp=>(p.1,Dat.flat (.str p.2))):=⟨T s.heap I.kIn,λb o e=>e⟩;unfold getItem
 try with_reducible refine z8 ?_
 refine zA (wpAny_sequenceKey c.typeIs Ap ?_);refine zA (wpAny_callSpecial?_slot c.typeIs F.slot_dict_getitem
  (yV F.slot_dict_getitem c.typeIs F.entry_dict_getitem ?_ (args_dict_getitem _ _)));show wpAny _ _ (dictGet a (.str k tk) >>= _) _ _ s;obtain⟨d,l,m⟩:=Asq e;refine zA (dictGet_text c (λd' f i j=>zE ⟨f,U,zE ?_⟩) λhn=>AC);rw[l]at i;cases i;subst m;exact Opened.of (P:=λx=>Q x _) (opened_str λt=>h t _ (I.tok _)) f j
theorem Ama(T:Top X.K a D)(m:PE X o td)(hi:PE X i ty)(l:Atw i):PE X (.Subscript o i pos) (AqX a D td ty):=by intro pins s σ H Q I h;refine Aky F.slot_dict_getitem.lookup l (thn (m pins s σ H _ I h) λu z ⟨x,H1,n,r,C⟩=>thn (hi pins z σ H1 _ n C) λG c ⟨y,H2,d,q,k,v,A,ex,B,w⟩=>?_);subst ex A;obtain rfl:u=Value.ref a:=r;obtain⟨tk,rfl⟩:=q;have j:Here c.heap c.heap a (D.map λp=>(p.1,Dat.flat (.str p.2))):=⟨T c.heap d.kIn,λb o e=>e⟩;exact⟨j.typeIs,AhQ T d B λt E f=>⟨.str v,H2,f,⟨t,U⟩,w⟩⟩
end
def At2 (K:NO)(a:Nn)(ys:NY):Prop:=∀H:Hp,SqT K H a (ys.map V.str)
theorem AqY{K:NO}{o:Obj}{its:Array N0}(e:K.lookup a=some o)(c:o.cls=.type "tuple") (d:o.data=.seq its n) (z:its.size<=sizeLine) (r:Vals (ys.map V.str) its.toList):At2 K a ys:=λ_=>.inr ⟨o,its,n,e,c,d,z,r⟩
structure DfH (K:NO)(x:Str)(st:LL)(f:Nn)(fd:No):Prop where
 a:W.nsIn K mainGlobals x=some (some (.ref f))
 F:Fun K x x st f fd
structure MfH (K:NO)(x q:Str)(st:LL)(C f:Nn)(fd:No):Prop where
 m:W.findIn K (.ref C) x=some (some (.ref f))
 g:W.isFn K (.ref f)=true
 F:Fun K x q st f fd
section
variable {K:NO}
theorem DfH.df{st:LL}(D:DfH K x st f fd)(X:K.In h)(G:h.Ns mainGlobals mg)
  (b:∀kV dc pm an cd ct us,us.length=ps.length->bindArgs (W.fnOf x x (Q9 st) (Jw st) (Ag st) .none kV dc pm an cd ct) ⟨us,[]⟩=pure (ps.zip us)):Df K mg x st ps f fd:=⟨D.F,W.mg_of X G D.a,D.F.binds b⟩
theorem MfH.meth{st:LL}(D:MfH K x q st C f fd):Meth K C x f:=⟨D.m,D.g,D.F.2⟩
theorem MfH.mf{st:LL}(D:MfH K x q st C f fd)
  (a:∀kV dc pm an cd ct us,us.length=ps.length->bindArgs (W.fnOf x q (Q9 st) (Jw st) (Ag st) .none kV dc pm an cd ct) ⟨us,[]⟩=pure (ps.zip us)):Mf K x q st ps C f fd:=⟨D.F,D.meth,D.F.binds a⟩
structure DfA (K:NO)(mg:Str->Na)(x y:Str)(st:LL)(ps:NY)(f:Nn)(fd:No):Prop where
 F:Fun K y y st f fd
 m:mg x=some (.ref f)
 b:Binds K fd ps []
theorem DfA.of{y:Str}{st:LL}(a:W.nsIn K mainGlobals x=some (some (.ref f)))(F:Fun K y y st f fd)(X:K.In h)(G:h.Ns mainGlobals mg)
  (b:∀kV dc pm an cd ct us,us.length=ps.length->bindArgs (W.fnOf y y (Q9 st) (Jw st) (Ag st) .none kV dc pm an cd ct) ⟨us,[]⟩=pure (ps.zip us)):DfA K mg x y st ps f fd:=⟨F,W.mg_of X G a,F.binds b⟩
theorem sc9{P:NY}(h:sc.kind=.function/\sc.isCoroutine=false/\sc.isGenerator=false/\N.take P.length=P:=by exact⟨U,U,U,U⟩)
  (g:N.Nodup/\(∀x∈P,sc.names.lookup x=some .local\/sc.names.lookup x=some .cell)/\∀y∈sc.names,y.2≠.free:=by decide +kernel):Al N P sc:=⟨h.1,h.2.1,h.2.2.1,g.1,h.2.2.2,g.2.1,g.2.2⟩
end
structure AnE (k:Nat)(A:Around):Prop where
 dp:A.depth+3*k+5<recursionLimit
 un:A.units+16*k+200<cLine
theorem FT.hd9{k:Nat}{v:Na}(r:FT (k+1) A):AnE 1 (A.mark v):=⟨by have:=r.dp;show A.depth+3*1+5<_;omega,by have:=r.un;show A.units+16*1+200<_;omega⟩
structure AnF (P:Program)(w:World)(K:NO)(mg:Str->Na)(base:Heap)(f:Nn)(fd:No)(ps:NY)(sp:Sp):Prop where
 len:∀vs H Q E,sp vs H Q E->vs.length=ps.length
 run:∀(A:Around)(outer:List Env)(s:Nw)(H:Hp)(args:Args)(us:NX)(vs:LI)(Q:VK)(E:XK),AnE 1 A->AdX P w K mg base A outer s H->BindsTo s fd args (ps.zip us)->Vals vs us->sp vs H Q E ->
  codeAny (model P w) A (.call (.ref f) args) (CR CX0 outer P w H s Q E) s
abbrev Cx.stir (X:Cx):Cx:={X with calm:=false}
theorem Ajv{K:NO}{base:Heap}{outer:List Env}{b:Nw}{vs:LI}
  (S:Al N ps scope) (a:AdX P w K mg base A outer s H) (c:vs.length=ps.length) (r:Vals vs us)
  (x:InCallC s s.heap.objs.size (bindL (envOfC qual scope s.heap.objs.size f cd).kindOf (ps.zip us) λ_=>none) (cellsFrom (s.heap.objs.size+1) scope.names []) (bindC (envOfC qual scope s.heap.objs.size f cd).kindOf (ps.zip us) λ_=>none) b) :
  Inv (ZJ CX P w K mg base N qual scope f cd A outer s H E).stir [] (start N vs) H b:=by
 have I:=AeT (CX:=CX) (A:={A with handled:=none}) (E:=E) S rfl (⟨a.frames,a.mod,a.bs,a.bsz,a.Td,a.frf,a.hok,a.bare⟩:AdX P w K mg base {A with handled:=none} outer s H) c r x;exact⟨⟨I.ok.mod,I.ok.kind,I.ok.glob,I.ok.blt,I.ok.above,I.ok.inj,I.ok.has,I.ok.cab,(λz=>nomatch z),Around.frames_deeper a.frames,I.ok.stk,I.ok.exf,I.ok.bs,I.ok.bsz,I.ok.AfE,I.ok.AfF,I.ok.Td,I.ok.frf⟩,I.os,I.bare,I.base,I.loc,I.cell,I.free,I.Lg,I.pin,I.hok,I.len⟩
section
variable {K:NO}{base:Heap}
theorem Fun.okH{st:LL}(F:Fun K x qual st f fd)(S:Al N ps (Ag st))(len:∀vs H Q E,sp vs H Q E->vs.length=ps.length)
  (d:∀(a:N0)(A:Around)(outer:List Env)(s:Nw)(H:Hp)(vs:LI)(Q:VK)(E:XK),sp vs H Q E ->
   ∃t,PSs (ZJ CX0 P w K mg base N qual (Ag st) f a A outer s H E).stir (Jw st) t/\t {nx:=λ_ H'=>Q .non H',rt:=Q} (start N vs) H):AnF P w K mg base f fd ps sp:=by
 obtain⟨oc,od,kV,X,Y,Z,a,ct,G,rfl,lk,l⟩:=F.ex;refine⟨len,λA outer s H args us vs Q E R i D r j=>?_⟩;have O:=len _ _ _ _ j;have B:K.In s.heap:=i.mod.kin.keeps λb o e=>(i.bs b o e).1;have m:s.heap.NoLimit:=i.mod.nolimit.keeps λb o e=>(i.bs b o e).1;have c:∀y∈ps.zip us,(Ag st).names.lookup y.1=some .local\/((Ag st).names.lookup y.1=some .cell/\((cellsFrom (s.heap.objs.size+1) (Ag st).names []).lookup y.1).isSome=true):=λ⟨n,v⟩ T=>by
  rcases S.par n (Azh T).1 with q|q
  ·exact .inl q
  ·exact .inr ⟨q,W.cellsFrom_some _ _ _ (.inl q)⟩
 refine codeAny_call_function (by have:=R.dp;omega) (B _ _ lk) U S.co S.gen U (W.codeRec_of B l) (D _ _ _ _ (wpAny_newFunctionEnv_cells S.kind c λenv L z x=>?_));subst L;refine⟨m.keeps x.toInCall.keep,codeAny_func ?_⟩;obtain⟨t,C,M⟩:=d a A outer s H vs Q E j;have I:Inv (ZJ CX0 P w K mg base N qual (Ag st) f a A outer s H E).stir [] (start N vs) H z:=Ajv S i O r x;refine zT (C [] z (start N vs) H _ I M) (λfl s' h=>?_) λe s' h=>h;have fin:∀{σ':St} {H':Hp} {v:V} {u:N0},Inv (ZJ CX0 P w K mg base N qual (Ag st) f a A outer s H E).stir [] σ' H' s'->RelV v u->Q v H'->CE outer P w H s Q u s':=
  λ{σ' H' v u} J p q=>⟨v,H',J.os,J.bare,J.base,J.hok,p,q⟩;cases fl with
 |ret u =>
  obtain⟨v,σ',H',J,p,q⟩:=h;exact fin J p q
 |next =>
  obtain⟨σ',H',J,q⟩:=h;exact fin (v:=V.non) (u:=Value.none) J U q
 |brk =>
  obtain⟨_,_,_,q⟩:=h;exact yR q
 |cont =>
  obtain⟨_,_,_,q⟩:=h;exact yR q
end
theorem Amb(v:PE X o ta)(c:ExC X.K C)(i:Meth X.K C m f)(F:AnF X.prog X.w X.K X.mg X.base f fd ps sp)(B:AnE 1 X.A)(n:Binds X.K fd ps [])
  (l:eval (.Call (.Attribute o m apos) [] [] pos) X.env=(do
   let ov <-eval o X.env
   standAt apos.atName
   let (f,first) <-holding [ov] (getMethod ov m pl)
   callWith pos f first (backTo pos (starEach [] X.env)) (backToKw pos (keywordEach [] X.env))):=by rfl) :
  PE X (.Call (.Attribute o m apos) [] [] pos) (Atq C sp E0 ta):=by
 intro pins s σ H Q I h;refine W.methodCall_KW (pl:=pl) (thn (v pins s σ H _ I h) λu j ⟨x,H1,b,p,a,ex,ea,q⟩=>?_) l;subst ex;obtain rfl:u=Value.ref a:=p;obtain⟨t,tb,z⟩:=Avz b ea;refine AqK b.kIn z c i.at_ i.fn (W.callWith_K0 (first:=[.ref a]) b.kIn i.kp ?_);have y:([Value.ref a]++[]).length=ps.length:=F.len _ _ _ _ q;refine wpAny_call (codeAny_mono (F.run X.A X.stack j H1 ⟨[.ref a],[]⟩ [.ref a] [.ref a] Q E0 B b.env0 (n j [.ref a] b.kIn y) (.cons U .nil) q) λr s' d=>?_);cases r with
 |error e=>exact yR d
 |ok fl =>
  cases fl with
  |ret u=>exact b.after d
  |next=>exact yR d
  |brk=>exact yR d
  |cont=>exact yR d
theorem AhR(l:NV):∀(k:Nat)(acc:NV),List.foldl (λb a=>b++a) acc.toArray (List.replicate k l.toArray)=(acc++(List.replicate k l).flatten).toArray
 | 0,acc=>AB
 |k+1,acc=>by
  have e:acc.toArray++l.toArray=(acc++l).toArray:=AB
  have e2:(acc++l)++(List.replicate k l).flatten=acc++(List.replicate (k+1) l).flatten:=by
   rw[Ayz,Ayv,Ay0]
  rw[<-e2,<-AhR l k (acc++l),<-e,Ayz,Azq]
inductive Av7 (x:V)(y:V)(H:Hp)(Q:VK):Prop
|mk(u:_)(n:_)(_:x=.str (tx u))(_:y=.int n)(_:0<=n)(_:n<=1000000)(_:u.length*n.toNat<=sizeLine)(_:Q (.str (tx (List.replicate n.toNat u).flatten)) H)
theorem K1:OpR X (binaryOp .Mult) Av7:=by
 intro pins s σ H x y v z Q I d i h;obtain⟨u,n,rfl,rfl,j,h1,h2,q⟩:=h;obtain⟨t,rfl⟩:=d;obtain⟨t',rfl⟩:=i;have hsz:=z7;have a:=Ba u;refine P.mul_str ?_ (λc1 b=>?_) (λc1 b=>?_) ?_
 ·grind
 ·rw[a];have hn:0<n:=Au
  have:(u.length:Int)<=(2 ^ 63-1) / n:=(Int.le_ediv_iff_mul_le hn).mpr AA;lia
 ·rw[a];exact zJ AA
 ·split
  ·next c =>
   have e:n=0:=AA
   rw[e]at q;exact⟨Ap,.str (tx []),H,I.tok _,⟨_,U⟩,q⟩
  ·split
   ·next c =>
    have e:tx (List.replicate n.toNat u).flatten=tx u:=by
     simp only [Bool.or_eq_true,beq_iff_eq]at c;rcases c with c|c
     ·rw[c];simp
     ·rw[a]at c;rw[Az9 c];simp
    rw[e]at q;exact⟨.str (tx u),H,I,⟨_,U⟩,q⟩
   ·have f:(⟨(List.replicate n.toNat (tx u).cps).foldl (·++·) #[]⟩:Str)=tx (List.replicate n.toNat u).flatten:=by
     have:= AhR u n.toNat [];exact congrArg Str.mk this
    rw[f];refine⟨?_,.str (tx (List.replicate n.toNat u).flatten),H,I.tok _,⟨_,U⟩,q⟩;rw[Ba,len_rep,Azr];exact h2
theorem Agc(x:Str)(c limit:Nat):∀(k i:Nat)(acc:Array Nat)(free:Nat),free<=i->acc.size+k<=limit ->
  (forIn (List.range' i k) (acc,free) (StrLaws.occBody x ⟨#[c]⟩ x.length limit)).run.fst.size=acc.size+((x.cps.toList.drop i).take k).count c
 | 0,i,acc,free,_,_=>AB
 |k+1,i,acc,free,hf,hl=>by
  rw[AzA,AyX];by_cases hc:x.cps.toList[i]?=some c
  ·have h1:=(StrLaws.subAt_one x c i).mpr hc;have e:StrLaws.occBody x ⟨#[c]⟩ x.length limit i (acc,free)=pure (ForInStep.yield (acc.push i,i+(⟨#[c]⟩:Str).length)):=by
    unfold StrLaws.occBody;rw[yF ⟨⟨⟨by show acc.size<limit;omega,hf⟩,h1.1⟩,h1.2⟩]
   rw[e];have b:=Agc x c limit k (i+1) (acc.push i) (i+(⟨#[c]⟩:Str).length) (AxU _) (by rw[Array.size_push];lia);have f:x.cps.toList.drop i=c::x.cps.toList.drop (i+1):=by
    obtain⟨a,d⟩:=zC.mp hc;rw[AyZ a,d]
   rw[f,AyG,List.count_cons_self];rw[Array.size_push]at b;refine Eq.trans b ?_;lia
  ·have h1:=λz=>hc ((StrLaws.subAt_one x c i).mp z);have e:StrLaws.occBody x ⟨#[c]⟩ x.length limit i (acc,free)=pure (ForInStep.yield (acc,free)):=by
    unfold StrLaws.occBody;rw[yE λz=>h1 ⟨z.1.2,z.2⟩]
   rw[e];have b:=Agc x c limit k (i+1) acc free AA AA;refine Eq.trans b ?_;by_cases a:i<x.cps.toList.length
   ·rw[AyZ a,AyG,List.count_cons_of_ne];intro z;exact hc (by rw[AxT a];exact congrArg some z)
   ·rw[List.drop_eq_nil_of_le Au,List.drop_eq_nil_of_le Au];simp
theorem Amc(l:NV)(c:Nat):(Builtin.Str.occurrences (tx l) ⟨#[c]⟩ 0 (tx l).length ((tx l).length+1)).length=l.count c:=by rw[StrLaws.occ_eq];have:= Agc (tx l) c ((tx l).length+1) ((tx l).length+1-0) 0 #[] 0 (AxU _) AB;rw[zK,this,Fv,Ba];simp[Ayy]
theorem Inv.UT{its:NW}(I:Inv X pins σ H s)
  (k:∀b o,b∉its->s.heap.get? b=some o->h'.get? b=some o) (d:∀b∈its,Q6 X pins H b):Inv X pins σ H {s with heap:=h',toks:=t'}:=by
 have a:∀b u,H b=some u->b∉its:=λb u e z=>by
  have:=(d b z).1;rw[this]at e;cases e
 have h:X.env.locals∉its:=λz=>(d _ z).2.1 U;refine I.step (g':=s.gens) (d':=s.drawn) (ch:=its) (λb f=>?_) (λb o _ _ hc e _=>k b o hc e) (λb o _ _ hc e _=>⟨o.slots,k b o hc e⟩) (λ_ _ _ _ n=>n)
  (λb o hc e=>⟨o,k b o hc e⟩) (λ_ _ e=>e) (λ_ _ _ e=>e) (λb ps e=>⟨#[],by rw[e];simp⟩) (λm i=>?_) (λb u e=>?_) I.bare
 ·obtain⟨_,h2,_,l,x,p⟩:=d b f;exact⟨l,h2,x,p⟩
 ·obtain⟨o,es,j,w,r⟩:=i;exact⟨o,es,j,k _ o h w,r⟩
 ·refine(I.hok b u e).stay (λc v hc q=>k c v ?_ q) (λ_ q=>q) λ_ _ q=>q;rcases hc with z|z
  ·rw[z];exact a b u e
  ·exact a c _ z
section
variable {K:NO}
inductive Axb (K:NO)(x:V)(y:V)(H:Hp)(Q:VK):Prop
|mk(p:_)(q:_)(xs:_)(ys:_)(_:x=.ref p)(_:y=.ref q)(_:SqL K H p xs)(_:SqL K H q ys)(_:xs.all Lj=true)(_:ys.all Lj=true)(_:Q (.bl (!eqL xs ys)) H)
theorem AqZ(l:X.A.units<cLine)(w:X.K=K:=by rfl):OpR X (compareOp .NotEq) (Axb K):=by
 subst w;intro pins s σ H x y v u Q I E C h;obtain⟨p,q,xs,ys,rfl,rfl,B,M,G,L,k⟩:=h;cases E;cases C;obtain⟨its,r,pl,N⟩:=I.list B;obtain⟨a,r2,b,o⟩:=I.list M;have z:=r.length;have O:=r2.length;by_cases m:xs.length=ys.length
 ·refine SeqAt.RcNeAt.lists (e:=λj=>eqV (xs.getD j .non) (ys.getD j .non)) pl.isList b.isList (by simp only [Ayt];omega) l (λj h1 h2=>?_) _ _ _ _ ?_
  ·have d:j<xs.length:=by simp only [Ayt]at h1;omega
   have c:j<ys.length:=Au
   obtain⟨n,D,J⟩:=r.get (i:=j) (x:=xs[j]) (by simp[d]);obtain⟨f,e2,F⟩:=r2.get (i:=j) (x:=ys[j]) (by simp[c]);have g1:its.toArray[j]=n:=by
    have:its.toArray[j]?=some n:=by simpa using D
    exact yI ((zP h1).symm.trans this)
   have g2:a.toArray[j]=f:=by
    have:a.toArray[j]?=some f:=by simpa using e2
    exact yI ((zP h2).symm.trans this)
   rw[g1,g2];have d1:xs.getD j .non=xs[j]:=by simp[List.getD,d]
   have d2:ys.getD j .non=ys[j]:=by simp[List.getD,c]
   show SeqAt.EqAt _ _ _ _ (eqV (xs.getD j .non) (ys.getD j .non));rw[d1,d2];exact Ajj J F (List.all_eq_true.mp G _ (Ayp d)) (List.all_eq_true.mp L _ (Ayp c))
  ·refine⟨.bl (!eqL xs ys),H,I,?_,k⟩;show Value.bool _=Value.bool _;rw[Ayt,<-z,AeX m]
 ·exact SeqAt.RcNeAt.lists_lengths pl.isList b.isList (by simp only [Ayt,bne_iff_ne];omega) l _ _ _ _ ⟨.bl (!eqL xs ys),H,I,by rw[Akv m];rfl,k⟩
end
theorem FT.AnG{k:Nat}(r:FT k A):A.units+100<cLine:=by have:=r.un;omega
section
variable {K:NO}
theorem Ajw(z:Int):∀ks:NF,inV (.int z) (vI ks)=decide (z∈ks)
 |[]=>by simp[inV,vI]
 |k::ks=>by
  have a:=Ajw z ks;unfold inV vI at a ⊢;rw[Ayd,AyR,a];by_cases h:k=z
  ·subst h;have:eqV (V.int k) (V.int k)=true:=Xr U;rw[this];simp
  ·have:eqV (V.int k) (V.int z)=false:=by simp[eqV,h]
   rw[this,Bool.false_or];exact z5.mpr (by simp[yL h])
end
section
variable {E:NU}
theorem Ac3(a:A.handled=none)(it:Nn)(x:Str)(t:Tok):Draws prog w A it [it] x.cps.size (λi v=>∃c u,x.cps[i]?=some c/\v=.str ⟨#[c]⟩ u) (λi h=>h.IsStrIter it (strIterType x) x t i):=by
 unfold strIterType;split
 ·exact Draws.strAscii a it x t
 ·exact Draws.strWide a it x t
structure ZM (z TI TO i1 i2:Nn):Prop where
 TIz:TI≠z
 TOz:TO≠z
 i1z:i1≠z
 i2z:i2≠z
 TITO:TI≠TO
 TIi1:TI≠i1
 TIi2:TI≠i2
 TOi1:TO≠i1
 TOi2:TO≠i2
 i12:i1≠i2
theorem Amd{TI TO i1 i2:Nn}{k:Nat}{a b:N0}{Q:NU}(D:ZM z TI TO i1 i2)
  (D1:∀A':Around,A'.handled=none->Draws prog w A' i1 fp1 n1 P1 S1) (D2:∀A':Around,A'.handled=none->Draws prog w A' i2 fp2 n2 P2 S2) (K:A.handled=none)
  (f1:∀c∈fp1,c≠z/\c≠TO/\c≠i2) (X:∀c∈fp2,c≠z/\c≠TO/\c≠i1)
  (hz:IsZip s.heap z TI TO .none) (a6:IsPair s.heap TI (.ref i1) (.ref i2)) (aa:IsPair s.heap TO a b) (h1:S1 k s.heap) (h2:S2 k s.heap) (ae:k<n1) (ab:k<n2)
  (hQ:∀x y h' tk,P1 k x->P2 k y->IsZip h' z TI TO (rawInt s.heap.objs.size)->IsPair h' TO x y->S1 (k+1) h'->S2 (k+1) h'->IsPair h' s.heap.objs.size x y->h'.objs.size=s.heap.objs.size+1 ->
   (∀c o,c≠z->c≠TO->c≠i1->c≠i2->s.heap.get? c=some o->h'.get? c=some o)->Q (.ref s.heap.objs.size) {s with heap:=h',toks:=tk}) :
  wpAny (model prog w) A (Builtin.«zip.__next__» ⟨[.ref z],[]⟩) (λfin s'=>∃v,fin=.done (.ret v)/\Q v s') E s:=by
 show wpAny _ _ (field (.ref z) 2 >>= _) _ _ _;refine zA (z9 hz U (x:=.bool false) U (zA (z9 hz U (x:=.ref TI) U (zA (yU a6 U (zA (zA (z9 hz U (x:=.none) U (zE (zA (wpAny_rule (zA (z9 hz U (x:=.ref TO) U (zA (wpAny_setField_rec hz AB λh₁ O m=>zA ?_)))))))))))))));simp only [List.zipIdx_cons,List.zipIdx_nil,AyX,List.forIn_nil];refine zA (zA (wpAny_onRaise (zA ((D1 _ K).item k _ _ _ ae ((D1 A K).frame _ _ _ h1 λc hc o e=>m.extBut _ _ (f1 c hc).1 e) λx J ac px P d=>zE ?_))));have d:Heap.SameBut i1 h₁ J:=d;have r:=d.extBut _ _ D.TOi1 (m.extBut _ _ D.TOz aa);refine zA (yU r U (zA (wpAny_updateSeq_pair r λI H f=>?_)));have f:Heap.SameBut TO J I:=f;refine zA (wpAny_letGo (zE (zA (zA (wpAny_onRaise (zA ((D2 _ K).item k _ _ _ ab ((D2 A K).frame _ _ _ h2 λc hc o e=>f.extBut _ _ (X c hc).2.1 (d.extBut _ _ (X c hc).2.2 (m.extBut _ _ (X c hc).1 e))) λy Z M py T h=>zE ?_)))))));have h:Heap.SameBut i2 I Z:=h;have u:=h.extBut _ _ D.TOi2 H;refine zA (yU u U (zA (wpAny_updateSeq_pair u λl i j=>?_)))
 replace i:IsPair l TO x y:=i
 refine zA (wpAny_letGo (zE (zE (zA (yU i U (zA (wpAny_newTuple ?_)))))));have hsz:l.objs.size=s.heap.objs.size:=by rw[j.1,h.1,f.1,d.1,m.1]
 have B:=j.extBut _ _ D.TOz.symm (h.extBut _ _ D.i2z.symm (f.extBut _ _ D.TOz.symm (d.extBut _ _ D.i1z.symm O)));have S:∀c o,c≠z->c≠TO->c≠i1->c≠i2->s.heap.get? c=some o->l.get? c=some o:=λc o c1 c2 c3 c4 e =>
  j.extBut _ _ c2 (h.extBut _ _ c4 (f.extBut _ _ c2 (d.extBut _ _ c3 (m.extBut _ _ c1 e))));have N:=(D1 A K).frame _ _ _ P λc hc o e=>j.extBut _ _ (f1 c hc).2.1 (h.extBut _ _ (f1 c hc).2.2 (f.extBut _ _ (f1 c hc).2.1 e));have W:=(D2 A K).frame _ _ _ T λc hc o e=>j.extBut _ _ (X c hc).2.1 e;have L:=yH B;refine zA ?_;have R:IsZip (l.push {cls:=.type "tuple",data:=.seq #[x,y]}) z TI TO .ellipsis:=zB _ B;refine zA (wpAny_setField_rec R AB λY q n=>?_)
 replace q:IsZip Y z TI TO (rawInt l.objs.size):=q
 refine wpAny_setField_rec q AB λG F p=>?_;have up:∀c o,c≠z->l.get? c=some o->G.get? c=some o:=λc o c1 e=>p.extBut _ _ c1 (n.extBut _ _ c1 (zB _ e));have C:=p.extBut _ _ (AyE L) (n.extBut _ _ (AyE L) (zD _ U));have a0:G.objs.size=l.objs.size+1:=by rw[p.1,n.1,yO]
 rw[hsz]at F C a0;refine zE ⟨_,U,?_⟩;rw[hsz];exact hQ x y G M px py F (up _ _ D.TOz i) ((D1 A K).frame _ _ _ N λc hc o e=>up _ o (f1 c hc).1 e) ((D2 A K).frame _ _ _ W λc hc o e=>up _ o (X c hc).1 e) C a0 λc o c1 c2 c3 c4 e=>up c o c1 (S c o c1 c2 c3 c4 e)
theorem AnH{TI TO i1 i2:Nn}{k:Nat}{a b:N0}{Q:Fin->Nw->Prop}(D:ZM z TI TO i1 i2)
  (O:∀A':Around,A'.handled=none->Draws prog w A' i1 fp1 n1 P1 S1) (T:∀A':Around,A'.handled=none->Draws prog w A' i2 fp2 n2 P2 S2) (C:A.handled=none)
  (f1:∀c∈fp1,c≠z/\c≠TO/\c≠i2) (J:∀c∈fp2,c≠z/\c≠TO/\c≠i1)
  (F:IsZip s.heap z TI TO .none) (K:IsPair s.heap TI (.ref i1) (.ref i2)) (M:IsPair s.heap TO a b) (h1:S1 k s.heap) (h2:S2 k s.heap) (B:k=n1\/(k<n1/\k=n2))
  (W:∀h' e tk,(∀c o,c≠z->c≠TO->c≠i1->c≠i2->s.heap.get? c=some o->h'.get? c=some o)->(∃o,h'.get? e=some o/\o.cls=.type "StopIteration")->E (.ref e) {s with heap:=h',toks:=tk}) :
  wpAny (model prog w) A (Builtin.«zip.__next__» ⟨[.ref z],[]⟩) Q E s:=by
 show wpAny _ _ (field (.ref z) 2 >>= _) _ _ _;refine zA (z9 F U (x:=.bool false) U (zA (z9 F U (x:=.ref TI) U (zA (yU K U (zA (zA (z9 F U (x:=.none) U (zE (zA (wpAny_rule (zA (z9 F U (x:=.ref TO) U (zA (wpAny_setField_rec F AB λh₁ m h=>zA ?_)))))))))))))));simp only [List.zipIdx_cons,List.zipIdx_nil,AyX,List.forIn_nil];refine zA (zA (wpAny_onRaise ?_));have g1:=(O A C).frame _ _ _ h1 λc hc o e=>h.extBut _ _ (f1 c hc).1 e;rcases B with hk|⟨R,hk⟩
 ·subst hk;refine zA ((O _ C).done _ _ _ g1 λj e d L=>?_);obtain⟨S,u,v⟩:=L;have y:IsZip j z TI TO .ellipsis:=d _ _ D.i1z.symm m;have q:e≠z:=λx=>AD
  refine wpAny_setField_rec y AB λl _ f=>W l e _ (λc o c1 _ c3 _ x=>f.extBut _ _ c1 (d _ _ c3 (h.extBut _ _ c1 x))) ⟨S,f.extBut _ _ q u,v⟩
 ·refine zA ((O _ C).item k _ _ _ R g1 λx j P px N d=>zE ?_);have d:Heap.SameBut i1 h₁ j:=d;have i:=d.extBut _ _ D.TOi1 (h.extBut _ _ D.TOz M);refine zA (yU i U (zA (wpAny_updateSeq_pair i λl I f=>?_)));have f:Heap.SameBut TO j l:=f;refine zA (wpAny_letGo (zE (zA (zA (wpAny_onRaise ?_)))));subst hk;refine zA ((T _ C).done _ _ _ ((T A C).frame _ _ _ h2 λc hc o e=>f.extBut _ _ (J c hc).2.1 (d.extBut _ _ (J c hc).2.2 (h.extBut _ _ (J c hc).1 e))) λH e p L=>?_);obtain⟨S,u,v⟩:=L;have r:IsZip H z TI TO .ellipsis:=p _ _ D.i2z.symm (f.extBut _ _ D.TOz.symm (d.extBut _ _ D.i1z.symm m));have q:e≠z:=λx=>AD
  refine wpAny_setField_rec r AB λG _ n=>W G e _ (λc o c1 X c3 Y x=>n.extBut _ _ c1 (p _ _ Y (f.extBut _ _ X (d.extBut _ _ c3 (h.extBut _ _ c1 x))))) ⟨S,n.extBut _ _ q u,v⟩
theorem Ajx{TI TO i1 i2:Nn}{k:Nat}{a b:N0}{Q:Na->Nw->Prop}(D:ZM z TI TO i1 i2)
  (m:∀A':Around,A'.handled=none->Draws prog w A' i1 fp1 n1 P1 S1) (p:∀A':Around,A'.handled=none->Draws prog w A' i2 fp2 n2 P2 S2) (q:A.handled=none)
  (f1:∀c∈fp1,c≠z/\c≠TO/\c≠i2) (l:∀c∈fp2,c≠z/\c≠TO/\c≠i1)
  (i:IsZip s.heap z TI TO .none) (d:IsPair s.heap TI (.ref i1) (.ref i2)) (f:IsPair s.heap TO a b) (h1:S1 k s.heap) (h2:S2 k s.heap) (e:k<n1) (h:k<n2)
  (r:∀x y h' tk,P1 k x->P2 k y->IsZip h' z TI TO (rawInt s.heap.objs.size)->IsPair h' TO x y->S1 (k+1) h'->S2 (k+1) h'->IsPair h' s.heap.objs.size x y->h'.objs.size=s.heap.objs.size+1 ->
   (∀c o,c≠z->c≠TO->c≠i1->c≠i2->s.heap.get? c=some o->h'.get? c=some o)->Q (some (.ref s.heap.objs.size)) {s with heap:=h',toks:=tk}) :
  wpAny (model prog w) A (pyNext (.ref z)) Q E s:=by
 have j:s.TypeIs (.ref z) "zip":= ⟨_,i,U⟩;exact zA (wpAny_attempt (wpAny_callSpecial?_slot j F.slot_zip_next
  (yV F.slot_zip_next j F.entry_zip_next
   (Amd D m p q f1 l i d f h1 h2 e h λx y h' tk a1 a2 a3 a4 a5 n a7 a8 a9=>zE (r x y h' tk a1 a2 a3 a4 a5 n a7 a8 a9)) (F.args_zip_next_1 _))))
theorem Ame{TI TO i1 i2:Nn}{k:Nat}{a b:N0}{Q:Na->Nw->Prop}(D:ZM z TI TO i1 i2)
  (m:∀A':Around,A'.handled=none->Draws prog w A' i1 fp1 n1 P1 S1) (q:∀A':Around,A'.handled=none->Draws prog w A' i2 fp2 n2 P2 S2) (r:A.handled=none)
  (f1:∀c∈fp1,c≠z/\c≠TO/\c≠i2) (l:∀c∈fp2,c≠z/\c≠TO/\c≠i1)
  (i:IsZip s.heap z TI TO .none) (f:IsPair s.heap TI (.ref i1) (.ref i2)) (h:IsPair s.heap TO a b) (h1:S1 k s.heap) (h2:S2 k s.heap) (d:k=n1\/(k<n1/\k=n2))
  (u:∀h' tk,(∀c o,c≠z->c≠TO->c≠i1->c≠i2->s.heap.get? c=some o->h'.get? c=some o)->Q none {s with heap:=h',toks:=tk}):wpAny (model prog w) A (pyNext (.ref z)) Q E s:=by
 have j:s.TypeIs (.ref z) "zip":= ⟨_,i,U⟩;refine zA (wpAny_attempt (wpAny_callSpecial?_slot j F.slot_zip_next
  (yV F.slot_zip_next j F.entry_zip_next (AnH D m q r f1 l i f h h1 h2 d λh' e tk hk n=>?_) (F.args_zip_next_1 _))));obtain⟨o,p,hc⟩:=n;exact zA (wpAny_isInstance ⟨o,p,hc⟩ isSubtype_stop (zE (u _ _ hk)))
abbrev Xz (x:Str)(t:Tok):Obj:={cls:=.type (strIterType x),data:=.fields #[.str x t,.int 0 0]}
abbrev AnI (l:Nn):Obj:={cls:=.type "list_iterator",data:=.fields #[.ref l,.int 0 0]}
abbrev O7 (h:Heap)(o1 o2:Obj):Heap:=((((h.push o1).push o2).push {cls:=.type "tuple",data:=.seq #[.ref h.objs.size,.ref (h.push o1).objs.size]}).push {cls:=.type "tuple",data:=.seq #[.none,.none]}).push
 {cls:=.type "zip",data:=.fields #[.none,.bool false,.bool false,.ref ((h.push o1).push o2).objs.size,.ref (((h.push o1).push o2).push {cls:=.type "tuple",data:=.seq #[.ref h.objs.size,.ref (h.push o1).objs.size]}).objs.size]}
abbrev Afg (h:Heap)(o1 o2:Obj):Addr:=((((h.push o1).push o2).push {cls:=.type "tuple",data:=.seq #[.ref h.objs.size,.ref (h.push o1).objs.size]}).push {cls:=.type "tuple",data:=.seq #[.none,.none]}).objs.size
set_option maxHeartbeats 4000000 in
theorem AhS(a:Nn)(xs:Array N0)(x:Str)(t:Tok) :
  Meets (Builtin.«zip.__new__» ⟨[.type "zip",.ref a,.str x t],[]⟩) (λ_ R s=>s.heap.IsList a xs/\R (.ok (.ret (.ref (Afg s.heap (AnI a) (Xz x t))))) {s with heap:=O7 s.heap (AnI a) (Xz x t)}):=
 .of_wp λprog w A R s h=>by
  obtain⟨f,g,d,tk,os⟩:=s;obtain⟨b,h⟩:=h;have e:=sub_zip;have c:Heap.IsList (Shared.heap ⟨f,g,d,tk,os⟩) a xs:=b
  wp_walk using wpAny_pyIter_list c,wpAny_pyIter_strU
  exact⟨_,U,h⟩
set_option maxHeartbeats 4000000 in
theorem AhT(y:Str)(u:Tok)(x:Str)(t:Tok) :
  Meets (Builtin.«zip.__new__» ⟨[.type "zip",.str y u,.str x t],[]⟩) (λ_ R s=>R (.ok (.ret (.ref (Afg s.heap (Xz y u) (Xz x t))))) {s with heap:=O7 s.heap (Xz y u) (Xz x t)}):=
 .of_wp λprog w A R s h=>by
  obtain⟨b,g,d,tk,os⟩:=s;have a:=sub_zip
  wp_walk using wpAny_pyIter_strU
  exact⟨_,U,h⟩
end
inductive Src where
 |l (a:Nn)
 |s (z:Str)
def Av8:Src->V
 | .l a=>.ref a
 | .s z=>.str z
def Ac4 (K:NO)(H:Hp):Src->Prop
 | .l a=>∃xs,SqL K H a xs
 | .s _=>True
def O8 (K:NO)(H:Hp):Src->Nat->V->Prop
 | .l a,i,v=>∃xs,SqL K H a xs/\xs[i]?=some v
 | .s z,i,v=>∃c,z.cps[i]?=some c/\v=.str ⟨#[c]⟩
def Ajy (K:NO)(H:Hp):Src->Nat->Prop
 | .l a,i=>∃xs,SqL K H a xs/\xs.length=i
 | .s z,i=>z.cps.size=i
def X3 (it:Nn)(t:Tok):Src->Nat->Heap->Prop
 | .l a,i,h=>h.IsListIter it a i
 | .s z,i,h=>h.IsStrIter it (strIterType z) z t i
def AnJ (it:Nn):Src->NW
 | .l a=>[it,a]
 | .s _=>[it]
theorem Ac5(I:Inv X pins σ H s){u:V}(h1:O8 X.K H S i u)(h2:O8 X.K H S i v):u=v:=by
 cases S with
 |l a =>
  obtain⟨xs,e,b⟩:=h1;obtain⟨ys,f,e2⟩:=h2;rw[I.Tf f e,b]at e2;exact yI e2
 |s z =>
  obtain⟨c,b,rfl⟩:=h1;obtain⟨d,e2,rfl⟩:=h2;rw[b]at e2;cases e2;rfl
theorem UW(I:Inv X pins σ H s){t:Tok}(st:X3 it t S i s.heap)(ok:Ac4 X.K H S)(B:∀a,S=.l a->a≠it) :
  ∃(n:Nat)(A:Nat->N0->Prop)(x:Nat->Heap->Prop),(∀b:Around,b.handled=none->Draws X.prog X.w b it (AnJ it S) n A x)/\x i s.heap/\(∀h',x (i+1) h'->X3 it t S (i+1) h') /\
   (∀v,O8 X.K H S i v->i<n/\∀u,A i u->RelV v u)/\(Ajy X.K H S i->i=n):=by
 cases S with
 |l a =>
  obtain⟨xs,q⟩:=ok;obtain⟨its,y,p1,_⟩:=I.list q;have len:=y.length;refine⟨_,_,_,λb p=>Draws.list p it a (B a U) its.toArray,⟨st,p1.isList⟩,λh' z=>z.1,λv m=>?_,λo=>?_⟩
  ·obtain⟨ys,h,e⟩:=m;rw[I.Tf h q]at e;obtain⟨u,j,r⟩:=y.get e;refine⟨by have:= (zC.mp j).1;simpa using this,λC f=>?_⟩;have:its[i]?=some C:=by simpa using f
   grind
  ·obtain⟨ys,h,e⟩:=o;rw[I.Tf h q]at e;grind
 |s z =>
  refine⟨_,_,_,λb p=>Ac3 p it z t,st,λh' z=>z,λv m=>?_,λo=>o.symm⟩;obtain⟨c,e,rfl⟩:=m;refine⟨by rw[Array.getElem?_eq_some_iff]at e;exact e.1,λu ⟨d,tk,e2,j⟩=>?_⟩;rw[e]at e2;cases e2;exact⟨tk,j⟩
def AhU (K:NO)(S1 S2:Src):It where
 go:=λi H=>(∃u,O8 K H S1 i u)/\∃v,O8 K H S2 i v
 yld:=λi H x H'=>∃T,x=.ref T/\H T=none/\∀u v,O8 K H S1 i u->O8 K H S2 i v->H'=upd H T (.tup [u,v])
 stop:=λi H=>Ac4 K H S1/\Ac4 K H S2/\(Ajy K H S1 i\/((∃u,O8 K H S1 i u)/\Ajy K H S2 i))
theorem AhV{K:NO}{u:V}(h:O8 K H S i u):Ac4 K H S:=by
 cases S with
 |l a=>obtain⟨xs,q,_⟩:=h;exact⟨xs,q⟩
 |s z=>trivial
def At3 (z TI TO i1 i2:Nn)(t1 t2:Tok)(S1 S2:Src)(i:Nat)(h:Heap):Prop:=IsZip h z TI TO .none/\IsPair h TI (.ref i1) (.ref i2)/\(∃p q,IsPair h TO p q)/\X3 i1 t1 S1 i h/\X3 i2 t2 S2 i h
theorem X4{t:Tok}(st:X3 it t S i h)(k:∀o,h.get? it=some o->h'.get? it=some o):X3 it t S i h':=by
 cases S with
 |l a=>exact Heap.IsListIter.at st k
 |s z=>obtain⟨o,e,c⟩:=st;exact⟨o,k o e,c⟩
theorem Va{t:Tok}(st:X3 it t S i h):∃o,h.get? it=some o/\∀v,o.data≠.cell v:=by
 cases S with
 |l a=>obtain⟨o,e,_,d⟩:=st;exact⟨o,e,λv z=>AC⟩
 |s z=>obtain⟨o,e,_,d⟩:=st;exact⟨o,e,λv z=>AC⟩
theorem Amf{K:NO}{TI TO i1 i2:Nn}{t1 t2:Tok}{S1 S2:Src}(D:ZM z TI TO i1 i2)
  (a1:∀a,S1=.l a->a≠z/\a≠TO/\a≠i1/\a≠i2) (a2:∀a,S2=.l a->a≠z/\a≠TO/\a≠i1/\a≠i2) :
  Turn P w K (.Tuple es kx tp) (AhU K S1 S2) [z,TI,TO,i1,i2] z (At3 z TI TO i1 i2 t1 t2 S1 S2):=by
 have f1:∀c∈AnJ i1 S1,c≠z/\c≠TO/\c≠i2:=λc hc=>by
  cases S1 with
  |l a =>
   rcases yC.mp hc with e|e
   ·subst e;exact⟨D.i1z,D.TOi1.symm,D.i12⟩
   ·rw[zF.mp e];exact⟨(a1 a U).1,(a1 a U).2.1,(a1 a U).2.2.2⟩
  |s x=>rw[zF.mp hc];exact⟨D.i1z,D.TOi1.symm,D.i12⟩
 have Y:∀c∈AnJ i2 S2,c≠z/\c≠TO/\c≠i1:=λc hc=>by
  cases S2 with
  |l a =>
   rcases yC.mp hc with e|e
   ·subst e;exact⟨D.i2z,D.TOi2.symm,D.i12.symm⟩
   ·rw[zF.mp e];exact⟨(a2 a U).1,(a2 a U).2.1,(a2 a U).2.2.1⟩
  |s x=>rw[zF.mp hc];exact⟨D.i2z,D.TOi2.symm,D.i12.symm⟩
 exact {
  mem:=AB
  obj:=λi h st c hc=>by
   obtain⟨m,b,⟨p,q,n⟩,j,d⟩:=st;simp only [Ayj,Ayq,yM]at hc;rcases hc with e|e|e|e|e
   ·simp_all
   ·simp_all
   ·simp_all
   ·subst e;exact Va j
   ·subst e;exact Va d
  keep:=λi h h' st k=>by
   obtain⟨m,b,⟨p,q,n⟩,j,d⟩:=st;exact⟨k _ AB _ m,k _ AB _ b,⟨p,q,k _ AB _ n⟩,X4 j λo e=>k _ AB o e,X4 d λo e=>k _ AB o e⟩
  item:=by
   intro X J hw G hc i pins s σ H E I L st N;subst J hw G;obtain⟨⟨x,O⟩,y,W⟩:=N;obtain⟨m,b,⟨p,q,n⟩,j,d⟩:=st;obtain⟨n1,P1,Q1,S,g1,e1,R,_⟩:=UW I j (AhV O) (λa e=>(a1 a e).2.2.1);obtain⟨n2,P2,Q2,Q,g2,e2,Z,_⟩:=UW I d (AhV W) (λa e=>(a2 a e).2.2.2);obtain⟨l1,r1⟩:=R x O;obtain⟨l2,r2⟩:=Z y W;refine Ajx D S Q (I.ok.hd hc) f1 Y m b n g1 g2 l1 l2 λu v h1 tk pu pv z1 w1 j1 j2 hT hsz C=>?_;have ru:=r1 u pu;have T:=r2 v pv;refine⟨_,U,wpAny_letOwnedTupleGo_zip z1 λh2 z2 sb=>?_⟩;have zl:=yH m;have a0:=yH b;have aa:=yH n;have a6:i1<s.heap.objs.size:=by obtain⟨_,e,_⟩:=Va j;exact yH e
   have ab:i2<s.heap.objs.size:=by obtain⟨_,e,_⟩:=Va d;exact yH e
   have A:∀c o,c≠z->h1.get? c=some o->h2.get? c=some o:=λc o c1 e=>(sb.2 c c1).trans e;have F:=I.hok.fresh (AxU _);have I1:Inv X pins σ (upd H s.heap.objs.size (.tup [x,y])) {s with heap:=s.heap.push {cls:=.type "tuple",data:=.seq #[u,v]},toks:=tk}:=
    I.laid (λc o e=>zB _ e) (AxU _) ⟨AE,[u,v],.cons ru (.cons T .nil),⟨_,zD _ U,U,_,U⟩⟩;have fp2:∀c∈[z,TI,TO,i1,i2],Q6 X pins (upd H s.heap.objs.size (.tup [x,y])) c:=λc hc=>by
    obtain⟨f0,f⟩:=L c hc;refine⟨?_,f⟩;have lt:c<s.heap.objs.size:=by
     simp only [Ayj,Ayq,yM]at hc;rcases hc with e|e|e|e|e<;>subst e<;>assumption
    rw[Ao (Aye lt)];exact f0
   have I2:Inv X pins σ (upd H s.heap.objs.size (.tup [x,y])) {s with heap:=h2,toks:=tk}:=by
    refine Inv.UT (s:={s with heap:=s.heap.push {cls:=.type "tuple",data:=.seq #[u,v]},toks:=tk}) I1 (λc o hc e=>?_) fp2;simp only [Ayj,Ayq,yM,not_or]at hc;refine A c o hc.1 ?_;by_cases B:c=s.heap.objs.size
    ·subst B;have M:(s.heap.push {cls:=.type "tuple",data:=.seq #[u,v]}).get? s.heap.objs.size=some {cls:=.type "tuple",data:=.seq #[u,v]}:=zD _ U;rw[M]at e;cases e;exact hT
    ·have M:s.heap.get? c=some o:=by
      rw[<-e];exact(Heap.get?_push_ne _ _ _ B).symm
     exact C c o hc.1 hc.2.2.1 hc.2.2.2.1 hc.2.2.2.2 M
   refine⟨.ref s.heap.objs.size,_,I2,U,⟨s.heap.objs.size,U,F,λu' v' q1 q2=>?_⟩,⟨z2,A _ _ D.TIz (C _ _ D.TIz D.TITO D.TIi1 D.TIi2 b),⟨u,v,A _ _ D.TOz w1⟩,X4 (e1 _ j1) λo e=>A _ o D.i1z e,X4 (e2 _ j2) λo e=>A _ o D.i2z e⟩,λc hc=>(fp2 c hc).1⟩;rw[Ac5 I q1 O,Ac5 I q2 W]
  done:=by
   intro X J hw G hc i pins s σ H E I L st N;subst J hw G;obtain⟨o1,o2,r⟩:=N;obtain⟨m,b,⟨p,q,n⟩,j,d⟩:=st;obtain⟨n1,P1,Q1,S,g1,e1,R,d1⟩:=UW I j o1 (λa e=>(a1 a e).2.2.1);obtain⟨n2,P2,Q2,Q,g2,e2,Z,d2⟩:=UW I d o2 (λa e=>(a2 a e).2.2.2);have he:i=n1\/(i<n1/\i=n2):=by
    rcases r with h|⟨⟨u,hu⟩,h⟩
    ·exact .inl (d1 h)
    ·exact .inr ⟨(R u hu).1,d2 h⟩
   refine Ame D S Q (I.ok.hd hc) f1 Y m b n g1 g2 he λh' tk C=>⟨U,I.UT (λc o hc e=>?_) L⟩;simp only [Ayj,Ayq,yM,not_or]at hc;exact C c o hc.1 hc.2.2.1 hc.2.2.2.1 hc.2.2.2.2 e
  self:=λ_ _ _ _ _ st h=>wpAny_pyIter_zip st.1 h}
theorem AhW{o1 o2:Obj}(j:o1.isFreed=false)(e2:o2.isFreed=false):Afg h o1 o2=h.objs.size+4/\IsZip (O7 h o1 o2) (h.objs.size+4) (h.objs.size+2) (h.objs.size+3) .none /\
  IsPair (O7 h o1 o2) (h.objs.size+2) (.ref h.objs.size) (.ref (h.objs.size+1))/\IsPair (O7 h o1 o2) (h.objs.size+3) .none .none/\(O7 h o1 o2).get? h.objs.size=some o1/\(O7 h o1 o2).get? (h.objs.size+1)=some o2 /\
  ∀c o,h.get? c=some o->(O7 h o1 o2).get? c=some o:=by
 have d:(h.push o1).objs.size=h.objs.size+1:=yO ..;have b:((h.push o1).push o2).objs.size=h.objs.size+2:=by rw[yO,d]
 have a:(((h.push o1).push o2).push {cls:=.type "tuple",data:=.seq #[.ref h.objs.size,.ref (h.push o1).objs.size]}).objs.size=h.objs.size+3:=by rw[yO,b]
 have i:Afg h o1 o2=h.objs.size+4:=by unfold Afg;rw[yO,a]
 have e:(O7 h o1 o2).get? (Afg h o1 o2)=some _:=zD _ U;have f:(O7 h o1 o2).get? (((h.push o1).push o2).push {cls:=.type "tuple",data:=.seq #[.ref h.objs.size,.ref (h.push o1).objs.size]}).objs.size=some _:=zB _ (zD _ U);have g3:(O7 h o1 o2).get? ((h.push o1).push o2).objs.size=some _:=zB _ (zB _ (zD _ U));have g2:(O7 h o1 o2).get? (h.push o1).objs.size=some o2:=zB _ (zB _ (zB _ (zD _ e2)));have g1:(O7 h o1 o2).get? h.objs.size=some o1:=zB _ (zB _ (zB _ (zB _ (zD _ j))));refine⟨i,?_,?_,?_,g1,?_,λc o x=>zB _ (zB _ (zB _ (zB _ (zB _ x))))⟩
 ·rw[i,b,a]at e;exact e
 ·rw[b,d]at g3;exact g3
 ·rw[a]at f;exact f
 ·rw[d]at g2;exact g2
theorem ane{a b:Nat}(h:a≠b):@Ne Nn a b:=h
theorem lne{a:Nat}(h:a<n)(k:Nat):@Ne Nn a (n+k):=λz=>by have z:a=n+k:=z;omega
theorem Ajz(n:Nat):ZM (n+4) (n+2) (n+3) n (n+1) where
 TIz:=ane AA
 TOz:=ane AA
 i1z:=ane AA
 i2z:=ane AA
 TITO:=ane AA
 TIi1:=ane AA
 TIi2:=ane AA
 TOi1:=ane AA
 TOi2:=ane AA
 i12:=ane AA
def zOk:Src->Src->Prop
 | .s _,.l _=>False
 |_,_=>True
inductive Ara (K:NO)(R:(It->Hp->Prop))(vs:LI)(H1:Hp):Prop
|mk(S1:_)(S2:_)(_:vs=[Av8 S1,Av8 S2])(_:zOk S1 S2)(_:Ac4 K H1 S1)(_:Ac4 K H1 S2)(_:R (AhU K S1 S2) H1)
def Av9 (K:NO)(ta:TA)(σ:St)(H:Hp)(R:(It->Hp->Prop)):Prop:=ta σ H (Ara K R)
theorem Agd{K:NO}{a b:Expr}{ta:TA}{p:Pos}(W:Gl X "zip") (hm:X.mg "zip"=none) (T:PA X [a,b] ta) (Q:X.K=K:=by rfl) (hs:starEach [a,b] X.env=[(false,eval a X.env),(false,eval b X.env)]:=by rfl) (z:starEach [b] X.env=[(false,eval b X.env)]:=by rfl) :
  PI X (.Tuple es kx tp) (.Call (.Name "zip" p) [a,b] [] pos) (Av9 K ta):=by
 subst Q;intro pins s σ H R I h;refine Call_ (IV I W hm Atm (yK (thn (T pos pins s σ H _ I h) λus s1 ⟨vs,H1,u,r1,q1⟩=>?_) (by rw[hs,z]) (by rw[z];rfl)));obtain⟨S1,S2,e,Y,o1,o2,q⟩:=q1;subst e;obtain⟨u1,u2,rfl,B,i⟩:=r1.two;have fin:∀(r P:Tok)(h':Heap)(tk:Nat),IsZip h' (s1.heap.objs.size+4) (s1.heap.objs.size+2) (s1.heap.objs.size+3) .none->IsPair h' (s1.heap.objs.size+2) (.ref s1.heap.objs.size) (.ref (s1.heap.objs.size+1))->IsPair h' (s1.heap.objs.size+3) .none .none ->
   X3 s1.heap.objs.size r S1 0 h'->X3 (s1.heap.objs.size+1) P S2 0 h'->(∀c o,s1.heap.get? c=some o->h'.get? c=some o) ->
   wpAny (model X.prog X.w) X.A (pyIter (.ref (s1.heap.objs.size+4))) (PIE X pins σ (.Tuple es kx tp) R) X.xe {s1 with heap:=h',toks:=tk}:=λr P h' tk d j m L C n=>by
  refine wpAny_pyIter_zip d ?_;have lt:∀S:Src,Ac4 X.K H1 S->∀a,S=.l a->a<s1.heap.objs.size:=λS ok a e=>by
   subst e;obtain⟨xs,q⟩:=ok;obtain⟨its,_,p1,_⟩:=u.list q;obtain⟨o,e,_⟩:=p1.isList;exact yH e
  refine⟨_,[s1.heap.objs.size+4,s1.heap.objs.size+2,s1.heap.objs.size+3,s1.heap.objs.size,s1.heap.objs.size+1],_,_,H1,U,u.kept n,Amf (Ajz _) (λa e=>?_) (λa e=>?_),
   ⟨d,j,⟨_,_,m⟩,L,C⟩,λc hc=>?_,q⟩
  ·have:= lt S1 o1 a e;exact⟨lne this 4,lne this 3,lne this 0,lne this 1⟩
  ·have:= lt S2 o2 a e;exact⟨lne this 4,lne this 3,lne this 0,lne this 1⟩
  ·have N:s1.heap.objs.size<=c:=by
    grind
   exact u.Aja N (u.hok.fresh N)
 cases S1 with
 |l a =>
  cases B;obtain⟨xs,J⟩:=id o1;obtain⟨D,Z,p1,_⟩:=u.list J;cases S2 with
  |l b =>
   cases i;obtain⟨ys,G⟩:=id o2;obtain⟨O,a0,p2,_⟩:=u.list G;refine call_zip_2 p1.isList p2.isList λh' d j m L C hsz n=>fin 0 0 h' s1.toks d j m L C n
  |s x =>
   obtain⟨t,rfl⟩:=i;refine callType_new F.called_zip Ap (F.typeCall_zip_2 _ _) (F.newCall_zip_2 _ _) (λf=>F.args_object_init_3 f _ _) F.entry_zip_new (AhS a D.toArray x t) ⟨p1.isList,?_⟩;obtain⟨E,v,g3,M,g1,g2,n⟩:=AhW (o1:=AnI a) (o2:=Xz x t) U rfl;show _/\_;rw[E];exact⟨⟨_,v,U⟩,fin 0 t _ s1.toks v g3 M ⟨_,g1,U,U⟩ ⟨_,g2,U,U⟩ n⟩
 |s y =>
  obtain⟨r,rfl⟩:=B;cases S2 with
  |l b=>exact Y.elim
  |s x =>
   obtain⟨t,rfl⟩:=i;refine callType_new F.called_zip Ap (F.typeCall_zip_2 _ _) (F.newCall_zip_2 _ _) (λf=>F.args_object_init_3 f _ _) F.entry_zip_new (AhT y r x t) ?_;obtain⟨E,v,g3,M,g1,g2,n⟩:=AhW (o1:=Xz y r) (o2:=Xz x t) U rfl;rw[E];exact⟨⟨_,v,U⟩,fin r t _ s1.toks v g3 M ⟨_,g1,U,U⟩ ⟨_,g2,U,U⟩ n⟩
theorem Amg:typeLookup (.type "list_reverseiterator") "__len__"=pure none:=by rw[typeLookup_type,builtinLookup_eq_fast];kernel_rfl
theorem AnK:typeLookup (.type "list_reverseiterator") "__length_hint__"=pure (some (.builtin "list_reverseiterator.__length_hint__")):=by rw[typeLookup_type,builtinLookup_eq_fast];kernel_rfl
section
variable {E:NU}{R:Result->Nw->Prop}{fp wr:NW}{G:Array GenState->Array GenState->Prop}{P:Nat->N0->Prop}{St:Nat->Nw->Prop}
theorem Aj0(V:WalksS prog w A.in1 it fp wr G n P St)(ty:∀i s,St i s->s.TypeIs (.ref it) "list_reverseiterator") (M:Nn) (h:N0) (c:Nat) (a:St 0 s) (o:M∉fp) (u:it∈fp) (p:s.heap.get? M=some {cls:=.type "list",data:=.seq #[] c})
  (fin:∀s' acc l,Moved (M::wr) G s s'->s'.heap.get? M=some {cls:=.type "list",dict:=none,data:=.seq acc l,slots:=#[]}->ItemsOf P acc n->R (.ok (.ret h)) s') (hn:n<=sizeLine) :
  wpAny (model prog w) A.in1 (Builtin.List.listExtendWith (.ref M) (.ref it) h)
   (λf s'=>match f with|.done d=>R (.ok d) s'|.again k=>k.quiet=true/\codeAny (model prog w) A k R s') (λe s'=>R (.error e) s') s:=by
 have q:M≠it:=λe=>o (e▸u);have v:Builtin.List.listSameRef (.ref M) (.ref it)=false:=by simp[Builtin.List.listSameRef,q]
 unfold Builtin.List.listExtendWith;refine zA (wpAny_typeOf (ty 0 _ a) ?_);rw[yE (by rw[v];decide)];refine zA (V.self 0 _ _ _ a (zA (z8 ?_)));unfold Builtin.List.listLengthHint;refine zA (wpAny_specialOf (ty 0 _ a) Amg ?_);show wpAny _ A.in1 (specialOf (Value.ref it) (Str.ofString "__length_hint__") >>= _) _ _ _;refine zA (wpAny_specialOf (ty 0 _ a) AnK ?_);generalize j:("list_reverseiterator.__length_hint__":String)=name
 wp_delta
 rw[show splitId name=some ("list_reverseiterator","__length_hint__") from by subst j;decide +kernel];subst j;refine zA (wpAny_isInstance (b:=true) (ty 0 _ a) (by rw[isSubtype_type];kernel_rfl) (zE ?_));rw[yE Ap];exact zE ⟨plainId_quiet F.plain_extend_loop _,codeAny_extend_loopS V hn _ o _ n 0 _ _ _ U (Ayf _) a p (ItemsOf.nil P) λs' acc l r m x=>fin s' acc l r m x⟩
theorem AnL(V:WalksS prog w A.in1 it fp wr G n P St)(ty:∀i s,St i s->s.TypeIs (.ref it) "list_reverseiterator") (M:Nn) (j:St 0 s) (q:M∉fp) (u:it∈fp) (h:s.heap.get? M=some {cls:=.type "list",data:=.seq #[]})
  (fin:∀s' acc l,Moved (M::wr) G s s'->s'.heap.get? M=some {cls:=.type "list",dict:=none,data:=.seq acc l,slots:=#[]}->ItemsOf P acc n->R (.ok (.ret .none)) s') (hn:n<=sizeLine) :
  wpAny (model prog w) A.in1 (Builtin.«list.__init__» ⟨[.ref M,.ref it],[]⟩)
   (λf s'=>match f with|.done d=>R (.ok d) s'|.again k=>k.quiet=true/\codeAny (model prog w) A k R s') (λe s'=>R (.error e) s') s:=by
 show wpAny _ A.in1 (do let old <-Builtin.List.listItems (.ref M);Builtin.List.listUpdate (.ref M) (λ_=>#[]);letGo old.toList.reverse;Builtin.List.listExtendWith (.ref M) (.ref it) .none) _ _ s;refine zA ?_;unfold Builtin.List.listItems;refine zA (yU h U (zE ?_));show wpAny _ A.in1 (updateSeq M (λ_=>#[]) >>= λ_=>letGo (#[]:Array N0).toList.reverse >>= λ_=>Builtin.List.listExtendWith (.ref M) (.ref it) .none) _ _ s;refine zA (wpAny_updateSeq h U ?_);have p:=zR (Obj.mapSeq (λ_=>(#[]:Array N0))) h U;have a:∀b o,b≠M->s.heap.get? b=some o->(s.heap.update M (Obj.mapSeq (λ_=>(#[]:Array N0)))).get? b=some o:=λb o v e=>(zH _ _ (yL v)).trans e;refine zA (wpAny_letGo (Aj0 V ty M .none _ (V.frame 0 s _ s.toks j (AxU _) λb c o e=>a b o (λz=>q (z▸c)) e) q u p (λs' acc l r m x=>?_) hn));exact fin s' acc l (Moved.trans V.gtrans ((Moved.refl V.grefl).then_heap (AxU _) λb o c e=>a b o (λz=>c (z▸AxW)) e) r) m x
theorem AnM{Q:NU}(V:WalksS prog w A.in1.in1 it fp wr G n P St)(ty:∀i s,St i s->s.TypeIs (.ref it) "list_reverseiterator") (c:St 0 s) (a:∀b∈fp,b<s.heap.objs.size) (q:it∈fp)
  (fin:∀s' acc d,Moved (s.heap.objs.size::wr) G {s with heap:=s.heap.push {cls:=.type "list",data:=.seq #[]} } s' ->
   s'.heap.get? s.heap.objs.size=some {cls:=.type "list",dict:=none,data:=.seq acc d,slots:=#[]}->ItemsOf P acc n->Q (.ref s.heap.objs.size) s') (hn:n<=sizeLine) :
  wpAny (model prog w) A (call (.type "list") [.ref it]) Q E s:=by
 have p:s.heap.objs.size∉fp:=λz=>Ay4 _ (a _ z);refine callType_codes (Q₁:=λl j=>l=.ref s.heap.objs.size/\j={s with heap:=s.heap.push {cls:=.type "list",data:=.seq #[]} }) F.called_list (F.typeCall_list_1 _) F.entry_list_init (code_list_new _ ⟨rfl,rfl⟩) λl j h1=>?_;obtain⟨rfl,rfl⟩:=h1;have h:(s.heap.push {cls:=.type "list",data:=.seq #[]}).get? s.heap.objs.size=some {cls:=.type "list",data:=.seq #[]}:=zD _ U;refine⟨⟨_,h,U⟩,F.args_list_init_2 _ _,AnL V ty _ (V.frame 0 s _ s.toks c (AxU _) λb _ o e=>zB _ e) p q h (λs' acc d m f r=>?_) hn⟩;exact⟨U,fin s' acc d m f r⟩
end
section
variable {K:NO}{p1 p2 pos1 pos2:Pos}{te:TE}
inductive Aj1 (K:NO)(Q:VK)(x:V)(H1:Hp):Prop
|mk(a:_)(ys:_)(_:x=.ref a)(_:SqL K H1 a ys)(_:ys.length<=1000)(_:∀l,H1 l=none->Q (.ref l) (upd H1 l (.lst ys.reverse)))
def AnN (K:NO)(te:TE)(σ:St)(H:Hp)(Q:VK):Prop:=te σ H (Aj1 K Q)
theorem Ac6(p:Gl X "list") (E:X.mg "list"=none) (J:Gl X "reversed") (C:X.mg "reversed"=none) (W:PE X e te) (S:X.K=K:=by rfl) (hc:X.calm=true:=by rfl)
  (d:starEach [e] X.env=(false,eval e X.env)::starEach [] X.env:=by rfl)
  (f:starEach [.Call (.Name "reversed" p2) [e] [] pos2] X.env=(false,eval (.Call (.Name "reversed" p2) [e] [] pos2) X.env)::starEach [] X.env:=by rfl)
  (F:(backTo pos1 (starEach [] X.env)).any (·.1)=false:=by rfl) (B:(backTo pos2 (starEach [] X.env)).any (·.1)=false:=by rfl) :
  PE X (.Call (.Name "list" p1) [.Call (.Name "reversed" p2) [e] [] pos2] [] pos1) (AnN K te):=by
 subst S;intro pins s σ H Q I h;have hsz:sizeLine=16777216:=z7;refine yP (IV I p E Hk (yK ?_ f F));rw[f];show wpAny _ _ (spliced ((false,eval (.Call (.Name "reversed" p2) [e] [] pos2) X.env)::backTo pos1 (starEach [] X.env))) _ _ s;refine Calls.spliced_cons (yP (IV I J C JC (yK ?_ d B)));rw[d];show wpAny _ _ (spliced ((false,eval e X.env)::backTo pos2 (starEach [] X.env))) _ _ s;refine Calls.spliced_cons (thn (W pins s σ H _ I h) λu s1 ⟨x,H1,w,r1,a,ys,ex,hq,hy,q⟩=>?_);subst ex;cases r1;refine Calls.spliced_nil ?_;obtain⟨its,r,pl,hz⟩:=w.list hq;have R:=r.length;refine call_reversed_list pl.isList (Calls.spliced_nil ?_);obtain⟨h1,g1,d1,k1,o1⟩:=s1;have m:(h1.push (revObj a ((its.toArray.size:Int)-1))).IsRevIter h1.objs.size a ((its.toArray.size:Int)-1-((0:Nat):Int)):=⟨_,zD _ U,U,by show Data.fields _=Data.fields _;rw[show(its.toArray.size:Int)-1-((0:Nat):Int)=(its.toArray.size:Int)-1 by omega]⟩;have G:(h1.push (revObj a ((its.toArray.size:Int)-1))).IsList a its.toArray:=pl.isList.push _;obtain⟨oa,D,_⟩:=pl.isList;have j:a<h1.objs.size:=yH D;have Y:X.A.in1.in1.handled=none:=by simp[I.ok.hd hc]
 have ps:(h1.push (revObj a ((its.toArray.size:Int)-1))).objs.size=h1.objs.size+1:=yO _ _;refine AnM (Walks.toS (Walks.listRev Y h1.objs.size a (Aye j) its.toArray)) (λi s x=>x.2.1.typeIs) ⟨Ayf _,m,G⟩ (λb l=>?_) AB (λs' acc N M Z P=>?_) (by rw[Ayt];omega)
 ·show b<(h1.push (revObj a ((its.toArray.size:Int)-1))).objs.size;rw[ps];rcases yC.mp l with e|e
  ·rw[e];exact AyF _
  ·rw[zF.mp e];exact Nat.lt_succ_of_lt j
 ·have vs:Vals ys.reverse acc.toList:=by
   refine Xx _ _ (by rw[Ay1,R];have:=P.1;simpa using this.symm) λi x u z e2=>?_;have hi:i<ys.length:=by
    have:=(zC.mp z).1
    rwa [Ay1]at this
   have L:=P.2 i u (by rw[<-zO];exact e2);rw[Azu hi]at z;obtain⟨v,T,n⟩:=r.get z;rw[Ayt,<-R]at L;have O:its[ys.length-1-i]?=some u:=by simpa using L
   rw[T]at O;cases O;exact n
  rw[Moved.eq_with M];have y:s'.heap.get? (h1.objs.size+1)=some {cls:=.type "list",dict:=none,data:=.seq acc N,slots:=#[]}:=by
   have:=Z;dsimp only at this;rw[ps]at this;exact this
  show EP X pins σ Q (Value.ref (h1.push (revObj a ((its.toArray.size:Int)-1))).objs.size) _;rw[ps];refine⟨.ref (h1.objs.size+1),_,w.laid (t':=s'.toks) (o:=.lst ys.reverse) (h':=s'.heap) (λb o e=>?_) (AyW _) ?_,U,q _ (w.hok.fresh (AyW _))⟩
  ·have l:=yH e;refine M.heap b o ?_ (zB _ (zB _ e));show b∉[(h1.push (revObj a ((its.toArray.size:Int)-1))).objs.size,h1.objs.size];rw[ps];have c:b<h1.objs.size:=l;simp only [Ayj,Ayq,yM,not_or];exact⟨Aye (Nat.lt_succ_of_lt c),Aye c⟩
  ·exact⟨by rw[Ay1];exact hz,acc.toList,N,vs,by simpa using y⟩
end
theorem AhX(b:∀y∈scope.names,y.2≠.free):∀y∈scope.names,y.2=.free->X.env.scope.names.lookup y.1=some .cell/\scope.names.lookup y.1=some .free:=λy a e=>yG e (b y a)
end L2
namespace PySem
open Sem (wp)
open Builtin Builtin.Str Builtin.Int
open PySem.Spec PyProof.Rows
section
variable {prog:Program}{w:World}{A:Around}{E:NU}{s:Nw}{R:Result->Nw->Prop}
theorem AnO{I:Nn}{x:Str}{t:Tok}{Q:NU}(v:A.handled=none)(q:x.length<=sizeLine)(a:s.heap.Ex I x t ((x.length:Int)-1))
  (fin:∀h' tk acc i,(∀b o,b≠I->s.heap.get? b=some o->h'.get? b=some o)->h'.get? s.heap.objs.size=some {cls:=.type "list",dict:=none,data:=.seq acc i,slots:=#[]}->ItemsOf (RvP x) acc x.cps.size->Q (.ref s.heap.objs.size) {s with heap:=h',toks:=tk}) :
  wpAny (model prog w) A (call (.type "list") [.ref I]) Q E s:=by
 have h:I<s.heap.objs.size:=by
  obtain⟨o,u,_⟩:=a;exact yH u
 refine callType_codes (Q₁:=λp n=>p=.ref s.heap.objs.size/\n={s with heap:=s.heap.push {cls:=.type "list",data:=.seq #[]} }) F.called_list (F.typeCall_list_1 _) F.entry_list_init (code_list_new _ ⟨rfl,rfl⟩) λp n h1=>?_;obtain⟨rfl,rfl⟩:=h1;have f:(s.heap.push {cls:=.type "list",data:=.seq #[]}).get? s.heap.objs.size=some {cls:=.type "list",data:=.seq #[]}:=zD _ U;refine⟨⟨_,f,U⟩,F.args_list_init_2 _ _,?_⟩;refine zA ?_;refine zA (yU f U (zE ?_));refine zA (wpAny_updateSeq f U ?_);have l:=zR (Obj.mapSeq (λ_=>(#[]:Array N0))) f U;have m:=AyE h;have c:∀b o,b≠s.heap.objs.size->s.heap.get? b=some o->((s.heap.push {cls:=.type "list",data:=.seq #[]}).update s.heap.objs.size (Obj.mapSeq (λ_=>(#[]:Array N0)))).get? b=some o:=λb o y e=>(zH _ _ (yL y)).trans (zB _ e);refine Acw (s:={s with heap:=(s.heap.push {cls:=.type "list",data:=.seq #[]}).update s.heap.objs.size (Obj.mapSeq (λ_=>(#[]:Array N0)))}) (by exact v) q (a.at λo e=>c I o (yL m) e) m l .none λh' tk acc i kp j d _=>?_;exact⟨U,fin h' tk acc i (λb o r e=>kp b o (Aye (yH e)) r (c b o (Aye (yH e)) e)) j d⟩
end
end PySem
namespace L2
open PySem PySem.Spec PyProof.Rows
variable {X:Cx}{pos px py spos px' tp:Pos}{e tg a iter elt:Expr}{te:TE}{P:Program}{w:World}{ta:TA}{z x y x':Str}{Bp u sp:NV}{tc:TT}{σ:St}{H:Hp}{Q:VK}{E ye:NU}{s:Nw}{scope:Scope}{c0 C it:Nn}{Nc:NY}{pins:NR}{c i kx n j:Nat}{ifs es:List Expr}{wi:TI}{cs:List (Str×Nn)}{fp:NW}{S1 S2:Src}{tb:TS}{D:Ends}{ws:NI}
section
variable {K:NO}{p1 p2 pos1 pos2:Pos}
inductive AhY (Q:VK)(x:V)(H1:Hp):Prop
|mk(z:Str)(_:x=.str z)(_:z.length<=1000)(_:∀l,H1 l=none->Q (.ref l) (upd H1 l (.lst (z.cps.toList.reverse.map λc=>V.str ⟨#[c]⟩))))
def Amh (te:TE)(σ:St)(H:Hp)(Q:VK):Prop:=te σ H (AhY Q)
theorem AhZ(f:Gl X "list") (y:X.mg "list"=none) (w:Gl X "reversed") (p:X.mg "reversed"=none) (F:PE X e te) (hc:X.calm=true:=by rfl)
  (a:starEach [e] X.env=(false,eval e X.env)::starEach [] X.env:=by rfl)
  (m:starEach [.Call (.Name "reversed" p2) [e] [] pos2] X.env=(false,eval (.Call (.Name "reversed" p2) [e] [] pos2) X.env)::starEach [] X.env:=by rfl)
  (r:(backTo pos1 (starEach [] X.env)).any (·.1)=false:=by rfl) (n:(backTo pos2 (starEach [] X.env)).any (·.1)=false:=by rfl) :
  PE X (.Call (.Name "list" p1) [.Call (.Name "reversed" p2) [e] [] pos2] [] pos1) (Amh te):=by
 intro pins s σ H Q I h;have hsz:=z7;refine yP (IV I f y Hk ?_);refine yK ?_ m r;show wpAny _ _ (spliced ((false,eval (.Call (.Name "reversed" p2) [e] [] pos2) X.env)::backTo pos1 (starEach [] X.env))) _ _ s;refine Calls.spliced_cons ?_;refine yP (IV I w p JC ?_);refine yK ?_ a n;rw[a];show wpAny _ _ (spliced ((false,eval e X.env)::backTo pos2 (starEach [] X.env))) _ _ s;refine Calls.spliced_cons (thn (F pins s σ H _ I h) λu M ⟨x,H1,B,L,z,ex,O,q⟩=>?_);subst ex;obtain⟨tk,rfl⟩:=L;refine Calls.spliced_nil ?_;refine HH AA ?_;refine Calls.spliced_nil ?_;obtain⟨h1,g1,d1,k1,o1⟩:=M;have d:(h1.push (Ajs z tk ((z.length:Int)-1))).Ex h1.objs.size z tk ((z.length:Int)-1):=⟨_,zD _ U,U,U⟩;have J:=I.ok.hd hc;have ps:(h1.push (Ajs z tk ((z.length:Int)-1))).objs.size=h1.objs.size+1:=yO _ _;refine AnO (by simp[J]) Au d λh' E acc A kp K C=>?_;have vs:Vals (z.cps.toList.reverse.map λc=>V.str ⟨#[c]⟩) acc.toList:=by
  refine Xx _ _ (by have:= C.1;simpa using this.symm) λi x u l e2=>?_;obtain⟨c,N,v,rfl⟩:=C.2 i u (by rw[<-zO];exact e2);have hi:i<z.cps.size:=by
   have:= (zC.mp l).1;rw[AxR,Ay1]at this;exact this
  rw[AxZ,Azu (by rw[zK];exact hi),zK,zO,v]at l;cases l;exact⟨_,U⟩
 have G:h'.get? (h1.objs.size+1)=some {cls:=.type "list",dict:=none,data:=.seq acc A,slots:=#[]}:=by
  have:= K;rw[ps]at this;exact this
 rw[ps];refine⟨.ref (h1.objs.size+1),_,B.laid (λb o e=>?_) (AyW _) ?_,U,q _ (B.hok.fresh (AyW _))⟩
 ·have D:=yH e;have j:b<h1.objs.size:=D;exact kp b o (Aye j) (zB _ e)
 ·exact⟨by rw[AxR,Ay1];show z.length<=_;omega,acc.toList,A,vs,Au⟩
end
def At4 (z:Str):It:=⟨λi _=>i<z.cps.size,λi H x H'=>H'=H/\∃c,z.cps[z.cps.size-1-i]?=some c/\x=.str ⟨#[c]⟩,λi _=>z.cps.size=i⟩
theorem Ami{K:NO}(z:Str)(tk:Tok)(it:Nn)(G:z.length<=sizeLine):Turn P w K tg (At4 z) [it] it (λi h=>h.Ex it z tk ((z.cps.size:Int)-1-(i:Int))) where
 mem:=AB
 obj:=λi h st b a=>by
  have e:b=it:=by simpa using a
  subst e;obtain⟨o,e,c,d⟩:=st;exact⟨o,e,λv z=>AC⟩
 keep:=λi h h' st k=>st.at λo e=>k it AB o e
 item:=by
  intro X B hw A hc i pins s σ H E I l st p;have J:=z7;have hi:i<z.cps.size:=p;have m:¬(z.length:Int) ≥ 2 ^ 63:=AA
  obtain⟨q,f1,y,r,f4,f5⟩:=l it AB;have f:s.heap.Ex it z tk ((z.cps.size-1-i:Nat):Int):=AD
  have x:z.cps[z.cps.size-1-i]?=some (z.cps[z.cps.size-1-i]' Au):=zP Au;refine O4 f x m λh' u n j F=>?_;have C:Inv X pins σ H {s with heap:=h',toks:=n}:=I.turned (λb o a e=>(F.2 b a).trans e) q f1 r f4 f5;obtain⟨o,e,c,d⟩:=id j;refine⟨_,U,Ah1 e c d Ap ⟨.str _,H,C,⟨u,U⟩,⟨U,_,x,U⟩,?_,λb a=>(l b a).1⟩⟩;rw[show(z.cps.size:Int)-1-((i+1:Nat):Int)=((z.cps.size-1-i:Nat):Int)-1 by omega];exact j
 done:=by
  intro X B hw A hc i pins s σ H E I l st p;have e:=p;subst e;obtain⟨q,f1,y,r,f4,f5⟩:=l it AB;have f:s.heap.Ex it z tk (-1):=AD
  exact Rj (I.ok.hd hc) f λh' D _=>⟨U,I.turned (λb o a e=>D b o a e) q f1 r f4 f5⟩
 self:=λ_ _ _ _ _ st h=>M8 st h
inductive Arb (R:(It->Hp->Prop))(vs:LI)(H1:Hp):Prop
|mk(z:Str)(_:vs=[.str z])(_:z.length<=sizeLine)(_:R (At4 z) H1)
def AvA (ta:TA)(σ:St)(H:Hp)(R:(It->Hp->Prop)):Prop:=ta σ H (Arb R)
theorem Arc{p:Pos}(j:Gl X "reversed") (n:X.mg "reversed"=none) (x:PA X [a] ta) (v:starEach [a] X.env=[(false,eval a X.env)]:=by rfl) :
  PI X tg (.Call (.Name "reversed" p) [a] [] pos) (AvA ta):=by
 intro pins s σ H R I h;refine Call_ (IV I j n JC (yK (thn (x pos pins s σ H _ I h) λus d ⟨vs,H1,f,m,u⟩=>?_) v U));obtain⟨z,e,l,q⟩:=u;subst e;have y:=z7;cases m with
 |cons r w =>
  cases w;obtain⟨tk,rfl⟩:=r;refine HH AA ?_;have c:(d.heap.push (Ajs z tk ((z.length:Int)-1))).Ex d.heap.objs.size z tk ((z.cps.size:Int)-1-((0:Nat):Int)):=
   ⟨_,zD _ U,U,by show Data.fields _=Data.fields _;rw[show(z.cps.size:Int)-1-((0:Nat):Int)=(z.length:Int)-1 by show(z.cps.size:Int)-1-((0:Nat):Int)=(z.cps.size:Int)-1;omega]⟩;refine M8 c ?_;refine⟨d.heap.objs.size,[d.heap.objs.size],_,_,H1,U,f.kept λb o e=>zB _ e,Ami z tk _ l,c,λb i=>?_,q⟩;have e:b=d.heap.objs.size:=by simpa using i
  subst e;exact f.Aja (AxU _) (f.hok.fresh (AxU _))
theorem Amj(Pv:Nat->LI->Hp->Prop)(l:Pv 0 [] H)(j:∀i ys H,i<=z.cps.size->Pv i ys H->ys.length<=i)
  (n:z.cps.size<=sizeLine) (f:∀i c ys H,i<z.cps.size->z.cps[z.cps.size-1-i]?=some c->Pv i ys H->Iz z.cps.size Pv tc te (some (.str ⟨#[c]⟩)::O3 σ Bp) i ys H)
  (d:∀ys H p,Pv z.cps.size ys H->H p=none->Q (.ref p) (upd H p (.lst ys))):Tq Bp tc te (At4 z) σ H Q:=by
 refine⟨λi m ys H=>m=z.cps.size-i/\i<=z.cps.size/\Pv i ys H,⟨z.cps.size,AB,Ayf _,l⟩,?_⟩;rintro i m ys H ⟨rfl,hi,p⟩;have o:=j i ys H hi p;by_cases a:i<z.cps.size
 ·refine .inr ⟨a,AA,λx H' y=>?_⟩;obtain⟨e,c,hc,rfl⟩:=y;subst e;exact f i c ys _ a hc p
 ·have e:i=z.cps.size:=AA
  subst e;exact .inl ⟨U,AA,λb h=>d ys H b p h⟩
theorem Ac7{acc:List (Str×Nn)}:∀{b:List (Str×NameKind)} {n:Nat} {h:Heap},b.filter (λy=>y.2 == .cell)=[]->cellsFrom n b acc=acc/\pushCells h b=h
 |[],_,_,_=>⟨U,U⟩
 | (a,k)::r,n,h,e=>by
  cases hk:k == NameKind.cell with
  |true=>simp_all
  |false =>
   have c:r.filter (λy=>y.2 == .cell)=[]:=by simpa [hk]using e
   unfold cellsFrom pushCells;rw[hk];exact Ac7 c
theorem Afh{x:Str}{acc:List (Str×Nn)}:∀{b:List (Str×NameKind)} {n:Nat} {h:Heap},b.filter (λy=>y.2 == .cell)=[(x,.cell)] ->
  cellsFrom n b acc=(x,n)::acc/\pushCells h b=h.push {cls:=.type "cell",data:=.cell none}
 |[],_,_,e=>by simp at e
 | (a,k)::r,n,h,e=>by
  cases hk:k == NameKind.cell with
  |true =>
   have c:(a,k)::r.filter (λy=>y.2 == .cell)=[(x,.cell)]:=by simpa [hk]using e
   injection c with d e2;cases d;have:= Ac7 (acc:=(x,n)::acc) (n:=n+1) (h:=h.push {cls:=.type "cell",data:=.cell none}) e2;exact this
  |false =>
   have c:r.filter (λy=>y.2 == .cell)=[(x,.cell)]:=AC
   have:= Afh (acc:=acc) (n:=n) (h:=h) c;unfold cellsFrom pushCells;rw[hk];exact this
abbrev AnP:Obj:={cls:=.type "dict",data:=.dict #[]}
abbrev AvB:Obj:={cls:=.type "cell",data:=.cell none}
theorem Aia{M:Model}{A:Around}{globals:Nn}{cl:List (Str×Nn)}{qual:Str}{env:Env}{Q:Env->Nw->Prop}
  (a:scope.names.filter (λy=>y.2 == .cell)=[(x,.cell)])
  (d:Q {scope,locals:=s.heap.objs.size,globals,cells:=(x,s.heap.objs.size+1)::cl,qual,func:=none,code:=env.code,frame:=env.frame,builtins:=env.builtins} {s with heap:=(s.heap.push AnP).push AvB}) :
  wpAny M A (newFunctionEnv scope globals cl [] qual none .none (some env)) Q E s:=by
 simp only [newFunctionEnv,Option.isSome_some,if_true];refine zA (wpAny_alloc (zA (wpAny_layCells _ (λname b cells=>AC) _ _ _ _ ?_)));have c:=λ(n:Nat)(h:Heap)=>Afh (acc:=cl) (n:=n) (h:=h) a;rw[(c _ s.heap).1,(c 0 _).2];rw[show({s with heap:=s.heap.push AnP}:Nw).heap.objs.size=s.heap.objs.size+1 from yO ..];exact zA (by exact zE (zE d))
def X5 (X:Cx)(x:Str)(Nc:NY)(scope:Scope)(cs:List (Str×Nn))(C:Nn)(fp:NW)(s:Nw)(H:Hp):Cx:=cxG X (· == x) Nc scope cs C fp s H λ_ _=>False
structure M9 (X:Cx)(x:Str)(Nc:NY)(Bp:NV)(scope:Scope):Prop where
 kind:scope.kind=.function
 one:scope.names.filter (λy=>y.2 == .cell)=[(x,.cell)]
 names:∀y∈scope.names,y.2=.local->scope.names.lookup y.1=some .local
 fr:∀y∈scope.names,y.2=.free->X.env.scope.names.lookup y.1=some .cell/\scope.names.lookup y.1=some .free
 loc:scope.names.lookup x=some .cell
 len:Nc.length=Bp.length+1
 hd:Nc[0]?=some x
 nd:Nc.Nodup
 cap:∀k j,Bp[k]?=some j->∃y,Nc[k+1]?=some y/\X.N[j]?=some y/\scope.names.lookup y=some .free
theorem M9.cell(O:M9 X x Nc Bp scope)(h:(y,NameKind.cell)∈scope.names):y=x:=by have:(y,NameKind.cell)∈scope.names.filter (λy=>y.2 == .cell):=List.mem_filter.mpr ⟨h,U⟩;rw[O.one]at this;have:= zF.mp this;injection this
theorem X6{c:Nn}{cl:List (Str×Nn)}(h:List.lookup y ((x,c0)::cl)=some c):(y=x/\c=c0)\/(y≠x/\cl.lookup y=some c):=by
 rw[AyC]at h;cases a:y == x with
 |true=>simp_all
 |false=>rw[a]at h;exact .inr ⟨by simpa using a,h⟩
theorem AnQ{cl:List (Str×Nn)}:List.lookup x ((x,c0)::cl)=some c0:=by simp[AyC]
theorem AnR{cl:List (Str×Nn)}(h:y≠x):List.lookup y ((x,c0)::cl)=cl.lookup y:=by
 have:(y == x)=false:=by simpa using h
 simp[AyC,this]
theorem M9.g(O:M9 X x Nc Bp scope):Acr X 1 Nc Bp scope:=⟨O.kind,O.names,O.fr,O.len,O.cap⟩
section
variable (O:M9 X x Nc Bp scope) (hc:X.calm=true) (hi:PI X (.Name x px) iter wi)
 (htc:∀cl C fp s H,PIf (X5 X x Nc scope cl C fp s H) ifs tc) (hte:∀cl C fp s H,PE (X5 X x Nc scope cl C fp s H) elt te)
include O hc htc hte in
theorem AvC:Blk X (.Name x px) iter elt ifs scope pos (λ_ _ _=>False) (Tq Bp tc te):=by
 intro cl pins σ H s J fp it v Q RR E f l I T st n h j u;refine wpAny_newObj_type (Aia O.one ?_);have p:(s.heap.push (W9 [] 0)).objs.size=s.heap.objs.size+1:=yO ..;have r:∀{y},(y,NameKind.free)∈scope.names->y≠x:=λd e=>by
  have:=(O.fr _ d U).2;rw[show _=x from e,O.loc]at this;cases this
 have no:∀{y c},cl.lookup y=some c->s.heap.objs.size<=c->False:=λe z=>yG (I.clt (f _ _ e).1) (Nat.not_lt.mpr z);refine Aku (s:=s) (fn:=(· == x)) O.g hc ⟨λy c e=>?_,λy c z e=>?_,λa b c q e2 z=>?_,λy d=>by cases O.cell d;exact⟨_,AnQ⟩,λy d=>(AnR (r d)).trans (l y d)⟩
  (Bs (i:=0) O.nd O.hd (.inr (HF I.ok.kind O.loc nofun)) (.inl (beq_self_eq_true x))) (hte _ _ _ _ _) (htc _ _ _ _ _) I T st n (Anw h) U (show s.heap.objs.size<(s.heap.push (W9 [] 0)).objs.size by rw[p];exact AyF _)
  (λb o e=>zB _ (zB _ (zB _ e))) (zB _ (zB _ (zD _ U)))
  ((Heap.Ns.new _ (.type "dict")).keeps λb o e=>zB _ e) (λy c e z=>?_)
  (λs' m hn k=>j _ _ s' m hn k (show s.heap.objs.size<=(s.heap.push (W9 [] 0)).objs.size by rw[p];exact AyW _)) λ_ _ z=>z.elim
 ·rcases X6 e with ⟨_,a2⟩|⟨_,a2⟩
  ·exact .inr ⟨by rw[a2];show _<(s.heap.push (W9 [] 0)).objs.size+1;omega,by rw[a2];exact Nat.succ_ne_self _⟩
  ·exact .inl (f y c a2).1
 ·rcases X6 e with ⟨_,a2⟩|⟨a1,_⟩
  ·rw[a2];show _<=(s.heap.push (W9 [] 0)).objs.size+1;omega
  ·exact yG (beq_iff_eq.mp z) a1
 ·rcases X6 q with ⟨a1,_⟩|⟨_,a2⟩
  ·rcases X6 e2 with ⟨b1,_⟩|⟨_,b2⟩
   ·rw[a1,b1]
   ·exact(no b2 z).elim
  ·exact(no a2 z).elim
 ·rcases X6 e with ⟨_,a2⟩|⟨_,a2⟩
  ·rw[a2];exact⟨none,_,(show((s.heap.push (W9 [] 0)).push AnP).objs.size=_ from yO ..)▸zD _ U,U⟩
  ·exact(no a2 (Ay3 z)).elim
include O hc hi htc hte in
theorem AnS(a:∀x,foldedSetIterable iter X.env x=pure x:=by intro _;rfl):PE X (.ListComp elt [⟨.Name x px,iter,ifs,0⟩] scope pos) (AeW wi Bp tc te):=Anv O.kind O.names O.fr hi (AvC O hc htc hte) a
end
theorem AnT(O:M9 X x Nc Bp scope)(hc:X.calm=true)
  (d:X.N.Nodup) (e:X.N[i]?=some y) (c:X.env.scope.names.lookup y=some .local) (hi:PI X (.Name x px) iter wi)
  (htc:∀cl C fp s H,PIf (X5 X x Nc scope cl C fp s H) ifs tc) (hte:∀cl C fp s H,PE (X5 X x Nc scope cl C fp s H) elt te)
  (a:swapsWith (.ListComp elt [⟨.Name x px,iter,ifs,0⟩] scope pos) (some (.Name y py)) spos.line X.env=pure true) (b:∀x,foldedSetIterable iter X.env x=pure x:=by intro _;rfl) :
  PS X (.Assign [.Name y py] (.ListComp elt [⟨.Name x px,iter,ifs,0⟩] scope pos) spos) (Aby (AeW wi Bp tc te) (HB i)):=Ajm O.kind O.names O.fr hi (AvC O hc htc hte) d e c a b
def Axc (scope sc:Scope):Scope:={scope with names:=scope.names.map λ(n,k)=>if (k == .free && sc.kind == .function && sc.names.lookup n == some .cell) then (n,.cell) else (n,k)}
theorem Aib{sc0 a:Scope}(h:X.env.scope=sc0)(b:∀y∈scope.names,y.2=.free->(Axc a sc0).names.lookup y.1=some .cell/\scope.names.lookup y.1=some .free) :
  ∀y∈scope.names,y.2=.free->(X5 X x Nc a cs C fp s H).env.scope.names.lookup y.1=some .cell/\scope.names.lookup y.1=some .free:=by
 subst h;exact b
structure MF (X:Cx)(x x':Str)(Nc:NY)(Bp:NV)(scope:Scope):Prop where
 kind:scope.kind=.function
 cell:∀y∈scope.names,y.2≠.cell
 names:∀y∈scope.names,y.2=.local->scope.names.lookup y.1=some .local
 fr:∀y∈scope.names,y.2=.free->X.env.scope.names.lookup y.1=some .cell/\scope.names.lookup y.1=some .free
 loc:scope.names.lookup x=some .local
 Axd:scope.names.lookup x'=some .local
 len:Nc.length=Bp.length+2
 hd:Nc[0]?=some x
 hd2:Nc[1]?=some x'
 nd:Nc.Nodup
 cap:∀k j,Bp[k]?=some j->∃y,Nc[k+2]?=some y/\X.N[j]?=some y/\scope.names.lookup y=some .free
def AbU (K:NO)(Bp:NV)(tc:TT)(te:TE)(J:It)(σ:St)(H:Hp)(Q:VK):Prop:=
 ∃W:Nat->Nat->LI->Hp->Prop,(∃m,W 0 m [] H)/\∀i m ys H,W i m ys H ->
  (J.stop i H/\ys.length<=sizeLine/\∀p,H p=none->Q (.ref p) (upd H p (.lst ys))) \/
  (J.go i H/\ys.length<sizeLine/\∀x H',J.yld i H x H'->∃a u v,x=.ref a/\SqT K H' a [u,v]/\tc (some u::some v::O3 σ Bp) H' λb H2 =>
   if b=true then te (some u::some v::O3 σ Bp) H2 λy H3=>∃m',m'<m/\W (i+1) m' (ys++[y]) H3 else ∃m',m'<m/\W (i+1) m' ys H2)
abbrev AnU (K:NO)(Bp:NV)(tc:TT)(te:TE)(σ:St)(Q:VK)(J:It)(H1:Hp):Prop:=AbU K Bp tc te J σ H1 Q
def AnV (K:NO)(wi:TI)(Bp:NV)(tc:TT)(te:TE)(σ:St)(H:Hp)(Q:VK):Prop:=wi σ H (AnU K Bp tc te σ Q)
theorem MF.g(O:MF X x x' Nc Bp scope):Acr X 2 Nc Bp scope:=⟨O.kind,O.names,O.fr,O.len,O.cap⟩
abbrev g2 (K:NO):TG:=AuO K 2 (Ana (HB 0) (Ana (HB 1) AuN))
theorem AvD{K:NO}{J:It}(h:AbU K Bp tc te J σ H Q):AfQ (g2 K) 2 Bp tc te J σ H Q:=by
 obtain⟨W,e,b⟩:=h;refine⟨W,e,λi m ys H w=>(b i m ys H w).imp id λ⟨g,l,k⟩=>⟨g,l,λx H' y os d=>?_⟩⟩;obtain⟨a,u,v,rfl,c,k⟩:=k x H' y
 match os,d with
 |[_,_],_=>exact⟨a,[u,v],U,c,U,u,[v],U,v,[],U,U,[some u,some v],U,U,k⟩
theorem At5(O:MF X x x' Nc Bp scope)(hc:X.calm=true)(hk:X.env.scope.kind=.function) :
  PG (cxG X (λ_=>false) Nc scope cs C fp s H ye) (.Tuple [.Name x px,.Name x' px'] kx tp) (g2 X.K):=IW hc (CG (AfR hk O.nd O.hd O.loc) (CG (AfR hk O.nd O.hd2 O.Axd) GJ))
section
variable (O:MF X x x' Nc Bp scope) (hc:X.calm=true) (hi:PI X (.Tuple [.Name x px,.Name x' px'] kx tp) iter wi)
 (htc:∀cl C fp s H,PIf (Ob X Nc scope cl C fp s H) ifs tc) (hte:∀cl C fp s H,PE (Ob X Nc scope cl C fp s H) elt te)
include O hc htc hte in
theorem Axe:Blk X (.Tuple [.Name x px,.Name x' px'] kx tp) iter elt ifs scope pos (λ_ _ _=>False) (AbU X.K Bp tc te):=
 Blk.imp (Ate (λ_ _ _ _ _ _=>False) O.g O.cell hc (λk _ _ _ _ _=>At5 O hc k) htc hte λ_ _ _ _ _ _ _ z=>z.elim) AvD
include O hc hi htc hte in
end
theorem AnW(O:MF X x x' Nc Bp scope)(hc:X.calm=true)
  (d:X.N.Nodup) (e:X.N[i]?=some y) (c:X.env.scope.names.lookup y=some .local) (hi:PI X (.Tuple [.Name x px,.Name x' px'] kx tp) iter wi)
  (htc:∀cl C fp s H,PIf (Ob X Nc scope cl C fp s H) ifs tc) (hte:∀cl C fp s H,PE (Ob X Nc scope cl C fp s H) elt te)
  (a:swapsWith (.ListComp elt [⟨(.Tuple [.Name x px,.Name x' px'] kx tp),iter,ifs,0⟩] scope pos) (some (.Name y py)) spos.line X.env=pure true) (b:∀x,foldedSetIterable iter X.env x=pure x:=by intro _;rfl) :
  PS X (.Assign [.Name y py] (.ListComp elt [⟨(.Tuple [.Name x px,.Name x' px'] kx tp),iter,ifs,0⟩] scope pos) spos) (Aby (AnV X.K wi Bp tc te) (HB i)):=Ajm O.kind O.names O.fr hi (Axe O hc htc hte) d e c a b
theorem Afi{K:NO}(O:MF X x x' Nc Bp scope)(hc:X.calm=true)
  (d:X.N.Nodup) (e:X.N[i]?=some y) (c:X.env.scope.names.lookup y=some .local) (hi:PI X (.Tuple [.Name x px,.Name x' px'] kx tp) iter wi)
  (htc:∀cl C fp s H,PIf (Ob X Nc scope cl C fp s H) ifs tc) (hte:∀cl C fp s H,PE (Ob X Nc scope cl C fp s H) elt te)
  (a:swapsWith (.ListComp elt [⟨(.Tuple [.Name x px,.Name x' px'] kx tp),iter,ifs,0⟩] scope pos) (some (.Name y py)) spos.line X.env=pure true) (b:∀x,foldedSetIterable iter X.env x=pure x:=by intro _;rfl) (f:X.K=K:=by rfl) :
  PS X (.Assign [.Name y py] (.ListComp elt [⟨(.Tuple [.Name x px,.Name x' px'] kx tp),iter,ifs,0⟩] scope pos) spos) (Aby (AnV K wi Bp tc te) (HB i)):=by
 subst f;exact AnW O hc d e c hi htc hte a b
theorem Aic{K:NO}(f g:Nat->V)(Pv:Nat->LI->Hp->Prop)(q:Pv 0 [] H)(o:∀i ys H,i<=n->Pv i ys H->ys.length<=i)
  (s:n<=sizeLine) (h1:∀i ys H,i<n->Pv i ys H->O8 K H S1 i (f i)) (h2:∀i ys H,i<n->Pv i ys H->O8 K H S2 i (g i)) (b:∀ys H,Pv n ys H->(AhU K S1 S2).stop n H)
  (j:∀i ys H T,i<n->Pv i ys H->H T=none->Iz n Pv tc te (some (f i)::some (g i)::O3 σ Bp) i ys (upd H T (.tup [f i,g i])))
  (h:∀ys H p,Pv n ys H->H p=none->Q (.ref p) (upd H p (.lst ys))):AbU K Bp tc te (AhU K S1 S2) σ H Q:=by
 refine⟨λi m ys H=>m=n-i/\i<=n/\Pv i ys H,⟨n,AB,Ayf _,q⟩,?_⟩;rintro i m ys H ⟨rfl,hi,p⟩;have r:=o i ys H hi p;by_cases a:i<n
 ·refine .inr ⟨⟨⟨_,h1 i ys H a p⟩,_,h2 i ys H a p⟩,AA,λx H' y=>?_⟩;obtain⟨T,rfl,d,e⟩:=y;have e:=e _ _ (h1 i ys H a p) (h2 i ys H a p);subst e;exact⟨T,f i,g i,U,SqT.of Ae,j i ys H T a p d⟩
 ·have e:i=n:=AA
  subst e;exact .inl ⟨b ys H p,AA,λc l=>h ys H c p l⟩
theorem AnX{K:NO}{g:TG}(f1 d:Nat->V)(Pv:Nat->St->Hp->Prop)(q:Pv 0 σ H)(h1:∀i σ H,i<n->Pv i σ H->O8 K H S1 i (f1 i))(h2:∀i σ H,i<n->Pv i σ H->O8 K H S2 i (d i))(c:∀σ H,Pv n σ H->(AhU K S1 S2).stop n H)
  (o:∀i σ H T,i<n->Pv i σ H->H T=none->g (.ref T) σ (upd H T (.tup [f1 i,d i])) λb H2=>tb {D with nx:=Pv (i+1),ct:=Pv (i+1),bk:=D.nx} b H2) (l:∀σ H,Pv n σ H->D.nx σ H) :
  ∃W:Nat->Nat->St->Hp->Prop,(∃m,W 0 m σ H)/\∀i m σ H,W i m σ H ->
   ((AhU K S1 S2).stop i H/\D.nx σ H)\/((AhU K S1 S2).go i H/\∃N:St->Hp->Prop,(∀σ' H',N σ' H'->∃f,f<m/\W (i+1) f σ' H')/\∀x H',(AhU K S1 S2).yld i H x H'->g x σ H' λb H2=>tb {D with nx:=N,ct:=N,bk:=D.nx} b H2):=by
 refine⟨λi m σ H=>m=n-i/\i<=n/\Pv i σ H,⟨n,AB,Ayf _,q⟩,?_⟩;rintro i m σ H ⟨rfl,hi,p⟩;by_cases a:i<n
 ·refine .inr ⟨⟨⟨_,h1 i σ H a p⟩,_,h2 i σ H a p⟩,Pv (i+1),λσ' H' h=>⟨n-(i+1),Au,U,a,h⟩,λx H' y=>?_⟩;obtain⟨T,rfl,j,e⟩:=y;have e:=e _ _ (h1 i σ H a p) (h2 i σ H a p);subst e;exact o i σ H T a p j
 ·have e:i=n:=AA
  subst e;exact .inl ⟨c σ H p,l σ H p⟩
inductive Ard (K:NO)(x:V)(vs:LI)(H:Hp)(Q:VK):Prop
|mk(a:_)(ns:_)(k:_)(_:x=.ref a)(_:vs=[.int k])(_:SqL K H a (vI ns))(_:Q (.int (ns.count k:Nat)) H)
theorem ZP{K:NO}(d:X.K=K:=by rfl):MtR X "list.count" (Ard K):=by subst d;intro pins s σ H x vs v us Q I c i h;obtain⟨a,ns,k,rfl,rfl,f,q⟩:=h;cases c;obtain⟨u,rfl,e⟩:=i.one;obtain⟨t,rfl⟩:=e;obtain⟨its,r,b,j⟩:=I.list f;exact PyProof.Rows.count_list_ints (ns:=ns) b.isList (intsAre_of r) ⟨.int _,H,I.tok _,⟨_,U⟩,q⟩
def Ite (K:NO)(a:Nn):It where
 go:=λi H=>∃xs x,SqL K H a xs/\xs[i]?=some x
 yld:=λi H x H'=>∃T,x=.ref T/\H T=none/\∀xs u,SqL K H a xs->xs[i]?=some u->H'=upd H T (.tup [.int (i:Int),u])
 stop:=λi H=>∃xs,SqL K H a xs/\xs.length=i
def Axf (e it a:Nn)(i:Nat)(h:Heap):Prop:=(∃old,IsEnum h e it i old)/\h.IsListIter it a i
theorem Amk{K:NO}{e a:Nn}(n:e≠it)(S:a≠e)(q:a≠it) :
  Turn P w K (.Tuple es kx tp) (Ite K a) [e,it] e (Axf e it a) where
 mem:=AB
 obj:=λi h st c hc=>by
  obtain⟨⟨j,l⟩,J⟩:=st;simp only [Ayj,Ayq,yM]at hc;rcases hc with z|z
  ·subst z;exact⟨_,l,λv z=>by cases (show Data.fields _=Data.cell v from z)⟩
  ·subst z;obtain⟨o,e,_,d⟩:=J;exact⟨o,e,λv z=>by rw[d]at z;cases z⟩
 keep:=λi h h' st k=>by
  obtain⟨⟨j,l⟩,J⟩:=st;exact⟨⟨j,k _ AB _ l⟩,J.at λo e=>k _ AB o e⟩
 item:=by
  intro X F hw D hc i pins s σ H E I G st N;subst F hw D;obtain⟨xs,x,m,hx⟩:=N;obtain⟨b,p,p1,_⟩:=I.list m;obtain⟨u,hu,ru⟩:=p.get hx;obtain⟨⟨j,l⟩,B⟩:=st;have W:i<b.toArray.size:=by have:=(zC.mp hu).1;simpa using this
  have L:X.A.in1.handled=none:=I.ok.hd hc;refine wpAny_pyNext_enum_itemD (Draws.list L it a q b.toArray) l ⟨B,p1.isList⟩ W n (λz=>?_) λu' h1 tk T ho R hT hsz Y=>?_
  ·simp only [Ayj,Ayq,yM]at z;rcases z with z|z
   ·exact n z
   ·exact S z.symm
  have r:b[i]?=some u':=by simpa using T
  rw[hu]at r;cases r;refine⟨_,U,wpAny_letOwnedTupleGo_enum ho λh2 Q O=>?_⟩;have O:Heap.SameBut e h1 h2:=O;have el:e<s.heap.objs.size:=yH l;have il:it<s.heap.objs.size:=by obtain⟨_,e,_⟩:=B;exact yH e
  have up:∀c o,c≠e->h1.get? c=some o->h2.get? c=some o:=λc o c1 z=>(O.2 c c1).trans z;have C:H s.heap.objs.size=none:=I.hok.fresh (AxU _);have I1:Inv X pins σ (upd H s.heap.objs.size (.tup [.int (i:Int),x])) {s with heap:=s.heap.push {cls:=.type "tuple",data:=.seq #[.int i tk,u]},toks:=tk+1}:=
   I.laid (λc o e=>zB _ e) (AxU _) ⟨AE,[.int i tk,u],.cons ⟨tk,U⟩ (.cons ru .nil),⟨_,zD _ U,U,_,U⟩⟩;have fp2:∀c∈[e,it],Q6 X pins (upd H s.heap.objs.size (.tup [.int (i:Int),x])) c:=λc hc=>by
   obtain⟨f0,f⟩:=G c hc;refine⟨?_,f⟩;have lt:c<s.heap.objs.size:=by
    simp only [Ayj,Ayq,yM]at hc;rcases hc with e|e<;>subst e<;>assumption
   rw[Ao (Aye lt)];exact f0
  have I2:Inv X pins σ (upd H s.heap.objs.size (.tup [.int (i:Int),x])) {s with heap:=h2,toks:=tk+1}:=by
   refine Inv.UT (s:={s with heap:=s.heap.push {cls:=.type "tuple",data:=.seq #[.int i tk,u]},toks:=tk+1}) (h':=h2) (t':=tk+1) (its:=[e,it]) I1 (λc o hc z=>?_) fp2;simp only [Ayj,Ayq,yM,not_or]at hc;refine up c o hc.1 ?_;by_cases y:c=s.heap.objs.size
   ·subst y;have M:(s.heap.push {cls:=.type "tuple",data:=.seq #[.int i tk,u]}).get? s.heap.objs.size=some {cls:=.type "tuple",data:=.seq #[.int i tk,u]}:=zD _ U;rw[M]at z;cases z;exact hT
   ·have M:s.heap.get? c=some o:=by
     rw[<-z];exact(Heap.get?_push_ne _ _ _ y).symm
    exact Y c o hc.1 hc.2 M
  refine⟨.ref s.heap.objs.size,_,I2,U,⟨s.heap.objs.size,U,C,λa0 u' a1 a3=>?_⟩,⟨⟨u,by simpa using Q⟩,R.1.at λo z=>up _ o n.symm z⟩,λc hc=>(fp2 c hc).1⟩;rw[I.Tf a1 m,hx]at a3;cases a3;rfl
 done:=by
  intro X F hw D hc i pins s σ H E I G st N;subst F hw D;obtain⟨xs,m,Z⟩:=N;obtain⟨b,p,p1,_⟩:=I.list m;have l1:=p.length;obtain⟨⟨j,l⟩,B⟩:=st;have L:X.A.in1.handled=none:=I.ok.hd hc;have en:i=b.toArray.size:=by simp;omega
  subst en;refine wpAny_pyNext_enum_endD (Draws.list L it a q b.toArray) l ⟨B,p1.isList⟩ λh' Y=>⟨U,I.UT (t':=s.toks) (its:=[e,it]) (λc o hc z=>?_) G⟩;simp only [Ayj,Ayq,yM,not_or]at hc;exact Y c o hc.2 z
 self:=λ_ _ _ _ _ st h=>by obtain⟨⟨j,l⟩,_⟩:=st;exact wpAny_pyIter_enum l h
inductive Are (K:NO)(R:(It->Hp->Prop))(vs:LI)(H1:Hp):Prop
|mk(a:_)(_:vs=[.ref a])(_:(∃xs,SqL K H1 a xs))(_:R (Ite K a) H1)
def AvE (K:NO)(ta:TA)(σ:St)(H:Hp)(R:(It->Hp->Prop)):Prop:=ta σ H (Are K R)
theorem Arf{K:NO}{p:Pos}(x:Gl X "enumerate") (n:X.mg "enumerate"=none) (w:PA X [a] ta) (m:X.K=K:=by rfl) (o:starEach [a] X.env=[(false,eval a X.env)]:=by rfl) :
  PI X (.Tuple es kx tp) (.Call (.Name "enumerate" p) [a] [] pos) (AvE K ta):=by
 subst m;intro pins s σ H R I h;refine Call_ (IV I x n Xu (yK (thn (w pos pins s σ H _ I h) λus b ⟨vs,H1,d,y,A⟩=>?_) o U));obtain⟨a,e,⟨xs,f⟩,q⟩:=A;subst e;cases y with
 |cons r u =>
  cases u;cases r;obtain⟨B,C,p1,_⟩:=d.list f;obtain⟨o1,v,_⟩:=id p1.isList;have i:a<b.heap.objs.size:=yH v;refine call_enumerate_list p1.isList λh' j hi hsz z=>wpAny_pyIter_enum j ⟨_,[b.heap.objs.size+1,b.heap.objs.size],_,_,H1,U,d.kept (t':=b.toks) z,Amk (lne (AyF _) 0).symm (lne i 1) (lne i 0),⟨⟨_,j⟩,hi⟩,λc hc=>?_,q⟩;have l:b.heap.objs.size<=c:=by
   simp only [Ayj,Ayq,yM]at hc;rcases hc with e|e<;>subst e<;>omega
  exact d.Aja l (d.hok.fresh l)
theorem AnY{K:NO}{a:Nn}{xs:LI}{g:TG}(Pv:Nat->St->Hp->Prop)(q:Pv 0 σ H)(o:∀i σ H,Pv i σ H->SqL K H a xs)
  (n:∀i x σ H T,xs[i]?=some x->Pv i σ H->H T=none->g (.ref T) σ (upd H T (.tup [.int (i:Int),x])) λc H2=>tb {D with nx:=Pv (i+1),ct:=Pv (i+1),bk:=D.nx} c H2) (l:∀σ H,Pv xs.length σ H->D.nx σ H) :
  ∃W:Nat->Nat->St->Hp->Prop,(∃m,W 0 m σ H)/\∀i m σ H,W i m σ H ->
   ((Ite K a).stop i H/\D.nx σ H)\/((Ite K a).go i H/\∃N:St->Hp->Prop,(∀σ' H',N σ' H'->∃f,f<m/\W (i+1) f σ' H')/\∀x H',(Ite K a).yld i H x H'->g x σ H' λc H2=>tb {D with nx:=N,ct:=N,bk:=D.nx} c H2):=by
 refine⟨λi m σ H=>m=xs.length-i/\i<=xs.length/\Pv i σ H,⟨xs.length,AB,Ayf _,q⟩,?_⟩;rintro i m σ H ⟨rfl,hi,p⟩;have d:=o i σ H p;by_cases b:i<xs.length
 ·refine .inr ⟨⟨xs,xs[i],d,AxT b⟩,Pv (i+1),λσ' H' h=>⟨xs.length-(i+1),Au,U,b,h⟩,λx H' y=>?_⟩;obtain⟨T,rfl,j,y⟩:=y;have e:=y xs _ d (AxT b);subst e;exact n i _ σ H T (AxT b) p j
 ·have e:i=xs.length:=Au
  subst e;exact .inl ⟨⟨xs,d,U⟩,l σ H p⟩
def AnZ (u:NV):It where
 go:=λi _=>i<u.length
 yld:=λi H x H'=>∃T c,x=.ref T/\H T=none/\u[i]?=some c/\H'=upd H T (.tup [.int (i:Int),.str (tx [c])])
 stop:=λi _=>u.length=i
def AvF (e it:Nn)(u:NV)(t:Tok)(i:Nat)(h:Heap):Prop:=(∃old,IsEnum h e it i old)/\h.IsStrIter it (strIterType (tx u)) (tx u) t i
theorem Aj2{K:NO}{e:Nn}{t:Tok}(n:e≠it) :
  Turn P w K (.Tuple es kx tp) (AnZ u) [e,it] e (AvF e it u t) where
 mem:=AB
 obj:=λi h st c hc=>by
  obtain⟨⟨b,l⟩,S⟩:=st;simp only [Ayj,Ayq,yM]at hc;rcases hc with z|z
  ·simp_all
  ·subst z;obtain⟨o,e,_,d⟩:=S;exact⟨o,e,λv z=>AC⟩
 keep:=λi h h' st k=>by
  obtain⟨⟨b,l⟩,o,W,c,d⟩:=st;exact⟨⟨b,k _ AB _ l⟩,o,k _ AB _ W,c,d⟩
 item:=by
  intro X O hw N hc i pins s σ H E I B st q;obtain⟨⟨b,l⟩,r⟩:=st;have C:X.A.in1.handled=none:=I.ok.hd hc;have hn:i<(tx u).cps.size:=by exact q
  refine wpAny_pyNext_enum_itemD (Ac3 C it (tx u) t) l r hn n (λz=>?_) λu' h1 tk G R D hT hsz J=>?_
  ·simp_all
  obtain⟨c,a,m,rfl⟩:=G;have m:u[i]?=some c:=by rw[<-zO]at m;exact m
  refine⟨_,U,wpAny_letOwnedTupleGo_enum R λh2 x sb=>?_⟩;have el:=yH l;have il:it<s.heap.objs.size:=by obtain⟨_,e,_⟩:=r;exact yH e
  have L:∀c o,c≠e->h1.get? c=some o->h2.get? c=some o:=λc o c1 z=>(sb.2 c c1).trans z;have y:=I.hok.fresh (AxU _);have Y:Inv X pins σ (upd H s.heap.objs.size (.tup [.int (i:Int),.str (tx [c])])) {s with heap:=s.heap.push {cls:=.type "tuple",data:=.seq #[.int i tk,.str ⟨#[c]⟩ a]},toks:=tk+1}:=
   I.laid (λc o e=>zB _ e) (AxU _) ⟨AE,[.int i tk,.str ⟨#[c]⟩ a],.cons ⟨tk,U⟩ (.cons ⟨a,U⟩ .nil),⟨_,zD _ U,U,_,U⟩⟩;have fp2:∀j∈[e,it],Q6 X pins (upd H s.heap.objs.size (.tup [.int (i:Int),.str (tx [c])])) j:=λj hc=>by
   obtain⟨f0,f⟩:=B j hc;refine⟨?_,f⟩;have lt:j<s.heap.objs.size:=by
    simp only [Ayj,Ayq,yM]at hc;rcases hc with e|e<;>subst e<;>assumption
   rw[Ao (Aye lt)];exact f0
  have M:Inv X pins σ (upd H s.heap.objs.size (.tup [.int (i:Int),.str (tx [c])])) {s with heap:=h2,toks:=tk+1}:=by
   refine Inv.UT (s:={s with heap:=s.heap.push {cls:=.type "tuple",data:=.seq #[.int i tk,.str ⟨#[c]⟩ a]},toks:=tk+1}) Y (λj o hc z=>?_) fp2;simp only [Ayj,Ayq,yM,not_or]at hc;refine L j o hc.1 ?_;by_cases p:j=s.heap.objs.size
   ·subst p;have F:(s.heap.push {cls:=.type "tuple",data:=.seq #[.int i tk,.str ⟨#[c]⟩ a]}).get? s.heap.objs.size=some {cls:=.type "tuple",data:=.seq #[.int i tk,.str ⟨#[c]⟩ a]}:=zD _ U;rw[F]at z;cases z;exact hT
   ·have F:s.heap.get? j=some o:=by
     rw[<-z];exact(Heap.get?_push_ne _ _ _ p).symm
    exact J j o hc.1 hc.2 F
  obtain⟨Q,q1,Z,T⟩:=D;exact⟨.ref s.heap.objs.size,_,M,U,⟨s.heap.objs.size,c,U,y,m,U⟩,⟨⟨_,by simpa using x⟩,Q,L _ _ n.symm q1,Z,T⟩,λc hc=>(fp2 c hc).1⟩
 done:=by
  intro X O hw N hc i pins s σ H E I B st q;have q:=q;obtain⟨⟨b,l⟩,r⟩:=st;have C:X.A.in1.handled=none:=I.ok.hd hc;have en:i=(tx u).cps.size:=by exact q.symm
  subst en;refine wpAny_pyNext_enum_endD (Ac3 C it (tx u) t) l r λh' J=>⟨U,I.UT (λc o hc z=>?_) B⟩;simp only [Ayj,Ayq,yM,not_or]at hc;exact J c o hc.2 z
 self:=λ_ _ _ _ _ st h=>by obtain⟨⟨b,l⟩,_⟩:=st;exact wpAny_pyIter_enum l h
inductive Aoa (R:(It->Hp->Prop))(vs:LI)(H1:Hp):Prop
|mk(u:_)(_:vs=[.str (tx u)])(_:R (AnZ u) H1)
def At6 (ta:TA)(σ:St)(H:Hp)(R:(It->Hp->Prop)):Prop:=ta σ H (Aoa R)
theorem Aob{p:Pos}(j:Gl X "enumerate") (n:X.mg "enumerate"=none) (x:PA X [a] ta) (v:starEach [a] X.env=[(false,eval a X.env)]:=by rfl) :
  PI X (.Tuple es kx tp) (.Call (.Name "enumerate" p) [a] [] pos) (At6 ta):=by
 intro pins s σ H R I h;refine Call_ (IV I j n Xu (yK (thn (x pos pins s σ H _ I h) λus b ⟨vs,H1,d,l,o⟩=>?_) v U));obtain⟨u,e,q⟩:=o;subst e;cases l with
 |cons r w =>
  cases w;obtain⟨t,rfl⟩:=r;refine call_enumerate_str λh' i hi hsz m=>wpAny_pyIter_enum i ⟨_,[b.heap.objs.size+1,b.heap.objs.size],_,_,H1,U,d.kept m,Aj2 (lne (AyF _) 0).symm,⟨⟨_,i⟩,hi⟩,λc hc=>?_,q⟩;have f:b.heap.objs.size<=c:=by
   grind
  exact d.Aja f (d.hok.fresh f)
theorem Aml{g:TG}(Pv:Nat->St->Hp->Prop)(n:Pv 0 σ H)
  (l:∀i c σ H T,u[i]?=some c->Pv i σ H->H T=none->g (.ref T) σ (upd H T (.tup [.int (i:Int),.str (tx [c])])) λa H2=>tb {D with nx:=Pv (i+1),ct:=Pv (i+1),bk:=D.nx} a H2) (j:∀σ H,Pv u.length σ H->D.nx σ H) :
  ∃W:Nat->Nat->St->Hp->Prop,(∃m,W 0 m σ H)/\∀i m σ H,W i m σ H ->
   ((AnZ u).stop i H/\D.nx σ H)\/((AnZ u).go i H/\∃N:St->Hp->Prop,(∀σ' H',N σ' H'->∃d,d<m/\W (i+1) d σ' H')/\∀x H',(AnZ u).yld i H x H'->g x σ H' λa H2=>tb {D with nx:=N,ct:=N,bk:=D.nx} a H2):=by
 refine⟨λi m σ H=>m=u.length-i/\i<=u.length/\Pv i σ H,⟨u.length,AB,Ayf _,n⟩,?_⟩;rintro i m σ H ⟨rfl,hi,p⟩;by_cases b:i<u.length
 ·refine .inr ⟨b,Pv (i+1),λσ' H' f=>⟨u.length-(i+1),Au,U,b,f⟩,λx H' y=>?_⟩;obtain⟨T,c,rfl,h,hc,rfl⟩:=y;exact l i c σ H T hc p h
 ·have e:i=u.length:=AA
  subst e;exact .inl ⟨U,j σ H p⟩
inductive Aj3 (x:V)(vs:LI)(H:Hp)(Q:VK):Prop
|mk(z:Str)(y:Str)(_:x=.str z)(_:vs=[.str y])(_:z.length<=sizeLine)(_:Q (.str (Txt.stripChars z y)) H)
theorem X7:MtR X "str.strip" Aj3:=by intro pins s σ H x vs v us Q I a d h;obtain⟨z,y,rfl,rfl,b,q⟩:=h;obtain⟨t,rfl⟩:=a;obtain⟨e,rfl,c⟩:=d.one;obtain⟨t',rfl⟩:=c;exact SC.stripChars (λt' k=>⟨.str _,H,I.tok _,⟨_,U⟩,q⟩) b
inductive Aid (x:V)(vs:LI)(H:Hp)(Q:VK):Prop
|mk(z:Str)(y:Str)(_:x=.str z)(_:vs=[.str y])(_:Q (.bl (Txt.startswith z y)) H)
theorem ZQ:MtR X "str.startswith" Aid:=by intro pins s σ H x vs v us Q I a c h;obtain⟨z,y,rfl,rfl,q⟩:=h;obtain⟨t,rfl⟩:=a;obtain⟨d,rfl,b⟩:=c.one;obtain⟨t',rfl⟩:=b;exact SC.startswith ⟨.bl _,H,I,U,q⟩
def trim(u:NV):NV:=((u.dropWhile λc=>decide (c=32)).reverse.dropWhile λc=>decide (c=32)).reverse
theorem Agf(c:Nat):(tx [32]).cps.contains c=decide (c=32):=by
 show(#[32]:Array Nat).contains c=_;by_cases h:c=32
 ·simp
 ·simp_all
theorem AbV{p:Nat->Bool}(l:NV):l.drop (l.takeWhile p).length=l.dropWhile p:=by
 induction l with
 |nil=>rfl
 |cons a l b =>
  rw[AyH,AzB];by_cases h:p a=true
  ·rw[yF h,yF h];exact b
  ·rw[yE h,yE h];rfl
theorem AbW(u:NV):Txt.stripChars (tx u) (tx [32])=tx (trim u):=by
 rw[Txt.stripChars,W.stripBy_eq];have a:=funext Agf;rw[a];unfold W.stripped;simp only [if_true];rw[Ba];generalize d:(λc:Nat=>decide (c=32))=p;have h:=AbV (p:=p) u;have j:(u.takeWhile p).length+(u.dropWhile p).length=u.length:=by
  have:= congrArg List.length (AzC (p:=p) (l:=u));rw[AxS]at this;exact this
 unfold Builtin.Str.strSub trim;rw[d];apply congrArg;apply Array.ext';rw[Array.toList_extract,Fv];rw[List.extract_eq_drop_take,h];have f:((u.dropWhile p).reverse.takeWhile p).length+((u.dropWhile p).reverse.dropWhile p).length=(u.dropWhile p).length:=by
  have:= congrArg List.length (AzC (p:=p) (l:=(u.dropWhile p).reverse));rw[AxS,Ay1]at this;exact this
 have e:u.length-((u.dropWhile p).reverse.takeWhile p).length-(u.takeWhile p).length=((u.dropWhile p).reverse.dropWhile p).length:=AA
 rw[e];have e2:(u.dropWhile p)=((u.dropWhile p).reverse.dropWhile p).reverse++((u.dropWhile p).reverse.takeWhile p).reverse:=by
  rw[<-AzD,AzC,AzE]
 generalize i:((u.dropWhile p).reverse.dropWhile p)=b at e2 ⊢;rw[e2,Aza (by rw[Ay1];exact AxU _),Ayy (by rw[Ay1];exact AxU _)]
theorem Vb(u:NV)(c:Nat):Txt.startswith (tx u) (tx [c])=decide (u.head?=some c):=by
 unfold Txt.startswith Builtin.Str.subAt;rw[Ba];cases u with
 |nil=>rfl
 |cons a u =>
  have e:((tx (a::u)).cps.extract 0 (0+[c].length))=#[a]:=by
   apply Array.ext';rw[Array.toList_extract];rfl
  rw[e];show(decide (0+1<=u.length+1) && (#[a] == #[c]))=_;grind
open PySem PySem.Spec PyProof.Rows PySem.Builtin PySem.Builtin.Str
def jn (c:Nat):NI->NV
 |[]=>[]
 |[w]=>w
 |w::v::r=>w++c::jn c (v::r)
theorem Ac8(c:Nat):∀{ws:NI},ws≠[]->(jn c ws).count c+1=(ws.map (List.count c)).sum+ws.length
 |[],h=>yG U h
 |[w],_=>by simp[jn]
 |w::v::r,_=>by
  have a:=Ac8 c (ws:=v::r) AB;rw[jn];grind
theorem Aoc{c:Nat}:∀{w v a b:NV},c∉w->c∉v->w++c::a=v++c::b->w=v/\a=b
 |[],[],a,b,_,_,h=>⟨U,(yS h).2⟩
 |[],x::v,a,b,_,hv,h=>yG AC hv
 |x::w,[],a,b,hw,_,h=>yG AC hw
 |x::w,y::v,a,b,hw,hv,h=>by
  have e:=yS h;have:= Aoc (λz=>hw (AxY _ z)) (λz=>hv (AxY _ z)) e.2;exact⟨AC,this.2⟩
theorem Aod{c:Nat}:∀{ws vs:NI},ws≠[]->vs≠[]->(∀w∈ws,c∉w)->(∀v∈vs,c∉v)->jn c ws=jn c vs->ws=vs
 |[],_,h,_,_,_,_=>yG U h
 |_,[],_,h,_,_,_=>yG U h
 |[w],[v],_,_,_,_,e=>by rw[show w=v from e]
 |[w],v::v'::r,_,_,hw,_,e=>yG (by rw[show w=v++c::jn c (v'::r) from e];simp) (hw w AxW)
 |w::w'::r,[v],_,_,_,hv,e=>yG (by rw[<-show w++c::jn c (w'::r)=v from e];simp) (hv v AxW)
 |w::w'::r,v::v'::r',_,_,hw,hv,e=>by
  have h:=Aoc (hw w AxW) (hv v AxW) (e);rw[h.1,Aod (ws:=w'::r) (vs:=v'::r') AB AB (λx a=>hw x (AxY _ a)) (λx a=>hv x (AxY _ a)) h.2]
theorem join_list(c:Nat):∀l:NY,(Str.join ⟨#[c]⟩ l).cps.toList=jn c (l.map λz=>z.cps.toList)
 |[]=>rfl
 |[x]=>rfl
 |x::y::r=>by
  show(x++⟨#[c]⟩++Str.join ⟨#[c]⟩ (y::r)).cps.toList=x.cps.toList++c::jn c ((y::r).map λz=>z.cps.toList);rw[<-join_list c (y::r)];show((x.cps++#[c])++(Str.join ⟨#[c]⟩ (y::r)).cps).toList=_;simp
theorem Aoe(z:Str):1<=Builtin.Str.strKind z:=by
 unfold Builtin.Str.strKind;split
 ·omega
 ·split<;>omega
theorem At7(h:c<256):Builtin.Str.strKind ⟨#[c]⟩=1:=by unfold Builtin.Str.strKind;rw[yF (by simp;exact h)]
theorem split_len(hc:c<256):(Txt.split (tx u) ⟨#[c]⟩).length=u.count c+1:=by
 have n:=Amc u c;unfold Txt.split;split
 ·rename_i h;have:(tx u).length<1:=by
   rcases Bool.or_eq_true_iff.mp h with h|h
   ·exact yN h
   ·have:= yN h;rw[At7 hc]at this;have:= Aoe (tx u);lia
  rw[Ba]at this;grind
 ·split
  ·simp_all
  ·rw[StrLaws.partsBetween_eq]<;>skip
   rw[<-StrLaws.partsBetween_eq,length_partsBetween,n]
theorem Ac9:∀{l:NV} {a:Nat},a∈l->a<=l.sum
 |[],_,h=>by cases h
 |b::l,a,h=>by
  rw[Ay6];rcases yC.mp h with z|z
  ·rw[z];lia
  ·have:= Ac9 z;lia
theorem Aof(hc:c<256)(f:ws≠[])(h:jn c ws=u)(no:∀w∈ws,c∉w):Txt.split (tx u) ⟨#[c]⟩=ws.map tx:=by
 have l:=split_len (u:=u) hc;have j:=congrArg (λz:Str=>z.cps.toList) (StrLaws.join_split (tx u) ⟨#[c]⟩);rw[join_list,Fv]at j;generalize Txt.split (tx u) ⟨#[c]⟩=ps at l j;obtain⟨qs,a⟩:∃qs,qs=ps.map λz=>z.cps.toList:=⟨_,U⟩;rw[<-a]at j;have i:qs.length=ps.length:=by rw[a,AxR]
 have b:qs≠[]:=λz=>AD
 have cnt:=Ac8 c b;rw[j,i,l]at cnt;have d:∀w∈qs,c∉w:=λw hw z=>by
  have h1:w.count c<=(qs.map (List.count c)).sum:=Ac9 (yB.mpr ⟨w,hw,U⟩);grind
 have e:=Aod b f d no (by rw[j,h]);rw[<-e,a,Ay7];exact(List.map_id' ps).symm.trans (Az8 λz _=>by rfl)
theorem ZR:∀{l:List (Str×Tok)} {ws:NI},l.map (·.1)=ws.map tx->Vals (vS ws) (strValues l)
 |[],[],_=>.nil
 |[],w::ws,h=>by cases h
 |p::l,[],h=>by cases h
 |p::l,w::ws,h=>by
  have e:=yS h;exact .cons ⟨p.2,by rw[<-e.1]⟩ (ZR e.2)
inductive At8 (x:V)(vs:LI)(H:Hp)(Q:VK):Prop
|mk(u:NV)(c:Nat)(ws:NI)(_:x=.str (tx u))(_:vs=[.str ⟨#[c]⟩])(_:c<256)(_:u.length+2<=sizeLine)(_:ws≠[])(_:jn c ws=u)(_:(∀w∈ws,c∉w))(_:∀l,H l=none->Q (.ref l) (upd H l (.lst (vS ws))))
theorem AcA:MtR X "str.split" At8:=by
 intro pins s σ H x vs v us Q I p j h;obtain⟨u,c,ws,rfl,rfl,hc,m,d,r,no,q⟩:=h;obtain⟨t,rfl⟩:=p;obtain⟨z,rfl,n⟩:=j.one;obtain⟨t',rfl⟩:=n;have es:=Aof hc d r no;have y:ws.length<=u.length+1:=by
  have:= Ac8 c d;grind
 have f:(tx u).length+2<=sizeLine:=by exact m
 have fin:∀(l:List (Str×Tok))(tk:Nat),l.map (·.1)=Txt.split (tx u) ⟨#[c]⟩->EP X pins σ Q (.ref s.heap.objs.size) {s with heap:=s.heap.push {cls:=.type "list",data:=.seq (strValues l).toArray},toks:=tk}:=λl tk e =>
  ⟨.ref s.heap.objs.size,_,I.laid (λb o e=>zB _ e) (AxU _) (show Gp X.prog X.w _ _ _ (.lst (vS ws)) from⟨by rw[Bc];lia,_,_,ZR (e.trans es),zD _ U⟩),U,q _ (I.hok.fresh (AxU _))⟩;have i:(((⟨#[c]⟩:Str)).length == 0)=false:=rfl;have hn:(partsBetween (tx u) (occurrences (tx u) ⟨#[c]⟩ 0 (tx u).length ((tx u).length+1)) ((⟨#[c]⟩:Str)).length).length<=sizeLine:=by
  have A:=StrLaws.occ_length_le (tx u) ⟨#[c]⟩ 0 (tx u).length ((tx u).length+1);rw[length_partsBetween];lia
 cases h1:(decide ((tx u).length<((⟨#[c]⟩:Str)).length) ||decide (Builtin.Str.strKind (tx u)<Builtin.Str.strKind ⟨#[c]⟩))
 ·cases a:(occurrences (tx u) ⟨#[c]⟩ 0 (tx u).length ((tx u).length+1)).isEmpty
  ·refine call_meets zY (typeIs_str _ _ _) F.entry_str_split (F.args_str_split_2 _ _) (meets_str_split_sep (tx u) ⟨#[c]⟩ t t' h1 i a AA hn) ?_;rw[strsFrom_eq];exact fin (numbered s.toks _) _ ((numbered_texts _ _).trans ((yE (yT h1)).trans (yE (yT a))).symm)
  ·exact call_meets zY (typeIs_str _ _ _) F.entry_str_split (F.args_str_split_2 _ _) (meets_str_split_not_found (tx u) ⟨#[c]⟩ t t' h1 i a)
    (fin [(tx u,t)] s.toks ((yE (yT h1)).trans (yF a)).symm)
 ·exact call_meets zY (typeIs_str _ _ _) F.entry_str_split (F.args_str_split_2 _ _) (meets_str_split_cannot_occur (tx u) ⟨#[c]⟩ t t' h1)
   (fin [(tx u,t)] s.toks (yF h1).symm)
def jnS (sp:NV):NI->NV
 |[]=>[]
 |[w]=>w
 |w::v::r=>w++(sp++jnS sp (v::r))
theorem AcB(u:NV)(i n:Nat):((tx u).cps.extract i n).toList=(u.drop i).take (n-i):=by show((u.toArray).extract i n).toList=_;rw[Array.toList_extract]
theorem ZS:Builtin.Str.subAt (tx u) (tx sp) j=true↔(u.drop j).take sp.length=sp:=by unfold Builtin.Str.subAt;rw[beq_iff_eq,<-Array.toList_inj,AcB,Ba,show j+sp.length-j=sp.length by omega,Fv]
theorem At9(h:∀z∈sp,z<256):Builtin.Str.strKind (tx sp)=1:=by unfold Builtin.Str.strKind;rw[yF];rw[<-Array.all_toList,Azx];exact λz a=>zN (h z a)
def Cln (sp w:NV):Prop:=∀i,i<w.length->(w.drop i++sp).take sp.length≠sp
def AvG (sp w:NV):Prop:=∀i,i<w.length->(w.drop i).take sp.length≠sp
def Aie (sp:NV):NI->Prop
 |[]=>True
 |[w]=>AvG sp w
 |w::v::r=>Cln sp w/\Aie sp (v::r)
theorem Cln.last{w:NV}(h:Cln sp w):AvG sp w:=λi hi e=>h i hi (by
 have a:=congrArg List.length e;rw[Ayc]at a;rw[Aza Au];exact e)
theorem Agg{sp:NV}:∀{ws:NI},(∀w∈ws,Cln sp w)->Aie sp ws
 |[],_=>trivial
 |[w],h=>(h w AxW).last
 |w::v::r,h=>⟨h w AxW,Agg λx a=>h x (AxY _ a)⟩
theorem Arh(y:1<=sp.length):∀(n:Nat)(u:NV),u.length<=n->∃ws,ws≠[]/\jnS sp ws=u/\Aie sp ws:=by
 intro n
 induction n with
 |zero =>
  intro u m;exact⟨[u],AB,U,λi hi=>Au⟩
 |succ n w =>
  intro u m;by_cases h:∃i,i<u.length/\(u.drop i).take sp.length=sp
  ·obtain⟨i,⟨hi,x⟩,o⟩:∃i,(i<u.length/\(u.drop i).take sp.length=sp)/\∀j,j<i->¬(j<u.length/\(u.drop j).take sp.length=sp):=by
    obtain⟨i,hi⟩:=h
    induction i using Nat.strongRecOn with
    |_ i b =>
     by_cases g:∃j,j<i/\(j<u.length/\(u.drop j).take sp.length=sp)
     ·obtain⟨j,a,c⟩:=g;exact b j a c
     ·exact⟨i,hi,λj a z=>g ⟨j,a,z⟩⟩
   have A:u.drop i=sp++u.drop (i+sp.length):=by
    have:=AyI sp.length (u.drop i);rw[x,AyO]at this;exact this.symm
   have f:u=u.take i++(sp++u.drop (i+sp.length)):=by rw[<-A,AyI]
   obtain⟨ws,d,s,l⟩:=w (u.drop (i+sp.length)) (by rw[Ays];omega);refine⟨u.take i::ws,AB,?_,?_⟩
   ·cases ws with
    |nil=>exact yG U d
    |cons v r=>rw[jnS,s];exact f.symm
   ·cases ws with
    |nil=>exact yG U d
    |cons v r =>
     refine⟨λj a e=>?_,l⟩;rw[Ayc]at a;refine o j (by exact Ar.b2 (Ar.k9 hi) a) ⟨Au,?_⟩;have p:u.drop j=(u.take i).drop j++(sp++u.drop (i+sp.length)):=by
      have q:=congrArg (List.drop j) f;rw[AzN (by rw[Ayc];exact Ar.c3 a)]at q;exact q
     rw[p,<-Ay0,Aza (by rw[AxS];exact Ar.a4)];exact e
  ·exact⟨[u],AB,U,λi hi e=>h ⟨i,hi,e⟩⟩
def psn (W:Nat):Nat->NI->NV
 |_,[]=>[]
 |_,[_]=>[]
 |a,w::v::r=>(a+w.length)::psn W (a+w.length+W) (v::r)
theorem Aog{w x:NV}(h:(w++x).take sp.length=sp)(a:x=[]\/∃y,x=sp++y)(hw:1<=w.length):(w++sp).take sp.length=sp:=by
 rcases a with rfl|⟨y,rfl⟩
 ·rw[Ayr]at h;have b:=congrArg List.length h;rw[Ayc]at b;rw[Aza Au];exact h
 ·rw[<-Ay0,Aza (by rw[AxS];exact Ar.a4)]at h;exact h
theorem X8{u sp:NV}{limit:Nat}:∀(m i k:Nat)(acc:Array Nat)(free:Nat),(∀j,i<=j->j<i+m->¬(free<=j/\j+(tx sp).length<=(tx u).length/\Builtin.Str.subAt (tx u) (tx sp) j=true)) ->
  forIn (List.range' i (m+k)) (acc,free) (StrLaws.occBody (tx u) (tx sp) (tx u).length limit)=forIn (List.range' (i+m) k) (acc,free) (StrLaws.occBody (tx u) (tx sp) (tx u).length limit)
 | 0,i,k,acc,free,_=>by rw[Nat.zero_add,Azy]
 |m+1,i,k,acc,free,h=>by
  rw[show m+1+k=(m+k)+1 by omega,AzA,AyX];have e:StrLaws.occBody (tx u) (tx sp) (tx u).length limit i (acc,free)=pure (ForInStep.yield (acc,free)):=by
   unfold StrLaws.occBody;rw[yE λz=>h i (AxU _) Au ⟨z.1.1.2,z.1.2,z.2⟩]
  rw[e];have a:=X8 (u:=u) (sp:=sp) (limit:=limit) m (i+1) k acc free λj h1 h2=>h j (by exact Ar.c3 h1) Au;refine Eq.trans a ?_;rw[show i+1+m=i+(m+1) by omega]
theorem Aif{sp:NV}(m:1<=sp.length){limit:Nat}:∀(ws:NI)(a:NV)(acc:Array Nat)(free:Nat),ws≠[]->Aie sp ws->free<=a.length->acc.size+(jnS sp ws).length<limit ->
  ((forIn (List.range' a.length ((jnS sp ws).length+1)) (acc,free) (StrLaws.occBody (tx (a++jnS sp ws)) (tx sp) (tx (a++jnS sp ws)).length limit)).run.fst).toList=acc.toList++psn sp.length a.length ws
 |[],_,_,_,h,_,_,_=>yG U h
 |[w],a,acc,free,_,hC,hf,hl=>by
  have b:jnS sp [w]=w:=rfl;have no:∀j,a.length<=j->j<a.length+(w.length+1)->¬(free<=j/\j+(tx sp).length<=(tx (a++jnS sp [w])).length/\Builtin.Str.subAt (tx (a++jnS sp [w])) (tx sp) j=true):=λj h1 h2 z=>by
   obtain⟨_,n,c⟩:=z;rw[ZS,b]at c;rw[b,Ba,Ba,AxS]at n;rw[List.Fd h1]at c;exact hC (j-a.length) Au c
  have s:=X8 (limit:=limit) (w.length+1) a.length 0 acc free no;rw[b]at s ⊢;rw[Azy]at s;rw[s];simp[psn]
 |w::v::r,a,acc,free,_,hC,hf,hl=>by
  obtain⟨u,f⟩:∃u,u=a++jnS sp (w::v::r):=⟨_,U⟩;have b:jnS sp (w::v::r)=w++(sp++jnS sp (v::r)):=rfl;have d:(jnS sp (w::v::r)).length=w.length+(sp.length+(jnS sp (v::r)).length):=by rw[b,AxS,AxS]
  have e2:u=(a++w++sp)++jnS sp (v::r):=by rw[f,b];simp
  have p:u.length=a.length+w.length+sp.length+(jnS sp (v::r)).length:=by rw[e2];simp only [AxS]
  rw[<-f];have no:∀j,a.length<=j->j<a.length+w.length->¬(free<=j/\j+(tx sp).length<=(tx u).length/\Builtin.Str.subAt (tx u) (tx sp) j=true):=λj h1 h2 z=>by
   obtain⟨_,n,c⟩:=z;rw[ZS,f,b,List.Fd h1,AzN Au]at c;exact hC.1 (j-a.length) Au (Aog c (.inr ⟨_,U⟩) (by rw[Ays];omega))
  have s:=X8 (limit:=limit) w.length a.length (sp.length+(jnS sp (v::r)).length+1) acc free no;rw[d,show w.length+(sp.length+(jnS sp (v::r)).length)+1=w.length+(sp.length+(jnS sp (v::r)).length+1) by exact Ar.f1,s];rw[show sp.length+(jnS sp (v::r)).length+1=((sp.length-1)+((jnS sp (v::r)).length+1))+1 by omega,AzA,AyX];have i:Builtin.Str.subAt (tx u) (tx sp) (a.length+w.length)=true:=by
   rw[ZS,f,b,<-Ay0,List.Fd (by rw[AxS];exact Ar.i1),AxS,AyJ,AyY];exact Azz
  have e:StrLaws.occBody (tx u) (tx sp) (tx u).length limit (a.length+w.length) (acc,free)=pure (ForInStep.yield (acc.push (a.length+w.length),a.length+w.length+(tx sp).length)):=by
   unfold StrLaws.occBody;rw[yF ⟨⟨⟨by show acc.size<limit;exact Ar.d9 hl,by show free<=_;exact Ar.e2 hf⟩,by rw[Ba,Ba];exact Ar.l8 p⟩,i⟩]
  rw[e];have q:=X8 (u:=u) (sp:=sp) (limit:=limit) (sp.length-1) (a.length+w.length+1) ((jnS sp (v::r)).length+1) (acc.push (a.length+w.length)) (a.length+w.length+(tx sp).length) (λj h1 h2 z=>by
   have:=z.1;rw[Ba]at this;omega)
  show((Id.run (forIn (List.range' (a.length+w.length+1) (sp.length-1+((jnS sp (v::r)).length+1))) (acc.push (a.length+w.length),a.length+w.length+(tx sp).length) (StrLaws.occBody (tx u) (tx sp) (tx u).length limit))).fst).toList=_;rw[q];have l:=Aif m (limit:=limit) (v::r) (a++w++sp) (acc.push (a.length+w.length)) (a.length+w.length+(tx sp).length) AB hC.2 (by rw[Ba];simp only [AxS];exact Ar.i1) (by rw[Array.size_push];omega);rw[<-e2]at l;have o:(a++w++sp).length=a.length+w.length+sp.length:=by simp only [AxS]
  rw[o]at l;rw[show a.length+w.length+1+(sp.length-1)=a.length+w.length+sp.length by omega,l,Array.toList_push,Ay0];rfl
where
 List.Fd {a b:NV} {j:Nat} (h:a.length<=j):(a++b).drop j=b.drop (j-a.length):=by
  rw[List.drop_append,List.drop_of_length_le h,List.nil_append]
theorem Akz{sp:NV}:∀(ws:NI)(a:NV),ws≠[]->StrLaws.partsFrom (tx (a++jnS sp ws)) sp.length a.length (psn sp.length a.length ws)=ws.map tx
 |[],_,h=>yG U h
 |[w],a,_=>by
  show[strSub (tx (a++w)) a.length (tx (a++w)).length]=[tx w]
  congr 1
  apply Str.ext';apply Array.toList_inj.mp;show((tx (a++w)).cps.extract a.length (tx (a++w)).length).toList=w;rw[AcB,Ba,Az0,AxS,Ayy Au]
 |w::v::r,a,_=>by
  have c:jnS sp (w::v::r)=w++(sp++jnS sp (v::r)):=rfl;have e2:a++jnS sp (w::v::r)=(a++w++sp)++jnS sp (v::r):=by rw[c];simp
  have b:=Akz (sp:=sp) (v::r) (a++w++sp) AB;have d:(a++w++sp).length=a.length+w.length+sp.length:=by simp only [AxS]
  rw[d]at b;show strSub (tx (a++jnS sp (w::v::r))) a.length (a.length+w.length)::StrLaws.partsFrom (tx (a++jnS sp (w::v::r))) sp.length (a.length+w.length+sp.length) (psn sp.length (a.length+w.length+sp.length) (v::r))=_;rw[Ayd]
  congr 1
  ·apply Str.ext';apply Array.toList_inj.mp;show((tx (a++jnS sp (w::v::r))).cps.extract a.length (a.length+w.length)).toList=w;rw[AcB,Az0,c,Nat.add_sub_cancel_left,Azz]
  ·rw[e2];exact b
theorem Amm(c:1<=sp.length)(b:∀z∈sp,z<256)(a:ws≠[])(e:Aie sp ws):Txt.split (tx (jnS sp ws)) (tx sp)=ws.map tx:=by
 have o:=Aif c (limit:=(tx (jnS sp ws)).length+1) ws [] #[] 0 a e (AxU _) (by rw[Ba];simp);have d:occurrences (tx (jnS sp ws)) (tx sp) 0 (tx (jnS sp ws)).length ((tx (jnS sp ws)).length+1)=psn sp.length 0 ws:=by
  rw[StrLaws.occ_eq,Azv,Ba];simp only [List.nil_append,Ayu,Ba]at o;exact o
 have one:psn sp.length 0 ws=[]->[tx (jnS sp ws)]=ws.map tx:=λz=>by
  match ws,a,z with
  |[w],_,_=>rfl
  |w::v::r,_,z=>simp[psn]at z
 unfold Txt.split;split
 ·rename_i h;refine one ?_
  match ws,a with
  |[w],_=>rfl
  |w::v::r,_ =>
   exfalso;rcases Bool.or_eq_true_iff.mp h with h|h
   ·have:=yN h;rw[Ba,Ba]at this;simp only [jnS,AxS]at this;omega
   ·have:=yN h;rw[At9 b]at this;have:=Aoe (tx (jnS sp (w::v::r)));omega
 ·split
  ·rename_i h;rw[List.isEmpty_iff,d]at h;exact one h
  ·rw[StrLaws.partsBetween_eq,d,Ba];exact Akz ws [] a
theorem Aoh{sp:NV}(a:1<=sp.length):∀(ws:NI),ws.length<=(jnS sp ws).length+1
 |[]=>AB
 |[_]=>AB
 |w::v::r=>by
  have:=Aoh a (v::r);simp only [jnS,AxS,AxX]at *;omega
inductive Ari (x:V)(vs:LI)(H:Hp)(Q:VK):Prop
|mk(sp:NV)(ws:NI)(_:x=.str (tx (jnS sp ws)))(_:vs=[.str (tx sp)])(_:1<=sp.length)(_:(∀z∈sp,z<256))(_:(jnS sp ws).length+2<=sizeLine)(_:ws≠[])(_:Aie sp ws)(_:∀l,H l=none->Q (.ref l) (upd H l (.lst (vS ws))))
theorem Vc:MtR X "str.split" Ari:=by
 intro pins s σ H x vs v us Q I z n h;obtain⟨sp,ws,rfl,rfl,c,f,i,p,no,q⟩:=h;obtain⟨t,rfl⟩:=z;obtain⟨A,rfl,r⟩:=n.one;obtain⟨t',rfl⟩:=r;have es:=Amm c f p no;have j:=Aoh c ws;generalize jnS sp ws=u at es i j ⊢;have a:(tx u).length+2<=sizeLine:=by rw[Ba];exact i
 have fin:∀(l:List (Str×Tok))(tk:Nat),l.map (·.1)=Txt.split (tx u) (tx sp)->EP X pins σ Q (.ref s.heap.objs.size) {s with heap:=s.heap.push {cls:=.type "list",data:=.seq (strValues l).toArray},toks:=tk}:=λl tk e =>
  ⟨.ref s.heap.objs.size,_,I.laid (t':=tk) (λb o e=>zB _ e) (AxU _) (show Gp X.prog X.w _ _ _ (.lst (vS ws)) from⟨by rw[Bc];exact Ar.b8 j (Ar.c3 i),_,_,ZR (e.trans es),zD _ U⟩),U,q _ (I.hok.fresh (AxU _))⟩;have m:((tx sp).length == 0)=false:=by rw[Ba,zZ];exact Ar.k3 c
 have hn:(partsBetween (tx u) (occurrences (tx u) (tx sp) 0 (tx u).length ((tx u).length+1)) ((tx sp)).length).length<=sizeLine:=by
  have y:=StrLaws.occ_length_le (tx u) (tx sp) 0 (tx u).length ((tx u).length+1);rw[length_partsBetween];exact Ar.c1 y a
 cases h1:(decide ((tx u).length<((tx sp)).length) ||decide (Builtin.Str.strKind (tx u)<Builtin.Str.strKind (tx sp)))
 ·cases d:(occurrences (tx u) (tx sp) 0 (tx u).length ((tx u).length+1)).isEmpty
  ·refine call_meets zY (typeIs_str _ _ _) F.entry_str_split (F.args_str_split_2 _ _) (meets_str_split_sep (tx u) (tx sp) t t' h1 m d (by exact Ar.d7 a) hn) ?_;show wants (EP X pins σ Q) _ _ {s with toks:=_,heap:=s.heap.push {cls:=.type "list",data:=.seq (strsFrom s.toks (partsBetween (tx u) (occurrences (tx u) (tx sp) 0 (tx u).length ((tx u).length+1)) ((tx sp)).length)).toArray} };rw[strsFrom_eq];exact fin (numbered s.toks _) _ ((numbered_texts _ _).trans ((yE (yT h1)).trans (yE (yT d))).symm)
  ·exact call_meets zY (typeIs_str _ _ _) F.entry_str_split (F.args_str_split_2 _ _) (meets_str_split_not_found (tx u) (tx sp) t t' h1 m d)
    (fin [(tx u,t)] s.toks ((yE (yT h1)).trans (yF d)).symm)
 ·exact call_meets zY (typeIs_str _ _ _) F.entry_str_split (F.args_str_split_2 _ _) (meets_str_split_cannot_occur (tx u) (tx sp) t t' h1)
   (fin [(tx u,t)] s.toks (yF h1).symm)
theorem ZV{w:NV}(h:∀i,w[i]?=some 32->w[i+1]?≠some 47):Cln [32,47,32] w:=λi hi e=>by
 have b:(w.drop i++[32,47,32])[0]?=some 32:=by
  have:=congrArg (λl:NV=>l[0]?) e
  simpa [Az1]using this
 have a:(w.drop i++[32,47,32])[1]?=some 47:=by
  have:=congrArg (λl:NV=>l[1]?) e
  simpa [Az1]using this
 rw[Ayo (by rw[Ays];omega),AyS,Azy]at b;by_cases c:i+1<w.length
 ·rw[Ayo (by rw[Ays];omega),AyS]at a;exact h i b a
 ·have:(w.drop i).length=1:=by rw[Ays];omega
  rw[Aym (by exact Ar.d2 this),this]at a;simp at a
theorem Aoi{w:NV}(h:∀i,w[i]?=some 44->w[i+1]?≠some 32):Cln [44,32] w:=λi hi e=>by
 have b:(w.drop i++[44,32])[0]?=some 44:=by
  have:=congrArg (λl:NV=>l[0]?) e
  simpa [Az1]using this
 have a:(w.drop i++[44,32])[1]?=some 32:=by
  have:=congrArg (λl:NV=>l[1]?) e
  simpa [Az1]using this
 rw[Ayo (by rw[Ays];omega),AyS,Azy]at b;by_cases c:i+1<w.length
 ·rw[Ayo (by rw[Ays];omega),AyS]at a;exact h i b a
 ·have:(w.drop i).length=1:=by rw[Ays];omega
  rw[Aym (by exact Ar.d2 this),this]at a;simp at a
end L2
namespace Mine
open PySem L2
variable {a n i b q j m d:Nat}{o v:Int}{es ks:NF}{r y x rs:NI}{ps:List (NI)}{z u us:NV}{as:List Arg}{ts:List Nd}
def Vr (a b:Int):NF:=if a<b then Ab1 (a+1) 1 (b-a).toNat else Ab1 (a-1) (-1) (a-b).toNat
def Agh (z:Int):Int:=if z<0 then -z else z
def go (a:Int):NF->NF
 |[]=>[]
 |b::r=>Vr a b++go b r
def Aig:NF->NF
 |[]=>[]
 |s::r=>s::go s r
def lst (a:Int):NF->Int
 |[]=>a
 |b::r=>lst b r
theorem AbX:∀(a:Int)(r:NF)(b:Int),go a (r++[b])=go a r++Vr (lst a r) b
 |a,[],b=>by simp[go,lst]
 |a,c::r,b=>by rw[Ay9,go,AbX c r b,go,lst,Ay0]
theorem lst_snoc:∀(a:Int)(r:NF)(b:Int),lst a (r++[b])=b
 |a,[],b=>rfl
 |a,c::r,b=>by rw[Ay9,lst,lst_snoc c r b]
theorem Aih(a c:Int)(n:Nat):(Ab1 a c n).length=n:=by unfold Ab1;rw[AxR,Ayw]
theorem AcC(a b:Int):((Vr a b).length:Int)=Agh (b-a):=by
 unfold Vr Agh;split
 ·rw[Aih,yE Au];omega
 ·rw[Aih];split<;>omega
theorem Aii{a c:Int}(h:i<n):(Ab1 a c n)[i]?=some (a+(i:Int)*c):=by unfold Ab1;rw[AxZ,Azk h];rfl
theorem Aoj{a b:Int}(h1:1<=q)(h2:(q:Int)<=Agh (b-a)):(Vr a b)[q-1]?=some (a+(if b-a<0 then -1 else 1)*(q:Int)):=by
 unfold Vr;unfold Agh at h2;by_cases c:a<b
 ·rw[yF c,Aii (by rw[yE Au]at h2;omega),yE Au]
  congr 1
  omega
 ·rw[yE c];by_cases d:b-a<0
  ·rw[yF d]at h2 ⊢;rw[Aii Au]
   congr 1
   omega
  ·rw[yE d]at h2;omega
theorem AcD{l r:NF}(h:r≠[]):(l++r).getLast?=r.getLast?:=by
 rw[Azm];cases e:r.getLast? with
 |none=>exact yG (List.getLast?_eq_none_iff.mp e) h
 |some z=>rfl
theorem Afj{a b:Int}(h:a≠b):(Vr a b).getLast?=some b:=by
 have c:=AcC a b;have pos:0<(Vr a b).length:=by unfold Agh at c;split at c<;>omega
 rw[List.getLast?_eq_getElem?];have e:=Aoj (a:=a) (b:=b) (q:=(Vr a b).length) pos Au;rw[e]
 congr 1
 rw[c];unfold Agh;split<;>omega
theorem Aok(a:Int):Vr a a=[]:=by
 have:=AcC a a;unfold Agh at this;have h:(Vr a a).length=0:=by split at this<;>omega
 exact Az9 h
theorem Ak0:∀(l:NF)(a:Int)(r:NF),l.getLast?=some a->(l++go a r).getLast?=some (lst a r)
 |l,a,[],h=>by simpa [go,lst]using h
 |l,a,b::r,h=>by
  rw[go,lst,<-Ay0];refine Ak0 _ b r ?_;by_cases e:a=b
  ·rw[e,Aok,Ayr,<-e];exact h
  ·rw[AcD (λz=>by have:=Afj e;rw[z]at this;cases this)];exact Afj e
theorem Amn(s:Int)(r:NF):(s::go s r).getLast?=some (lst s r):=Ak0 [s] s r U
def dec (n:Nat):NV:=(Str.ofString (toString (n:Int))).cps.toList
theorem ZW(n:Nat):Str.ofString (toString (n:Int))=tx (dec n):=(Avu _).symm
def Asr (n:Nat):Bool:=(dec n).all (λc=>decide (48<=c/\c<=57)) && decide (1<=(dec n).length/\(dec n).length<=2) && decide (¬((dec n).length=2/\(dec n)[0]?=some 48)) && decide (PySem.NumText.digitsVal (dec n)=n)
theorem AtC:∀n,n<100->Asr n=true:=At
structure Dec (n:Nat):Prop where
 dg:∀c∈dec n,48<=c/\c<=57
 l1:1<=(dec n).length
 l2:(dec n).length<=2
 z:¬((dec n).length=2/\(dec n)[0]?=some 48)
 v:PySem.NumText.digitsVal (dec n)=n
theorem dec_is(h:n<100):Dec n:=by have:=AtC n h;unfold Asr at this;simp only [AyM,decide_eq_true_eq,Azx]at this;obtain⟨⟨⟨h1,h2⟩,h3⟩,a⟩:=this;exact⟨h1,h2.1,h2.2,h3,a⟩
def tails:NV->NV
 |[]=>[]
 |n::r=>45::(dec n++tails r)
def AvH:NV->NV
 |[]=>[]
 |n::r=>dec n++tails r
inductive Nd where
 |nam (w:NV)
 |num (n:Nat)
 |run (r:NV)
 |node (w:NV) (ts:List Nd)
namespace Pat
def letter(c:Nat):Bool:=decide (97<=c/\c<=122)
def Hg (c:Nat):Bool:=decide (48<=c/\c<=57)
def knot(c:Nat):Bool:=decide (c=35\/c=46)
def AvI (f:NV):Bool:=decide ((1<=f.length/\f.length<=2)/\¬(f.length=2/\f[0]?=some 48))
def wants(w:NV):Option (NV):=
 if w=[116,119,105,108,108]\/w=[115,97,116,105,110] then some [110,110]
 else if w=[98,101,115,105,100,101]\/w=[97,98,111,118,101]\/w=[108,97,121] then some [112,112]
 else if w=[109,105,114,114,111,114]\/w=[117,112,101,110,100]\/w=[98,97,99,107]\/w=[113,117,97,114,116,101,114] then some [112]
 else if w=[116,105,108,101] then some [112,110,110]
 else if w=[98,108,111,99,107,115] then some [112,112,112]
 else none
def Ge:NV:=[114,111,119,115]
def isWord(w:NV):Bool:=decide (w=Ge) || (wants w).isSome
def isName(w:NV):Bool:=decide (1<=w.length/\w.length<=20) && w.all letter && !isWord w
end Pat
def Sg (c:Nat):Prop:=c=35\/c=46
structure Cl (cl:NI)(m n:Nat):Prop where
 hn:cl.length=n
 hm:∀t∈cl,t.length=m
 sg:∀t∈cl,∀c∈t,Sg c
 m1:1<=m
 m40:m<=40
 n1:1<=n
 n40:n<=40
def flip(c:Nat):Nat:=if c=35 then 46 else 35
theorem Ak1(c:Nat):Sg (flip c):=by unfold flip Sg;split<;>simp
def back(cl:NI):NI:=cl.map λt=>t.reverse.map flip
def col (cl:NI)(e:Nat):NV:=cl.map λt=>t.getD e 0
def AcE (cl:NI)(m:Nat):NI:=(List.range m).map λe=>(col cl e).map flip
theorem Cl.back{cl:NI}{m n:Nat}(h:Cl cl m n):Cl (back cl) m n where
 hn:=by unfold Mine.back;rw[AxR];exact h.hn
 hm:=λt a=>by
  obtain⟨s,b,rfl⟩:=yB.mp a;simp[h.hm s b]
 sg:=λt a c hc=>by
  obtain⟨s,b,rfl⟩:=yB.mp a;obtain⟨d,_,rfl⟩:=yB.mp hc;exact Ak1 d
 m1:=h.m1
 m40:=h.m40
 n1:=h.n1
 n40:=h.n40
theorem Cl.AcE{cl:NI}{m n:Nat}(h:Cl cl m n):Cl (AcE cl m) n m where
 hn:=by unfold Mine.AcE;simp
 hm:=λt a=>by
  obtain⟨e,_,rfl⟩:=yB.mp a;simp[col,h.hn]
 sg:=λt a c hc=>by
  obtain⟨e,_,rfl⟩:=yB.mp a;obtain⟨d,_,rfl⟩:=yB.mp hc;exact Ak1 d
 m1:=h.n1
 m40:=h.n40
 n1:=h.m1
 n40:=h.m40
def wid (cl:NI)(ac:Nat):NI:=cl.map λt=>(List.replicate ac t).flatten
def til (cl:NI)(ac al:Nat):NI:=(List.replicate al (wid cl ac)).flatten
theorem AbY{α:Type}(l:List α):∀k,((List.replicate k l).flatten).length=k*l.length
 | 0=>AB
 |k+1=>by rw[Ayz,Ayv,AxS,AbY l k,Nat.add_mul,Nat.one_mul];omega
theorem XC{α:Type}{l:List α}{x:α}:∀{k},x∈(List.replicate k l).flatten->x∈l
 | 0,h=>by simp at h
 |k+1,h=>by
  rw[Ayz,Ayv]at h;rcases zG.mp h with h|h
  ·exact h
  ·exact XC h
theorem Ak2{α:Type}(l:List α):∀(k i:Nat),i<k*l.length->((List.replicate k l).flatten)[i]?=l[i%l.length]?
 | 0,i,h=>by simp at h
 |k+1,i,h=>by
  rw[Ayz,Ayv];by_cases hi:i<l.length
  ·rw[Ayo hi,AzF hi]
  ·rw[Nat.add_mul,Nat.one_mul]at h;rw[Aym Au,Ak2 l k (i-l.length) Au]
   congr 1
   exact(Nat.mod_eq_sub_mod Au).symm
theorem Cl.til{cl:NI}{m n a al:Nat}(h:Cl cl m n)(h1:1<=a)(h2:1<=al)(h3:a*m<=40)(e:al*n<=40):Cl (til cl a al) (a*m) (al*n) where
 hn:=by unfold Mine.til;rw[AbY];unfold wid;rw[AxR,h.hn]
 hm:=λt b=>by
  obtain⟨s,d,rfl⟩:=yB.mp (XC b);rw[AbY,h.hm s d]
 sg:=λt b c hc=>by
  obtain⟨s,d,rfl⟩:=yB.mp (XC b);exact h.sg s d c (XC hc)
 m1:=Nat.mul_pos h1 h.m1
 m40:=h3
 n1:=Nat.mul_pos h2 h.n1
 n40:=e
def plc (os:NF)(k:Nat):Nat:=(os.take k).count (os.getD k 0)
theorem WN{os:NF}{k:Nat}(h:k<os.length)(z:Int):(os.take (k+1)).count z=(os.take k).count z+if os.getD k 0=z then 1 else 0:=by
 rw[Aya,Az2,AxT h];have e:os.getD k 0=os[k]:=by simp[List.getD,h]
 rw[e];simp only [AzG,List.count_cons,List.count_nil,beq_iff_eq];simp
theorem count_le{os:NF}(k:Nat)(z:Int):(os.take k).count z<=os.count z:=List.Sublist.count_le _ (List.take_sublist _ _)
theorem Aj4{os:NF}{k:Nat}(h:k<os.length):plc os k<os.count (os.getD k 0):=by have h1:=WN h (os.getD k 0);rw[yF rfl]at h1;have h2:=count_le (os:=os) (k+1) (os.getD k 0);unfold plc;omega
def XD (o e:Int)(own:NV)(p:Nat):Nat:=if o=e then own.getD p 0 else if e<o then 35 else 46
def Gs (ps:List (NI))(es:NF)(o:Int)(b:Nat):NV:=(List.range es.length).map λk=>XD o (es.getD k 0) ((ps.getD o.toNat []).getD b []) (plc es k)
def lay (ps:List (NI))(es os:NF):NI:=(List.range os.length).map λj=>Gs ps es (os.getD j 0) (plc os j)
theorem Lq(ps:List (NI))(es:NF)(o:Int)(b:Nat):(Gs ps es o b).length=es.length:=by unfold Gs;rw[AxR,Ayw]
theorem WQ{k:Nat}(h:k<es.length):(Gs ps es o b)[k]?=some (XD o (es.getD k 0) ((ps.getD o.toNat []).getD b []) (plc es k)):=by unfold Gs;rw[AxZ,Azk h];rfl
theorem Agi(ps:List (NI))(es os:NF):(lay ps es os).length=os.length:=by unfold lay;rw[AxR,Ayw]
theorem Ak3{os:NF}(h:j<os.length):(lay ps es os)[j]?=some (Gs ps es (os.getD j 0) (plc os j)):=by unfold lay;rw[AxZ,Azk h];rfl
structure Aj5 (ps:List (NI))(es os:NF):Prop where
 e:∀z∈es,0<=z/\z<(ps.length:Int)
 o:∀z∈os,0<=z/\z<(ps.length:Int)
 hn:∀i,i<ps.length->(ps.getD i []).length=os.count (i:Int)
 hm:∀i,i<ps.length->∀t∈ps.getD i [],t.length=es.count (i:Int)/\∀c∈t,Sg c
 e1:1<=es.length
 e40:es.length<=40
 o1:1<=os.length
 o40:os.length<=40
theorem getD_mem{os:NF}{k:Nat}(h:k<os.length):os.getD k 0∈os:=by
 have e:os.getD k 0=os[k]:=by simp[List.getD,h]
 rw[e];exact Ayp h
theorem Aj5.own{os:NF}(C:Aj5 ps es os)(h:j<os.length):(os.getD j 0).toNat<ps.length/\plc os j<(ps.getD (os.getD j 0).toNat []).length:=by
 have h1:=C.o _ (getD_mem h);have h2:(os.getD j 0).toNat<ps.length:=Au
 refine⟨h2,?_⟩;rw[C.hn _ h2,show(((os.getD j 0).toNat:Nat):Int)=os.getD j 0 by omega];exact Aj4 h
theorem Aj5.row{os:NF}(C:Aj5 ps es os)(h:i<ps.length)(a:b<(ps.getD i []).length):((ps.getD i []).getD b []).length=es.count (i:Int):=by
 have e:(ps.getD i []).getD b []=(ps.getD i [])[b]:=by rw[Ay2,AxT a];rfl
 rw[e];exact(C.hm i h _ (Ayp a)).1
structure Own (es:NF)(z:Int)(i:Nat)(ms:NV):Prop where
 len:ms.length=(es.take i).count z
 lt:∀m∈ms,m<i
 at':∀a m,ms[a]?=some m->es.getD m 0=z/\(es.take m).count z=a
def Rs (ks:NF):Prop:=(∀(i:Nat)(a b:Int),ks[i]?=some a->ks[i+1]?=some b->a<b)/\∀k∈ks,0<=k/\k<40
theorem AtD:Rs []:=⟨λi a b h=>by simp at h,λk h=>by cases h⟩
theorem AtE{z:Int}(h:Rs ks)(j:∀k∈ks,k<z)(l:0<=z)(h1:z<40):Rs (ks++[z]):=by
 refine⟨λi a b d c=>?_,λk hk=>?_⟩
 ·by_cases hi:i+1<ks.length
  ·rw[Ayo Au]at d;rw[Ayo hi]at c;exact h.1 i a b d c
  ·by_cases f:i<ks.length
   ·rw[Ayo f]at d;rw[Aym Au]at c;have e:i+1-ks.length=0:=Au
    rw[e]at c;have:b=z:=by simpa using c.symm
    rw[this];exact j a (Ayb d)
   ·rw[Aym Au]at c;have:([z]:NF)[i+1-ks.length]?=none:=by
     apply AyK;simp;omega
    rw[this]at c;cases c
 ·rcases zG.mp hk with h2|h2
  ·exact h.2 k h2
  ·rw[zF.mp h2];exact⟨l,h1⟩
structure Ft (th:NF)(tss:NA)(tr:NF):Prop where
 m1:1<=th.length
 m40:th.length<=40
 t1:1<=tss.length
 t40:tss.length<=40
 n1:1<=tr.length
 n40:tr.length<=40
 hth:∀v∈th,0<=v/\v<40
 hti:∀ks∈tss,Rs ks
 htr:∀v∈tr,0<=v/\v<tss.length
def shd (th ks:NF):NV:=th.map λs=>if s∈ks then 35 else 46
def wv (th:NF)(tss:NA)(tr:NF):NI:=tr.map λv=>shd th (tss.getD v.toNat [])
theorem Arj(th ks:NF):(shd th ks).length=th.length:=by unfold shd;rw[AxR]
theorem Aj6(th:NF)(tss:NA)(tr:NF):(wv th tss tr).length=tr.length:=by unfold wv;rw[AxR]
theorem Ark{tss:NA}(h:0<=v/\v<tss.length):tss[v.toNat]?=some (tss.getD v.toNat []):=by
 have:v.toNat<tss.length:=Au
 rw[Ay2,AxT this];rfl
section
variable {α β:Type} [DecidableEq α] [DecidableEq β]
def unl (l:List α):List α:=l.foldl (λf x=>if x∈f then f else f++[x]) []
def ix (l:List α)(x:α):Nat:=@List.idxOf α instBEqOfDecidableEq x l
def num (l:List α):NV:=l.map λx=>ix (unl l) x
end
theorem Lr{α β:Type}{f:α->List β}{h:Nat}:∀xs:List α,(∀x∈xs,(f x).length=h)->(xs.flatMap f).length=xs.length*h
 |[],_=>AB
 |x::xs,k=>by
  rw[AzH,AxS,k x AxW,Lr xs λy a=>k y (AxY _ a),AxX,Nat.succ_mul];omega
theorem XF{α β:Type}{f:α->List β}{h:Nat}:∀(xs:List α),(∀x∈xs,(f x).length=h)->∀i s,s<h->(xs.flatMap f)[i*h+s]?=xs[i]?.bind λx=>(f x)[s]?
 |[],_,i,s,hs=>AB
 |x::xs,k,0,s,hs=>by
  rw[AzH,Nat.zero_mul,Nat.zero_add,Ayo (by rw[k x AxW];exact hs)];rfl
 |x::xs,k,i+1,s,hs=>by
  have kx:=k x AxW;rw[AzH,Aym (by rw[kx,Nat.succ_mul];omega),kx,show(i+1)*h+s-h=i*h+s by rw[Nat.succ_mul];omega,
   XF xs (λy a=>k y (AxY _ a)) i s hs,List.getElem?_cons_succ]
def fil (pr one other:NI):NI:=pr.flatMap λu=>(one.zip other).map λq=>u.flatMap λc=>if c=35 then q.1 else q.2
section
variable {pr one other:NI}{w h:Nat} (C:Cl pr m n) (C1:Cl one w h) (C2:Cl other w h)
include C C1 C2
theorem Arl:(fil pr one other).length=n*h:=by unfold fil;rw[Lr (h:=h) pr λx _=>by rw[AxR,List.length_zip,C1.hn,C2.hn,Azb],C.hn]
theorem Aol{a b:NV}(e:a∈one)(d:b∈other):(u.flatMap λc=>if c=35 then a else b).length=u.length*w:=Lr u λx _=>by split;exact C1.hm a e;exact C2.hm b d
theorem AtF(o:m*w<=40)(hn:n*h<=40):Cl (fil pr one other) (m*w) (n*h):=by
 have f:∀r∈fil pr one other,∃u∈pr,∃a∈one,∃b∈other,r=u.flatMap λc=>if c=35 then a else b:=λr e=>by
  unfold fil at e;obtain⟨u,i,e⟩:=List.mem_flatMap.mp e;obtain⟨⟨a,b⟩,p,rfl⟩:=yB.mp e;have z:=Azh p;exact⟨u,i,a,z.1,b,z.2,U⟩
 refine⟨Arl C C1 C2,λr e=>?_,λr e c hc=>?_,Nat.mul_pos C.m1 C1.m1,o,Nat.mul_pos C.n1 C1.n1,hn⟩
 ·obtain⟨u,i,a,l,b,j,rfl⟩:=f r e;rw[Aol C C1 C2 l j,C.hm u i]
 ·obtain⟨u,i,a,l,b,j,rfl⟩:=f r e;obtain⟨d,q,hc⟩:=List.mem_flatMap.mp hc;split at hc
  ·exact C1.sg a l c hc
  ·exact C2.sg b j c hc
end
def twW:NV:=[116,119,105,108,108]
def saW:NV:=[115,97,116,105,110]
def beW:NV:=[98,101,115,105,100,101]
def abW:NV:=[97,98,111,118,101]
def miW:NV:=[109,105,114,114,111,114]
def upW:NV:=[117,112,101,110,100]
def baW:NV:=[98,97,99,107]
def quW:NV:=[113,117,97,114,116,101,114]
def tiW:NV:=[116,105,108,101]
def blW:NV:=[98,108,111,99,107,115]
def laW:NV:=[108,97,121]
def twl (m n:Nat)(y x:Nat):Nat:=if (x+(m+n)-y)%(m+n)<m then 35 else 46
def twT (m n y:Nat):NV:=(List.range (m+n)).map (twl m n y)
def Ab2 (m n:Nat):NV:=List.replicate m 35++List.replicate n 46
theorem Aij:(Ab2 m n).length=m+n:=by unfold Ab2;rw[AxS,Ayx,Ayx]
theorem Ak4(h:i<(Ab2 m n).length):(Ab2 m n)[i]=if i<m then 35 else 46:=by
 unfold Ab2 at h ⊢;by_cases c:i<m
 ·rw[yF c,List.getElem_append_left (by rw[Ayx];exact c),List.getElem_replicate]
 ·rw[yE c,List.getElem_append_right (by rw[Ayx];lia),List.getElem_replicate]
theorem AtG{y:Nat}(d:y<m+n):(Ab2 m n).drop (m+n-y)++(Ab2 m n).take (m+n-y)=twT m n y:=by
 have fl:(Ab2 m n).length=m+n:=Aij;apply List.ext_getElem
 ·unfold twT;rw[AxS,Ays,Ayc,fl,AxR,Ayw];lia
 ·intro x h1 h2;have b:x<m+n:=by
   unfold twT at h2;rw[AxR,Ayw]at h2;exact h2
  have a:((Ab2 m n).drop (m+n-y)).length=y:=by rw[Ays,fl];lia
  have e2:(twT m n y)[x]=twl m n y x:=by simp only [twT,List.getElem_map,List.getElem_range]
  rw[e2];unfold twl;by_cases c:x<y
  ·rw[List.getElem_append_left (by rw[a];exact c),List.getElem_drop,Ak4,show m+n-y+x=x+(m+n)-y by lia,AzF (show x+(m+n)-y<m+n by lia)]
  ·rw[List.getElem_append_right (by rw[a];lia),List.getElem_take,Ak4,a];have e:(x+(m+n)-y)%(m+n)=x-y:=by
    rw[show x+(m+n)-y=(x-y)+(m+n) by lia,Nat.add_mod_right];exact AzF AA
   rw[e]
theorem rep1(n c:Nat):(List.replicate n [c]).flatten=List.replicate n c:=by
 induction n with
 |zero=>rfl
 |succ n a=>rw[Ayz,Ayv,a,Ayz];rfl
def stT (s o:Nat):NV:=(List.range s).map λx=>if x=o then 35 else 46
def saT (s p y:Nat):NV:=stT s (y*p%s)
def Axg (m n i:Nat):List Bool:=(List.range i).map λj=>decide (m%(2+j)=0) && decide (n%(2+j)=0)
def cop (m n k:Nat):Bool:=(Axg m n (k-1)).any id
def Pri (s p:Nat):Prop:=1<=p/\p<s/\cop s p p=false
noncomputable instance (s p:Nat):Decidable (Pri s p):=inferInstanceAs (Decidable (_/\_/\_))
inductive Rf where
 |nop
 |big
 |unk
inductive Res where
 |ok (rows:NI)
 |no (f:Rf)
def wdt (x:NI):Nat:=(x.headD []).length
def AcF (rs:NI):Res:=if (rs.map λr=>decide (¬r.length=wdt rs)).any id=true then .no .nop else if 40<wdt rs\/40<rs.length then .no .big else .ok rs
def QB (a b:Nat):Res:=if a<1\/b<1 then .no .nop else if 40<a+b then .no .big else .ok ((List.range (a+b)).map (twT a b))
def Aj7 (m n:Nat):Res:=if ¬Pri m n then .no .nop else if 40<m then .no .big else .ok ((List.range m).map (saT m n))
def QC (x y:NI):Res:=if ¬x.length=y.length then .no .nop else if 40<wdt x+wdt y\/40<x.length then .no .big else .ok (List.zipWith (·++·) x y)
def WR (x y:NI):Res:=if ¬wdt x=wdt y then .no .nop else if 40<wdt x\/40<x.length+y.length then .no .big else .ok (x++y)
def Aj8 (z:NV)(x:NI):Res:=if z=miW then .ok (x.map List.reverse) else if z=upW then .ok x.reverse else if z=baW then .ok (back x) else .ok (AcE x (wdt x))
def AaB (x:NI)(a b:Nat):Res:=if a<1\/b<1 then .no .nop else if 40<wdt x*a\/40<x.length*b then .no .big else .ok (til x a b)
def Agj (p x y:NI):Res:=if ¬wdt x=wdt y\/¬x.length=y.length then .no .nop else if 40<wdt p*wdt x\/40<p.length*x.length then .no .big else .ok (fil p x y)
def Iw (k:Nat):NF:=(List.replicate k [(0:Int),1]).flatten
def Aj9 (x y:NI):Res:=if ¬wdt x=wdt y\/¬x.length=y.length then .no .nop else if 40<2*wdt x\/40<2*x.length then .no .big else .ok (lay [x,y] (Iw (wdt x)) (Iw x.length))
inductive Arg where
 |num (n:Nat)
 |run (r:NV)
 |cl (x:NI) (z:NV)
def runOf:Arg->NV
 | .run r=>r
 |_=>[]
def made(z:NV)(as:List Arg):Res:=
 if z=Pat.Ge then AcF (as.map runOf) else
 match as with
 |[.num a,.num b]=>if z=twW then QB a b else Aj7 a b
 |[.cl x _]=>Aj8 z x
 |[.cl x _,.cl y _]=>if z=beW then QC x y else if z=abW then WR x y else Aj9 x y
 |[.cl x _,.num a,.num b]=>AaB x a b
 |[.cl x _,.cl y _,.cl w _]=>Agj x y w
 |_=>.no .nop
def cj:NI->NV
 |[]=>[]
 |y::ys=>y++(ys.map λy=>[44]++y).flatten
def wrA:Arg->NV
 | .num n=>dec n
 | .run r=>r
 | .cl _ z=>z
def wz (z:NV)(ys:NI):NV:=z++(40::(cj ys++[41]))
def wr:Nat->Nd->NV
 |_,.nam z=>z
 |_,.num n=>dec n
 |_,.run r=>r
 | 0,.node _ _=>[]
 |d+1,.node z ts=>wz z (ts.map (wr d))
def arg (sub:Nd->Res)(wrt:Nd->NV):Nd->Rf ⊕ Arg
 | .num n=>.inr (.num n)
 | .run r=>.inr (.run r)
 | .nam z=>match sub (.nam z) with
  | .ok x=>.inr (.cl x (wrt (.nam z)))
  | .no f=>.inl f
 | .node z ts=>match sub (.node z ts) with
  | .ok x=>.inr (.cl x (wrt (.node z ts)))
  | .no f=>.inl f
def args(sub:Nd->Res)(wrt:Nd->NV):List Nd->Rf ⊕ List Arg
 |[]=>.inr []
 |x::ts=>match arg sub wrt x with
  | .inl f=>.inl f
  | .inr a=>match args sub wrt ts with
   | .inl f=>.inl f
   | .inr as=>.inr (a::as)
abbrev Kns:=List (NV×NI)
def known(kn:Kns)(z:NV):Res:=match kn.find? λp=>decide (p.1=z) with
 |some p=>.ok p.2
 |none=>.no .unk
def out (kn:Kns):Nat->Nd->Res
 |_,.nam z=>known kn z
 |d+1,.node z ts=>match args (out kn d) (wr d) ts with
  | .inl f=>.no f
  | .inr as=>made z as
 |_,_=>.no .nop
theorem Agk{kn:Kns}:out kn d (.nam z)=known kn z:=by cases d<;>rfl
theorem AjA:wr d (.nam z)=z:=by cases d<;>rfl
theorem Aom:wr d (.num n)=dec n:=by cases d<;>rfl
theorem Aon{r:NV}:wr d (.run r)=r:=by cases d<;>rfl
theorem Ak5{kn:Kns}{d:Nat}:∀{ts:List Nd} {as:List Arg},args (out kn d) (wr d) ts=.inr as->as.map wrA=ts.map (wr d)
 |[],as,h=>by cases h;rfl
 |x::ts,as,h=>by
  unfold args at h;have c:∀a,arg (out kn d) (wr d) x=.inr a->wrA a=wr d x:=λa b=>by
   cases x with
   |num n=>cases b;exact Aom.symm
   |run r=>cases b;exact Aon.symm
   |nam z =>
    unfold arg at b;dsimp only at b;cases e:out kn d (.nam z) with
    |ok x=>rw[e]at b;cases b;rfl
    |no f=>rw[e]at b;cases b
   |node z ts =>
    unfold arg at b;dsimp only at b;cases e:out kn d (.node z ts) with
    |ok x=>rw[e]at b;cases b;rfl
    |no f=>rw[e]at b;cases b
  cases e:arg (out kn d) (wr d) x with
  |inl f=>rw[e]at h;cases h
  |inr a =>
   rw[e]at h;dsimp only at h;cases e2:args (out kn d) (wr d) ts with
   |inl f=>rw[e2]at h;cases h
   |inr i =>
    rw[e2]at h;cases h;rw[Ayd,Ayd,c a e,Ak5 e2]
theorem AcG{sub:Nd->Res}{b:Nd->NV}:∀{ts:List Nd} {as:List Arg},args sub b ts=.inr as->as.length=ts.length
 |[],as,h=>by cases h;rfl
 |x::ts,as,h=>by
  unfold args at h;cases e:arg sub b x with
  |inl f=>rw[e]at h;cases h
  |inr a =>
   rw[e]at h;dsimp only at h;cases e2:args sub b ts with
   |inl f=>rw[e2]at h;cases h
   |inr c=>rw[e2]at h;cases h;rw[AxX,AxX,AcG e2]
theorem Afk{sub:Nd->Res}{c:Nd->NV}{x:Nd}:∀{ts:List Nd} {as:List Arg},args sub c ts=.inr as->args sub c (ts++[x])=match arg sub c x with
  | .inl f=>.inl f
  | .inr a=>.inr (as++[a])
 |[],as,h=>by
  cases h;rw[List.nil_append];unfold args;cases arg sub c x with
  |inl f=>rfl
  |inr a=>rfl
 |y::ts,as,h=>by
  unfold args at h;rw[Ay9]
  conv=>lhs;unfold args
  cases e:arg sub c y with
  |inl f=>rw[e]at h;cases h
  |inr a =>
   rw[e]at h;dsimp only at h ⊢;cases e2:args sub c ts with
   |inl f=>rw[e2]at h;cases h
   |inr d =>
    rw[e2]at h;cases h;rw[Afk e2];cases arg sub c x with
    |inl f=>rfl
    |inr b=>rfl
theorem Ak6{sub:Nd->Res}{b:Nd->NV}{f:Rf}:∀{ts us:List Nd},args sub b ts=.inl f->args sub b (ts++us)=.inl f
 |[],us,h=>by cases h
 |y::ts,us,h=>by
  unfold args at h;rw[Ay9];unfold args;cases e:arg sub b y with
  |inl f=>rw[e]at h;exact h
  |inr a =>
   rw[e]at h;dsimp only at h ⊢;cases e2:args sub b ts with
   |inl f=>rw[e2]at h;rw[Ak6 e2];exact h
   |inr c=>rw[e2]at h;cases h
inductive Wd:Nat->Nd->Prop
 |nam {d:Nat} {z:NV}:Pat.isName z=true->Wd (d+1) (.nam z)
 |rows {d:Nat} {rs:NI}:rs≠[]->rs.length<=40->(∀r∈rs,r≠[]/\∀c∈r,Sg c)->Wd (d+1) (.node Pat.Ge (rs.map Nd.run))
 |nums {d:Nat} {z:NV} {a b:Nat}:z=twW\/z=saW->a<100->b<100->Wd (d+1) (.node z [.num a,.num b])
 |one {d:Nat} {z:NV} {x:Nd}:z=miW\/z=upW\/z=baW\/z=quW->Wd d x->Wd (d+1) (.node z [x])
 |two {d:Nat} {z:NV} {x y:Nd}:z=beW\/z=abW\/z=laW->Wd d x->Wd d y->Wd (d+1) (.node z [x,y])
 |tile {d:Nat} {x:Nd} {a b:Nat}:Wd d x->a<100->b<100->Wd (d+1) (.node tiW [x,.num a,.num b])
 |blk {d:Nat} {x y w:Nd}:Wd d x->Wd d y->Wd d w->Wd (d+1) (.node blW [x,y,w])
def Kds (d:Nat):NV->List Nd->Prop
 |[],[]=>True
 |k::ks,x::ts=>(if k=112 then Wd d x else ∃n,x=Nd.num n/\n<100)/\Kds d ks ts
 |_,_=>False
theorem Cl.wdt{x:NI}{m n:Nat}(C:Cl x m n):wdt x=m:=by
 cases x with
 |nil=>have:=C.hn;have:=C.n1;simp at *;lia
 |cons r x=>exact C.hm r AxW
theorem Cl.same(C:Cl x m n):Cl x (Mine.wdt x) x.length:=by rw[C.wdt,C.hn];exact C
def Clo (x:NI):Prop:=Cl x (wdt x) x.length
theorem Cl.clo(C:Cl x m n):Clo x:=C.same
theorem Aoo{p:Prop}[Decidable p]:Sg (if p then 35 else 46):=by split;exact .inl rfl;exact .inr U
theorem Aop(h1:1<=a)(h3:a+b<=40):Cl ((List.range (a+b)).map (twT a b)) (a+b) (a+b) where
 hn:=by rw[AxR,Ayw]
 hm:=λt d=>by
  obtain⟨y,_,rfl⟩:=yB.mp d;unfold twT;rw[AxR,Ayw]
 sg:=λt d c hc=>by
  obtain⟨y,_,rfl⟩:=yB.mp d;obtain⟨x,_,rfl⟩:=yB.mp hc;exact Aoo
 m1:=AA
 m40:=h3
 n1:=AA
 n40:=h3
theorem Aoq(h1:1<=m)(h3:m<=40):Cl ((List.range m).map (saT m n)) m m where
 hn:=by rw[AxR,Ayw]
 hm:=λt a=>by
  obtain⟨y,_,rfl⟩:=yB.mp a;unfold saT stT;rw[AxR,Ayw]
 sg:=λt a c hc=>by
  obtain⟨y,_,rfl⟩:=yB.mp a;obtain⟨x,_,rfl⟩:=yB.mp hc;exact Aoo
 m1:=h1
 m40:=h3
 n1:=h1
 n40:=h3
theorem AjB:∀{x y:NI} {r:NV},r∈List.zipWith (·++·) x y->∃a∈x,∃b∈y,r=a++b
 |[],_,r,h=>by simp at h
 |_::_,[],r,h=>by simp at h
 |a::x,b::y,r,h=>by
  rw[List.zipWith_cons_cons]at h;rcases yC.mp h with rfl|h
  ·exact⟨a,AxW,b,AxW,U⟩
  ·obtain⟨d,f,i,c,e⟩:=AjB h;exact⟨d,AxY _ f,i,AxY _ c,e⟩
theorem Amo{f:Nat}(C:Cl x m n)(D:Cl y f n)(h:m+f<=40):Cl (List.zipWith (·++·) x y) (m+f) n where
 hn:=by rw[AzI,C.hn,D.hn,Azb]
 hm:=λt d=>by
  obtain⟨a,i,b,e,rfl⟩:=AjB d;rw[AxS,C.hm a i,D.hm b e]
 sg:=λt d c hc=>by
  obtain⟨a,i,b,e,rfl⟩:=AjB d;rcases zG.mp hc with hc|hc
  ·exact C.sg a i c hc
  ·exact D.sg b e c hc
 m1:=by have:=C.m1;lia
 m40:=h
 n1:=C.n1
 n40:=C.n40
theorem Aor{b:Nat}(C:Cl x m n)(D:Cl y m b)(h:n+b<=40):Cl (x++y) m (n+b) where
 hn:=by rw[AxS,C.hn,D.hn]
 hm:=λt a=>by
  rcases zG.mp a with a|a
  ·exact C.hm t a
  ·exact D.hm t a
 sg:=λt a c hc=>by
  rcases zG.mp a with a|a
  ·exact C.sg t a c hc
  ·exact D.sg t a c hc
 m1:=C.m1
 m40:=C.m40
 n1:=by have:=C.n1;lia
 n40:=h
theorem Amp(C:Cl x m n):Cl (x.map List.reverse) m n where
 hn:=by rw[AxR,C.hn]
 hm:=λt b=>by
  obtain⟨a,d,rfl⟩:=yB.mp b;rw[Ay1,C.hm a d]
 sg:=λt b c hc=>by
  obtain⟨a,d,rfl⟩:=yB.mp b;exact C.sg a d c (List.mem_reverse.mp hc)
 m1:=C.m1
 m40:=C.m40
 n1:=C.n1
 n40:=C.n40
theorem Aos(C:Cl x m n):Cl x.reverse m n where
 hn:=by rw[Ay1,C.hn]
 hm:=λt a=>C.hm t (List.mem_reverse.mp a)
 sg:=λt a c hc=>C.sg t (List.mem_reverse.mp a) c hc
 m1:=C.m1
 m40:=C.m40
 n1:=C.n1
 n40:=C.n40
theorem Gu(k:Nat):(Iw k).length=2*k:=by unfold Iw;rw[AbY];simp;lia
theorem QD(k:Nat)(i:Int):(Iw k).count i=if i=0\/i=1 then k else 0:=by
 unfold Iw
 induction k with
 |zero=>simp
 |succ k b =>
  rw[Ayz,Ayv,Az2,b];by_cases a:i=0
  ·subst a;simp;lia
  ·by_cases h1:i=1
   ·subst h1;simp;lia
   ·rw[yE AA,yE AA];simp[List.count_cons,yL a,yL h1]
theorem Aik{k:Nat}{i:Int}(h:i∈Iw k):0<=i/\i<2:=by have:=XC h;simp at this;lia
theorem Aot(C:Cl x m n)(D:Cl y m n)(hm:2*m<=40)(hn:2*n<=40):Aj5 [x,y] (Iw m) (Iw n) where
 e:=λz b=>by have:=Aik b;exact⟨this.1,by show z<2;exact this.2⟩
 o:=λz b=>by have:=Aik b;exact⟨this.1,by show z<2;exact this.2⟩
 hn:=λi hi=>by
  have:i=0\/i=1:=by simp only [AxX,Ayu]at hi;lia
  rcases this with rfl|rfl
  ·rw[QD,yF Ap];exact C.hn
  ·rw[QD,yF Ap];exact D.hn
 hm:=λi hi t a=>by
  have:i=0\/i=1:=by simp only [AxX,Ayu]at hi;lia
  rcases this with rfl|rfl
  ·rw[QD,yF Ap];exact⟨C.hm t a,C.sg t a⟩
  ·rw[QD,yF Ap];exact⟨D.hm t a,D.sg t a⟩
 e1:=by have:=C.m1;rw[Gu];lia
 e40:=by rw[Gu];exact hm
 o1:=by have:=C.n1;rw[Gu];lia
 o40:=by rw[Gu];exact hn
theorem AtH{os:NF}(C:Aj5 ps es os):Cl (lay ps es os) es.length os.length where
 hn:=Agi ps es os
 hm:=λt b=>by
  obtain⟨j,_,rfl⟩:=yB.mp b;exact Lq ..
 sg:=λt b c hc=>by
  obtain⟨j,a,rfl⟩:=yB.mp b;have a:=yD.mp a;obtain⟨k,hk,rfl⟩:=yB.mp hc;have hk:=yD.mp hk;unfold XD;split
  next e =>
   obtain⟨o1,o2⟩:=C.own a;have e9:(ps.getD (os.getD j 0).toNat []).getD (plc os j) []=(ps.getD (os.getD j 0).toNat [])[plc os j]:=by rw[Ay2,AxT o2];rfl
   have M:=C.hm _ o1 _ (Ayp o2);rw[e9];have f:=C.o _ (getD_mem a);have lt:=Aj4 hk;rw[<-e,show os.getD j 0=(((os.getD j 0).toNat:Nat):Int) by lia,<-M.1]at lt;have d:((ps.getD (os.getD j 0).toNat [])[plc os j]).getD (plc es k) 0=((ps.getD (os.getD j 0).toNat [])[plc os j])[plc es k]:=by rw[Ay2,AxT lt];rfl
   rw[d];exact M.2 _ (Ayp lt)
  ·exact Aoo
 m1:=C.e1
 m40:=C.e40
 n1:=C.o1
 n40:=C.o40
theorem Aou{sub:Nd->Res}{a:Nd->NV}{x:Nd}(h:Wd d x):arg sub a x=match sub x with
  | .ok r=>.inr (.cl r (a x))
  | .no f=>.inl f:=by
 cases h<;>rfl
theorem Amq{kn:Kns}(hk:∀p∈kn,Clo p.2)(h:known kn z=.ok r):Clo r:=by
 unfold known at h;cases e:kn.find? λp=>decide (p.1=z) with
 |none=>rw[e]at h;cases h
 |some p=>rw[e]at h;cases h;exact hk p (List.mem_of_find?_eq_some e)
theorem XH(C:Clo x)(h:Aj8 z x=.ok r):Clo r:=by
 unfold Aj8 at h;split at h
 ·cases h;exact(Amp C).clo
 split at h
 ·cases h;exact(Aos C).clo
 split at h
 ·cases h;exact(Cl.back C).clo
 ·cases h;exact(Cl.AcE C).clo
theorem AcH(C:Clo x)(D:Clo y)(h:QC x y=.ok r):Clo r:=by
 unfold QC at h;split at h
 ·cases h
 next e =>
  split at h
  ·cases h
  next e2 =>
   cases h;have e:=yQ e;unfold Clo at D;rw[<-e]at D;exact(Amo C D AA).clo
theorem Afl(C:Clo x)(D:Clo y)(h:WR x y=.ok r):Clo r:=by
 unfold WR at h;split at h
 ·cases h
 next e =>
  split at h
  ·cases h
  next e2 =>
   cases h;have e:=yQ e;unfold Clo at D;rw[<-e]at D;exact(Aor C D AA).clo
theorem Ak7(C:Clo x)(D:Clo y)(h:Aj9 x y=.ok r):Clo r:=by
 unfold Aj9 at h;split at h
 ·cases h
 next e =>
  split at h
  ·cases h
  next e2 =>
   cases h;have a:wdt x=wdt y:=yQ λz=>e (.inl z);have b:x.length=y.length:=yQ λz=>e (.inr z);unfold Clo at D;rw[<-a,<-b]at D;exact(AtH (Aot C D AA AA)).clo
theorem Ail(C:Clo x)(h:AaB x a b=.ok r):Clo r:=by
 unfold AaB at h;split at h
 ·cases h
 next e =>
  split at h
  ·cases h
  next e2 =>
   cases h;exact(Cl.til C AA AA (by rw[Azr];lia) (by rw[Azr];lia)).clo
theorem AjC{p:NI}(B:Clo p)(C:Clo x)(D:Clo y)(h:Agj p x y=.ok r):Clo r:=by
 unfold Agj at h;split at h
 ·cases h
 next e =>
  split at h
  ·cases h
  next e2 =>
   cases h;have a:wdt x=wdt y:=yQ λz=>e (.inl z);have b:x.length=y.length:=yQ λz=>e (.inr z);unfold Clo at D;rw[<-a,<-b]at D;exact(AtF B C D AA AA).clo
theorem Aov(h1:rs≠[])(h2:∀r∈rs,r≠[]/\∀c∈r,Sg c)(h:AcF rs=.ok r):Clo r:=by
 unfold AcF at h;split at h
 ·cases h
 next e =>
  split at h
  ·cases h
  next e2 =>
   injection h with h;subst h;have w:∀u∈rs,u.length=wdt rs:=λu a=>yQ λz=>e (by
    rw[Az3];exact List.any_eq_true.mpr ⟨u,a,zN z⟩)
   refine⟨U,w,λu a=>(h2 u a).2,?_,AA,List.length_pos_iff.mpr h1,AA⟩;cases rs with
   |nil=>exact yG U h1
   |cons u r=>exact List.length_pos_iff.mpr (h2 u AxW).1
theorem Afm(h:QB a b=.ok r):Clo r:=by
 unfold QB at h;split at h
 ·cases h
 next e =>
  split at h
  ·cases h
  ·cases h;exact(Aop AA AA).clo
theorem Amr(h:Aj7 a b=.ok r):Clo r:=by
 unfold Aj7 at h;split at h
 ·cases h
 next e =>
  have e:=yQ e;split at h
  ·cases h
  ·cases h;exact(Aoq (by have:=e.1;have:=e.2.1;lia) AA).clo
theorem ZX{sub:Nd->Res}{a:Nd->NV}:∀rs:NI,args sub a (rs.map Nd.run)=.inr (rs.map Arg.run)
 |[]=>rfl
 |r::rs=>by
  rw[Ayd];unfold args;rw[ZX rs];rfl
theorem ZZ(rs:NI):(rs.map Arg.run).map runOf=rs:=by rw[Ay7];exact AyP _
inductive Fit:NV->List Arg->Prop
 |rows {rs:NI}:rs≠[]->rs.length<=40->(∀r∈rs,r≠[]/\∀c∈r,Sg c)->Fit Pat.Ge (rs.map Arg.run)
 |nums {z:NV} {a b:Nat}:z=twW\/z=saW->a<100->b<100->Fit z [.num a,.num b]
 |one {z v:NV} {x:NI}:z=miW\/z=upW\/z=baW\/z=quW->Clo x->Fit z [.cl x v]
 |two {z v u:NV} {x y:NI}:z=beW\/z=abW\/z=laW->Clo x->Clo y->Fit z [.cl x v,.cl y u]
 |tile {v:NV} {x:NI} {a b:Nat}:Clo x->a<100->b<100->Fit tiW [.cl x v,.num a,.num b]
 |blk {v u s:NV} {x y w:NI}:Clo x->Clo y->Clo w->Fit blW [.cl x v,.cl y u,.cl w s]
theorem Aow(F:Fit z as)(h:made z as=.ok r):Clo r:=by
 cases F with
 |rows h1 h2 h3 =>
  unfold made at h;rw[yF U,ZZ]at h;exact Aov h1 h3 h
 |nums w b a =>
  rcases w with rfl|rfl
  ·exact Afm h
  ·exact Amr h
 |one w C =>
  rcases w with rfl|rfl|rfl|rfl
  ·exact XH (z:=miW) C h
  ·exact XH (z:=upW) C h
  ·exact XH (z:=baW) C h
  ·exact XH (z:=quW) C h
 |two w C D =>
  rcases w with rfl|rfl|rfl
  ·exact AcH C D h
  ·exact Afl C D h
  ·exact Ak7 C D h
 |tile C b a=>exact Ail C h
 |blk B C D=>exact AjC B C D h
theorem Aox{kn:Kns}(p:∀{x:Nd} {r:NI},Wd d x->out kn d x=.ok r->Clo r)(W:Wd (d+1) (.node z ts))(h:args (out kn d) (wr d) ts=.inr as):Fit z as:=by
 have sub:∀{x:Nd} {a:Arg},Wd d x->arg (out kn d) (wr d) x=.inr a->∃r,a=.cl r (wr d x)/\Clo r:=λ{x a} W h=>by
  rw[Aou W]at h;cases e:out kn d x with
  |no f=>rw[e]at h;cases h
  |ok r=>rw[e]at h;cases h;exact⟨r,U,p W e⟩
 have i:∀{x:Nd} {ts:List Nd} {as:List Arg},args (out kn d) (wr d) (x::ts)=.inr as->∃a l,as=a::l/\arg (out kn d) (wr d) x=.inr a/\args (out kn d) (wr d) ts=.inr l:=λ{x ts as} h=>by
  unfold args at h;cases e:arg (out kn d) (wr d) x with
  |inl f=>rw[e]at h;cases h
  |inr a =>
   rw[e]at h;dsimp only at h;cases e2:args (out kn d) (wr d) ts with
   |inl f=>rw[e2]at h;cases h
   |inr l=>rw[e2]at h;cases h;exact⟨a,l,U,U,U⟩
 have nil:∀{as:List Arg},args (out kn d) (wr d) []=.inr as->as=[]:=λh=>by cases h;rfl
 cases W with
 |rows h1 h2 h3 =>
  rw[ZX]at h;cases h;exact .rows h1 h2 h3
 |nums w o n =>
  obtain⟨a,_,rfl,j,h⟩:=i h;obtain⟨b,_,rfl,e2,h⟩:=i h;cases nil h;cases j;cases e2;exact .nums w o n
 |one w X =>
  obtain⟨a,_,rfl,j,h⟩:=i h;cases nil h;obtain⟨r,rfl,C⟩:=sub X j;exact .one w C
 |two w X Y =>
  obtain⟨a,_,rfl,j,h⟩:=i h;obtain⟨b,_,rfl,e2,h⟩:=i h;cases nil h;obtain⟨r,rfl,C⟩:=sub X j;obtain⟨r2,rfl,D⟩:=sub Y e2;exact .two w C D
 |tile X o n =>
  obtain⟨a,_,rfl,j,h⟩:=i h;obtain⟨b,_,rfl,e2,h⟩:=i h;obtain⟨c,_,rfl,m,h⟩:=i h;cases nil h;cases e2;cases m;obtain⟨r,rfl,C⟩:=sub X j;exact .tile C o n
 |blk X Y Z =>
  obtain⟨a,_,rfl,j,h⟩:=i h;obtain⟨b,_,rfl,e2,h⟩:=i h;obtain⟨c,_,rfl,m,h⟩:=i h;cases nil h;obtain⟨r,rfl,C⟩:=sub X j;obtain⟨r2,rfl,D⟩:=sub Y e2;obtain⟨q,rfl,F⟩:=sub Z m;exact .blk C D F
theorem Ak8{kn:Kns}(hk:∀p∈kn,Clo p.2):∀{d:Nat} {x:Nd} {r:NI},Wd d x->out kn d x=.ok r->Clo r
 | 0,x,r,W,h=>by cases W
 |d+1,.nam z,r,W,h=>Amq hk h
 |d+1,.num n,r,W,h=>by cases W
 |d+1,.run n,r,W,h=>by cases W
 |d+1,.node z ts,r,W,h=>by
  unfold out at h;cases e:args (out kn d) (wr d) ts with
  |inl f=>rw[e]at h;cases h
  |inr as =>
   rw[e]at h;exact Aow (Aox (Ak8 hk) W e) h
theorem Ak9:∀{xs:NI} {y:NV},y∈xs->y.length<=((xs.map λy=>[44]++y).flatten).length
 |[],y,h=>by simp at h
 |a::xs,y,h=>by
  rw[Ayd,Ayv,AxS,AxS];rcases yC.mp h with rfl|h
  ·lia
  ·have:=Ak9 h;lia
theorem Ass:∀{ys:NI} {y:NV},y∈ys->y.length<=(cj ys).length
 |[],y,h=>by simp at h
 |x::xs,y,h=>by
  unfold cj;rw[AxS];rcases yC.mp h with rfl|h
  ·lia
  ·have:=Ak9 h;lia
theorem Arm{x:Nd}(h:x∈ts):(wr d x).length<=(wr (d+1) (.node z ts)).length:=by have:=Ass (yB.mpr ⟨x,h,U⟩:wr d x∈ts.map (wr d));show _<=(wz z (ts.map (wr d))).length;unfold wz;rw[AxS,AxX,AxS];lia
def bl (g:Nat):NV:=List.replicate g 32
mutual
inductive Wt:Nd->NV->Prop
 |num {n g:Nat}:Wt (.num n) (dec n++bl g)
 |run {r:NV} {g:Nat}:Wt (.run r) (r++bl g)
 |nam {z:NV} {g:Nat}:Wt (.nam z) (z++bl g)
 |node {z:NV} {ts:List Nd} {us:NV} {g1 g2 g3:Nat}:WtL ts us->Wt (.node z ts) (z++(bl g1++(40::(bl g2++(us++(41::bl g3))))))
inductive WtL:List Nd->NV->Prop
 |one {x:Nd} {u:NV}:Wt x u->WtL [x] u
 |cons {x:Nd} {u us:NV} {xs:List Nd} {g:Nat}:Wt x u->WtL xs us->WtL (x::xs) (u++(44::(bl g++us)))
end
theorem Od{g c:Nat}(h:c∈bl g):c=32:=(List.mem_replicate.mp h).2
theorem Agl:∀n∈List.range 100,Pat.AvI (dec n)=true/\NumText.digitsVal (dec n)=n/\(∀c∈dec n,Pat.Hg c=true)/\dec n≠[]:=At
def Nb (l:NV):Prop:=∃c b',l=c::b'/\¬c=32
theorem Nb.app{l a:NV}(h:Nb l):Nb (l++a):=by obtain⟨c,b,rfl,h⟩:=h;exact⟨c,b++a,U,h⟩
theorem Aim{p:Nat->Bool}(a:p 32=false)(h1:z≠[])(h2:∀c∈z,p c=true):Nb z:=by
 cases z with
 |nil=>exact yG U h1
 |cons c z =>
  refine⟨c,z,U,λe=>?_⟩;have:=h2 c AxW;rw[e,a]at this;cases this
theorem Ls(h:Pat.isName z=true):z≠[]/\∀c∈z,Pat.letter c=true:=by unfold Pat.isName at h;simp only [AyM,decide_eq_true_eq]at h;refine⟨λe=>by rw[e]at h;simp at h,λc hc=>List.all_eq_true.mp h.1.2 c hc⟩
theorem XJ(h:Wd (d+1) (.node z ts)):z≠[]/\∀c∈z,Pat.letter c=true:=by
 cases h with
 |rows _ _ _=>decide
 |nums w _ _=>rcases w with rfl|rfl<;>decide
 |one w _=>rcases w with rfl|rfl|rfl|rfl<;>decide
 |two w _ _=>rcases w with rfl|rfl|rfl<;>decide
 |tile _ _ _=>decide
 |blk _ _ _=>decide
theorem Aoy{x:Nd}(W:Wd d x)(h:Wt x u):Nb u:=by
 cases h with
 |num=>cases W
 |run=>cases W
 |nam =>
  cases W with
  |nam h=>exact(Aim (p:=Pat.letter) Ap (Ls h).1 (Ls h).2).app
 |node a =>
  cases d with
  |zero=>cases W
  |succ d=>exact(Aim (p:=Pat.letter) Ap (XJ W).1 (XJ W).2).app
def Kd (d k:Nat)(x:Nd):Prop:=if k=112 then Wd d x else ∃n,x=Nd.num n/\n<100
theorem Ast{k:Nat}{x:Nd}(W:Kd d k x)(h:Wt x u):Nb u:=by
 unfold Kd at W;split at W
 ·exact Aoy W h
 ·obtain⟨n,rfl,hn⟩:=W;cases h with
  |num =>
   obtain⟨_,_,b,a⟩:=Agl n (yD.mpr hn);exact(Aim (p:=Pat.Hg) Ap a b).app
theorem Aoz{ks:NV}(W:Kds d ks ts)(h:WtL ts us):Nb us:=by
 cases h with
 |one h =>
  cases ks with
  |nil=>exact W.elim
  |cons k ks=>exact Ast W.1 h
 |cons h a =>
  cases ks with
  |nil=>exact W.elim
  |cons k ks=>exact(Ast W.1 h).app
theorem Arn(W:∀r∈rs,r≠[]/\∀c∈r,Sg c)(h:WtL (rs.map Nd.run) us):Nb us:=by
 cases rs with
 |nil=>cases h
 |cons r rs =>
  have k:=Aim (p:=Pat.knot) Ap (W r AB).1 (λc hc=>zN ((W r AB).2 c hc));generalize a:(r::rs).map Nd.run=ts at h;rw[Ayd]at a;cases h with
  |one h =>
   have e:=(yS a).1;subst e;cases h with|run=>exact k.app
  |cons h _ =>
   have e:=(yS a).1;subst e;cases h with|run=>exact k.app.app
def brk (c:Nat):Bool:=decide (c=40\/c=41\/c=44)
end Mine
namespace L2
open PySem PySem.Spec PyProof.Rows
variable {X:Cx}{CX:CXT}{j n i:Nat}{f C:Nn}{fd:No}{ps Nc:NY}{sp:Sp}{E E':XK}{m y:Str}{pos apos py spos:Pos}{o iter elt:Expr}{ta te:TE}{pl:Sem Bool}{e:N0}{es ifs:List Expr}{ds us:NX}{pins:NR}{σ:St}{H:Hp}{s s':Nw}{scope:Scope}{fp:NW}{env cenv:Env}{M:Model}{use:Option (N0->Sem Unit)}{Q:NU}{wi:TI}
section
variable {CX':CXT}{k k':Nat}{f' C':Nn}{fd':No}{ps':NY}{sp':Sp}
inductive Ao0 (C:Nn)(C':Nn)(m:Str)(sp:Sp)(sp':Sp)(E:XK)(Q:VK)(x:V)(H1:Hp):Prop
|mk(a:_)(dx:_)(fs:_)(_:x=.ref a)(_:fs.lookup m=none)(_:((H1 a=some (.ins C dx fs)/\sp [x] H1 Q E)\/(H1 a=some (.ins C' dx fs)/\sp' [x] H1 Q E)))
def AtK (C:Nn)(C':Nn)(m:Str)(sp:Sp)(sp':Sp)(E:XK)(ta:TE)(σ:St)(H:Hp)(Q:VK):Prop:=ta σ H (Ao0 C C' m sp sp' E Q)
theorem Ain(z:PE X o ta)(c:Cls X.K C)(n:Meth X.K C m f)(F:Bm X.prog X.w X.K X.mg X.base CX k f fd ps sp)(G:FT k X.A)(r:Binds X.K fd ps [])(B:Passes CX X E)
  (y:Cls X.K C') (d:Meth X.K C' m f') (D:Bm X.prog X.w X.K X.mg X.base CX' k' f' fd' ps' sp') (i:FT k' X.A) (e:Binds X.K fd' ps' []) (j:Passes CX' X E)
  (p:eval (.Call (.Attribute o m apos) [] [] pos) X.env=(do
   let ov <-eval o X.env
   standAt apos.atName
   let (f,first) <-holding [ov] (getMethod ov m pl)
   callWith pos f first (backTo pos (starEach [] X.env)) (backToKw pos (keywordEach [] X.env))):=by rfl) :
  PE X (.Call (.Attribute o m apos) [] [] pos) (AtK C C' m sp sp' E ta):=by
 intro pins s σ H Q I h;refine W.methodCall_KW (pl:=pl) (thn (z pins s σ H _ I h) λu J ⟨x,H1,b,v,a,dx,fs,ex,l,q⟩=>?_) p;subst ex;obtain rfl:u=Value.ref a:=v;rcases q with ⟨ea,q⟩|⟨ea,q⟩
 ·exact Li b ea c n l (W.callWith_K0 (first:=[.ref a]) b.kIn n.kp (W7 (us:=[.ref a]) (vs:=[.ref a]) F G r .nil B b (.cons U .nil) (by simpa using q)))
 ·exact Li b ea y d l (W.callWith_K0 (first:=[.ref a]) b.kIn d.kp (W7 (us:=[.ref a]) (vs:=[.ref a]) D i e .nil j b (.cons U .nil) (by simpa using q)))
end
section
variable {k:Nat}{e:Expr}{t:TA}{dvs:LI}
inductive Tt (K:NO)(m:Str)(f:Nn)(sp:Sp)(E:XK)(Q:VK)(x:V)(H1:Hp):Prop
|mk(a:_)(dx:_)(fs:_)(C:_)(_:x=.ref a)(_:H1 a=some (.ins C dx fs))(_:fs.lookup m=none)(_:Cls K C)(_:Meth K C m f)(_:sp [x] H1 Q E)
def AtL (K:NO)(m:Str)(f:Nn)(sp:Sp)(E:XK)(ta:TE)(σ:St)(H:Hp)(Q:VK):Prop:=ta σ H (Tt K m f sp E Q)
theorem By{K:NO}(n:K=X.K)(p:PE X o ta)(F:Bm X.prog X.w X.K X.mg X.base CX k f fd ps sp)(v:FT k X.A)(i:Binds X.K fd ps [])(r:Passes CX X E)
  (e:eval (.Call (.Attribute o m apos) [] [] pos) X.env=(do
   let ov <-eval o X.env
   standAt apos.atName
   let (f,first) <-holding [ov] (getMethod ov m pl)
   callWith pos f first (backTo pos (starEach [] X.env)) (backToKw pos (keywordEach [] X.env))):=by rfl) :
  PE X (.Call (.Attribute o m apos) [] [] pos) (AtL K m f sp E ta):=by
 subst n;intro pins s σ H Q I h;refine W.methodCall_KW (thn (p pins s σ H _ I h) λu y ⟨x,H1,b,j,a,dx,fs,C,ex,ea,l,c,d,q⟩=>?_) e;subst ex;obtain rfl:u=Value.ref a:=j;exact Li b ea c d l (W.callWith_K0 b.kIn d.kp (W7 (us:=[.ref a]) (vs:=[.ref a]) F v i .nil r b (.cons U .nil) (by simpa using q)))
end
def vB (bs:List Bool):LI:=bs.map V.bl
theorem AjD(bs:List Bool):(vB bs).length=bs.length:=by unfold vB;rw[AxR]
theorem AjE(bs:List Bool)(b:Bool):vB bs++[.bl b]=vB (bs++[b]):=by unfold vB;rw[AxV];rfl
theorem AcI{bs:List Bool}:∀{us:NX},Vals (bs.map V.bl) us->us=bs.map Value.bool:=by
 induction bs with
 |nil=>intro us r;cases r;rfl
 |cons n ns a =>
  intro us r;cases r with
  |cons b r2 =>
   cases b;rw[a r2];rfl
theorem any_range(bs:List Bool):(List.range bs.length).any (λi=>bs.getD i false)=bs.any id:=by
 rw[AyU,AzJ,AzJ];constructor
 ·rintro⟨i,hi,h⟩;have a:=yD.mp hi;refine⟨bs[i],Ayp a,?_⟩;rw[Ay2,AxT a]at h;exact h
 ·rintro⟨b,c,h⟩;obtain⟨i,hi,e⟩:=AzK c;refine⟨i,yD.mpr hi,?_⟩;rw[Ay2,AxT hi,e];exact h
section
variable {K:NO}
inductive Aio (K:NO)(xs:LI)(H:Hp)(Q:VK):Prop
|mk(a:_)(bs:_)(_:xs=[.ref a])(_:SqL K H a (vB bs))(_:Q (.bl (bs.any id)) H)
theorem Afn(l:X.K=K:=by rfl)(hc:X.calm=true:=by rfl):Hw X (.builtin "any") (Aio K):=by
 subst l;intro pins s σ H xs us Q I w h;obtain⟨a,bs,rfl,C,q⟩:=h;obtain⟨u,rfl,m⟩:=w.one;cases m;obtain⟨its,r,pl,F⟩:=I.list C;have y:=AcI r;subst y;obtain⟨o,z,_⟩:=id pl.isList;have f:=yH z;refine call_any_walk (wpAny_pyIter_list pl.isList ⟨_,_,_,_,_,_,λi=>bs.getD i false,U,Walks.list (A:=X.A.in1) (I.ok.hd hc) _ a (Aye f) (bs.map Value.bool).toArray,⟨⟨_,zD _ U,U,U⟩,pl.isList.push _⟩,?_,λh' tk hk=>?_⟩)
 ·intro i v s' B E' p E;have d:(bs.map Value.bool)[i]?=some v:=by simpa using p
  rw[AxZ]at d;cases e:bs[i]? with
  |none=>simp_all
  |some b =>
   rw[e]at d;cases d;have D:bs.getD i false=b:=AC
   have c:B (bs.getD i false) s':=E;rw[D]at c;exact yA c
 ·have x:(List.range ((bs.map Value.bool).toArray).size).any (λi=>bs.getD i false)=bs.any id:=by
   rw[Ayt,AxR];exact any_range bs
  rw[x];refine⟨.bl (bs.any id),H,I.kept (λb j e=>hk b j ?_ (zB _ e)),U,q⟩;have lt:=yH e;intro n;rw[zF.mp n]at lt;exact Ay4 _ lt
end
theorem all_range(bs:List Bool):(List.range bs.length).all (λi=>bs.getD i false)=bs.all id:=by
 rw[AyU,Azx,Azx];constructor
 ·rintro h b c;obtain⟨i,hi,e⟩:=AzK c;have:= h i (yD.mpr hi);rw[Ay2,AxT hi,e]at this;exact this
 ·rintro h i hi;have a:=yD.mp hi;rw[Ay2,AxT a];exact h _ (Ayp a)
section
variable {K:NO}
inductive Aip (K:NO)(xs:LI)(H:Hp)(Q:VK):Prop
|mk(a:_)(bs:_)(_:xs=[.ref a])(_:SqL K H a (vB bs))(_:Q (.bl (bs.all id)) H)
theorem Ams(l:X.K=K:=by rfl)(hc:X.calm=true:=by rfl):Hw X (.builtin "all") (Aip K):=by
 subst l;intro pins s σ H xs us Q I w h;obtain⟨a,bs,rfl,C,q⟩:=h;obtain⟨u,rfl,m⟩:=w.one;cases m;obtain⟨its,r,pl,F⟩:=I.list C;have y:=AcI r;subst y;obtain⟨o,z,_⟩:=id pl.isList;have f:=yH z;refine call_all_walk (wpAny_pyIter_list pl.isList ⟨_,_,_,_,_,_,λi=>bs.getD i false,U,Walks.list (A:=X.A.in1) (I.ok.hd hc) _ a (Aye f) (bs.map Value.bool).toArray,⟨⟨_,zD _ U,U,U⟩,pl.isList.push _⟩,?_,λh' tk hk=>?_⟩)
 ·intro i v s' B E' p E;have d:(bs.map Value.bool)[i]?=some v:=by simpa using p
  rw[AxZ]at d;cases e:bs[i]? with
  |none=>simp_all
  |some b =>
   rw[e]at d;cases d;have D:bs.getD i false=b:=AC
   have c:B (bs.getD i false) s':=E;rw[D]at c;exact yA c
 ·have x:(List.range ((bs.map Value.bool).toArray).size).all (λi=>bs.getD i false)=bs.all id:=by
   rw[Ayt,AxR];exact all_range bs
  rw[x];refine⟨.bl (bs.all id),H,I.kept (λb j e=>hk b j ?_ (zB _ e)),U,q⟩;have lt:=yH e;intro n;rw[zF.mp n]at lt;exact Ay4 _ lt
end
inductive Aiq (K:NO) (H:Hp):Nat->V->V->Prop where
 |flat {n:Nat} {x:V} (h:Lj x=true):Aiq K H n x x
 |lst {n:Nat} {p q:Nn} {xs ys:LI} (hp:SqL K H p xs) (hq:SqL K H q ys) (hl:xs.length=ys.length) (hi:∀(i:Nat)(x y:V),xs[i]?=some x->ys[i]?=some y->Aiq K H n x y):Aiq K H (n+1) (.ref p) (.ref q)
 |tup {n:Nat} {p q:Nn} {xs ys:LI} (hp:SqT K H p xs) (hq:SqT K H q ys) (hl:xs.length=ys.length) (hi:∀(i:Nat)(x y:V),xs[i]?=some x->ys[i]?=some y->Aiq K H n x y):Aiq K H (n+1) (.ref p) (.ref q)
section
variable {K:NO}
theorem O9{xs:LI}(r:Vals xs us)(h:j<us.toArray.size):∃x,xs[j]?=some x/\RelV x us.toArray[j]:=by
 have l:=r.length;simp only [Ayt]at h;obtain⟨u,e,q⟩:=r.get (i:=j) (x:=xs[j]) AB;refine⟨xs[j],AB,?_⟩;have:us.toArray[j]=u:=by
  simp_all
 rw[this];exact q
theorem Ao1(I:Inv X pins σ H s){x y:V}(S:Aiq X.K H n x y):∀{A:Around} {u v:N0},RelV x u->RelV y v->A.units+n<cLine->SeqAt.EqAt A s u v true:=by
 induction S with
 |flat h =>
  intro A u v d r2 C;have:= Ajj (A:=A) (s:=s) d r2 h h;rw[Xr h]at this;exact this
 |lst B w G hi z =>
  intro A u v d r2 C;rename_i n p q xs ys;cases d;cases r2;by_cases e:p=q
  ·subst e;exact SeqAt.EqAt.same _
  ·refine SeqAt.EqAt.of_refs e ?_;obtain⟨its,r,pl,E⟩:=I.list B;obtain⟨b,r2,c,i⟩:=I.list w;have D:=r.length;have F:=r2.length;have a:=SeqAt.RcAt.lists (A:=A) (e:=λ_=>true) pl.isList c.isList AD Au (λj h1 h2=>?_)
   ·have m:(List.range its.toArray.size).all (λ_=>true)=true:=AB
    rw[m]at a;exact a
   ·obtain⟨x,ex,f⟩:=O9 r h1;obtain⟨y,o,l⟩:=O9 r2 h2;exact z j x y ex o f l (by show A.units+1+n<cLine;omega)
 |tup B w G hi z =>
  intro A u v d r2 C;rename_i n p q xs ys;cases d;cases r2;by_cases e:p=q
  ·subst e;exact SeqAt.EqAt.same _
  ·refine SeqAt.EqAt.of_refs e ?_;obtain⟨its,r,pl,E⟩:=I.tuple B;obtain⟨b,r2,c,i⟩:=I.tuple w;have D:=r.length;have F:=r2.length;have a:=SeqAt.RcAt.tuples (A:=A) (e:=λ_=>true) pl c Au (λj h1 h2=>?_)
   ·have m:((List.range (min its.toArray.size b.toArray.size)).all (λ_=>true) && its.toArray.size == b.toArray.size)=true:=by
     simp_all
    rw[m]at a;exact a
   ·obtain⟨x,ex,f⟩:=O9 r h1;obtain⟨y,o,l⟩:=O9 r2 h2;exact z j x y ex o f l (by show A.units+1+n<cLine;omega)
def AvJ (K:NO)(H:Hp)(p q:Nn):Prop:=∃xs ys:LI,SqL K H p xs/\SqL K H q ys/\xs.length=ys.length/\∀(i:Nat)(x y:V),xs[i]?=some x->ys[i]?=some y->Aiq K H 50 x y
inductive Axh (K:NO)(x:V)(y:V)(H:Hp)(Q:VK):Prop
|mk(p:_)(q:_)(_:x=.ref p)(_:y=.ref q)(_:AvJ K H p q)(_:Q (.bl false) H)
theorem AtM(C:X.A.units+100<cLine)(f:X.K=K:=by rfl):OpR X (compareOp .NotEq) (Axh K):=by
 subst f;intro pins s σ H x y v u Q I n m h;obtain⟨p,q,rfl,rfl,⟨xs,ys,l,w,E,hi⟩,k⟩:=h;cases n;cases m;obtain⟨its,r,pl,B⟩:=I.list l;obtain⟨b,r2,a,d⟩:=I.list w;have z:=r.length;have D:=r2.length;refine SeqAt.RcNeAt.lists (e:=λ_=>true) pl.isList a.isList AD AA (λj h1 h2=>?_) _ _ _ _ ?_
 ·obtain⟨x,ex,c⟩:=O9 r h1;obtain⟨y,o,i⟩:=O9 r2 h2;exact Ao1 I (hi j x y ex o) c i AD
 refine⟨.bl false,H,I,?_,k⟩;show Value.bool _=Value.bool _;simp
end
def YX (X:Cx)(fp:NW)(C:Nn)(s:Nw)(H:Hp)(E:XK):N0->Nw->Prop:=λe s' =>
 ∃(H1:Hp)(s1:Nw)(m:Str->Na),Un (frs X.stack) fp H H1 s.heap s1.heap/\s1.os=s.os/\s1.heap.Ns C m/\H1 C=none/\CX1 X.prog X.w X.stack H1 s1 E e s'
abbrev Agm (X:Cx)(Nc:NY)(scope:Scope)(cl:List (Str×Nn))(C:Nn)(fp:NW)(s:Nw)(H:Hp)(E:XK):Cx:=cxG X (λ_=>false) Nc scope cl C fp s H (YX X fp C s H E)
theorem Ao2{cl:List (Str×Nn)}:Passes (CX1 X.prog X.w) (Agm X Nc scope cl C fp s H E) E:=λpins σ H1 a e s' I c=>by
 obtain⟨m,hn,_⟩:=I.loc;exact⟨H1,a,m,I.base,I.os,hn,I.free,c⟩
def Aft (X:Cx)(E:XK)(C:Nn)(e:N0)(s':Nw):Prop:=
 (∃m,s'.heap.Ns C m)/\∀h',Heap.SameBut C s'.heap h'->∃ea Cc t H' B,e=.ref ea/\Fx B X.stack ea Cc t (rawInt X.env.locals) h'/\s'.os=X.s₀.os/\AllBare s'.gens/\Bk X.prog X.w X.outer X.H₀ X.s₀.heap H' B h'/\E (.ref Cc) none H'
theorem Ab3{a:Env}(h:env.frame=a.frame):noteFrame e env=noteFrame e a:=by unfold noteFrame PySem.frameOf;rw[h]
theorem V4{h h' base:Heap}:∀{l:List Env},(∀b∈frs l,h'.get? b=h.get? b)->h.FunFrames base l->h'.FunFrames base l
 |[],_,_=>trivial
 |env::r,k,⟨hk,⟨L,o,hf,hn,ho,hd⟩,hr⟩=>by
  have m:∀b∈frs r,b∈frs (env::r):=λb a=>by unfold frs;rw[AyL,hf];exact AxY _ a
  have c:L∈frs (env::r):=by unfold frs;rw[AyL,hf];exact AxW
  exact⟨hk,⟨L,o,hf,hn,(k L c).trans ho,hd⟩,V4 (λb a=>k b (m b a)) hr⟩
theorem Axi{R:Nw->Prop}{E':NU}(hB:Body X)(I:Inv X pins σ H s)(ae:∀b∈fp,Q6 X pins H b)(hC:s.heap.objs.size<=C)(hf:cenv.frame=X.env.frame)
  (c:YX X fp C s H E e s') (k:∀l,Aft X E C e l->R l):wpAny M X.A (noteFrame e cenv) (λ_ l=>R l) E' s':=by
 obtain⟨H1,s1,m,un,ab,ac,nC,ea,Cc,t,H',B,rfl,fx,os,S,bk,q⟩:=c;have G:∀b:Nn,b∉X.ex:=λb z=>by rw[hB.ex]at z;exact nomatch z
 have p:∀b,b∈X.fs->b∈frs X.stack:=λb a=>by
  rw[hB.stack];unfold frs;rw[AyL,hB.frame];exact AxY _ a
 have a6:∀b,b∈frs X.stack->∃o,s.heap.get? b=some o:=λb a=>by
  obtain⟨_,o,e,_⟩:=I.stack.mem a;exact⟨o,e⟩
 have CS:C∉frs X.stack:=λz=>by
  obtain⟨o,e⟩:=a6 C z;exact yG (yH e) (Nat.not_lt.mpr hC)
 have K:∀b o,s.heap.get? b=some o->b≠C:=λb o e z=>yG (yH e) (Nat.not_lt.mpr (z▸hC));have i:∀b o,X.s₀.heap.get? b=some o->b∉fp:=λb o e z=>by
  rcases(ae b z).2.2.2.1 with y|y
  ·exact G b y
  ·exact yG (yH e) (Nat.not_lt.mpr y)
 obtain⟨L,es,ep,O,dC,sk,nf⟩:=ac;have aa:B.get? C=some L:=bk.keep C L O nC CS;have N:H' C=none:=bk.free C L O nC;have ag:(W.hideAll B [C]).get? C=none:=W.hideAll_none _ AxW;have J:∀b o,B.get? b=some o->b≠C->(W.hideAll B [C]).get? b=some o:=λb o e z=>W.hideAll_get _ e λy=>z (zF.mp y);have d:(W.hideAll B [C]).StaysIn B:=λb o e=>W.of_hideAll _ e;have a0:Fx (W.hideAll B [C]) X.stack ea Cc t .none s'.heap:=by
  obtain⟨st,ne,fr,T,oT,ts,hE,D,F,hT,j,h3⟩:=fx;exact⟨λb o e=>st b o (d b o e),W.fresh_of_stays d ne,W.funFrames_base d fr,T,oT,ts,hE,W.fresh_of_stays d D,F,hT,j,h3⟩
 have af:Bk X.prog X.w X.outer X.H₀ X.s₀.heap H' (W.hideAll B [C]) s'.heap:=by
  refine⟨λb u e=>?_,λb o e n a=>?_,λb o e a=>?_,λb o e n=>?_,λb o e a=>?_,λb xs e=>bk.tups b xs (un.tups b xs (I.base.tups b xs e)),λb o u e=>bk.Iv b o u (un.Iv b o u (I.base.Iv b o u e)),λb ps e=>?_⟩
  ·refine(bk.ok b u e).stay (λc v hc z=>J c v z λy=>?_) (λ_ z=>z) λ_ _ z=>z;rcases hc with x|x
   ·rw[<-x,y,N]at e;cases e
   ·rw[y,N]at x;cases x
  ·have h:=I.base.keep b o e n a (G b);have n1:=I.base.free b o e n (G b);have Z:=I.AlO e a;exact J b o (bk.keep b o (un.keep b o h n1 Z (i b o e)) (un.free b o h n1 (i b o e)) Z) (K b o h)
  ·obtain⟨sl,h⟩:=I.base.slot b o e (I.ok.frf b a) a (G b);obtain⟨Y,e2⟩:=un.slot b _ h (I.AbP b (p b a)) (p b a) (i b o e);obtain⟨ah,Q⟩:=bk.slot b _ e2 (p b a);exact⟨ah,Q⟩
  ·obtain⟨o',h⟩:=I.base.there b o e (G b);obtain⟨o2,e2⟩:=un.there b o' h (i b o e);exact bk.free b o2 e2 (un.free b o' h (I.base.free b o e n (G b)) (i b o e))
  ·obtain⟨o',h⟩:=I.base.there b o e (G b);obtain⟨o2,e2⟩:=un.there b o' h (i b o e);obtain⟨o3,Q⟩:=bk.there b o2 e2 (I.AlO e a);exact⟨o3,J b o3 Q (K b o' h)⟩
  ·obtain⟨m1,h⟩:=I.base.JB b ps e;obtain⟨m2,e2⟩:=un.JB b _ h;obtain⟨m3,Q⟩:=bk.JB b _ e2;exact⟨m1++m2++m3,by rw[Q,Array.append_assoc,Array.append_assoc,Array.append_assoc]⟩
 rw[Ab3 hf];refine AhD hB I.ok.frames (.came a0) λh1 x1 u1=>k _ ?_;obtain⟨sl,r⟩:=u1 C L (fx.st C L aa) (λvs z=>by rw[dC]at z;cases z);refine⟨⟨m,_,es,ep,r,dC,sk,nf⟩,λh' P=>?_⟩;have f:=af.slots (AbS hB a0.fr) u1;obtain⟨st,ne,fr,T,oT,ts,hE,D,F,hT,j,h3⟩:=x1;have TC:T≠C:=λz=>by rw[z,r]at hT;cases hT;rw[dC]at j;cases j
 have EC:ea≠C:=λz=>by rw[z,r]at hE;have:=congrArg Obj.data (yI hE);dsimp only at this;rw[dC]at this;cases this
 refine⟨ea,Cc,t,H',_,U,⟨λb o e=>(P.2 b λz=>by rw[z,ag]at e;cases e).trans (st b o e),ne,V4 (λb a=>P.2 b λz=>CS (z▸a)) fr,T,oT,ts,(P.2 ea EC).trans hE,D,F,(P.2 T TC).trans hT,j,h3⟩,os.trans (ab.trans I.os),S,
  ⟨f.ok,f.keep,λb o e a=>?_,f.free,f.there,f.tups,f.Iv,f.JB⟩,q⟩;obtain⟨Y,e2⟩:=f.slot b o e a;exact⟨Y,(P.2 b λz=>CS (z▸p b a)).trans e2⟩
def Aaa (M:Model)(A:Around)(E:NU)(use:Option (N0->Sem Unit))(Q:NU)(acc:N0)(C:Nn)(f:Option Nn)(r:Result)(s':Nw):Prop:=
 match r,use with
 | .ok _,none=>∃m,s'.heap.Ns C m/\∀h',Heap.SameBut C s'.heap h'->Q acc {s' with heap:=h'}
 | .ok _,some u=>wpAny M A (u acc) (λ_ s''=>∃m,s''.heap.Ns C m/\∀h',Heap.SameBut C s''.heap h'->Q .none {s'' with heap:=h'}) E s'
 | .error x,_=>∃m,s'.heap.Ns C m/\∀h',Heap.SameBut C s'.heap h'->∀cenv:Env,cenv.locals=C->cenv.frame=f->wpAny M A (passOn "comprehension.variables-let-go" x cenv:Sem N0) (λ_ _=>False) E {s' with heap:=h'}
theorem AjF{A:Around}{E:NU}{e:Expr}{b first:Sem N0}{g:Comprehension}{J:List Comprehension}{cl:List (Str×Nn)}
  (F:clausesOf e=g::J) (I:∀x,foldedSetIterable g.iter env x=pure x) (o:closureFor scope env=pure cl)
  (a:scope.kind=.function) (d:∀x∈scope.names,x.2=.local->scope.names.lookup x.1=some .local)
  (h:wpAny M A first (λx i=>wpAny M A (pyIter x) (λit l=>wpAny M A b (λacc j =>
   wpAny M A (newFunctionEnv scope env.globals cl [] env.qual none .none (some env)) (λcenv n =>
    codeAny M A (.compStart e 0 it acc {cenv with scope:=relabel scope env}) (Aaa M A E use Q acc cenv.locals cenv.frame) n) E j) E l) E i) E s) :
  wpAny M A (comprehension e scope env pos b false first use) Q E s:=by
 unfold comprehension;rw[o,F];refine zA (thn h λx i h₁=>zA (wpAny_standAt (zA (wpAny_of_eq (I x) (zA (z8 (thn h₁ λit l v =>
  wpAny_standIf (zA (thn v λacc j q=>zA (zE (zA (thn q λcenv n w=>?_))))))))))))
 try dsimp only
 have z:∀x∈(scope.names.filter λx=>(x.2 == .local ||x.2 == .cell) && x.1 != (".0":Str)).reverse,x.2=.local ->
   Env.kindOf {cenv with scope:=relabel scope env} x.1=some .local:=λx D B=>lookup_relabel_local (d x (List.mem_filter.mp (List.mem_reverse.mp D)).1 B);refine z8 (zA (wpAny_attempt (z8 (wpAny_run (codeAny_mono w λr s' p=>?_)))));cases r with
 |ok f =>
  cases use with
  |none =>
   obtain⟨m,hn,p⟩:=p;exact zA (z8 (wpAny_comp_letGo (cenv:={cenv with scope:=relabel scope env}) a _ s' m z hn λh' H _ c=>zE (p h' c)))
  |some u =>
   exact zA (wpAny_rule (zA (z8 (thn p λ_ G ⟨m,hn,C⟩=>zA (wpAny_comp_letGo (cenv:={cenv with scope:=relabel scope env}) a _ G m (λx D B=>(zG.mp D).elim (λh1=>z x (List.mem_of_mem_drop h1) B) λh1=>z x (List.mem_of_mem_take h1) B) hn λh' H _ c=>zE (C h' c))))))
 |error x =>
  obtain⟨m,hn,p⟩:=p;exact zA (z8 (wpAny_comp_letGo (cenv:={cenv with scope:=relabel scope env}) a _ s' m z hn λh' H _ c=>zT (p h' c _ rfl rfl) (λ_ _ f=>f.elim) λ_ _ y=>y))
theorem Axj(hB:Body X)(hw:∀e s',FlX X E' e s'->X.xe e s'){acc:N0}(h:Aft X E' C e s'):Aaa (model X.prog X.w) X.A X.xe use Q acc C X.env.frame (.error e) s':=by obtain⟨⟨m,hn⟩,n⟩:=h;refine⟨m,hn,λh' c cenv _ o=>?_⟩;obtain⟨ea,p,t,H',B,rfl,b,os,a,bk,q⟩:=n h' c;unfold PySem.passOn;obtain⟨j,r,ts,i,_⟩:=b.ob;refine zA (z9 (s:={s' with heap:=h'}) i rfl (x:=.ref j) rfl ?_);rw[yE AB];refine zA (Afc (s:={s' with heap:=h'}) (f:=cenv.frame) b λh2 d l=>?_);rw[o,hB.frame]at d;exact wpAny_throw (hw _ _ ⟨ea,p,t,H',B,U,.seen d,os,a,bk.slots (AbS hB b.fr) l,q⟩)
section
variable {target:Expr}{tW:It->St->Hp->VK->Prop} (hB:Body X) (hw:∀e s',FlX X E' e s'->X.xe e s') (hk:scope.kind=.function) (hn:∀y∈scope.names,y.2=.local->scope.names.lookup y.1=some .local)
 (hfr:∀y∈scope.names,y.2=.free->X.env.scope.names.lookup y.1=some .cell/\scope.names.lookup y.1=some .free) (hi:PI X target iter wi)
include hB hw hk hn hfr hi in
include hB hw hk hn hfr hi in
theorem Aro(B:Blk X target iter elt ifs scope pos (Aft X E') tW)(F:X.N.Nodup)(d:X.N[i]?=some y)(r:X.env.scope.names.lookup y=some .local)
  (a:swapsWith (.ListComp elt [⟨target,iter,ifs,0⟩] scope pos) (some (.Name y py)) spos.line X.env=pure true) (q:∀x,foldedSetIterable iter X.env x=pure x) :
  PS X (.Assign [.Name y py] (.ListComp elt [⟨target,iter,ifs,0⟩] scope pos) spos) (Aby (λσ H Q=>wi σ H λJ H1=>tW J σ H1 Q) (HB i)):=by
 intro pins s σ H Dn I h;rw[exec_Assign_Name_used _ _ _ _ a];refine zA (wpAny_standAt (zA ?_));obtain⟨cl,u,e2,n⟩:=W8 (scope:=scope) (env:=X.env) λy d p=>I.ok.has y.1 (.inl (hfr y d p).1);show wpAny _ X.A (do let _ <-comprehension (.ListComp elt [⟨target,iter,ifs,0⟩] scope pos) scope X.env _ (newList []) false (eval iter X.env) (some (assign (.Name y py) X.env))) _ _ s;refine zA (thn (AjF (use:=some (assign (.Name y py) X.env)) (Q:=λ_ s'=>SP X pins Dn .next s') U q u hk hn
  (thn (hi pins s σ H _ I h) λv K h1=>thn h1 λE G ⟨it,fp,L,J,H2,e,j,T,c,l,o⟩=>?_)) λ_ s' b=>zE (zE b));subst e;exact B (RR:=λacc C f=>Aaa (model X.prog X.w) X.A X.xe (some (assign (.Name y py) X.env)) (λ_ s'=>SP X pins Dn .next s') acc C f) e2 n j T c l o (λD C s' m hn b z=>Acs F d r j hn b z) λD C e s' h=>Axj hB hw h
end
theorem Arp(hB:Body X){R:NU}(I:Inv X pins σ H s)(a:∀b∈fp,Q6 X pins H b)(h:s.heap.objs.size<=C)(f:cenv.frame=X.env.frame)(k:∀e s',Aft X E' C e s'->R e s')(e:N0)(s':Nw)(c:YX X fp C s H E' e s') :
  notedBy (model X.prog X.w) X.A cenv R e s':=Axi hB I a h f c λd q=>k e d q
theorem AcJ{x:Str}{px:Pos}{Bp:NV}{tc:TT}(hB:Body X)(hw:∀e s',FlX X E' e s'->X.xe e s')(O:CJ X x Nc Bp scope)(hc:X.calm=true)
  (c:X.N.Nodup) (f:X.N[i]?=some y) (d:X.env.scope.names.lookup y=some .local) (hi:PI X (.Name x px) iter wi)
  (htc:∀cl C fp s H,PIf (Agm X Nc scope cl C fp s H E') ifs tc) (hte:∀cl C fp s H,PE (Agm X Nc scope cl C fp s H E') elt te)
  (a:swapsWith (.ListComp elt [⟨.Name x px,iter,ifs,0⟩] scope pos) (some (.Name y py)) spos.line X.env=pure true) (b:∀x,foldedSetIterable iter X.env x=pure x:=by intro _;rfl) :
  PS X (.Assign [.Name y py] (.ListComp elt [⟨.Name x px,iter,ifs,0⟩] scope pos) spos) (Aby (AeW wi Bp tc te) (HB i)):=Aro hB hw O.kind O.names O.fr hi (Blk.imp (Ate (λC fp s H=>YX X fp C s H E') O.g O.cell hc (λk _ _ _ _ _=>AfR k O.nd O.hd O.loc) htc hte (Arp hB)) Anw) c f d a b
end L2
set_option maxHeartbeats 4000000
namespace Mine
open PySem L2
variable {fd:No}{ps:List (NV×Str)}{P:Program}{w:World}{mg:Str->Na}{n p c d i m e j:Nat}{u sg b us y v z ns n1 ds:NV}{l r a dx q B C kp li f l9 q9 M L fa:Nn}{H H1 H2 H' A H3 G H0 G':Hp}{o:HO}{Q:VK}{E:XK}{x ls al zs ws:NI}{xs ys:List It}{ts:List Nd}{vs:LI}{R Kt:St->Hp->Prop}{as rs qs cs ms:NW}{ks ss th:NF}{s:Wk}{F:Nn->Prop}{CX:CXT}{tss:NA}{wd due:Str}{r0 r2:Rc}{σ σ':St}{nd:Nd}
def top (i:Nat):Stmt:=PySem.Challenge.pw_heddle_k75_whole_papers_refused.main.body.getD i (.Pass ⟨0,0,0,0⟩)
abbrev AcK:Stmt:=top 16
theorem Air:Al ["cloth"] ["cloth"] (Ag AcK):=sc9
abbrev Aab:Stmt:=top 17
theorem AjG:Al ["cloth"] ["cloth"] (Ag Aab):=sc9
abbrev QF:Stmt:=top 18
theorem V5:Al ["cloth","size"] ["cloth"] (Ag QF):=sc9
abbrev OD:Stmt:=top 19
theorem HQ:Al ["texts","least","signs","ends","text"] ["texts","least","signs"] (Ag OD):=sc9
abbrev XM:Stmt:=top 20
theorem V6:Al ["text","ends","signs","sign"] ["text","ends","signs"] (Ag XM):=sc9
abbrev Tu:Stmt:=top 22
theorem Agn:Al ["cloth","end"] ["cloth","end"] (Ag Tu):=sc9
abbrev Lx:Stmt:=top 23
theorem Ab4:Al ["signs"] ["signs"] (Ag Lx):=sc9
abbrev Ago:Stmt:=top 27
theorem Ao3:Al ["draft"] ["draft"] (Ag Ago):=sc9
abbrev Rn:Stmt:=top 29
theorem Jb:Al ["threading","ties","shaft","tie"] ["threading","ties"] (Ag Rn):=sc9
abbrev JD:Stmt:=top 30
theorem SX:Al ["count"] ["count"] (Ag JD):=sc9
abbrev V7:Stmt:=top 32
theorem AcL:Al ["shaft"] ["shaft"] (Ag V7):=sc9
abbrev AaC:Stmt:=top 33
theorem XN:Al ["tie","k"] ["tie"] (Ag AaC):=sc9
abbrev OJ:Stmt:=top 34
theorem MJ:Al ["treading","treadles","treadle"] ["treading","treadles"] (Ag OJ):=sc9
abbrev Tv:Stmt:=top 35
theorem Agp:Al ["threading","lifted"] ["threading","lifted"] (Ag Tv):=sc9
abbrev Aac:Stmt:=top 42
theorem AjH:Al ["text"] ["text"] (Ag Aac):=sc9
abbrev AaD:Stmt:=top 46
theorem Agq:Al ["figures"] ["figures"] (Ag AaD):=sc9
abbrev AcM:Stmt:=top 52
theorem AaE:Al ["text","row_items"] ["text"] (Ag AcM):=sc9
abbrev QG:Stmt:=top 54
theorem Aec:Al ["row_items"] ["row_items"] (Ag QG):=sc9
abbrev V8:Stmt:=top 55
theorem Ly:Al ["row_items","written","item"] ["row_items"] (Ag V8):=sc9
abbrev Ro:Stmt:=top 56
theorem Aad:Al ["start","stop"] ["start","stop"] (Ag Ro):=sc9
abbrev AcN:Stmt:=top 57
theorem Tz:Al ["text","reader","row_items"] ["text"] (Ag AcN):=sc9
abbrev XQ:Stmt:=top 58
theorem V9:Al ["reader","depth","row_items"] ["reader","depth"] (Ag XQ):=sc9
abbrev AaF:Stmt:=top 59
theorem XR:Al ["reader","depth","first"] ["reader","depth"] (Ag AaF):=sc9
abbrev XS:Stmt:=top 60
theorem Jx:Al ["reader","count","depth","inner"] ["reader","count","depth"] (Ag XS):=sc9
abbrev AaG:Stmt:=top 61
theorem XX:Al ["reader","first","stops"] ["reader","first"] (Ag AaG):=sc9
abbrev Lz:Stmt:=top 62
theorem Ks:Al ["reader","number"] ["reader"] (Ag Lz):=sc9
abbrev K3:Stmt:=top 71
theorem Et:Al ["text","parts","threading","ties"] ["text"] (Ag K3):=sc9
abbrev Agr:Stmt:=top 77
theorem Ais:Al ["cloth","across","along","size"] ["cloth","across","along"] (Ag Agr):=sc9
abbrev JX:Stmt:=top 86
theorem Dh:Al ["pieces","ends","picks","number","piece","end_places","pick_places","cloth","owner","place","own","signs"] ["pieces","ends","picks"] (Ag JX):=sc9
abbrev T7:Stmt:=top 87
theorem Rp:Al ["owners","pieces","owner"] ["owners","pieces"] (Ag T7):=sc9
abbrev VB:Stmt:=top 88
theorem LC:Al ["piece","ends","picks","text","sign"] ["piece","ends","picks"] (Ag VB):=sc9
abbrev JZ:Stmt:=top 89
theorem Aae:Al ["owners"] ["owners"] (Ag JZ):=sc9
abbrev Afo:Stmt:=top 90
theorem AjI:Al ["pick_owner","own","end_owner","place"] ["pick_owner","own","end_owner","place"] (Ag Afo):=sc9
abbrev Yb:Stmt:=top 106
theorem Aed:Al ["ends","picks"] ["ends","picks"] (Ag Yb):=sc9
abbrev Pa:Stmt:=top 107
theorem Yc:Al ["one","other"] ["one","other"] (Ag Pa):=sc9
abbrev Afp:Stmt:=top 109
theorem AjJ:Al ["word","things"] ["word","things"] (Ag Afp):=sc9
abbrev TF:Stmt:=top 114
theorem Ab5:Al ["text","known"] ["text","known"] (Ag TF):=sc9
abbrev Yd:Stmt:=top 115
theorem Oe:Al ["text","reader","node"] ["text"] (Ag Yd):=sc9
abbrev AaH:Stmt:=top 116
theorem QH:Al ["reader","depth","word","things"] ["reader","depth"] (Ag AaH):=sc9
abbrev VD:Stmt:=top 117
theorem LK:Al ["reader","word","depth","things","kind"] ["reader","word","depth"] (Ag VD):=sc9
abbrev AaI:Stmt:=top 118
theorem Ye:Al ["reader","runs"] ["reader"] (Ag AaI):=sc9
abbrev AcO:Stmt:=top 119
theorem AaJ:Al ["reader","run"] ["reader"] (Ag AcO):=sc9
abbrev JF:Stmt:=top 120
theorem IK:Al ["reader","number"] ["reader"] (Ag JF):=sc9
abbrev Yg:Stmt:=top 122
theorem Aee:Al ["reader"] ["reader"] (Ag Yg):=sc9
abbrev QJ:Stmt:=top 123
theorem VF:Al ["node","known","things"] ["node","known"] (Ag QJ):=sc9
abbrev VG:Stmt:=top 124
theorem LQ:Al ["name","known","one","cloth"] ["name","known"] (Ag VG):=sc9
abbrev VH:Stmt:=top 125
theorem AcP:Al ["word","inner"] ["word","inner"] (Ag VH):=sc9
abbrev VJ:Stmt:=top 126
theorem AcQ:Al ["word","one","other"] ["word","one","other"] (Ag VJ):=sc9
abbrev Rq:Stmt:=top 127
theorem Aaf:Al ["word","things"] ["word","things"] (Ag Rq):=sc9
abbrev AaK:Stmt:=top 129
theorem K4:Al ["text","pairs","line","stripped"] ["text"] (Ag AaK):=sc9
abbrev TJ:Stmt:=top 130
theorem K5:Al ["line","known","place","name","rest"] ["line","known"] (Ag TJ):=sc9
abbrev Rr:Stmt:=top 131
theorem Jc:Al ["line","place","sign"] ["line"] (Ag Rr):=sc9
abbrev HR:Stmt:=top 179
theorem Og:Al ["paper","lines","book"] ["paper"] (Ag HR):=sc9
abbrev WT:Stmt:=top 180
theorem Ait:Al ["text"] ["text"] (Ag WT):=sc9
abbrev AaL:Stmt:=top 181
theorem Yh:Al ["words","book","e"] ["words","book"] (Ag AaL):=sc9
abbrev AcR:Stmt:=top 182
theorem AaM:Al ["words","book","word"] ["words","book"] (Ag AcR):=sc9
abbrev AaN:Stmt:=top 183
theorem Yi:Al ["word","things","book","cloth","layers"] ["word","things","book"] (Ag AaN):=sc9
abbrev LR:Stmt:=top 187
theorem Vs:Al ["fits"] ["fits"] (Ag LR):=sc9
abbrev Yj:Stmt:=top 189
theorem Aef:Al ["word"] ["word"] (Ag Yj):=sc9
abbrev Aiu:Stmt:=top 193
theorem Amt:Al ["script","k"] ["script","k"] (Ag Aiu):=sc9
abbrev AcS:Stmt:=top 194
theorem TQ:Al ["k","way","some","telling"] ["k","way"] (Ag AcS):=sc9
abbrev AcT:Stmt:=top 195
theorem Gv:Al ["number","ends","picks","rows","j","signs","k"] ["number","ends","picks"] (Ag AcT):=sc9
abbrev AaO:Stmt:=top 196
theorem Ags:Al ["sign"] ["sign"] (Ag AaO):=sc9
abbrev GX:Stmt:=top 197
theorem Aeg:Al ["word","rows"] ["word","rows"] (Ag GX):=sc9
abbrev QK:Stmt:=top 198
theorem TV:Al ["one","other","rows","j"] ["one","other"] (Ag QK):=sc9
abbrev Gh:Stmt:=top 199
theorem Du:Al ["cell","made","a","b","rows","first","one","second","two","word"] ["cell","made"] (Ag Gh):=sc9
abbrev Yk:Stmt:=top 200
theorem Jy:Al ["number","base","many","digits","k"] ["number","base","many"] (Ag Yk):=sc9
abbrev Gw:Stmt:=top 201
theorem Fg:Al ["cell","threading","ties","bits","treading","rows","treadle","parts"] ["cell"] (Ag Gw):=sc9
abbrev AaP:Stmt:=top 202
theorem Ec:Al ["cell","name","after","made","some"] ["cell","name","after","made"] (Ag AaP):=sc9
abbrev TX:Stmt:=top 203
theorem Ab6:Al ["cell","k","way"] ["cell","k","way"] (Ag TX):=sc9
abbrev VL:Stmt:=top 204
theorem Br:Al ["script","way","lines","made","asked","due","spot","k","rest","name","text","fault","rows","part"] ["script"] (Ag VL):=sc9
abbrev VM:Stmt:=top 205
theorem Fy:Al ["made","asked","cloths","name","rows","due"] ["made","asked"] (Ag VM):=sc9
abbrev VN:Stmt:=top 206
theorem Dv:Al ["text","refused","found"] ["text"] (Ag VN):=sc9
abbrev Asu:Stmt:=top 207
theorem Oh:Al ["script","text","made","asked","due","refused","found","answers","k"] ["script"] (Ag Asu):=sc9
abbrev Pb:Stmt:=(Dk (top 12)).getD 0 (.Pass ⟨0,0,0,0⟩)
theorem Yl:Al ["self"] ["self"] (Ag Pb):=sc9
abbrev Jd:Stmt:=(Dk (top 26)).getD 0 (.Pass ⟨0,0,0,0⟩)
theorem Ym:Al ["self","threading","ties","treading"] ["self","threading","ties","treading"] (Ag Jd):=sc9
abbrev MK:Stmt:=(Dk (top 45)).getD 0 (.Pass ⟨0,0,0,0⟩)
theorem WW:Al ["self","text"] ["self","text"] (Ag MK):=sc9
abbrev TY:Stmt:=(Dk (top 45)).getD 1 (.Pass ⟨0,0,0,0⟩)
theorem Ab7:Al ["self"] ["self"] (Ag TY):=sc9
abbrev VP:Stmt:=(Dk (top 45)).getD 2 (.Pass ⟨0,0,0,0⟩)
theorem Ua:Al ["self","wanted","behind"] ["self","wanted"] (Ag VP):=sc9
abbrev Pg:Stmt:=(Dk (top 45)).getD 3 (.Pass ⟨0,0,0,0⟩)
theorem MN:Al ["self","signs","begin"] ["self","signs"] (Ag Pg):=sc9
abbrev Rt:Stmt:=(Dk (top 45)).getD 4 (.Pass ⟨0,0,0,0⟩)
theorem Aag:Al ["self"] ["self"] (Ag Rt):=sc9
abbrev Ru:Stmt:=(Dk (top 50)).getD 0 (.Pass ⟨0,0,0,0⟩)
theorem Aah:Al ["self","stops"] ["self","stops"] (Ag Ru):=sc9
abbrev AaQ:Stmt:=(Dk (top 50)).getD 1 (.Pass ⟨0,0,0,0⟩)
theorem K6:Al ["self","total","k"] ["self"] (Ag AaQ):=sc9
abbrev Ub:Stmt:=(Dk (top 50)).getD 2 (.Pass ⟨0,0,0,0⟩)
theorem Ka:Al ["self","written","stop"] ["self"] (Ag Ub):=sc9
abbrev Ph:Stmt:=(Dk (top 51)).getD 0 (.Pass ⟨0,0,0,0⟩)
theorem Yn:Al ["self","count","inner"] ["self","count","inner"] (Ag Ph):=sc9
abbrev Yo:Stmt:=(Dk (top 51)).getD 1 (.Pass ⟨0,0,0,0⟩)
theorem Aeh:Al ["self"] ["self"] (Ag Yo):=sc9
abbrev Rv:Stmt:=(Dk (top 51)).getD 2 (.Pass ⟨0,0,0,0⟩)
theorem Aai:Al ["self"] ["self"] (Ag Rv):=sc9
abbrev Pj:Stmt:=(Dk (top 92)).getD 0 (.Pass ⟨0,0,0,0⟩)
theorem Yp:Al ["self","texts","writing"] ["self","texts","writing"] (Ag Pj):=sc9
abbrev Yq:Stmt:=(Dk (top 92)).getD 1 (.Pass ⟨0,0,0,0⟩)
theorem Aei:Al ["self"] ["self"] (Ag Yq):=sc9
abbrev Yr:Stmt:=(Dk (top 92)).getD 2 (.Pass ⟨0,0,0,0⟩)
theorem Aej:Al ["self"] ["self"] (Ag Yr):=sc9
abbrev VR:Stmt:=(Dk (top 92)).getD 4 (.Pass ⟨0,0,0,0⟩)
theorem AcU:Al ["self"] ["self"] (Ag VR):=sc9
abbrev Ys:Stmt:=(Dk (top 92)).getD 5 (.Pass ⟨0,0,0,0⟩)
theorem Aek:Al ["self"] ["self"] (Ag Ys):=sc9
abbrev Pn:Stmt:=(Dk (top 93)).getD 0 (.Pass ⟨0,0,0,0⟩)
theorem Yt:Al ["self","name","known_cloth"] ["self","name","known_cloth"] (Ag Pn):=sc9
abbrev Kc:Stmt:=(Dk (top 94)).getD 0 (.Pass ⟨0,0,0,0⟩)
theorem Aaj:Al ["self","runs"] ["self","runs"] (Ag Kc):=sc9
abbrev Je:Stmt:=(Dk (top 95)).getD 0 (.Pass ⟨0,0,0,0⟩)
theorem Gk:Al ["self","over","under","size","first","texts"] ["self","over","under"] (Ag Je):=sc9
abbrev HS:Stmt:=(Dk (top 97)).getD 0 (.Pass ⟨0,0,0,0⟩)
theorem Ma:Al ["self","one","other","texts"] ["self","one","other"] (Ag HS):=sc9
abbrev Pu:Stmt:=(Dk (top 98)).getD 0 (.Pass ⟨0,0,0,0⟩)
theorem Yu:Al ["self","one","other"] ["self","one","other"] (Ag Pu):=sc9
abbrev HW:Stmt:=(Dk (top 99)).getD 0 (.Pass ⟨0,0,0,0⟩)
theorem Mg:Al ["self","inner","texts"] ["self","inner"] (Ag HW):=sc9
abbrev Px:Stmt:=(Dk (top 100)).getD 0 (.Pass ⟨0,0,0,0⟩)
theorem Yv:Al ["self","inner"] ["self","inner"] (Ag Px):=sc9
abbrev Rx:Stmt:=(Dk (top 101)).getD 0 (.Pass ⟨0,0,0,0⟩)
theorem Aak:Al ["self","inner"] ["self","inner"] (Ag Rx):=sc9
abbrev Mh:Stmt:=(Dk (top 102)).getD 0 (.Pass ⟨0,0,0,0⟩)
theorem Vt:Al ["self","inner"] ["self","inner"] (Ag Mh):=sc9
abbrev Ry:Stmt:=(Dk (top 103)).getD 0 (.Pass ⟨0,0,0,0⟩)
theorem Py:Al ["self","inner","across","along","texts"] ["self","inner","across","along"] (Ag Ry):=sc9
abbrev Uc:Stmt:=(Dk (top 105)).getD 0 (.Pass ⟨0,0,0,0⟩)
theorem Rz:Al ["self","upper","lower","texts"] ["self","upper","lower"] (Ag Uc):=sc9
set_option genInjectivity false in
structure Adr where
 {GZ:Nn}
 {Bg:Nn}
 {HX:Nn}
 {Ed:Nn}
 {Ef:Nn}
 {Gm:Nn}
 {HY:Nn}
 {Gn:Nn}
 {Fz:Nn}
 {Ha:Nn}
 {FJ:Nn}
 {Hb:Nn}
 {Jf:Nn}
 {Ew:Nn}
 {Ia:Nn}
 {Pz:Nn}
 {Yw:Nn}
 {Agt:Nn}
 {Ib:Nn}
 {Jg:Nn}
 {PB:No}
 {Ie:Nn}
 {MP:No}
 {Ud:Nn}
 {Ue:No}
 {VV:Nn}
 {Wa:No}
 {PJ:Nn}
 {PK:No}
 {Ke:Nn}
 {Kf:No}
 {Kg:Nn}
 {R8:No}
 {AaR:Nn}
 {AaS:No}
 {Ug:Nn}
 {Uh:No}
 {Jh:Nn}
 {PN:No}
 {K7:Nn}
 {K8:No}
 {Hl:Nn}
 {Hm:No}
 {Hc:Nn}
 {PQ:No}
 {CW:Nn}
 {Yx:No}
 {CZ:Nn}
 {Yy:No}
 {Cy:Nn}
 {Wb:No}
 {Dc:Nn}
 {Yz:No}
 {Ji:Nn}
 {PX:No}
 {Kh:Nn}
 {R9:No}
 {Jj:Nn}
 {Qa:No}
 {Ig:Nn}
 {MT:No}
 {Jk:Nn}
 {Qc:No}
 {Ih:Nn}
 {Nf:No}
 {Jl:Nn}
 {Qd:No}
 {Kl:Nn}
 {RB:No}
 {Hs:Nn}
 {Mi:No}
 {Km:Nn}
 {RC:No}
 {Mj:Nn}
 {Ui:No}
 {AcV:Nn}
 {AcW:No}
 {Afq:Nn}
 {Afr:No}
 {Y0:Nn}
 {Y4:No}
 {Qe:Nn}
 {Qf:No}
 {Y5:Nn}
 {Y6:No}
 {AaT:Nn}
 {AaU:No}
 {Uj:Nn}
 {Uk:No}
 {AkA:Nn}
 {AkB:No}
 {RD:Nn}
 {RG:No}
 {JG:Nn}
 {JH:No}
 {Wc:Nn}
 {We:No}
 {AaV:Nn}
 {AaW:No}
 {Qg:Nn}
 {Qh:No}
 {AaX:Nn}
 {AaY:No}
 {Afs:Nn}
 {Afu:No}
 {AaZ:Nn}
 {Aba:No}
 {WY:Nn}
 {Xa:No}
 {K9:Nn}
 {KC:No}
 {Jz:Nn}
 {J0:No}
 {RJ:Nn}
 {RK:No}
 {AcX:Nn}
 {AcY:No}
 {Ii:Nn}
 {Ij:No}
 {Ul:Nn}
 {Um:No}
 {KD:Nn}
 {KH:No}
 {Abb:Nn}
 {Abd:No}
 {Ml:Nn}
 {Mm:No}
 {KJ:Nn}
 {KQ:No}
 {AkC:Nn}
 {AkD:No}
 {RL:Nn}
 {RM:No}
 {Uo:Nn}
 {Up:No}
 {Wf:Nn}
 {Wg:No}
 {RN:Nn}
 {RQ:No}
 {Afv:Nn}
 {Afw:No}
 {Y7:Nn}
 {Y8:No}
 {Qi:Nn}
 {Qj:No}
 {Afx:Nn}
 {Afy:No}
 {Uq:Nn}
 {Ur:No}
 {Y9:Nn}
 {YB:No}
 {Ng:Nn}
 {Nh:No}
 {Oj:Nn}
 {Ol:No}
 {Abe:Nn}
 {Abf:No}
 {AcZ:Nn}
 {Ada:No}
 {JK:Nn}
 {JL:No}
 {YD:Nn}
 {YF:No}
 {KR:Nn}
 {KY:No}
 {Wh:Nn}
 {Wi:No}
 {Wj:Nn}
 {Wl:No}
 {Wm:Nn}
 {Wn:No}
 {RW:Nn}
 {RX:No}
 {Abg:Nn}
 {Abh:No}
 {Abi:Nn}
 {Abj:No}
 {RZ:Nn}
 {Sh:No}
 {YG:Nn}
 {YH:No}
 {Adb:Nn}
 {Adc:No}
 {Abk:Nn}
 {Abl:No}
 {Ade:Nn}
 {Adf:No}
 {Abm:Nn}
 {Abn:No}
 {Mp:Nn}
 {Mq:No}
 {YJ:Nn}
 {YK:No}
 {Aiv:Nn}
 {Aiw:No}
 {Adg:Nn}
 {Adh:No}
 {Adi:Nn}
 {Adj:No}
 {Abo:Nn}
 {Abp:No}
 {YL:Nn}
 {YM:No}
 {Adk:Nn}
 {Adl:No}
 {Wo:Nn}
 {Wq:No}
 {YQ:Nn}
 {YS:No}
 {Abq:Nn}
 {Abr:No}
 {Abs:Nn}
 {Abt:No}
 {Us:Nn}
 {Ut:No}
 {Om:Nn}
 {Oo:No}
 {Oq:Nn}
 {Ot:No}
 {Ou:Nn}
 {Ov:No}
 {Asv:Nn}
 {Ao4:No}
 {Fi:Nn}
 {Dz:Nn}
 {Ca:Nn}
 {BZ:Nn}
 {BK:Nn}
 {CQ:Nn}
 {Qk:Nn}
 {Ql:No}
 {EY:Nn}
structure Txt (K:NO)(mg:Str->Na)(t:Adr):Prop where
 measured:Df K mg "measured" AcK ["cloth"] t.AcV t.AcW
 AbZ:Df K mg "back_of" Aab ["cloth"] t.Afq t.Afr
 QL:Df K mg "quarter_of" QF ["cloth"] t.Y0 t.Y4
 Ik:Df K mg "measured_texts" OD ["texts","least","signs"] t.Qe t.Qf
 QM:Df K mg "check_pick" XM ["text","ends","signs"] t.Y5 t.Y6
 Vd:Df K mg "end_signs" Tu ["cloth","end"] t.AaT t.AaU
 FW:Df K mg "turned_signs" Lx ["signs"] t.Uj t.Uk
 AkE:Df K mg "woven" Ago ["draft"] t.AkA t.AkB
 J1:Df K mg "check_setting" Rn ["threading","ties"] t.RD t.RG
 Cz:DfA K mg "check_count_drafts" "check_count" JD ["count"] t.JG t.JH
 Gx:Df K mg "check_shaft" V7 ["shaft"] t.Wc t.We
 Ve:Df K mg "check_tie" AaC ["tie"] t.AaV t.AaW
 Il:Df K mg "check_treading" OJ ["treading","treadles"] t.Qg t.Qh
 Vf:Df K mg "shed_over" Tv ["threading","lifted"] t.AaX t.AaY
 J2:Df K mg "is_name" Aac ["text"] t.Afs t.Afu
 Vg:Df K mg "number_of" AaD ["figures"] t.AaZ t.Aba
 DW:Df K mg "unfolded" AcM ["text"] t.WY t.Xa
 Ht:Df K mg "whole_size" QG ["row_items"] t.K9 t.KC
 Gy:Df K mg "all_numbers" V8 ["row_items"] t.Jz t.J0
 J3:Df K mg "steps_between" Ro ["start","stop"] t.RJ t.RK
 YT:Df K mg "read_row" AcN ["text"] t.AcX t.AcY
 Fl:Df K mg "read_items" XQ ["reader","depth"] t.Ii t.Ij
 Jm:Df K mg "read_item" AaF ["reader","depth"] t.Ul t.Um
 Mr:Df K mg "read_times" XS ["reader","count","depth"] t.KD t.KH
 Vh:Df K mg "read_path" AaG ["reader","first"] t.Abb t.Abd
 Eb:DfA K mg "read_number_rows" "read_number" Lz ["reader"] t.Ml t.Mm
 Ms:Df K mg "read_draft" K3 ["text"] t.KJ t.KQ
 AkF:Df K mg "tiled" Agr ["cloth","across","along"] t.AkC t.AkD
 J4:Df K mg "laid_together" JX ["pieces","ends","picks"] t.RL t.RM
 FZ:Df K mg "check_owners" T7 ["owners","pieces"] t.Uo t.Up
 Ni:Df K mg "check_piece" VB ["piece","ends","picks"] t.Wf t.Wg
 Fo:Df K mg "places_within" JZ ["owners"] t.RN t.RQ
 Aca:Df K mg "sign_at" Afo ["pick_owner","own","end_owner","place"] t.Afv t.Afw
 Ds:Df K mg "check_size" Yb ["ends","picks"] t.Y7 t.Y8
 Im:Df K mg "check_one_size" Pa ["one","other"] t.Qi t.Qj
 written:Df K mg "written" Afp ["word","things"] t.Afx t.Afy
 KZ:Df K mg "read_pattern" TF ["text","known"] t.Uq t.Ur
 QQ:Df K mg "read_whole" Yd ["text"] t.Y9 t.YB
 Jo:Df K mg "read_node" AaH ["reader","depth"] t.Ng t.Nh
 Np:Df K mg "read_things" VD ["reader","word","depth"] t.Oj t.Ol
 Vi:Df K mg "read_runs" AaI ["reader"] t.Abe t.Abf
 Mt:Df K mg "read_run" AcO ["reader"] t.AcZ t.Ada
 Ga:DfA K mg "read_number_reader" "read_number" JF ["reader"] t.JK t.JL
 QR:Df K mg "read_comma" Yg ["reader"] t.YD t.YF
 Hu:Df K mg "worked_out" QJ ["node","known"] t.KR t.KY
 Gz:Df K mg "known_cloth" VG ["name","known"] t.Wh t.Wi
 Nq:Df K mg "made_of_one" VH ["word","inner"] t.Wj t.Wl
 Nr:Df K mg "made_of_two" VJ ["word","one","other"] t.Wm t.Wn
 J5:Df K mg "made_of_three" Rq ["word","things"] t.RW t.RX
 Vj:Df K mg "read_book" AaK ["text"] t.Abg t.Abh
 Vk:Df K mg "read_line" TJ ["line","known"] t.Abi t.Abj
 J7:Df K mg "parting_place" Rr ["line"] t.RZ t.Sh
 QS:Df K mg "answers_to" HR ["paper"] t.YG t.YH
 words_of:Df K mg "words_of" WT ["text"] t.Adb t.Adc
 Vl:Df K mg "answer_to" AaL ["words","book"] t.Abk t.Abl
 answered:Df K mg "answered" AcR ["words","book"] t.Ade t.Adf
 Vm:Df K mg "of_a_name" AaN ["word","things","book"] t.Abm t.Abn
 Hd:DfA K mg "check_count_desk" "check_count" LR ["fits"] t.Mp t.Mq
 QT:Df K mg "check_name" Yj ["word"] t.YJ t.YK
 Ow:Df K mg "_law_at" Aiu ["script","k"] t.Aiv t.Aiw
 Hj:Df K mg "_law_name" AcS ["k","way"] t.Adg t.Adh
 YW:Df K mg "_law_rows" AcT ["number","ends","picks"] t.Adi t.Adj
 Jp:Df K mg "_law_other" AaO ["sign"] t.Abo t.Abp
 QV:Df K mg "_law_turned" GX ["word","rows"] t.YL t.YM
 YZ:Df K mg "_law_laid" QK ["one","other"] t.Adk t.Adl
 Nt:Df K mg "_law_pattern" Gh ["cell","made"] t.Wo t.Wq
 Fp:Df K mg "_law_digits" Yk ["number","base","many"] t.YQ t.YS
 Vn:Df K mg "_law_draft" Gw ["cell"] t.Abq t.Abr
 Vo:Df K mg "_law_fault" AaP ["cell","name","after","made"] t.Abs t.Abt
 La:Df K mg "_law_question" TX ["cell","k","way"] t.Us t.Ut
 Nu:Df K mg "_law_written" VL ["script"] t.Om t.Oo
 Nv:Df K mg "_law_answers" VM ["made","asked"] t.Oq t.Ot
 Nx:Df K mg "_law_reading" VN ["text"] t.Ou t.Ov
 law:Df K mg "law" Asu ["script"] t.Asv t.Ao4
 Arq:mg "ValueError"=none
 AvL:mg "abs"=none
 AvM:mg "all"=none
 Asw:mg "any"=none
 Abu:mg "enumerate"=none
 AkG:mg "int"=none
 Za:mg "isinstance"=none
 Cd:mg "len"=none
 Jq:mg "list"=none
 AxI:mg "max"=none
 AxJ:mg "min"=none
 Es:mg "range"=none
 Jr:mg "reversed"=none
 AxK:mg "set"=none
 AvN:mg "sorted"=none
 Sq:mg "str"=none
 AvO:mg "sum"=none
 Ars:mg "tuple"=none
 Ao5:mg "zip"=none
 Ek:∃tk,mg "MOST_STRANDS"=some (.int 40 tk)
 Ael:∃tk,mg "MOST_SHAFTS"=some (.int 40 tk)
 Afz:∃tk,mg "LETTERS"=some (.str "abcdefghijklmnopqrstuvwxyz" tk)
 Adm:∃tk,mg "MOST_LETTERS"=some (.int 20 tk)
 Amu:∃tk,mg "FIGURES"=some (.str "0123456789" tk)
 Adn:∃tk,mg "MOST_NUMBERS"=some (.int 400 tk)
 Qm:∃tk,mg "MOST_DEEP_rows"=some (.int 8 tk)
 Ss:∃tk,mg "BETWEEN_PARTS"=some (.str " / " tk)
 Uu:∃tk,mg "BETWEEN_TIES"=some (.str ", " tk)
 Xb:∃tk,mg "MOST_DEEP_reader"=some (.int 12 tk)
 Aix:∃tk,mg "MOST_RUNS"=some (.int 40 tk)
 AuE:∃tk,mg "COLOURS"=some (.str "abcdef" tk)
 AtQ:∃tk,mg "SHUTTLES"=some (.int 8 tk)
 Ao6:∃tk,mg "MOST_FIGURES"=some (.int 60 tk)
 Agu:mg "WeaveError"=some (.ref t.Fi)
 Agv:Exn K t.Fi
 Lb:mg "NoRow"=some (.ref t.Dz)
 J8:Exn K t.Dz
 AjK:W.mroIn K t.Dz (.ref t.Fi)=some true
 Aem:W.mroIn K t.Dz (.ref t.Dz)=some true
 Aal:W.mroIn K t.Dz (.ref t.Ca)=some false
 Ab8:W.mroIn K t.Dz (.ref t.BZ)=some false
 Zb:W.mroIn K t.Dz (.ref t.BK)=some false
 Ab9:W.mroIn K t.Dz (.ref t.CQ)=some false
 Aen:W.mroIn K t.Dz (.ref t.EY)=some false
 QW:mg "TooLarge"=some (.ref t.Ca)
 Mu:Exn K t.Ca
 Ahx:W.mroIn K t.Ca (.ref t.Fi)=some true
 Amv:W.mroIn K t.Ca (.ref t.Dz)=some false
 Vu:W.mroIn K t.Ca (.ref t.Ca)=some true
 AjL:W.mroIn K t.Ca (.ref t.BZ)=some false
 Uv:W.mroIn K t.Ca (.ref t.BK)=some false
 Xc:W.mroIn K t.Ca (.ref t.CQ)=some false
 Aam:W.mroIn K t.Ca (.ref t.EY)=some false
 Js:mg "NoDraft"=some (.ref t.BZ)
 Hx:Exn K t.BZ
 Aiy:W.mroIn K t.BZ (.ref t.Fi)=some true
 AmS:W.mroIn K t.BZ (.ref t.Dz)=some false
 Xd:W.mroIn K t.BZ (.ref t.Ca)=some false
 Zc:W.mroIn K t.BZ (.ref t.BZ)=some true
 Vv:W.mroIn K t.BZ (.ref t.BK)=some false
 Zd:W.mroIn K t.BZ (.ref t.CQ)=some false
 AbA:W.mroIn K t.BZ (.ref t.EY)=some false
 BX:mg "NoPattern"=some (.ref t.BK)
 BW:Exn K t.BK
 Agw:W.mroIn K t.BK (.ref t.Fi)=some true
 AkH:W.mroIn K t.BK (.ref t.Dz)=some false
 Aiz:W.mroIn K t.BK (.ref t.Ca)=some false
 AiY:W.mroIn K t.BK (.ref t.BZ)=some false
 Tc:W.mroIn K t.BK (.ref t.BK)=some true
 AiZ:W.mroIn K t.BK (.ref t.CQ)=some false
 AkI:W.mroIn K t.BK (.ref t.EY)=some false
 Af0:mg "Unknown"=some (.ref t.CQ)
 Qn:Exn K t.CQ
 Aan:Mf K "called" "Unknown.called" Pb ["self"] t.CQ t.Qk t.Ql
 Uw:W.mroIn K t.CQ (.ref t.Fi)=some true
 AmT:W.mroIn K t.CQ (.ref t.Dz)=some false
 AjM:W.mroIn K t.CQ (.ref t.Ca)=some false
 AkJ:W.mroIn K t.CQ (.ref t.BZ)=some false
 Vw:W.mroIn K t.CQ (.ref t.BK)=some false
 Ze:W.mroIn K t.CQ (.ref t.CQ)=some true
 AbB:W.mroIn K t.CQ (.ref t.EY)=some false
 AkK:mg "Twice"=some (.ref t.EY)
 Agx:Exn K t.EY
 AjN:W.mroIn K t.EY (.ref t.Fi)=some true
 Aqh:W.mroIn K t.EY (.ref t.Dz)=some false
 Amw:W.mroIn K t.EY (.ref t.Ca)=some false
 AmU:W.mroIn K t.EY (.ref t.BZ)=some false
 Zf:W.mroIn K t.EY (.ref t.BK)=some false
 AmV:W.mroIn K t.EY (.ref t.CQ)=some false
 Aeo:W.mroIn K t.EY (.ref t.EY)=some true
 AkL:mg "Draft"=some (.ref t.GZ)
 Ny:L2.Own K t.GZ t.Jg
 Mv:Ck K t.GZ "threading"
 Ws:Ck K t.GZ "ties"
 Nz:Ck K t.GZ "treading"
 Ai0:mg "Reader"=some (.ref t.Bg)
 Bu:L2.Own K t.Bg t.Ie
 FN:Ck K t.Bg "text"
 Dm:Ck K t.Bg "place"
 AtR:mg "Path"=some (.ref t.HX)
 QX:L2.Own K t.HX t.Kg
 Gi:Ck K t.HX "stops"
 AkM:mg "Times"=some (.ref t.Ed)
 J9:L2.Own K t.Ed t.Jh
 Mw:Ck K t.Ed "count"
 Mx:Ck K t.Ed "inner"
 Io:mg "Piece"=some (.ref t.Ef)
 Aw7:L2.Own K t.Ef t.Hc
 Ao7:Ck K t.Ef "texts"
 Amx:Ck K t.Ef "writing"
 Art:mg "Named"=some (.ref t.Gm)
 Agy:L2.Own K t.Gm t.Ji
 Ux:Ck K t.Gm "texts"
 Qo:Ck K t.Gm "writing"
 Aep:Meth K t.Gm "wide" t.CW
 Aeq:Meth K t.Gm "high" t.CZ
 Ado:Meth K t.Gm "cloth" t.Cy
 Aer:Meth K t.Gm "told" t.Dc
 AtS:mg "Rows"=some (.ref t.HY)
 AjO:L2.Own K t.HY t.Kh
 Wu:Ck K t.HY "texts"
 Su:Ck K t.HY "writing"
 Agz:Meth K t.HY "wide" t.CW
 Ag0:Meth K t.HY "high" t.CZ
 Aes:Meth K t.HY "cloth" t.Cy
 Ag1:Meth K t.HY "told" t.Dc
 Aru:mg "Twill"=some (.ref t.Gn)
 Ag2:L2.Own K t.Gn t.Jj
 Uy:Ck K t.Gn "texts"
 Qp:Ck K t.Gn "writing"
 Aet:Meth K t.Gn "wide" t.CW
 Aeu:Meth K t.Gn "high" t.CZ
 Adp:Meth K t.Gn "cloth" t.Cy
 Aev:Meth K t.Gn "told" t.Dc
 Ao8:mg "Beside"=some (.ref t.Fz)
 Adq:L2.Own K t.Fz t.Ig
 Sv:Ck K t.Fz "texts"
 N6:Ck K t.Fz "writing"
 Ads:Meth K t.Fz "wide" t.CW
 Adt:Meth K t.Fz "high" t.CZ
 AbC:Meth K t.Fz "cloth" t.Cy
 Adu:Meth K t.Fz "told" t.Dc
 Arv:mg "Above"=some (.ref t.Ha)
 Ag3:L2.Own K t.Ha t.Jk
 Uz:Ck K t.Ha "texts"
 Qq:Ck K t.Ha "writing"
 Aew:Meth K t.Ha "wide" t.CW
 Aex:Meth K t.Ha "high" t.CZ
 Adv:Meth K t.Ha "cloth" t.Cy
 Aey:Meth K t.Ha "told" t.Dc
 Ao9:mg "Mirror"=some (.ref t.FJ)
 Adw:L2.Own K t.FJ t.Ih
 Sw:Ck K t.FJ "texts"
 NB:Ck K t.FJ "writing"
 Adx:Meth K t.FJ "wide" t.CW
 Ady:Meth K t.FJ "high" t.CZ
 AbD:Meth K t.FJ "cloth" t.Cy
 Adz:Meth K t.FJ "told" t.Dc
 Arw:mg "Upend"=some (.ref t.Hb)
 Ag4:L2.Own K t.Hb t.Jl
 U0:Ck K t.Hb "texts"
 Qs:Ck K t.Hb "writing"
 Aez:Meth K t.Hb "wide" t.CW
 Ae0:Meth K t.Hb "high" t.CZ
 Ad0:Meth K t.Hb "cloth" t.Cy
 Ae1:Meth K t.Hb "told" t.Dc
 AtT:mg "Back"=some (.ref t.Jf)
 AjP:L2.Own K t.Jf t.Kl
 Ww:Ck K t.Jf "texts"
 Sx:Ck K t.Jf "writing"
 Ag5:Meth K t.Jf "wide" t.CW
 Ag6:Meth K t.Jf "high" t.CZ
 Ae2:Meth K t.Jf "cloth" t.Cy
 Ag7:Meth K t.Jf "told" t.Dc
 Amy:mg "Quarter"=some (.ref t.Ew)
 Aao:L2.Own K t.Ew t.Hs
 Qt:Ck K t.Ew "texts"
 My:Ck K t.Ew "writing"
 AbE:Meth K t.Ew "wide" t.CW
 AbF:Meth K t.Ew "high" t.CZ
 Aap:Meth K t.Ew "cloth" t.Cy
 AbG:Meth K t.Ew "told" t.Dc
 AtU:mg "Tile"=some (.ref t.Ia)
 AjQ:L2.Own K t.Ia t.Km
 Wy:Ck K t.Ia "texts"
 Sy:Ck K t.Ia "writing"
 Ag8:Meth K t.Ia "wide" t.CW
 Ag9:Meth K t.Ia "high" t.CZ
 Ae3:Meth K t.Ia "cloth" t.Cy
 AgA:Meth K t.Ia "told" t.Dc
 AvP:mg "Lay"=some (.ref t.Pz)
 AoA:L2.Own K t.Pz t.Mj
 Zg:Ck K t.Pz "texts"
 U3:Ck K t.Pz "writing"
 Ai1:Meth K t.Pz "wide" t.CW
 Ai2:Meth K t.Pz "high" t.CZ
 AgB:Meth K t.Pz "cloth" t.Cy
 Ai3:Meth K t.Pz "told" t.Dc
 GC:Av1 K t.Ef "__init__" t.Hc
 Arx:mg "WORDS"=some (.ref t.Agt)
 Ary:At2 K t.Agt (["rows","twill","satin","beside","above","mirror","upend","back","quarter","tile","blocks","lay"]:NY)
 Zh:mg "ASKED_OF_A_NAME"=some (.ref t.Ib)
 Zi:At2 K t.Ib (["cloth","layers","draft","shifts","floats"]:NY)
 Ai4:mg "THINGS"=some (.ref t.Yw)
 Ai5:Top K t.Yw ([("twill","nn"),("satin","nn"),("beside","pp"),("above","pp"),("mirror","p"),("upend","p"),("back","p"),("quarter","p"),("tile","pnn"),("blocks","ppp"),("lay","pp")]:List (Str×Str))
 Jt:Mf K "__init__" "Draft.__init__" Jd ["self","threading","ties","treading"] t.GZ t.Jg t.PB
 DX:Mf K "__init__" "Reader.__init__" MK ["self","text"] t.Bg t.Ie t.MP
 Ey:Mf K "ended" "Reader.ended" TY ["self"] t.Bg t.Ud t.Ue
 BP:Mf K "took" "Reader.took" VP ["self","wanted"] t.Bg t.VV t.Wa
 Bh:Mf K "stretch" "Reader.stretch" Pg ["self","signs"] t.Bg t.PJ t.PK
 Gf:Mf K "number" "Reader.number" Rt ["self"] t.Bg t.Ke t.Kf
 Hn:Mf K "__init__" "Path.__init__" Ru ["self","stops"] t.HX t.Kg t.R8
 U4:Mf K "size" "Path.size" AaQ ["self"] t.HX t.AaR t.AaS
 Mz:Mf K "numbers" "Path.numbers" Ub ["self"] t.HX t.Ug t.Uh
 FP:Mf K "__init__" "Times.__init__" Ph ["self","count","inner"] t.Ed t.Jh t.PN
 QZ:Mf K "size" "Times.size" Yo ["self"] t.Ed t.K7 t.K8
 Ko:Mf K "numbers" "Times.numbers" Rv ["self"] t.Ed t.Hl t.Hm
 Ci:Mf K "__init__" "Piece.__init__" Pj ["self","texts","writing"] t.Ef t.Hc t.PQ
 Eg:Mf K "wide" "Piece.wide" Yq ["self"] t.Ef t.CW t.Yx
 Eh:Mf K "high" "Piece.high" Yr ["self"] t.Ef t.CZ t.Yy
 Di:Mf K "cloth" "Piece.cloth" VR ["self"] t.Ef t.Cy t.Wb
 DG:Mf K "told" "Piece.told" Ys ["self"] t.Ef t.Dc t.Yz
 Qu:Mf K "__init__" "Named.__init__" Pn ["self","name","known_cloth"] t.Gm t.Ji t.PX
 S5:Mf K "__init__" "Rows.__init__" Kc ["self","runs"] t.HY t.Kh t.R9
 Qv:Mf K "__init__" "Twill.__init__" Je ["self","over","under"] t.Gn t.Jj t.Qa
 NK:Mf K "__init__" "Beside.__init__" HS ["self","one","other"] t.Fz t.Ig t.MT
 Qw:Mf K "__init__" "Above.__init__" Pu ["self","one","other"] t.Ha t.Jk t.Qc
 NP:Mf K "__init__" "Mirror.__init__" HW ["self","inner"] t.FJ t.Ih t.Nf
 Qx:Mf K "__init__" "Upend.__init__" Px ["self","inner"] t.Hb t.Jl t.Qd
 S6:Mf K "__init__" "Back.__init__" Rx ["self","inner"] t.Jf t.Kl t.RB
 M3:Mf K "__init__" "Quarter.__init__" Mh ["self","inner"] t.Ew t.Hs t.Mi
 S7:Mf K "__init__" "Tile.__init__" Ry ["self","inner","across","along"] t.Ia t.Km t.RC
 U5:Mf K "__init__" "Lay.__init__" Uc ["self","upper","lower"] t.Pz t.Mj t.Ui
theorem bl1{ps:NY}(h:∀a:N0,bindArgs fd ⟨[a],[]⟩=pure (ps.zip [a]))(us:NX)(c:us.length=1):bindArgs fd ⟨us,[]⟩=pure (ps.zip us):=by
 rcases us with _|⟨a,us⟩
 ·cases c
 rcases us with _|⟨b,us⟩
 ·exact h a
 ·cases c
theorem bl2{ps:NY}(h:∀a a1:N0,bindArgs fd ⟨[a,a1],[]⟩=pure (ps.zip [a,a1]))(us:NX)(c:us.length=2):bindArgs fd ⟨us,[]⟩=pure (ps.zip us):=by
 rcases us with _|⟨a,us⟩
 ·cases c
 rcases us with _|⟨a1,us⟩
 ·cases c
 rcases us with _|⟨b,us⟩
 ·exact h a a1
 ·cases c
theorem bl3{ps:NY}(h:∀a a1 a2:N0,bindArgs fd ⟨[a,a1,a2],[]⟩=pure (ps.zip [a,a1,a2]))(us:NX)(c:us.length=3):bindArgs fd ⟨us,[]⟩=pure (ps.zip us):=by
 rcases us with _|⟨a,us⟩
 ·cases c
 rcases us with _|⟨a1,us⟩
 ·cases c
 rcases us with _|⟨a2,us⟩
 ·cases c
 rcases us with _|⟨b,us⟩
 ·exact h a a1 a2
 ·cases c
theorem bl4{ps:NY}(h:∀c a1 a2 a3:N0,bindArgs fd ⟨[c,a1,a2,a3],[]⟩=pure (ps.zip [c,a1,a2,a3]))(us:NX)(a:us.length=4):bindArgs fd ⟨us,[]⟩=pure (ps.zip us):=by
 rcases us with _|⟨c,us⟩
 ·cases a
 rcases us with _|⟨a1,us⟩
 ·cases a
 rcases us with _|⟨a2,us⟩
 ·cases a
 rcases us with _|⟨a3,us⟩
 ·cases a
 rcases us with _|⟨b,us⟩
 ·exact h c a1 a2 a3
 ·cases a
section
variable {K:NO}{base:Heap}{t:Adr}
inductive Amz (z:Str)(vs:LI)(H:Hp)(Q:VK)(z3:XK):Prop
|mk(v:_)(_:vs=[v])(_:Q (.str z) H)
theorem Xe(T:Txt K mg t):AnF P w K mg base t.Qk t.Ql ["self"] (Amz "Unknown"):=
 T.Aan.F.okH Yl (λvs H Q E h=>by obtain⟨v,rfl,_⟩:=h;rfl) λa A outer s H vs Q E h=>by
  obtain⟨v,rfl,k⟩:=h;exact⟨_,Ad (Az Af),k⟩
end
seal PE PT PW PA PS PSs PC PG PGs AwK PIp AwM PIE PI PO PEX PSX AqG
section
variable {K:NO}{base:Heap}{t:Adr}
def rf (u:NV)(p:Nat):List (Str×V):=[("text",.str (tx u)),("place",.int (p:Int))]
def Rd (t:Adr)(H:Hp)(r dx:Nn)(u:NV)(p:Nat):Prop:=H r=some (.ins t.Bg dx (rf u p))/\p<=u.length/\u.length<=1000000
theorem Zj(u:NV)(p:Nat):(rf u p).lookup ("text":Str)=some (V.str (tx u)):=rfl
theorem JM(u:NV)(p:Nat):(rf u p).lookup ("place":Str)=some (V.int (p:Int)):=rfl
theorem AtV(u:NV)(p q:Nat):O1 "place" (.int (q:Int)) (rf u p)=rf u q:=rfl
theorem big(h:n<=1000000):n<=sizeLine:=Ayh h Ap
inductive AoB (t:Adr)(vs:LI)(H:Hp)(Q:VK)(z3:XK):Prop
|mk(r:_)(dx:_)(u:_)(p:_)(_:vs=[.ref r])(_:Rd t H r dx u p)(_:Q (.bl (decide (p=u.length))) H)
theorem Kq(T:Txt K mg t):Bm P w K mg base CX0 1 t.Ud t.Ue ["self"] (AoB t):=by
 refine T.Ey.F.ok Ab7 ?_;rintro _ _ _ _ H _ Q E f ⟨r,dx,u,p,rfl,⟨a,d,b⟩,k⟩;refine⟨_,(Ad (Az (Jv Cj (Dt (K:=K) (pv 0) U) (Bb BL U T.Cd Bv (Aa (Dt (K:=K) (pv 0) U) Ab)) (Av _)))),_,U,_,_,_,_,_,U,a,T.Bu.c,T.Dm,JM u p,_,U,_,_,_,_,_,U,a,T.Bu.c,T.FN,Zj u p,_,U,(by rw[Ba];exact big b),U,?_⟩;have e:decide (V.int (p:Int)=V.int ((tx u).length:Int))=decide (p=u.length):=by
  rw[Ba];apply z5.mpr;constructor
  ·intro z;injection z with z;omega
  ·intro z;rw[z]
 rw[e];exact k
inductive AgC (t:Adr)(vs:LI)(H:Hp)(Q:VK)(z3:XK):Prop
|mk(r:_)(dx:_)(u:_)(p:_)(v:_)(_:vs=[.ref r,.str (tx v)])(_:Rd t H r dx u p)(_:v.length<=100)(_:((u.drop p).take v.length=v->Q (.bl true) (upd H r (.ins t.Bg dx (rf u (p+v.length))))))(_:((u.drop p).take v.length≠v->Q (.bl false) H))
theorem AkN(h:p<=u.length):Tr u (some (p:Int)) (some ((p:Int)+(n:Int)))=(u.drop p).take n:=by
 unfold Tr;rw[show((p:Int)+(n:Int))=((p+n:Nat):Int) by omega,HT.Kw,HT.Kw,AyN h];by_cases h2:p+n<=u.length
 ·rw[AyN h2,Nat.add_sub_cancel_left]
 ·rw[Nat.min_eq_right Au,Ayy (by rw[Ays];omega),Ayy (by rw[Ays];omega)]
theorem DY(T:Txt K mg t):Bm P w K mg base CX0 1 t.VV t.Wa ["self","wanted"] (AgC t):=by
 refine T.BP.F.ok Ua ?_;rintro _ _ _ _ H _ Q E f ⟨r,dx,u,p,v,rfl,⟨a,d,b⟩,e,k1,k2⟩;refine⟨_,(Ac (Bd (i:=2) Ua.nd U NN (Ak Em (Dt (K:=K) (pv 0) U) (Bb BL U T.Cd Bv (Aa (pv 1) Ab))))
  (Ac (Bl (Ai Lh (Gq WM (Dt (K:=K) (pv 0) U) (GP (Dt (K:=K) (pv 0) U)) (GP (pv 2))) (pv 1) (Av _))
   (Ad (Az AeN))
   Aq)
  (Ac (HJ (K:=K) (pv 0) (pv 2))
  (Ad (Az AeN))))),?_⟩;refine⟨_,U,_,_,_,_,_,U,a,T.Bu.c,T.Dm,JM u p,_,U,_,U,(by rw[Ba];exact big Au),_,_,U,U,?_⟩;rw[Ba];refine⟨_,U,_,_,_,_,_,U,a,T.Bu.c,T.FN,Zj u p,_,U,_,_,_,_,_,U,a,T.Bu.c,T.Dm,JM u p,_,U,_,U,_,U,u,U,big b,_,U,U,_,U,?_⟩;rw[AkN d];by_cases hc:(u.drop p).take v.length=v
 ·refine Vz (by rw[hc]) ⟨_,U,_,U,_,_,_,_,U,a,T.Bu.c,T.Dm,(by show 2<1000;decide),?_⟩;show Q (.bl true) (upd H r (.ins t.Bg dx (O1 ("place":Str) (.int ((p:Int)+(v.length:Int))) (rf u p))));rw[show((p:Int)+(v.length:Int))=((p+v.length:Nat):Int) by omega,AtV];exact k1 hc
 ·exact Acy (λz=>hc (by injection z with z;exact Ja z)) (k2 hc)
def dg (c:Nat):Bool:=decide (48<=c/\c<=57)
def Hy (l:NV):NV:=l.takeWhile dg
def AgD (v:NV):V:=if (1<=v.length/\v.length<=2)/\¬(v.length=2/\v[0]?=some 48) then .int ((PySem.NumText.digitsVal v:Nat):Int) else .non
theorem AkO:∀(l:NV)(n:Nat),n<=l.length->(∀c∈l.take n,dg c=true)->(∀c,l[n]?=some c->dg c=false)->Hy l=l.take n
 |[],n,h,_,_=>by simp[Hy]
 |c::l,0,_,_,h2=>by
  unfold Hy;rw[AyH,h2 c rfl];rfl
 |c::l,n+1,h,h1,h2=>by
  have hc:dg c=true:=h1 c AB;have:=AkO l n (by simpa using h) (λd a=>h1 d (by rw[AyG];exact AxY _ a)) (λd a=>h2 d (by simpa using a));unfold Hy at this ⊢;rw[AyH,yF hc,this,AyG]
theorem Arz{l:NV}:∀c∈Hy l,48<=c/\c<=57:=λc hc=>by
 have h:dg c=true:=by
  unfold Hy at hc
  induction l with
  |nil=>simp at hc
  |cons a l b =>
   rw[AyH]at hc;split at hc
   next ha =>
    rcases yC.mp hc with e|e
    ·rw[e];exact ha
    ·exact b e
   next=>simp at hc
 exact yN h
theorem AoC(h:H r=some o):upd H r o=H:=by
 funext b
 unfold upd;split
 next e=>rw[e,h]
 next=>rfl
theorem z48(c:Nat):(V.str ⟨#[c]⟩:V)=V.str "0" ↔ c=48:=by
 have e:(("0":Str))=tx [48]:=At
 rw[e];exact⟨λz=>by injection z with z;exact(yS (Ja (a:=[c]) (b:=[48]) z)).1,λz=>by rw[z];rfl⟩
inductive AoD (vs:LI)(H:Hp)(Q:VK)(z3:XK):Prop
|mk(v:NV)(_:vs=[.str (tx v)])(_:(∀c∈v,48<=c/\c<=57))(_:v.length<=1000000)(_:Q (AgD v) H)
theorem AgE(T:Txt K mg t):Bm P w K mg base CX0 1 t.AaZ t.Aba ["figures"] AoD:=by
 refine T.Vg.F.ok Agq ?_;rintro _ _ _ _ H _ Q E h ⟨v,rfl,d,e,k⟩;have sz:(tx v).length<=sizeLine:=by rw[Ba];exact big e
 refine⟨_,(Ac (Bl (PW.pt (pw_or (Ai Hf (Bb BL U T.Cd Bv (Aa (pv 0) Ab)) Ah (Av _)) (pw_or1 (Ai HD (Bb BL U T.Cd Bv (Aa (pv 0) Ab)) Ah (Av _)))))
   (Ad (Az W3))
   Aq)
  (Ac (Bl (PW.pt (pw_and (Ai Cj (Bb BL U T.Cd Bv (Aa (pv 0) Ab)) Ah (Av _)) (pw_and1 (Ai Cj (Bq JS (pv 0) Ah (λ_ _=>rfl)) Af (Av _)))))
   (Ad (Az W3))
   Aq)
  (Ad (Az (BR AlS U T.AkG AfW (Aa (pv 0) Ab)))))),?_⟩;unfold AgD at k;refine⟨_,U,_,U,sz,_,_,U,U,_,U,?_⟩;rw[Ba];refine CP (λc1=>?_) (λc1=>?_)
 ·refine Kz ?_;rw[yE Au]at k;exact k
 ·refine⟨_,U,_,U,sz,_,_,U,U,_,U,?_⟩;rw[Ba];refine CP (λc=>?_) (λc=>?_)
  ·rw[yE Au]at k;exact k
  ·refine⟨_,U,_,U,sz,U,_,U,?_⟩;rw[Ba];have fin:¬(v.length=2/\v[0]?=some 48)->Aa9 [V.str (tx v)] H Q:=λc3=>by
    rw[yF ⟨Au,c3⟩]at k;refine⟨tx v,_,U,PySem.intText_digits (x:=tx v) (by rw[Fv];exact d) (by rw[Fv];intro z;rw[z]at c1;simp at c1) (by rw[Ba];omega),by rw[Ba];omega,?_⟩;rw[Fv];exact k
   refine CP (λc3=>?_) (λc3=>?_)
   ·have f:v.length=2:=by injection c3 with c3;omega
    have b:0<v.length:=Au
    refine⟨_,U,_,_,v[0],U,U,sz,Bw Ap (by rw[Fv];exact AxT b),U,_,U,?_⟩;refine CP (λa=>?_) (λa=>?_)
    ·rw[yE (λz=>z.2 ⟨f,by rw[AxT b,(z48 _).mp a]⟩)]at k;exact k
    ·exact⟨_,U,fin λz=>a ((z48 _).mpr (by have:=z.2;rw[AxT b]at this;exact yI this))⟩
   ·exact GQ ⟨_,U,fin λz=>c3 (by rw[z.1];rfl)⟩
theorem Dl(u:NV)(p:Nat):(rf u p).lookup ("ended":Str)=none/\(rf u p).lookup ("took":Str)=none/\(rf u p).lookup ("number":Str)=none/\(rf u p).lookup ("stretch":Str)=none:=⟨U,U,U,U⟩
theorem M4(T:Txt K mg t):Bm P w K mg base CX0 1 t.Ie t.MP ["self","text"] (λvs H Q E=>∃(r dx:Nn)(u:NV),vs=[.ref r,.str (tx u)]/\H r=some (.ins t.Bg dx [])/\Q .non (upd H r (.ins t.Bg dx (rf u 0)))):=by
 refine T.DX.F.ok WW (len:=λ_ _ _ _ h=>by obtain⟨_,_,_,e,_⟩:=h;subst e;rfl) ?_;rintro _ _ _ _ H _ Q E a ⟨r,dx,u,rfl,h1,k⟩;refine⟨_,(Ac (HJ (K:=K) (pv 0) (pv 1))
  (Ad (HJ (K:=K) (pv 0) Ah))),?_⟩;refine⟨_,U,_,U,_,_,_,_,U,h1,T.Bu.c,T.FN,Ap,_,U,_,_,_,_,U,Ae,T.Bu.c,T.Dm,(by show 1<1000;decide),?_⟩;rw[Kv];exact k
def stp (sg l:NV):NV:=l.takeWhile λc=>decide (c∈sg)
theorem AjR{sg:NV}:∀(l:NV)(n:Nat),n<=l.length->(∀c∈l.take n,c∈sg)->(∀c,l[n]?=some c->c∉sg)->stp sg l=l.take n
 |[],n,h,_,_=>by simp[stp]
 |c::l,0,_,_,h2=>by
  unfold stp;rw[AyH,yE (by rw[decide_eq_true_eq];exact h2 c U)];rfl
 |c::l,n+1,h,h1,h2=>by
  have hc:c∈sg:=h1 c AB;have:=AjR (sg:=sg) l n (by simpa using h) (λd a=>h1 d (by rw[AyG];exact AxY _ a)) (λd a=>h2 d (by simpa using a));unfold stp at this ⊢;rw[AyH,yF (zN hc),this,AyG]
theorem AgF{a:NV}(h1:∀c∈a,c∈sg)(h2:∀c,b[0]?=some c->c∉sg):stp sg (a++b)=a:=by have:=AjR (sg:=sg) (a++b) a.length AB (λc hc=>h1 c (by rw[List.take_left' rfl]at hc;exact hc)) (λc hc=>h2 c (by rw[Aym (AxU _),AyJ]at hc;exact hc));rw[this,List.take_left' rfl]
theorem AkP(sg:NV):∀(l:NV),(∀c∈stp sg l,c∈sg)/\(stp sg l).length<=l.length
 |[]=>⟨λc hc=>(by cases hc),AxU _⟩
 |a::l=>by
  have b:=AkP sg l;unfold stp at b ⊢;rw[AyH];by_cases h:a∈sg
  ·rw[yF (zN h)];refine⟨λc hc=>?_,by simp only [AxX];omega⟩;rcases yC.mp hc with e|e
   ·rw[e];exact h
   ·exact b.1 c e
  ·rw[yE (by rw[decide_eq_true_eq];exact h)];exact⟨λc hc=>(by cases hc),Ayf _⟩
theorem Ad1(sg:NV)(c:Nat):(!(Builtin.Str.occurrences (tx sg) ⟨#[c]⟩ 0 (tx sg).length 1).isEmpty)=decide (c∈sg):=by rw[StrLaws.found_one,Fv]
inductive Ad2 (t:Adr)(vs:LI)(H:Hp)(Q:VK)(z3:XK):Prop
|mk(r:_)(dx:_)(u:_)(p:_)(sg:_)(_:vs=[.ref r,.str (tx sg)])(_:Rd t H r dx u p)(_:sg.length<=1000)(_:Q (.str (tx (stp sg (u.drop p)))) (upd H r (.ins t.Bg dx (rf u (p+(stp sg (u.drop p)).length)))))
theorem Cr(T:Txt K mg t):Bm P w K mg base CX0 2 t.PJ t.PK ["self","signs"] (Ad2 t):=by
 refine T.Bh.F.ok MN ?_;rintro _ _ _ _ H _ Q E A ⟨r,dx,u,p,sg,rfl,⟨f,q,j⟩,s,k⟩;refine⟨_,(Ac (Bd (i:=2) MN.nd U NN (Dt (K:=K) (pv 0) U))
  (Ac (Xn yJ (PW.pt (pw_and (Hr (Fb (Th (pv 0) T.Bu.c T.Ey.m ((Kq T).mono Ap) A T.Ey.b .nil Ay))) (pw_and1 (Ai ZC (Bq JS (Dt (K:=K) (pv 0) U) (Dt (K:=K) (pv 0) U) (λ_ _=>rfl)) (pv 1) U))))
   (Ad (Aju (K:=K) (pv 0) Ah AsX)))
  (Ad (Az (Gq WM (Dt (K:=K) (pv 0) U) (GP (pv 2)) (GP (Dt (K:=K) (pv 0) U))))))),?_⟩;refine⟨_,U,_,_,_,_,_,U,f,T.Bu.c,T.Dm,JM u p,?_⟩;refine⟨λm σ H2=>∃n,σ=[some (.ref r),some (.str (tx sg)),some (.int (p:Int))]/\H2=upd H r (.ins t.Bg dx (rf u (p+n)))/\p+n<=u.length/\(∀c∈(u.drop p).take n,c∈sg)/\m=u.length-(p+n),
  ⟨_,0,U,(AoC f).symm,q,(λc hc=>by simp at hc),U⟩,?_⟩;rintro m σ H2 ⟨n,rfl,rfl,hn,o,rfl⟩;have a:(upd H r (.ins t.Bg dx (rf u (p+n)))) r=some (.ins t.Bg dx (rf u (p+n))):=Ae;have d:(∀c,(u.drop p)[n]?=some c->c∉sg)->(u.drop p).take n=stp sg (u.drop p):=λy=>(AjR _ n (by rw[Ays];omega) o y).symm;have v:((u.drop p).take n).length=n:=by rw[Ayc,Ays];omega
 have x:Tr u (some (p:Int)) (some ((p+n:Nat):Int))=(u.drop p).take n:=by rw[Int.natCast_add];exact AkN q
 have fin:(u.drop p).take n=stp sg (u.drop p)->Q (.str (tx (Tr u (some (p:Int)) (some ((p+n:Nat):Int))))) (upd H r (.ins t.Bg dx (rf u (p+n)))):=λe2=>by
  have z:(stp sg (u.drop p)).length=n:=by rw[<-e2,v]
  rw[x,e2];rw[z]at k;exact k
 refine⟨_,U,r,dx,rf u (p+n),U,a,(Dl u _).1,r,dx,u,p+n,U,⟨a,hn,j⟩,_,U,?_⟩;by_cases c1:p+n=u.length
 ·rw[zN c1];refine GQ (GQ ?_);exact⟨_,U,_,_,_,_,_,U,a,T.Bu.c,T.FN,Zj u _,_,U,_,U,_,U,_,_,_,_,_,U,a,T.Bu.c,T.Dm,JM u _,_,U,u,U,big j,
   fin (d λc hc=>by rw[AyK (by rw[Ays];omega)]at hc;cases hc)⟩
 ·rw[zJ c1];refine Kz ?_;have e:p+n<u.length:=Au
  refine⟨_,U,_,_,_,_,_,U,a,T.Bu.c,T.FN,Zj u _,_,U,_,_,_,_,_,U,a,T.Bu.c,T.Dm,JM u _,_,_,u[p+n],U,U,(by rw[Ba];exact big j),
   Bw Au (by rw[Ayi,Fv];exact AxT e),_,U,_,_,U,U,_,U,?_⟩;rw[Ad1];refine CP (λl=>?_) (λl=>?_)
  ·refine⟨_,λσ' H' h=>h,_,U,_,_,_,_,_,U,a,T.Bu.c,T.Dm,JM u _,_,_,U,U,dx,rf u (p+n),a,(by show 2<1000;decide),u.length-(p+(n+1)),Au,n+1,U,?_,Au,λc hc=>?_,U⟩
   ·rw[Kv];rfl
   ·rw[Aya,AyS,AxT e]at hc;rcases zG.mp hc with h|h
    ·exact o c h
    ·rw[show c=u[p+n] by simpa using h];exact l
  ·exact⟨_,U,_,_,_,_,_,U,a,T.Bu.c,T.FN,Zj u _,_,U,_,U,_,U,_,_,_,_,_,U,a,T.Bu.c,T.Dm,JM u _,_,U,u,U,big j,
    fin (d λc hc=>by rw[AyS,AxT e]at hc;cases hc;exact l)⟩
def Ai6:NV:=[48,49,50,51,52,53,54,55,56,57]
theorem AtW:(("0123456789":Str))=tx Ai6:=At
theorem Ad3:c∈Ai6↔48<=c/\c<=57:=by rw[show Ai6=List.range' 48 10 from U,List.mem_range'_1];omega
inductive Am0 (t:Adr)(vs:LI)(H:Hp)(Q:VK)(z3:XK):Prop
|mk(r:_)(dx:_)(u:_)(p:_)(_:vs=[.ref r])(_:Rd t H r dx u p)(_:Q (AgD (stp Ai6 (u.drop p))) (upd H r (.ins t.Bg dx (rf u (p+(stp Ai6 (u.drop p)).length)))))
theorem Qy(T:Txt K mg t):Bm P w K mg base CX0 3 t.Ke t.Kf ["self"] (Am0 t):=by refine T.Gf.F.ok Aag ?_;rintro _ _ _ _ H _ Q E e ⟨r,dx,u,p,rfl,a,k⟩;refine⟨_,(Ad (Az (Aj ((AgE T).mono Ap) e U T.Vg.m T.Vg.F.kp T.Vg.b .nil Ay (Aa (El (pv 0) T.Bu.c T.Bh.m ((Cr T).mono Ap) e T.Bh.b .nil Ay (Aa (Ce (v:=.str "0123456789") U T.Amu.choose_spec ⟨_,U⟩) Ab)) Ab)))),?_⟩;have d:=AkP Ai6 (u.drop p);exact⟨_,U,r,dx,rf u p,U,a.1,(Dl u p).2.2.2,r,dx,u,p,Ai6,(by rw[AtW];rfl),a,Ap,_,U,λc hc=>Ad3.mp (d.1 c hc),by have:=a.2.2;have:=d.2;rw[Ays]at this;omega,k⟩
def BV (r:Nn)(H H':Hp):Prop:=∀b o,b≠r->H b=some o->H' b=some o
theorem BV.trans(a:BV r H H1)(b:BV r H1 H2):BV r H H2:=λc o n e=>b c o n (a c o n e)
theorem BV.upd:BV r H (L2.upd H r o):=λb o' n e=>by rw[Ao n];exact e
theorem AbV(f:Nat->Bool):∀l:NV,l.drop (l.takeWhile f).length=l.dropWhile f
 |[]=>rfl
 |a::l=>by
  rw[AyH,AzB];cases f a with
  |true=>exact AbV f l
  |false=>rfl
theorem behind(f:Nat->Bool)(a:p<=u.length):u.drop (p+((u.drop p).takeWhile f).length)=(u.drop p).dropWhile f/\p+((u.drop p).takeWhile f).length<=u.length:=by refine⟨by rw[<-AyO,AbV],?_⟩;have:= (List.takeWhile_prefix f (l:=u.drop p)).length_le;rw[Ays]at this;lia
theorem Am1:((",":Str))=tx [44]:=At
theorem Ai7:(("(":Str))=tx [40]:=At
theorem Am2:((")":Str))=tx [41]:=At
theorem AoE{a:NV}(d:Rd t H r dx u p)(c:u.drop p=a++b):BV r H (L2.upd H r (.ins t.Bg dx (rf u (p+a.length))))/\Rd t (L2.upd H r (.ins t.Bg dx (rf u (p+a.length)))) r dx u (p+a.length)/\u.drop (p+a.length)=b:=by have:= congrArg List.length c;have:= d.2.1;rw[Ays,AxS]at *;exact⟨BV.upd,⟨Ae,AA,d.2.2⟩,by rw[<-AyO,c,Az0]⟩
theorem S8{a:NV}(c:Rd t H r dx u p)(e:u.drop p=a++b)(f:stp sg (a++b)=a)(h:sg.length<=1000)(k:∀H1 p1,BV r H H1->Rd t H1 r dx u p1->u.drop p1=b->Q (.str (tx a)) H1):Ad2 t [.ref r,.str (tx sg)] H Q E:=by obtain⟨s,R,d⟩:=AoE c e;exact⟨r,dx,u,p,sg,U,c,h,by rw[e,f];exact k _ _ s R d⟩
theorem AkQ(e:Rd t H r dx u p)(f:u.drop p=c::b)(k:∀H1 p1,BV r H H1->Rd t H1 r dx u p1->u.drop p1=b->Q (.bl true) H1):AgC t [.ref r,.str (tx [c])] H Q E:=by obtain⟨s,R,d⟩:=AoE (a:=[c]) e f;exact⟨r,dx,u,p,[c],U,e,AB,λ_=>k _ _ s R d,λn=>yG (by rw[f];rfl) n⟩
theorem Asx(a:Rd t H r dx u p)(b:(u.drop p)[0]?≠some c)(k:Q (.bl false) H):AgC t [.ref r,.str (tx [c])] H Q E:=by
 refine⟨r,dx,u,p,[c],U,a,AB,λe=>yG ?_ b,λ_=>k⟩;cases h:u.drop p with
 |nil=>simp_all
 |cons x l=>simp_all
def Stq (l:NV):Prop:=∀c,l[0]?=some c->c=44\/c=41\/c=58
def Nk (l:NV):Prop:=l[0]?≠some 32
theorem Stq.nk{l:NV}(h:Stq l):Nk l:=λe=>by have:=h 32 e;lia
theorem Nb.nk{l:NV}(h:Nb l):Nk (l++b):=by obtain⟨c,l,rfl,h⟩:=h;exact λe=>h (yI e)
theorem AoF{a:NV}{g:Nat}(h1:∀c∈a,c∈sg)(h2:32∉sg/\44∉sg/\41∉sg/\58∉sg)(d:Stq b):stp sg (a++(bl g++b))=a:=AgF h1 λc hc=>by
 cases g with
 |zero =>
  rcases d c hc with rfl|rfl|rfl
  ·exact h2.2.1
  ·exact h2.2.2.1
  ·exact h2.2.2.2
 |succ g=>cases hc;exact h2.1
theorem Zk{g:Nat}(a:Nk b):stp [32] (bl g++b)=bl g:=AgF (λc hc=>by rw[Od hc];simp) λc hc e=>a (by rw[hc,zF.mp e])
inductive Ar0 (t:Adr)(vs:LI)(H:Hp)(Q:VK)(z3:XK):Prop
|mk(r:_)(dx:_)(u:_)(p:_)(n:_)(g:_)(b:_)(_:vs=[.ref r])(_:Rd t H r dx u p)(_:u.drop p=dec n++(bl g++b))(_:n<100)(_:Stq b)(_:∀H' p',BV r H H'->Rd t H' r dx u p'->u.drop p'=b->Q (.int ((n:Nat):Int)) H')
theorem Ra(T:Txt K mg t):Bm P w K mg base (CX1 P w) 4 t.JK t.JL ["reader"] (Ar0 t):=by
 refine T.Ga.F.okX IK ?_;rintro _ _ _ _ H _ Q E h ⟨r,dx,u,p,n,g,b,rfl,a,e,hn,d,k⟩;refine⟨_,(Ac (Bd (i:=1) IK.nd U NN (Th (pv 0) T.Bu.c T.Gf.m ((Qy T).mono Ap) h T.Gf.b .nil Ay))
  (Ac (Bl (Ai Ajc (pv 1) W3 (Av _))
   (Ad (DR T.BW U T.BX (Aa Af Ab)))
   Aq)
  (Ac (Bj (El (pv 0) T.Bu.c T.Bh.m ((Cr T).mono Ap) h T.Bh.b .nil Ay (Aa Af Ab)))
  (Ad (Az (pv 1)))))),?_⟩;obtain⟨d1,d2,o,s⟩:=Agl n (yD.mpr hn);obtain⟨q,f,l⟩:=AoE a e;refine⟨_,U,r,dx,rf u p,U,a.1,(Dl u p).2.2.1,r,dx,u,p,U,a,?_⟩;rw[e,AoF (λc hc=>Ad3.mpr (yN (o c hc))) Ap d];rw[show AgD (dec n)=.int ((n:Nat):Int) by unfold AgD;rw[yF (yN d1),d2]];exact⟨_,U,U,_,U,DQ (λz=>nomatch z) ⟨_,U,r,dx,_,U,f.1,(Dl u _).2.2.2,S8 f l (Zk d.nk) Ap λH2 p2 j R2 d2=>⟨_,U,k H2 p2 (q.trans j) R2 d2⟩⟩⟩
inductive Am3 (t:Adr)(vs:LI)(H:Hp)(Q:VK)(z3:XK):Prop
|mk(r:_)(dx:_)(u:_)(p:_)(g:_)(b:_)(_:vs=[.ref r])(_:Rd t H r dx u p)(_:u.drop p=44::(bl g++b))(_:Nk b)(_:∀H' p',BV r H H'->Rd t H' r dx u p'->u.drop p'=b->Q .non H')
theorem Ad4(T:Txt K mg t):Bm P w K mg base (CX1 P w) 3 t.YD t.YF ["reader"] (Am3 t):=by
 refine T.QR.F.okX Aee ?_;rintro _ _ _ _ H _ Q E d ⟨r,dx,u,p,g,b,rfl,e,i,f,k⟩;refine⟨_,(Ac (Bl (Hr (Fb (El (pv 0) T.Bu.c T.BP.m ((DY T).mono Ap) d T.BP.b .nil Ay (Aa Af Ab))))
   (Ad (DR T.BW U T.BX (Aa Af Ab)))
   Aq)
  (Ad (Bj (El (pv 0) T.Bu.c T.Bh.m ((Cr T).mono Ap) d T.Bh.b .nil Ay (Aa Af Ab))))),?_⟩;exact⟨_,U,r,dx,rf u p,U,e.1,(Dl u p).2.1,AkQ e i λH1 p1 h a d1=>⟨_,U,GQ ⟨_,U,r,dx,_,U,a.1,(Dl u _).2.2.2,S8 a d1 (Zk f) Ap λH2 p2 j R2 d2=>k H2 p2 (h.trans j) R2 d2⟩⟩⟩
inductive Ar1 (t:Adr)(vs:LI)(H:Hp)(Q:VK)(z3:XK):Prop
|mk(r:_)(dx:_)(u:_)(p:_)(x:_)(g:_)(b:_)(_:vs=[.ref r])(_:Rd t H r dx u p)(_:u.drop p=x++(bl g++b))(_:x≠[])(_:(∀c∈x,Sg c))(_:Stq b)(_:∀H' p',BV r H H'->Rd t H' r dx u p'->u.drop p'=b->Q (.str (tx x)) H')
theorem Zm(T:Txt K mg t):Bm P w K mg base (CX1 P w) 3 t.AcZ t.Ada ["reader"] (Ar1 t):=by
 refine T.Mt.F.okX AaJ ?_;rintro _ _ _ _ H _ Q E f ⟨r,dx,u,p,x,g,b,rfl,h,q,n,l,a,k⟩;refine⟨_,(Ac (Bd (i:=1) AaJ.nd U NN (El (pv 0) T.Bu.c T.Bh.m ((Cr T).mono Ap) f T.Bh.b .nil Ay (Aa Af Ab)))
  (Ac (Bl (Ai Cj (pv 1) Af (Av _))
   (Ad (DR T.BW U T.BX (Aa Af Ab)))
   Aq)
  (Ac (Bj (El (pv 0) T.Bu.c T.Bh.m ((Cr T).mono Ap) f T.Bh.b .nil Ay (Aa Af Ab)))
  (Ad (Az (pv 1)))))),?_⟩;refine⟨_,U,r,dx,rf u p,U,h.1,(Dl u p).2.2.2,S8 h q (AoF (λc hc=>by rcases l c hc with rfl|rfl<;>decide) Ap a) Ap λH1 p1 o d d1=>⟨_,U,U,_,U,DQ (λz=>n ?_) ?_⟩⟩
 ·have e:(("":Str))=tx []:=At
  injection z with z;exact Ja z
 exact⟨_,U,r,dx,_,U,d.1,(Dl u _).2.2.2,S8 d d1 (Zk a.nk) Ap λH2 p2 j R2 d2=>⟨_,U,k H2 p2 (o.trans j) R2 d2⟩⟩
def Rm:List Nd->NV->Prop
 |[],l=>l=[]
 |x::xs,l=>∃g us,l=44::(bl g++us)/\WtL (x::xs) us
theorem AgG{x:Nd}{xs:List Nd}(h:WtL (x::xs) us):∃u l,us=u++l/\Wt x u/\Rm xs l:=by
 cases h with
 |one h=>exact⟨us,[],(Ayr _).symm,h,U⟩
 | @cons _ u us _ g h a =>
  match xs,a with
  |[],a=>cases a
  |y::ys,a=>exact⟨u,_,U,h,g,us,U,a⟩
theorem Rm.stq{xs:List Nd}{l:NV}(h:Rm xs l)(a:Stq b):Stq (l++b):=by
 cases xs with
 |nil =>
  rw[h];exact a
 |cons x xs =>
  obtain⟨g,us,rfl,_⟩:=h;exact λc e=>.inl (yI e).symm
theorem BV.new(s:BV r H H1)(h:H1 q=none):BV r H (L2.upd H1 q o):=λb o' n e=>by rw[Ao (Bf (s b o' n e) h)];exact s b o' n e
theorem BV.over(s:BV r H H1)(h:H q=none):BV r H (L2.upd H1 q o):=λb o' n e=>by rw[Ao (Bf e h)];exact s b o' n e
theorem Ld(s:BV r H H')(R:Rd t H' r dx u p)(h:H' q=none):H q=none/\q≠r:=by
 have n:q≠r:=λe=>by rw[e,R.1]at h;cases h
 refine⟨?_,n⟩;cases e:H q with
 |none=>rfl
 |some o=>rw[s q o n e]at h;cases h
inductive AoG (t:Adr)(vs:LI)(H:Hp)(Q:VK)(z3:XK):Prop
|mk(r:_)(dx:_)(u:_)(p:_)(rs:_)(us:_)(b:_)(_:vs=[.ref r])(_:Rd t H r dx u p)(_:u.drop p=us++b)(_:WtL (rs.map Nd.run) us)(_:rs.length<=40)(_:(∀y∈rs,y≠[]/\∀c∈y,Sg c))(_:Stq b)(_:b[0]?≠some 44)(_:∀q H' p',BV r H H'->Rd t H' r dx u p'->u.drop p'=b->H q=none->H' q=some (.lst (vS rs))->Q (.ref q) H')
theorem AkR(h:Wt (.run y) u):∃g,u=y++bl g:=by
 cases h with
 |run=>exact⟨_,U⟩
theorem Ae4(T:Txt K mg t):Bm P w K mg base (CX1 P w) 4 t.Abe t.Abf ["reader"] (AoG t):=by
 refine T.Vi.F.okX Ye ?_;rintro _ _ _ _ H _ Q E n ⟨r,dx,u,p,rs,us,b,rfl,Y,hd,hw,a0,R,D,W,k⟩;refine⟨_,(Ac (Bd (i:=1) Ye.nd U NN (Cm (Aa (Aj ((Zm T).mono Ap) n U T.Mt.m T.Mt.F.kp T.Mt.b .nil Cq (Aa (pv 0) Ab)) Ab)))
  (Ac (Xy λhfr=>(Xn (AfY O5 hfr) (Fb (El (pv 0) T.Bu.c T.BP.m ((DY T).mono Ap) n T.BP.b .nil Ay (Aa Af Ab)))
   (Ac (Bj (El (pv 0) T.Bu.c T.Bh.m ((Cr T).mono Ap) n T.Bh.b .nil Ay (Aa Af Ab)))
   (Ad (Bj (Bx (K:=K) zM zL zQ Dg (pv 1) (Aa (Aj ((Zm T).mono Ap) n U T.Mt.m T.Mt.F.kp T.Mt.b .nil Cq (Aa (pv 0) Ab)) Ab)))))))
  (Ac (Bl (Ai HD (Bb (Ax (K:=K)) U T.Cd Bv (Aa (pv 1) Ab)) (Ce (v:=.int 40) U T.Aix.choose_spec ⟨_,U⟩) (Av _))
   (Ad (DR T.BW U T.BX (Aa Af Ab)))
   Aq)
  (Ad (Az (pv 1)))))),?_⟩;cases rs with
 |nil=>cases hw
 |cons y ys =>
  obtain⟨v,l,rfl,s,f⟩:=AgG hw;obtain⟨g,rfl⟩:=AkR s;have N:=R y AxW;refine⟨_,U,r,dx,u,p,y,g,l++b,U,Y,by rw[hd];simp,N.1,N.2,f.stq D,λH1 p1 B o d1=>⟨(by show 1<=sizeLine;decide),λq C=>?_⟩⟩;obtain⟨M,e⟩:=Ld B o C;refine⟨λm σ H2=>∃a d l p2,σ=[some (.ref r),some (.ref q)]/\H2 q=some (.lst (vS a))/\BV r H H2/\Rd t H2 r dx u p2/\u.drop p2=l++b/\Rm (d.map Nd.run) l/\y::ys=a++d/\m=d.length,⟨_,[y],ys,l,p1,U,Ae,B.new C,⟨by rw[Ao e.symm];exact o.1,o.2⟩,d1,f,U,U⟩,?_⟩;rintro m σ H2 ⟨a,d,l,p2,rfl,h2,A,R2,d2,f,j,rfl⟩;cases d with
  |nil =>
   have S:=f;rw[S]at d2;rw[Ayr]at j;refine⟨_,U,r,dx,rf u p2,U,R2.1,(Dl u _).2.1,Asx R2 (by rw[d2];exact W) ⟨_,U,GQ ⟨_,U,_,_,U,.inl (yW h2),_,_,U,U,_,U,?_⟩⟩⟩;rw[Bc,<-j];exact DQ AA ⟨_,U,k q H2 p2 A R2 d2 M (by rw[j];exact h2)⟩
  |cons z d =>
   obtain⟨g,us,rfl,hw⟩:=f;obtain⟨v,l,rfl,s,f⟩:=AgG hw;obtain⟨g',rfl⟩:=AkR s;have z0:=R z (by rw[j];simp);have X:Nk (z++(bl g'++(l++b))):=(Aim (p:=λc=>decide (c=35\/c=46)) Ap z0.1 λc hc=>zN (z0.2 c hc)).nk;refine⟨_,U,r,dx,rf u p2,U,R2.1,(Dl u _).2.1,AkQ R2 (b:=bl g++(z++(bl g'++(l++b)))) (by rw[d2];simp) λH3 p3 L O d3=>⟨_,U,Kz ⟨_,λσ' H' h=>h,_,U,r,dx,rf u _,U,O.1,(Dl u _).2.2.2,S8 O d3 (Zk X) Ap λH4 p4 J Z d4=>?_⟩⟩⟩;have G:=J _ _ e (L _ _ e h2);refine⟨_,U,.inl ⟨U,_,yW G⟩,_,U,r,dx,u,p4,z,g',l++b,U,Z,d4,z0.1,z0.2,f.stq D,λH5 p5 I x d5=>?_⟩;have ll:=congrArg List.length j;rw[AxS]at ll;refine⟨_,_,_,U,U,I _ _ e G,(by rw[Bc];exact Ayl (show a.length<1000 by lia) Ap),?_⟩;rw[Dj];exact⟨_,AyF _,a++[z],d,l,p5,U,Ae,(((A.trans L).trans J).trans I).over M,⟨by rw[Ao e.symm];exact x.1,x.2⟩,d5,f,by rw[j];simp,U⟩
def Rb:NI:=[[114,111,119,115],[116,119,105,108,108],[115,97,116,105,110],[98,101,115,105,100,101],[97,98,111,118,101],[109,105,114,114,111,114],[117,112,101,110,100],[98,97,99,107],[113,117,97,114,116,101,114],[116,105,108,101],[98,108,111,99,107,115],[108,97,121]]
theorem AoH:(["rows","twill","satin","beside","above","mirror","upend","back","quarter","tile","blocks","lay"]:NY)=Rb.map tx:=At
theorem Am4(u:NV):Pat.isWord u=decide (u∈Rb):=by
 by_cases h:u∈Rb
 ·rw[zN h];simp only [Rb,Ayj,Ayq,yM]at h;rcases h with rfl|rfl|rfl|rfl|rfl|rfl|rfl|rfl|rfl|rfl|rfl|rfl<;>decide
 ·rw[zJ h];simp only [Rb,Ayj,Ayq,yM,not_or]at h;obtain⟨h1,h2,h3,d,j,e,f,i,h9,a,c,b⟩:=h;unfold Pat.isWord Pat.wants Pat.Ge;rw[zJ h1,yE (λz=>z.elim h2 h3),yE (λz=>z.elim d λz=>z.elim j b),yE (λz=>z.elim e λz=>z.elim f λz=>z.elim i h9),yE a,yE c];rfl
def AoI:NV:=[97,98,99,100,101,102,103,104,105,106,107,108,109,110,111,112,113,114,115,116,117,118,119,120,121,122]
theorem AtX:(("abcdefghijklmnopqrstuvwxyz":Str))=tx AoI:=At
theorem AoJ(c:Nat):decide (c∈AoI)=Pat.letter c:=z5.mpr (by
 rw[show AoI=List.range' 97 26 from U,List.mem_range'_1];omega)
theorem in_words(u:NV):∀ls:NI,inV (V.str (tx u)) ((ls.map tx).map V.str)=decide (u∈ls)
 |[]=>rfl
 |a::ls=>by
  have b:=in_words u ls;unfold inV at b ⊢;rw[Ayd,Ayd,AyR,b];by_cases h:u=a
  ·rw[h,zN (AxW)];have:eqV (V.str (tx a)) (V.str (tx a))=true:=Xr U;rw[this,Bool.true_or]
  ·have c:(eqV (V.str (tx a)) (V.str (tx u))=false)/\(eqV (V.str (tx u)) (V.str (tx a))=false):=⟨zZ.mpr λz=>h (Ja z).symm,zZ.mpr λz=>h (Ja z)⟩
   first|rw[c.1]|rw[c.2]
   rw[Bool.false_or];exact z5.mpr ⟨λz=>AxY _ z,λz=>(yC.mp z).elim (λz=>yG z h) id⟩
inductive Am5 (vs:LI)(H:Hp)(Q:VK)(z3:XK):Prop
|mk(u:_)(_:vs=[.str (tx u)])(_:u.length<=1000000)(_:∀H',Aw H H'->Q (.bl (Pat.isName u)) H')
theorem Xf(T:Txt K mg t):Bm P w K mg base CX0 1 t.Afs t.Afu ["text"] Am5:=by
 refine T.J2.F.ok AjH ?_;rintro _ _ _ _ H _ Q E j ⟨u,rfl,e,k⟩;refine⟨_,(Ac (Bl (PW.pt (pw_or (Ai Hf (Bb BL U T.Cd Bv (Aa (pv 0) Ab)) Ah (Av _)) (pw_or1 (Ai HD (Bb BL U T.Cd Bv (Aa (pv 0) Ab)) (Ce (v:=.int 20) U T.Adm.choose_spec ⟨_,U⟩) (Av _)))))
   (Ad (Az AeN))
   Aq)
  (Ad (Az (AsG (Jv (Aea (K:=K)) (pv 0) (Ce (v:=.ref t.Agt) U T.Arx U) U) (AsF (Bb (Ams (K:=K)) U T.AvM Atl (Aa (CV (CJ.mk (Bp:=[]) (Nc:=["sign"]) U At At (Cg (sc0:=Ag Aac) U At) U rfl U At (λ_ _ h=>by simp at h)) U (WD (pv 0)) (λ_ _ _ _ _=>.nil) (λ_ _ _ _ _=>(Jv ZC (pv 0) (Ce (v:=.str "abcdefghijklmnopqrstuvwxyz") U T.Afz.choose_spec ⟨_,U⟩) U))) Ab))))))),?_⟩;have zl:(tx u).length<=sizeLine:=by rw[Ba];exact big e
 refine⟨_,U,_,U,zl,_,_,U,U,_,U,?_⟩;rw[Ba];unfold Pat.isName at k;refine CP (λc1=>?_) (λc1=>?_)
 ·refine Kz ?_;rw[zJ (show ¬(1<=u.length/\u.length<=20) by omega)]at k;exact k _ (.refl _)
 ·refine⟨_,U,_,U,zl,_,_,U,U,_,U,?_⟩;rw[Ba];refine CP (λd=>?_) (λd=>?_)
  ·rw[zJ (show ¬(1<=u.length/\u.length<=20) by omega)]at k;exact k _ (.refl _)
  ·rw[zN (show 1<=u.length/\u.length<=20 by omega),Bool.true_and,Am4]at k;refine⟨_,U,_,_,U,.inr (T.Ary H),U,Ap,_,U,?_⟩;rw[AoH,in_words];show if (!decide (u∈Rb))=true then _ else _
   by_cases b:u∈Rb
   ·rw[zN b]at k ⊢;refine GQ ?_;rw[Bool.not_true,Bool.and_false]at k;exact k _ (.refl _)
   ·rw[zJ b]at k ⊢;refine Kz ?_;rw[Bool.not_false,Bool.and_true]at k;refine⟨_,U,_,U,Xq (z:=tx u) (λi ys H2=>H2=H/\ys=vB ((u.take i).map Pat.letter)) ⟨U,U⟩ ?_ ?_ ?_ ?_⟩
    ·rintro i ys H2 hi ⟨rfl,rfl⟩;rw[AjD,AxR,Ayc];exact AyB _ _
    ·exact zl
    ·rintro i c ys H2 hi hc ⟨rfl,rfl⟩;refine Iz.no ?_;have a:u[i]?=some c:=by
      rw[<-Fv u,zO];exact hc
     refine⟨_,U,_,_,U,U,?_⟩;rw[AtX,Ad1,AoJ];exact CN.of hi ⟨U,by rw[AjE,Aya,a,AxV];rfl⟩
    ·rintro ys H2 q ⟨rfl,rfl⟩ f;refine⟨_,_,U,yW Ae,?_⟩;have e9:(((u.take (tx u).cps.size).map Pat.letter).all id)=u.all Pat.letter:=by
      rw[show(tx u).cps.size=u.length from Ba u,Ayg,Azt];rfl
     rw[e9];exact k _ (.upd f)
inductive AtN (H:Hp):Nd->V->Prop
 |num {n:Nat}:AtN H (.num n) (.int (n:Int))
 |run {r:NV}:AtN H (.run r) (.str (tx r))
 |nam {z:NV} {a:Nn}:H a=some (.tup [.str (tx z),.non])->AtN H (.nam z) (.ref a)
 |node {z:NV} {ts:List Nd} {a q:Nn} {vs:LI}:H a=some (.tup [.str (tx z),.ref q])->H q=some (.lst vs)->vs.length=ts.length->(∀(i:Nat)(x:Nd)(v:V),ts[i]?=some x->vs[i]?=some v->AtN H x v)->AtN H (.node z ts) (.ref a)
theorem AtN.mono(s:∀b o,H b=some o->H' b=some o){x:Nd}{v:V}(h:AtN H x v):AtN H' x v:=by
 induction h with
 |num=>exact .num
 |run=>exact .run
 |nam h=>exact .nam (s _ _ h)
 |node h1 h2 h3 _ a=>exact .node (s _ _ h1) (s _ _ h2) h3 a
def nw (H H':Hp):Hp:=λb=>match H b with
 |none=>H' b
 |some _=>none
theorem JN{b:Nn}(h:H b=none):nw H H' b=H' b:=by unfold nw;rw[h]
theorem NQ{b:Nn}(h:nw H H' b=some o):H b=none/\H' b=some o:=by
 unfold nw at h;cases e:H b with
 |none=>rw[e]at h;exact⟨U,h⟩
 |some o'=>simp_all
theorem AgH(a:A r≠none)(s:BV r H2 H3):∀b o,nw A H2 b=some o->nw A H3 b=some o:=λb o h=>by
 have g:=NQ h;rw[JN g.1];exact s b o (λz=>a (by rw[<-z];exact g.1)) g.2
theorem Ai8{B:Hp}(h:∀b,B b=none->A b=none):∀b o,nw B H3 b=some o->nw A H3 b=some o:=λb o g=>by
 have g:=NQ g;rw[JN (h b g.1)];exact g.2
theorem AtY(h:A q≠none):nw A (upd H q o)=nw A H:=by
 funext b
 unfold nw;cases e:A b with
 |none =>
  exact Ao λz=>h (by rw[<-z];exact e)
 |some o'=>rfl
def AgI (H:Hp)(ts:List Nd)(vs:LI):Prop:=vs.length=ts.length/\∀(i:Nat)(x:Nd)(v:V),ts[i]?=some x->vs[i]?=some v->AtN H x v
theorem AgI.snoc{x:Nd}{v:V}(h:AgI H ts vs)(a:AtN H x v):AgI H (ts++[x]) (vs++[v]):=by
 refine⟨by rw[AxS,AxS,h.1];rfl,λi y w g1 g2=>?_⟩;by_cases c:i<ts.length
 ·rw[Ayo c]at g1;rw[Ayo (by rw[h.1];exact c)]at g2;exact h.2 i y w g1 g2
 ·have e:i=ts.length:=by
   have:= (zC.mp g1).1;rw[AxS,Azc]at this;lia
  subst e;rw[Aym (AxU _),AyJ]at g1;rw[Aym (by rw[h.1];exact AxU _),h.1,AyJ]at g2;cases g1;cases g2;exact a
theorem AgI.mono(s:∀b o,H b=some o->H' b=some o)(h:AgI H ts vs):AgI H' ts vs:=⟨h.1,λi x v g1 g2=>(h.2 i x v g1 g2).mono s⟩
theorem AkS:(("rows":Str))=tx Pat.Ge:=At
theorem BV.refl:BV r H H:=λ_ _ _ e=>e
inductive Ad5 (t:Adr)(d:Nat)(vs:LI)(H:Hp)(Q:VK)(E:XK):Prop
|mk(r:_)(dx:_)(u:_)(p:_)(dep:_)(_:vs=[.ref r,.int ((dep:Nat):Int)])(_:dep+d=13)(_:Rd t H r dx u p)(_:((∃x v b,u.drop p=v++b/\Wd d x/\Wt x v/\Stq b/\∀y H' p',BV r H H'->Rd t H' r dx u p'->u.drop p'=b->AtN (nw H H') x y->Q y H')\/(d≠0/\u.drop p=[]/\∀H',BV r H H'->E (.ref t.BK) none H')))
inductive Ad6 (t:Adr)(d:Nat)(vs:LI)(H:Hp)(Q:VK)(z3:XK):Prop
|mk(r:_)(dx:_)(u:_)(p:_)(dep:_)(z:_)(ts:_)(us:_)(b:_)(_:vs=[.ref r,.str (tx z),.int ((dep:Nat):Int)])(_:dep+d=13)(_:Rd t H r dx u p)(_:u.drop p=us++b)(_:WtL ts us)(_:Wd (d+1) (.node z ts))(_:Stq b)(_:b[0]?≠some 44)(_:∀q vs' H' p',BV r H H'->Rd t H' r dx u p'->u.drop p'=b->H q=none->H' q=some (.lst vs')->AgI (nw H H') ts vs'->Q (.ref q) H')
theorem Ad7(W:Wd (d+1) (.node z ts)):(∃rs:NI,z=Pat.Ge/\ts=rs.map Nd.run/\rs.length<=40/\∀y∈rs,y≠[]/\∀c∈y,Sg c)\/z≠Pat.Ge/\∃ks,lk [("twill","nn"),("satin","nn"),("beside","pp"),("above","pp"),("mirror","p"),("upend","p"),("back","p"),("quarter","p"),("tile","pnn"),("blocks","ppp"),("lay","pp")] (tx z)=some (tx ks)/\Kds d ks ts/\ks.length<=3:=by
 cases W with
 |rows h1 h2 h3=>exact .inl ⟨_,U,U,h2,h3⟩
 |nums w b a=>exact .inr ⟨by rcases w with rfl|rfl<;>decide,[110,110],by rcases w with rfl|rfl<;>decide +kernel,⟨⟨_,U,b⟩,⟨_,U,a⟩,trivial⟩,Ap⟩
 |one w h=>exact .inr ⟨by rcases w with rfl|rfl|rfl|rfl<;>decide,[112],by rcases w with rfl|rfl|rfl|rfl<;>decide +kernel,⟨h,trivial⟩,Ap⟩
 |two w h1 h2=>exact .inr ⟨by rcases w with rfl|rfl|rfl<;>decide,[112,112],by rcases w with rfl|rfl|rfl<;>decide +kernel,⟨h1,h2,trivial⟩,Ap⟩
 |tile h b a=>exact .inr ⟨Ap,[112,110,110],At,⟨h,⟨_,U,b⟩,⟨_,U,a⟩,trivial⟩,Ap⟩
 |blk h1 h2 h3=>exact .inr ⟨Ap,[112,112,112],At,⟨h1,h2,h3,trivial⟩,Ap⟩
theorem AoK{d:Nat}:∀{ks:NV} {ts:List Nd} {i c:Nat},Kds d ks ts->ks[i]?=some c->∃x,ts[i]?=some x/\(if c=112 then Wd d x else ∃n,x=Nd.num n/\n<100)/\ts.drop i=x::ts.drop (i+1)/\Kds d (ks.drop i) (ts.drop i)
 |[],_,_,_,_,h=>by simp at h
 |k::ks,[],_,_,W,_=>W.elim
 |k::ks,x::ts,0,c,W,h=>by
  cases h;exact⟨x,U,W.1,U,W⟩
 |k::ks,x::ts,i+1,c,W,h=>AoK (i:=i) W.2 h
theorem kds_len{d:Nat}:∀{ks:NV} {ts:List Nd},Kds d ks ts->ts.length=ks.length
 |[],[],_=>rfl
 |[],_::_,W=>W.elim
 |_::_,[],W=>W.elim
 |_::ks,_::ts,W=>congrArg (·+1) (kds_len W.2)
theorem AoL{G:Prop}{R:Hp->Prop}(C:Hp->Prop)(a:(∀H,C H->R H)->G)(rest:∀H,C H->R H):G:=a rest
theorem AbH{k:Nat}(hk:4<=k)(T:Txt K mg t)(aj:Bm P w K mg base (CX1 P w) k t.Ng t.Nh ["reader","depth"] (Ad5 t d)):Bm P w K mg base (CX1 P w) (k+1) t.Oj t.Ol ["reader","word","depth"] (Ad6 t d):=by
 refine T.Np.F.okX LK ?_;rintro _ _ _ _ H _ Q E hr ⟨r,dx,u,p,S,z,ts,us,b,rfl,ac,hR,hd,hw,W,hb,nb,k⟩;refine⟨_,(Ac (Bl (Ai Cj (pv 1) Af (Av _))
   (Ad (Az (Aj ((Ae4 T).mono AA) hr U T.Vi.m T.Vi.F.kp T.Vi.b .nil Cq (Aa (pv 0) Ab))))
   Aq)
  (Ac (Bl (AmZ (AhP T.Ai5 (pv 1) (Ce (v:=.ref t.Yw) U T.Ai4 U)))
   (Ad (DR T.BW U T.BX (Aa Af Ab)))
   Aq)
  (Ac (Bd (i:=3) LK.nd U NN (Cm Ab))
  (Ac (Xy λhfr=>(DP (AfY O5 hfr) U (WD (Ama T.Ai5 (Ce (v:=.ref t.Yw) U T.Ai4 U) (pv 1) (λ_ _=>rfl))) (Bs (i:=4) LK.nd U NN)
   (Ac (Bl (ZL (K:=K) (pv 3) (λ_=>rfl))
    (Ad (Bj (Aj ((Ad4 T).mono AA) hr U T.QR.m T.QR.F.kp T.QR.b .nil Cq (Aa (pv 0) Ab))))
    Aq)
   (Ad (Bj (Bx (K:=K) zM zL zQ Dg (pv 3) (Aa (Oz (Ai Cj (pv 4) Af (Av _)) (Aj (aj.mono AA) hr U T.Jo.m T.Jo.F.kp T.Jo.b .nil Cq (Aa (pv 0) (Aa (pv 2) Ab))) (Aj ((Ra T).mono AA) hr U T.Ga.m T.Ga.F.kp T.Ga.b .nil Cq (Aa (pv 0) Ab))) Ab)))))))
  (Ad (Az (pv 3))))))),?_⟩;refine⟨_,U,U,_,U,?_⟩;rcases Ad7 W with ⟨rs,rfl,rfl,ag,hy⟩|⟨nz,ks,Z,Kd,kl⟩
 ·refine I9 (by rw[AkS]) ⟨_,U,r,dx,u,p,rs,us,b,U,hR,hd,hw,ag,hy,hb,nb,λq H1 p1 s1 R1 d1 nq I=>k q _ H1 p1 s1 R1 d1 nq I ⟨by rw[Bc,AxR],λi x v g1 g2=>?_⟩⟩;rw[AxZ]at g1;obtain⟨y,e,rfl⟩:=zU.mp g1;obtain⟨y',e',rfl⟩:=Fw g2;rw[e]at e';cases e';exact .run
 ·refine DQ (λy=>nz ?_) ?_
  ·injection y with y;exact Ja y
  refine⟨_,U,tx z,U,U,_,U,?_⟩;rw[Z];refine GQ ⟨Ap,λq I=>?_⟩;obtain⟨_,a⟩:=Ld (BV.refl) hR I;have ab:(upd H q (.lst [])) q≠none:=by rw[Ae];exact λz=>nomatch z
  have Y:(upd H q (.lst [])) r≠none:=by rw[Ao a.symm,hR.1];exact λz=>nomatch z
  have tl:=kds_len Kd;refine⟨_,U,tx z,_,U,U,Z,_,U,AfT (λi σ H2=>∃v vs p2 l,σ=[some (.ref r),some (.str (tx z)),some (.int (S:Int)),some (.ref q),v]/\BV r H H2/\(∀b,H2 b=none->(upd H q (.lst [])) b=none)/\Rd t H2 r dx u p2/\H2 q=some (.lst vs)/\AgI (nw (upd H q (.lst [])) H2) (ts.take i) vs/\u.drop p2=l++b/\if i=0 then WtL ts l else Rm (ts.drop i) l) ⟨none,[],p,us,U,BV.refl.new I,(λb e=>e),⟨by rw[Ao a.symm];exact hR.1,hR.2⟩,Ae,⟨U,λi x v g=>by simp at g⟩,hd,hw⟩ ?_ ?_⟩
  ·rintro i c' σ H2 hc ⟨v,vs,p2,l,rfl,s2,X,R2,C,R,d2,s⟩;have ae:ks[i]?=some c':=by
    rw[zO];exact hc
   obtain⟨x,hx,kx,ed,kd⟩:=AoK Kd ae;have hi:=(zC.mp hx).1;have vl:vs.length=i:=by rw[R.1,Ayc];lia
   have h:vs.length<sizeLine:=Ayl (show vs.length<1000 by lia) Ap;have et:ts.take (i+1)=ts.take i++[x]:=by rw[Aya,hx];rfl
   refine⟨_,U,!vs.isEmpty,.inl ⟨vs,yW C,U⟩,?_⟩;apply AoL (λH3=>∃G A j,BV r H2 H3/\(∀b,H3 b=none->H2 b=none)/\Rd t H3 r dx u G/\u.drop G=A++(j++b)/\Wt x A/\Rm (ts.drop (i+1)) j)
   ·intro rest;by_cases c0:i=0
    ·have ve:=List.length_eq_zero_iff.mp (vl.trans c0);rw[show(!vs.isEmpty)=false by rw[ve];rfl];rw[yF c0]at s;have a0:WtL (ts.drop i) l:=by rw[c0];exact s
     rw[ed]at a0;obtain⟨A,j,el,M,L⟩:=AgG a0;exact GQ (rest H2 ⟨p2,A,j,.refl,λ_ e=>e,R2,by rw[d2,el];simp,M,L⟩)
    ·have ve:vs.isEmpty=false:=by
      cases vs with
      |nil=>exact yG vl.symm c0
      |cons _ _=>rfl
     rw[ve];refine Kz ?_;rw[yE c0,ed]at s;obtain⟨g,ah,el,a6⟩:=s;have nk:=Aoz kd (by rw[ed];exact a6);obtain⟨A,j,eu,M,L⟩:=AgG a6;exact⟨_,U,r,dx,u,p2,g,ah++b,U,R2,by rw[d2,el];simp,nk.nk,λH3 G O R3 d3=>rest H3 ⟨G,A,j,O,λb e=>(Ld O R3 e).1,R3,AC,M,L⟩⟩
   ·rintro H3 ⟨G,A,j,O,af,R3,d3,M,L⟩;have D:=O _ _ a C;have N3:=R.mono (AgH Y O);have aa:=λb e=>X b (af b e);have fin:∀{o:Hp} {N:Nat} {y:V},BV r H3 o->Rd t o r dx u N->u.drop N=j++b->AtN (nw H3 o) x y->∃c p2 l,BV r H (upd o q (.lst (vs++[y])))/\(∀b,(upd o q (.lst (vs++[y]))) b=none->(upd H q (.lst [])) b=none)/\Rd t (upd o q (.lst (vs++[y]))) r dx u p2/\(upd o q (.lst (vs++[y]))) q=some (.lst c)/\AgI (nw (upd H q (.lst [])) (upd o q (.lst (vs++[y])))) (ts.take (i+1)) c/\u.drop p2=l++b/\if i+1=0 then WtL ts l else Rm (ts.drop (i+1)) l:=λ{o N y} B J d4 hA=>by
     refine⟨_,N,j,((s2.trans O).trans B).over I,λb e=>?_,⟨by rw[Ao a.symm];exact J.1,J.2⟩,Ae,?_,d4,L⟩
     ·have n:b≠q:=λz=>by rw[z,Ae]at e;cases e
      rw[Ao n]at e;exact aa b (Ld B J e).1
     ·rw[AtY ab,et];exact(N3.mono (AgH Y B)).snoc (hA.mono (Ai8 aa))
    refine⟨_,U,.inl ⟨U,_,yW D⟩,_,U,U,_,U,?_⟩;by_cases cp:c'=112
    ·rw[yF cp]at kx;refine I9 (by rw[cp];decide +kernel) ⟨_,U,_,U,r,dx,u,G,S,U,ac,R3,.inl ⟨x,A,j++b,d3,kx,M,L.stq hb,λy o N B J d4 hA=>⟨_,_,_,U,U,B _ _ a D,h,?_⟩⟩⟩;obtain⟨c,p5,l5,f⟩:=fin B J d4 hA;exact⟨_,c,p5,l5,U,f⟩
    ·rw[yE cp]at kx;obtain⟨n,rfl,hn⟩:=kx;refine DQ (λy=>cp ?_) ?_
     ·have e:(("p":Str))=tx [112]:=At
      injection y with y;exact(yS (Ja y)).1
     obtain⟨g,rfl⟩:∃g,A=dec n++bl g:=by cases M;exact⟨_,U⟩
     refine⟨_,U,r,dx,u,G,n,g,j++b,U,R3,by rw[d3];simp,hn,L.stq hb,λo N B J d4=>⟨_,_,_,U,U,B _ _ a D,h,?_⟩⟩;obtain⟨c,p5,l5,f⟩:=fin B J d4 .num;exact⟨_,c,p5,l5,U,f⟩
  ·rintro σ H2 ⟨v,vs,p2,l,rfl,s2,X,R2,C,R,d2,s⟩;have e9:(tx ks).cps.size=ts.length:=(Ba ks).trans tl.symm;rw[e9]at R s;rw[Ayg]at R;rw[yE (λe=>by rw[List.length_eq_zero_iff.mp e]at hw;cases hw),Az4]at s;have s:=s;rw[s]at d2;refine⟨_,U,k q vs H2 p2 s2 R2 d2 I C (R.mono (Ai8 λb e=>?_))⟩;by_cases n:b=q
   ·rw[n];exact I
   ·rw[Ao n]at e;exact e
theorem AoM(h:∀c∈z,Pat.letter c=true):∀c∈z,c∈AoI:=λc hc=>yN ((AoJ c).trans (h c hc))
theorem Ae5{k:Nat}(hk:2<=k)(T:Txt K mg t)(a0:Bm P w K mg base (CX1 P w) k t.Oj t.Ol ["reader","word","depth"] (Ad6 t d)):Bm P w K mg base (CX1 P w) (k+1) t.Ng t.Nh ["reader","depth"] (Ad5 t (d+1)):=by
 refine T.Jo.F.okX QH ?_;rintro _ _ _ _ H _ Q E n ⟨r,dx,u,p,S,rfl,a6,I,h⟩;refine⟨_,(Ac (Bl (Ai HD (pv 1) (Ce (v:=.int 12) U T.Xb.choose_spec ⟨_,U⟩) (Av _))
   (Ad (DR T.BW U T.BX (Aa Af Ab)))
   Aq)
  (Ac (Bd (i:=2) QH.nd U NN (El (pv 0) T.Bu.c T.Bh.m ((Cr T).mono AA) n T.Bh.b .nil Ay (Aa (Ce (v:=.str "abcdefghijklmnopqrstuvwxyz") U T.Afz.choose_spec ⟨_,U⟩) Ab)))
  (Ac (Bj (El (pv 0) T.Bu.c T.Bh.m ((Cr T).mono AA) n T.Bh.b .nil Ay (Aa Af Ab)))
  (Ac (Bl (Hr (Fb (El (pv 0) T.Bu.c T.BP.m ((DY T).mono AA) n T.BP.b .nil Ay (Aa Af Ab))))
   (Ac (Bl (Hr (Fb (Aj ((Xf T).mono AA) n U T.J2.m T.J2.F.kp T.J2.b .nil Ay (Aa (pv 2) Ab))))
    (Ad (DR T.BW U T.BX (Aa Af Ab)))
    Aq)
   (Ad (Az (CT (Aa (pv 2) (Aa W3 Ab))))))
   Aq)
  (Ac (Bj (El (pv 0) T.Bu.c T.Bh.m ((Cr T).mono AA) n T.Bh.b .nil Ay (Aa Af Ab)))
  (Ac (Bd (i:=3) QH.nd U NN (Aj (a0.mono AA) n U T.Np.m T.Np.F.kp T.Np.b .nil Cq (Aa (pv 0) (Aa (pv 2) (Aa (Ak Em (pv 1) Ah) Ab)))))
  (Ac (Bl (Hr (Fb (El (pv 0) T.Bu.c T.BP.m ((DY T).mono AA) n T.BP.b .nil Ay (Aa Af Ab))))
   (Ad (DR T.BW U T.BX (Aa Af Ab)))
   Aq)
  (Ac (Bj (El (pv 0) T.Bu.c T.Bh.m ((Cr T).mono AA) n T.Bh.b .nil Ay (Aa Af Ab)))
  (Ad (Az (CT (Aa (pv 2) (Aa (pv 3) Ab))))))))))))),?_⟩;refine⟨_,U,_,_,U,U,_,U,DQ AA ?_⟩;have zl:∀{z l:NV},u.drop p=z++l->z.length<=1000000:=λ{z l} f=>by
  have:= congrArg List.length f;have:= I.2.2;grind
 have h:(∃z b g,u.drop p=z++(bl g++b)/\(∀c∈z,c∈AoI)/\Stq b/\(Pat.isName z=true->∀y H' M,BV r H H'->Rd t H' r dx u M->u.drop M=b->AtN (nw H H') (.nam z) y->Q y H')/\(Pat.isName z=false->∀H',BV r H H'->E (.ref t.BK) none H'))\/∃z ts us g1 g2 g3 b,u.drop p=z++(bl g1++(40::(bl g2++(us++(41::(bl g3++b))))))/\WtL ts us/\Wd (d+1) (.node z ts)/\Stq b/\∀y H' M,BV r H H'->Rd t H' r dx u M->u.drop M=b->AtN (nw H H') (.node z ts) y->Q y H':=by
  rcases h with ⟨x,v,b,f,W,hw,j,k⟩|⟨_,f,k⟩
  ·cases hw with
   |num=>cases W
   |run=>cases W
   | @nam z g =>
    cases W with
    |nam Z=>exact .inl ⟨z,b,g,f.trans (Ay0 _ _ _),AoM (Ls Z).2,j,λ_=>k,λe=>AC⟩
   | @node z ts us g1 g2 g3 J=>exact .inr ⟨z,ts,us,g1,g2,g3,b,by rw[f];simp,J,W,j,k⟩
  ·exact .inl ⟨[],[],0,f,(λc hc=>by cases hc),(λc e=>by cases e),(λe=>by cases e),λ_=>k⟩
 rcases h with ⟨z,b,g,f,Z,j,k1,k2⟩|⟨z,ts,us,g1,g2,g3,b,f,J,W,j,k⟩
 ·refine⟨_,U,r,dx,rf u p,U,I.1,(Dl u p).2.2.2,S8 I f (AoF Z Ap j) Ap λH1 p1 s1 G d1=>⟨_,U,r,dx,_,U,G.1,(Dl u _).2.2.2,S8 G d1 (Zk j.nk) Ap λH2 p2 X R2 d2=>⟨_,U,r,dx,_,U,R2.1,(Dl u _).2.1,Asx R2 (λe=>by rw[d2]at e;have:= j 40 e;lia) ⟨_,U,Kz ⟨_,U,z,U,zl f,λH3 R=>⟨_,U,?_⟩⟩⟩⟩⟩⟩;have B:=(s1.trans X).trans λb o _ e=>R b o e;have D:Rd t H3 r dx u p2:=⟨R _ _ R2.1,R2.2⟩;cases cn:Pat.isName z with
  |true =>
   refine GQ ⟨_,U,AE,λa A=>?_⟩;obtain⟨fa,na⟩:=Ld B D A;exact k1 cn _ _ p2 (B.new A) ⟨by rw[Ao na.symm];exact D.1,D.2⟩ d2 (.nam (by rw[JN fa];exact Ae))
  |false=>exact Kz ⟨Ap,k2 cn _ B⟩
 ·have wl:=XJ W;refine⟨_,U,r,dx,rf u p,U,I.1,(Dl u p).2.2.2,S8 I f (AgF (AoM wl.2) λc hc=>?_) Ap λH1 p1 s1 G d1=>?_⟩
  ·cases g1 with
   |zero=>cases hc;decide
   |succ g=>cases hc;decide
  refine⟨_,U,r,dx,_,U,G.1,(Dl u _).2.2.2,S8 G d1 (Zk λe=>by cases e) Ap λH2 p2 X R2 d2=>⟨_,U,r,dx,_,U,R2.1,(Dl u _).2.1,AkQ R2 d2 λH3 p3 R D d3=>⟨_,U,GQ ?_⟩⟩⟩;have nk:Nb us:=by
   rcases Ad7 W with ⟨rs,_,rfl,_,hy⟩|⟨_,ks,_,Kd,_⟩
   ·exact Arn hy J
   ·exact Aoz Kd J
  refine⟨_,U,r,dx,_,U,D.1,(Dl u _).2.2.2,S8 D d3 (Zk nk.nk) Ap λH4 p4 s4 O d4=>?_⟩;have C:=((s1.trans X).trans R).trans s4;refine⟨_,U,_,U,_,U,_,_,U,U,r,dx,u,p4,S+1,z,ts,us,_,U,AA,O,d4,J,W,(λc e=>.inr (.inl (yI e).symm)),(λe=>by cases e),λq aa H5 p5 s5 R5 d5 nq hq N5=>⟨_,U,r,dx,_,U,R5.1,(Dl u _).2.1,AkQ R5 d5 λH6 p6 s6 R6 d6=>⟨_,U,GQ ⟨_,U,r,dx,_,U,R6.1,(Dl u _).2.2.2,S8 R6 d6 (Zk j.nk) Ap λH7 p7 s7 R7 d7=>?_⟩⟩⟩⟩;obtain⟨fq,Y⟩:=Ld C O nq;have s:=s6.trans s7;have L:=(C.trans s5).trans s;have N:=s _ _ Y hq;have N7:=(N5.mono (AgH (by rw[O.1];exact λy=>nomatch y) s)).mono (Ai8 λb e=>(Ld C O e).1);refine⟨_,U,_,U,AE,λa A=>?_⟩;obtain⟨fa,na⟩:=Ld L R7 A;refine k _ _ p7 (L.new A) ⟨by rw[Ao na.symm];exact R7.1,R7.2⟩ d7 (.node (by rw[JN fa];exact Ae) (by rw[JN fq,Ao (Bf N A)];exact N) N7.1 λi x v g1 g2=>(N7.2 i x v g1 g2).mono λb o e=>?_);have g:=NQ e;rw[JN g.1,Ao (Bf g.2 A)];exact g.2
theorem Af1(T:Txt K mg t):∀d,Bm P w K mg base (CX1 P w) (2*d+5) t.Ng t.Nh ["reader","depth"] (Ad5 t d)
 | 0=>⟨λ_ _ _ _ h=>(by obtain⟨_,_,_,_,_,_,_,_,⟨_,_,_,_,W,_⟩|⟨n,_⟩⟩:=h;cases W;exact yG U n),λ_ _ _ _ _ _ _ _ _ _ _ _ _ h=>(by obtain⟨_,_,_,_,_,_,_,_,⟨_,_,_,_,W,_⟩|⟨n,_⟩⟩:=h;cases W;exact yG U n)⟩
 |d+1=>Ae5 (k:=2*d+6) AA T (AbH AA T (Af1 T d))
inductive RdT:NV->Option Nd->Prop
 |ok {u:NV} {x:Nd}:Wd 12 x->Wt x u->RdT u (some x)
 |nil:RdT [] none
 |more {u v:NV} {x:Nd}:Wd 12 x->Wt x u->RdT (u++58::v) none
inductive Am6 (t:Adr)(vs:LI)(H:Hp)(Q:VK)(E:XK):Prop
|mk(u:_)(o:_)(_:vs=[.str (tx u)])(_:u.length<=1000000)(_:RdT u o)(_:(∀x v H',o=some x->Aw H H'->AtN (nw H H') x v->Q v H'))(_:(o=none->∀H',Aw H H'->E (.ref t.BK) none H'))
theorem Ad8(T:Txt K mg t):Bm P w K mg base (CX1 P w) 30 t.Y9 t.YB ["text"] (Am6 t):=by
 refine T.QQ.F.okX Oe ?_;rintro _ _ _ _ H _ Q E l ⟨u,o,rfl,D,C,k1,k2⟩;refine⟨_,(Ac (Bd (i:=1) Oe.nd U NN (Ez T.Bu.m ((M4 T).mono Ap) l U T.Ai0 T.DX.b .nil Ay (Aa (pv 0) Ab)))
  (Ac (Bj (El (pv 1) T.Bu.c T.Bh.m ((Cr T).mono Ap) l T.Bh.b .nil Ay (Aa Af Ab)))
  (Ac (Bd (i:=2) Oe.nd U NN (Aj ((Af1 T 12).mono Ap) l U T.Jo.m T.Jo.F.kp T.Jo.b .nil Cq (Aa (pv 1) (Aa Ah Ab))))
  (Ac (Bl (Hr (Fb (Th (pv 1) T.Bu.c T.Ey.m ((Kq T).mono Ap) l T.Ey.b .nil Ay)))
   (Ad (DR T.BW U T.BX (Aa Af Ab)))
   Aq)
  (Ad (Az (pv 2))))))),?_⟩;refine⟨_,U,λr dx d s I=>⟨r,dx,u,U,Ae,?_⟩⟩;rw[Kv];refine⟨U,?_⟩;have q:Rd t (upd (upd H dx (.own r)) r (.ins t.Bg dx (rf u 0))) r dx u 0:=⟨Ae,Ayf _,D⟩;have z:∀b o,H b=some o->(upd (upd H dx (.own r)) r (.ins t.Bg dx (rf u 0))) b=some o:=λb o e=>by
  rw[Ao (Bf e d),Ao (Bf e s)];exact e
 have A:∀b,(upd (upd H dx (.own r)) r (.ins t.Bg dx (rf u 0))) b=none->H b=none:=λb e=>by
  cases h:H b with
  |none=>rfl
  |some o=>simp_all
 generalize upd (upd H dx (.own r)) r (.ins t.Bg dx (rf u 0))=H0 at q z A ⊢;have p:∀{H'},BV r H0 H'->Aw H H':=λG b o e=>G b o (Bf e d) (z b o e);have nk:Nk u:=by
  cases C with
  |ok W h =>
   have:= (Aoy W h).nk (b:=[])
   rwa [Ayr]at this
  |nil=>exact λe=>by cases e
  |more W h=>exact(Aoy W h).nk
 refine⟨_,U,r,dx,rf u 0,U,q.1,(Dl u _).2.2.2,S8 (a:=bl 0) q U (Zk nk) Ap λH1 p1 f j d1=>?_⟩;cases C with
 |nil=>exact⟨_,U,r,dx,_,p1,1,U,U,j,.inr ⟨Ap,d1,λH' s'=>k2 U _ (p (f.trans s'))⟩⟩
 | @ok _ x W h =>
  refine⟨_,U,r,dx,u,p1,1,U,U,j,.inl ⟨x,u,[],AC,W,h,(λc e=>by cases e),λy H2 p2 n R2 d2 B=>⟨_,U,r,dx,rf u p2,U,R2.1,(Dl u _).1,r,dx,u,p2,U,R2,_,U,?_⟩⟩⟩;rw[zN (by have:=congrArg List.length d2;have:=R2.2.1;rw[Ays,Ayu]at *;lia)];exact GQ ⟨_,U,k1 x y H2 U (p (f.trans n)) (B.mono (Ai8 λb e=>A b (Ld f j e).1))⟩
 | @more u v x W h =>
  refine⟨_,U,r,dx,_,p1,1,U,U,j,.inl ⟨x,u,58::v,d1,W,h,λc e=>.inr (.inr (yI e).symm),λy H2 p2 n R2 d2 B=>⟨_,U,r,dx,rf _ p2,U,R2.1,(Dl _ _).1,r,dx,_,p2,U,R2,_,U,?_⟩⟩⟩;rw[zJ (λe=>by rw[e,Az4]at d2;cases d2)];exact Kz ⟨Ap,k2 U _ (p (f.trans n))⟩
end
def Tw (d:Nat)(x:Nd):Prop:=∀u,Wt x u->(wr d x).length<=u.length/\10∉u
theorem AgJ{p:Nat->Bool}(a:p 10=false){g:Nat}(h:∀c∈z,p c=true):10∉z++bl g:=λe=>by
 rcases zG.mp e with e|e
 ·simp_all
 ·have:= Od e;lia
theorem AoN{d:Nat}:∀{ts:List Nd} {us:NV},(∀x∈ts,Tw d x)->WtL ts us->(cj (ts.map (wr d))).length<=us.length/\10∉us
 |[],_,_,h=>by cases h
 |[x],_,T,h=>by
  cases h with
  |one h =>
   have:= T x AxW _ h;simp[cj];exact this
  |cons _ h=>cases h
 |x::y::ts,_,T,h=>by
  cases h with
  | @cons _ u us _ g h f =>
   have a:=T x AxW _ h;have b:=AoN (λz c=>T z (AxY _ c)) f;have e:(cj ((x::y::ts).map (wr d))).length=(wr d x).length+1+(cj ((y::ts).map (wr d))).length:=by
    simp[cj];lia
   rw[e];refine⟨by simp only [AxS,AxX];lia,λm=>?_⟩;rcases zG.mp m with m|m
   ·exact a.2 m
   ·rcases yC.mp m with m|m
    ·cases m
    ·rcases zG.mp m with m|m
     ·have:= Od m;lia
     ·exact b.2 m
theorem AkT{d:Nat}:∀{ks:NV} {ts:List Nd},Kds d ks ts->∀x∈ts,Wd d x\/∃n,x=Nd.num n/\n<100
 |[],[],_,x,h=>by cases h
 |[],_::_,W,_,_=>W.elim
 |k::ks,[],W,_,_=>W.elim
 |k::ks,y::ts,W,x,h=>by
  rcases yC.mp h with rfl|h
  ·have w:=W.1;split at w
   ·exact .inl w
   ·exact .inr w
  ·exact AkT W.2 x h
theorem AoO:∀{d:Nat} {x:Nd},Wd d x->Tw d x
 | 0,_,W=>by cases W
 |d+1,x,W=>λu h=>by
  cases h with
  |num=>cases W
  |run=>cases W
  |nam =>
   cases W with
   |nam f=>exact⟨by rw[AjA,AxS];lia,AgJ Ap (Ls f).2⟩
  | @node z ts us g1 g2 g3 j =>
   have t:∀x∈ts,Tw d x:=by
    rcases Ad7 W with ⟨rs,_,rfl,_,o⟩|⟨_,ks,_,Kd,_⟩
    ·intro x a u h;obtain⟨y,m,rfl⟩:=yB.mp a;cases h;exact⟨by rw[Aon,AxS];lia,AgJ (p:=λc=>decide (c=35\/c=46)) Ap λc hc=>zN ((o y m).2 c hc)⟩
    ·intro x a;rcases AkT Kd x a with w|⟨n,rfl,hn⟩
     ·exact AoO w
     ·intro u h;cases h;exact⟨by rw[Aom,AxS];lia,AgJ Ap (Agl n (yD.mpr hn)).2.2.1⟩
   have b:=AoN t j;have i:=AgJ (g:=0) Ap (XJ W).2;refine⟨?_,λm=>?_⟩
   ·show(z++(40::(cj (ts.map (wr d))++[41]))).length<=_;simp only [AxS,AxX,Ayu];lia
   ·have l:∀{g:Nat},10∉bl g:=λe=>by have:= Od e;lia
    simp[l,b.2]at m;exact i (Azg _ m)
theorem AiA(z:NV):∀(ys:NI)(acc:Array Nat),(ys.map tx).foldl (λacc p=>acc++(tx z).cps++p.cps) acc=acc++((ys.map λy=>z++y).flatten).toArray
 |[],acc=>AB
 |y::ys,acc=>by
  rw[Ayd,Azq,AiA z ys];simp[tx]
theorem Ad9(z y:NV)(ys:NI):Txt.join (tx z) ((y::ys).map tx)=tx (y++(ys.map λy=>z++y).flatten):=by show Str.mk _=_;simp only [Ayd,List.drop_one,List.tail_cons,List.headD_cons];rw[AiA];simp[tx]
section
variable {K:NO}{base:Heap}{t:Adr}
def pf (l:Nn)(z:Str):List (Str×V):=[("texts",.ref l),("writing",.str z)]
inductive AoP (K:NO)(vs:LI)(H:Hp)(Q:VK)(z3:XK):Prop
|mk(C:Nn)(r:Nn)(dx:Nn)(a:Nn)(ts:NI)(z:Str)(_:vs=[.ref r,.ref a,.str z])(_:H r=some (.ins C dx []))(_:Cls K C)(_:Ck K C "texts") (_:Ck K C "writing") (_:SqL K H a (vS ts))(_:∀l,H l=none->Q .non (upd (upd H l (.lst (vS ts))) r (.ins C dx (pf l z))))
theorem Cu(T:Txt K mg t):Bm P w K mg base CX0 1 t.Hc t.PQ ["self","texts","writing"] (AoP K):=by
 refine T.Ci.F.ok Yp ?_;rintro _ _ _ _ H _ Q E i ⟨C,r,dx,a,ts,z,rfl,h1,hc,b,e,h,k⟩;refine⟨_,(Ac (HJ (K:=K) (pv 0) (BR (Fj) U T.Jq Hk (Aa (pv 1) Ab)))
  (Ad (HJ (K:=K) (pv 0) (pv 2)))),?_⟩;refine⟨_,U,_,_,U,.inl h,λl f=>?_⟩;have d:=Bf h1 f;have c:(upd H l (.lst (vS ts))) r=some (.ins C dx []):=by rw[Ao d];exact h1
 refine⟨_,U,_,_,_,_,U,c,hc,b,Ap,_,U,_,U,_,_,_,_,U,Ae,hc,e,(by show 1<1000;decide),?_⟩;rw[Kv];exact k l f
def pcs (t:Adr):NW:=[t.Gm,t.HY,t.Gn,t.Fz,t.Ha,t.FJ,t.Hb,t.Jf,t.Ew,t.Ia,t.Pz]
structure PcC (K:NO)(t:Adr)(C:Nn):Prop where
 c:Cls K C
 n1:Ck K C "texts"
 n2:Ck K C "writing"
 wide:Meth K C "wide" t.CW
 high:Meth K C "high" t.CZ
 AvS:Meth K C "cloth" t.Cy
 told:Meth K C "told" t.Dc
theorem pcC(T:Txt K mg t)(h:C∈pcs t):PcC K t C:=by
 simp only [pcs,Ayj,Ayq,yM]at h;rcases h with rfl|rfl|rfl|rfl|rfl|rfl|rfl|rfl|rfl|rfl|rfl
 ·exact⟨T.Agy.c,T.Ux,T.Qo,T.Aep,T.Aeq,T.Ado,T.Aer⟩
 ·exact⟨T.AjO.c,T.Wu,T.Su,T.Agz,T.Ag0,T.Aes,T.Ag1⟩
 ·exact⟨T.Ag2.c,T.Uy,T.Qp,T.Aet,T.Aeu,T.Adp,T.Aev⟩
 ·exact⟨T.Adq.c,T.Sv,T.N6,T.Ads,T.Adt,T.AbC,T.Adu⟩
 ·exact⟨T.Ag3.c,T.Uz,T.Qq,T.Aew,T.Aex,T.Adv,T.Aey⟩
 ·exact⟨T.Adw.c,T.Sw,T.NB,T.Adx,T.Ady,T.AbD,T.Adz⟩
 ·exact⟨T.Ag4.c,T.U0,T.Qs,T.Aez,T.Ae0,T.Ad0,T.Ae1⟩
 ·exact⟨T.AjP.c,T.Ww,T.Sx,T.Ag5,T.Ag6,T.Ae2,T.Ag7⟩
 ·exact⟨T.Aao.c,T.Qt,T.My,T.AbE,T.AbF,T.Aap,T.AbG⟩
 ·exact⟨T.AjQ.c,T.Wy,T.Sy,T.Ag8,T.Ag9,T.Ae3,T.AgA⟩
 ·exact⟨T.AoA.c,T.Zg,T.U3,T.Ai1,T.Ai2,T.AgB,T.Ai3⟩
def Pc (t:Adr)(H:Hp)(p:Nn)(x:NI)(z:NV):Prop:=∃C dx l,C∈pcs t/\H p=some (.ins C dx (pf l (tx z)))/\H l=some (.lst (vS x))
theorem Pc.mono{p:Nn}(h:Pc t H p x z)(s:∀b o,H b=some o->H' b=some o):Pc t H' p x z:=by obtain⟨C,dx,l,a,h1,h2⟩:=h;exact⟨C,dx,l,a,s _ _ h1,s _ _ h2⟩
theorem AdA(l:Nn)(z:Str):(pf l z).lookup ("texts":Str)=some (V.ref l):=rfl
theorem AjS(l:Nn)(z:Str):(pf l z).lookup ("writing":Str)=some (V.str z):=rfl
theorem Acb(l:Nn)(z:Str):(pf l z).lookup ("wide":Str)=none/\(pf l z).lookup ("high":Str)=none/\(pf l z).lookup ("sign":Str)=none/\(pf l z).lookup ("cloth":Str)=none/\(pf l z).lookup ("told":Str)=none:=⟨U,U,U,U,U⟩
theorem Abv{cl:NI}{x:NV}(h:cl[i]?=some x):atI (vS cl) (i:Int)=some (.str (tx x)):=Bw AA (by rw[Ayi];unfold vS;rw[AxZ,h];rfl)
theorem Cl.at(C:Cl x m n)(h:i<n):∃u,x[i]?=some u/\u.length=m:=by
 have hi:i<x.length:=by rw[C.hn];exact h
 exact⟨x[i],AxT hi,C.hm _ (Ayp hi)⟩
inductive AkU (t:Adr)(vs:LI)(H:Hp)(Q:VK)(z3:XK):Prop
|mk(p:_)(x:_)(z:_)(m:_)(n:_)(_:vs=[.ref p])(_:Pc t H p x z)(_:Cl x m n)(_:Q (.int ((m:Nat):Int)) H)
theorem Ei(T:Txt K mg t):Bm P w K mg base CX0 1 t.CW t.Yx ["self"] (AkU t):=by refine T.Eg.F.ok Aei ?_;rintro _ _ _ _ H _ Q E h ⟨p,x,z,m,n,rfl,⟨C,dx,l,b,e,f⟩,D,k⟩;have C:=pcC T b;obtain⟨u,d,a⟩:=D.at D.n1;have:= D.m40;refine⟨_,(Ad (Az (Bb BL U T.Cd Bv (Aa (Bq (Be) (Dt (pv 0) U) Ah (λ_ _=>rfl)) Ab)))),_,U,_,_,_,_,_,U,e,C.c,C.n1,AdA _ _,_,_,_,_,U,U,yW f,Abv d,_,U,(by rw[Ba,a];exact big AA),?_⟩;rw[Ba,a];exact k
inductive AkV (t:Adr)(vs:LI)(H:Hp)(Q:VK)(z3:XK):Prop
|mk(p:_)(x:_)(z:_)(m:_)(n:_)(_:vs=[.ref p])(_:Pc t H p x z)(_:Cl x m n)(_:Q (.int ((n:Nat):Int)) H)
theorem Ej(T:Txt K mg t):Bm P w K mg base CX0 1 t.CZ t.Yy ["self"] (AkV t):=by refine T.Eh.F.ok Aej ?_;rintro _ _ _ _ H _ Q E e ⟨p,x,z,m,n,rfl,⟨C,dx,l,a,b,d⟩,D,k⟩;have C:=pcC T a;refine⟨_,(Ad (Az (Bb (Ax) U T.Cd Bv (Aa (Dt (pv 0) U) Ab)))),_,U,_,_,_,_,_,U,b,C.c,C.n1,AdA _ _,_,_,U,.inl (yW d),?_⟩;rw[Bc,D.hn];exact k
inductive AiB (t:Adr)(vs:LI)(H:Hp)(Q:VK)(z3:XK):Prop
|mk(p:_)(x:_)(z:_)(_:vs=[.ref p])(_:Pc t H p x z)(_:∀l,H l=none->Q (.ref l) (upd H l (.lst (vS x))))
theorem De(T:Txt K mg t):Bm P w K mg base CX0 1 t.Cy t.Wb ["self"] (AiB t):=by refine T.Di.F.ok AcU ?_;rintro _ _ _ _ H _ Q E f ⟨p,x,z,rfl,⟨C,dx,l,a,d,e⟩,k⟩;have C:=pcC T a;exact⟨_,(Ad (Az (BR (Fj) U T.Jq Hk (Aa (Dt (pv 0) U) Ab)))),_,U,_,_,_,_,_,U,d,C.c,C.n1,AdA _ _,_,_,U,.inl (yW e),λq b=>k q b⟩
inductive AkW (t:Adr)(vs:LI)(H:Hp)(Q:VK)(z3:XK):Prop
|mk(p:_)(x:_)(z:_)(_:vs=[.ref p])(_:Pc t H p x z)(_:Q (.str (tx z)) H)
theorem Dw(T:Txt K mg t):Bm P w K mg base CX0 1 t.Dc t.Yz ["self"] (AkW t):=by refine T.DG.F.ok Aek ?_;rintro _ _ _ _ H _ Q E e ⟨p,x,z,rfl,⟨C,dx,l,a,b,d⟩,k⟩;have C:=pcC T a;exact⟨_,(Ad (Az (Dt (pv 0) U))),_,U,_,_,_,_,_,U,b,C.c,C.n2,AjS _ _,k⟩
inductive AoQ (t:Adr)(vs:LI)(H:Hp)(Q:VK)(E:XK):Prop
|mk(m:Nat)(n:Nat)(_:vs=[.int (m:Int),.int (n:Int)])(_:(m<=40/\n<=40->Q .non H))(_:(40<m\/40<n->∀H',Aw H H'->E (.ref t.Ca) none H'))
theorem GD(T:Txt K mg t):Bm P w K mg base (CX1 P w) 2 t.Y7 t.Y8 ["ends","picks"] (AoQ t):=by
 refine T.Ds.F.okX Aed ?_;rintro _ _ _ _ H _ Q E b ⟨m,n,rfl,k1,k2⟩;refine⟨_,(Ad (Bl (PW.pt (pw_or (Ai HD (pv 0) (Ce (v:=.int 40) U T.Ek.choose_spec ⟨_,U⟩) (Av _)) (pw_or1 (Ai HD (pv 1) (Ce (v:=.int 40) U T.Ek.choose_spec ⟨_,U⟩) (Av _)))))
   (Ad (DR T.Mu U T.QW (Aa Af Ab)))
   Aq)),?_⟩;refine⟨_,U,_,_,U,U,_,U,CP (λc1=>?_) (λc1=>?_)⟩
 ·exact⟨Ap,k2 (.inl AA) _ (.refl _)⟩
 ·refine⟨_,U,_,_,U,U,_,U,CP (λa=>?_) (λa=>?_)⟩
  ·exact⟨Ap,k2 (.inr AA) _ (.refl _)⟩
  ·exact k1 AA
theorem Aua:∀(ys:NI),((ys.map tx).map (·.length)).sum+ys.length<=(cj ys).length+1
 |[]=>AB
 |y::ys=>by
  have h:∀ys:NI,((ys.map tx).map (·.length)).sum+ys.length=((ys.map λy=>[44]++y).flatten).length:=λys=>by
   induction ys with
   |nil=>rfl
   |cons x ys a =>
    rw[Ayd,Ayd,Ay6,Ayd,Ayv,AxS,AxS,<-a,Ba,AxX,Azc];lia
  have:= h ys;unfold cj;rw[Ayd,Ayd,Ay6,AxS,Ba,AxX,<-this];lia
theorem AjT(z:NV)(ys:NI):(wz z ys).length=z.length+(cj ys).length+2:=by unfold wz;rw[AxS,AxX,AxS,Azc];lia
inductive AjU (K:NO)(vs:LI)(H:Hp)(Q:VK)(z3:XK):Prop
|mk(a:Nn)(ws:NV)(ys:NI)(_:vs=[.str (tx ws),.ref a])(_:SqL K H a (vS ys))(_:ys≠[])(_:(wz ws ys).length<=1000000)(_:Q (.str (tx (wz ws ys))) H)
theorem Fq(T:Txt K mg t):Bm P w K mg base CX0 1 t.Afx t.Afy ["word","things"] (AjU K):=by
 refine T.written.F.ok AjJ ?_;rintro _ _ _ _ H _ Q E f ⟨a,ws,ys,rfl,c,b,hw,k⟩;refine⟨_,(Ad (Az (Ak Am (Ak Am (Ak Am (pv 0) Af) (Bx zI zS zV (DN (K:=K)) Af (Aa (pv 1) Ab))) Af))),?_⟩;have e:((",":Str)).length=1:=At
 have cl:=Aua ys;rw[AjT]at hw;refine⟨_,U,_,_,U,U,(by rw[Ai7,Ba,Ba];exact big AD),U,_,U,_,_,ys.map tx,U,U,(by rw[<-Gj];exact c),?_,?_⟩
 ·grind
 ·have d:Txt.join (tx [44]) (ys.map tx)=tx (cj ys):=by
   cases ys with
   |nil=>exact yG U b
   |cons y ys=>exact Ad9 [44] y ys
  rw[Ai7,Am1,Am2,d,Bt];refine⟨_,_,U,U,(by rw[Ba,Ba];exact big (by simp only [AxS,AxX,Ayu];lia)),?_⟩;rw[Bt];refine⟨_,_,U,U,(by rw[Ba,Ba];exact big (by simp only [AxS,AxX,Ayu];lia)),?_⟩;rw[Bt,show(ws++[40]++cj ys)++[41]=wz ws ys by unfold wz;simp];exact k
theorem z0(i:Nat):(0+(i:Int)).toNat=i:=by exact Ar.m2
theorem AiC(K:NO)(n:String):W.kitOne K (.type n) (.type n)=some true:=yF (beq_self_eq_true _)
theorem AvT:(V.str ⟨#[c]⟩:V)=V.str ⟨#[d]⟩↔c=d:=
 ⟨λz=>by injection z with z;exact(yS (Ja z)).1,λz=>by rw[z]⟩
theorem e35:(V.str ⟨#[35]⟩:V)=V.str "#":= congrArg V.str At
theorem Cv(h:n<=40):n<=sizeLine:=Ayh h Ap
theorem occ(h:Sg c):(!(!(Builtin.Str.occurrences "#." ⟨#[c]⟩ 0 (Str.length "#.") 1).isEmpty))=false:=by rcases h with h|h<;>subst h<;>decide +kernel
inductive Ae7 (vs:LI)(H:Hp)(Q:VK)(z3:XK):Prop
|mk(t:NV)(_:vs=[.str (tx t),.int (t.length:Int),.str "#."])(_:(∀c∈t,Sg c))(_:t.length<=40)(_:Q .non H)
theorem Ae8(T:Txt K mg t):Bm P w K mg base CX0 1 t.Y5 t.Y6 ["text","ends","signs"] Ae7:=by
 refine T.QM.F.ok V6 ?_;rintro _ _ _ _ H _ Q E d ⟨t,rfl,a,b,k⟩;refine⟨_,(Ac (Bl (Ai Lh (Bb BL U T.Cd Bv (Aa (pv 0) Ab)) (pv 1) (Av _))
   (Ad DK)
   Aq)
  (Ad (DP yJ U (WD (pv 0)) (Bs (i:=3) V6.nd U NN)
   (Ad (Bl (Ai Xo (pv 3) (pv 2) U)
    (Ad DK)
    Aq))))),?_⟩;refine⟨_,U,_,U,(by exact Cv b),_,U,U,_,U,Vz (by rw[Ba]) ⟨_,U,_,U,AfT (λi σ H2=>∃v,σ=[some (.str (tx t)),some (.int (t.length:Int)),some (.str "#."),v]/\H2=H) ⟨none,U,U⟩ ?_ ?_⟩⟩
 ·rintro i c σ H2 hc ⟨v,rfl,rfl⟩;rw[WK]at hc;refine⟨_,U,_,U,_,_,U,U,_,U,?_⟩;rw[occ (a c (Ayb hc))];exact GQ ⟨_,U,U⟩
 ·simp_all
inductive Zn (K:NO)(vs:LI)(H:Hp)(Q:VK)(z3:XK):Prop
|mk(a:Nn)(cl:NI)(m:Nat)(n:Nat)(_:vs=[.ref a,.int 1,.str "#."])(_:SqL K H a (vS cl))(_:Cl cl m n)(_:∀p,H p=none->Q (.ref p) (upd H p (.tup [.int (m:Int),.int (n:Int)])))
theorem Zo(T:Txt K mg t):Bm P w K mg base CX0 2 t.Qe t.Qf ["texts","least","signs"] (Zn K):=by
 refine T.Ik.F.ok HQ ?_;rintro _ _ _ _ H _ Q E s ⟨a,cl,m,n,rfl,d,C,k⟩;have h:(vS cl).length=n:=by rw[Bc,C.hn]
 have l:0<cl.length:=by rw[C.hn];exact C.n1
 have f:=C.hm cl[0] (Ayp l);have c1:=C.n1;have u:=C.n40;have c3:=C.m1;have j:=C.m40;refine⟨_,(Ac (Bl (PW.pt (pw_or (Ai Hf (Bb (Ax (K:=K)) U T.Cd Bv (Aa (pv 0) Ab)) (pv 1) (Av _)) (pw_or1 (Ai HD (Bb (Ax (K:=K)) U T.Cd Bv (Aa (pv 0) Ab)) (Ce (v:=.int 40) U T.Ek.choose_spec ⟨_,U⟩) (Av _)))))
   (Ad DK)
   Aq)
  (Ac (Bd (i:=3) HQ.nd U NN (Bb BL U T.Cd Bv (Aa (Bq (Be) (pv 0) Ah (λ_ _=>rfl)) Ab)))
  (Ac (Bl (PW.pt (pw_or (Ai Hf (pv 3) (pv 1) (Av _)) (pw_or1 (Ai HD (pv 3) (Ce (v:=.int 40) U T.Ek.choose_spec ⟨_,U⟩) (Av _)))))
   (Ad DK)
   Aq)
  (Ac (DP yJ U (BJ (K:=K) (pv 0)) (Bs (i:=4) HQ.nd U NN)
   (Ad (Bj (Aj ((Ae8 T).mono Ap) s U T.QM.m T.QM.F.kp T.QM.b .nil Ay (Aa (pv 4) (Aa (pv 3) (Aa (pv 2) Ab)))))))
  (Ad (Az (CT (Aa (pv 3) (Aa (Bb (Ax (K:=K)) U T.Cd Bv (Aa (pv 0) Ab)) Ab))))))))),?_⟩;refine⟨_,U,_,_,U,.inl d,_,U,_,_,U,U,_,U,DQ AD ⟨_,U,_,_,U,.inl d,_,_,U,U,_,U,DQ AD ⟨_,U,_,_,_,_,U,U,d,Bw Ap (Acz (AxT l)),_,U,(by rw[Ba,f];exact Cv j),?_⟩⟩⟩;rw[Ba,f];refine⟨_,U,_,U,_,_,U,U,_,U,DQ (by exact Ar.i3 c3) ⟨_,U,_,_,U,U,_,U,DQ (by exact Ar.i3 j) ?_⟩⟩;refine⟨_,U,_,U,⟨_,d⟩,Ff (λi σ H2=>∃v,σ=[some (.ref a),some (.int 1),some (.str "#."),some (.int (m:Int)),v]/\H2=H) ⟨none,U,U⟩ (λi σ H2 _ ⟨_,_,e⟩=>e▸d) ?_ ?_⟩
 ·rintro i x σ H2 q ⟨v,rfl,rfl⟩;obtain⟨t,o,rfl⟩:=Fw q;have c:=Ayb o;refine⟨_,U,_,U,_,U,t,?_,C.sg t c,?_,⟨_,U,U⟩⟩
  ·rw[C.hm t c];rfl
  ·rw[C.hm t c];exact j
 ·rintro σ H2 ⟨v,rfl,rfl⟩;refine⟨_,U,_,U,_,_,U,.inl d,AE,λp r=>?_⟩;rw[h];exact k p r
inductive AiD (K:NO)(vs:LI)(H:Hp)(Q:VK)(z3:XK):Prop
|mk(a:Nn)(cl:NI)(m:Nat)(n:Nat)(_:vs=[.ref a])(_:SqL K H a (vS cl))(_:Cl cl m n)(_:∀p,H p=none->Q (.ref p) (upd H p (.tup [.int (m:Int),.int (n:Int)])))
theorem U6(T:Txt K mg t):Bm P w K mg base CX0 3 t.AcV t.AcW ["cloth"] (AiD K):=by refine T.measured.F.ok Air ?_;rintro _ _ _ _ H _ Q E c ⟨a,cl,m,n,rfl,d,C,k⟩;exact⟨_,(Ad (Az (Aj ((Zo T).mono Ap) c U T.Ik.m T.Ik.F.kp T.Ik.b .nil Ay (Aa (pv 0) (Aa Ah (Aa Af Ab)))))),_,U,a,cl,m,n,U,d,C,k⟩
inductive AgK (K:NO)(vs:LI)(H:Hp)(Q:VK)(z3:XK):Prop
|mk(a:Nn)(cl:NI)(m:Nat)(n:Nat)(e:Nat)(_:vs=[.ref a,.int (e:Int)])(_:SqL K H a (vS cl))(_:Cl cl m n)(_:e<m)(_:∀H',Aw H H'->Q (.str (tx (col cl e))) H')
theorem AgL(T:Txt K mg t):Bm P w K mg base CX0 1 t.AaT t.AaU ["cloth","end"] (AgK K):=by
 refine T.Vd.F.ok Agn ?_;rintro _ _ _ _ H _ Q E y ⟨a,cl,m,n,e,rfl,o,C,r,k⟩;have l:=C.n40;have q:=C.m40;refine⟨_,(Ad (Az (Bx zI zS zV (DN (K:=K)) Af (Aa (CV (CJ.mk (Bp:=[1]) (Nc:=["text","end"]) U At At (Cg (sc0:=Ag Tu) U At) U rfl U At (λk j h=>match k,h with | 0,h=>by obtain rfl:=yI h;exact⟨_,U,U,U⟩|_+1,h=>by simp at h)) U (BJ (K:=K) (pv 0)) (λ_ _ _ _ _=>.nil) (λ_ _ _ _ _=>(Bq JS (pv 0) (pv 1) (λ_ _=>rfl)))) Ab)))),U,_,U,_,U,⟨_,o⟩,CK (xs:=vS cl) (λi ys H2=>H2=H/\ys=vS ((cl.take i).map λt=>[t.getD e 0])) ⟨U,U⟩ ?_ ?_ ?_ ?_⟩
 ·rintro i ys H2 hi ⟨rfl,rfl⟩;refine⟨o,?_⟩;rw[Bc,AxR,Ayc];exact Ar.k7
 ·rw[Bc,C.hn];exact Cv l
 ·rintro i x ys H2 hi s ⟨rfl,rfl⟩;obtain⟨t,f,rfl⟩:=Fw s;have d:=Ayb f;have c:=C.hm t d;have b:e<t.length:=by exact Ar.b3 c r
  refine⟨_,U,_,U,_,_,t[e],U,U,(by rw[Ba,c];exact Cv q),(by exact Akr (AxT b)),?_⟩;refine CN.of hi ⟨U,?_⟩;rw[JT,Dj,Aya,f];simp[List.getD,b]
 ·rintro ys H2 p ⟨rfl,rfl⟩ u;rw[Bc,Ayg];refine⟨_,_,((cl.map λt=>[t.getD e 0]).map tx),U,U,yW (by rw[Ae,Gj]),?_,?_⟩
  ·have v:=AlI (λt:NV=>t.getD e 0) cl;rw[v,AxR,AxR,C.hn];have:n*(Str.length "")=0:=by rw[show Str.length ""=0 from At];exact Ar.f1
   exact Ar.a2 l
  ·rw[show(("":Str))=tx [] from At,GR];have e2:=Ri (λt:NV=>t.getD e 0) cl;rw[e2];exact k _ (.upd u)
inductive Am7 (vs:LI)(H:Hp)(Q:VK)(z3:XK):Prop
|mk(t:NV)(_:vs=[.str (tx t)])(_:t.length<=40)(_:∀H',Aw H H'->Q (.str (tx (t.map flip))) H')
theorem S9(T:Txt K mg t):Bm P w K mg base CX0 1 t.Uj t.Uk ["signs"] Am7:=by
 refine T.FW.F.ok Ab4 ?_;rintro _ _ _ _ H _ Q E m ⟨t,rfl,b,k⟩;refine⟨_,(Ad (Az (Bx zI zS zV (DN (K:=K)) Af (Aa (CV (CJ.mk (Bp:=[]) (Nc:=["sign"]) U At At (Cg (sc0:=Ag Lx) U At) U rfl U At (λ_ _ h=>by simp at h)) U (WD (pv 0)) (λ_ _ _ _ _=>.nil) (λ_ _ _ _ _=>(Oz (Ai Cj (pv 0) Af (Av _)) Af Af))) Ab)))),U,_,U,_,U,Xq (λi ys H2=>H2=H/\ys=vS ((t.take i).map λc=>[flip c])) ⟨U,U⟩ ?_ ?_ ?_ ?_⟩
 ·rintro i ys H2 hi ⟨rfl,rfl⟩;rw[Bc,AxR,Ayc];exact Ar.k7
 ·exact Cv b
 ·rintro i c ys H2 hi hc ⟨rfl,rfl⟩;rw[WK]at hc;have fin:∀d,d=flip c->CN (tx t).cps.size (λi ys a=>a=H2/\ys=vS ((t.take i).map λc=>[flip c])) i (vS ((t.take i).map λc=>[flip c])++[.str (tx [d])]) H2:=λd f=>by
   subst f;refine CN.of hi ⟨U,?_⟩;rw[Dj,Aya,hc,AxV];rfl
  refine⟨_,U,U,_,U,CP (λh=>?_) (λh=>?_)⟩
  ·have e:c=35:=by
    injection h with h;exact yS (Ja h) |>.1
   have:= fin 46 (by rw[e];rfl);exact this
  ·have e:c≠35:=λz=>h (by rw[z];exact e35);have:= fin 35 (by unfold flip;rw[yE e]);exact this
 ·rintro ys H2 p ⟨rfl,rfl⟩ j;rw[M7,Ayg];refine⟨_,_,((t.map λc=>[flip c]).map tx),U,U,yW (by rw[Ae,Gj]),?_,?_⟩
  ·have l:=AlI flip t;rw[l,AxR,AxR];have:t.length*(Str.length "")=0:=by rw[show Str.length ""=0 from At];exact Ar.f1
   exact Ar.a2 b
  ·rw[show(("":Str))=tx [] from At,GR];have e2:=Ri flip t;rw[e2];exact k _ (.upd j)
inductive Ar2 (K:NO)(vs:LI)(H:Hp)(Q:VK)(z3:XK):Prop
|mk(a:Nn)(cl:NI)(m:Nat)(n:Nat)(_:vs=[.ref a])(_:SqL K H a (vS cl))(_:Cl cl m n)(_:∀l H',Aw H H'->H l=none->H' l=some (.lst (vS (back cl)))->Q (.ref l) H')
theorem AjV(T:Txt K mg t):Bm P w K mg base CX0 4 t.Afq t.Afr ["cloth"] (Ar2 K):=by
 refine T.AbZ.F.ok AjG ?_;rintro _ _ _ _ H _ Q E u ⟨a,cl,m,n,rfl,j,C,k⟩;have z:=C.n40;have v:=C.m40;refine⟨_,(Ac (Bj (Aj ((U6 T).mono Ap) u U T.measured.m T.measured.F.kp T.measured.b .nil Ay (Aa (pv 0) Ab)))
  (Ad (Az (CV (CJ.mk (Bp:=[]) (Nc:=["text"]) U At At (Cg (sc0:=Ag Aab) U At) U rfl U At (λ_ _ h=>by simp at h)) U (BJ (K:=K) (pv 0)) (λ_ _ _ _ _=>.nil) (λ_ _ _ _ _=>(Aj ((S9 T).mono Ap) u U T.FW.m T.FW.F.kp T.FW.b .nil Ay (Aa (Bx zI zS zV Acx Af (Aa (BR Aa7 U T.Jr JC (Aa (pv 0) Ab)) Ab)) Ab))))))),?_⟩;refine⟨_,U,a,cl,m,n,U,j,C,λp B=>?_⟩;have r:Aw H (upd H p (.tup [.int (m:Int),.int (n:Int)])):=.upd B;refine⟨_,U,_,U,⟨_,r.seq j⟩,CK (xs:=vS cl) (λi ys H2=>Aw H H2/\ys=vS ((cl.take i).map λt=>t.reverse.map flip)) ⟨r,U⟩ ?_ ?_ ?_ ?_⟩
 ·rintro i ys H2 hi ⟨d,rfl⟩;refine⟨d.seq j,?_⟩;rw[Bc,AxR,Ayc];exact Ar.k7
 ·rw[Bc,C.hn];exact Cv z
 ·rintro i x ys H2 hi y ⟨d,rfl⟩;obtain⟨t,o,rfl⟩:=Fw y;have l:=Ayb o;have f:=C.hm t l;refine⟨U,_,U,_,U,(by rw[Ba,f];exact Cv v),λq s=>⟨_,_,q,U,U,Ae,At,(by rw[Ba];exact Ar.g6 f v),?_⟩⟩;rw[Fv,show(("":Str))=tx [] from At,show(t.reverse.map λc=>(⟨#[c]⟩:Str))=(t.reverse.map λc=>[c]).map tx by rw[Ay7];rfl,GR];have e2:(t.reverse.map λc=>[c]).flatten=t.reverse:=(Ri id t.reverse).trans (AyP _);rw[e2];refine⟨t.reverse,U,AC,λH3 A=>CN.of hi ⟨((d.new s).over (d.free s)).trans A,?_⟩⟩;rw[Dj,Aya,o,AxV];rfl
 ·rintro ys H2 p2 ⟨d,rfl⟩ e;rw[Bc,Ayg];exact k p2 _ (d.new e) (d.free e) Ae
inductive AjW (K:NO)(vs:LI)(H:Hp)(Q:VK)(z3:XK):Prop
|mk(a:Nn)(cl:NI)(m:Nat)(n:Nat)(_:vs=[.ref a])(_:SqL K H a (vS cl))(_:Cl cl m n)(_:∀l H',Aw H H'->H l=none->H' l=some (.lst (vS (AcE cl m)))->Q (.ref l) H')
theorem Ae9(T:Txt K mg t):Bm P w K mg base CX0 4 t.Y0 t.Y4 ["cloth"] (AjW K):=by
 refine T.QL.F.ok V5 ?_;rintro _ _ _ _ H _ Q E f ⟨a,cl,m,n,rfl,l,C,k⟩;have q:=C.n40;have o:=C.m40;refine⟨_,(Ac (Bd (i:=1) V5.nd U NN (Aj ((U6 T).mono Ap) f U T.measured.m T.measured.F.kp T.measured.b .nil Ay (Aa (pv 0) Ab)))
  (Ad (Az (CV (CJ.mk (Bp:=[0]) (Nc:=["end","cloth"]) U At At (Cg (sc0:=Ag QF) U At) U rfl U At (λk j h=>match k,h with | 0,h=>by obtain rfl:=yI h;exact⟨_,U,U,U⟩|_+1,h=>by simp at h)) U (Ea U T.Es (Aa (Bq (Ep (K:=K)) (pv 1) Ah (λ_ _=>rfl)) Ab)) (λ_ _ _ _ _=>.nil) (λ_ _ _ _ _=>(Aj ((S9 T).mono Ap) f U T.FW.m T.FW.F.kp T.FW.b .nil Ay (Aa (Aj ((AgL T).mono Ap) f U T.Vd.m T.Vd.F.kp T.Vd.b .nil Ay (Aa (pv 1) (Aa (pv 0) Ab))) Ab))))))),?_⟩;refine⟨_,U,a,cl,m,n,U,l,C,λp v=>?_⟩;have s:Aw H (upd H p (.tup [.int (m:Int),.int (n:Int)])):=.upd v;refine⟨_,U,_,_,_,_,U,U,SqT.of Ae,Bw Ap U,(m:Int),U,(by exact Ar.a7),(by exact Ar.a8 o),Gr (λi ys H2=>Aw H H2/\ys=vS ((List.range i).map λe=>(col cl e).map flip)) ⟨s,U⟩ ?_ ?_ ?_ ?_⟩
 ·rintro i ys H2 hi ⟨c,rfl⟩;rw[Bc,AxR,Ayw];exact Ar.i1
 ·exact Cv o
 ·rintro i ys H2 hi ⟨c,rfl⟩;refine⟨_,U,_,U,a,cl,m,n,i,(by rw[Ay5];rfl),c.seq l,C,hi,λH3 r=>⟨col cl i,U,(by unfold col;rw[AxR,C.hn];exact Ar.a2 q),λx u=>CN.of hi ⟨(c.trans r).trans u,?_⟩⟩⟩;rw[Dj,Ay8,AxV];rfl
 ·rintro ys H2 p2 ⟨c,rfl⟩ d;exact k p2 _ (c.new d) (c.free d) Ae
inductive AoR (K:NO)(t:Adr)(vs:LI)(H:Hp)(Q:VK)(E:XK):Prop
|mk(a:Nn)(cl:NI)(m:Nat)(n:Nat)(ac:Int)(al:Int)(_:vs=[.ref a,.int ac,.int al])(_:SqL K H a (vS cl))(_:Cl cl m n)(_:1<=ac)(_:1<=al)(_:(((m:Int)*ac<=40/\(n:Int)*al<=40)->∀l H',Aw H H'->H l=none->H' l=some (.lst (vS (til cl ac.toNat al.toNat)))->Q (.ref l) H'))(_:(¬((m:Int)*ac<=40/\(n:Int)*al<=40)->∀H',Aw H H'->E (.ref t.Ca) none H'))
theorem Af2{z:Int}(a:1<=m)(b:1<=z)(h:(m:Int)*z<=40):z<=40:=by have:1*z<=(m:Int)*z:=AzO (by exact Ar.j3 a) AA;lia
theorem AdB{z:Int}(a:1<=z)(h:(m:Int)*z<=40):z.toNat*m<=40:=AD
theorem AoS(cl:NI):∀k:Nat,(List.replicate k (vS cl)).flatten=vS ((List.replicate k cl).flatten)
 | 0=>rfl
 |k+1=>by
  rw[Ayz,Ayv,AoS cl k,Ayz,Ayv];unfold vS;rw[AxV]
theorem AoT(T:Txt K mg t):Bm P w K mg base (CX1 P w) 4 t.AkC t.AkD ["cloth","across","along"] (AoR K t):=by
 refine T.AkF.F.okX Ais ?_;rintro _ _ _ _ H _ Q E I ⟨a,cl,m,n,d,al,rfl,e,C,h1,h2,k1,k2⟩;have hsz:=z7;have c1:=C.n1;have D:=C.n40;have c3:=C.m1;have J:=C.m40;refine⟨_,(Ac (Bd (i:=3) Ais.nd U NN (Aj ((U6 T).mono Ap) I U T.measured.m T.measured.F.kp T.measured.b .nil Ay (Aa (pv 0) Ab)))
  (Ac (Bl (PW.pt (pw_or (Ai HD (Ak Q8 (Bq (Ep (K:=K)) (pv 3) Ah (λ_ _=>rfl)) (pv 1)) (Ce (v:=.int 40) U T.Ek.choose_spec ⟨_,U⟩) (Av _)) (pw_or1 (Ai HD (Ak Q8 (Bq (Ep (K:=K)) (pv 3) Ah (λ_ _=>rfl)) (pv 2)) (Ce (v:=.int 40) U T.Ek.choose_spec ⟨_,U⟩) (Av _)))))
   (Ad (DR T.Mu U T.QW (Aa Af Ab)))
   Aq)
  (Ad (Az (Ak AfO (PE.nox (CV (CJ.mk (Bp:=[1]) (Nc:=["text","across"]) U At At (Cg (sc0:=Ag Agr) U At) U rfl U At (λk j h=>match k,h with | 0,h=>by obtain rfl:=yI h;exact⟨_,U,U,U⟩|_+1,h=>by simp at h)) U (BJ (K:=K) (pv 0)) (λ_ _ _ _ _=>.nil) (λ_ _ _ _ _=>(Ak K1 (pv 0) (pv 1))))) (pv 2)))))),?_⟩;refine⟨_,U,a,cl,m,n,U,e,C,λp G=>?_⟩;have c:Aw H (upd H p (.tup [.int (m:Int),.int (n:Int)])):=.upd G;have r:SqT K (upd H p (.tup [.int (m:Int),.int (n:Int)])) p [.int (m:Int),.int (n:Int)]:=SqT.of Ae;refine⟨_,U,_,_,_,_,U,U,r,Bw Ap U,_,U,_,_,U,U,.inl ⟨AA,AA⟩,_,_,U,U,_,U,CP (λg1=>?_) (λg1=>?_)⟩
 ·exact Kz ⟨Ap,k2 (λz=>AA) _ c⟩
 refine⟨_,U,_,_,_,_,U,U,r,Bw Ap U,_,U,_,_,U,U,.inl ⟨AA,AA⟩,_,_,U,U,_,U,CP (λg2=>?_) (λg2=>?_)⟩
 ·exact⟨Ap,k2 (λz=>Au) _ c⟩
 have b1:(m:Int)*d<=40:=by exact Ar.f7 g1
 have b2:(n:Int)*al<=40:=by exact Ar.f7 g2
 have B:=Af2 c3 h1 b1;have A:=Af2 c1 h2 b2;have d1:=AdB h1 b1;have d2:=AdB h2 b2;refine⟨_,U,_,U,⟨_,c.seq e⟩,CK (xs:=vS cl) (λi ys H2=>H2=upd H p (.tup [.int (m:Int),.int (n:Int)])/\ys=vS (wid (cl.take i) d.toNat)) ⟨U,U⟩ ?_ ?_ ?_ ?_⟩
 ·rintro i ys H2 hi ⟨rfl,rfl⟩;refine⟨c.seq e,?_⟩;unfold wid;rw[Bc,AxR,Ayc];exact Ar.k7
 ·rw[Bc,C.hn];exact Cv D
 ·rintro i x ys H2 hi y ⟨rfl,rfl⟩;obtain⟨t,o,rfl⟩:=Fw y;have f:=C.hm t (Ayb o);refine⟨_,U,_,U,t,d,U,U,AA,AA,(by rw[f];lia),CN.of hi ⟨U,?_⟩⟩;unfold wid;rw[Dj,Aya,o,AxV];rfl
 ·rintro ys H2 q ⟨rfl,rfl⟩ s;rw[Bc,Ayg];refine⟨_,U,_,_,_,U,U,Ae,AA,AA,?_,λl u=>?_⟩
  ·rw[Bc];unfold wid;rw[AxR,C.hn];lia
  ·rw[AoS];exact k1 ⟨b1,b2⟩ l _ ((c.new s).new u) ((c.new s).free u) Ae
theorem Ar3{ns:NF}{k:Nat}(h:k<=ns.length):ZK (vI ns) none (some (0+(k:Int)))=vI (ns.take k):=by unfold ZK;rw[Ay5,HT.Ti,HT.Kw,AyY,Cp,AyN h,Azv];unfold vI;rw[List.map_take]
theorem AvU{ns:NF}{k:Nat}(h:k<ns.length):atI (vI ns) (0+(k:Int))=some (.int (ns.getD k 0)):=by
 refine Bw (by exact Ar.a5) ?_;rw[z0];have e:ns.getD k 0=ns[k]:=by simp[List.getD,h]
 rw[e];exact JW (AxT h)
def Pcs (K:NO)(H:Hp)(as:NW)(ps:List (NI)):Prop:=as.length=ps.length/\∀i a,as[i]?=some a->SqL K H a (vS (ps.getD i []))
theorem Aub{z:Int}(a:0<=z)(h:z.toNat<as.length):atI (as.map V.ref) z=some (.ref as[z.toNat]):=Bw a (by rw[AxZ,AxT h];rfl)
inductive AjX (K:NO)(vs:LI)(H:Hp)(Q:VK)(z3:XK):Prop
|mk(a:Nn)(os:NF)(n:Int)(_:vs=[.ref a,.int n])(_:SqL K H a (vI os))(_:1<=os.length)(_:os.length<=40)(_:(∀z∈os,0<=z/\z<n))(_:Q .non H)
theorem SJ(T:Txt K mg t):Bm P w K mg base CX0 1 t.Uo t.Up ["owners","pieces"] (AjX K):=by
 refine T.FZ.F.ok Rp ?_;rintro _ _ _ _ H _ Q E l ⟨a,os,n,rfl,b,o1,d,h,k⟩;refine⟨_,(Ac (Bl (PW.pt (pw_or (Ai Hf (Bb (Ax (K:=K)) U T.Cd Bv (Aa (pv 0) Ab)) Ah (Av _)) (pw_or1 (Ai HD (Bb (Ax (K:=K)) U T.Cd Bv (Aa (pv 0) Ab)) (Ce (v:=.int 40) U T.Ek.choose_spec ⟨_,U⟩) (Av _)))))
   (Ad DK)
   Aq)
  (Ad (DP yJ U (BJ (K:=K) (pv 0)) (Bs (i:=2) Rp.nd U NN)
   (Ad (Bl (PW.pt (pw_or (Ai Hf (pv 2) Ah (Av _)) (pw_or1 (Ai Anf (pv 2) (pv 1) (Av _)))))
    (Ad DK)
    Aq))))),?_⟩;refine⟨_,U,_,_,U,.inl b,_,_,U,U,_,U,DQ (by rw[Cp];exact Ar.i3 o1) ⟨_,U,_,_,U,.inl b,_,_,U,U,_,U,DQ (by rw[Cp];exact Ar.i3 d) ⟨_,U,_,U,⟨_,b⟩,Ff (λi σ H2=>∃v,σ=[some (.ref a),some (.int n),v]/\H2=H) ⟨none,U,U⟩ (λi σ H2 _ ⟨_,_,e⟩=>e▸b) ?_ ?_⟩⟩⟩
 ·rintro i x σ H2 j ⟨v,rfl,rfl⟩;obtain⟨z,c,rfl⟩:=Ln j;have f:=h z (Ayb c);exact⟨_,U,_,_,U,U,_,U,DQ (by exact Ar.e7 f.1) ⟨_,U,_,U,_,_,U,U,_,U,DQ (by exact Ar.e6 f.2) ⟨_,U,U⟩⟩⟩
 ·simp_all
inductive Am8 (K:NO)(vs:LI)(H:Hp)(Q:VK)(z3:XK):Prop
|mk(a:Nn)(cl:NI)(m:Nat)(n:Nat)(_:vs=[.ref a,.int (m:Int),.int (n:Int)])(_:SqL K H a (vS cl))(_:cl.length=n)(_:m<=40)(_:(∀t∈cl,t.length=m/\∀c∈t,Sg c))(_:Q .non H)
theorem AdC(T:Txt K mg t):Bm P w K mg base CX0 1 t.Wf t.Wg ["piece","ends","picks"] (Am8 K):=by
 refine T.Ni.F.ok LC ?_;rintro _ _ _ _ H _ Q E p ⟨a,cl,m,n,rfl,d,hn,l,hc,k⟩;refine⟨_,(Ac (Bl (Ai Lh (Bb (Ax) U T.Cd Bv (Aa (pv 0) Ab)) (pv 2) (Av _))
   (Ad DK)
   Aq)
  (Ad (DP yJ U (BJ (K:=K) (pv 0)) (Bs (i:=3) LC.nd U NN)
   (Ac (Bl (Ai Lh (Bb BL U T.Cd Bv (Aa (pv 3) Ab)) (pv 1) (Av _))
    (Ad DK)
    Aq)
   (Ad (DP yJ U (WD (pv 3)) (Bs (i:=4) LC.nd U NN)
    (Ad (Bl (Ai Xo (pv 4) Af U)
     (Ad DK)
     Aq)))))))),?_⟩;refine⟨_,U,_,_,U,.inl d,_,U,U,_,U,Vz (by rw[Bc,hn]) ⟨_,U,_,U,⟨_,d⟩,Ff (λi σ H2=>∃v b,σ=[some (.ref a),some (.int (m:Int)),some (.int (n:Int)),v,b]/\H2=H) ⟨none,none,U,U⟩ (λi σ H2 _ ⟨_,_,_,e⟩=>e▸d) ?_ ?_⟩⟩
 ·rintro i x σ H2 o ⟨v,b,rfl,rfl⟩;obtain⟨u,h,rfl⟩:=Fw o;obtain⟨f,j⟩:=hc u (Ayb h);refine⟨_,U,_,U,(by rw[Ba,f];exact Cv l),_,U,U,_,U,Vz (by rw[Ba,f]) ⟨_,U,_,U,AfT (λi σ H3=>∃b,σ=[some (.ref a),some (.int (m:Int)),some (.int (n:Int)),some (.str (tx u)),b]/\H3=H2) ⟨_,U,U⟩ ?_ ?_⟩⟩
  ·rintro i c σ H3 hc ⟨b,rfl,rfl⟩;rw[WK]at hc;refine⟨_,U,_,_,U,U,_,U,?_⟩;rw[occ (j c (Ayb hc))];exact GQ ⟨_,U,U⟩
  ·rintro σ H3 ⟨b,rfl,rfl⟩;exact⟨_,_,U,U⟩
 ·simp_all
def AgM (os:NF)(i:Nat):NF:=(List.range i).map λk=>(plc os k:Int)
theorem AoU(os:NF)(i:Nat):(AgM os i).length=i:=by unfold AgM;rw[AxR,Ayw]
theorem Am9(os:NF)(i:Nat):AgM os (i+1)=AgM os i++[(plc os i:Int)]:=by unfold AgM;rw[Ay8,AxV];rfl
theorem AiE{os:NF}{k:Nat}(h:k<i):(AgM os i)[k]?=some (plc os k:Int):=by unfold AgM;rw[AxZ,Azk h];rfl
inductive AmA (K:NO)(vs:LI)(H:Hp)(Q:VK)(z3:XK):Prop
|mk(a:Nn)(os:NF)(_:vs=[.ref a])(_:SqL K H a (vI os))(_:os.length<=40)(_:∀l H',Aw H H'->H l=none->H' l=some (.lst (vI (AgM os os.length)))->Q (.ref l) H')
theorem Qz(T:Txt K mg t):Bm P w K mg base CX0 1 t.RN t.RQ ["owners"] (AmA K):=by
 refine T.Fo.F.ok Aae ?_;rintro _ _ _ _ H _ Q E n ⟨a,os,rfl,d,c,k⟩;refine⟨_,(Ad (Az (CV (CJ.mk (Bp:=[0]) (Nc:=["k","owners"]) U At At (Cg (sc0:=Ag JZ) U At) U rfl U At (λk j h=>match k,h with | 0,h=>by obtain rfl:=yI h;exact⟨_,U,U,U⟩|_+1,h=>by simp at h)) U (Ea U T.Es (Aa (Bb (Ax) U T.Cd Bv (Aa (pv 0) Ab)) Ab)) (λ_ _ _ _ _=>.nil) (λ_ _ _ _ _=>(Bx zM F.slot_list_count F.type_list_count (ZP) (Gq (Xv) (pv 1) Ky (GP (pv 0))) (Aa (Bq (Be) (pv 1) (pv 0) (λ_ _=>rfl)) Ab)))))),_,U,_,_,U,.inl d,_,U,(by exact Ar.a7),(by rw[Cp];exact Ar.a8 c),?_⟩;rw[Ayi,Cp];refine Gr (λi ys H2=>Aw H H2/\ys=vI (AgM os i)) ⟨.refl _,U⟩ ?_ ?_ ?_ ?_
 ·rintro i ys H2 hi ⟨b,rfl⟩;rw[Cp,AoU];exact AxU _
 ·exact Cv c
 ·rintro i ys H2 hi ⟨b,rfl⟩;refine⟨_,U,_,U,_,U,_,_,U,b.seq d,λp m=>?_⟩;rw[Ar3 (by exact Ar.c3 hi)];have e:Aw H (upd H2 p (.lst (vI (os.take i)))):=b.new m;refine⟨.inl ⟨U,_,yW Ae⟩,_,U,_,U,_,_,_,_,U,U,e.seq d,AvU hi,_,_,_,U,U,yW Ae,CN.of hi ⟨e,?_⟩⟩;rw[Am9,Ajt];rfl
 ·rintro ys H2 l ⟨b,rfl⟩ f;exact k l _ (b.new f) (b.free f) Ae
inductive AmB (vs:LI)(H:Hp)(Q:VK)(z3:XK):Prop
|mk(o:Int)(e:Int)(own:NV)(p:Nat)(_:vs=[.int o,.str (tx own),.int e,.int (p:Int)])(_:(o=e->p<own.length))(_:own.length<=40)(_:Q (.str ⟨#[XD o e own p]⟩) H)
theorem Auc(h:i<u.length):atI (tx u).cps.toList (i:Int)=some (u.getD i 0):=by refine Bw (by exact Ar.a9) ?_;show u.toArray.toList[i]?=_;simp[List.getD,h]
theorem AjY(T:Txt K mg t):Bm P w K mg base CX0 1 t.Afv t.Afw ["pick_owner","own","end_owner","place"] AmB:=by
 refine T.Aca.F.ok AjI ?_;rintro _ _ _ _ H _ Q E c ⟨o,e,own,p,rfl,b,a,k⟩;refine⟨_,(Ac (Bl (Ai Cj (pv 0) (pv 2) (Av _))
   (Ad (Az (Bq JS (pv 1) (pv 3) (λ_ _=>rfl))))
   Aq)
  (Ad (Az (Oz (Ai Hf (pv 2) (pv 0) (Av _)) Af Af)))),?_⟩;unfold XD at k;refine⟨_,U,_,U,U,_,U,CP (λh=>?_) (λh=>?_)⟩
 ·have h:o=e:=by injection h
  rw[yF h]at k;exact⟨_,U,_,U,_,_,_,U,U,(by exact Cv a),Auc (b h),k⟩
 ·have h:¬o=e:=λz=>h (by rw[z]);rw[yE h]at k;refine⟨_,U,_,U,_,_,U,U,_,U,CP (λh2=>?_) (λh2=>?_)⟩
  ·rw[yF h2]at k;exact k
  ·rw[yE h2]at k;exact k
inductive Ar4 (K:NO)(vs:LI)(H:Hp)(Q:VK)(z3:XK):Prop
|mk(p:Nn)(pe:Nn)(po:Nn)(as:NW)(ps:List (NI))(es:NF)(os:NF)(_:vs=[.ref p,.ref pe,.ref po])(_:SqL K H p (as.map V.ref))(_:Pcs K H as ps)(_:SqL K H pe (vI es))(_:SqL K H po (vI os))(_:Aj5 ps es os)(_:∀l H',Aw H H'->H l=none->H' l=some (.lst (vS (lay ps es os)))->Q (.ref l) H')
theorem Aaq(T:Txt K mg t):Bm P w K mg base CX0 2 t.RL t.RM ["pieces","ends","picks"] (Ar4 K):=by
 refine T.J4.F.ok Dh ?_;rintro _ _ _ _ H _ Q E N ⟨p,W,S,as,ps,es,os,rfl,O,hA,y,A,C,k⟩;have hsz:=z7;have al:=hA.1;have a6:=C.e1;have r:=C.e40;have ac:=C.o1;have R:=C.o40;have ml:(as.map V.ref).length=ps.length:=AD
 refine⟨_,(Ac (Bj (Aj ((SJ T).mono Ap) N U T.FZ.m T.FZ.F.kp T.FZ.b .nil Ay (Aa (pv 1) (Aa (Bb (Ax (K:=K)) U T.Cd Bv (Aa (pv 0) Ab)) Ab))))
  (Ac (Bj (Aj ((SJ T).mono Ap) N U T.FZ.m T.FZ.F.kp T.FZ.b .nil Ay (Aa (pv 2) (Aa (Bb (Ax (K:=K)) U T.Cd Bv (Aa (pv 0) Ab)) Ab))))
  (Ac (DP yJ U (Arf U T.Abu (Aa (pv 0) Ab)) (IW U (CG (Bs (i:=3) Dh.nd U NN) (CG (Bs (i:=4) Dh.nd U NN) GJ)))
   (Ad (Bj (Aj ((AdC T).mono Ap) N U T.Ni.m T.Ni.F.kp T.Ni.b .nil Ay (Aa (pv 4) (Aa (Bx (K:=K) zM F.slot_list_count F.type_list_count (ZP (K:=K)) (pv 1) (Aa (pv 3) Ab)) (Aa (Bx (K:=K) zM F.slot_list_count F.type_list_count (ZP (K:=K)) (pv 2) (Aa (pv 3) Ab)) Ab)))))))
  (Ac (Bd (i:=5) Dh.nd U NN (Aj ((Qz T).mono Ap) N U T.Fo.m T.Fo.F.kp T.Fo.b .nil Ay (Aa (pv 1) Ab)))
  (Ac (Bd (i:=6) Dh.nd U NN (Aj ((Qz T).mono Ap) N U T.Fo.m T.Fo.F.kp T.Fo.b .nil Ay (Aa (pv 2) Ab)))
  (Ac (Bd (i:=7) Dh.nd U NN (Cm Ab))
  (Ac (DP yJ U (Agd (K:=K) U T.Ao5 (Aa (pv 2) (Aa (pv 6) Ab))) (IW U (CG (Bs (i:=8) Dh.nd U (Or.inr U)) (CG (Bs (i:=9) Dh.nd U NN) GJ)))
   (Ac (Bd (i:=10) Dh.nd U (Or.inr U) (Bq (Be (K:=K)) (Bq (Be (K:=K)) (pv 0) (pv 8) (λ_ _=>rfl)) (pv 9) (λ_ _=>rfl)))
   (Ac (Afi (K:=K) (i:=11) (MF.mk (Bp:=[8,10]) (Nc:=["end_owner","k","owner","own"]) U At At (Cg (sc0:=Ag JX) U At) U rfl U rfl U At (λk j h=>match k,h with | 0,h=>by obtain rfl:=yI h;exact⟨_,U,U,U⟩ | 1,h=>by obtain rfl:=yI h;exact⟨_,U,U,U⟩|_+2,h=>by simp at h)) U Dh.nd U rfl (Agd (K:=K) U T.Ao5 (Aa (pv 1) (Aa (pv 5) Ab))) (λ_ _ _ _ _=>.nil) (λ_ _ _ _ _=>(Aj ((AjY T).mono Ap) N U T.Aca.m T.Aca.F.kp T.Aca.b .nil Ay (Aa (pv 2) (Aa (pv 3) (Aa (pv 0) (Aa (pv 1) Ab)))))) U)
   (Ad (Bj (Bx (K:=K) zM zL zQ Dg (pv 7) (Aa (Bx (K:=K) zI zS zV (DN (K:=K)) Af (Aa (pv 11) Ab)) Ab)))))))
  (Ad (Az (pv 7)))))))))),?_⟩;refine⟨_,U,_,U,_,_,U,.inl O,W,es,_,U,y,a6,r,(by rw[ml];exact C.e),_,U,_,U,_,_,U,.inl O,S,os,_,U,A,ac,R,(by rw[ml];exact C.o),_,U,_,U,⟨_,O⟩,AnY (λi σ H2=>∃v1 v2,σ=[some (.ref p),some (.ref W),some (.ref S),v1,v2,none,none,none,none,none,none,none]/\Aw H H2) ⟨none,none,U,.refl _⟩ (λi σ H2 ⟨_,_,_,L⟩=>L.seq O) ?_ ?_⟩
 ·rintro i x σ H2 T2 hx ⟨v1,v2,rfl,L⟩ Z;obtain⟨a,ha,rfl⟩:∃a,as[i]?=some a/\x=.ref a:=by
   grind
  have hi:i<ps.length:=by rw[<-al];exact(zC.mp ha).1
  have z:Aw H (upd H2 T2 (.tup [.int (i:Int),.ref a])):=L.new Z;exact⟨_,_,U,SqT.of Ae,U,_,_,U,_,_,U,U,_,U,_,U,.inl ⟨U,_,z.seq y⟩,_,U,_,_,_,U,U,z.seq y,_,U,.inl ⟨U,_,z.seq A⟩,_,U,_,_,_,U,U,z.seq A,a,ps.getD i [],es.count (i:Int),os.count (i:Int),U,z.seq (hA.2 i a ha),C.hn i hi,Ayh (List.count_le_length ..) r,C.hm i hi,_,_,U,z⟩
 ·rintro σ H2 ⟨v1,v2,rfl,L⟩;refine⟨_,U,W,es,U,L.seq y,r,λl1 H3 z ag G=>?_⟩;have u3:=L.trans z;refine⟨_,U,S,os,U,u3.seq A,R,λl2 H4 s4 af J=>?_⟩;have u4:=u3.trans s4;refine⟨Ayf _,λq hq=>?_⟩;have nq:=u4.free hq;have u5:Aw H (upd H4 q (.lst [])):=u4.new hq;have w5:Aw H4 (upd H4 q (.lst [])):=.upd hq;refine⟨_,U,_,U,.l S,.l l2,U,trivial,⟨_,u5.seq A⟩,⟨_,yW (w5 _ _ J)⟩,AnX (λi=>.int (os.getD i 0)) (λi=>.int (plc os i:Int))
   (λj σ c=>∃(v3 v4 v5 v6:Option V),σ=[some (.ref p),some (.ref W),some (.ref S),v1,v2,some (.ref l1),some (.ref l2),some (.ref q),v3,v4,v5,v6]/\Aw H c/\Aw H4 c/\c q=some (.lst (vS ((lay ps es os).take j))))
   ⟨none,none,none,none,U,u5,w5,Ae⟩ (λj σ c v ⟨_,_,_,_,_,s,w6,_⟩=>⟨_,s.seq A,by rw[show os.getD j 0=os[j] by simp[List.getD,v]];exact JW (AxT v)⟩)
   (λj σ c v ⟨_,_,_,_,_,s,w6,_⟩=>⟨_,yW (w6 _ _ J),JW (AiE v)⟩) (λσ c ⟨_,_,_,_,_,s,w6,_⟩=>⟨⟨_,s.seq A⟩,⟨_,yW (w6 _ _ J)⟩,.inl ⟨_,s.seq A,by rw[Cp]⟩⟩) ?_ ?_⟩
  ·rintro j σ c M v ⟨v3,v4,v5,v6,rfl,s,w6,u⟩ Z;obtain⟨o,eo⟩:∃o,o=os.getD j 0:=⟨_,U⟩;obtain⟨b,eb⟩:∃b,b=plc os j:=⟨_,U⟩;obtain⟨o1,o2⟩:=C.own v;have oz:=C.o _ (getD_mem v);rw[<-eo,<-eb]at o2;rw[<-eo]at o1 oz;rw[<-eo,<-eb];have a0:(upd c M (.tup [.int o,.int (b:Int)])) q=some (.lst (vS ((lay ps es os).take j))):=(Aw.upd Z) _ _ u;have B:Aw H (upd c M (.tup [.int o,.int (b:Int)])):=s.new Z;have w7:Aw H4 (upd c M (.tup [.int o,.int (b:Int)])):=w6.new Z;have X:(upd c M (.tup [.int o,.int (b:Int)])) M=some (.tup [.int o,.int (b:Int)]):=Ae;generalize upd c M (.tup [.int o,.int (b:Int)])=H7 at a0 B w7 X ⊢;refine⟨_,_,U,SqT.of X,U,_,_,U,_,_,U,U,?_⟩;have lo:o.toNat<as.length:=by rw[al];exact o1
   have sa:=B.seq (hA.2 _ _ (AxT lo));have aa:((ps.getD o.toNat []).getD b []).length<=40:=by
    rw[C.row o1 o2];exact Ayh (List.count_le_length ..) r
   have ab:atI (vS (ps.getD o.toNat [])) (b:Int)=some (.str (tx ((ps.getD o.toNat []).getD b []))):=by
    refine Bw (by exact Ar.a9) ?_;have e:(ps.getD o.toNat []).getD b []=(ps.getD o.toNat [])[b]:=by rw[Ay2,AxT o2];rfl
    rw[e];exact Acz (AxT o2)
   refine⟨_,U,_,U,_,_,_,_,U,U,B.seq O,Aub oz.1 lo,_,U,_,_,_,_,U,U,sa,ab,_,U,_,U,.l W,.l l1,U,trivial,⟨_,B.seq y⟩,⟨_,yW (w7 _ _ (s4 _ _ G))⟩,Aic (n:=es.length) (λi=>.int (es.getD i 0)) (λi=>.int (plc es i:Int)) (λi ys I=>Aw H7 I/\ys=vS (((Gs ps es o b).take i).map λd=>[d])) ⟨.refl _,U⟩ ?_ ?_ ?_ ?_ ?_ ?_ ?_⟩
   ·rintro i ys I hi ⟨f,rfl⟩;rw[Bc,AxR,Ayc];exact Ar.k7
   ·exact Ar.a2 r
   ·rintro i ys I hi ⟨f,_⟩;have e:es.getD i 0=es[i]:=by simp[List.getD,hi]
    exact⟨_,(B.trans f).seq y,by rw[e];exact JW (AxT hi)⟩
   ·rintro i ys I hi ⟨f,_⟩;exact⟨_,yW ((w7.trans f) _ _ (s4 _ _ G)),JW (AiE hi)⟩
   ·rintro ys I ⟨f,_⟩;exact⟨⟨_,(B.trans f).seq y⟩,⟨_,yW ((w7.trans f) _ _ (s4 _ _ G))⟩,.inl ⟨_,(B.trans f).seq y,by rw[Cp]⟩⟩
   ·rintro i ys I T8 hi ⟨f,rfl⟩ ae;refine⟨_,U,_,U,_,U,_,U,o,es.getD i 0,(ps.getD o.toNat []).getD b [],plc es i,U,λh=>?_,aa,?_⟩
    ·rw[C.row o1 o2,show((o.toNat:Nat):Int)=o by omega,h];exact Aj4 hi
    ·refine CN.of hi ⟨f.new ae,?_⟩;rw[Aya,WQ hi,JT,Dj,AxV];rfl
   ·rintro ys I l8 ⟨f,rfl⟩ D;have e0:(Gs ps es o b).take es.length=Gs ps es o b:=Ayy (by rw[Lq];exact AxU _);rw[e0];have u8:=(B.trans f).new (o:=.lst (vS ((Gs ps es o b).map λd=>[d]))) D;have w8:=(w7.trans f).new (o:=.lst (vS ((Gs ps es o b).map λd=>[d]))) D;have Y:=(f.new (o:=.lst (vS ((Gs ps es o b).map λd=>[d]))) D) _ _ a0;refine⟨_,U,.inl ⟨U,_,yW Y⟩,U,_,U,_,_,(((Gs ps es o b).map λd=>[d]).map tx),U,U,yW (by rw[Ae,Gj]),?_,?_⟩
    ·have e1:=AlI (λd:Nat=>d) (Gs ps es o b);rw[e1,AxR,AxR,Lq];have:es.length*(Str.length "")=0:=by rw[show Str.length ""=0 from At];exact Ar.f1
     exact Ar.a2 r
    ·rw[show(("":Str))=tx [] from At,GR];have e2:=(Ri (λd:Nat=>d) (Gs ps es o b)).trans (AyP _);rw[e2];refine⟨_,_,_,U,U,Y,(by rw[Bc,Ayc];lia),_,_,_,_,U,u8.over nq,w8.over hq,?_⟩;rw[Ae,Dj,Aya,Ak3 v,<-eo,<-eb];rfl
  ·rintro σ c ⟨v3,v4,v5,v6,rfl,s,w6,u⟩;have e0:(lay ps es os).take os.length=lay ps es os:=Ayy (by rw[Agi];exact AxU _);rw[e0]at u;exact⟨_,U,k q c s nq u⟩
def rfa (t:Adr):Rf->Nn
 | .nop=>t.BK
 | .big=>t.Ca
 | .unk=>t.CQ
def Oi (t:Adr)(C dx r:Nn)(H:Hp)(Q:VK)(E:XK)(R:Res)(z:NV):Prop:=match R with
 | .ok x=>∀l H',BV r H H'->H l=none->H' l=some (.lst (vS x))->H' r=some (.ins C dx (pf l (tx z)))->Q .non H'
 | .no f=>∀H',BV r H H'->E (.ref (rfa t f)) none H'
theorem GF(s:Aw H H'):BV r H H':=λb o _ e=>s b o e
theorem Oi.fin(k:Oi t C dx r H Q E (.ok x) z)(a:Aw H H3)(h1:H r=some (.ins C dx []))(c:H3 l=none):Q .non (upd (upd H3 l (.lst (vS x))) r (.ins C dx (pf l (tx z)))):=by
 have i:=a _ _ h1;have d:l≠r:=λy=>AC
 have f:H l=none:=by
  cases e:H l with
  |none=>rfl
  |some o=>rw[a _ _ e]at c;cases c
 refine k l _ (λb o h e=>?_) f (by rw[Ao d];exact Ae) Ae;rw[Ao h,Ao (Bf (a b o e) c)];exact a b o e
inductive AoV (K:NO)(t:Adr)(vs:LI)(H:Hp)(Q:VK)(E:XK):Prop
|mk(r:Nn)(dx:Nn)(a:Nn)(x:NI)(z:NV)(_:vs=[.ref r,.str (tx z),.ref a])(_:H r=some (.ins t.Gm dx []))(_:SqL K H a (vS x))(_:Oi t t.Gm dx r H Q E (.ok x) z)
theorem Zq(T:Txt K mg t):Bm P w K mg base CX0 3 t.Ji t.PX ["self","name","known_cloth"] (AoV K t):=by refine T.Qu.F.ok Yt ?_;rintro _ _ _ _ H _ Q E f ⟨r,dx,a,x,z,rfl,h1,d,k⟩;exact⟨_,(Ad (Bj (HN (Ce (v:=.ref t.Ef) U T.Io U) T.GC ((Cu T).mono Ap) f T.Ci.b .nil Ay (Aa (pv 0) (Aa (pv 2) (Aa (pv 1) Ab)))))),U,_,U,_,U,_,U,t.Gm,r,dx,a,x,_,U,h1,T.Agy.c,T.Ux,T.Qo,d,λl e=>k.fin (.refl _) h1 e⟩
inductive Ar5 (K:NO)(t:Adr)(vs:LI)(H:Hp)(Q:VK)(E:XK):Prop
|mk(r:Nn)(dx:Nn)(a:Nn)(rs:NI)(_:vs=[.ref r,.ref a])(_:H r=some (.ins t.HY dx []))(_:SqL K H a (vS rs))(_:rs≠[])(_:rs.length<=40)(_:(wz Pat.Ge rs).length<=1000000)(_:Oi t t.HY dx r H Q E (AcF rs) (wz Pat.Ge rs))
theorem Zr(T:Txt K mg t):Bm P w K mg base (CX1 P w) 3 t.Kh t.R9 ["self","runs"] (Ar5 K t):=by
 refine T.S5.F.okX Aaj ?_;rintro _ _ _ _ H _ Q E A ⟨r,dx,a,rs,rfl,h1,e,o,s,hw,k⟩;refine⟨_,(Ac (Bl (Fb (Bb (Afn (K:=K)) U T.Asw Anz (Aa (PE.nox (CV (CJ.mk (Bp:=[1]) (Nc:=["run","runs"]) U At At (Cg (sc0:=Ag Kc) U At) U rfl U At (λk j h=>match k,h with | 0,h=>by obtain rfl:=yI h;exact⟨_,U,U,U⟩|_+1,h=>by simp at h)) U (BJ (K:=K) (pv 1)) (λ_ _ _ _ _=>.nil) (λ_ _ _ _ _=>(Jv Lh (Bb BL U T.Cd Bv (Aa (pv 0) Ab)) (Bb BL U T.Cd Bv (Aa (Bq (Be) (pv 1) Ah (λ_ _=>rfl)) Ab)) (Av _))))) Ab)))
   (Ad (DR T.BW U T.BX (Aa Af Ab)))
   Aq)
  (Ac (Bj (Aj ((GD T).mono Ap) A U T.Ds.m T.Ds.F.kp T.Ds.b .nil Cq (Aa (Bb BL U T.Cd Bv (Aa (Bq (Be (K:=K)) (pv 1) Ah (λ_ _=>rfl)) Ab)) (Aa (Bb (Ax (K:=K)) U T.Cd Bv (Aa (pv 1) Ab)) Ab))))
  (Ad (Bj (HN (Ce (v:=.ref t.Ef) U T.Io U) T.GC ((Cu T).mono Ap) A T.Ci.b .nil Ay (Aa (pv 0) (Aa (pv 1) (Aa (Aj ((Fq T).mono Ap) A U T.written.m T.written.F.kp T.written.b .nil Ay (Aa Af (Aa (pv 1) Ab))) Ab)))))))),?_⟩;have B:∀u∈rs,u.length<=1000000:=λu p=>by
  have:= Ass p;rw[AjT]at hw;lia
 obtain⟨n,f,D⟩:∃n,rs[0]?=some n/\n.length=wdt rs:=by
  cases rs with
  |nil=>exact yG U o
  |cons u rs=>exact⟨u,U,U⟩
 have C:=B n (Ayb f);refine⟨_,U,_,U,⟨_,e⟩,CK (xs:=vS rs) (λi ys H2=>H2=H/\ys=vB ((rs.take i).map λr=>decide (¬r.length=wdt rs))) ⟨U,U⟩ ?_ ?_ ?_ ?_⟩
 ·rintro i ys H2 hi ⟨rfl,rfl⟩;refine⟨e,?_⟩;rw[AjD,AxR,Ayc];lia
 ·rw[Bc];exact Cv s
 ·rintro i x ys H2 hi G ⟨rfl,rfl⟩;obtain⟨u,p,rfl⟩:=Fw G;have I:=B u (Ayb p);refine⟨_,U,_,U,(by exact big I),_,U,_,_,_,_,U,U,e,Abv f,_,U,(by exact big C),U,?_⟩;rw[show(!decide (V.int ((tx u).length:Int)=V.int ((tx n).length:Int)))=decide (¬u.length=wdt rs) by
   rw[Ba,Ba,D,<-decide_not];exact z5.mpr ⟨λz y=>z (by rw[y]),λz y=>z (by injection y with y;omega)⟩]
  exact CN.of hi ⟨U,by rw[AjE,Aya,p,AxV];rfl⟩
 ·rintro ys H2 q ⟨rfl,rfl⟩ L;rw[Bc,Ayg];refine⟨_,_,U,yW Ae,_,U,?_⟩;have d:Aw H2 (upd H2 q (.lst (vB (rs.map λr=>decide (¬r.length=wdt rs))))):=.upd L;unfold AcF at k;refine Ati (λc=>?_) (λc=>?_)
  ·rw[yF c]at k;exact⟨Ap,k _ (GF d)⟩
  ·rw[yE (by rw[c];exact λz=>nomatch z)]at k;refine⟨_,U,_,_,_,_,U,U,d.seq e,Abv f,_,U,(by exact big C),_,U,_,_,U,.inl (d.seq e),wdt rs,rs.length,(by rw[Ba,D,Bc];rfl),λJ=>?_,λJ H' s'=>?_⟩
   ·rw[yE Au]at k;exact⟨U,_,U,_,U,_,U,a,Pat.Ge,rs,(by rfl),d.seq e,o,hw,t.HY,r,dx,a,rs,_,U,d _ _ h1,T.AjO.c,T.Wu,T.Su,d.seq e,λl M=>k.fin d h1 M⟩
   ·rw[yF Au]at k;exact k _ (GF (d.trans s'))
theorem lg(h:m<100):((m:Int)).natAbs.log2<1920:=by exact Azi (Nat.log2_le_self m) (by exact Ar.a2 h)
theorem AoW:(("#":Str))=tx [35]:=At
theorem Ar6:((".":Str))=tx [46]:=At
theorem AoX{k:Nat}(h:k<=u.length):Tr u (some (k:Int)) none=u.drop k:=by unfold Tr;rw[HT.Kw,AyN h];exact Ayy (by rw[Ays];exact AxU _)
theorem Aud{x:NV}(a:z.length<=100)(b:x.length<=100)(c:y.length<=100):(wz z [x,y]).length<=1000000:=by rw[AjT];unfold cj;grind
inductive AoY (K:NO)(t:Adr)(vs:LI)(H:Hp)(Q:VK)(E:XK):Prop
|mk(r:Nn)(dx:Nn)(m:Nat)(n:Nat)(_:vs=[.ref r,.int (m:Int),.int (n:Int)])(_:H r=some (.ins t.Gn dx []))(_:m<100)(_:n<100)(_:Oi t t.Gn dx r H Q E (QB m n) (wz twW [dec m,dec n]))
theorem Xg(T:Txt K mg t):Bm P w K mg base (CX1 P w) 3 t.Jj t.Qa ["self","over","under"] (AoY K t):=by
 refine T.Qv.F.okX Gk ?_;rintro _ _ _ _ H _ Q E x ⟨r,dx,m,n,rfl,h1,y,hn,k0⟩;refine⟨_,(Ac (Bl (PW.pt (pw_or (Ai Hf (pv 1) Ah (Av _)) (pw_or1 (Ai Hf (pv 2) Ah (Av _)))))
   (Ad (DR T.BW U T.BX (Aa Af Ab)))
   Aq)
  (Ac (Bd (i:=3) Gk.nd U (Or.inr U) (Ak Em (pv 1) (pv 2)))
  (Ac (Bj (Aj ((GD T).mono Ap) x U T.Ds.m T.Ds.F.kp T.Ds.b .nil Cq (Aa (pv 3) (Aa (pv 3) Ab))))
  (Ac (Bd (i:=4) Gk.nd U (Or.inr U) (Ak Am (Ak K1 Af (pv 1)) (Ak K1 Af (pv 2))))
  (Ac (PS.nox (AfS (i:=5) (CJ.mk (Bp:=[3,4]) (Nc:=["y","size","first"]) U At At (Cg (sc0:=Ag Je) U At) U rfl U At (λk j h=>match k,h with | 0,h=>by obtain rfl:=yI h;exact⟨_,U,U,U⟩ | 1,h=>by obtain rfl:=yI h;exact⟨_,U,U,U⟩|_+2,h=>by simp at h)) U Gk.nd U rfl (Ea U T.Es (Aa (pv 3) Ab)) (λ_ _ _ _ _=>.nil) (λ_ _ _ _ _=>(Ak Am (Gq WM (pv 2) (GP (Ak Q7 (pv 1) (pv 0))) Ky) (Gq WM (pv 2) Ky (GP (Ak Q7 (pv 1) (pv 0)))))) U))
  (Ad (Bj (HN (Ce (v:=.ref t.Ef) U T.Io U) T.GC ((Cu T).mono Ap) x T.Ci.b .nil Ay (Aa (pv 0) (Aa (pv 5) (Aa (Aj ((Fq T).mono Ap) x U T.written.m T.written.F.kp T.written.b .nil Ay (Aa Af (Aa (Cm (Aa (BR Dy U T.Sq JV (Aa (pv 1) Ab)) (Aa (BR Dy U T.Sq JV (Aa (pv 2) Ab)) Ab))) Ab))) Ab))))))))))),?_⟩;have k2:=λg=>by
  unfold QB at k0;rw[yF Au]at k0;exact k0
 have k3:1<=m->1<=n->40<m+n->∀H',BV r H H'->E (.ref t.Ca) none H':=λg1 g2 g3=>by
  unfold QB at k0;rw[yE Au,yF g3]at k0;exact k0
 refine⟨_,U,_,_,U,U,_,U,CP (λc1=>?_) (λc1=>?_)⟩
 ·exact⟨Ap,k2 (.inl (by exact Ar.f6 c1)) _ (λb o _ e=>e)⟩
 ·refine⟨_,U,_,_,U,U,_,U,CP (λs=>?_) (λs=>?_)⟩
  ·exact⟨Ap,k2 (.inr (by exact Ar.f6 s)) _ (λb o _ e=>e)⟩
  ·refine⟨_,U,_,U,_,_,U,U,_,U,_,U,m+n,m+n,U,λc3=>?_,λc3 H' s'=>k3 (by exact Ar.f6 (Ar.f7 c1)) (by exact Ar.f6 (Ar.f7 s)) AA _ (λb o _ e=>s' b o e)⟩;refine⟨_,U,[35],(m:Int),(by rw[AoW]),U,(by exact Ar.a9),AA,(big AD),_,U,[46],(n:Int),(by rw[Ar6]),U,(by exact Ar.a9),AA,(big AD),?_⟩;rw[Ayi,Ayi,rep1,rep1];refine⟨_,_,U,U,(by rw[Ba,Ba];exact big AD),?_⟩;rw[Bt];refine⟨_,U,_,U,AD,AD,?_⟩;rw[show((m:Int)+(n:Int)).toNat=m+n by exact Ar.f1];refine Gr (λi ys H2=>H2=H/\ys=vS ((List.range i).map (twT m n))) ⟨U,U⟩ ?_ ?_ ?_ ?_
   ·rintro i ys H2 hi ⟨rfl,rfl⟩;rw[Bc,AxR,Ayw];exact AxU _
   ·exact big (by exact Ar.a2 c3.1)
   ·rintro i ys H2 hi ⟨rfl,rfl⟩;have fl:(Ab2 m n).length=m+n:=Aij;refine⟨_,U,_,U,_,U,_,_,U,U,_,U,Ab2 m n,U,big (by exact Ar.g6 fl c3.1),?_⟩;rw[show(m:Int)+(n:Int)-(0+(i:Int))=((m+n-i:Nat):Int) by omega,AoX Au];refine⟨_,U,_,U,_,U,_,_,U,U,_,U,Ab2 m n,U,big (by exact Ar.g6 fl c3.1),?_⟩;rw[show(m:Int)+(n:Int)-(0+(i:Int))=((m+n-i:Nat):Int) by omega,Ats Au];refine⟨_,_,U,U,(by rw[Ba,Ba];exact big AD),?_⟩;rw[Bt,AtG hi];exact(CN.of hi ⟨U,by rw[Ay8,AxV];exact Dj _ _⟩:CN (m+n) (λi ys H3=>H3=H2/\ys=vS ((List.range i).map (twT m n))) i (vS ((List.range i).map (twT m n))++[.str (tx (twT m n i))]) H2)
   ·rintro ys H2 q ⟨rfl,rfl⟩ A;refine⟨U,_,U,_,U,_,U,_,U,lg y,_,U,_,U,lg hn,AE,λp z=>?_⟩;have d1:=(dec_is y).l2;have d2:=(dec_is hn).l2;have u:Aw H2 (upd H2 q (.lst (vS ((List.range (m+n)).map (twT m n))))):=.upd A;have a:(upd H2 q (.lst (vS ((List.range (m+n)).map (twT m n))))) q=some (.lst (vS ((List.range (m+n)).map (twT m n)))):=Ae;generalize upd H2 q (.lst (vS ((List.range (m+n)).map (twT m n))))=H3 at u a z ⊢;have f:Aw H3 (upd H3 p (.lst [.str (tx (dec m)),.str (tx (dec n))])):=.upd z;have d:(upd H3 p (.lst [.str (tx (dec m)),.str (tx (dec n))])) p=some (.lst (vS [dec m,dec n])):=Ae;refine⟨p,twW,[dec m,dec n],(by rfl),yW d,AB,Aud Ap (by exact Ar.a2 d1) (by exact Ar.a2 d2),t.Gn,r,dx,q,(List.range (m+n)).map (twT m n),_,U,f _ _ (u _ _ h1),T.Ag2.c,T.Uy,T.Qp,yW (f _ _ a),λl B=>?_⟩;unfold QB at k0;rw[yE Au,yE (by exact Ar.e9 c3.1)]at k0;exact k0.fin (u.trans f) h1 B
theorem Le(T:Txt K mg t){p:Nn}(b:Pc t H p x z)(C:Cl x m n)(k:Q (.int ((m:Nat):Int)) H):Tt K "wide" t.CW (AkU t) E Q (V.ref p) H:=by obtain⟨D,dx,l,a,h1,h2⟩:=id b;exact⟨p,dx,_,D,U,h1,(Acb _ _).1,(pcC T a).c,(pcC T a).wide,p,x,z,m,n,U,b,C,k⟩
theorem Lf(T:Txt K mg t){p:Nn}(b:Pc t H p x z)(C:Cl x m n)(k:Q (.int ((n:Nat):Int)) H):Tt K "high" t.CZ (AkV t) E Q (V.ref p) H:=by obtain⟨D,dx,l,a,h1,h2⟩:=id b;exact⟨p,dx,_,D,U,h1,(Acb _ _).2.1,(pcC T a).c,(pcC T a).high,p,x,z,m,n,U,b,C,k⟩
theorem Gg(T:Txt K mg t){p:Nn}(b:Pc t H p x z)(k:∀l,H l=none->Q (.ref l) (upd H l (.lst (vS x)))):Tt K "cloth" t.Cy (AiB t) E Q (V.ref p) H:=by obtain⟨D,dx,l,a,h1,h2⟩:=id b;exact⟨p,dx,_,D,U,h1,(Acb _ _).2.2.2.1,(pcC T a).c,(pcC T a).AvS,p,x,z,U,b,k⟩
theorem Ip(T:Txt K mg t){p:Nn}(b:Pc t H p x z)(k:Q (.str (tx z)) H):Tt K "told" t.Dc (AkW t) E Q (V.ref p) H:=by obtain⟨D,dx,l,a,h1,h2⟩:=id b;exact⟨p,dx,_,D,U,h1,(Acb _ _).2.2.2.2,(pcC T a).c,(pcC T a).told,p,x,z,U,b,k⟩
inductive Ar7 (t:Adr)(vs:LI)(H:Hp)(Q:VK)(E:XK):Prop
|mk(p:Nn)(q:Nn)(x:NI)(y:NI)(zx:NV)(zy:NV)(m:Nat)(n:Nat)(m':Nat)(n':Nat)(_:vs=[.ref p,.ref q])(_:Pc t H p x zx)(_:Pc t H q y zy)(_:Cl x m n)(_:Cl y m' n') (_:(m=m'/\n=n'->Q .non H))(_:(¬(m=m'/\n=n')->E (.ref t.BK) none H))
theorem Xh(T:Txt K mg t):Bm P w K mg base (CX1 P w) 2 t.Qi t.Qj ["one","other"] (Ar7 t):=by
 refine T.Im.F.okX Yc ?_;rintro _ _ _ _ H _ Q E c ⟨p,q,x,y,i,j,m,n,f,h,rfl,e,d,C,D,k1,k2⟩;refine⟨_,(Ad (Bl (PW.pt (pw_or (Ai Lh (By (K:=K) U (pv 0) ((Ei T).mono Ap) c T.Eg.b Ay) (By (K:=K) U (pv 1) ((Ei T).mono Ap) c T.Eg.b Ay) (Av _)) (pw_or1 (Ai Lh (By (K:=K) U (pv 0) ((Ej T).mono Ap) c T.Eh.b Ay) (By (K:=K) U (pv 1) ((Ej T).mono Ap) c T.Eh.b Ay) (Av _)))))
   (Ad (DR T.BW U T.BX (Aa Af Ab)))
   Aq)),?_⟩;refine⟨_,U,Le T e C ⟨_,U,Le T d D ⟨U,_,U,?_⟩⟩⟩;by_cases c1:m=f
 ·refine Vz (by rw[c1]) ⟨_,U,Lf T e C ⟨_,U,Lf T d D ⟨U,_,U,?_⟩⟩⟩;by_cases a:n=h
  ·exact Vz (by rw[a]) (k1 ⟨c1,a⟩)
  ·exact Acy (λz=>a AD) ⟨Ap,k2 (λz=>a z.2)⟩
 ·exact Acy (λz=>c1 AD) (Kz ⟨Ap,k2 (λz=>c1 z.1)⟩)
inductive AjZ (K:NO)(t:Adr)(C:Nn)(mk:NI->NI->Res)(wd:NV)(vs:LI)(H:Hp)(Q:VK)(E:XK):Prop
|mk(r:Nn)(dx:Nn)(p:Nn)(q:Nn)(x:NI)(y:NI)(zx:NV)(zy:NV)(_:vs=[.ref r,.ref p,.ref q])(_:H r=some (.ins C dx []))(_:Pc t H p x zx)(_:Pc t H q y zy)(_:Clo x)(_:Clo y)(_:(wz wd [zx,zy]).length<=1000000)(_:Oi t C dx r H Q E (mk x y) (wz wd [zx,zy]))
theorem Vx(T:Txt K mg t):Bm P w K mg base (CX1 P w) 3 t.Ig t.MT ["self","one","other"] (AjZ K t t.Fz QC beW):=by
 refine T.NK.F.okX Ma ?_;rintro _ _ _ _ H _ Q E j ⟨r,dx,p,q,x,y,I,L,rfl,h1,A,J,C,D,hw,k⟩;refine⟨_,(Ac (Bl (Ai Lh (By (K:=K) U (pv 1) ((Ej T).mono Ap) j T.Eh.b Ay) (By (K:=K) U (pv 2) ((Ej T).mono Ap) j T.Eh.b Ay) (Av _))
   (Ad (DR T.BW U T.BX (Aa Af Ab)))
   Aq)
  (Ac (Bj (Aj ((GD T).mono Ap) j U T.Ds.m T.Ds.F.kp T.Ds.b .nil Cq (Aa (Ak Em (By (K:=K) U (pv 1) ((Ei T).mono Ap) j T.Eg.b Ay) (By (K:=K) U (pv 2) ((Ei T).mono Ap) j T.Eg.b Ay)) (Aa (By (K:=K) U (pv 1) ((Ej T).mono Ap) j T.Eh.b Ay) Ab))))
  (Ac (PS.nox (Afi (K:=K) (i:=3) (MF.mk (Bp:=[]) (Nc:=["left","right"]) U At At (Cg (sc0:=Ag HS) U At) U rfl U rfl U At (λ_ _ h=>by simp at h)) U Ma.nd U rfl (Agd (K:=K) U T.Ao5 (Aa (By (K:=K) U (pv 1) ((De T).mono Ap) j T.Di.b Ay) (Aa (By (K:=K) U (pv 2) ((De T).mono Ap) j T.Di.b Ay) Ab))) (λ_ _ _ _ _=>.nil) (λ_ _ _ _ _=>(Ak Am (pv 0) (pv 1))) U))
  (Ad (Bj (HN (Ce (v:=.ref t.Ef) U T.Io U) T.GC ((Cu T).mono Ap) j T.Ci.b .nil Ay (Aa (pv 0) (Aa (pv 3) (Aa (Aj ((Fq T).mono Ap) j U T.written.m T.written.F.kp T.written.b .nil Ay (Aa Af (Aa (Cm (Aa (By (K:=K) U (pv 1) ((Dw T).mono Ap) j T.DG.b Ay) (Aa (By (K:=K) U (pv 2) ((Dw T).mono Ap) j T.DG.b Ay) Ab))) Ab))) Ab))))))))),?_⟩;have M:=C.n40;unfold QC at k;refine⟨_,U,Lf T A C ⟨_,U,Lf T J D ⟨U,_,U,?_⟩⟩⟩;by_cases c1:x.length=y.length
 case neg =>
  rw[yF c1]at k;exact Acy (λz=>c1 AD) ⟨Ap,k _ (GF (.refl _))⟩
 rw[yE (λz=>z c1)]at k;refine Vz (by rw[c1]) ⟨_,U,Le T A C ⟨_,U,Le T J D ⟨_,_,U,U,_,U,Lf T A C ⟨wdt x+wdt y,x.length,U,λc2=>?_,λc2 H' s'=>?_⟩⟩⟩⟩
 case' refine_2 =>
  rw[yF c2]at k;exact k _ (GF s')
 rw[yE Au]at k;refine⟨_,U,Gg T A λl1 O=>?_⟩;obtain⟨H1,e9,s1,a⟩:=nu9 (o:=.lst (vS x)) (.refl _) O;rw[e9];refine⟨_,U,Gg T (J.mono s1) λl2 R=>?_⟩;obtain⟨H2,e9,s2,u⟩:=nu9 (o:=.lst (vS y)) (.refl _) R;rw[e9];have a:=s2 _ _ a;refine⟨.l l1,.l l2,U,trivial,⟨_,yW a⟩,⟨_,yW u⟩,?_⟩;have zl:(List.zipWith (·++·) x y).length=x.length:=by rw[AzI,<-c1,Azb]
 refine Aic (n:=x.length) (λi=>.str (tx (x.getD i []))) (λi=>.str (tx (y.getD i []))) (λi ys s=>Aw H2 s/\ys=vS ((List.zipWith (·++·) x y).take i)) ⟨.refl _,U⟩ ?_ ?_ ?_ ?_ ?_ ?_ ?_
 ·rintro i ys s hi ⟨f,rfl⟩;rw[Bc,Ayc];lia
 ·exact Cv M
 ·rintro i ys s hi ⟨f,_⟩;have e:x.getD i []=x[i]:=by simp[List.getD,hi]
  exact⟨_,yW (f _ _ a),by rw[e];exact Acz (AxT hi)⟩
 ·rintro i ys s hi ⟨f,_⟩;have d:i<y.length:=Au
  have e:y.getD i []=y[i]:=by simp[List.getD,d]
  exact⟨_,yW (f _ _ u),by rw[e];exact Acz (AxT d)⟩
 ·rintro ys s ⟨f,_⟩;exact⟨⟨_,yW (f _ _ a)⟩,⟨_,yW (f _ _ u)⟩,.inl ⟨_,yW (f _ _ a),by rw[Bc]⟩⟩
 ·rintro i ys s T8 hi ⟨f,rfl⟩ a0;have d:i<y.length:=Au
  have e1:x.getD i []=x[i]:=by simp[List.getD,hi]
  have e2:y.getD i []=y[i]:=by simp[List.getD,d]
  have w1:=C.hm _ (Ayp hi);have w2:=D.hm _ (Ayp d);rw[e1,e2];refine⟨_,U,_,U,_,_,U,U,(by rw[Ba,Ba,w1,w2];exact big AA),?_⟩;rw[Bt];refine CN.of hi ⟨f.new a0,?_⟩;rw[Dj,Aya,List.getElem?_zipWith,AxT hi,AxT d];rfl
 ·rintro ys s l8 ⟨f,rfl⟩ S;rw[Ayy (by rw[zl];exact AxU _)];obtain⟨Y,e9,B,Z⟩:=nu9 (o:=.lst (vS (List.zipWith (·++·) x y))) ((s1.trans s2).trans f) S;rw[e9];refine⟨U,_,U,_,U,_,U,Ip T (A.mono B) ⟨_,U,Ip T (J.mono B) ⟨AE,λG X=>?_⟩⟩⟩;have W:Aw Y (upd Y G (.lst (vS [I,L]))):=.upd X;have N:(upd Y G (.lst (vS [I,L]))) G=some (.lst (vS [I,L])):=Ae;exact⟨G,beW,[I,L],(by rfl),yW N,AB,hw,t.Fz,r,dx,l8,_,_,U,(B.trans W) _ _ h1,T.Adq.c,T.Sv,T.N6,yW (W _ _ Z),λl hl=>k.fin (B.trans W) h1 hl⟩
theorem Xi(T:Txt K mg t):Bm P w K mg base (CX1 P w) 3 t.Jk t.Qc ["self","one","other"] (AjZ K t t.Ha WR abW):=by
 refine T.Qw.F.okX Yu ?_;rintro _ _ _ _ H _ Q E a ⟨r,dx,p,q,x,y,i,n,rfl,h1,e,j,C,D,hw,k⟩;refine⟨_,(Ac (Bl (Ai Lh (By (K:=K) U (pv 1) ((Ei T).mono Ap) a T.Eg.b Ay) (By (K:=K) U (pv 2) ((Ei T).mono Ap) a T.Eg.b Ay) (Av _))
   (Ad (DR T.BW U T.BX (Aa Af Ab)))
   Aq)
  (Ac (Bj (Aj ((GD T).mono Ap) a U T.Ds.m T.Ds.F.kp T.Ds.b .nil Cq (Aa (By (K:=K) U (pv 1) ((Ei T).mono Ap) a T.Eg.b Ay) (Aa (Ak Em (By (K:=K) U (pv 1) ((Ej T).mono Ap) a T.Eh.b Ay) (By (K:=K) U (pv 2) ((Ej T).mono Ap) a T.Eh.b Ay)) Ab))))
  (Ad (Bj (HN (Ce (v:=.ref t.Ef) U T.Io U) T.GC ((Cu T).mono Ap) a T.Ci.b .nil Ay (Aa (pv 0) (Aa (Ak Lk (By (K:=K) U (pv 1) ((De T).mono Ap) a T.Di.b Ay) (By (K:=K) U (pv 2) ((De T).mono Ap) a T.Di.b Ay)) (Aa (Aj ((Fq T).mono Ap) a U T.written.m T.written.F.kp T.written.b .nil Ay (Aa Af (Aa (Cm (Aa (By (K:=K) U (pv 1) ((Dw T).mono Ap) a T.DG.b Ay) (Aa (By (K:=K) U (pv 2) ((Dw T).mono Ap) a T.DG.b Ay) Ab))) Ab))) Ab)))))))),?_⟩;unfold WR at k;refine⟨_,U,Le T e C ⟨_,U,Le T j D ⟨U,_,U,?_⟩⟩⟩;by_cases c1:wdt x=wdt y
 case neg =>
  rw[yF c1]at k;exact Acy (λz=>c1 AD) ⟨Ap,k _ (GF (.refl _))⟩
 rw[yE (λz=>z c1)]at k;refine Vz (by rw[c1]) ⟨_,U,Le T e C ⟨_,U,Lf T e C ⟨_,U,Lf T j D ⟨_,_,U,U,wdt x,x.length+y.length,U,λO=>?_,λO H' s'=>?_⟩⟩⟩⟩
 case' refine_2 =>
  rw[yF O]at k;exact k _ (GF s')
 rw[yE Au]at k;refine⟨U,_,U,_,U,Gg T e λW u=>?_⟩;obtain⟨H1,e9,R,d⟩:=nu9 (o:=.lst (vS x)) (.refl _) u;rw[e9];refine⟨_,U,Gg T (j.mono R) λX A=>?_⟩;obtain⟨H2,e9,N,M⟩:=nu9 (o:=.lst (vS y)) (.refl _) A;rw[e9];have d:=N _ _ d;refine⟨_,_,_,_,U,U,d,M,(by rw[Bc,Bc];exact big AA),λl8 B=>?_⟩;rw[show vS x++vS y=vS (x++y) by unfold vS;rw[AxV]];obtain⟨J,e9,f,L⟩:=nu9 (o:=.lst (vS (x++y))) (R.trans N) B;rw[e9];refine⟨_,U,Ip T (e.mono f) ⟨_,U,Ip T (j.mono f) ⟨AE,λh I=>?_⟩⟩⟩;have G:Aw J (upd J h (.lst (vS [i,n]))):=.upd I;have s:(upd J h (.lst (vS [i,n]))) h=some (.lst (vS [i,n])):=Ae;exact⟨h,abW,[i,n],(by rfl),yW s,AB,hw,t.Ha,r,dx,l8,_,_,U,(f.trans G) _ _ h1,T.Ag3.c,T.Uz,T.Qq,yW (G _ _ L),λl S=>k.fin (f.trans G) h1 S⟩
inductive AgN (K:NO)(t:Adr)(C:Nn)(wd:NV)(mk:NI->NI)(vs:LI)(H:Hp)(Q:VK)(E:XK):Prop
|mk(r:Nn)(dx:Nn)(p:Nn)(x:NI)(zx:NV)(_:vs=[.ref r,.ref p])(_:H r=some (.ins C dx []))(_:Pc t H p x zx)(_:Clo x)(_:(wz wd [zx]).length<=1000000)(_:Oi t C dx r H Q E (.ok (mk x)) (wz wd [zx]))
theorem Xj(T:Txt K mg t):Bm P w K mg base CX0 3 t.Ih t.Nf ["self","inner"] (AgN K t t.FJ miW (List.map List.reverse)):=by
 refine T.NP.F.ok Mg ?_;rintro _ _ _ _ H _ Q E j ⟨r,dx,p,x,f,rfl,h1,N,C,hw,k⟩;refine⟨_,(Ac (AfS (i:=2) (CJ.mk (Bp:=[]) (Nc:=["text"]) U At At (Cg (sc0:=Ag HW) U At) U rfl U At (λ_ _ h=>by simp at h)) U Mg.nd U rfl (BJ (K:=K) (By (K:=K) U (pv 1) ((De T).mono Ap) j T.Di.b Ay)) (λ_ _ _ _ _=>.nil) (λ_ _ _ _ _=>(Bx zI zS zV Acx Af (Aa (BR Aa7 U T.Jr JC (Aa (pv 0) Ab)) Ab))) U)
  (Ad (Bj (HN (Ce (v:=.ref t.Ef) U T.Io U) T.GC ((Cu T).mono Ap) j T.Ci.b .nil Ay (Aa (pv 0) (Aa (pv 2) (Aa (Aj ((Fq T).mono Ap) j U T.written.m T.written.F.kp T.written.b .nil Ay (Aa Af (Aa (Cm (Aa (By (K:=K) U (pv 1) ((Dw T).mono Ap) j T.DG.b Ay) Ab)) Ab))) Ab))))))),?_⟩;have n:=C.n40;have S:=C.m40;refine⟨_,U,Gg T N λX z=>?_⟩;obtain⟨H1,e9,R,d⟩:=nu9 (o:=.lst (vS x)) (.refl _) z;rw[e9];refine⟨_,U,⟨_,yW d⟩,CK (xs:=vS x) (λi ys H2=>Aw H1 H2/\ys=vS ((x.take i).map List.reverse)) ⟨.refl _,U⟩ ?_ ?_ ?_ ?_⟩
 ·rintro i ys H2 hi ⟨a,rfl⟩;refine⟨yW (a _ _ d),?_⟩;rw[Bc,AxR,Ayc];lia
 ·rw[Bc];exact Cv n
 ·rintro i Y ys H2 hi O ⟨a,rfl⟩;obtain⟨u,L,rfl⟩:=Fw O;have G:=C.hm u (Ayb L);refine⟨U,_,U,_,U,(by rw[Ba,G];exact Cv S),λq M=>⟨_,_,q,U,U,Ae,At,(by rw[Ba];lia),?_⟩⟩;rw[Fv,show(("":Str))=tx [] from At,show(u.reverse.map λc=>(⟨#[c]⟩:Str))=(u.reverse.map λc=>[c]).map tx by rw[Ay7];rfl,GR];have e2:(u.reverse.map λc=>[c]).flatten=u.reverse:=(Ri id u.reverse).trans (AyP _);rw[e2];refine CN.of hi ⟨(a.new M).over (a.free M),?_⟩;rw[Dj,Aya,L,AxV];rfl
 rintro ys H2 l8 ⟨a,rfl⟩ A;rw[Bc,Ayg];obtain⟨I,e9,s,J⟩:=nu9 (o:=.lst (vS (x.map List.reverse))) (R.trans a) A;rw[e9];refine⟨U,_,U,_,U,_,U,Ip T (N.mono s) ⟨(by show 1<=sizeLine;decide),λe D=>?_⟩⟩;have B:Aw I (upd I e (.lst (vS [f]))):=.upd D;have y:(upd I e (.lst (vS [f]))) e=some (.lst (vS [f])):=Ae;exact⟨e,miW,[f],(by rfl),yW y,AB,hw,t.FJ,r,dx,l8,_,_,U,(s.trans B) _ _ h1,T.Adw.c,T.Sw,T.NB,yW (B _ _ J),λl W=>k.fin (s.trans B) h1 W⟩
theorem Zt(T:Txt K mg t):Bm P w K mg base CX0 3 t.Jl t.Qd ["self","inner"] (AgN K t t.Hb upW List.reverse):=by refine T.Qx.F.ok Yv ?_;rintro _ _ _ _ H _ Q E e ⟨r,dx,p,x,d,rfl,h1,z,C,hw,k⟩;refine⟨_,(Ad (Bj (HN (Ce (v:=.ref t.Ef) U T.Io U) T.GC ((Cu T).mono Ap) e T.Ci.b .nil Ay (Aa (pv 0) (Aa (Ac6 (K:=K) U T.Jq U T.Jr (By (K:=K) U (pv 1) ((De T).mono Ap) e T.Di.b Ay)) (Aa (Aj ((Fq T).mono Ap) e U T.written.m T.written.F.kp T.written.b .nil Ay (Aa Af (Aa (Cm (Aa (By (K:=K) U (pv 1) ((Dw T).mono Ap) e T.DG.b Ay) Ab)) Ab))) Ab)))))),?_⟩;have A:=C.n40;refine⟨U,_,U,_,U,Gg T z λB i=>?_⟩;obtain⟨H1,e9,D,n⟩:=nu9 (o:=.lst (vS x)) (.refl _) i;rw[e9];refine⟨B,vS x,U,yW n,(by rw[Bc];lia),λl8 j=>?_⟩;rw[show(vS x).reverse=vS x.reverse by unfold vS;rw[List.map_reverse]];obtain⟨u,e9,f,y⟩:=nu9 (o:=.lst (vS x.reverse)) D j;rw[e9];refine⟨_,U,Ip T (z.mono f) ⟨(by show 1<=sizeLine;decide),λa s=>?_⟩⟩;have q:Aw u (upd u a (.lst (vS [d]))):=.upd s;have h:(upd u a (.lst (vS [d]))) a=some (.lst (vS [d])):=Ae;exact⟨a,upW,[d],(by rfl),yW h,AB,hw,t.Hb,r,dx,l8,_,_,U,(f.trans q) _ _ h1,T.Ag4.c,T.U0,T.Qs,yW (q _ _ y),λl G=>k.fin (f.trans q) h1 G⟩
theorem Aar(T:Txt K mg t):Bm P w K mg base CX0 6 t.Kl t.RB ["self","inner"] (AgN K t t.Jf baW back):=by refine T.S6.F.ok Aak ?_;rintro _ _ _ _ H _ Q E a ⟨r,dx,p,x,d,rfl,h1,y,C,hw,k⟩;refine⟨_,(Ad (Bj (HN (Ce (v:=.ref t.Ef) U T.Io U) T.GC ((Cu T).mono Ap) a T.Ci.b .nil Ay (Aa (pv 0) (Aa (Aj ((AjV T).mono Ap) a U T.AbZ.m T.AbZ.F.kp T.AbZ.b .nil Ay (Aa (By (K:=K) U (pv 1) ((De T).mono Ap) a T.Di.b Ay) Ab)) (Aa (Aj ((Fq T).mono Ap) a U T.written.m T.written.F.kp T.written.b .nil Ay (Aa Af (Aa (Cm (Aa (By (K:=K) U (pv 1) ((Dw T).mono Ap) a T.DG.b Ay) Ab)) Ab))) Ab)))))),U,_,U,_,U,Gg T y λf j=>?_⟩;have A:Aw H (upd H f (.lst (vS x))):=.upd j;have s:(upd H f (.lst (vS x))) f=some (.lst (vS x)):=Ae;refine⟨f,x,wdt x,x.length,U,yW s,C,λl8 n z B o=>?_⟩;have i:=A.trans z;refine⟨_,U,Ip T (y.mono i) ⟨(by show 1<=sizeLine;decide),λe h=>?_⟩⟩;have u:Aw n (upd n e (.lst (vS [d]))):=.upd h;have q:(upd n e (.lst (vS [d]))) e=some (.lst (vS [d])):=Ae;exact⟨e,baW,[d],(by rfl),yW q,AB,hw,t.Jf,r,dx,l8,_,_,U,(i.trans u) _ _ h1,T.AjP.c,T.Ww,T.Sx,yW (u _ _ o),λl D=>k.fin (i.trans u) h1 D⟩
theorem Vy(T:Txt K mg t):Bm P w K mg base CX0 6 t.Hs t.Mi ["self","inner"] (AgN K t t.Ew quW (λx=>AcE x (wdt x))):=by refine T.M3.F.ok Vt ?_;rintro _ _ _ _ H _ Q E a ⟨r,dx,p,x,d,rfl,h1,y,C,hw,k⟩;refine⟨_,(Ad (Bj (HN (Ce (v:=.ref t.Ef) U T.Io U) T.GC ((Cu T).mono Ap) a T.Ci.b .nil Ay (Aa (pv 0) (Aa (Aj ((Ae9 T).mono Ap) a U T.QL.m T.QL.F.kp T.QL.b .nil Ay (Aa (By (K:=K) U (pv 1) ((De T).mono Ap) a T.Di.b Ay) Ab)) (Aa (Aj ((Fq T).mono Ap) a U T.written.m T.written.F.kp T.written.b .nil Ay (Aa Af (Aa (Cm (Aa (By (K:=K) U (pv 1) ((Dw T).mono Ap) a T.DG.b Ay) Ab)) Ab))) Ab)))))),U,_,U,_,U,Gg T y λf j=>?_⟩;have A:Aw H (upd H f (.lst (vS x))):=.upd j;have s:(upd H f (.lst (vS x))) f=some (.lst (vS x)):=Ae;refine⟨f,x,wdt x,x.length,U,yW s,C,λl8 n z B o=>?_⟩;have i:=A.trans z;refine⟨_,U,Ip T (y.mono i) ⟨(by show 1<=sizeLine;decide),λe h=>?_⟩⟩;have u:Aw n (upd n e (.lst (vS [d]))):=.upd h;have q:(upd n e (.lst (vS [d]))) e=some (.lst (vS [d])):=Ae;exact⟨e,quW,[d],(by rfl),yW q,AB,hw,t.Ew,r,dx,l8,_,_,U,(i.trans u) _ _ h1,T.Aao.c,T.Qt,T.My,yW (u _ _ o),λl D=>k.fin (i.trans u) h1 D⟩
inductive Ar8 (K:NO)(t:Adr)(vs:LI)(H:Hp)(Q:VK)(E:XK):Prop
|mk(r:Nn)(dx:Nn)(p:Nn)(x:NI)(zx:NV)(a:Nat)(b:Nat)(_:vs=[.ref r,.ref p,.int (a:Int),.int (b:Int)])(_:H r=some (.ins t.Ia dx []))(_:Pc t H p x zx)(_:Clo x)(_:a<100)(_:b<100)(_:(wz tiW [zx,dec a,dec b]).length<=1000000)(_:Oi t t.Ia dx r H Q E (AaB x a b) (wz tiW [zx,dec a,dec b]))
theorem Zu(T:Txt K mg t):Bm P w K mg base (CX1 P w) 6 t.Km t.RC ["self","inner","across","along"] (Ar8 K t):=by
 refine T.S7.F.okX Py ?_;rintro _ _ _ _ H _ Q E d ⟨r,dx,p,x,h,a,b,rfl,h1,B,C,J,D,hw,k⟩;refine⟨_,(Ac (Bl (PW.pt (pw_or (Ai Hf (pv 2) Ah (Av _)) (pw_or1 (Ai Hf (pv 3) Ah (Av _)))))
   (Ad (DR T.BW U T.BX (Aa Af Ab)))
   Aq)
  (Ac (Bd (i:=4) Py.nd U NN (Aj ((AoT T).mono Ap) d U T.AkF.m T.AkF.F.kp T.AkF.b .nil Cq (Aa (By (K:=K) U (pv 1) ((De T).mono Ap) d T.Di.b Ay) (Aa (pv 2) (Aa (pv 3) Ab)))))
  (Ad (Bj (HN (Ce (v:=.ref t.Ef) U T.Io U) T.GC ((Cu T).mono Ap) d T.Ci.b .nil Ay (Aa (pv 0) (Aa (pv 4) (Aa (Aj ((Fq T).mono Ap) d U T.written.m T.written.F.kp T.written.b .nil Ay (Aa Af (Aa (Cm (Aa (By (K:=K) U (pv 1) ((Dw T).mono Ap) d T.DG.b Ay) (Aa (BR Dy U T.Sq JV (Aa (pv 2) Ab)) (Aa (BR Dy U T.Sq JV (Aa (pv 3) Ab)) Ab)))) Ab))) Ab)))))))),?_⟩;unfold AaB at k;have fin:=λg=>by
  rw[yF g]at k;exact k
 refine⟨_,U,_,_,U,U,_,U,CP (λc1=>?_) (λc1=>?_)⟩
 ·exact Kz ⟨Ap,fin (.inl AA) _ (GF (.refl _))⟩
 refine⟨_,U,_,_,U,U,_,U,CP (λL=>?_) (λL=>?_)⟩
 ·exact⟨Ap,fin (.inr AA) _ (GF (.refl _))⟩
 rw[yE Au]at k;refine⟨_,U,Gg T B λf o=>?_⟩;have A:Aw H (upd H f (.lst (vS x))):=.upd o;have q:(upd H f (.lst (vS x))) f=some (.lst (vS x)):=Ae;refine⟨_,U,_,U,f,x,wdt x,x.length,(a:Int),(b:Int),U,yW q,C,AA,AA,λc3 l8 y G I z=>?_,λc3 H' s'=>?_⟩
 case' refine_2 =>
  rw[yF Au]at k;exact k _ (GF (A.trans s'))
 rw[yE Au]at k;have j:=A.trans G;refine⟨U,_,U,_,U,_,U,Ip T (B.mono j) ⟨_,U,_,U,lg J,_,U,_,U,lg D,(by show 3<=sizeLine;decide),λe u=>?_⟩⟩;have s:Aw y (upd y e (.lst (vS [h,dec a,dec b]))):=.upd u;have n:(upd y e (.lst (vS [h,dec a,dec b]))) e=some (.lst (vS [h,dec a,dec b])):=Ae;exact⟨e,tiW,[h,dec a,dec b],(by rfl),yW n,AB,hw,t.Ia,r,dx,l8,_,_,U,(j.trans s) _ _ h1,T.AjQ.c,T.Wy,T.Sy,yW (s _ _ z),λl M=>k.fin (j.trans s) h1 M⟩
theorem AoZ(k:Nat):(List.replicate k [V.int 0,V.int 1]).flatten=vI (Iw k):=by
 induction k with
 |zero=>rfl
 |succ k a =>
  rw[Ayz,Ayv,a];rfl
theorem Aas(T:Txt K mg t):Bm P w K mg base (CX1 P w) 4 t.Mj t.Ui ["self","upper","lower"] (AjZ K t t.Pz Aj9 laW):=by
 refine T.U5.F.okX Rz ?_;rintro _ _ _ _ H _ Q E d ⟨r,dx,p,q,x,y,f,h,rfl,h1,e,Z,C,D,hw,k⟩;refine⟨_,(Ac (Bj (Aj ((Xh T).mono Ap) d U T.Im.m T.Im.F.kp T.Im.b .nil Cq (Aa (pv 1) (Aa (pv 2) Ab))))
  (Ac (Bj (Aj ((GD T).mono Ap) d U T.Ds.m T.Ds.F.kp T.Ds.b .nil Cq (Aa (Ak Q8 Ah (By (K:=K) U (pv 1) ((Ei T).mono Ap) d T.Eg.b Ay)) (Aa (Ak Q8 Ah (By (K:=K) U (pv 1) ((Ej T).mono Ap) d T.Eh.b Ay)) Ab))))
  (Ac (Bd (i:=3) Rz.nd U NN (Aj ((Aaq T).mono Ap) d U T.J4.m T.J4.F.kp T.J4.b .nil Ay (Aa (Cm (Aa (By (K:=K) U (pv 1) ((De T).mono Ap) d T.Di.b Ay) (Aa (By (K:=K) U (pv 2) ((De T).mono Ap) d T.Di.b Ay) Ab))) (Aa (Ak AfO (Cm (Aa Ah (Aa Ah Ab))) (By (K:=K) U (pv 1) ((Ei T).mono Ap) d T.Eg.b Ay)) (Aa (Ak AfO (Cm (Aa Ah (Aa Ah Ab))) (By (K:=K) U (pv 1) ((Ej T).mono Ap) d T.Eh.b Ay)) Ab)))))
  (Ad (Bj (HN (Ce (v:=.ref t.Ef) U T.Io U) T.GC ((Cu T).mono Ap) d T.Ci.b .nil Ay (Aa (pv 0) (Aa (pv 3) (Aa (Aj ((Fq T).mono Ap) d U T.written.m T.written.F.kp T.written.b .nil Ay (Aa Af (Aa (Cm (Aa (By (K:=K) U (pv 1) ((Dw T).mono Ap) d T.DG.b Ay) (Aa (By (K:=K) U (pv 2) ((Dw T).mono Ap) d T.DG.b Ay) Ab))) Ab))) Ab))))))))),?_⟩;unfold Aj9 at k;have hsz:=z7;refine⟨_,U,_,U,p,q,x,y,f,h,wdt x,x.length,wdt y,y.length,U,e,Z,C,D,λc1=>?_,λc1=>?_⟩
 case' refine_2 =>
  rw[yF Au]at k;exact k _ (GF (.refl _))
 rw[yE Au]at k;refine⟨_,U,Le T e C ⟨_,_,U,U,.inl ⟨Ap,Ap⟩,_,U,Lf T e C ⟨_,_,U,U,.inl ⟨Ap,Ap⟩,2*wdt x,2*x.length,AB,λn=>?_,λn H' s'=>?_⟩⟩⟩
 case' refine_2 =>
  rw[yF n]at k;exact k _ (GF s')
 rw[yE Au]at k;refine⟨_,U,Gg T e λl1 a0=>?_⟩;obtain⟨H1,e9,s1,R⟩:=nu9 (o:=.lst (vS x)) (.refl _) a0;rw[e9];refine⟨_,U,Gg T (Z.mono s1) λl2 A=>?_⟩;obtain⟨H2,e9,s2,I⟩:=nu9 (o:=.lst (vS y)) (.refl _) A;rw[e9];refine⟨AE,λl3 a6=>?_⟩;obtain⟨H3,e9,s3,O⟩:=nu9 (o:=.lst [V.ref l1,V.ref l2]) (.refl _) a6;rw[e9];refine⟨AE,λl4 L=>?_⟩;obtain⟨H4,e9,s4,ac⟩:=nu9 (o:=.lst [V.int 0,V.int 1]) (.refl _) L;rw[e9];have u4:=((s1.trans s2).trans s3).trans s4;refine⟨_,U,Le T (e.mono u4) C ⟨_,_,_,U,U,ac,AA,AA,AD,λl5 W=>?_⟩⟩;rw[Ayi,AoZ];obtain⟨H5,e9,s5,z⟩:=nu9 (o:=.lst (vI (Iw (wdt x)))) (.refl _) W;rw[e9];refine⟨AE,λl6 X=>?_⟩;obtain⟨B,e9,u,N⟩:=nu9 (o:=.lst [V.int 0,V.int 1]) (.refl _) X;rw[e9];have u6:=(u4.trans s5).trans u;refine⟨_,U,Lf T (e.mono u6) C ⟨_,_,_,U,U,N,AA,AA,AD,λl7 ae=>?_⟩⟩;rw[Ayi,AoZ];have M:Aw B (upd B l7 (.lst (vI (Iw x.length)))):=.upd ae;have ab:(upd B l7 (.lst (vI (Iw x.length)))) l7=some (.lst (vI (Iw x.length))):=Ae;have u7:=u6.trans M;have w3:=((s4.trans s5).trans u).trans M;have D':Cl y (wdt x) x.length:=by rw[c1.1,c1.2];exact D
 refine⟨l3,l5,l7,[l1,l2],[x,y],Iw (wdt x),Iw x.length,U,yW (w3 _ _ O),⟨U,λi a hi=>?_⟩,yW ((u.trans M) _ _ z),yW ab,Aot C D' n.1 n.2,λl8 G s9 af Y=>?_⟩
 ·rcases i with _|_|i
  ·cases hi;exact yW (w3 _ _ (s3 _ _ (s2 _ _ R)))
  ·cases hi;exact yW (w3 _ _ (s3 _ _ I))
  ·simp at hi
 have s:=u7.trans s9;refine⟨U,_,U,_,U,_,U,Ip T (e.mono s) ⟨_,U,Ip T (Z.mono s) ⟨AE,λj aa=>?_⟩⟩⟩;have S:Aw G (upd G j (.lst (vS [f,h]))):=.upd aa;have J:(upd G j (.lst (vS [f,h]))) j=some (.lst (vS [f,h])):=Ae;exact⟨j,laW,[f,h],(by rfl),yW J,AB,hw,t.Pz,r,dx,l8,_,_,U,(s.trans S) _ _ h1,T.AoA.c,T.Zg,T.U3,yW (S _ _ Y),λl hl=>k.fin (s.trans S) h1 hl⟩
def Oc (t:Adr)(H:Hp)(Q:VK)(E:XK)(R:Res)(z:NV):Prop:=match R with
 | .ok x=>∀p H',Aw H H'->Pc t (nw H H') p x z->Q (.ref p) H'
 | .no f=>∀H',Aw H H'->E (.ref (rfa t f)) none H'
theorem Af3(h1:H r=none)(h2:H dx=none)(s:BV r (upd (upd H dx (.own r)) r (.ins C dx [])) H'):Aw H H':=λb o e=>by
 have n1:=Bf e h1;refine s b o n1 ?_;rw[Ao n1,Ao (Bf e h2)];exact e
theorem AkX(s:Aw H H1):∀b o,nw H1 H2 b=some o->nw H H2 b=some o:=Ai8 λb e=>by
 cases e2:H b with
 |none=>rfl
 |some o=>rw[s _ _ e2]at e;cases e
theorem Oc.same{R:Res}(k:Oc t H Q E R z)(s:Aw H H1):Oc t H1 Q E R z:=by
 cases R with
 |ok x=>exact λp H' s' a=>k p H' (s.trans s') (a.mono (AkX s))
 |no f=>exact λH' s'=>k H' (s.trans s')
theorem Oc.make{R:Res}(k:Oc t H Q E R z)(h:C∈pcs t)(h1:H r=none)(h2:H dx=none):Oi t C dx r (upd (upd H dx (.own r)) r (.ins C dx [])) (λv H2=>v=.non/\Q (.ref r) H2) E R z:=by
 cases R with
 |ok x =>
  intro l H' d a b c;have i:H l=none:=by
   by_cases e:l=r
   ·rw[e];exact h1
   ·rw[Ao e]at a;by_cases e2:l=dx
    ·rw[e2];exact h2
    ·rw[Ao e2]at a;exact a
  exact⟨U,k r H' (Af3 h1 h2 d) ⟨C,dx,l,h,by rw[JN h1];exact c,by rw[JN i];exact b⟩⟩
 |no f=>exact λH' d=>k H' (Af3 h1 h2 d)
inductive AtA (t:Adr) (H:Hp):Arg->V->Prop
 |num {n:Nat}:AtA t H (.num n) (.int (n:Int))
 |run {r:NV}:AtA t H (.run r) (.str (tx r))
 |cl {x:NI} {z:NV} {p:Nn}:Pc t H p x z->AtA t H (.cl x z) (.ref p)
theorem AtA.mono(s:∀b o,H b=some o->H' b=some o){x:Arg}{v:V}(h:AtA t H x v):AtA t H' x v:=by
 cases h with
 |num=>exact .num
 |run=>exact .run
 |cl h=>exact .cl (h.mono s)
theorem FQ(h1:H r=none)(h2:H dx=none):Aw H (upd (upd H dx (.own r)) r (.ins C dx [])):=λb o e=>by
 rw[Ao (Bf e h1),Ao (Bf e h2)];exact e
theorem Ir:t.Gm∈pcs t/\t.HY∈pcs t/\t.Gn∈pcs t/\t.Fz∈pcs t/\t.Ha∈pcs t/\t.FJ∈pcs t/\t.Hb∈pcs t/\t.Jf∈pcs t/\t.Ew∈pcs t/\t.Ia∈pcs t/\t.Pz∈pcs t:=by simp[pcs]
inductive AvX (t:Adr)(vs:LI)(H:Hp)(Q:VK)(z3:XK):Prop
|mk(z:NV)(zx:NV)(x:NI)(p:Nn)(E:XK)(_:vs=[.str (tx z),.ref p])(_:(z=miW\/z=upW\/z=baW\/z=quW))(_:Pc t H p x zx)(_:Clo x)(_:(wz z [zx]).length<=1000000)(_:Oc t H Q E (Aj8 z x) (wz z [zx]))
theorem SM{a:NV}(h:¬a=b):¬(V.str (tx a):V)=V.str (tx b):=λz=>h (by injection z with z;exact Ja z)
theorem AdD(T:Txt K mg t):Bm P w K mg base CX0 8 t.Wj t.Wl ["word","inner"] (AvX t):=by
 refine T.Nq.F.ok AcP ?_;rintro _ _ _ _ H _ Q E i ⟨z,e,x,p,E',rfl,l,f,C,hw,k⟩;refine⟨_,(Ac (Bl (Ai Cj (pv 0) Af (Av _))
   (Ad (Az (Ez T.Adw.m ((Xj T).mono Ap) i U T.Ao9 T.NP.b .nil Ay (Aa (pv 1) Ab))))
   Aq)
  (Ac (Bl (Ai Cj (pv 0) Af (Av _))
   (Ad (Az (Ez T.Ag4.m ((Zt T).mono Ap) i U T.Arw T.Qx.b .nil Ay (Aa (pv 1) Ab))))
   Aq)
  (Ac (Bl (Ai Cj (pv 0) Af (Av _))
   (Ad (Az (Ez T.AjP.m ((Aar T).mono Ap) i U T.AtT T.S6.b .nil Ay (Aa (pv 1) Ab))))
   Aq)
  (Ad (Az (Ez T.Aao.m ((Vy T).mono Ap) i U T.Amy T.M3.b .nil Ay (Aa (pv 1) Ab))))))),?_⟩;refine⟨_,U,U,_,U,?_⟩;by_cases c1:z=miW
 ·subst c1;exact⟨_,U,λr dx a c d=>⟨r,dx,p,x,e,U,Ae,f.mono (FQ a c),C,hw,Oc.make k Ir.2.2.2.2.2.1 a c⟩⟩
 refine DQ (SM c1) ⟨_,U,U,_,U,?_⟩;by_cases j:z=upW
 ·subst j;exact⟨_,U,λr dx a c d=>⟨r,dx,p,x,e,U,Ae,f.mono (FQ a c),C,hw,Oc.make k Ir.2.2.2.2.2.2.1 a c⟩⟩
 refine DQ (SM j) ⟨_,U,U,_,U,?_⟩;by_cases c3:z=baW
 ·subst c3;exact⟨_,U,λr dx a c d=>⟨r,dx,p,x,e,U,Ae,f.mono (FQ a c),C,hw,Oc.make k Ir.2.2.2.2.2.2.2.1 a c⟩⟩
 have n:z=quW:=by
  rcases l with h|h|h|h
  ·exact yG h c1
  ·exact yG h j
  ·exact yG h c3
  ·exact h
 subst n;exact⟨_,U,λr dx a c d=>⟨r,dx,p,x,e,U,Ae,f.mono (FQ a c),C,hw,Oc.make k Ir.2.2.2.2.2.2.2.2.1 a c⟩⟩
inductive AvY (t:Adr)(vs:LI)(H:Hp)(Q:VK)(E:XK):Prop
|mk(z:NV)(a:Arg)(b:Arg)(va:V)(vb:V)(_:vs=[.str (tx z),va,vb])(_:¬z=Pat.Ge)(_:¬z=saW)(_:Fit z [a,b])(_:AtA t H a va)(_:AtA t H b vb)(_:(wz z [wrA a,wrA b]).length<=1000000)(_:Oc t H Q E (made z [a,b]) (wz z [wrA a,wrA b]))
theorem AbI(T:Txt K mg t):Bm P w K mg base (CX1 P w) 6 t.Wm t.Wn ["word","one","other"] (AvY t):=by
 refine T.Nr.F.okX AcQ ?_;rintro _ _ _ _ H _ Q E j ⟨z,a,b,B,G,rfl,l,q,F,u,s,hw,k⟩;refine⟨_,(Ac (Bl (Ai Cj (pv 0) Af (Av _))
   (Ad (Az (Ez T.Ag2.m ((Xg T).mono Ap) j U T.Aru T.Qv.b .nil Cq (Aa (pv 1) (Aa (pv 2) Ab)))))
   Aq)
  (Ac (Bl (Ai Cj (pv 0) Af (Av _))
   (Ad DK)
   Aq)
  (Ac (Bl (Ai Cj (pv 0) Af (Av _))
   (Ad (Az (Ez T.Adq.m ((Vx T).mono Ap) j U T.Ao8 T.NK.b .nil Cq (Aa (pv 1) (Aa (pv 2) Ab)))))
   Aq)
  (Ac (Bl (Ai Cj (pv 0) Af (Av _))
   (Ad (Az (Ez T.Ag3.m ((Xi T).mono Ap) j U T.Arv T.Qw.b .nil Cq (Aa (pv 1) (Aa (pv 2) Ab)))))
   Aq)
  (Ad (Az (Ez T.AoA.m ((Aas T).mono Ap) j U T.AvP T.U5.b .nil Cq (Aa (pv 1) (Aa (pv 2) Ab))))))))),?_⟩;have f:(∃m n,(z=twW\/z=saW)/\a=.num m/\b=.num n/\m<100/\n<100)\/∃x h y i,(z=beW\/z=abW\/z=laW)/\a=.cl x h/\b=.cl y i/\Clo x/\Clo y:=by
  generalize has:[a,b]=as at F;cases F with
  |rows h1 h2 h3=>exact yG U l
  |nums w h1 h2=>cases has;exact .inl ⟨_,_,w,U,U,h1,h2⟩
  |one w h1=>cases has
  |two w h1 h2=>cases has;exact .inr ⟨_,_,_,_,w,U,U,h1,h2⟩
  |tile h1 h2 h3=>cases has
  |blk h1 h2 h3=>cases has
 rcases f with ⟨m,n,w,rfl,rfl,A,hn⟩|⟨x,h,y,i,w,rfl,rfl,C,D⟩
 ·cases u;cases s;refine⟨_,U,U,_,U,?_⟩;by_cases c1:z=twW
  ·subst c1;exact⟨_,U,_,U,λr dx c d e=>⟨r,dx,m,n,U,Ae,A,hn,Oc.make k Ir.2.2.1 c d⟩⟩
  exact yG (w.resolve_left c1) q
 ·obtain _|_|p:=u;obtain _|_|o:=s;have d1:¬z=twW:=by rcases w with rfl|rfl|rfl<;>decide
  have d2:¬z=saW:=AD
  refine⟨_,U,U,_,U,DQ (SM d1) ⟨_,U,U,_,U,DQ (SM d2) ⟨_,U,U,_,U,?_⟩⟩⟩;by_cases c1:z=beW
  ·subst c1;exact⟨_,U,_,U,λr dx c d e=>⟨r,dx,_,_,x,y,h,i,U,Ae,p.mono (FQ c d),o.mono (FQ c d),C,D,hw,Oc.make k Ir.2.2.2.1 c d⟩⟩
  refine DQ (SM c1) ⟨_,U,U,_,U,?_⟩;by_cases v:z=abW
  ·subst v;exact⟨_,U,_,U,λr dx c d e=>⟨r,dx,_,_,x,y,h,i,U,Ae,p.mono (FQ c d),o.mono (FQ c d),C,D,hw,Oc.make k Ir.2.2.2.2.1 c d⟩⟩
  have c3:=(w.resolve_left c1).resolve_left v;subst c3;exact⟨_,U,_,U,λr dx c d e=>⟨r,dx,_,_,x,y,h,i,U,Ae,p.mono (FQ c d),o.mono (FQ c d),C,D,hw,Oc.make k Ir.2.2.2.2.2.2.2.2.2.2 c d⟩⟩
inductive AvZ (K:NO)(t:Adr)(vs:LI)(H:Hp)(Q:VK)(E:XK):Prop
|mk(z:NV)(a:Arg)(b:Arg)(c:Arg)(va:V)(vb:V)(vc:V)(l:Nn)(_:vs=[.str (tx z),.ref l])(_:SqL K H l [va,vb,vc])(_:¬z=Pat.Ge)(_:¬z=blW)(_:Fit z [a,b,c])(_:AtA t H a va)(_:AtA t H b vb)(_:AtA t H c vc)(_:(wz z [wrA a,wrA b,wrA c]).length<=1000000)(_:Oc t H Q E (made z [a,b,c]) (wz z [wrA a,wrA b,wrA c]))
theorem Zv(T:Txt K mg t):Bm P w K mg base (CX1 P w) 9 t.RW t.RX ["word","things"] (AvZ K t):=by
 refine T.J5.F.okX Aaf ?_;rintro _ _ _ _ H _ Q E O ⟨z,a,b,c,j,o,i,l,rfl,s,p,q,F,J,G,hc,hw,k⟩;refine⟨_,(Ac (Bl (Ai Cj (pv 0) Af (Av _))
   (Ad (Az (Ez T.AjQ.m ((Zu T).mono Ap) O U T.AtU T.S7.b .nil Cq (Aa (Bq (Be (K:=K)) (pv 1) Ah (λ_ _=>rfl)) (Aa (Bq (Be (K:=K)) (pv 1) Ah (λ_ _=>rfl)) (Aa (Bq (Be (K:=K)) (pv 1) Ah (λ_ _=>rfl)) Ab))))))
   Aq)
  (Ad DK)),?_⟩;have M:atI [j,o,i] 0=some j:=Bw Ap U;have a1:atI [j,o,i] 1=some o:=Bw Ap U;have a2:atI [j,o,i] 2=some i:=Bw Ap U;have f:(∃x d m n,z=tiW/\a=.cl x d/\b=.num m/\c=.num n/\Clo x/\m<100/\n<100)\/∃v u x d y A,z=blW/\a=.cl v u/\b=.cl x d/\c=.cl y A/\Clo v/\Clo x/\Clo y:=by
  generalize has:[a,b,c]=as at F;cases F with
  |rows h1 h2 h3=>exact yG U p
  |nums w h1 h2=>cases has
  |one w h1=>cases has
  |two w h1 h2=>cases has
  |tile h1 h2 h3=>simp_all
  |blk h1 h2 h3=>grind
 refine⟨_,U,U,_,U,?_⟩;rcases f with ⟨x,d,m,n,rfl,rfl,rfl,rfl,C,I,hn⟩|⟨v,u,x,d,y,A,rfl,rfl,rfl,rfl,B,C,D⟩
 ·obtain _|_|N:=J;cases G;cases hc;exact⟨_,U,_,_,_,_,U,U,s,M,_,U,_,_,_,_,U,U,s,a1,_,U,_,_,_,_,U,U,s,a2,λr dx e h L=>⟨r,dx,_,x,d,m,n,U,Ae,N.mono (FQ e h),C,I,hn,hw,Oc.make k Ir.2.2.2.2.2.2.2.2.2.1 e h⟩⟩
 ·exact yG U q
def Kn (H:Hp)(kp:Nn)(kn:Kns):Prop:=∃as:NW,H kp=some (.lst (as.map V.ref))/\as.length=kn.length/\∀(i:Nat)(a:Nn)(p:NV×NI),as[i]?=some a->kn[i]?=some p->∃q,H a=some (.tup [.str (tx p.1),.ref q])/\H q=some (.lst (vS p.2))
theorem Kn.same{kn:Kns}(h:Kn H kp kn)(s:Aw H H'):Kn H' kp kn:=by obtain⟨as,h1,h2,h3⟩:=h;refine⟨as,s _ _ h1,h2,λi a p g1 g2=>?_⟩;obtain⟨q,b,e2⟩:=h3 i a p g1 g2;exact⟨q,s _ _ b,s _ _ e2⟩
inductive Apa (t:Adr)(vs:LI)(H:Hp)(Q:VK)(E:XK):Prop
|mk(z:NV)(kp:Nn)(kn:Kns)(_:vs=[.str (tx z),.ref kp])(_:Kn H kp kn)(_:(∀x q,known kn z=.ok x->H q=some (.lst (vS x))->Q (.ref q) H))(_:(known kn z=.no .unk->E (.ref t.CQ) none H))
theorem SN(T:Txt K mg t):Bm P w K mg base (CX1 P w) 1 t.Wh t.Wi ["name","known"] (Apa t):=by
 refine T.Gz.F.okX LQ ?_;rintro _ _ _ _ H _ Q E r ⟨z,kp,kn,rfl,⟨as,h1,h2,h3⟩,k1,k2⟩;refine⟨_,(Ac (PS.nox (DP yJ U (BJ (K:=K) (pv 1)) (IW U (CG (Bs (i:=2) LQ.nd U NN) (CG (Bs (i:=3) LQ.nd U NN) GJ)))
   (Ad (Bl (Ai Cj (pv 2) (pv 0) (Av _))
    (Ad (Az (pv 3)))
    Aq))))
  (Ad (DR T.Qn U T.Af0 (Aa Af Ab)))),?_⟩;refine⟨_,U,_,U,⟨_,yW h1⟩,Ff (λi σ H2=>∃f h,σ=[some (.str (tx z)),some (.ref kp),f,h]/\H2=H/\∀p∈kn.take i,¬p.1=z) ⟨none,none,U,U,λp b=>by simp at b⟩ (λi σ H2 _ ⟨_,_,_,e,_⟩=>by rw[e];exact yW h1) ?_ ?_⟩
 ·rintro i o σ H2 d ⟨f,h,rfl,rfl,no⟩;rw[AxZ]at d;cases ea:as[i]? with
  |none=>simp_all
  |some a =>
   rw[ea]at d;cases d;have hi:i<kn.length:=by rw[<-h2];exact(zC.mp ea).1
   have l:=AxT hi;obtain⟨q,m,e2⟩:=h3 i a _ ea l;refine⟨a,_,U,SqT.of m,U,_,_,U,_,_,U,U,_,U,_,U,U,_,U,?_⟩;by_cases c:kn[i].1=z
   ·refine I9 (by rw[c]) ⟨_,U,k1 kn[i].2 q ?_ e2⟩;unfold known;have:kn.find? (λp=>decide (p.1=z))=some kn[i]:=by
     rw[List.find?_eq_some_iff_getElem];refine⟨by simpa using c,i,hi,U,λj n=>?_⟩;have:= no kn[j] (List.mem_iff_getElem?.mpr ⟨j,AC⟩)
     simpa using this
    rw[this]
   ·refine DQ (SM c) ⟨_,_,U,U,λp b=>?_⟩;rw[Aya,l]at b;rcases zG.mp b with b|b
    ·exact no p b
    ·rw[AzG,zF]at b;rw[b];exact c
 ·rintro σ H2 ⟨f,h,rfl,rfl,no⟩;rw[AxR,h2,Ayg]at no;refine⟨Ap,k2 ?_⟩;unfold known;have:kn.find? (λp=>decide (p.1=z))=none:=List.find?_eq_none.mpr λp b=>by simpa using no p b
  rw[this]
def Nsb:Nat->Nd->Prop
 |d+1,.node z ts=>(¬z=saW/\¬z=blW)/\∀x∈ts,Nsb d x
 |_,_=>True
inductive Apb (t:Adr)(d:Nat)(vs:LI)(H:Hp)(Q:VK)(E:XK):Prop
|mk(x:Nd)(v:V)(kp:Nn)(kn:Kns)(_:vs=[v,.ref kp])(_:Wd d x)(_:Nsb d x)(_:AtN H x v)(_:(wr d x).length<=1000000)(_:Kn H kp kn)(_:(∀p∈kn,Clo p.2))(_:Oc t H Q E (out kn d x) (wr d x))
def AiF (t:Adr)(H:Hp)(as:List Arg)(vs:LI):Prop:=vs.length=as.length/\∀(i:Nat)(a:Arg)(v:V),as[i]?=some a->vs[i]?=some v->AtA t H a v
theorem AiF.snoc{ts:List Arg}{x:Arg}{v:V}(h:AiF t H ts vs)(a:AtA t H x v):AiF t H (ts++[x]) (vs++[v]):=by
 refine⟨by rw[AxS,AxS,h.1];rfl,λi y w g1 g2=>?_⟩;by_cases c:i<ts.length
 ·rw[Ayo c]at g1;rw[Ayo (by rw[h.1];exact c)]at g2;exact h.2 i y w g1 g2
 ·have e:i=ts.length:=by
   have:=(zC.mp g1).1;rw[AxS,Azc]at this;lia
  subst e;rw[Aym (AxU _),AyJ]at g1;rw[Aym (by rw[h.1];exact AxU _),h.1,AyJ]at g2;cases g1;cases g2;exact a
theorem AiF.mono(s:∀b o,H b=some o->H' b=some o){ts:List Arg}(h:AiF t H ts vs):AiF t H' ts vs:=⟨h.1,λi x v g1 g2=>(h.2 i x v g1 g2).mono s⟩
theorem AkY(s:Aw H1 H2):∀b o,nw H H1 b=some o->nw H H2 b=some o:=λb o h=>by
 have g:=NQ h;rw[JN g.1];exact s _ _ g.2
theorem AiG{kn:Kns}:out kn (d+1) (.node z ts)=match args (out kn d) (wr d) ts with
  | .inl f=>.no f
  | .inr as=>made z as:=rfl
theorem Ar9(h:Wd (d+1) (.node z ts)):1<=ts.length/\ts.length<=40/\(¬z=Pat.Ge->ts.length<=3):=by
 cases h with
 |rows h1 h2 h3=>rw[AxR];exact⟨List.length_pos_iff.mpr h1,h2,λc=>yG U c⟩
 |nums w _ _=>exact⟨AB,AB,AB⟩
 |one w _=>exact⟨AB,AB,AB⟩
 |two w _ _=>exact⟨AB,AB,AB⟩
 |tile _ _ _=>exact⟨AB,AB,AB⟩
 |blk _ _ _=>exact⟨AB,AB,AB⟩
theorem Apc(h:Wd (d+1) (.node z ts)){x:Nd}(a:ts[i]?=some x):(∃n,x=.num n)\/(∃r,x=.run r)\/Wd d x:=by
 cases h with
 |rows h1 h2 h3 =>
  rw[AxZ]at a;cases e:(_:NI)[i]? with
  |none=>rw[e]at a;cases a
  |some r=>rw[e]at a;cases a;exact .inr (.inl ⟨r,U⟩)
 |nums w _ _ =>
  rcases yC.mp (Ayb a) with rfl|h
  ·exact .inl ⟨_,U⟩
  ·exact .inl ⟨_,zF.mp h⟩
 |one w h1=>rw[zF.mp (Ayb a)];exact .inr (.inr h1)
 |two w h1 h2 =>
  rcases yC.mp (Ayb a) with rfl|h
  ·exact .inr (.inr h1)
  ·rw[zF.mp h];exact .inr (.inr h2)
 |tile h1 _ _ =>
  rcases yC.mp (Ayb a) with rfl|h
  ·exact .inr (.inr h1)
  ·rcases yC.mp h with rfl|h
   ·exact .inl ⟨_,U⟩
   ·exact .inl ⟨_,zF.mp h⟩
 |blk h1 h2 h3 =>
  rcases yC.mp (Ayb a) with rfl|h
  ·exact .inr (.inr h1)
  ·rcases yC.mp h with rfl|h
   ·exact .inr (.inr h2)
   ·rw[zF.mp h];exact .inr (.inr h3)
theorem AdE{k:Nat}(hk:8<=k)(T:Txt K mg t)(aa:Bm P w K mg base (CX1 P w) (k+1) t.KR t.KY ["node","known"] (Apb t d)):Bm P w K mg base (CX1 P w) (k+2) t.KR t.KY ["node","known"] (Apb t (d+1)):=by
 refine T.Hu.F.okX VF ?_;rintro _ _ _ _ H _ Q E X ⟨x,v,kp,kn,rfl,W,NS,hv,hw,hK,hC,k0⟩;refine⟨_,(Ac (Bl (Ai Ajc (Bq (Ep (K:=K)) (pv 0) Ah (λ_ _=>rfl)) W3 (Av _))
   (Ad (Az (Ez T.Agy.m ((Zq T).mono (by exact Ar.d8 hk)) X U T.Art T.Qu.b .nil Ay (Aa (Bq (Ep (K:=K)) (pv 0) Ah (λ_ _=>rfl)) (Aa (Aj ((SN T).mono (by exact Ar.a4)) X U T.Gz.m T.Gz.F.kp T.Gz.b .nil Cq (Aa (Bq (Ep (K:=K)) (pv 0) Ah (λ_ _=>rfl)) (Aa (pv 1) Ab))) Ab)))))
   Aq)
  (Ac (AcJ (i:=2) (E':=E) O5 (λ_ _ z=>z) (CJ.mk (Bp:=[1]) (Nc:=["thing","known"]) U At At (Cg (sc0:=Ag QJ) U At) U rfl U At (λk j h=>match k,h with | 0,h=>by obtain rfl:=yI h;exact⟨_,U,U,U⟩|_+1,h=>by simp at h)) U VF.nd U rfl (BJ (K:=K) (Bq (Ep (K:=K)) (pv 0) Ah (λ_ _=>rfl))) (λ_ _ _ _ _=>.nil) (λ_ _ _ _ _=>(Oz (Fb (Bb (Afb (K:=K)) U T.Za V2 (Aa (pv 0) (Aa (Akl (v:=.ty "tuple") U T.Ars An0 U) Ab)))) (Aj (aa.mono (by exact Ar.i1)) X U T.Hu.m T.Hu.F.kp T.Hu.b .nil Ao2 (Aa (pv 0) (Aa (pv 1) Ab))) (pv 0))) U)
  (Ac (Bl (Ai Cj (Bq (Ep (K:=K)) (pv 0) Ah (λ_ _=>rfl)) Af (Av _))
   (Ad (Az (Ez T.AjO.m ((Zr T).mono (by exact Ar.d8 hk)) X U T.AtS T.S5.b .nil Cq (Aa (pv 2) Ab))))
   Aq)
  (Ac (Bl (Ai Cj (Bb (Ax (K:=K)) U T.Cd Bv (Aa (pv 2) Ab)) Ah (Av _))
   (Ad (Az (Aj ((AdD T).mono (by exact Ar.e2 hk)) X U T.Nq.m T.Nq.F.kp T.Nq.b .nil Ay (Aa (Bq (Ep (K:=K)) (pv 0) Ah (λ_ _=>rfl)) (Aa (Bq (Be (K:=K)) (pv 2) Ah (λ_ _=>rfl)) Ab)))))
   Aq)
  (Ac (Bl (Ai Cj (Bb (Ax (K:=K)) U T.Cd Bv (Aa (pv 2) Ab)) Ah (Av _))
   (Ad (Az (Aj ((Zv T).mono (by exact Ar.i2 hk)) X U T.J5.m T.J5.F.kp T.J5.b .nil Cq (Aa (Bq (Ep (K:=K)) (pv 0) Ah (λ_ _=>rfl)) (Aa (pv 2) Ab)))))
   Aq)
  (Ad (Az (Aj ((AbI T).mono (by exact Ar.i2 hk)) X U T.Nr.m T.Nr.F.kp T.Nr.b .nil Cq (Aa (Bq (Ep (K:=K)) (pv 0) Ah (λ_ _=>rfl)) (Aa (Bq (Be (K:=K)) (pv 2) Ah (λ_ _=>rfl)) (Aa (Bq (Be (K:=K)) (pv 2) Ah (λ_ _=>rfl)) Ab))))))))))),?_⟩;cases hv with
 |num=>cases W
 |run=>cases W
 |nam M =>
  rename_i z a;have S:atI [V.str (tx z),V.non] 0=some (.str (tx z)):=Bw Ap U;have a1:atI [V.str (tx z),V.non] 1=some .non:=Bw Ap U;rw[Agk,AjA]at k0;refine⟨_,U,_,_,_,_,U,U,SqT.of M,a1,U,_,U,I9 U ⟨_,U,_,_,_,_,U,U,SqT.of M,S,_,U,_,_,_,_,U,U,SqT.of M,S,_,U,z,kp,kn,U,hK,λxx q e hq=>?_,λe=>?_⟩⟩
  ·rw[e]at k0;exact λr dx C D ae=>⟨r,dx,q,xx,z,U,Ae,yW (FQ C D _ _ hq),Oc.make k0 Ir.1 C D⟩
  ·rw[e]at k0;exact k0 _ (.refl _)
 |node M hq hl hN =>
  rename_i z ts a q vs;have wl:=Ar9 W;have S:atI [V.str (tx z),V.ref q] 0=some (.str (tx z)):=Bw Ap U;have a1:atI [V.str (tx z),V.ref q] 1=some (.ref q):=Bw Ap U;refine⟨_,U,_,_,_,_,U,U,SqT.of M,a1,U,_,U,DQ (λz=>nomatch z) ⟨_,U,_,_,_,_,U,U,SqT.of M,a1,_,U,⟨_,yW hq⟩,CK (K:=K) (a:=q) (xs:=vs) (λi ys H2=>Aw H H2/\∃as,args (out kn d) (wr d) (ts.take i)=.inr as/\AiF t (nw H H2) as ys) ⟨.refl _,[],U,U,λi a v g=>by simp at g⟩ ?_ ?_ ?_ ?_⟩⟩
  ·rintro i ys H2 hi ⟨A,as,ea,R⟩;refine⟨yW (A _ _ hq),?_⟩;rw[R.1,AcG ea,Ayc];exact AyB _ _
  ·rw[hl];exact Cv wl.2.1
  ·rintro i xv ys H2 hi hx ⟨A,as,ea,R⟩;refine Iz.no ?_;have O:i<ts.length:=by rw[<-hl];exact hi
   have ex:=AxT O;have et:ts.take (i+1)=ts.take i++[ts[i]]:=by rw[Aya,ex];rfl
   have G:=hN i _ xv ex hx;have I:=Arm (d:=d) (z:=z) (Ayp O);have Y:Nsb d ts[i]:=NS.2 _ (Ayp O);generalize ts[i]=x at ex et G I Y;have sn:=Afk (x:=x) ea;rw[<-et]at sn;rcases Apc W ex with ⟨n,rfl⟩|⟨r,rfl⟩|Wx
   ·cases G;exact⟨_,U,_,_,false,.int _,.inl ⟨_,U,U⟩,_,U,GQ ⟨_,U,CN.of hi ⟨A,_,sn,R.snoc .num⟩⟩⟩
   ·cases G;exact⟨_,U,_,_,false,.str _,.inl ⟨_,U,U⟩,_,U,GQ ⟨_,U,CN.of hi ⟨A,_,sn,R.snoc .run⟩⟩⟩
   ·rw[Aou Wx]at sn;obtain⟨ra,ro,rfl,ac⟩:∃ra ro,xv=.ref ra/\H2 ra=some (.tup ro):=by
     cases G with
     |num=>cases Wx
     |run=>cases Wx
     |nam h=>exact⟨_,_,U,A _ _ h⟩
     |node h _ _ _=>exact⟨_,_,U,A _ _ h⟩
    refine⟨_,U,_,_,true,.tup ac,.inl ⟨_,U,AiC K "tuple"⟩,_,U,Kz ⟨_,U,_,U,x,.ref ra,kp,kn,U,Wx,Y,G.mono A,by exact Ar.b8 I hw,hK.same A,hC,?_⟩⟩;cases eo:out kn d x with
    |ok r =>
     rw[eo]at sn;intro p H3 s3 hp;have u3:=A.trans s3;exact CN.of hi ⟨u3,_,sn,(R.mono (AkY s3)).snoc (.cl (hp.mono (AkX A)))⟩
    |no f =>
     rw[eo]at sn;intro H3 s3;have en:args (out kn d) (wr d) ts=.inl f:=by
      have:=Ak6 (us:=ts.drop (i+1)) sn;rw[AyI]at this;exact this
     rw[AiG,en]at k0;exact k0 H3 (A.trans s3)
  ·rintro ys H2 l ⟨A,as,ea,R⟩ a6;rw[hl,Ayg]at ea;have F:=Aox (λW e=>Ak8 hC W e) W ea;have ew:=Ak5 ea;rw[AiG,ea]at k0;have ab:wr (d+1) (.node z ts)=wz z (as.map wrA):=by rw[ew];rfl
   rw[ab]at k0 hw;dsimp only at k0;have al:=AcG ea;have u3:Aw H (upd H2 l (.lst ys)):=A.new a6;have u:(upd H2 l (.lst ys)) l=some (.lst ys):=Ae;have y:AiF t (upd H2 l (.lst ys)) as ys:=(R.mono (AkY (.upd a6))).mono (λb o e=>(NQ e).2);have k3:=k0.same u3;generalize upd H2 l (.lst ys)=H3 at u3 u y k3 ⊢;have L:=u3 _ _ M;refine⟨_,U,_,_,_,_,U,U,SqT.of L,S,U,_,U,?_⟩;rw[AkS];by_cases c:z=Pat.Ge
   ·refine I9 (by rw[c]) ?_;obtain⟨rs,rfl,r1,r2,r3⟩:∃rs,as=rs.map Arg.run/\rs≠[]/\rs.length<=40/\∀r∈rs,r≠[]/\∀c∈r,Sg c:=by
     cases F with
     |rows h1 h2 h3=>exact⟨_,U,h1,h2,h3⟩
     |nums w _ _=>rcases w with rfl|rfl<;>exact yG c Ap
     |one w _=>rcases w with rfl|rfl|rfl|rfl<;>exact yG c Ap
     |two w _ _=>rcases w with rfl|rfl|rfl<;>exact yG c Ap
     |tile _ _ _=>exact yG c Ap
     |blk _ _ _=>exact yG c Ap
    have ey:ys=vS rs:=by
     apply Azj;intro i;unfold vS;rw[AxZ];cases e1:rs[i]? with
     |none =>
      have h1:=List.getElem?_eq_none_iff.mp e1;have h2:=y.1;rw[AxR]at h2;exact AyK (by exact Ar.b8 (Ar.d2 h2) h1)
     |some r =>
      have h1:=(zC.mp e1).1;have h2:=y.1;rw[AxR]at h2;have hy:i<ys.length:=by exact Ar.b3 h2 h1
      have:=y.2 i (.run r) ys[i] (by rw[AxZ,e1];rfl) (AxT hy);rw[AxT hy];generalize ys[i]=yv at this ⊢;cases this;rfl
    have Z:(rs.map Arg.run).map wrA=rs:=by rw[Ay7];exact AyP _
    have em:made z (rs.map Arg.run)=AcF rs:=by unfold made;rw[yF c,ZZ]
    rw[Z,c]at hw;rw[em,Z,c]at k3;refine⟨_,U,λr dx C D ae=>⟨r,dx,l,rs,U,Ae,yW (by rw[<-ey];exact FQ C D _ _ u),r1,r2,hw,Oc.make k3 Ir.2.1 C D⟩⟩
   refine DQ (SM c) ?_;have l3:=wl.2.2 c;rw[<-al,<-y.1]at l3;have l1:1<=ys.length:=by rw[y.1,al];exact wl.1
   refine⟨_,U,_,_,U,.inl (yW u),U,_,U,?_⟩;obtain⟨s,B⟩:=y;rcases ys with _|⟨J,_|⟨N,_|⟨v3,_|⟨v4,ys⟩⟩⟩⟩
   ·simp at l1
   ·obtain⟨b1,rfl⟩:∃b1,as=[b1]:=List.length_eq_one_iff.mp s.symm;refine I9 U ?_;have g1:=B 0 b1 J U rfl;have c0:atI [J] 0=some J:=Bw Ap U;obtain⟨x,zx,ww,rfl,Cx⟩:∃x zx,(z=miW\/z=upW\/z=baW\/z=quW)/\b1=.cl x zx/\Clo x:=by
     generalize has:[b1]=as at F;cases F with
     |rows h1 h2 h3=>exact yG U c
     |nums w h1 h2=>cases has
     |one w h1=>cases has;exact⟨_,_,w,U,h1⟩
     |two w h1 h2=>cases has
     |tile h1 h2 h3=>cases has
     |blk h1 h2 h3=>cases has
    obtain _|_|hp:=g1;have em:made z [.cl x zx]=Aj8 z x:=by unfold made;rw[yE c]
    rw[em]at k3;exact⟨_,U,_,_,_,_,U,U,SqT.of L,S,_,U,_,_,_,_,U,U,yW u,c0,z,zx,x,_,E,U,ww,hp,Cx,hw,k3⟩
   ·obtain⟨b1,b2,rfl⟩:∃b1 b2,as=[b1,b2]:=by
     rcases as with _|⟨b1,_|⟨b2,_|⟨b3,as⟩⟩⟩
     ·simp at s
     ·simp at s
     ·exact⟨b1,b2,U⟩
     ·simp at s
    refine DQ (by show ¬(V.int 2:V)=V.int 1;decide) ⟨_,U,_,_,U,.inl (yW u),U,_,U,DQ (by show ¬(V.int 2:V)=V.int 3;decide) ?_⟩;have c0:atI [J,N] 0=some J:=Bw Ap U;have c1:atI [J,N] 1=some N:=Bw Ap U;exact⟨_,U,_,_,_,_,U,U,SqT.of L,S,_,U,_,_,_,_,U,U,yW u,c0,_,U,_,_,_,_,U,U,yW u,c1,z,b1,b2,J,N,U,c,NS.1.1,F,B 0 b1 J U rfl,B 1 b2 N U rfl,hw,k3⟩
   ·obtain⟨b1,b2,b3,rfl⟩:∃b1 b2 b3,as=[b1,b2,b3]:=by
     rcases as with _|⟨b1,_|⟨b2,_|⟨b3,_|⟨b4,as⟩⟩⟩⟩
     ·simp at s
     ·simp at s
     ·simp at s
     ·exact⟨b1,b2,b3,U⟩
     ·simp at s
    exact DQ (by show ¬(V.int 3:V)=V.int 1;decide) ⟨_,U,_,_,U,.inl (yW u),U,_,U,I9 U ⟨_,U,_,_,_,_,U,U,SqT.of L,S,_,U,z,b1,b2,b3,J,N,v3,l,U,yW u,c,NS.1.2,F,B 0 b1 J U rfl,B 1 b2 N U rfl,B 2 b3 v3 U rfl,hw,k3⟩⟩
   ·simp at l3
theorem Af4(T:Txt K mg t):∀d,Bm P w K mg base (CX1 P w) (d+9) t.KR t.KY ["node","known"] (Apb t d)
 | 0=>⟨λ_ _ _ _ h=>(by obtain⟨x,v,kp,kn,_,W,_⟩:=h;cases W),λ_ _ _ _ _ _ _ _ _ _ _ _ _ h=>(by obtain⟨x,v,kp,kn,_,W,_⟩:=h;cases W)⟩
 |d+1=>AdE (k:=d+8) (by exact Ar.a4) T (Af4 T d)
def rdo (kn:Kns):Option Nd->Res×NV
 |none=>(.no .nop,[])
 |some x=>(out kn 12 x,wr 12 x)
def Pr (kn:Kns)(u:NV)(R:Res):Prop:=∃o,RdT u o/\(rdo kn o).1=R/\∀x,o=some x->Nsb 12 x
inductive ArA (t:Adr)(vs:LI)(H:Hp)(Q:VK)(E:XK):Prop
|mk(u:NV)(kp:Nn)(kn:Kns)(o:Option Nd)(_:vs=[.str (tx u),.ref kp])(_:u.length<=1000000)(_:Kn H kp kn)(_:(∀p∈kn,Clo p.2))(_:RdT u o)(_:(∀x,o=some x->Nsb 12 x))(_:Oc t H Q E (rdo kn o).1 (rdo kn o).2)
theorem Aat(T:Txt K mg t):Bm P w K mg base (CX1 P w) 31 t.Uq t.Ur ["text","known"] (ArA t):=by
 refine T.KZ.F.okX Ab5 ?_;rintro _ _ _ _ H _ Q E f ⟨u,kp,kn,o,rfl,c,j,i,d,l,k⟩;refine⟨_,(Ad (Az (Aj ((Af4 T 12).mono Ap) f U T.Hu.m T.Hu.F.kp T.Hu.b .nil Cq (Aa (Aj ((Ad8 T).mono Ap) f U T.QQ.m T.QQ.F.kp T.QQ.b .nil Cq (Aa (pv 0) Ab)) (Aa (pv 1) Ab))))),_,U,u,o,U,c,d,λx v H1 e a n=>?_,λe H1 a=>?_⟩
 ·subst e;cases d with
  |ok W h=>exact⟨_,U,x,v,kp,kn,U,W,l x U,n.mono (λb o e=>(NQ e).2),Ayh (AoO W u h).1 c,j.same a,i,k.same a⟩
 ·subst e;exact k H1 a
theorem Af5(h:n<=6000):n<sizeLine:=Azi h Ap
theorem Apd(l:NV):stp Ai6 l=Hy l:=by
 unfold stp Hy
 congr 1
 funext c
 unfold dg;exact z5.mpr Ad3
inductive Aka (t:Adr)(vs:LI)(H:Hp)(Q:VK)(z3:XK):Prop
|mk(r:_)(dx:_)(u:_)(p:_)(_:vs=[.ref r])(_:Rd t H r dx u p)(_:Q (AgD (Hy (u.drop p))) (upd H r (.ins t.Bg dx (rf u (p+(Hy (u.drop p)).length)))))
theorem Zw(T:Txt K mg t):Bm P w K mg base CX0 3 t.Ke t.Kf ["self"] (Aka t):=(Qy T).imp λvs H Q E ⟨r,dx,u,p,h1,h2,h3⟩=>⟨r,dx,u,p,h1,h2,by rw[Apd];exact h3⟩
theorem fits{z:Int}(h:z.natAbs<=1000000):Builtin.Range.rangeFitsLong z=true:=by unfold Builtin.Range.rangeFitsLong;simp only [AyM,decide_eq_true_eq];lia
inductive Ape (vs:LI)(H:Hp)(Q:VK)(z3:XK):Prop
|mk(a:Int)(b:Int)(_:vs=[.int a,.int b])(_:a.natAbs<=400)(_:b.natAbs<=400)(_:∀l H',Aw H H'->H l=none->H' l=some (.lst (vI (Vr a b)))->Q (.ref l) H')
theorem Aau(T:Txt K mg t):Bm P w K mg base CX0 1 t.RJ t.RK ["start","stop"] Ape:=by
 refine T.J3.F.ok Aad ?_;rintro _ _ _ _ H _ Q E f ⟨a,b,rfl,h,e,k⟩;refine⟨_,(Ac (Bl (Ai Hf (pv 0) (pv 1) (Av _))
   (Ad (Az (BR Ac1 U T.Jq Hk (Aa (BR AlQ U T.Es AhB (Aa (Ak Em (pv 0) Ah) (Aa (Ak Em (pv 1) Ah) Ab))) Ab))))
   Aq)
  (Ad (Az (BR Ac1 U T.Jq Hk (Aa (BR AlR U T.Es AhB (Aa (Ak Q7 (pv 0) Ah) (Aa (Ak Q7 (pv 1) Ah) (Aa (Akm AfH Ah) Ab)))) Ab))))),?_⟩;refine⟨_,U,_,U,_,_,U,U,_,U,CP (λc1=>?_) (λc1=>?_)⟩
 ·refine⟨_,U,_,_,U,U,_,U,_,_,U,U,_,_,U,λp c=>?_⟩;have rs:Builtin.Range.rangeSize (a+1) (b+1) 1=((b-a).toNat:Int):=by
   unfold Builtin.Range.rangeSize;grind
  refine⟨p,a+1,b+1,1,(b-a).toNat,U,Ae,?_,rs,AA,λl d=>?_⟩
  ·unfold Builtin.Range.small;rw[rs,fits AA,fits AA,fits (by exact Ar.a4),fits AA];simp only [show(1:Int)>0 by decide,Bool.true_and,Bool.or_eq_true];exact .inr (fits AA)
  ·have:Vr a b=Ab1 (a+1) 1 (b-a).toNat:=yF c1;rw[<-this];exact k l _ ((Aw.upd c).new d) ((Aw.upd c).free d) Ae
 ·refine⟨_,U,_,_,U,U,_,U,_,_,U,U,_,U,_,_,_,U,Ap,Ap,λp c=>?_⟩;have rs:Builtin.Range.rangeSize (a-1) (b-1) (-1)=((a-b).toNat:Int):=by
   unfold Builtin.Range.rangeSize;grind
  refine⟨p,a-1,b-1,-1,(a-b).toNat,U,Ae,?_,rs,AA,λl d=>?_⟩
  ·unfold Builtin.Range.small;rw[rs,fits AA,fits AA,fits Ap,fits AA];simp only [show ¬((-1:Int)>0) by decide,Bool.true_and,Bool.or_eq_true];exact .inr (fits AA)
  ·have:Vr a b=Ab1 (a-1) (-1) (a-b).toNat:=yE c1;rw[<-this];exact k l _ ((Aw.upd c).new d) ((Aw.upd c).free d) Ae
def pfR (l:Nn):List (Str×V):=[("stops",.ref l)]
theorem AdF(l:Nn):(pfR l).lookup ("stops":Str)=some (V.ref l):=rfl
theorem Aav(T:Txt K mg t):Bm P w K mg base CX0 1 t.Kg t.R8 ["self","stops"] (λvs H Q E=>∃(r dx l:Nn),vs=[.ref r,.ref l]/\H r=some (.ins t.HX dx [])/\Q .non (upd H r (.ins t.HX dx (pfR l)))):=by refine T.Hn.F.ok Aah (len:=λ_ _ _ _ h=>by obtain⟨_,_,_,e,_⟩:=h;subst e;rfl) ?_;rintro _ _ _ _ H _ Q E a ⟨r,dx,l,rfl,h1,k⟩;exact⟨_,(Ad (HJ (pv 0) (pv 1))),_,U,_,U,_,_,_,_,U,h1,T.QX.c,T.Gi,Ap,k⟩
def dst (ss:NF)(k:Nat):Int:=Agh (ss.getD (k+1) 0-ss.getD k 0)
def AdG (ss:NF)(k:Nat):Int:=1+((List.range k).map (dst ss)).sum
theorem Aaw(ss:NF)(k:Nat):AdG ss (k+1)=AdG ss k+dst ss k:=by unfold AdG;rw[Ay8];simp;lia
theorem Apf{i:Int}(a:0<=i)(h:i.toNat<ks.length):atI (vI ks) i=some (.int (ks.getD i.toNat 0)):=Bw a (by
 rw[JW (AxT h)];simp[List.getD,h])
structure IsP (t:Adr)(H:Hp)(a dx l:Nn)(ss:NF):Prop where
 o:H a=some (.ins t.HX dx (pfR l))
 l:H l=some (.lst (vI ss))
 ne:1<=ss.length
 le:ss.length<=6000
inductive Apg (t:Adr)(vs:LI)(H:Hp)(Q:VK)(z3:XK):Prop
|mk(a:Nn)(dx:Nn)(l:Nn)(ss:NF)(_:vs=[.ref a])(_:IsP t H a dx l ss)(_:Q (.int (AdG ss (ss.length-1))) H)
theorem AgP(T:Txt K mg t):Bm P w K mg base CX0 1 t.AaR t.AaS ["self"] (Apg t):=by
 refine T.U4.F.ok K6 ?_;rintro _ _ _ _ H _ Q E h ⟨a,dx,l,ss,rfl,b,k⟩;have f:=b.ne;have e:=b.le;refine⟨_,(Ac (Bd (i:=1) K6.nd U NN Ah)
  (Ac (DP yJ U (Al5 U T.Es (Aa Ah (Aa (Bb (Ax) U T.Cd Bv (Aa (Dt (K:=K) (pv 0) U) Ab)) Ab))) (Bs (i:=2) K6.nd U NN)
   (Ad (AsJ (i:=1) K6.nd U NN (Bb Ani U T.AvL Atj (Aa (Ak Q7 (Bq (Be (K:=K)) (Dt (K:=K) (pv 0) U) (pv 2) (λ_ _=>rfl)) (Bq (Be (K:=K)) (Dt (K:=K) (pv 0) U) (Ak Q7 (pv 2) Ah) (λ_ _=>rfl))) Ab)) AsK)))
  (Ad (Az (pv 1))))),?_⟩;refine⟨_,U,_,_,_,_,_,U,b.o,T.QX.c,T.Gi,AdF l,_,_,U,.inl (yW b.l),_,_,U,⟨Ap,Ap,AD,by rw[Cp];exact Ar.a8 e⟩,?_⟩;rw[Cp];refine GK (λi σ H2=>∃v,σ=[some (.ref a),some (.int (AdG ss i)),v]/\H2=H) ⟨none,U,U⟩ ?_ ?_
 ·rintro i σ H2 hi ⟨v,rfl,rfl⟩;have d:=Apf (ks:=ss) (i:=1+(i:Int)) (by exact Ar.a9) AA;have e2:=Apf (ks:=ss) (i:=1+(i:Int)-1) (by exact Ar.i8) AA;rw[show(1+(i:Int)).toNat=i+1 by lia]at d;rw[show(1+(i:Int)-1).toNat=i by exact Ar.i7]at e2;exact⟨_,U,_,U,_,_,_,_,_,U,b.o,T.QX.c,T.Gi,AdF l,_,U,_,_,_,_,U,U,yW b.l,d,_,U,_,_,_,_,_,U,b.o,T.QX.c,T.Gi,AdF l,_,U,_,_,U,U,_,_,_,_,U,U,yW b.l,e2,_,_,U,U,_,U,_,_,U,U,some (.int (1+(i:Int))),by rw[Aaw];rfl,U⟩
 ·rintro σ H2 ⟨v,rfl,rfl⟩;refine⟨_,U,?_⟩;grind
theorem Ah5{z:Int}(h:ks.getLast?=some z):atI (vI ks) (-1)=some (.int z):=by
 have b:0<ks.length:=by
  cases ks with
  |nil=>cases h
  |cons a l=>exact Nat.succ_pos _
 rw[List.getLast?_eq_getElem?]at h;unfold atI ixN;rw[yE Ap,Cp];rw[yF AA];rw[Option.bind_some]
 first
  |simp_all
  | (rw[show(-1+(ks.length:Int)).toNat=ks.length-1 by lia];exact JW h)
theorem Aph:∀(ss:NF)(i:Nat),i+1<=ss.length->((Aig (ss.take (i+1))).length:Int)=AdG ss i:=by
 intro ss i
 induction i with
 |zero =>
  intro h;cases ss with
  |nil=>simp at h
  |cons s r=>simp[Aig,go,AdG]
 |succ i f =>
  intro h;have c:i+1<ss.length:=by exact Ar.j4 h
  have e:=f (by exact Ar.c3 h);rw[Aaw,<-e];cases ss with
  |nil=>simp at h
  |cons s r =>
   have a:i<r.length:=AC
   rw[AyG,AyG,Aya,AxT a];show((Aig (s::(r.take i++[r[i]]))).length:Int)=_;rw[Aig,AbX,Aig,AxX,AxS,AxX];have d:((Vr (lst s (r.take i)) r[i]).length:Int)=dst (s::r) i:=by
    rw[AcC];unfold dst;have l:(s::r).getD (i+1) 0=r[i]:=by simp[List.getD,a]
    have e2:(s::r).getD i 0=lst s (r.take i):=by
     cases i with
     |zero=>simp[lst]
     |succ j =>
      have b:j<r.length:=by exact Ar.c3 a
      rw[Aya,AxT b];show _=lst s (r.take j++[r[j]]);rw[lst_snoc];simp[List.getD,b]
    rw[l,e2]
   lia
theorem AmD(ss:NF):∀{i j:Nat},i<=j->AdG ss i<=AdG ss j:=by
 intro i j h
 induction h with
 |refl=>exact Int.le_refl _
 | @step m _ a =>
  have:0<=dst ss m:=by unfold dst Agh;split<;>lia
  have e:=Aaw ss m;grind
inductive ArB (t:Adr)(vs:LI)(H:Hp)(Q:VK)(z3:XK):Prop
|mk(a:Nn)(dx:Nn)(l:Nn)(ss:NF)(_:vs=[.ref a])(_:IsP t H a dx l ss)(_:AdG ss (ss.length-1)<=400)(_:(∀s∈ss,s.natAbs<=400))(_:∀q H',Aw H H'->H q=none->H' q=some (.lst (vI (Aig ss)))->Q (.ref q) H')
theorem AbJ(T:Txt K mg t):Bm P w K mg base CX0 2 t.Ug t.Uh ["self"] (ArB t):=by
 refine T.Mz.F.ok Ka ?_;rintro _ _ _ _ H _ Q E hr ⟨a,dx,l,ss,rfl,s,a0,A,k⟩;have X:=s.ne;have hsz:=z7;refine⟨_,(Ac (Bd (i:=1) Ka.nd U NN (Cm (Aa (Bq (Be (K:=K)) (Dt (K:=K) (pv 0) U) Ah (λ_ _=>rfl)) Ab)))
  (Ac (DP yJ U (BJ (K:=K) (Gq (Xv (K:=K)) (Dt (K:=K) (pv 0) U) (GP Ah) Ky)) (Bs (i:=2) Ka.nd U NN)
   (Ad (Bj (Bx (K:=K) zM F.slot_list_extend F.type_list_extend AeU (pv 1) (Aa (Aj ((Aau T).mono Ap) hr U T.J3.m T.J3.F.kp T.J3.b .nil Ay (Aa (Bq (Be (K:=K)) (pv 1) (Akm AfH Ah) (λ_ _=>rfl)) (Aa (pv 2) Ab))) Ab)))))
  (Ad (Az (pv 1))))),?_⟩;obtain⟨d,r,rfl⟩:∃d r,ss=d::r:=by
  cases ss with
  |nil=>simp at X
  |cons d r=>exact⟨d,r,U⟩
 refine⟨_,U,_,_,_,_,_,U,s.o,T.QX.c,T.Gi,AdF l,_,_,_,_,U,U,yW s.l,Bw Ap U,(by show 1<=sizeLine;decide),λq G=>?_⟩;have D:Aw H (upd H q (.lst [.int d])):=.upd G;refine⟨_,U,_,_,_,_,_,U,D _ _ s.o,T.QX.c,T.Gi,AdF l,_,U,_,_,U,yW (D _ _ s.l),λp L=>?_⟩;have S:ZK (vI (d::r)) (some 1) none=vI r:=by
  unfold ZK;have W:HT.sIx (vI (d::r)).length 0 (some 1)=1:=by
   show HT.sIx (vI (d::r)).length 0 (some ((1:Nat):Int))=1;rw[HT.Kw,Cp];exact Ar.f1
  rw[W,HT.Ti,Cp,AxX];show(vI r).take _=vI r;rw[Ayy (by rw[Cp];exact Ar.i1)]
 rw[S];have R:Aw H (upd (upd H q (.lst [.int d])) p (.lst (vI r))):=D.new L;have h:=Bf (Ae) L;refine⟨_,U,⟨_,yW Ae⟩,?_⟩;refine Ff (λi σ H2=>∃v,σ=[some (.ref a),some (.ref q),v]/\Aw H H2/\H2 p=some (.lst (vI r))/\H2 q=some (.lst (vI (d::go d (r.take i)))))
  ⟨none,U,R,Ae,by rw[Ao h,Ae];rfl⟩ (λi σ H2 _ ⟨_,_,_,e,_⟩=>yW e) ?_ ?_
 ·rintro i xv σ H2 O ⟨v,rfl,C,n,f⟩;obtain⟨z,y,rfl⟩:=Ln O;have x:=(zC.mp y).1;have Y:=A z (AxY _ (Ayb y));have bl:(lst d (r.take i)).natAbs<=400:=by
   cases i with
   |zero=>exact A d AxW
   |succ j =>
    have J:j<r.length:=by exact Ar.c3 x
    rw[Aya,AxT J];show(lst d (r.take j++[r[j]])).natAbs<=400;rw[lst_snoc];exact A _ (AxY _ (Ayp J))
  have u:=Aph (d::r) (i+1) AD;have a6:=AmD (d::r) (i:=i+1) (j:=(d::r).length-1) (by simp;exact Ar.j4 x);have M:(d::r).take (i+1+1)=d::(r.take i++[z]):=by rw[AyG,Aya,y];rfl
  rw[M,Aig,AbX,AxX,AxS]at u;refine⟨_,U,.inl ⟨U,_,yW f⟩,_,U,_,U,_,_,_,_,U,U,yW f,Ah5 (Amn d (r.take i)),_,U,lst d (r.take i),z,U,bl,Y,λZ H3 B N I=>⟨q,Z,_,_,U,U,B _ _ f,I,(by rw[Cp,Cp,AxX];lia),?_⟩⟩;have np:=h.symm;refine⟨_,U,(C.trans B).over G,by rw[Ao np];exact B _ _ n,?_⟩;rw[Ae,Aya,y];show some (HO.lst (vI (d::go d (r.take i))++vI (Vr (lst d (r.take i)) z)))=some (HO.lst (vI (d::go d (r.take i++[z]))));rw[AbX];unfold vI;rw[<-AxV];rfl
 ·rintro σ H2 ⟨v,rfl,C,n,f⟩;refine⟨_,U,k q H2 C G ?_⟩;rw[f,Cp,Ayg];rfl
end
inductive It where
 |pth (ss:NF)
 |tms (n:Nat) (xs:List It)
def psz (ss:NF):Int:=AdG ss (ss.length-1)
mutual
noncomputable def It.sz:It->Int
 | .pth ss=>psz ss
 | .tms n xs=>(n:Int)*szs xs
noncomputable def szs:List It->Int
 |[]=>0
 |x::xs=>x.sz+szs xs
end
theorem Rg:∀xs:List It,szs xs=(xs.map It.sz).sum
 |[]=>by simp[szs]
 |x::xs=>by simp only [szs,Ayd,Ay6];rw[Rg xs]
mutual
noncomputable def It.nu:It->NF
 | .pth ss=>Aig ss
 | .tms n xs=>(List.replicate n (nus xs)).flatten
noncomputable def nus:List It->NF
 |[]=>[]
 |x::xs=>x.nu++nus xs
end
theorem AgQ:∀xs:List It,nus xs=(xs.map It.nu).flatten
 |[]=>by simp[nus]
 |x::xs=>by simp only [nus,Ayd,Ayv];rw[AgQ xs]
section
variable {K:NO}{base:Heap}{t:Adr}
def AtP (t:Adr)(H:Hp)(a:Nn)(ss:NF):Prop:=∃dx l,IsP t H a dx l ss
theorem AtP.same(h:AtP t H a ss)(s:Aw H H'):AtP t H' a ss:=
 let ⟨dx,l,p⟩:=h
 ⟨dx,l,s _ _ p.o,s _ _ p.l,p.ne,p.le⟩
def tf (n:Nat)(l:Nn):List (Str×V):=[("count",.int (n:Int)),("inner",.ref l)]
theorem AiH(n:Nat)(l:Nn):(tf n l).lookup ("count":Str)=some (V.int (n:Int)):=rfl
theorem AiI(n:Nat)(l:Nn):(tf n l).lookup ("inner":Str)=some (V.ref l):=rfl
def AtI (t:Adr)(H:Hp):Nat->Nn->It->Prop
 |_,a,.pth ss=>AtP t H a ss
 | 0,_,.tms _ _=>False
 |d+1,a,.tms n xs=>∃(dx li:Nn)(rs:NW),H a=some (.ins t.Ed dx (tf n li))/\H li=some (.lst (rs.map V.ref))/\n<=99/\rs.length=xs.length/\rs.length<=6000 /\
   ∀(i:Nat) r x,rs[i]?=some r->xs[i]?=some x->AtI t H d r x
theorem AtI.same{H H':Hp}(s:Aw H H'):∀(d:Nat)(a:Nn)(x:It),AtI t H d a x->AtI t H' d a x
 | 0,_,.pth _,h=>AtP.same h s
 | 0,_,.tms _ _,h=>h.elim
 |d+1,_,.pth _,h=>AtP.same h s
 |d+1,_,.tms n xs,h=>by
  obtain⟨dx,li,rs,h1,h2,e,h3,b,f⟩:=h;exact⟨dx,li,rs,s _ _ h1,s _ _ h2,e,h3,b,λi r x c e2=>AtI.same s d r x (f i r x c e2)⟩
structure AiJ (t:Adr)(H:Hp)(d:Nat)(rs:NW)(xs:List It):Prop where
 len:rs.length=xs.length
 le:rs.length<=6000
 at_:∀(i:Nat) r x,rs[i]?=some r->xs[i]?=some x->AtI t H d r x
theorem AiJ.same(h:AiJ t H d rs xs)(s:Aw H H'):AiJ t H' d rs xs:=⟨h.len,h.le,λi r x a e2=>AtI.same s d r x (h.at_ i r x a e2)⟩
inductive Akb (t:Adr)(d:Nat)(vs:LI)(H:Hp)(Q:VK)(z3:XK):Prop
|mk(li:Nn)(rs:NW)(xs:List It)(_:vs=[.ref li])(_:H li=some (.lst (rs.map V.ref)))(_:AiJ t H d rs xs)(_:∀H',Aw H H'->Q (.int (szs xs)) H')
def Akc (t:Adr):Nat->Sp
 | 0=>λ_ _ _ _=>False
 |d+1=>λvs H Q _=>∃(a dx li:Nn)(n:Nat)(rs:NW)(xs:List It),vs=[.ref a]/\H a=some (.ins t.Ed dx (tf n li))/\H li=some (.lst (rs.map V.ref))/\n<=99/\AiJ t H d rs xs/\∀H',Aw H H'->Q (.int ((n:Int)*szs xs)) H'
theorem AdH(T:Txt K mg t):Bm P w K mg base CX0 1 t.K7 t.K8 ["self"] (Akc t 0):=
 ⟨λ_ _ _ _ h=>h.elim,λ_ _ _ _ _ _ _ _ _ _ _ _ _ h=>h.elim⟩
theorem AeA{k:Nat}(T:Txt K mg t)(e:Bm P w K mg base CX0 k t.K9 t.KC ["row_items"] (Akb t d)) :
  Bm P w K mg base CX0 (k+1) t.K7 t.K8 ["self"] (Akc t (d+1)):=by
 refine T.QZ.F.ok Aeh (λ_ _ _ _ H vs Q E l h=>?_) (len:=λvs H Q E h=>by obtain⟨a,dx,li,n,rs,xs,rfl,_⟩:=h;rfl);obtain⟨a,dx,li,n,rs,xs,rfl,f,j,hn,o,k⟩:=h;exact⟨_,(Ad (Az (Ak Q8 (Dt (K:=K) (pv 0) U) (Aj (e.mono (by exact Ar.i1)) l U T.Ht.m T.Ht.F.kp T.Ht.b .nil Ay (Aa (Dt (K:=K) (pv 0) U) Ab))))),_,U,_,_,_,_,_,U,f,T.J9.c,T.Mw,AiH n li,_,U,_,_,_,_,_,U,f,T.J9.c,T.Mx,AiI n li,li,rs,xs,U,j,o,λH1 i=>⟨_,_,U,U,.inl ⟨AA,AA⟩,k H1 i⟩⟩
theorem Wz{k:Nat}(hk:1<=k)(T:Txt K mg t)(v:Bm P w K mg base CX0 k t.K7 t.K8 ["self"] (Akc t d)) :
  Bm P w K mg base CX0 (k+1) t.K9 t.KC ["row_items"] (Akb t d):=by
 refine T.Ht.F.ok Aec ?_;rintro _ _ _ _ H _ Q E G ⟨li,rs,xs,rfl,D,s,N⟩;have A:=s.len;have R:=s.le;have hsz:=z7;refine⟨_,(Ad (Az (Bb (AlT (K:=K)) U T.AvO Atk (Aa (CV (CJ.mk (Bp:=[]) (Nc:=["item"]) U At At (Cg (sc0:=Ag QG) U At) U rfl U At (λ_ _ h=>by simp at h)) U (BJ (K:=K) (pv 0)) (λ_ _ _ _ _=>.nil) (λ_ _ _ _ _=>(Ain (pv 0) T.QX.c T.U4.m ((AgP T).mono (by exact Ar.c5 hk)) G T.U4.b Ay T.J9.c T.QZ.m (v.mono (by exact Ar.i1)) G T.QZ.b Ay))) Ab)))),_,U,_,U,⟨_,yW D⟩,CK (xs:=rs.map V.ref) (λi ys H2=>Aw H H2/\ys=vI ((xs.take i).map It.sz)) ⟨.refl _,U⟩ ?_ ?_ ?_ ?_⟩
 ·rintro i ys H2 hi ⟨a,rfl⟩;refine⟨yW (a _ _ D),?_⟩;rw[Cp,AxR,Ayc];exact Ar.k7
 ·grind
 ·rintro i x ys H2 hi B ⟨a,rfl⟩;rw[AxR]at hi;have e:i<xs.length:=by exact Ar.b2 A hi
  rw[AxZ,AxT hi]at B;cases B;have j:=AtI.same a d _ _ (s.at_ i _ _ (AxT hi) (AxT e));have fin:∀H3,Aw H2 H3->∀z:Int,z=(xs[i]).sz->CN (rs.map V.ref).length (λi ys H2=>Aw H H2/\ys=vI ((xs.take i).map It.sz)) i (vI ((xs.take i).map It.sz)++[.int z]) H3:=λH3 u z M=>by
   refine CN.of (by rw[AxR];exact hi) ⟨a.trans u,?_⟩;rw[M,Ajt,Aya,AxT e,AxV];rfl
  generalize f:xs[i]=x at j;cases x with
  |pth ss =>
   have r:AtP t H2 rs[i] ss:=by cases d<;>exact j
   obtain⟨dx,l,y⟩:=r;exact⟨_,U,_,dx,pfR l,U,U,.inl ⟨y.o,_,dx,l,_,U,y,fin H2 (.refl _) _ (by rw[f];rfl)⟩⟩
  |tms n ys =>
   cases d with
   |zero=>exact j.elim
   |succ d =>
    obtain⟨dx,C,q,h1,h2,J,h3,I,L⟩:=j;exact⟨_,U,_,dx,tf n C,U,U,.inr ⟨h1,_,dx,C,n,q,ys,U,h1,h2,J,⟨h3,I,L⟩,λH3 u=>fin H3 u _ (by rw[f];simp only [It.sz])⟩⟩
 ·rintro ys H2 p ⟨a,rfl⟩ O;rw[AxR,A,Ayg];refine⟨_,_,U,yW Ae,?_⟩;rw[<-Rg];exact N _ (a.new O)
theorem Api(T:Txt K mg t):∀d:Nat,Bm P w K mg base CX0 (2*d+2) t.K9 t.KC ["row_items"] (Akb t d)
 | 0=>Wz (AxU 1) T (AdH T)
 |d+1=>Wz (by exact Ar.a4) T (AeA T (Api T d))
end
mutual
noncomputable def It.Sm:It->Prop
 | .pth ss=>1<=ss.length/\∀s∈ss,s.natAbs<=400
 | .tms n xs=>1<=n/\Sms xs
noncomputable def Sms:List It->Prop
 |[]=>True
 |x::xs=>x.Sm/\Sms xs
end
theorem Sms.of_get:∀{xs:List It} {i:Nat} {x:It},Sms xs->xs[i]?=some x->x.Sm
 |[],i,x,_,e=>by simp at e
 |y::xs,0,x,h,e=>by
  simp at e;rw[<-e];exact h.1
 |y::xs,i+1,x,h,e=>by
  exact Sms.of_get h.2 (by simpa using e)
mutual
theorem It.Apj:∀x:It,x.Sm->(x.nu.length:Int)=x.sz
 | .pth ss,h=>by
  simp only [It.Sm]at h;simp only [It.nu,It.sz];have:=Aph ss (ss.length-1) (by exact Ar.c9 h.1);rw[show ss.length-1+1=ss.length by exact Ar.c7 h.1,Ayg]at this;exact this
 | .tms n xs,h=>by
  simp only [It.Sm]at h;simp only [It.nu,It.sz];rw[len_rep,Int.natCast_mul,Zx xs h.2]
theorem Zx:∀xs:List It,Sms xs->((nus xs).length:Int)=szs xs
 |[],_=>by simp[nus,szs]
 |x::xs,h=>by
  simp only [Sms]at h;simp only [nus,szs];rw[AxS,Int.natCast_add,It.Apj x h.1,Zx xs h.2]
end
theorem Sms.nn(h:Sms xs):0<=szs xs:=by rw[<-Zx xs h];exact Ar.a9
theorem Apk(xs:List It)(x:It):nus (xs++[x])=nus xs++x.nu:=by rw[AgQ,AgQ,AxV,List.flatten_append];simp
theorem Apl(xs:List It)(x:It):szs (xs++[x])=szs xs+x.sz:=by rw[Rg,Rg,AxV,List.sum_append];simp
theorem ArC(xs ys:List It):szs (xs++ys)=szs xs+szs ys:=by rw[Rg,Rg,Rg,AxV,List.sum_append]
theorem Sms.app:∀{xs ys:List It},Sms (xs++ys)->Sms xs/\Sms ys
 |[],ys,h=>⟨by simp only [Sms],h⟩
 |x::xs,ys,h=>by
  rw[Ay9]at h;have:= Sms.app h.2;exact⟨by exact⟨h.1,this.1⟩,this.2⟩
theorem AkZ(h:Sms xs)(i:Nat):szs (xs.take i)<=szs xs/\0<=szs (xs.take i):=by
 have e:=(AyI i xs).symm;have h':=h;rw[e]at h';have a:=Sms.app h';have e2:szs xs=szs (xs.take i)+szs (xs.drop i):=by rw[<-ArC,AyI]
 have n1:=a.1.nn;have n2:=a.2.nn;lia
section
variable {K:NO}{base:Heap}{t:Adr}
inductive Akd (t:Adr)(d:Nat)(vs:LI)(H:Hp)(Q:VK)(z3:XK):Prop
|mk(li:Nn)(rs:NW)(xs:List It)(_:vs=[.ref li])(_:H li=some (.lst (rs.map V.ref)))(_:AiJ t H d rs xs)(_:Sms xs)(_:szs xs<=400)(_:∀q H',Aw H H'->H q=none->H' q=some (.lst (vI (nus xs)))->Q (.ref q) H')
def Ake (t:Adr):Nat->Sp
 | 0=>λ_ _ _ _=>False
 |d+1=>λvs H Q _=>∃(a dx li:Nn)(n:Nat)(rs:NW)(xs:List It),vs=[.ref a]/\H a=some (.ins t.Ed dx (tf n li))/\H li=some (.lst (rs.map V.ref))/\n<=99/\AiJ t H d rs xs/\(It.tms n xs).Sm/\(It.tms n xs).sz<=400 /\
   ∀q H',Aw H H'->H q=none->H' q=some (.lst (vI (It.tms n xs).nu))->Q (.ref q) H'
theorem Aue(n:Nat)(l:NF):(List.replicate n (vI l)).flatten=vI (List.replicate n l).flatten:=by
 induction n with
 |zero=>rfl
 |succ n a =>
  rw[Ayz,Ayz,Ayv,Ayv,a];unfold vI;rw[AxV]
theorem Zy(T:Txt K mg t):Bm P w K mg base CX0 1 t.Hl t.Hm ["self"] (Ake t 0):=
 ⟨λ_ _ _ _ h=>h.elim,λ_ _ _ _ _ _ _ _ _ _ _ _ _ h=>h.elim⟩
theorem Aax{k:Nat}(T:Txt K mg t)(i:Bm P w K mg base CX0 k t.Jz t.J0 ["row_items"] (Akd t d)) :
  Bm P w K mg base CX0 (k+1) t.Hl t.Hm ["self"] (Ake t (d+1)):=by
 refine T.Ko.F.ok Aai (λ_ _ _ _ H vs Q E x h=>?_) (len:=λvs H Q E h=>by obtain⟨a,dx,li,n,rs,xs,rfl,_⟩:=h;rfl);obtain⟨a,dx,li,n,rs,xs,rfl,j,v,hn,s,e,r,k⟩:=h;have hsz:=z7;simp only [It.Sm]at e;simp only [It.sz]at r;have nn:=e.2.nn;have o:szs xs<=400:=by
  have:szs xs<=(n:Int)*szs xs:=by
   have h1:=AzO (show(1:Int)<=(n:Int) by lia) nn;lia
  lia
 have len:=Zx xs e.2;refine⟨_,(Ad (Az (Ak AfO (Aj (i.mono AA) x U T.Gy.m T.Gy.F.kp T.Gy.b .nil Ay (Aa (Dt (K:=K) (pv 0) U) Ab)) (Dt (K:=K) (pv 0) U)))),_,U,_,_,_,_,_,U,j,T.J9.c,T.Mx,AiI n li,li,rs,xs,U,v,s,e.2,o,λq H1 f y u=>⟨_,U,_,_,_,_,_,U,f _ _ j,T.J9.c,T.Mw,AiH n li,q,(n:Int),vI (nus xs),U,U,u,AA,AA,?_,λp l=>?_⟩⟩
 ·rw[Cp,Ayi];grind
 ·refine k p _ (f.new l) (f.free l) ?_;rw[Ae,Ayi,Aue];simp only [It.nu]
theorem U7{k:Nat}(hk:2<=k)(T:Txt K mg t)(C:Bm P w K mg base CX0 k t.Hl t.Hm ["self"] (Ake t d)) :
  Bm P w K mg base CX0 (k+1) t.Jz t.J0 ["row_items"] (Akd t d):=by
 refine T.Gy.F.ok Ly ?_;rintro _ _ _ _ H _ Q E Y ⟨li,rs,xs,rfl,X,R,u,h4,kk⟩;have O:=R.len;have hsz:=z7;refine⟨_,(Ac (Bd (i:=1) Ly.nd U NN (Cm Ab))
  (Ac (DP yJ U (BJ (K:=K) (pv 0)) (Bs (i:=2) Ly.nd U NN)
   (Ad (Bj (Bx (K:=K) zM F.slot_list_extend F.type_list_extend AeU (pv 1) (Aa (Ain (pv 2) T.QX.c T.Mz.m ((AbJ T).mono (by exact Ar.d8 hk)) Y T.Mz.b Ay T.J9.c T.Ko.m (C.mono (by exact Ar.i1)) Y T.Ko.b Ay) Ab)))))
  (Ad (Az (pv 1))))),?_⟩;refine⟨Ayf _,λq M=>?_⟩;have W:Aw H (upd H q (.lst [])):=.upd M;refine⟨_,U,_,U,⟨_,yW (W _ _ X)⟩,?_⟩;refine Ff (λi σ H2=>∃v,σ=[some (.ref li),some (.ref q),v]/\Aw H H2/\H2 q=some (.lst (vI (nus (xs.take i)))))
  ⟨none,U,W,by rw[Ae];simp[nus,vI]⟩ (λi σ H2 _ ⟨_,_,h,_⟩=>yW (h _ _ X)) ?_ ?_
 ·rintro i x σ H2 D ⟨v,rfl,h,a⟩;have hi:i<rs.length:=by
   have:= (zC.mp D).1
   rwa [AxR]at this
  have r:i<xs.length:=by exact Ar.b2 O hi
  rw[AxZ,AxT hi]at D;cases D;have y:=u.of_get (AxT r);have z:=AtI.same h d _ _ (R.at_ i _ _ (AxT hi) (AxT r));have e6:(xs.take (i+1))=xs.take i++[xs[i]]:=AC
  have p1:=AkZ u (i+1);have p0:=AkZ u i;have e7:szs (xs.take (i+1))=szs (xs.take i)+(xs[i]).sz:=by rw[e6,Apl]
  have L:(xs[i]).sz<=400:=AA
  have l1:=(xs[i]).Apj y;have sm:Sms (xs.take i):=by
   have h':=u;rw[<-AyI i xs]at h';exact h'.app.1
  have l0:=Zx _ sm;have fin:∀e H3,Aw H2 H3->H2 e=none->H3 e=some (.lst (vI (xs[i]).nu))->∀(j:(vI (nus (xs.take i))).length+(vI (xs[i]).nu).length<=sizeLine),
    ∃v,[some (V.ref li),some (.ref q),some (.ref rs[i])]=[some (.ref li),some (.ref q),v]/\Aw H (upd H3 q (.lst (vI (nus (xs.take i))++vI (xs[i]).nu)))/\(upd H3 q (.lst (vI (nus (xs.take i))++vI (xs[i]).nu))) q=some (.lst (vI (nus (xs.take (i+1))))):=λe H3 f n3 h3 _=>by
   refine⟨_,U,(h.trans f).over M,?_⟩;rw[Ae,e6,Apk];unfold vI;rw[AxV]
  have j:(vI (nus (xs.take i))).length+(vI (xs[i]).nu).length<=sizeLine:=by rw[Cp,Cp];lia
  generalize a0:xs[i]=x at z y L fin j;refine⟨_,U,.inl ⟨U,_,yW a⟩,_,U,?_⟩;cases x with
  |pth ss =>
   have G:AtP t H2 rs[i] ss:=by cases d<;>exact z
   obtain⟨dx,l,N⟩:=G;exact⟨_,dx,pfR l,U,U,.inl ⟨N.o,_,dx,l,_,U,N,L,y.2,λe H3 f A s=>⟨q,e,_,_,U,U,f _ _ a,by rw[s];simp only [It.nu],j,fin e H3 f A (by rw[s];simp only [It.nu]) j⟩⟩⟩
  |tms n ys =>
   cases d with
   |zero=>exact z.elim
   |succ d =>
    obtain⟨dx,e,B,h1,h2,Z,h3,J,h5⟩:=z;exact⟨_,dx,tf n e,U,U,.inr ⟨h1,_,dx,e,n,B,ys,U,h1,h2,Z,⟨h3,J,h5⟩,y,L,λS H3 f I p=>⟨q,S,_,_,U,U,f _ _ a,p,j,fin S H3 f I p j⟩⟩⟩
 ·rintro σ H2 ⟨v,rfl,h,a⟩;refine⟨_,U,kk q H2 h M ?_⟩;rw[a,AxR,O,Ayg]
theorem Apm(T:Txt K mg t):∀d:Nat,Bm P w K mg base CX0 (2*d+3) t.Jz t.J0 ["row_items"] (Akd t d)
 | 0=>U7 (AxU 2) T ((Zy T).mono Ap)
 |d+1=>U7 (k:=2*d+4) (by exact Ar.a4) T (Aax T (Apm T d))
end
inductive Wk where
 |start|nought|Hg|point|more|done|full|bad|star|closed
deriving DecidableEq
def Wk.cl:Wk->Bool
 | .nought=>true
 | .Hg=>true
 | .full=>true
 | .more=>true
 | .done=>true
 | .closed=>true
 |_=>false
def fgr (s:Wk)(c:Nat):Wk:=
 if s=.start/\c=48 then .nought else if s=.start then .Hg else if s=.point/\c≠48 then .more else if s=.point\/s=.more then .done else if s=.Hg then .full else .bad
def wst (s:Wk)(d c:Nat):Wk×Nat:=
 if 48<=c/\c<=57 then (fgr s c,d)
 else if c=42/\(s=.Hg\/s=.full) then (.star,d)
 else if c=40/\s=.star/\d<8 then (.start,d+1)
 else if c=45/\s.cl=true/\s≠.closed then (.point,d)
 else if c=32/\s.cl=true then (.start,d)
 else if c=41/\s.cl=true/\0<d then (.closed,d-1)
 else (.bad,d)
def ArD:Wk->Nat->NV->Wk×Nat
 |s,d,[]=>(s,d)
 |s,d,c::u=>ArD (wst s d c).1 (wst s d c).2 u
def acc (s:Wk)(d:Nat)(u:NV):Bool:=decide ((ArD s d u).2=0) && (ArD s d u).1.cl
theorem JP(s:Wk)(d c:Nat)(u:NV):acc s d (c::u)=acc (wst s d c).1 (wst s d c).2 u:=rfl
theorem ArE(d c:Nat):(wst .bad d c).1=.bad:=by
 unfold wst;split
 ·simp[fgr]
 all_goals simp[Wk.cl]
theorem Ho:∀(u:NV)(d:Nat),acc .bad d u=false
 |[],d=>by simp[acc,ArD,Wk.cl]
 |c::u,d=>by rw[JP,ArE];exact Ho u _
theorem AgT(s:Wk)(d:Nat):acc s d []=(decide (d=0) && s.cl):=rfl
def NoF (u:NV):Prop:=∀c,u[0]?=some c->¬(48<=c/\c<=57)
theorem Ala(h:48<=c/\c<=57):wst s d c=(fgr s c,d):=by unfold wst;rw[yF h]
theorem Hq(h:48<=c/\c<=57):acc s d (c::u)=acc (fgr s c) d u:=by rw[JP,Ala h]
def qS (v:NV):Wk:=if v=[48] then .nought else if v.length=1 then .Hg else .full
def qP (v:NV):Wk:=if v.length=1/\v≠[48] then .more else .done
def okN (v:NV):Prop:=(1<=v.length/\v.length<=2)/\¬(v.length=2/\v[0]?=some 48)
theorem AiK(a:s=.start\/s=.point)(h:NoF u):acc s d u=false:=by
 cases u with
 |nil=>rcases a with rfl|rfl<;>simp[AgT,Wk.cl]
 |cons c u =>
  have hc:=h c U;have:(wst s d c).1=.bad:=by
   unfold wst;rw[yE hc];rcases a with rfl|rfl<;>simp[Wk.cl]
  rw[JP,this];exact Ho _ _
theorem Af6{rest:NV}(f:∀c∈v,48<=c/\c<=57)(m:NoF rest):(okN v->acc .start d (v++rest)=acc (qS v) d rest)/\(¬okN v->acc .start d (v++rest)=false):=by
 match v,f with
 |[],_=>exact⟨λh=>yG h.1.1 AB,λ_=>AiK (.inl U) m⟩
 |[a],f =>
  have i:=f a AB;refine⟨λ_=>?_,λh=>yG ⟨⟨AB,AB⟩,AB⟩ h⟩;rw[List.singleton_append,Hq i];unfold qS fgr;by_cases c:a=48<;>simp[c]
 |[a,b],f =>
  have i:=f a AB;have j:=f b AB;have e:acc .start d ([a,b]++rest)=acc (fgr (fgr .start a) b) d rest:=by
   show acc .start d (a::b::rest)=_;rw[Hq i,Hq j]
  rw[e];by_cases c:a=48
  ·refine⟨λh=>yG ⟨U,by rw[c];rfl⟩ h.2,λ_=>?_⟩;have:fgr (fgr .start a) b=.bad:=by simp[fgr,c]
   rw[this];exact Ho _ _
  ·refine⟨λ_=>?_,λh=>yG ⟨⟨AB,AB⟩,λz=>c (by simpa using z.2)⟩ h⟩;have:fgr (fgr .start a) b=.full:=by simp[fgr,c]
   rw[this];simp[qS]
 |a::b::e::v,f =>
  have i:=f a AB;have j:=f b AB;have l:=f e AB;refine⟨λh=>yG h.1.2 AB,λ_=>?_⟩;show acc .start d (a::b::e::(v++rest))=_;rw[Hq i,Hq j,Hq l];have:fgr (fgr (fgr .start a) b) e=.bad:=by
   by_cases c:a=48<;>simp[fgr,c]
  rw[this];exact Ho _ _
theorem AmE{rest:NV}(f:∀c∈v,48<=c/\c<=57)(m:NoF rest):(okN v->acc .point d (v++rest)=acc (qP v) d rest)/\(¬okN v->acc .point d (v++rest)=false):=by
 match v,f with
 |[],_=>exact⟨λh=>yG h.1.1 AB,λ_=>AiK (.inr U) m⟩
 |[a],f =>
  have i:=f a AB;refine⟨λ_=>?_,λh=>yG ⟨⟨AB,AB⟩,AB⟩ h⟩;rw[List.singleton_append,Hq i];unfold qP fgr;by_cases c:a=48<;>simp[c]
 |[a,b],f =>
  have i:=f a AB;have j:=f b AB;have e:acc .point d ([a,b]++rest)=acc (fgr (fgr .point a) b) d rest:=by
   show acc .point d (a::b::rest)=_;rw[Hq i,Hq j]
  rw[e];by_cases c:a=48
  ·refine⟨λh=>yG ⟨U,by rw[c];rfl⟩ h.2,λ_=>?_⟩;have:fgr (fgr .point a) b=.bad:=by simp[fgr,c]
   rw[this];exact Ho _ _
  ·refine⟨λ_=>?_,λh=>yG ⟨⟨AB,AB⟩,λz=>c (by simpa using z.2)⟩ h⟩;have:fgr (fgr .point a) b=.done:=by simp[fgr,c]
   rw[this];simp[qP]
 |a::b::e::v,f =>
  have i:=f a AB;have j:=f b AB;have l:=f e AB;refine⟨λh=>yG h.1.2 AB,λ_=>?_⟩;show acc .point d (a::b::e::(v++rest))=_;rw[Hq i,Hq j,Hq l];have:fgr (fgr (fgr .point a) b) e=.bad:=by
   by_cases c:a=48<;>simp[fgr,c]
  rw[this];exact Ho _ _
def ai (d:Nat):NV->Bool
 |[]=>decide (d=0)
 |c::v=>if c=32 then acc .start d v else if c=41 then (if 0<d then acc .closed (d-1) v else false) else false
theorem Apn(h:s.cl=true)(h1:s≠.closed->NoF u/\u[0]?≠some 45)(h2:s=.Hg\/s=.full->u.take 2≠[42,40]):acc s d u=ai d u:=by
 cases u with
 |nil=>simp[AgT,ai,h]
 |cons c u =>
  rw[JP];show _=if c=32 then acc .start d u else if c=41 then (if 0<d then acc .closed (d-1) u else false) else false
  by_cases l:48<=c/\c<=57
  ·rw[Ala l,yE Au,yE Au];by_cases hc:s=.closed
   ·subst hc;simp[fgr,Ho]
   ·exact yG l ((h1 hc).1 c U)
  unfold wst;rw[yE l];by_cases f:c=42/\(s=.Hg\/s=.full)
  ·rw[yF f,yE Au,yE Au];have h3:=h2 f.2;cases u with
   |nil=>simp[AgT,Wk.cl]
   |cons b u =>
    have n:b≠40:=λz=>h3 (by rw[f.1,z];rfl);rw[JP];have:(wst .star d b).1=.bad:=by
     unfold wst;split
     ·simp[fgr]
     ·simp[n,Wk.cl]
    rw[this];exact Ho _ _
  rw[yE f];have m:¬(c=40/\s=.star/\d<8):=λz=>by rw[z.2.1]at h;simp[Wk.cl]at h
  rw[yE m];have j:¬(c=45/\s.cl=true/\s≠.closed):=λz=>(h1 z.2.2).2 (by rw[z.1];rfl);rw[yE j];by_cases a:c=32
  ·rw[yF ⟨a,h⟩,yF a]
  ·rw[yE (λz=>a z.1),yE a];by_cases e:c=41
   ·rw[yF e];by_cases i:0<d
    ·rw[yF ⟨e,h,i⟩,yF i]
    ·rw[yE (λz=>i z.2.2),yE i];exact Ho _ _
   ·rw[yE (λz=>e z.1),yE e];exact Ho _ _
theorem Apo(a:s.cl=true)(hc:s≠.closed):acc s d (45::u)=acc .point d u:=by
 rw[JP];have:wst s d 45=(.point,d):=by
  unfold wst;simp[a,hc]
 rw[this]
theorem AmF:acc s d (42::40::u)=if (s=.Hg\/s=.full)/\d<8 then acc .start (d+1) u else false:=by
 rw[JP];by_cases h:s=.Hg\/s=.full
 ·have:wst s d 42=(.star,d):=by
   unfold wst;simp[h]
  rw[this,JP];by_cases a:d<8
  ·rw[yF ⟨h,a⟩];have:wst .star d 40=(.start,d+1):=by
    unfold wst;simp[a]
   rw[this]
  ·rw[yE (λz=>a z.2)];have:(wst .star d 40).1=.bad:=by
    unfold wst;simp[a,Wk.cl]
   rw[this];exact Ho _ _
 ·rw[yE (λz=>h z.1)];have:(wst s d 42).1=.bad:=by
   unfold wst;simp[h]
  rw[this];exact Ho _ _
theorem Apq:(qS v).cl=true/\qS v≠.closed:=by
 unfold qS;split
 ·exact⟨U,Ap⟩
 ·split<;>exact⟨U,Ap⟩
theorem Awb:(qP v).cl=true/\qP v≠.closed/\qP v≠.Hg/\qP v≠.full:=by unfold qP;split<;>exact⟨U,Ap,Ap,Ap⟩
theorem Auf:(qS v=.Hg\/qS v=.full)↔v≠[48]:=by
 unfold qS;split
 next h=>simp[h]
 next h =>
  split
  ·simp[h]
  ·simp[h]
section
variable {K:NO}{base:Heap}{t:Adr}
theorem Af7(s:Aw H H'):BV r H H':=λb o _ e=>s b o e
theorem AmG(l:NV):l=Hy l++l.drop (Hy l).length/\NoF (l.drop (Hy l).length):=by
 induction l with
 |nil=>exact⟨U,λc hc=>by simp at hc⟩
 |cons a l b =>
  unfold Hy at b ⊢;rw[AyH];by_cases h:dg a=true
  ·rw[yF h];exact⟨by exact congrArg _ b.1,b.2⟩
  ·rw[yE h];refine⟨U,λc hc=>?_⟩;have:c=a:=by simpa using hc.symm
   rw[this];exact λz=>h (zN z)
theorem ArF(d:∀c∈v,48<=c/\c<=57)(h:okN v):∃n:Nat,AgD v=.int (n:Int)/\n=PySem.NumText.digitsVal v/\n<100/\(n=0↔v=[48]):=by
 refine⟨PySem.NumText.digitsVal v,by exact yF h,U,?_⟩
 match v,d,h with
 |[],_,h=>exact yG h.1.1 AB
 |[a],d,_ =>
  have f:=d a AB;have e:PySem.NumText.digitsVal [a]=a-48:=by show 0*10+(a-48)=_;exact Ar.m2
  grind
 |[a,b],d,h =>
  have f:=d a AB;have i:=d b AB;have e:PySem.NumText.digitsVal [a,b]=(a-48)*10+(b-48):=by show(0*10+(a-48))*10+(b-48)=_;lia
  have j:a≠48:=λz=>h.2 ⟨U,by rw[z];rfl⟩;grind
 |a::b::c::v,_,h=>exact yG h.1.2 AB
theorem ArG(h:¬okN v):AgD v=.non:=by unfold AgD;exact yE h
def fg (u:NV)(p:Nat):NV:=Hy (u.drop p)
theorem Aps:∀c∈fg u p,48<=c/\c<=57:=Arz
theorem AgU(u:NV)(p:Nat):u.drop p=fg u p++u.drop (p+(fg u p).length)/\NoF (u.drop (p+(fg u p).length)):=by have:= AmG (u.drop p);rw[AyO]at this;exact this
theorem Asy(h:p<=u.length):p+(fg u p).length<=u.length:=by have:= congrArg List.length (AgU u p).1;grind
def vlN (v:NV):Nat:=PySem.NumText.digitsVal v
inductive PTr:NV->NV->NV->Prop where
 |stop {u:NV}:u[0]?≠some 45->PTr u [] u
 |step {v ns r:NV}:PTr (v.drop (Hy v).length) ns r->PTr (45::v) (vlN (Hy v)::ns) r
theorem PTr.det:∀{u ns r a b:NV},PTr u ns r->PTr u a b->ns=a/\r=b:=by
 intro u ns r a b h
 induction h generalizing a b with
 |stop h =>
  intro g;cases g with
  |stop _=>exact⟨U,U⟩
  |step _=>exact yG U h
 |step _ c =>
  intro g;cases g with
  |stop g=>exact yG U g
  |step g=>exact⟨by rw[(c g).1],(c g).2⟩
inductive Apt (t:Adr)(vs:LI)(H:Hp)(Q:VK)(E:XK):Prop
|mk(r:_)(dx:_)(u:_)(p:_)(_:vs=[.ref r])(_:Rd t H r dx u p)(_:(∀n:Nat,okN (fg u p)->n<100->(n=0↔fg u p=[48])->n=vlN (fg u p)->Q (.int (n:Int)) (upd H r (.ins t.Bg dx (rf u (p+(fg u p).length))))))(_:(¬okN (fg u p)->∀H',BV r H H'->E (.ref t.Dz) none H'))
theorem JQ(T:Txt K mg t):Bm P w K mg base (CX1 P w) 4 t.Ml t.Mm ["reader"] (Apt t):=by
 refine T.Eb.F.okX Ks ?_;rintro _ _ _ _ H _ Q E h ⟨r,dx,u,p,rfl,a,k1,k2⟩;refine⟨_,(Ac (Bd (i:=1) Ks.nd U NN (Th (pv 0) T.Bu.c T.Gf.m ((Zw T).mono Ap) h T.Gf.b .nil Ay))
  (Ac (Bl (Ai Ajc (pv 1) W3 (Av _))
   (Ad (DR T.J8 U T.Lb (Aa Af Ab)))
   Aq)
  (Ad (Az (pv 1))))),?_⟩;refine⟨_,U,r,dx,rf u p,U,a.1,(Dl u p).2.2.1,r,dx,u,p,U,a,?_⟩;by_cases c:okN (fg u p)
 ·obtain⟨n,e,f,hn,d⟩:=ArF Aps c;unfold fg at e;rw[e];exact⟨_,U,U,_,U,_,U,k1 n c hn d f⟩
 ·have e:=ArG c;unfold fg at e;rw[e];exact⟨_,U,U,_,U,Ap,k2 c _ BV.upd⟩
theorem Apu(h:(u.drop p).take [c].length=[c]):u.drop p=c::u.drop (p+1):=by
 cases e:u.drop p with
 |nil=>simp_all
 |cons a v =>
  rw[e]at h;have:a=c:=by simpa using h
  rw[<-AyO,e,this];rfl
theorem AgV(h:(u.drop p).take [c].length≠[c]):(u.drop p)[0]?≠some c:=λz=>by
 cases e:u.drop p with
 |nil=>rw[e]at z;simp at z
 |cons a v =>
  rw[e]at z h;have:a=c:=by simpa using z
  exact h (by rw[this];rfl)
theorem AgW(e:u.drop p=c::v):p+1<=u.length:=by have:= congrArg List.length e;grind
inductive Apv (t:Adr)(vs:LI)(H:Hp)(Q:VK)(E:XK):Prop
|mk(r:_)(dx:_)(u:_)(p:_)(n0:_)(s:_)(d:_)(_:vs=[.ref r,.int ((n0:Nat):Int)])(_:Rd t H r dx u p)(_:u.length<=5000)(_:n0<100)(_:Wk.cl s=true)(_:s≠.closed)(_:NoF (u.drop p))(_:(s=.Hg\/s=.full->(u.drop p).take 2≠[42,40]))(_:(∀a ns p' H',BV r H H'->Rd t H' r dx u p'->p<=p'->H a=none->AtP t H' a ((n0::ns).map Int.ofNat)->(∀n∈ns,n<100)->ns.length<=5000->PTr (u.drop p) ns (u.drop p')->acc s d (u.drop p)=ai d (u.drop p')->Q (.ref a) H'))(_:(∀H',BV r H H'->acc s d (u.drop p)=false->E (.ref t.Dz) none H'))
theorem AeC(T:Txt K mg t):Bm P w K mg base (CX1 P w) 5 t.Abb t.Abd ["reader","first"] (Apv t):=by
 refine T.Vh.F.okX XX ?_;rintro _ _ _ _ H _ Q E hr ⟨r,dx,u,p,S,s,d,rfl,hR,u9,ah,hs,ae,hF,Z,k1,k2⟩;refine⟨_,(Ac (Bd (i:=2) XX.nd U NN (Cm (Aa (pv 1) Ab)))
  (Ac (Xy λhfr=>(Xn (AfY O5 hfr) (Fb (El (pv 0) T.Bu.c T.BP.m ((DY T).mono Ap) hr T.BP.b .nil Ay (Aa Af Ab)))
   (Ad (Bj (Bx (K:=K) zM zL zQ Dg (pv 2) (Aa (Aj ((JQ T).mono Ap) hr U T.Eb.m T.Eb.F.kp T.Eb.b .nil Cq (Aa (pv 0) Ab)) Ab))))))
  (Ad (Az (Ez T.QX.m ((Aav T).mono Ap) hr U T.AtR T.Hn.b .nil Ay (Aa (pv 2) Ab)))))),?_⟩;refine⟨_,U,(by show 1<=sizeLine;decide),λq W=>?_⟩;have v:q≠r:=λz=>by rw[z,hR.1]at W;cases W
 refine⟨λm σ H2=>∃a p2 D,σ=[some (.ref r),some (.int (S:Int)),some (.ref q)]/\BV r H H2/\H2 q=some (.lst (vI ((S::a).map Int.ofNat)))/\Rd t H2 r dx u p2/\p+a.length<=p2/\(∀n∈a,n<100) /\
   Wk.cl D=true/\D≠.closed/\NoF (u.drop p2)/\(D=.Hg\/D=.full->(u.drop p2).take 2≠[42,40])/\acc s d (u.drop p)=acc D d (u.drop p2)/\(∀ns r,PTr (u.drop p2) ns r->PTr (u.drop p) (a++ns) r)/\m=u.length-p2,
  ⟨_,[],p,s,U,Af7 (Aw.upd W),Ae,⟨by rw[Ao v.symm];exact hR.1,hR.2⟩,AxU _,(λn hn=>by simp at hn),hs,ae,hF,Z,U,(λns r h=>h),U⟩,?_⟩;rintro m σ H2 ⟨a,p2,D,rfl,b2,C,f,aa,O,I,M,a0,J,y,G,rfl⟩;have aj:=f.2.1;refine⟨_,U,r,dx,rf u p2,U,f.1,(Dl u _).2.1,r,dx,u,p2,[45],(by rfl),f,Ap,λY=>?_,λaf=>?_⟩
 ·refine⟨_,U,?_⟩;have B:=Apu Y;have R:=AgW B;rw[B,Apo I M]at y;have ab:(upd H2 r (.ins t.Bg dx (rf u (p2+[45].length)))) q=some (.lst (vI ((S::a).map Int.ofNat))):=by rw[Ao v];exact C
  have fr:=AgU u (p2+1);have fl:=Asy R;have np:=AmE (d:=d) (Aps (u:=u) (p:=p2+1)) fr.2;rw[<-fr.1]at np;refine⟨_,λσ' H' h=>h,_,U,.inl ⟨U,_,yW ab⟩,_,U,r,dx,u,p2+1,U,⟨Ae,R,f.2.2⟩,λn ag hn _ hv=>?_,λa6 H' sb=>?_⟩
  ·rw[Kv];have X:(upd H2 r (.ins t.Bg dx (rf u (p2+1+(fg u (p2+1)).length)))) q=some (.lst (vI ((S::a).map Int.ofNat))):=by rw[Ao v];exact C
   refine⟨_,_,_,U,U,X,(by rw[Cp,AxR,AxX];exact Af5 AA),?_⟩;have ql:=@Awb (fg u (p2+1));refine⟨u.length-(p2+1+(fg u (p2+1)).length),AA,a++[n],p2+1+(fg u (p2+1)).length,qP (fg u (p2+1)),U,?_,?_,?_,AD,?_,ql.1,ql.2.1,fr.2,λz=>AC,by rw[y,np.1 ag],(λns r h=>?_),U⟩
   ·intro b o A e;rw[Ao (Bf e W),Ao A];exact b2 b o A e
   ·rw[Ae];rw[Ajt,<-Ay9,AxV];rfl
   ·refine⟨?_,fl,f.2.2⟩;rw[Ao v.symm,Ae]
   ·intro x j;rcases zG.mp j with j|j
    ·exact O x j
    ·rw[zF.mp j];exact hn
   ·rw[Ay0];refine G _ _ ?_;rw[B,hv];refine PTr.step ?_;rw[AyO];exact h
  ·refine k2 H' (λb o A e=>sb b o A ?_) (by rw[y,np.2 a6]);rw[Ao A];exact b2 b o A e
 ·refine⟨_,U,?_⟩;have L:=AgV af;refine⟨_,U,λx l j ac ak=>⟨x,l,q,U,Ae,U,?_⟩⟩;rw[Kv];have nx:∀b o,H2 b=some o->b≠x/\b≠l:=λb o e=>⟨Bf e j,Bf e ac⟩;have keep:∀b o,H2 b=some o->(upd (upd H2 l (.own x)) x (.ins t.HX l (pfR q))) b=some o:=λb o e=>by rw[Ao (nx b o e).1,Ao (nx b o e).2];exact e
  refine k1 x a p2 _ (λb o A e=>keep b o (b2 b o A e)) ⟨keep _ _ f.1,f.2⟩ (by exact Ar.d7 aa) ?_ ⟨l,q,Ae,keep _ _ C,AB,AD⟩ O AA ?_ ?_
  ·cases e:H x with
   |none=>rfl
   |some o =>
    by_cases N:x=r
    ·rw[N,f.1]at j;cases j
    ·rw[b2 x o N e]at j;cases j
  ·have:= G [] _ (PTr.stop L);rw[Ayr]at this;exact this
  ·rw[y];exact Apn I (λ_=>⟨a0,L⟩) J
end
def ofN (ns:NV):NF:=ns.map Int.ofNat
mutual
noncomputable def It.tx:It->NV
 | .pth ss=>AvH (ss.map Int.toNat)
 | .tms n xs=>dec n++42::40::(Axm xs++[41])
noncomputable def Axm:List It->NV
 |[]=>[]
 |x::xs=>x.tx++Awc xs
noncomputable def Awc:List It->NV
 |[]=>[]
 |x::xs=>32::(x.tx++Awc xs)
end
def Gd:Nat->It->Prop
 |_,.pth ss=>∃n0 ns,ss=ofN (n0::ns)/\(∀n∈n0::ns,n<100)/\ns.length<=5000
 | 0,.tms _ _=>False
 |d+1,.tms n xs=>1<=n/\n<=99/\xs≠[]/\xs.length<=5000/\∀x∈xs,Gd d x
def Aft (rest:NV):Prop:=∀c,rest[0]?=some c->c=32\/c=41
section
variable {K:NO}{base:Heap}{t:Adr}
def AtJ (t:Adr)(H:Hp)(F:Nn->Prop):Nat->Nn->It->Prop
 |_,a,.pth ss=>AtP t H a ss
 | 0,_,.tms _ _=>False
 |d+1,a,.tms n xs=>∃(dx li:Nn)(rs:NW),H a=some (.ins t.Ed dx (tf n li))/\H li=some (.lst (rs.map V.ref))/\F li/\n<=99/\rs.length=xs.length/\rs.length<=6000 /\
   ∀(i:Nat) r x,rs[i]?=some r->xs[i]?=some x->AtJ t H F d r x
structure Kp (t:Adr)(H H':Hp)(F:Nn->Prop):Prop where
 kp:∀(b dx l:Nn),H b=some (.ins t.HX dx (pfR l))->H' b=some (.ins t.HX dx (pfR l))
 ks:∀(b:Nn)(ss:NF),1<=ss.length->H b=some (.lst (vI ss))->H' b=some (.lst (vI ss))
 kt:∀(b dx:Nn)(n:Nat)(l:Nn),H b=some (.ins t.Ed dx (tf n l))->H' b=some (.ins t.Ed dx (tf n l))
 kl:∀(b:Nn)(rs:NW),F b->H b=some (.lst (rs.map V.ref))->H' b=some (.lst (rs.map V.ref))
theorem AtJ.keep{H H':Hp}{F:Nn->Prop}(k:Kp t H H' F):∀(d:Nat)(a:Nn)(x:It),AtJ t H F d a x->AtJ t H' F d a x
 | 0,_,.pth _,⟨dx,l,h⟩=>⟨dx,l,k.kp _ _ _ h.o,k.ks _ _ h.ne h.l,h.ne,h.le⟩
 | 0,_,.tms _ _,h=>h.elim
 |d+1,_,.pth _,⟨dx,l,h⟩=>⟨dx,l,k.kp _ _ _ h.o,k.ks _ _ h.ne h.l,h.ne,h.le⟩
 |d+1,_,.tms n xs,⟨dx,li,rs,h1,h2,h0,h3,h4,h5,h6⟩=>⟨dx,li,rs,k.kt _ _ _ _ h1,k.kl _ _ h0 h2,h0,h3,h4,h5,λi r x b e2=>AtJ.keep k d r x (h6 i r x b e2)⟩
theorem AtJ.imp{H:Hp}{F c:Nn->Prop}(k:∀b,F b->(∃o,H b=some o)->c b):∀(d:Nat)(a:Nn)(x:It),AtJ t H F d a x->AtJ t H c d a x
 | 0,_,.pth _,h=>h
 | 0,_,.tms _ _,h=>h.elim
 |d+1,_,.pth _,h=>h
 |d+1,_,.tms n xs,⟨dx,li,rs,h1,h2,h0,h3,h4,h5,h6⟩=>⟨dx,li,rs,h1,h2,k _ h0 ⟨_,h2⟩,h3,h4,h5,λi r x e e2=>AtJ.imp k d r x (h6 i r x e e2)⟩
theorem AtJ.to{H:Hp}{F:Nn->Prop}:∀(d:Nat)(a:Nn)(x:It),AtJ t H F d a x->AtI t H d a x
 | 0,_,.pth _,h=>h
 | 0,_,.tms _ _,h=>h.elim
 |d+1,_,.pth _,h=>h
 |d+1,_,.tms n xs,⟨dx,li,rs,h1,h2,h0,h3,h4,h5,h6⟩=>⟨dx,li,rs,h1,h2,h3,h4,h5,λi r x b e2=>AtJ.to d r x (h6 i r x b e2)⟩
structure AgX (t:Adr)(H:Hp)(F:Nn->Prop)(d:Nat)(rs:NW)(xs:List It):Prop where
 len:rs.length=xs.length
 le:rs.length<=6000
 at_:∀(i:Nat) r x,rs[i]?=some r->xs[i]?=some x->AtJ t H F d r x
theorem AgX.snoc{x:It}(h:AgX t H F d rs xs)(e:AtJ t H F d a x)(l:rs.length<6000):AgX t H F d (rs++[a]) (xs++[x]):=by
 have c:=h.len;refine⟨AC,AD,λi r y b e2=>?_⟩;by_cases hi:i<rs.length
 ·rw[Ayo hi]at b;rw[Ayo (by exact Ar.b2 c hi)]at e2;exact h.at_ i r y b e2
 ·rw[Aym (by exact Ar.a1 hi)]at b;rw[Aym Au]at e2;cases f:i-xs.length with
  |zero =>
   simp_all
  |succ j=>simp_all
theorem AgX.keep(h:AgX t H F d rs xs)(k:Kp t H H' F):AgX t H' F d rs xs:=⟨h.len,h.le,λi r x a e2=>AtJ.keep k d r x (h.at_ i r x a e2)⟩
theorem Kp.same(s:Aw H H'):Kp t H H' F:=⟨λb dx l e=>s _ _ e,λb ss _ e=>s _ _ e,λb dx n l e=>s _ _ e,λb rs _ e=>s _ _ e⟩
theorem Kp.but{a:Nn}{fs:List (Str×V)}(s:BV r H H')(d:H r=some (.ins t.Bg a fs))(f:t.Bg≠t.HX)(c:t.Bg≠t.Ed):Kp t H H' F:=by
 refine⟨λb dx l e=>s _ _ (λz=>?_) e,λb ss _ e=>s _ _ (λz=>?_) e,λb dx n l e=>s _ _ (λz=>?_) e,λb rs _ e=>s _ _ (λz=>?_) e⟩
 ·simp_all
 ·simp_all
 ·rw[z,d]at e;injection e with e;injection e with e;exact c e
 ·simp_all
theorem Kp.app(a:H li=some (.lst (rs.map V.ref)))(nF:¬F li):Kp t H (upd H li o) F:=by
 refine⟨λb dx l e=>?_,λb ss n e=>?_,λb dx n l e=>?_,λb h f e=>?_⟩
 ·rw[Ao (λz=>by rw[z,a]at e;cases e)];exact e
 ·rw[Ao (λz=>by
   rw[z,a]at e;injection e with e;injection e with e;cases ss with
   |nil=>simp at n
   |cons x y =>
    cases rs with
    |nil=>simp[vI]at e
    |cons c d =>
     unfold vI at e;rw[Ayd,Ayd]at e;injection e with e;cases e)]
  exact e
 ·rw[Ao (λz=>by rw[z,a]at e;cases e)];exact e
 ·rw[Ao (λz=>by rw[z]at f;exact nF f)];exact e
theorem Asz(T:Txt K mg t):t.Bg≠t.HX:=λe=>by
 have h1:=T.DX.m.at_;have h2:=T.Hn.m.at_;rw[e,h2]at h1;injection h1 with h1;injection h1 with h1;injection h1 with h1;obtain⟨_,_,_,_,_,_,_,_,_,c,b,_⟩:=T.DX.F.ex;obtain⟨_,_,_,_,_,_,_,_,_,e2,a,_⟩:=T.Hn.F.ex;rw[h1,b,c,e2]at a;injection a with a;injection a with _ _ a _;injection a with a;have q:(("Reader.__init__":Str))=("Path.__init__":Str):=congrArg FuncData.qualname a;exact yG q At
theorem As0(T:Txt K mg t):t.Bg≠t.Ed:=λe=>by
 have h1:=T.DX.m.at_;have h2:=T.FP.m.at_;rw[e,h2]at h1;injection h1 with h1;injection h1 with h1;injection h1 with h1;obtain⟨_,_,_,_,_,_,_,_,_,c,b,_⟩:=T.DX.F.ex;obtain⟨_,_,_,_,_,_,_,_,_,e2,a,_⟩:=T.FP.F.ex;rw[h1,b,c,e2]at a;injection a with a;injection a with _ _ a _;injection a with a;have q:(("Reader.__init__":Str))=("Times.__init__":Str):=congrArg FuncData.qualname a;exact yG q At
theorem NT(T:Txt K mg t):Bm P w K mg base CX0 1 t.Jh t.PN ["self","count","inner"] (λvs H Q E=>∃(r dx l:Nn)(n:Nat),vs=[.ref r,.int (n:Int),.ref l]/\H r=some (.ins t.Ed dx [])/\Q .non (upd H r (.ins t.Ed dx (tf n l)))):=by
 refine T.FP.F.ok Yn (len:=λ_ _ _ _ h=>by obtain⟨_,_,_,_,e,_⟩:=h;subst e;rfl) ?_;rintro _ _ _ _ H _ Q E a ⟨r,dx,l,n,rfl,h1,k⟩;refine⟨_,(Ac (HJ (K:=K) (pv 0) (pv 1))
  (Ad (HJ (K:=K) (pv 0) (pv 2)))),?_⟩;refine⟨_,U,_,U,_,_,_,_,U,h1,T.J9.c,T.Mw,Ap,_,U,_,U,_,_,_,_,U,Ae,T.J9.c,T.Mx,(by show 1<1000;decide),?_⟩;rw[Kv];exact k
theorem BV.none{r b:Nn}{H H':Hp}(s:BV r H H')(n:H' b=none)(h:b≠r):H b=none:=by
 cases e:H b with
 |none=>rfl
 |some o=>rw[s b o h e]at n;cases n
theorem Apw(h:1<=e):ai e (41::v)=acc .closed (e-1) v:=by show(if (41:Nat)=32 then acc .start e v else if (41:Nat)=41 then (if 0<e then acc .closed (e-1) v else false) else false)=acc .closed (e-1) v;rw[yE Ap,yF U,yF (by exact Ar.c5 h)]
theorem As1(h1:c≠32)(h2:c≠41):ai e (c::v)=false:=by show(if c=32 then acc .start e v else if c=41 then (if 0<e then acc .closed (e-1) v else false) else false)=false;rw[yE h1,yE h2]
inductive RIm (R:NV->It->NV->Prop):NV->List It->NV->Prop where
 |nil {u:NV}:u[0]?≠some 32->RIm R u [] u
 |cons {v r' r:NV} {x:It} {xs:List It}:R v x r'->RIm R r' xs r->RIm R (32::v) (x::xs) r
theorem RIm.det{R:NV->It->NV->Prop}(f:∀u x r x' d,R u x r->R u x' d->x=x'/\r=d):∀{u r d:NV} {xs c:List It},RIm R u xs r->RIm R u c d->xs=c/\r=d:=by
 intro u r d xs c h
 induction h generalizing c d with
 |nil h =>
  intro g;cases g with
  |nil _=>exact⟨U,U⟩
  |cons _ _=>exact yG U h
 |cons a _ e =>
  intro g;cases g with
  |nil g=>exact yG U g
  |cons b g =>
   obtain⟨rfl,rfl⟩:=f _ _ _ _ _ a b;exact⟨by rw[(e g).1],(e g).2⟩
def RI:Nat->NV->It->NV->Prop
 |_,u,.pth ss,r=>(u.drop (Hy u).length).take 2≠[42,40]/\∃ns,ss=ofN (vlN (Hy u)::ns)/\PTr (u.drop (Hy u).length) ns r
 | 0,_,.tms _ _,_=>False
 |d+1,u,.tms n xs,r=>n=vlN (Hy u)/\∃v x ys r',u.drop (Hy u).length=42::40::v/\xs=x::ys/\RI d v x r'/\RIm (RI d) r' ys (41::r)
theorem RI.det:∀(d:Nat)(u:NV)(x:It)(r:NV)(x':It)(c:NV),RI d u x r->RI d u x' c->x=x'/\r=c:=by
 intro d
 induction d with
 |zero =>
  intro u x r x' c h g;cases x with
  |tms _ _=>exact h.elim
  |pth ss =>
   cases x' with
   |tms _ _=>exact g.elim
   |pth b =>
    obtain⟨_,ns,rfl,h⟩:=h;obtain⟨_,f,rfl,g⟩:=g;have:= h.det g;exact⟨by rw[this.1],this.2⟩
 |succ d j =>
  intro u x r x' c h g;cases x with
  |pth ss =>
   cases x' with
   |pth b =>
    obtain⟨_,ns,rfl,h⟩:=h;obtain⟨_,f,rfl,g⟩:=g;have:= h.det g;exact⟨by rw[this.1],this.2⟩
   |tms _ _ =>
    obtain⟨_,v,x,ys,i,e,_⟩:=g;exact yG (by rw[e];rfl) h.1
  |tms n xs =>
   cases x' with
   |pth b =>
    obtain⟨_,v,x,ys,i,e,_⟩:=h;exact yG (by rw[e];rfl) g.1
   |tms p m =>
    obtain⟨rfl,v,x,ys,i,e,rfl,h1,h2⟩:=h;obtain⟨rfl,q,x',l,o,a,rfl,g1,g2⟩:=g;rw[e]at a;injection a with _ a;injection a with _ a;subst a;obtain⟨rfl,rfl⟩:=j _ _ _ _ _ h1 g1;obtain⟨rfl,e2⟩:=RIm.det j h2 g2;injection e2 with _ e2;exact⟨U,e2⟩
def RIs (d:Nat)(u:NV)(xs:List It)(r:NV):Prop:=∃x ys r',xs=x::ys/\RI d u x r'/\RIm (RI d) r' ys r
theorem RIs.det{r b:NV}{a:List It}(h:RIs d u xs r)(g:RIs d u a b):xs=a/\r=b:=by obtain⟨x,ys,f,rfl,h1,h2⟩:=h;obtain⟨x',c,e,rfl,g1,g2⟩:=g;obtain⟨rfl,rfl⟩:=RI.det d _ _ _ _ _ h1 g1;obtain⟨rfl,e2⟩:=RIm.det (RI.det d) h2 g2;exact⟨U,e2⟩
inductive Aay (t:Adr)(d:Nat)(vs:LI)(H:Hp)(Q:VK)(E:XK):Prop
|mk(r:Nn)(dx:Nn)(u:NV)(p:Nat)(e:Nat)(_:vs=[.ref r,.int (e:Int)])(_:e+d=8)(_:Rd t H r dx u p)(_:u.length<=5000)(_:(∀(li:Nn)(rs:NW)(xs:List It)(p':Nat)(H':Hp),BV r H H'->Rd t H' r dx u p'->H li=none->H' li=some (.lst (rs.map V.ref))->AgX t H' (λb=>H b=none) d rs xs->(∀x∈xs,Gd d x)->xs≠[]->xs.length<=5000->p<p'->(u.drop p')[0]?≠some 32->RIs d (u.drop p) xs (u.drop p')->acc .start e (u.drop p)=ai e (u.drop p')->Q (.ref li) H'))(_:(∀H',BV r H H'->acc .start e (u.drop p)=false->E (.ref t.Dz) none H'))
inductive AiL (t:Adr)(d:Nat)(vs:LI)(H:Hp)(Q:VK)(E:XK):Prop
|mk(r:Nn)(dx:Nn)(u:NV)(p:Nat)(e:Nat)(_:vs=[.ref r,.int (e:Int)])(_:e+d=8)(_:Rd t H r dx u p)(_:u.length<=5000)(_:(∀(a:Nn)(x:It)(p':Nat)(H':Hp),BV r H H'->Rd t H' r dx u p'->p<p'->H a=none->AtJ t H' (λb=>H b=none) d a x->Gd d x->RI d (u.drop p) x (u.drop p')->acc .start e (u.drop p)=ai e (u.drop p')->Q (.ref a) H'))(_:(∀H',BV r H H'->acc .start e (u.drop p)=false->E (.ref t.Dz) none H'))
def Aaz (t:Adr):Nat->Sp
 | 0=>λvs H Q E=>∃(r dx:Nn)(u:NV)(p n:Nat),vs=[.ref r,.int (n:Int),.int ((9:Nat):Int)]/\Rd t H r dx u p/\∀H',BV r H H'->E (.ref t.Dz) none H'
 |d+1=>λvs H Q E=>∃(r dx:Nn)(u:NV)(p n e:Nat),vs=[.ref r,.int (n:Int),.int (e:Int)]/\e+d=8/\1<=e/\Rd t H r dx u p/\u.length<=5000/\n<100 /\
   (∀(a:Nn)(xs:List It)(p':Nat)(H':Hp),BV r H H'->Rd t H' r dx u p'->p<=p'->H a=none->1<=n->AtJ t H' (λb=>H b=none) (d+1) a (.tms n xs)->Gd (d+1) (.tms n xs)->RIs d (u.drop p) xs (41::u.drop p')->acc .start e (u.drop p)=acc .closed (e-1) (u.drop p')->Q (.ref a) H') /\
   (∀H',BV r H H'->n=0\/acc .start e (u.drop p)=false->E (.ref t.Dz) none H')
theorem AbL(T:Txt K mg t)(d:Bm P w K mg base (CX1 P w) 1 t.Ii t.Ij ["reader","depth"] (λ_ _ _ _=>False)):Bm P w K mg base (CX1 P w) 3 t.KD t.KH ["reader","count","depth"] (Aaz t 0):=by
 refine T.Mr.F.okX Jx (λ_ _ _ _ H vs Q E a h=>?_) (len:=λvs H Q E h=>by obtain⟨r,dx,u,p,n,rfl,_⟩:=h;rfl);obtain⟨r,dx,u,p,n,rfl,e,k⟩:=h;refine⟨_,(Ac (Bl (Ai Cj (pv 1) Ah (Av _))
   (Ad (DR T.J8 U T.Lb (Aa Af Ab)))
   Aq)
  (Ac (Bl (Ai HD (pv 2) (Ce (v:=.int 8) U T.Qm.choose_spec ⟨_,U⟩) (Av _))
   (Ad (DR T.J8 U T.Lb (Aa Af Ab)))
   Aq)
  (Ac (Bd (i:=3) Jx.nd U NN (Aj (d.mono (by exact Ar.a4)) a U T.Fl.m T.Fl.F.kp T.Fl.b .nil Cq (Aa (pv 0) (Aa (pv 2) Ab))))
  (Ac (Bl (Hr (Fb (El (pv 0) T.Bu.c T.BP.m ((DY T).mono (by exact Ar.a4)) a T.BP.b .nil Ay (Aa Af Ab))))
   (Ad (DR T.J8 U T.Lb (Aa Af Ab)))
   Aq)
  (Ad (Az (Ez T.J9.m ((NT T).mono (by exact Ar.a4)) a U T.AkM T.FP.b .nil Ay (Aa (pv 1) (Aa (pv 3) Ab))))))))),?_⟩;exact⟨_,U,U,_,U,CP (λ_=>⟨Ap,k H (Af7 (.refl _))⟩) (λ_=>⟨_,U,_,_,U,U,_,U,I9 Ap ⟨Ap,k H (Af7 (.refl _))⟩⟩)⟩
theorem AdI{k:Nat}(hk:1<=k)(T:Txt K mg t)(Rh:Bm P w K mg base (CX1 P w) k t.Ii t.Ij ["reader","depth"] (Aay t d)) :
  Bm P w K mg base (CX1 P w) (k+2) t.KD t.KH ["reader","count","depth"] (Aaz t (d+1)):=by
 refine T.Mr.F.okX Jx (λ_ _ _ _ H vs Q E hr h=>?_) (len:=λvs H Q E h=>by obtain⟨r,dx,u,p,n,e,rfl,_⟩:=h;rfl);obtain⟨r,dx,u,p,n,e,rfl,he,e1,I,u9,n9,k1,k2⟩:=h;refine⟨_,(Ac (Bl (Ai Cj (pv 1) Ah (Av _))
   (Ad (DR T.J8 U T.Lb (Aa Af Ab)))
   Aq)
  (Ac (Bl (Ai HD (pv 2) (Ce (v:=.int 8) U T.Qm.choose_spec ⟨_,U⟩) (Av _))
   (Ad (DR T.J8 U T.Lb (Aa Af Ab)))
   Aq)
  (Ac (Bd (i:=3) Jx.nd U NN (Aj (Rh.mono (by exact Ar.a3)) hr U T.Fl.m T.Fl.F.kp T.Fl.b .nil Cq (Aa (pv 0) (Aa (pv 2) Ab))))
  (Ac (Bl (Hr (Fb (El (pv 0) T.Bu.c T.BP.m ((DY T).mono (by exact Ar.a4)) hr T.BP.b .nil Ay (Aa Af Ab))))
   (Ad (DR T.J8 U T.Lb (Aa Af Ab)))
   Aq)
  (Ad (Az (Ez T.J9.m ((NT T).mono (by exact Ar.c5 hk)) hr U T.AkM T.FP.b .nil Ay (Aa (pv 1) (Aa (pv 3) Ab))))))))),?_⟩;refine⟨_,U,U,_,U,CP (λz=>⟨Ap,k2 H (Af7 (.refl _)) (.inl AD)⟩) (λn0=>?_)⟩;have n1:1<=n:=by
  rcases Nat.eq_zero_or_pos n with z|z
  ·exact yG (by rw[z];rfl) n0
  ·exact z
 refine⟨_,U,_,_,U,U,_,U,DQ (λz=>AA) ⟨_,U,_,U,r,dx,u,p,e,U,he,I,u9,λli rs xs l H1 G q j R hA hG S O J B a6 f=>?_,λH1 G f=>k2 H1 G (.inr f)⟩⟩;refine⟨_,U,r,dx,rf u _,U,q.1,(Dl u _).2.1,r,dx,u,l,[41],(by rfl),q,Ap,λY=>?_,λM=>?_⟩
 ·refine⟨_,U,?_⟩;have C:=Apu Y;have L:=AgW C;have hS:(upd H1 r (.ins t.Bg dx (rf u (l+[41].length)))) r=some (.ins t.Bg dx (rf u (l+[41].length))):=Ae;have D:BV r H1 (upd H1 r (.ins t.Bg dx (rf u (l+[41].length)))):=BV.upd;generalize upd H1 r (.ins t.Bg dx (rf u (l+[41].length)))=H2 at hS D ⊢;have N:li≠r:=λz=>by rw[z,I.1]at j;cases j
  have Z:=D _ _ N R;have o:=hA.keep (Kp.but D q.1 (Asz T) (As0 T));refine⟨_,U,_,U,λx a hx X a0=>⟨x,a,li,n,U,Ae,U,?_⟩⟩;rw[Kv];have A:Aw H2 (upd (upd H2 a (.own x)) x (.ins t.Ed a (tf n li))):=(Aw.upd X).over hx;have s:(upd (upd H2 a (.own x)) x (.ins t.Ed a (tf n li))) x=some (.ins t.Ed a (tf n li)):=Ae;generalize upd (upd H2 a (.own x)) x (.ins t.Ed a (tf n li))=H3 at A s ⊢;have W:x≠r:=λz=>AC
  have sH:=G.trans D;have l9:=o.len;refine k1 x xs (l+1) H3 (sH.trans (Af7 A)) ⟨A _ _ hS,L,I.2.2⟩ ?_ (sH.none hx W) n1 ⟨a,li,rs,s,A _ _ Z,j,by exact Ar.g2 n9,l9,o.le,(o.keep (Kp.same A)).at_⟩ ⟨n1,by exact Ar.g2 n9,S,O,hG⟩ AC ?_
  ·exact Ar.e2 (Ar.c3 J)
  ·rw[f,C];exact Apw e1
 ·refine⟨_,U,?_⟩;have y:=AgV M;refine⟨Ap,k2 H1 G (.inr ?_)⟩;rw[f];cases e9:u.drop l with
  |nil=>exact zJ (by exact Ar.k3 e1)
  |cons c v =>
   rw[e9]at B y;exact As1 (λz=>B (by rw[z];rfl)) (λz=>y (by rw[z];rfl))
theorem Apx:ai e (32::v)=acc .start e v:=by show(if (32:Nat)=32 then acc .start e v else if (32:Nat)=41 then (if 0<e then acc .closed (e-1) v else false) else false)=acc .start e v;rw[yF rfl]
theorem Awd(h:(u.drop p).take [42,40].length=[42,40]):u.drop p=42::40::u.drop (p+2):=by
 cases e:u.drop p with
 |nil=>simp_all
 |cons a v =>
  cases v with
  |nil=>simp_all
  |cons b v =>
   rw[e]at h;have:a=42/\b=40:=by simpa using h
   rw[<-AyO,e,this.1,this.2];rfl
theorem Apy{a b:Nat}(e:u.drop p=a::b::v):p+2<=u.length:=by have:= congrArg List.length e;grind
theorem W0{k:Nat}(hk:5<=k)(T:Txt K mg t)(ac:Bm P w K mg base (CX1 P w) k t.KD t.KH ["reader","count","depth"] (Aaz t d)) :
  Bm P w K mg base (CX1 P w) (k+1) t.Ul t.Um ["reader","depth"] (AiL t d):=by
 refine T.Jm.F.okX XR ?_;rintro _ _ _ _ H _ Q E Y ⟨r,dx,u,p,e,rfl,he,J,u9,k1,k2⟩;have fr:=AgU u p;have fl:=Asy J.2.1;have np:=Af6 (d:=e) (Aps (u:=u) (p:=p)) fr.2;rw[<-fr.1]at np;refine⟨_,(Ac (Bd (i:=2) XR.nd U NN (Aj ((JQ T).mono (by exact Ar.c3 hk)) Y U T.Eb.m T.Eb.F.kp T.Eb.b .nil Cq (Aa (pv 0) Ab)))
  (Ac (Bl (Fb (El (pv 0) T.Bu.c T.BP.m ((DY T).mono (by exact Ar.d1 hk)) Y T.BP.b .nil Ay (Aa Af Ab)))
   (Ad (Az (Aj (ac.mono (by exact Ar.i1)) Y U T.Mr.m T.Mr.F.kp T.Mr.b .nil Cq (Aa (pv 0) (Aa (pv 2) (Aa (Ak Em (pv 1) Ah) Ab))))))
   Aq)
  (Ad (Az (Aj ((AeC T).mono (by exact Ar.d8 hk)) Y U T.Vh.m T.Vh.F.kp T.Vh.b .nil Cq (Aa (pv 0) (Aa (pv 2) Ab))))))),?_⟩;refine⟨_,U,r,dx,u,p,U,J,λn W hn hz hv=>?_,λaa H' C=>k2 H' C (np.2 aa)⟩;have h:=np.1 W;have f:(u.drop p).drop (Hy (u.drop p)).length=u.drop (p+(fg u p).length):=by rw[AyO];rfl
 have v:p<p+(fg u p).length:=by have:= W.1.1;lia
 have G:=@Auf (fg u p);have L:(upd H r (.ins t.Bg dx (rf u (p+(fg u p).length)))) r=some (.ins t.Bg dx (rf u (p+(fg u p).length))):=Ae;have y:BV r H (upd H r (.ins t.Bg dx (rf u (p+(fg u p).length)))):=BV.upd;generalize af:p+(fg u p).length=p1 at h L y fl v fr np f ⊢;generalize hq:qS (fg u p)=q at h G;have O:q.cl=true/\q≠.closed:=by rw[<-hq];exact Apq
 have back:∀b,(upd H r (.ins t.Bg dx (rf u p1))) b=none->H b=none:=λb j=>by
  by_cases s:b=r
  ·simp_all
  ·exact y.none j s
 generalize upd H r (.ins t.Bg dx (rf u p1))=H1 at L y back ⊢;refine⟨_,U,r,dx,rf u p1,U,L,(Dl u _).2.1,r,dx,u,p1,[42,40],(by rfl),⟨L,fl,J.2.2⟩,Ap,λa0=>?_,λS=>?_⟩
 ·refine⟨_,U,?_⟩;have A:=Awd a0;have R:=Apy A;have ae:=f.trans A;rw[A,AmF]at h;have D:(upd H1 r (.ins t.Bg dx (rf u (p1+[42,40].length)))) r=some (.ins t.Bg dx (rf u (p1+[42,40].length))):=Ae;have o:BV r H1 (upd H1 r (.ins t.Bg dx (rf u (p1+[42,40].length)))):=BV.upd;have N:∀b,(upd H1 r (.ins t.Bg dx (rf u (p1+[42,40].length)))) b=none->H b=none:=λb j=>by
   by_cases s:b=r
   ·rw[s,D]at j;cases j
   ·exact back b (o.none j s)
  refine⟨_,U,_,U,_,U,_,_,U,U,?_⟩;cases d with
  |zero =>
   refine⟨r,dx,u,p1+2,n,?_,⟨D,R,J.2.2⟩,λH' C=>k2 H' ((y.trans o).trans C) ?_⟩
   ·rw[show e=8 by exact Ar.h3 he];rfl
   ·grind
  |succ d =>
   refine⟨r,dx,u,p1+2,n,e+1,U,AA,by exact Ar.a4,⟨D,R,J.2.2⟩,u9,hn,λa xs X H' s1 B M na n1 hA hG a6 I=>?_,λH' C j=>k2 H' ((y.trans o).trans C) ?_⟩
   ·refine k1 a _ X H' ((y.trans o).trans s1) B AA (N a na) (AtJ.imp (λb j _=>N b j) _ _ _ hA) hG ?_ ?_
    ·obtain⟨x,ys,r',rfl,q1,q2⟩:=a6;exact⟨hv,_,x,ys,r',ae,U,q1,q2⟩
    rw[h,yF ⟨G.mpr (λz=>by have:=hz.mpr z;exact Ar.j9 n1 this),by exact Ar.d9 (Ar.d2 he)⟩,I];exact Apn U (λz=>yG U z) (λz=>AC)
   ·rw[h];rcases j with j|j
    ·exact yE λz=>G.mp z.1 (hz.mp j)
    ·simp_all
 ·refine⟨_,U,_,U,_,U,r,dx,u,p1,n,q,e,U,⟨L,fl,J.2.2⟩,u9,hn,O.1,O.2,fr.2,λ_=>S,λa ns X H' s1 B M na hA ab hl Z I=>?_,λH' C j=>k2 H' (y.trans C) (by rw[h,j])⟩;refine k1 a (.pth (ofN (n::ns))) X H' (y.trans s1) B (by exact Ar.b8 v M) (back a na) (by cases d<;>exact hA) ?_ ?_ (by rw[h,I])
  case refine_2 =>
   have q:((u.drop p).drop (Hy (u.drop p)).length).take 2≠[42,40]/\∃l,ofN (n::ns)=ofN (vlN (Hy (u.drop p))::l)/\PTr ((u.drop p).drop (Hy (u.drop p)).length) l (u.drop X):=⟨by rw[f];exact S,ns,by rw[hv];rfl,by rw[f];exact Z⟩;cases d<;>exact q
  have g:∃n0 l,ofN (n::ns)=ofN (n0::l)/\(∀m∈n0::l,m<100)/\l.length<=5000:=⟨n,ns,U,λm hm=>by
   rcases yC.mp hm with z|z
   ·rw[z];exact hn
   ·exact ab m z,hl⟩
  cases d<;>exact g
theorem U8{k:Nat}(hk:1<=k)(T:Txt K mg t)(O:Bm P w K mg base (CX1 P w) k t.Ul t.Um ["reader","depth"] (AiL t d)) :
  Bm P w K mg base (CX1 P w) (k+1) t.Ii t.Ij ["reader","depth"] (Aay t d):=by
 refine T.Fl.F.okX V9 ?_;rintro _ _ _ _ H _ Q E hr ⟨r,dx,u,p,e,rfl,he,hR,u9,k1,k2⟩;refine⟨_,(Ac (Bd (i:=2) V9.nd U NN (Cm (Aa (Aj (O.mono (by exact Ar.i1)) hr U T.Jm.m T.Jm.F.kp T.Jm.b .nil Cq (Aa (pv 0) (Aa (pv 1) Ab))) Ab)))
  (Ac (Xy λhfr=>(Xn (AfY O5 hfr) (Fb (El (pv 0) T.Bu.c T.BP.m ((DY T).mono (by exact Ar.c5 hk)) hr T.BP.b .nil Ay (Aa Af Ab)))
   (Ad (Bj (Bx (K:=K) zM zL zQ Dg (pv 2) (Aa (Aj (O.mono (by exact Ar.i1)) hr U T.Jm.m T.Jm.F.kp T.Jm.b .nil Cq (Aa (pv 0) (Aa (pv 1) Ab))) Ab))))))
  (Ad (Az (pv 2))))),?_⟩;refine⟨_,U,_,U,r,dx,u,p,e,U,he,hR,u9,λa x0 p1 H1 X A an na hA ag aj al=>?_,λH1 X B=>k2 H1 X B⟩;refine⟨(by show 1<=sizeLine;decide),λli l=>?_⟩;have s2:Aw H1 (upd H1 li (.lst [.ref a])):=.upd l;have ae:(upd H1 li (.lst [.ref a])) li=some (.lst ([a].map V.ref)):=Ae;have n:li≠r:=λz=>by rw[z,A.1]at l;cases l
 have W:=X.none l n;have a1:AgX t (upd H1 li (.lst [.ref a])) (λb=>H b=none/\b≠li) d [a] [x0]:=⟨U,AB,λi b x e1 e2=>by
  cases i with
  |zero =>
   cases e1;cases e2;exact AtJ.keep (Kp.same s2) d _ _ (AtJ.imp (λb B ⟨o,ho⟩=>⟨B,λz=>by rw[z,l]at ho;cases ho⟩) d _ _ hA)
  |succ i=>simp at e1⟩
 refine⟨λm σ H2=>∃(q:Nat)(rs:NW)(xs:List It),σ=[some (.ref r),some (.int (e:Int)),some (.ref li)]/\BV r H H2/\Rd t H2 r dx u q/\p+xs.length<=q/\xs≠[]/\(∀x∈xs,Gd d x)/\acc .start e (u.drop p)=ai e (u.drop q)/\H2 li=some (.lst (rs.map V.ref))/\AgX t H2 (λb=>H b=none/\b≠li) d rs xs/\(∀ys r,RIm (RI d) (u.drop q) ys r->RIs d (u.drop p) (xs++ys) r)/\m=u.length-q,
  ⟨_,p1,[a],[x0],U,X.trans (Af7 s2),⟨s2 _ _ A.1,A.2⟩,an,AB,(λx C=>by rw[zF.mp C];exact ag),al,ae,a1,(λys r h=>⟨x0,ys,_,U,aj,h⟩),U⟩,?_⟩;rintro m σ H2 ⟨q,rs,xs,rfl,s3,f,ao,ah,M,s,J,j,S,rfl⟩;have q9:=f.2.1;refine⟨_,U,r,dx,rf u q,U,f.1,(Dl u _).2.1,r,dx,u,q,[32],(by rfl),f,Ap,λac=>?_,λR=>?_⟩
 ·refine⟨_,U,?_⟩;have v:=Apu ac;have ak:=AgW v;rw[v,Apx]at s;have D:(upd H2 r (.ins t.Bg dx (rf u (q+[32].length)))) r=some (.ins t.Bg dx (rf u (q+[32].length))):=Ae;have G:(upd H2 r (.ins t.Bg dx (rf u (q+[32].length)))) li=some (.lst (rs.map V.ref)):=by rw[Ao n];exact J
  have Z:BV r H2 (upd H2 r (.ins t.Bg dx (rf u (q+[32].length)))):=BV.upd;generalize upd H2 r (.ins t.Bg dx (rf u (q+[32].length)))=H4 at D G Z ⊢;refine⟨_,λσ' H' h=>h,_,U,.inl ⟨U,_,yW G⟩,_,U,_,U,r,dx,u,q+1,e,U,he,⟨D,ak,f.2.2⟩,u9,λb y p5 H5 Y N ap nb hB am a0 a6=>?_,λH5 Y B=>k2 H5 ((s3.trans Z).trans Y) (by rw[s,B])⟩;have I:=Y _ _ n G;have L:rs.length<=5000:=by
   have:= j.len;omega
  refine⟨_,_,_,U,U,I,(by rw[AxR];exact Af5 (by exact Ar.a2 L)),?_⟩;have sB:=Z.trans Y;have af:=j.keep (Kp.but sB f.1 (Asz T) (As0 T));have aa:AtJ t H5 (λb=>H b=none/\b≠li) d b y:=AtJ.imp (λc hc _=>⟨(s3.trans Z).none hc (λz=>by rw[z,D]at hc;cases hc),λz=>AC⟩) d _ _ hB;have nF:¬(H li=none/\li≠li):=λz=>z.2 U;have ab:=(af.snoc aa (by exact Ar.g3 L)).keep (Kp.app (o:=.lst (rs.map V.ref++[V.ref b])) I nF);refine⟨u.length-p5,AA,p5,rs++[b],xs++[y],U,?_,⟨?_,N.2⟩,AD,AB,?_,by rw[s,a6],?_,ab,(λys r h=>?_),U⟩
  ·intro c o hc ec;rw[Ao (Bf ec W)];exact sB c o hc (s3 c o hc ec)
  ·rw[Ao n.symm];exact N.1
  ·intro x C;rcases zG.mp C with C|C
   ·exact M x C
   ·rw[zF.mp C];exact am
  ·rw[Ae,AxV];rfl
  ·rw[Ay0];refine S _ _ ?_;rw[v];exact RIm.cons a0 h
 ·refine⟨_,U,?_⟩;have l0:1<=xs.length:=by
   grind
  exact⟨_,U,k1 li rs xs q H2 s3 f W J ⟨j.len,j.le,λi r x e1 e2=>AtJ.imp (λb B _=>B.1) d _ _ (j.at_ i r x e1 e2)⟩ M ah AA AA (AgV R) (by have:= S [] _ (RIm.nil (AgV R));rw[Ayr]at this;exact this) s⟩
theorem Auj{k:Nat}{ps:NY}:Bm P w K mg base CX k f fd ps (λ_ _ _ _=>False):=⟨λ_ _ _ _ h=>h.elim,λ_ _ _ _ _ _ _ _ _ _ _ _ _ h=>h.elim⟩
theorem Af8(T:Txt K mg t):∀d:Nat,Bm P w K mg base (CX1 P w) (4*d+7) t.Ii t.Ij ["reader","depth"] (Aay t d)
 | 0=>U8 Ap T (W0 Ap T ((AbL T Auj).mono Ap))
 |d+1=>U8 (k:=4*d+10) (by exact Ar.a4) T (W0 (by exact Ar.a4) T (AdI (by exact Ar.a4) T (Af8 T d)))
def Wri (u:NV):Prop:=u=[]\/acc .start 0 u=true
def Prs (u:NV)(xs:List It):Prop:=(u=[]/\xs=[])\/(u≠[]/\RIs 8 u xs [])
theorem Prs.det(h:Prs u xs)(g:Prs u ys):xs=ys:=by
 rcases h with h|h
 ·rcases g with g|g
  ·rw[h.2,g.2]
  ·exact yG h.1 g.1
 ·rcases g with g|g
  ·exact yG g.1 h.1
  ·exact(h.2.det g.2).1
inductive ArI (t:Adr)(vs:LI)(H:Hp)(Q:VK)(E:XK):Prop
|mk(u:NV)(_:vs=[.str (tx u)])(_:u.length<=5000)(_:(∀(li:Nn)(rs:NW)(xs:List It)(H':Hp),Wri u->Aw H H'->H li=none->H' li=some (.lst (rs.map V.ref))->AiJ t H' 8 rs xs->(∀x∈xs,Gd 8 x)->Prs u xs->Q (.ref li) H'))(_:(∀H',¬Wri u->Aw H H'->E (.ref t.Dz) none H'))
theorem AgZ(T:Txt K mg t):Bm P w K mg base (CX1 P w) 40 t.AcX t.AcY ["text"] (ArI t):=by
 refine T.YT.F.okX Tz ?_;rintro _ _ _ _ H _ Q E J ⟨u,rfl,M,k1,k2⟩;refine⟨_,(Ac (Bl (Ai Cj (pv 0) Af (Av _))
   (Ad (Az (Cm Ab)))
   Aq)
  (Ac (Bd (i:=1) Tz.nd U NN (Ez T.Bu.m ((M4 T).mono Ap) J U T.Ai0 T.DX.b .nil Ay (Aa (pv 0) Ab)))
  (Ac (Bd (i:=2) Tz.nd U NN (Aj ((Af8 T 8).mono Ap) J U T.Fl.m T.Fl.F.kp T.Fl.b .nil Cq (Aa (pv 1) (Aa Ah Ab))))
  (Ac (Bl (Hr (Fb (Th (pv 1) T.Bu.c T.Ey.m ((Kq T).mono Ap) J T.Ey.b .nil Ay)))
   (Ad (DR T.J8 U T.Lb (Aa Af Ab)))
   Aq)
  (Ad (Az (pv 2))))))),?_⟩;refine⟨_,U,U,_,U,?_⟩;by_cases f:u=[]
 ·exact I9 (by rw[f];exact congrArg V.str At) ⟨Ayf _,λli a=>k1 li [] [] _ (.inl f) (.upd a) a Ae ⟨U,AB,λi r x y _=>by simp at y⟩ (λx N=>by simp at N) (.inl ⟨f,U⟩)⟩
 refine DQ (λz=>?_) ?_
 ·injection z with z;exact f (Ja (z.trans At))
 refine⟨_,U,λr dx l I W=>⟨r,dx,u,U,Ae,U,?_⟩⟩;rw[Kv];have L:Rd t (upd (upd H dx (.own r)) r (.ins t.Bg dx (rf u 0))) r dx u 0:=⟨Ae,Ayf _,by exact Ar.a2 M⟩;have G:Aw H (upd (upd H dx (.own r)) r (.ins t.Bg dx (rf u 0))):=(Aw.upd I).over l;generalize upd (upd H dx (.own r)) r (.ins t.Bg dx (rf u 0))=H1 at L G ⊢;have B:∀{H'},BV r H1 H'->Aw H H':=λj b o e=>j b o (Bf e l) (G b o e);refine⟨_,U,r,dx,u,0,0,U,Ap,L,M,λli rs xs s H' j h C a A R X S O p Y d=>?_,λH' j Z=>k2 H' (λz=>?_) (B j)⟩
 ·rw[AyY]at d;refine⟨_,U,r,dx,rf u s,U,h.1,(Dl u _).1,r,dx,u,s,U,h,_,U,?_⟩;by_cases D:s=u.length
  ·rw[zN D];rw[D,Az4]at d;exact⟨_,U,k1 li rs xs H' (.inr (by rw[d];rfl)) (B j) (G.free C) a ⟨A.len,A.le,λi r x y e2=>AtJ.to 8 _ _ (A.at_ i r x y e2)⟩ R (.inr ⟨f,AC⟩)⟩
  ·rw[zJ D];refine Kz ⟨Ap,k2 H' (λz=>?_) (B j)⟩;rcases z with z|z
   ·exact f z
   ·rw[d]at z;cases e9:u.drop s with
    |nil =>
     have h1:=congrArg List.length e9;rw[Ays,Ayu]at h1;have h2:=h.2.1;lia
    |cons c v =>
     rw[e9]at z p;by_cases n:c=41
     ·rw[n]at z;cases z
     ·rw[As1 (λq=>p (by rw[q];rfl)) n]at z;cases z
 ·rcases z with z|z
  ·exact f z
  ·simp_all
end
theorem Sms.Akg:∀{xs:List It},(∀x∈xs,x.Sm)->Sms xs
 |[],_=>by simp only [Sms]
 |x::xs,h=>by
  exact⟨h x AxW,Sms.Akg λy a=>h y (AxY _ a)⟩
theorem Gd.sm:∀(d:Nat)(x:It),Gd d x->x.Sm
 |d,.pth ss,h=>by
  have c:∃a ns,ss=ofN (a::ns)/\(∀n∈a::ns,n<100)/\ns.length<=5000:=by cases d<;>exact h
  obtain⟨a,ns,rfl,hn,_⟩:=c;refine⟨by simp[ofN],λs e=>?_⟩;obtain⟨n,b,rfl⟩:=yB.mp e;have:= hn n b;show n<=400;lia
 | 0,.tms n xs,h=>h.elim
 |d+1,.tms n xs,h=>by
  obtain⟨h1,_,_,_,i⟩:=h;exact⟨h1,Sms.Akg λy f=>Gd.sm d y (i y f)⟩
section
variable {K:NO}{base:Heap}{t:Adr}
structure Rw (u:NV)(xs:List It):Prop where
 w:Wri u
 g:∀x∈xs,Gd 8 x
 r:Prs u xs
inductive ArJ (t:Adr)(vs:LI)(H:Hp)(Q:VK)(E:XK):Prop
|mk(u:NV)(_:vs=[.str (tx u)])(_:u.length<=5000)(_:(∀xs q H',Rw u xs->szs xs<=400->Aw H H'->H q=none->H' q=some (.lst (vI (nus xs)))->Q (.ref q) H'))(_:(∀xs H',Rw u xs->400<szs xs->Aw H H'->E (.ref t.Ca) none H'))(_:(∀H',¬Wri u->Aw H H'->E (.ref t.Dz) none H'))
theorem Aha(T:Txt K mg t):Bm P w K mg base (CX1 P w) 41 t.WY t.Xa ["text"] (ArJ t):=by
 refine T.DW.F.okX AaE ?_;rintro _ _ _ _ H _ Q E h ⟨u,rfl,y,k1,k2,k3⟩;refine⟨_,(Ac (Bd (i:=1) AaE.nd U NN (Aj ((AgZ T).mono Ap) h U T.YT.m T.YT.F.kp T.YT.b .nil Cq (Aa (pv 0) Ab)))
  (Ac (Bl (Ai HD (Aj ((Api T 8).mono Ap) h U T.Ht.m T.Ht.F.kp T.Ht.b .nil Ay (Aa (pv 1) Ab)) (Ce (v:=.int 400) U T.Adn.choose_spec ⟨_,U⟩) (Av _))
   (Ad (DR T.Mu U T.QW (Aa Af Ab)))
   Aq)
  (Ad (Az (Aj ((Apm T 8).mono Ap) h U T.Gy.m T.Gy.F.kp T.Gy.b .nil Ay (Aa (pv 1) Ab)))))),?_⟩;refine⟨_,U,u,U,y,λli rs xs H1 hw a p d n f l=>?_,λH1 hw a=>k3 H1 hw a⟩;refine⟨_,U,li,rs,_,U,d,n,λH2 e=>⟨_,_,U,U,_,U,CP (λc=>?_) (λc=>?_)⟩⟩
 ·exact⟨Ap,k2 xs H2 ⟨hw,f,l⟩ c (a.trans e)⟩
 ·have j:=Int.not_lt.mp c;exact⟨_,U,li,rs,xs,U,e _ _ d,n.same e,Sms.Akg λx z=>Gd.sm 8 x (f x z),j,λq H3 o r s=>k1 xs q H3 ⟨hw,f,l⟩ j ((a.trans e).trans o) ((a.trans e).free r) s⟩
structure NL (H:Hp)(y:Nn)(rs:NW)(tss:NA):Prop where
 h:H y=some (.lst (rs.map V.ref))
 l:rs.length=tss.length
 r:∀(i:Nat)(a:Nn)(ks:NF),rs[i]?=some a->tss[i]?=some ks->H a=some (.lst (vI ks))
theorem NL.same{y:Nn}(N:NL H y rs tss)(s:Aw H H'):NL H' y rs tss:=⟨s _ _ N.h,N.l,λi a ks h1 h2=>s _ _ (N.r i a ks h1 h2)⟩
theorem NL.at{H:Hp}{y:Nn}{rs:NW}{tss:NA}(N:NL H y rs tss){i:Nat}{a:V}(h:(rs.map V.ref)[i]?=some a):∃r ks,a=.ref r/\rs[i]?=some r/\tss[i]?=some ks/\H r=some (.lst (vI ks)):=by
 rw[AxZ]at h;cases e:rs[i]? with
 |none=>simp_all
 |some r =>
  rw[e]at h;cases h;have hi:i<tss.length:=by rw[<-N.l];exact(zC.mp e).1
  exact⟨r,tss[i],U,U,AxT hi,N.r i r _ e (AxT hi)⟩
def Apz (c:Nat):Prop:=1<=c/\c<=40
def Alb (th:NF)(tss:NA):Prop:=Apz th.length/\Apz tss.length/\(∀v∈th,0<=v/\v<40)/\∀ks∈tss,Rs ks
def ArK (tr:NF)(n:Nat):Prop:=Apz tr.length/\∀v∈tr,0<=v/\v<(n:Int)
def Bd3 (th:NF)(tss:NA)(tr:NF):Prop:=th.length<=1000/\tss.length<=1000/\tr.length<=1000/\∀ks∈tss,ks.length<=2000
theorem Ft.set{tr:NF}(F:Ft th tss tr):Alb th tss:=⟨⟨F.m1,F.m40⟩,⟨F.t1,F.t40⟩,F.hth,F.hti⟩
theorem Ft.trd{tr:NF}(F:Ft th tss tr):ArK tr tss.length:=⟨⟨F.n1,F.n40⟩,F.htr⟩
theorem Awf{tr:NF}(h:Alb th tss)(g:ArK tr tss.length):Ft th tss tr:=⟨h.1.1,h.1.2,h.2.1.1,h.2.1.2,g.1.1,g.1.2,h.2.2.1,h.2.2.2,g.2⟩
inductive AmH (t:Adr)(vs:LI)(H:Hp)(Q:VK)(E:XK):Prop
|mk(c:Nat)(_:vs=[.int (c:Int)])(_:(Apz c->Q .non H))(_:(¬Apz c->E (.ref t.BZ) none H))
theorem Gb(T:Txt K mg t):Bm P w K mg base (CX1 P w) 1 t.JG t.JH ["count"] (AmH t):=by
 refine T.Cz.F.okX SX ?_;rintro _ _ _ _ H _ Q E a ⟨c,rfl,k1,k2⟩;refine⟨_,(Ad (Bl (PW.pt (pw_or (Ai Hf (pv 0) Ah (Av _)) (pw_or1 (Ai HD (pv 0) (Ce (v:=.int 40) U T.Ek.choose_spec ⟨_,U⟩) (Av _)))))
   (Ad (DR T.Hx U T.Js (Aa Af Ab)))
   Aq)),?_⟩;refine⟨_,U,_,_,U,U,_,U,CP (λh=>Kz ⟨Ap,k2 λz=>?_⟩) (λg1=>?_)⟩
 ·have:= z.1;exact Ar.j8 this (Ar.f6 h)
 refine⟨_,U,_,_,U,U,_,U,CP (λh=>⟨Ap,k2 λz=>?_⟩) (λg2=>k1 ⟨by exact Ar.f6 (Ar.f7 g1),AA⟩)⟩;have:= z.2;exact Ar.j8 this (Ar.f6 h)
inductive AmI (t:Adr)(vs:LI)(H:Hp)(Q:VK)(E:XK):Prop
|mk(v:Int)(_:vs=[.int v])(_:(0<=v/\v<40->Q .non H))(_:(¬(0<=v/\v<40)->E (.ref t.BZ) none H))
theorem SQ(T:Txt K mg t):Bm P w K mg base (CX1 P w) 1 t.Wc t.We ["shaft"] (AmI t):=by
 refine T.Gx.F.okX AcL ?_;rintro _ _ _ _ H _ Q E a ⟨v,rfl,k1,k2⟩;refine⟨_,(Ad (Bl (PW.pt (pw_or (Ai Hf (pv 0) Ah (Av _)) (pw_or1 (Ai Anf (pv 0) (Ce (v:=.int 40) U T.Ael.choose_spec ⟨_,U⟩) (Av _)))))
   (Ad (DR T.Hx U T.Js (Aa Af Ab)))
   Aq)),?_⟩;refine⟨_,U,_,_,U,U,_,U,CP (λh=>Kz ⟨Ap,k2 λz=>?_⟩) (λg1=>?_)⟩
 ·exact Ar.g1 h z.1
 refine⟨_,U,_,_,U,U,_,U,CP (λh=>⟨Ap,k2 λz=>?_⟩) (λg2=>k1 ⟨by exact Ar.f7 g1,by exact Ar.f9 g2⟩)⟩;omega
def RsI (ks:NF)(i:Nat):Prop:=(∀(j:Nat)(a:Int),j<i->ks[j]?=some a->0<=a/\a<40)/\∀(j:Nat)(a b:Int),j+1<i->ks[j]?=some a->ks[j+1]?=some b->a<b
theorem RsI.all(h:RsI ks ks.length):Rs ks:=⟨λi a b f c=>h.2 i a b (zC.mp c).1 f c,λk hk=>by
 obtain⟨j,d,e⟩:=AzK hk;exact h.1 j k d (by rw[<-e];exact AxT d)⟩
theorem RsI.step(hi:i<ks.length)(h:RsI ks i)(h1:0<=ks[i]/\ks[i]<40)(h2:∀j a,j+1=i->ks[j]?=some a->a<ks[i]):RsI ks (i+1):=by
 refine⟨λj a f c=>?_,λj a b f c d=>?_⟩
 ·by_cases e:j<i
  ·exact h.1 j a e c
  ·have:j=i:=AA
   subst this;rw[AxT hi]at c;cases c;exact h1
 ·by_cases e:j+1<i
  ·exact h.2 j a b e c d
  ·have:j+1=i:=AA
   subst this;rw[AxT hi]at d;cases d;exact h2 j a U c
inductive ArL (t:Adr)(vs:LI)(H:Hp)(Q:VK)(E:XK):Prop
|mk(a:Nn)(ks:NF)(_:vs=[.ref a])(_:H a=some (.lst (vI ks)))(_:ks.length<=2000)(_:(Rs ks->Q .non H))(_:(¬Rs ks->E (.ref t.BZ) none H))
theorem AeD(T:Txt K mg t):Bm P w K mg base (CX1 P w) 2 t.AaV t.AaW ["tie"] (ArL t):=by
 refine T.Ve.F.okX XN ?_;rintro _ _ _ _ H _ Q E u ⟨a,ks,rfl,e,s,k1,k2⟩;refine⟨_,(Ad (Xy λhfr=>(DP (AfY O5 hfr) U (Ea U T.Es (Aa (Bb (Ax) U T.Cd Bv (Aa (pv 0) Ab)) Ab)) (Bs (i:=1) XN.nd U NN)
   (Ac (Bj (Aj ((SQ T).mono Ap) u U T.Gx.m T.Gx.F.kp T.Gx.b .nil Cq (Aa (Bq (Be (K:=K)) (pv 0) (pv 1) (λ_ _=>rfl)) Ab)))
   (Ad (Bl (PW.pt (pw_and (Ai HD (pv 1) Ah (Av _)) (pw_and1 (Ai AuW (Bq (Be (K:=K)) (pv 0) (pv 1) (λ_ _=>rfl)) (Bq (Be (K:=K)) (pv 0) (Ak Q7 (pv 1) Ah) (λ_ _=>rfl)) (Av _)))))
    (Ad (DR T.Hx U T.Js (Aa Af Ab)))
    Aq)))))),?_⟩;refine⟨_,U,_,_,U,.inl (yW e),_,U,(by exact Ar.a7),(by rw[Cp];exact Ar.a8 s),?_⟩;rw[Ayi,Cp];refine GK (λi σ H2=>∃v,σ=[some (.ref a),v]/\H2=H/\RsI ks i) ⟨none,U,U,λj a h=>yG h AA,λj a b h=>yG h AA⟩ ?_ ?_
 ·rintro i σ H2 hi ⟨v,rfl,rfl,R⟩;have p:atI (vI ks) (0+(i:Int))=some (.int ks[i]):=Bw (by exact Ar.a5) (by rw[z0];exact JW (AxT hi));refine⟨_,U,_,U,_,_,_,_,U,U,yW e,p,ks[i],U,λn=>?_,λq=>k2 λz=>q (z.2 _ (Ayp hi))⟩;refine⟨_,U,_,_,U,U,_,U,?_⟩;by_cases l:i=0
  ·subst l;exact GQ ⟨_,U,U,R.step hi n λj a o=>yG o AA⟩
  ·have c:i-1<ks.length:=by exact Ar.c5 hi
   have e2:atI (vI ks) (0+(i:Int)-1)=some (.int ks[i-1]):=Bw AA (by rw[show(0+(i:Int)-1).toNat=i-1 by omega];exact JW (AxT c));refine I9 (by exact Ar.h9 hi l) ⟨_,U,_,U,_,_,_,_,U,U,yW e,p,_,U,_,U,_,_,U,U,_,_,_,_,U,U,yW e,e2,_,_,U,U,_,U,CP (λr=>?_) (λf=>?_)⟩
   ·refine⟨Ap,k2 λz=>?_⟩;have:= z.1 (i-1) ks[i-1] ks[i] (AxT c) (by rw[show i-1+1=i by exact Ar.c8 l];exact AxT hi);lia
   ·refine⟨_,U,U,R.step hi n λj a o d=>?_⟩;have:j=i-1:=AA
    subst this;rw[AxT c]at d;cases d;exact Ar.f9 f
 ·rintro σ H2 ⟨v,rfl,rfl,R⟩;exact k1 R.all
inductive AiM (t:Adr)(vs:LI)(H:Hp)(Q:VK)(E:XK):Prop
|mk(x:Nn)(y:Nn)(rs:NW)(th:NF)(tss:NA)(_:vs=[.ref x,.ref y])(_:H x=some (.lst (vI th)))(_:NL H y rs tss)(_:th.length<=1000)(_:tss.length<=1000)(_:(∀ks∈tss,ks.length<=2000))(_:(Alb th tss->Q .non H))(_:(¬Alb th tss->E (.ref t.BZ) none H))
theorem Zz(T:Txt K mg t):Bm P w K mg base (CX1 P w) 3 t.RD t.RG ["threading","ties"] (AiM t):=by
 refine T.J1.F.okX Jb ?_;rintro _ _ _ _ H _ Q E p ⟨x,y,rs,th,tss,rfl,s,N,bl1,bl2,bl3,k1,k2⟩;refine⟨_,(Ac (Bj (Aj ((Gb T).mono Ap) p U T.Cz.m T.Cz.F.kp T.Cz.b .nil Cq (Aa (Bb (Ax (K:=K)) U T.Cd Bv (Aa (pv 0) Ab)) Ab)))
  (Ac (Bj (Aj ((Gb T).mono Ap) p U T.Cz.m T.Cz.F.kp T.Cz.b .nil Cq (Aa (Bb (Ax (K:=K)) U T.Cd Bv (Aa (pv 1) Ab)) Ab)))
  (Ac (Xy λhfr=>(DP (AfY O5 hfr) U (BJ (K:=K) (pv 0)) (Bs (i:=2) Jb.nd U NN)
   (Ad (Bj (Aj ((SQ T).mono Ap) p U T.Gx.m T.Gx.F.kp T.Gx.b .nil Cq (Aa (pv 2) Ab))))))
  (Ad (Xy λhfr=>(DP (AfY O5 hfr) U (BJ (K:=K) (pv 1)) (Bs (i:=3) Jb.nd U NN)
   (Ad (Bj (Aj ((AeD T).mono Ap) p U T.Ve.m T.Ve.F.kp T.Ve.b .nil Cq (Aa (pv 3) Ab)))))))))),?_⟩;refine⟨_,U,_,_,U,.inl (yW s),th.length,(by rw[Cp]<;>rfl),λg1=>?_,λb=>k2 λz=>b z.1⟩;refine⟨_,U,_,_,U,.inl (yW N.h),tss.length,(by rw[AxR,N.l]<;>rfl),λg2=>?_,λb=>k2 λz=>b z.2.1⟩;refine⟨_,U,_,U,⟨_,yW s⟩,Ff (λi σ H2=>∃d f,σ=[some (.ref x),some (.ref y),d,f]/\H2=H/\∀v∈th.take i,0<=v/\v<40) ⟨none,none,U,U,λv h=>(by simp at h)⟩ (λi σ H2 _ ⟨_,_,_,e,_⟩=>e▸yW s) ?_ ?_⟩
 ·rintro i B σ H2 j ⟨d,f,rfl,rfl,c⟩;obtain⟨z,A,rfl⟩:=Ln j;refine⟨_,U,z,U,λg=>?_,λb=>k2 λw=>b (w.2.2.1 z (Ayb A))⟩;refine⟨_,_,U,U,λv n=>?_⟩;rw[Aya,A]at n;rcases zG.mp n with h|h
  ·exact c v h
  ·have e:v=z:=by simpa using h
   rw[e];exact g
 ·rintro σ H2 ⟨d,f,rfl,rfl,c⟩;rw[Cp,Ayg]at c;refine⟨_,U,_,U,⟨_,yW N.h⟩,Ff (λi σ H3=>∃d f,σ=[some (.ref x),some (.ref y),d,f]/\H3=H2/\∀ks∈tss.take i,Rs ks) ⟨d,f,U,U,λks h=>(by simp at h)⟩ (λi σ H3 _ ⟨_,_,_,e,_⟩=>e▸yW N.h) ?_ ?_⟩
  ·rintro i B σ H3 j ⟨d,f,rfl,rfl,a⟩;obtain⟨r,ks,rfl,_,o,q⟩:=N.at j;have u:=Ayb o;refine⟨_,U,r,ks,U,q,bl3 ks u,λg=>?_,λb=>k2 λw=>b (w.2.2.2 ks u)⟩;refine⟨_,_,U,U,λv n=>?_⟩;rw[Aya,o]at n;rcases zG.mp n with h|h
   ·exact a v h
   ·simp_all
  ·rintro σ H3 ⟨d,f,rfl,rfl,a⟩;rw[AxR,N.l,Ayg]at a;exact k1 ⟨g1,g2,c,a⟩
inductive Ahb (t:Adr)(vs:LI)(H:Hp)(Q:VK)(E:XK):Prop
|mk(z:Nn)(tr:NF)(n:Nat)(_:vs=[.ref z,.int (n:Int)])(_:H z=some (.lst (vI tr)))(_:tr.length<=1000)(_:(ArK tr n->Q .non H))(_:(¬ArK tr n->E (.ref t.BZ) none H))
theorem Xl(T:Txt K mg t):Bm P w K mg base (CX1 P w) 2 t.Qg t.Qh ["treading","treadles"] (Ahb t):=by
 refine T.Il.F.okX MJ ?_;rintro _ _ _ _ H _ Q E p ⟨z,tr,n,rfl,f,bl,k1,k2⟩;refine⟨_,(Ac (Bj (Aj ((Gb T).mono Ap) p U T.Cz.m T.Cz.F.kp T.Cz.b .nil Cq (Aa (Bb (Ax) U T.Cd Bv (Aa (pv 0) Ab)) Ab)))
  (Ad (Xy λhfr=>(DP (AfY O5 hfr) U (BJ (K:=K) (pv 0)) (Bs (i:=2) MJ.nd U NN)
   (Ad (Bl (PW.pt (pw_or (Ai Hf (pv 2) Ah (Av _)) (pw_or1 (Ai Anf (pv 2) (pv 1) (Av _)))))
    (Ad (DR T.Hx U T.Js (Aa Af Ab)))
    Aq)))))),?_⟩;refine⟨_,U,_,_,U,.inl (yW f),tr.length,(by rw[Cp]<;>rfl),λg1=>?_,λb=>k2 λw=>b w.1⟩;refine⟨_,U,_,U,⟨_,yW f⟩,Ff (λi σ H2=>∃c,σ=[some (.ref z),some (.int (n:Int)),c]/\H2=H/\∀v∈tr.take i,0<=v/\v<(n:Int)) ⟨none,U,U,λv h=>(by simp at h)⟩ (λi σ H2 _ ⟨_,_,e,_⟩=>e▸yW f) ?_ ?_⟩
 ·rintro i q σ H2 d ⟨c,rfl,rfl,a⟩;obtain⟨v,o,rfl⟩:=Ln d;have j:=Ayb o;refine⟨_,U,_,_,U,U,_,U,CP (λh=>Kz ⟨Ap,k2 λw=>?_⟩) (λg3=>?_)⟩
  ·have:= w.2 v j;exact Ar.g1 h this.1
  refine⟨_,U,_,U,_,_,U,U,_,U,CP (λh=>⟨Ap,k2 λw=>?_⟩) (λr=>?_)⟩
  ·have:= w.2 v j;lia
  refine⟨_,U,U,λy l=>?_⟩;rw[Aya]at l;rcases zG.mp l with h|h
  ·exact a y h
  ·simp_all
 ·rintro σ H2 ⟨c,rfl,rfl,a⟩;rw[Cp,Ayg]at a;exact k1 ⟨g1,a⟩
def Alc (r:Nn)(H H':Hp):Prop:=∀b o,b≠r->H b=some o->H' b=some o
def df (a b c:Nn):List (Str×V):=[("threading",.ref a),("ties",.ref b),("treading",.ref c)]
theorem Awg(a b c:Nn):(df a b c).lookup ("threading":Str)=some (V.ref a):=rfl
theorem Awh(a b c:Nn):(df a b c).lookup ("ties":Str)=some (V.ref b):=rfl
theorem Awi(a b c:Nn):(df a b c).lookup ("treading":Str)=some (V.ref c):=rfl
theorem NL.other{y:Nn}{fs:List (Str×V)}(N:NL H y rs tss)(b:Alc r H H')(c:H r=some (.ins C dx fs)):NL H' y rs tss:=
 ⟨b _ _ (λe=>by have:= N.h;rw[e,c]at this;cases this) N.h,N.l,λi a ks h1 h2=>b _ _ (λe=>by have:= N.r i a ks h1 h2;rw[e,c]at this;cases this) (N.r i a ks h1 h2)⟩
structure IsD (t:Adr)(H:Hp)(d dx a b c:Nn)(qs:NW)(th:NF)(tss:NA)(tr:NF):Prop where
 o:H d=some (.ins t.GZ dx (df a b c))
 ha:H a=some (.lst (vI th))
 hb:NL H b qs tss
 hc:H c=some (.lst (vI tr))
theorem IsD.same{d b c:Nn}{tr:NF}(D:IsD t H d dx a b c qs th tss tr)(s:Aw H H'):IsD t H' d dx a b c qs th tss tr:=⟨s _ _ D.o,s _ _ D.ha,D.hb.same s,s _ _ D.hc⟩
inductive AmJ (t:Adr)(vs:LI)(H:Hp)(Q:VK)(E:XK):Prop
|mk(r:Nn)(dx:Nn)(x:Nn)(y:Nn)(z:Nn)(rs:NW)(th:NF)(tss:NA)(tr:NF)(_:vs=[.ref r,.ref x,.ref y,.ref z])(_:H r=some (.ins t.GZ dx []))(_:H x=some (.lst (vI th)))(_:NL H y rs tss)(_:H z=some (.lst (vI tr)))(_:Bd3 th tss tr)(_:(Ft th tss tr->∀a b c qs H',Alc r H H'->H a=none->H b=none->H c=none->(∀q∈qs,H q=none)->IsD t H' r dx a b c qs th tss tr->Q .non H'))(_:(¬Ft th tss tr->E (.ref t.BZ) none H))
theorem M5(T:Txt K mg t):Bm P w K mg base (CX1 P w) 4 t.Jg t.PB ["self","threading","ties","treading"] (AmJ t):=by
 refine T.Jt.F.okX Ym ?_;rintro _ _ _ _ H _ Q E hr ⟨r,dx,x,y,z,rs,th,tss,tr,rfl,M,hx,N,hz,B,kq,kb⟩;have hsz:=z7;refine⟨_,(Ac (Bj (Aj ((Zz T).mono Ap) hr U T.J1.m T.J1.F.kp T.J1.b .nil Cq (Aa (pv 1) (Aa (pv 2) Ab))))
  (Ac (Bj (Aj ((Xl T).mono Ap) hr U T.Il.m T.Il.F.kp T.Il.b .nil Cq (Aa (pv 3) (Aa (Bb (Ax) U T.Cd Bv (Aa (pv 2) Ab)) Ab))))
  (Ac (HJ (K:=K) (pv 0) (BR (Fj (K:=K)) U T.Jq Hk (Aa (pv 1) Ab)))
  (Ac (PS.nox (HJ (K:=K) (pv 0) (CV (CJ.mk (Bp:=[]) (Nc:=["tie"]) U At At (Cg (sc0:=Ag Jd) U At) U rfl U At (λ_ _ h=>by simp at h)) U (BJ (K:=K) (pv 2)) (λ_ _ _ _ _=>.nil) (λ_ _ _ _ _=>(BR (Fj) U T.Jq Hk (Aa (pv 0) Ab))))))
  (Ad (HJ (K:=K) (pv 0) (BR (Fj (K:=K)) U T.Jq Hk (Aa (pv 3) Ab)))))))),?_⟩;refine⟨_,U,_,U,x,y,rs,th,tss,U,hx,N,B.1,B.2.1,B.2.2.2,λg1=>?_,λb1=>kb λz=>b1 z.set⟩;refine⟨_,U,_,U,_,_,U,.inl (yW N.h),z,tr,tss.length,(by rw[AxR,N.l]<;>rfl),hz,B.2.2.1,λg2=>?_,λb2=>kb λz=>b2 z.trd⟩;have F:=Awf g1 g2;have k:=kq F;refine⟨_,U,_,_,U,.inl (yW hx),λa na=>?_⟩;have s1:Aw H (upd H a (.lst (vI th))):=.upd na;have D:a≠r:=λe=>AC
 refine⟨_,U,_,_,_,_,U,s1 _ _ M,T.Ny.c,T.Mv,Ap,?_⟩;generalize J:upd (upd H a (.lst (vI th))) r (.ins t.GZ dx (O1 "threading" (.ref a) []))=H2;have b2:Alc r H H2:=λb o n e=>by rw[<-J,Ao n];exact s1 _ _ e
 have p:H2 r=some (.ins t.GZ dx [("threading",.ref a)]):=by rw[<-J];exact Ae
 have a0:H2 a=some (.lst (vI th)):=by rw[<-J,Ao D];exact Ae
 have I:∀q,H2 q=none->H q=none:=λq f=>by
  have A:q≠r:=λe=>AC
  cases e:H q with
  |none=>rfl
  |some o=>rw[b2 q o A e]at f;cases f
 have N2:=N.other b2 M;refine⟨_,U,_,U,⟨_,yW N2.h⟩,CK (xs:=rs.map V.ref) (λi ys H3=>Aw H2 H3/\∃qs:NW,ys=qs.map V.ref/\qs.length=i/\(∀q∈qs,H2 q=none)/\∀(j:Nat)(q:Nn)(ks:NF),qs[j]?=some q->tss[j]?=some ks->H3 q=some (.lst (vI ks)))
  ⟨.refl _,[],U,U,λq f=>(by cases f),λj q ks h=>(by simp at h)⟩ ?_ ?_ ?_ ?_⟩
 ·rintro i ys H3 hi ⟨u,qs,rfl,f,_⟩;exact⟨yW (u _ _ N2.h),AD⟩
 ·rw[AxR,N.l];have:= F.t40;exact Ar.a2 this
 ·rintro i xv ys H3 hi ab ⟨u,qs,rfl,f,A,v⟩;obtain⟨r',ae,rfl,_,aa,W⟩:=N2.at ab;refine⟨_,U,_,_,U,.inl (yW (u _ _ W)),λl nl=>CN.of hi ⟨u.new nl,qs++[l],by rw[AxV];rfl,by rw[AxS,f];rfl,λq h=>?_,λj q ks h1 h2=>?_⟩⟩
  ·rcases zG.mp h with h|h
   ·exact A q h
   ·rw[zF.mp h];exact u.free nl
  ·by_cases hj:j<qs.length
   ·rw[Ayo hj]at h1;exact(Aw.upd nl) _ _ (v j q ks h1 h2)
   ·rw[Aym (by exact Ar.a1 hj)]at h1;have e0:j=i:=by
     have:= (zC.mp h1).1;simp at this;lia
    rw[show j-qs.length=0 by omega]at h1;have e1:l=q:=by simpa using h1
    rw[e0,aa]at h2;cases h2;rw[<-e1];exact Ae
 ·rintro ys H3 b ⟨u,qs,rfl,f,A,v⟩ n;rw[AxR,N.l]at f;have s4:Aw H2 (upd H3 b (.lst (qs.map V.ref))):=u.new n;have R:b≠r:=λe=>by rw[e,u _ _ p]at n;cases n
  refine⟨_,U,_,_,_,_,U,s4 _ _ p,T.Ny.c,T.Ws,(by show 1<1000;decide),?_⟩;generalize s:upd (upd H3 b (.lst (qs.map V.ref))) r (.ins t.GZ dx (O1 "ties" (.ref b) [("threading",.ref a)]))=C;have S:Alc r H2 C:=λb' o n e=>by rw[<-s,Ao n];exact s4 _ _ e
  have Y:C r=some (.ins t.GZ dx [("threading",.ref a),("ties",.ref b)]):=by rw[<-s];exact Ae
  have Z:C b=some (.lst (qs.map V.ref)):=by rw[<-s,Ao R];exact Ae
  have X:∀(j:Nat)(q:Nn)(ks:NF),qs[j]?=some q->tss[j]?=some ks->C q=some (.lst (vI ks)):=λj q ks h1 h2=>by
   have d:q≠r:=λe=>by have:= A q (Ayb h1);rw[e,p]at this;cases this
   rw[<-s,Ao d];exact(Aw.upd n) _ _ (v j q ks h1 h2)
  have O:z≠r:=λe=>AD
  have a6:=S _ _ O (b2 _ _ O hz);refine⟨_,U,_,_,U,.inl (yW a6),λc nc=>?_⟩;have L:Aw C (upd C c (.lst (vI tr))):=.upd nc;have ac:c≠r:=λe=>AC
  refine⟨_,U,_,_,_,_,U,L _ _ Y,T.Ny.c,T.Nz,(by show 2<1000;decide),?_⟩;have f5:∀q,C q=none->H q=none:=λq h=>I q (by
   have d:q≠r:=λe=>AC
   cases e:H2 q with
   |none=>rfl
   |some o=>rw[S q o d e]at h;cases h)
  refine k a b c qs _ (λb' o G e=>by rw[Ao G];exact L _ _ (S _ _ G (b2 _ _ G e))) na (I b (u.free n)) (f5 c nc) (λq h=>I q (A q h)) ⟨Ae,?_,⟨?_,f,λj q ks h1 h2=>?_⟩,?_⟩
  ·rw[Ao D];exact L _ _ (S _ _ D a0)
  ·rw[Ao R];exact L _ _ Z
  ·have d:q≠r:=λe=>by have:= A q (Ayb h1);rw[e,p]at this;cases this
   rw[Ao d];exact L _ _ (X j q ks h1 h2)
  ·rw[Ao ac];exact Ae
end
def Wr (u:NV)(ks:NF):Prop:=∃xs,Rw u xs/\szs xs<=400/\nus xs=ks
def Big (u:NV):Prop:=∃xs,Rw u xs/\400<szs xs
inductive Rk:NV->Str->NF->Prop where
 |good {u:NV} {ks:NF}:Wr u ks->Rk u "" ks
 |no {u:NV} {ks:NF}:¬Wri u->Rk u "NoRow" ks
 |big {u:NV} {ks:NF}:Big u->Rk u "TooLarge" ks
section
variable {K:NO}{base:Heap}{t:Adr}
def Ahc (t:Adr)(wd:Str):Addr:=if wd="NoRow" then t.Dz else if wd="TooLarge" then t.Ca else t.BZ
theorem ArM(t:Adr):Ahc t "TooLarge"=t.Ca:=by unfold Ahc;rw[yE At,yF rfl]
theorem Auk(t:Adr):Ahc t "NoDraft"=t.BZ:=by unfold Ahc;rw[yE At,yE At]
inductive Aul (t:Adr)(vs:LI)(H:Hp)(Q:VK)(E:XK):Prop
|mk(u:NV)(wd:Str)(ks:NF)(_:vs=[.str (tx u)])(_:u.length<=5000)(_:Rk u wd ks)(_:(wd="" -> ∀q H',Aw H H'->H q=none->H' q=some (.lst (vI ks))->Q (.ref q) H'))(_:(wd≠"" -> ∀H',Aw H H'->E (.ref (Ahc t wd)) none H'))
theorem Vp(T:Txt K mg t):Bm P w K mg base (CX1 P w) 41 t.WY t.Xa ["text"] (Aul t):=(Aha T).imp λvs H Q E ⟨u,wd,ks,e,h,R,k1,k2⟩=>by
 refine⟨u,e,h,λxs q H' a c s f d=>?_,λxs H' a c s=>?_,λH' hw s=>?_⟩
 ·cases R with
  |good R =>
   obtain⟨ys,b,_,rfl⟩:=R;rw[a.r.det b.r]at d;exact k1 U q H' s f d
  |no R=>exact yG a.w R
  |big R =>
   obtain⟨ys,b,i⟩:=R;rw[a.r.det b.r]at c;lia
 ·cases R with
  |good R =>
   obtain⟨ys,b,i,_⟩:=R;rw[a.r.det b.r]at c;lia
  |no R=>exact yG a.w R
  |big R =>
   have:= k2 At H' s;exact this
 ·cases R with
  |good R=>exact yG R.choose_spec.1.w hw
  |no R =>
   have:= k2 At H' s;exact this
  |big R=>exact yG R.choose_spec.1.w hw
end
def mT:NV->NV
 |[]=>[]
 |n::r=>32::(dec n++mT r)
def Dq:NV->NV
 |[]=>[]
 |n::r=>dec n++mT r
theorem Ap0(h:n<100){rest:NV}(a:NoF rest):Hy (dec n++rest)=dec n:=by
 have d:=dec_is h;rw[AkO (dec n++rest) (dec n).length (by rw[AxS];omega)]
 ·exact Azz
 ·rw[Azz];exact λc hc=>zN (d.dg c hc)
 ·intro c hc;rw[Aym (AxU _),AyJ]at hc;exact zJ (a c hc)
theorem ArN(h:n<100):okN (dec n):=⟨⟨(dec_is h).l1,(dec_is h).l2⟩,(dec_is h).z⟩
theorem Awj(h:n<100):vlN (dec n)=n:=(dec_is h).v
theorem AdJ(r:NV):NoF (mT r):=λc hc=>by
 cases r with
 |nil=>cases hc
 |cons n r =>
  have:32=c:=by simpa [mT]using hc
  lia
theorem Ald(h:n<100){rest:NV}(a:NoF rest):acc .start d (dec n++rest)=acc (qS (dec n)) d rest:=(Af6 (dec_is h).dg a).1 (ArN h)
def itN (ns:NV):List It:=ns.map λn=>.pth (ofN [n])
theorem Ap1(h:n<100){rest:NV}(a:NoF rest)(h2:rest.take 2≠[42,40])(h3:rest[0]?≠some 45):RI d (dec n++rest) (.pth (ofN [n])) rest:=by
 have q:((dec n++rest).drop (Hy (dec n++rest)).length).take 2≠[42,40]/\∃ns,ofN [n]=ofN (vlN (Hy (dec n++rest))::ns)/\PTr ((dec n++rest).drop (Hy (dec n++rest)).length) ns rest:=by
  rw[Ap0 h a,Az0,Awj h];exact⟨h2,[],U,PTr.stop h3⟩
 cases d<;>exact q
theorem Ap2(h:n<100):Gd d (.pth (ofN [n])):=by have g:∃b a,ofN [n]=ofN (b::a)/\(∀m∈b::a,m<100)/\a.length<=5000:=⟨n,[],U,λm c=>by rw[zF.mp c];exact h,Ap⟩;cases d<;>exact g
theorem AmK(r:NV):(mT r).take 2≠[42,40]/\(mT r)[0]?≠some 45:=by
 cases r with
 |nil=>exact⟨by simp[mT],by simp[mT]⟩
 |cons n r=>exact⟨by simp[mT],by simp[mT]⟩
theorem Ale:∀(r:NV),(∀n∈r,n<100)->RIm (RI 8) (mT r) (itN r) []
 |[],_=>RIm.nil (by simp[mT])
 |n::r,h=>RIm.cons (Ap1 (h n AxW) (AdJ r) (AmK r).1 (AmK r).2) (Ale r λm a=>h m (AxY _ a))
theorem Alf:∀(r:NV)(n:Nat),n<100->(∀m∈r,m<100)->acc .start 0 (Dq (n::r))=true
 |[],n,h,_=>by
  show acc .start 0 (dec n++mT [])=true;rw[Ald h (AdJ [])];show(decide (0=0) && (qS (dec n)).cl)=true;rw[Apq.1];rfl
 |m::r,n,h,hr=>by
  show acc .start 0 (dec n++mT (m::r))=true;rw[Ald h (AdJ _),Apn Apq.1 (λ_=>⟨AdJ _,(AmK _).2⟩) (λ_=>(AmK _).1)];exact Alf r m (hr m AxW) λx a=>hr x (AxY _ a)
theorem Alh(h:n<100)(r:NV):Dq (n::r)≠[]:=λz=>by
 have:= congrArg List.length z;have l:=(dec_is h).l1;simp only [Dq,AxS,Ayu]at this;lia
theorem Ali:∀ns:NV,nus (itN ns)=ofN ns
 |[]=>rfl
 |n::r=>by
  show(It.pth (ofN [n])).nu++nus (itN r)=ofN (n::r);rw[Ali r];rfl
theorem Alj:∀ns:NV,szs (itN ns)=(ns.length:Int)
 |[]=>rfl
 |n::r=>by
  show(It.pth (ofN [n])).sz+szs (itN r)=_;rw[Alj r];show(1:Int)+0+(r.length:Int)=((r.length+1:Nat):Int);lia
theorem ArO(h:∀n∈ns,n<100)(c:ns.length<=400):Wr (Dq ns) (ofN ns):=by
 refine⟨itN ns,⟨?_,λx b=>?_,?_⟩,by rw[Alj];lia,Ali ns⟩
 ·cases ns with
  |nil=>exact .inl U
  |cons n r=>exact .inr (Alf r n (h n AxW) λm a=>h m (AxY _ a))
 ·obtain⟨n,hn,rfl⟩:=yB.mp b;exact Ap2 (h n hn)
 ·cases ns with
  |nil=>exact .inl ⟨U,U⟩
  |cons n r =>
   exact .inr ⟨Alh (h n AxW) r,.pth (ofN [n]),itN r,mT r,U,Ap1 (h n AxW) (AdJ r) (AmK r).1 (AmK r).2,Ale r λm a=>h m (AxY _ a)⟩
def c47:NV->Prop
 |[]=>True
 |a::r=>(a=32->r[0]?≠some 47)/\c47 r
def c44:NV->Prop
 |[]=>True
 |a::r=>(a=44->r[0]?≠some 32)/\c44 r
theorem c47.at:∀{u:NV},c47 u->∀i,u[i]?=some 32->u[i+1]?≠some 47
 |[],_,i,h=>by simp at h
 |a::r,h,0,e=>by
  have:a=32:=by simpa using e
  exact h.1 this
 |a::r,h,i+1,e=>by
  exact c47.at h.2 i e
theorem c44.at:∀{u:NV},c44 u->∀i,u[i]?=some 44->u[i+1]?≠some 32
 |[],_,i,h=>by simp at h
 |a::r,h,0,e=>by
  have:a=44:=by simpa using e
  exact h.1 this
 |a::r,h,i+1,e=>by
  exact c44.at h.2 i e
theorem c47.app:∀{a b:NV},c47 a->c47 b->(a.getLast?=some 32->b[0]?≠some 47)->c47 (a++b)
 |[],b,_,hb,_=>hb
 |[x],b,ha,hb,h=>⟨λe=>h (by rw[e];rfl),hb⟩
 |x::y::r,b,ha,hb,h=>⟨λe=>by
   have:= ha.1 e
   simpa using this,c47.app ha.2 hb (λe=>h AC)⟩
theorem Ahd:∀{u:NV},47∉u->c47 u
 |[],_=>trivial
 |a::r,h=>⟨λ_ e=>h (AxY _ (Ayb e)),Ahd λz=>h (AxY _ z)⟩
theorem Ahe:∀{u:NV},44∉u->c44 u
 |[],_=>trivial
 |a::r,h=>⟨λe=>yG AC h,Ahe λz=>h (AxY _ z)⟩
structure Cl2 (u:NV):Prop where
 a:c47 u
 b:c44 u
 f:u[0]?≠some 47
 l:u.length<=2500
theorem Awk:∀(us:NI),(∀u∈us,Cl2 u)->c47 (jnS [44,32] us)/\(jnS [44,32] us)[0]?≠some 47
 |[],_=>⟨trivial,by simp[jnS]⟩
 |[u],h=>⟨(h u AxW).a,(h u AxW).f⟩
 |u::v::r,h=>by
  have b:=Awk (v::r) λx d=>h x (AxY _ d);have c:=h u AxW;refine⟨c.a.app ⟨(λe=>by cases e),λ_=>b.2,b.1⟩ (λ_=>AB),?_⟩;show(u++([44,32]++jnS [44,32] (v::r)))[0]?≠some 47;cases u with
  |nil=>simp
  |cons a u=>exact c.f
theorem AdK:((" / ":Str))=tx [32,47,32]:=At
theorem Ahf:((", ":Str))=tx [44,32]:=At
def fw:NY->Str
 |[] => ""
 |w::r=>if w="" then fw r else w
theorem Ahg:∀(a b:NY),(∀w∈a,w="")->fw (a++b)=fw b
 |[],b,_=>rfl
 |w::a,b,h=>by
  rw[Ay9,fw,yF (h w AxW)];exact Ahg a b λx c=>h x (AxY _ c)
theorem Aum(a b:NY){w:Str}(h:∀w∈a,w="") (hw:w≠""):fw (a++w::b)=w:=by rw[Ahg a _ h,fw,yE hw]
structure Rc where
 u:NV
 wd:Str
 ks:NF
structure Rc.Ok (r:Rc):Prop where
 k:Rk r.u r.wd r.ks
 c:Cl2 r.u
 l:r.ks.length<=400
 n:∀z∈r.ks,0<=z/\z<100
section
variable {K:NO}{base:Heap}{t:Adr}
def Cps (H0 H:Hp)(qs:NW)(tss:NA)(i:Nat):Prop:=qs.length=i/\(∀q∈qs,H0 q=none)/\∀(j:Nat)(q:Nn)(ks:NF),qs[j]?=some q->tss[j]?=some ks->H q=some (.lst (vI ks))
theorem Cps.nil(H0 H:Hp)(tss:NA):Cps H0 H [] tss 0:=⟨U,λq a=>(by cases a),λj q ks h=>(by simp at h)⟩
theorem Cps.Axu(C:Cps H0 H qs tss i){a:NF}(s:Aw H H')(e:H' l=some (.lst (vI a)))(d:H0 l=none)(hk:tss[i]?=some a):Cps H0 H' (qs++[l]) tss (i+1):=by
 refine⟨by rw[AxS,C.1];rfl,λq h=>?_,λj q ks h1 h2=>?_⟩
 ·rcases zG.mp h with h|h
  ·exact C.2.1 q h
  ·rw[zF.mp h];exact d
 ·have m:=C.1;by_cases b:j<qs.length
  ·rw[Ayo b]at h1;exact s _ _ (C.2.2 j q ks h1 h2)
  ·rw[Aym (by exact Ar.a1 b)]at h1;have c:j=i:=by
    have:= (zC.mp h1).1;simp at this;lia
   rw[show j-qs.length=0 by omega]at h1;have f:l=q:=by simpa using h1
   rw[c,hk]at h2;grind
def drT (r0:Rc)(rs:List Rc)(r2:Rc):NV:=jnS [32,47,32] [r0.u,jnS [44,32] (rs.map Rc.u),r2.u]
inductive ArP (t:Adr)(vs:LI)(H:Hp)(Q:VK)(E:XK):Prop
|mk(r0:Rc)(rs:List Rc)(r2:Rc)(_:vs=[.str (tx (drT r0 rs r2))])(_:r0.Ok)(_:rs≠[])(_:rs.length<=100)(_:(∀r∈rs,r.Ok))(_:r2.Ok)(_:(drT r0 rs r2).length<=1000000)(_:(∀wd H',fw (r0.wd::rs.map Rc.wd++[r2.wd])=wd->wd≠"" -> Aw H H'->E (.ref (Ahc t wd)) none H'))(_:(fw (r0.wd::rs.map Rc.wd++[r2.wd])="" -> (Ft r0.ks (rs.map Rc.ks) r2.ks->∀(d dx a b c:Nn)(qs:NW)(H':Hp),Aw H H'->IsD t H' d dx a b c qs r0.ks (rs.map Rc.ks) r2.ks->Q (.ref d) H')/\(¬Ft r0.ks (rs.map Rc.ks) r2.ks->∀H',Aw H H'->E (.ref t.BZ) none H')))
theorem AbM(T:Txt K mg t):Bm P w K mg base (CX1 P w) 42 t.KJ t.KQ ["text"] (ArP t):=by
 refine T.Ms.F.okX Et ?_;rintro _ _ _ _ H _ Q E hr ⟨r0,rs,r2,rfl,Y,am,rl,Os,W,dl,kE,kQ⟩;have hsz:=z7;have ac:rs.map Rc.u≠[]:=λz=>am (List.map_eq_nil_iff.mp z);have Cs:∀u∈rs.map Rc.u,Cl2 u:=λu I=>by
  obtain⟨r,f,rfl⟩:=yB.mp I;exact(Os r f).c
 have jl:(jnS [44,32] (rs.map Rc.u)).length<=1000000:=by
  have:(drT r0 rs r2).length=r0.u.length+(3+((jnS [44,32] (rs.map Rc.u)).length+(3+r2.u.length))):=by
   unfold drT;simp[jnS];lia
  lia
 refine⟨_,(Ac (Bd (i:=1) Et.nd U NN (Bx (K:=K) zI zY z6 Vc (pv 0) (Aa (Ce (v:=.str " / ") U T.Ss.choose_spec ⟨_,U⟩) Ab)))
  (Ac (Bl (Ai Lh (Bb (Ax) U T.Cd Bv (Aa (pv 1) Ab)) Ah (Av _))
   (Ad (DR T.Hx U T.Js (Aa Af Ab)))
   Aq)
  (Ac (Bd (i:=2) Et.nd U NN (Aj ((Vp T).mono Ap) hr U T.DW.m T.DW.F.kp T.DW.b .nil Cq (Aa (Bq (Be (K:=K)) (pv 1) Ah (λ_ _=>rfl)) Ab)))
  (Ac (AcJ (i:=3) O5 (λ_ _ z=>z) (CJ.mk (Bp:=[]) (Nc:=["tie"]) U At At (Cg (sc0:=Ag K3) U At) U rfl U At (λ_ _ h=>by simp at h)) U Et.nd U rfl (BJ (K:=K) (Bx (K:=K) zI zY z6 Vc (Bq (Be (K:=K)) (pv 1) Ah (λ_ _=>rfl)) (Aa (Ce (v:=.str ", ") U T.Uu.choose_spec ⟨_,U⟩) Ab))) (λ_ _ _ _ _=>.nil) (λ_ _ _ _ _=>(Aj ((Vp T).mono Ap) hr U T.DW.m T.DW.F.kp T.DW.b .nil Ao2 (Aa (pv 0) Ab))) U)
  (Ad (Az (Ez T.Ny.m ((M5 T).mono Ap) hr U T.AkL T.Jt.b .nil Cq (Aa (pv 2) (Aa (pv 3) (Aa (Aj ((Vp T).mono Ap) hr U T.DW.m T.DW.F.kp T.DW.b .nil Cq (Aa (Bq (Be (K:=K)) (pv 1) Ah (λ_ _=>rfl)) Ab)) Ab)))))))))),?_⟩;refine⟨_,U,U,[32,47,32],[r0.u,jnS [44,32] (rs.map Rc.u),r2.u],U,congrArg (λz=>[V.str z]) AdK,Ap,Ap,(by unfold drT at dl;exact Ar.f4 dl),AB,Agg λw hw=>?_,λlp a0=>?_⟩
 ·simp only [Ayj,Ayq,yM]at hw;rcases hw with z|z|z<;>rw[z]
  ·exact ZV Y.c.a.at
  ·exact ZV (Awk _ Cs).1.at
  ·exact ZV W.c.a.at
 have X:Aw H (upd H lp (.lst (vS [r0.u,jnS [44,32] (rs.map Rc.u),r2.u]))):=.upd a0;have hp:(upd H lp (.lst (vS [r0.u,jnS [44,32] (rs.map Rc.u),r2.u]))) lp=some (.lst (vS [r0.u,jnS [44,32] (rs.map Rc.u),r2.u])):=Ae;refine⟨_,U,_,_,U,.inl (yW hp),U,_,U,?_⟩;have l0:=Y.c.l;have l2:=W.c.l;refine⟨_,U,_,_,_,_,U,U,yW hp,U,r0.u,r0.wd,r0.ks,U,by exact Ar.a2 l0,Y.k,λN q0 H2 G aq a6=>?_,λN H2 G=>kE r0.wd H2 (by show fw (r0.wd::_)=_;rw[fw,yE N]) N (X.trans G)⟩;have L:=G _ _ hp;have af:(rs.map Rc.u).length<=100:=AC
 refine⟨_,U,_,_,_,_,U,U,yW L,U,U,[44,32],rs.map Rc.u,U,congrArg (λz=>[V.str z]) Ahf,Ap,Ap,by exact Ar.f4 jl,ac,Agg λu I=>Aoi (Cs u I).b.at,λlt an=>?_⟩;obtain⟨H3,e9,s3,ht⟩:=nu9 (o:=.lst (vS (rs.map Rc.u))) (.refl _) an;rw[e9];have ag:=(X.trans G).trans s3;refine⟨_,U,⟨_,yW ht⟩,CK (xs:=vS (rs.map Rc.u)) (λi ys R=>Aw H3 R/\(∀r∈rs.take i,r.wd="")/\∃qs:NW,ys=qs.map V.ref/\Cps H3 R qs (rs.map Rc.ks) i) ⟨.refl _,(λr f=>by simp at f),[],U,Cps.nil _ _ _⟩ ?_ ?_ ?_ ?_⟩
 ·rintro i ys R hi ⟨B,_,qs,rfl,C⟩;exact⟨yW (B _ _ ht),by rw[AxR,C.1];exact AxU _⟩
 ·rw[Bc];exact Ar.a2 af
 ·rintro i xv ys R hi al ⟨B,hw,qs,rfl,C⟩;obtain⟨u,I,rfl⟩:=Fw al;rw[AxZ]at I;obtain⟨r,f,rfl⟩:=zU.mp I;have O:=Os r (Ayb f);have lu:=O.c.l;refine⟨_,U,r.u,r.wd,r.ks,U,by exact Ar.a2 lu,O.k,λw1 q Z A nq hq=>?_,λw1 Z A=>?_⟩
  ·refine CN.of hi ⟨B.trans A,λx n=>?_,qs++[q],by rw[AxV];rfl,C.Axu A hq (B.free nq) AC⟩;rw[Aya,f]at n;rcases zG.mp n with n|n
   ·exact hw x n
   ·rw[show x=r by simpa using n];exact w1
  ·refine kE r.wd Z ?_ w1 ((ag.trans B).trans A);have ab:=(zC.mp f).1;have er:rs=rs.take i++r::rs.drop (i+1):=by
    have e1:rs[i]=r:=(zC.mp f).2;rw[<-e1,<-AyZ ab,AyI]
   have e2:(r0.wd::rs.map Rc.wd++[r2.wd])=(r0.wd::(rs.take i).map Rc.wd)++r.wd::((rs.drop (i+1)).map Rc.wd++[r2.wd]):=by
    conv=>lhs;rw[er]
    simp
   rw[e2];refine Aum _ _ (λx n=>?_) w1;rcases yC.mp n with z|z
   ·rw[z];exact N
   ·obtain⟨y,hy,rfl⟩:=yB.mp z;exact hw y hy
 rintro ys R lz ⟨B,hw,s,rfl,C4⟩ ak;rw[Bc,AxR,Ayg]at hw;rw[Bc,AxR]at C4;obtain⟨Z,e9,A,ae⟩:=nu9 (o:=.lst (s.map V.ref)) (.refl _) ak;rw[e9];have Z5:NL Z lz s (rs.map Rc.ks):=⟨ae,by rw[C4.1,AxR],λj q ks h1 h2=>A _ _ (C4.2.2 j q ks h1 h2)⟩;have p:=(s3.trans B).trans A;have ah:∀w∈r0.wd::rs.map Rc.wd,w="":= λx n=>by
  rcases yC.mp n with z|z
  ·rw[z];exact N
  ·obtain⟨y,hy,rfl⟩:=yB.mp z;exact hw y hy
 have eF:fw (r0.wd::rs.map Rc.wd++[r2.wd])=r2.wd:=by
  rw[Ahg _ _ ah];show(if r2.wd="" then ("":Str) else r2.wd)=r2.wd;split
  next h=>exact h.symm
  next=>rfl
 refine⟨_,U,_,U,_,U,_,_,_,_,U,U,yW (p _ _ L),U,r2.u,r2.wd,r2.ks,U,by exact Ar.a2 l2,W.k,λw2 q2 M J ap aj=>?_,λw2 M J=>kE r2.wd M eF w2 (((X.trans G).trans p).trans J)⟩;refine λd dx nd aa ao=>?_;have S:Aw M (upd (upd M dx (.own d)) d (.ins t.GZ dx [])):=(Aw.upd aa).over nd;have kk:=kQ (by rw[eF];exact w2);have u6:=((X.trans G).trans p).trans J;have b3:Bd3 r0.ks (rs.map Rc.ks) r2.ks:=⟨by have:= Y.l;exact Ar.a2 this,AD,by have:= W.l;exact Ar.a2 this,λks hk=>by
  obtain⟨r,f,rfl⟩:=yB.mp hk;have:= (Os r f).l;exact Ar.a2 this⟩
 refine⟨d,dx,q0,lz,q2,s,r0.ks,rs.map Rc.ks,r2.ks,U,Ae,S _ _ (J _ _ (p _ _ a6)),(Z5.same J).same S,S _ _ aj,b3,λF a b c qs H7 b7 _ _ _ _ D=>⟨U,?_⟩,λnF=>kk.2 nF _ (u6.trans S)⟩;have s7:Aw M H7:=λb o e=>b7 b o (λz=>AD) (S _ _ e);exact kk.1 F d dx a b c qs H7 (u6.trans s7) D
inductive ArQ (t:Adr)(vs:LI)(H:Hp)(Q:VK)(E:XK):Prop
|mk(u:NV)(_:vs=[.str (tx u)])(_:u.length<=1000000)(_:(∀ws,ws≠[]->jnS [32,47,32] ws=u->Aie [32,47,32] ws->ws.length≠3))(_:∀H',Aw H H'->E (.ref t.BZ) none H')
theorem AbN(T:Txt K mg t):Bm P w K mg base (CX1 P w) 42 t.KJ t.KQ ["text"] (ArQ t):=by
 refine T.Ms.F.okX Et ?_;rintro _ _ _ _ H _ Q E a ⟨u,rfl,n,h3,k⟩;have hsz:=z7;obtain⟨ws,e,d,f⟩:=Arh (sp:=[32,47,32]) Ap u.length u (AxU _);refine⟨_,(Ac (Bd (i:=1) Et.nd U NN (Bx (K:=K) zI zY z6 Vc (pv 0) (Aa (Ce (v:=.str " / ") U T.Ss.choose_spec ⟨_,U⟩) Ab)))
  (Ac (Bl (Ai Lh (Bb (Ax) U T.Cd Bv (Aa (pv 1) Ab)) Ah (Av _))
   (Ad (DR T.Hx U T.Js (Aa Af Ab)))
   Aq)
  (Ac (Bd (i:=2) Et.nd U NN (Aj ((Vp T).mono Ap) a U T.DW.m T.DW.F.kp T.DW.b .nil Cq (Aa (Bq (Be (K:=K)) (pv 1) Ah (λ_ _=>rfl)) Ab)))
  (Ac (AcJ (i:=3) O5 (λ_ _ z=>z) (CJ.mk (Bp:=[]) (Nc:=["tie"]) U At At (Cg (sc0:=Ag K3) U At) U rfl U At (λ_ _ h=>by simp at h)) U Et.nd U rfl (BJ (Bx (K:=K) zI zY z6 Vc (Bq (Be (K:=K)) (pv 1) Ah (λ_ _=>rfl)) (Aa (Ce (v:=.str ", ") U T.Uu.choose_spec ⟨_,U⟩) Ab))) (λ_ _ _ _ _=>.nil) (λ_ _ _ _ _=>(Aj ((Vp T).mono Ap) a U T.DW.m T.DW.F.kp T.DW.b .nil Ao2 (Aa (pv 0) Ab))) U)
  (Ad (Az (Ez T.Ny.m ((M5 T).mono Ap) a U T.AkL T.Jt.b .nil Cq (Aa (pv 2) (Aa (pv 3) (Aa (Aj ((Vp T).mono Ap) a U T.DW.m T.DW.F.kp T.DW.b .nil Cq (Aa (Bq (Be (K:=K)) (pv 1) Ah (λ_ _=>rfl)) Ab)) Ab)))))))))),?_⟩;refine⟨_,U,U,[32,47,32],ws,by rw[d],congrArg (λz=>[V.str z]) AdK,Ap,Ap,(by rw[d];exact Ar.f4 n),e,f,λq c=>?_⟩;obtain⟨H1,e9,l,p⟩:=nu9 (o:=.lst (vS ws)) (.refl _) c;rw[e9];refine⟨_,U,_,_,U,.inl (yW p),U,_,U,?_⟩;have j:=h3 ws e d f;refine Acy (λz=>j ?_) ⟨Ap,k H1 l⟩;injection z with z;rw[Bc]at z;exact Ar.b1 z
theorem Awl{k:Nat}{ps:NY}{b e:Sp}(F:Bm P w K mg base CX k f fd ps b)(G:Bm P w K mg base CX k f fd ps e):Bm P w K mg base CX k f fd ps (λvs H Q E=>b vs H Q E\/e vs H Q E):=
 ⟨λvs H Q E h=>h.elim (F.len vs H Q E) (G.len vs H Q E),λA outer s H args us vs Q E i d a c h=>h.elim (F.run A outer s H args us vs Q E i d a c) (G.run A outer s H args us vs Q E i d a c)⟩
inductive ArR (vs:LI)(H:Hp)(Q:VK)(z3:XK):Prop
|mk(x:Nn)(l:Nn)(th:NF)(ks:NF)(_:vs=[.ref x,.ref l])(_:H x=some (.lst (vI th)))(_:H l=some (.lst (vI ks)))(_:th.length<=40)(_:∀H',Aw H H'->Q (.str (tx (shd th ks))) H')
theorem Ahh(T:Txt K mg t):Bm P w K mg base CX0 1 t.AaX t.AaY ["threading","lifted"] ArR:=by
 refine T.Vf.F.ok Agp ?_;rintro _ _ _ _ H _ Q E u ⟨x,l,th,ks,rfl,e,n,c,k⟩;refine⟨_,(Ad (Az (Bx zI zS zV (DN (K:=K)) Af (Aa (CV (CJ.mk (Bp:=[1]) (Nc:=["shaft","lifted"]) U At At (Cg (sc0:=Ag Tv) U At) U rfl U At (λk j h=>match k,h with | 0,h=>by obtain rfl:=yI h;exact⟨_,U,U,U⟩|_+1,h=>by simp at h)) U (BJ (K:=K) (pv 0)) (λ_ _ _ _ _=>.nil) (λ_ _ _ _ _=>(Oz (Ai (WL) (pv 0) (pv 1) U) Af Af))) Ab)))),U,_,U,_,U,⟨_,yW e⟩,CK (xs:=vI th) (λi ys H2=>H2=H/\ys=vS ((th.take i).map λs=>[if s∈ks then 35 else 46])) ⟨U,U⟩ ?_ ?_ ?_ ?_⟩
 ·rintro i ys H2 hi ⟨rfl,rfl⟩;refine⟨yW e,?_⟩;rw[Bc,AxR,Ayc];lia
 ·rw[Cp];exact Cv c
 ·rintro i r ys H2 hi a ⟨rfl,rfl⟩;obtain⟨z,f,rfl⟩:=Ln a;have fin:∀d,d=(if z∈ks then 35 else 46)->CN (vI th).length (λi ys b=>b=H2/\ys=vS ((th.take i).map λs=>[if s∈ks then 35 else 46])) i (vS ((th.take i).map λs=>[if s∈ks then 35 else 46])++[.str (tx [d])]) H2:=λd m=>by
   subst m;refine CN.of hi ⟨U,?_⟩;rw[Dj,Aya,f,AxV];rfl
  refine⟨_,U,_,U,_,_,U,.inl (yW n),U,Akw _,_,U,?_⟩;rw[Ajw];refine CP (λh=>?_) (λh=>?_)
  ·have:= fin 35 (by rw[yF h]);exact this
  ·have:= fin 46 (by rw[yE h]);exact this
 ·rintro ys H2 p ⟨rfl,rfl⟩ o;rw[Cp,Ayg];refine⟨_,_,((th.map λs=>[if s∈ks then 35 else 46]).map tx),U,U,yW (by rw[Ae,Gj]),?_,?_⟩
  ·have q:=AlI (λs:Int=>if s∈ks then 35 else 46) th;rw[q,AxR,AxR];have:th.length*(Str.length "")=0:=by rw[show Str.length ""=0 from At];lia
   lia
  ·rw[show(("":Str))=tx [] from At,GR];have e2:=Ri (λs:Int=>if s∈ks then 35 else 46) th;rw[e2];exact k _ (.upd o)
inductive Ap3 (t:Adr)(vs:LI)(H:Hp)(Q:VK)(z3:XK):Prop
|mk(d:Nn)(dx:Nn)(a:Nn)(b:Nn)(c:Nn)(qs:NW)(th:NF)(tss:NA)(tr:NF)(_:vs=[.ref d])(_:IsD t H d dx a b c qs th tss tr)(_:Ft th tss tr)(_:∀l H',Aw H H'->H l=none->H' l=some (.lst (vS (wv th tss tr)))->Q (.ref l) H')
theorem Ap4(T:Txt K mg t):Bm P w K mg base CX0 2 t.AkA t.AkB ["draft"] (Ap3 t):=by
 refine T.AkE.F.ok Ao3 ?_;rintro _ _ _ _ H _ Q E A ⟨d,dx,a,b,c,qs,th,tss,tr,rfl,D,F,k⟩;have s:=F.n40;refine⟨_,(Ad (Az (CV (CJ.mk (Bp:=[0]) (Nc:=["treadle","draft"]) U At At (Cg (sc0:=Ag Ago) U At) U rfl U At (λk j h=>match k,h with | 0,h=>by obtain rfl:=yI h;exact⟨_,U,U,U⟩|_+1,h=>by simp at h)) U (BJ (K:=K) (Dt (pv 0) U)) (λ_ _ _ _ _=>.nil) (λ_ _ _ _ _=>(Aj ((Ahh T).mono Ap) A U T.Vf.m T.Vf.F.kp T.Vf.b .nil Ay (Aa (Dt (pv 1) U) (Aa (Bq (Be) (Dt (pv 1) U) (pv 0) (λ_ _=>rfl)) Ab))))))),_,U,_,_,_,_,_,U,D.o,T.Ny.c,T.Nz,Awi a b c,_,U,⟨_,yW D.hc⟩,CK (xs:=vI tr) (λi ys H2=>Aw H H2/\ys=vS (wv th tss (tr.take i))) ⟨.refl _,U⟩ ?_ ?_ ?_ ?_⟩
 ·rintro i ys H2 hi ⟨e,rfl⟩;refine⟨yW (e _ _ D.hc),?_⟩;rw[Bc,Aj6,Ayc];lia
 ·rw[Cp];exact Cv s
 ·rintro i B ys H2 hi q ⟨e,rfl⟩;obtain⟨v,x,rfl⟩:=Ln q;have u:=F.htr v (Ayb x);have f:=D.same e;have n:v.toNat<qs.length:=by rw[f.hb.l];lia
  have p:=f.hb.r v.toNat qs[v.toNat] _ (AxT n) (Ark u);refine⟨_,U,_,_,_,_,_,U,f.o,T.Ny.c,T.Mv,Awg a b c,_,U,_,_,_,_,_,U,f.o,T.Ny.c,T.Ws,Awh a b c,_,U,_,_,_,_,U,U,yW f.hb.h,Bw u.1 (by rw[AxZ,AxT n];rfl),
   a,qs[v.toNat],th,_,U,f.ha,p,F.m40,λH3 z=>?_⟩;refine CN.of hi ⟨e.trans z,?_⟩;rw[Dj];unfold wv;rw[Aya,x,AxV];rfl
 ·rintro ys H2 l ⟨e,rfl⟩ y;rw[Cp,Ayg];exact k l _ (e.new y) (e.free y) Ae
end
def Hv (c:Nat):NV->NI
 |[]=>[[]]
 |a::u=>if a=c then []::Hv c u else match Hv c u with
  |[]=>[[a]]
  |w::ws=>(a::w)::ws
theorem Ahi(c:Nat):∀u,Hv c u≠[]
 |[]=>by unfold Hv;simp
 |a::u=>by
  unfold Hv;split
  ·simp
  ·split<;>simp
theorem Ahj(c:Nat):∀u,jn c (Hv c u)=u
 |[]=>rfl
 |a::u=>by
  have b:=Ahj c u;have d:=Ahi c u;unfold Hv;split
  ·rename_i h;cases e:Hv c u with
   |nil=>exact yG e d
   |cons w ws=>rw[e]at b;show[]++c::jn c (w::ws)=_;rw[b,h];rfl
  ·cases e:Hv c u with
   |nil=>exact yG e d
   |cons w ws =>
    rw[e]at b;cases ws with
    |nil=>have b:w=u:=b;show a::w=_;rw[b]
    |cons v r=>have b:w++c::jn c (v::r)=u:=b;show(a::w)++c::jn c (v::r)=_;rw[Ay9,b]
theorem Alk(c:Nat):∀u,∀w∈Hv c u,c∉w
 |[],w,h=>by unfold Hv at h;rw[zF.mp h];simp
 |a::u,w,h=>by
  have b:=Alk c u;unfold Hv at h;split at h
  ·rcases yC.mp h with rfl|h
   ·simp
   ·exact b w h
  ·rename_i d;split at h
   ·rw[zF.mp h];simp;exact λz=>d z.symm
   ·rename_i v ws e;rcases yC.mp h with rfl|h
    ·rw[Ayj,not_or];exact⟨λz=>d z.symm,b v (by rw[e];simp)⟩
    ·exact b w (by rw[e];simp[h])
theorem AiN{c:Nat}:∀{w:NV},c∉w->Hv c w=[w]
 |[],_=>rfl
 |a::w,h=>by
  rw[Ayj,not_or]at h;unfold Hv;rw[yE (λz=>h.1 z.symm),AiN h.2]
theorem AdL{c:Nat}:∀{w:NV} (u:NV),c∉w->Hv c (w++c::u)=w::Hv c u
 |[],u,_=>by show Hv c (c::u)=_;rw[Hv,yF rfl]
 |a::w,u,h=>by
  rw[Ayj,not_or]at h;show Hv c (a::(w++c::u))=_;rw[Hv,yE (λz=>h.1 z.symm),AdL u h.2]
theorem Ap5(c:Nat)(u:NV):((Hv c u).map List.length).sum+(Hv c u).length=u.length+1:=by
 have:∀ws:NI,ws≠[]->(ws.map List.length).sum+ws.length=(jn c ws).length+1:=λws=>by
  induction ws with
  |nil=>exact λh=>yG U h
  |cons w r a =>
   intro _;cases r with
   |nil=>simp[jn]
   |cons v r =>
    have:=a AB;show((w::v::r).map List.length).sum+_=(w++c::jn c (v::r)).length+1;rw[Ayd,Ay6,AxS,AxX (as:=v::r),AxX (as:=jn c (v::r))];omega
 have h:=this (Hv c u) (Ahi c u);rw[Ahj]at h;exact h
def AdM (u:NV):NI:=(Hv 32 u).filter λw=>decide (¬w=[])
theorem Ap6{w:NV}(u:NV)(h:32∉w)(hw:w≠[]):AdM (w++32::u)=w::AdM u:=by unfold AdM;rw[AdL u h,Azd (by simpa using hw)]
theorem ArS(u:NV):AdM (32::u)=AdM u:=by unfold AdM;rw[show(32::u)=[]++32::u from U,AdL u AB,AzL AB]
theorem Ap7{w:NV}(h:32∉w)(hw:w≠[]):AdM w=[w]:=by unfold AdM;rw[AiN h,Azd (by simpa using hw)];rfl
theorem ArT(h1:u.head?≠some 32)(h2:u.getLast?≠some 32):trim u=u:=by
 unfold trim;have b:u.dropWhile (λc=>decide (c=32))=u:=by
  cases u with
  |nil=>rfl
  |cons a u=>rw[List.dropWhile_cons_of_neg (by simpa using h1)]
 rw[b];have e2:u.reverse.dropWhile (λc=>decide (c=32))=u.reverse:=by
  cases e:u.reverse with
  |nil=>rfl
  |cons a v =>
   rw[List.dropWhile_cons_of_neg];have:u.getLast?=some a:=by rw[<-AzM,e];rfl
   rw[this]at h2
   simpa using h2
 rw[e2,AzE]
theorem Z0(u:NV):(trim u).length<=u.length:=by unfold trim;rw[Ay1];refine Ayh (Azn _).length_le ?_;rw[Ay1];exact(Azn _).length_le
inductive Lo where
 |ok (x:NI)
 |no (wd:Str)
def wdR:Rf->Str
 | .nop => "NoPattern"
 | .big => "TooLarge"
 | .unk => "Unknown"
def Axx:Res->Lo
 | .ok x=>.ok x
 | .no f=>.no (wdR f)
def Sep (x:Nat):Prop:=x=61\/x=58
structure D3 (r0:Rc)(rs:List Rc)(r2:Rc):Prop where
 o0:r0.Ok
 ne:rs≠[]
 l:rs.length<=100
 os:∀r∈rs,r.Ok
 o2:r2.Ok
def fwd (r0:Rc)(rs:List Rc)(r2:Rc):Str:=fw (r0.wd::rs.map Rc.wd++[r2.wd])
inductive DrO:NV->Lo->Prop where
 |no {r0:Rc} {rs:List Rc} {r2:Rc}:D3 r0 rs r2->fwd r0 rs r2≠"" -> DrO (drT r0 rs r2) (.no (fwd r0 rs r2))
 |bad {r0:Rc} {rs:List Rc} {r2:Rc}:D3 r0 rs r2->fwd r0 rs r2="" -> ¬Ft r0.ks (rs.map Rc.ks) r2.ks->DrO (drT r0 rs r2) (.no "NoDraft")
 |ok {r0:Rc} {rs:List Rc} {r2:Rc}:D3 r0 rs r2->fwd r0 rs r2="" -> Ft r0.ks (rs.map Rc.ks) r2.ks->DrO (drT r0 rs r2) (.ok (wv r0.ks (rs.map Rc.ks) r2.ks))
 |part {u:NV}:(∀ws,ws≠[]->jnS [32,47,32] ws=u->Aie [32,47,32] ws->ws.length≠3)->DrO u (.no "NoDraft")
inductive LnP (kn:Kns) (z:NV):Nat->NV->Lo->Prop where
 |name {c:Nat} {u:NV}:Pat.isName z=false->LnP kn z c u (.no "NoPattern")
 |twice {c:Nat} {u:NV}:Pat.isName z=true->(∃q∈kn,q.1=z)->LnP kn z c u (.no "Twice")
 |pat {u:NV} {R:Res}:Pat.isName z=true->(∀q∈kn,¬q.1=z)->Pr kn u R->LnP kn z 61 u (Axx R)
 |dra {u:NV} {o:Lo}:Pat.isName z=true->(∀q∈kn,¬q.1=z)->DrO u o->LnP kn z 58 u o
inductive LnO (kn:Kns):NV->NV->Lo->Prop where
 |part {l z:NV}:(∀x∈l,¬Sep x)->LnO kn l z (.no "NoPattern")
 |line {a b:NV} {c:Nat} {o:Lo}:(∀x∈a,¬Sep x)->Sep c->LnP kn (trim a) c (trim b) o->LnO kn (a++c::b) (trim a) o
inductive Bo where
 |ok (kn:Kns)
 |no (wd:Str)
inductive BkO:Kns->NI->Bo->Prop where
 |nil {kn:Kns}:BkO kn [] (.ok kn)
 |skip {kn:Kns} {l:NV} {ls:NI} {o:Bo}:trim l=[]\/(trim l).head?=some 59->BkO kn ls o->BkO kn (l::ls) o
 |line {kn:Kns} {l:NV} {ls:NI} {z:NV} {x:NI} {o:Bo}:trim l≠[]->¬(trim l).head?=some 59->LnO kn (trim l) z (.ok x)->Clo x->BkO (kn++[(z,x)]) ls o->BkO kn (l::ls) o
 |stop {kn:Kns} {l:NV} {ls:NI} {z:NV} {wd:Str}:trim l≠[]->¬(trim l).head?=some 59->LnO kn (trim l) z (.no wd)->BkO kn (l::ls) (.no wd)
section
variable {K:NO}{base:Heap}{t:Adr}
def cl6 (t:Adr)(wd:Str):Addr:=if wd="NoPattern" then t.BK else if wd="Unknown" then t.CQ else if wd="Twice" then t.EY else Ahc t wd
theorem Ap8(t:Adr):cl6 t "NoPattern"=t.BK:=yF U
theorem Awm(t:Adr):cl6 t "Twice"=t.EY:=by unfold cl6;rw[yE At,yE At,yF rfl]
theorem As3(t:Adr):cl6 t "NoDraft"=t.BZ:=by unfold cl6;rw[yE At,yE At,yE At,Auk]
theorem Awn(t:Adr)(f:Rf):cl6 t (wdR f)=rfa t f:=by
 cases f with
 |nop=>exact Ap8 t
 |big =>
  show cl6 t "TooLarge"=_;unfold cl6;rw[yE At,yE At,yE At,ArM];rfl
 |unk =>
  show cl6 t "Unknown"=_;unfold cl6;rw[yE At,yF rfl];rfl
theorem Ap9:∀{ws:NY},fw ws≠"" -> fw ws∈ws
 |[],h=>yG U h
 |w::ws,h=>by
  unfold fw at h ⊢;split
  ·rename_i c;rw[yF c]at h;exact AxY _ (Ap9 h)
  ·exact AxW
theorem Aun(t:Adr)(h:Rk u wd ks)(hw:wd≠""):cl6 t wd=Ahc t wd:=by
 cases h with
 |good _=>exact yG U hw
 |no _ =>
  unfold cl6;rw[yE At,yE At,yE At]
 |big _ =>
  unfold cl6;rw[yE At,yE At,yE At]
theorem D3.cl{rs:List Rc}(D:D3 r0 rs r2)(t:Adr)(h:fwd r0 rs r2≠""):cl6 t (fwd r0 rs r2)=Ahc t (fwd r0 rs r2):=by
 have m:=Ap9 h;have:∃r:Rc,r.Ok/\r.wd=fwd r0 rs r2:=by
  rcases zG.mp m with m|m
  ·rcases yC.mp m with m|m
   ·exact⟨r0,D.o0,m.symm⟩
   ·obtain⟨r,a,e⟩:=yB.mp m;exact⟨r,D.os r a,e⟩
  ·exact⟨r2,D.o2,(zF.mp m).symm⟩
 obtain⟨r,O,e⟩:=this;rw[<-e]at h ⊢;exact Aun t O.k h
def LoQ (t:Adr)(H:Hp)(Q:VK)(E:XK)(z:NV):Lo->Prop
 | .ok x=>∀a q H',Aw H H'->nw H H' a=some (.tup [.str (tx z),.ref q])->nw H H' q=some (.lst (vS x))->Q (.ref a) H'
 | .no wd=>∀H',Aw H H'->E (.ref (cl6 t wd)) none H'
inductive ArU (t:Adr)(vs:LI)(H:Hp)(Q:VK)(E:XK):Prop
|mk(u:NV)(o:Lo)(_:vs=[.str (tx u)])(_:u.length<=1000000)(_:DrO u o)(_:(∀x,o=.ok x->∀(d dx a b c:Nn)(qs:NW)(th:NF)(tss:NA)(tr:NF) H',Aw H H'->IsD t H' d dx a b c qs th tss tr->Ft th tss tr->wv th tss tr=x->Q (.ref d) H'))(_:(∀wd,o=.no wd->∀H',Aw H H'->E (.ref (cl6 t wd)) none H'))
theorem AdN(T:Txt K mg t):Bm P w K mg base (CX1 P w) 42 t.KJ t.KQ ["text"] (ArU t):=(Awl (AbM T) (AbN T)).imp λvs H Q E h=>by
 obtain⟨u,o,e,i,D,m,j⟩:=h;cases D with
 |no D h =>
  refine .inl ⟨_,_,_,e,D.o0,D.ne,D.l,D.os,D.o2,i,λwd H' f _ s=>?_,λz=>yG z h⟩;have:=j _ U H' s;rw[D.cl t h]at this;rw[<-f];exact this
 |bad D h n =>
  refine .inl ⟨_,_,_,e,D.o0,D.ne,D.l,D.os,D.o2,i,λwd H' f e2 _=>yG (f.symm.trans h) e2,λ_=>⟨λF=>yG F n,λ_ H' s=>?_⟩⟩;have:=j _ U H' s;rw[As3]at this;exact this
 |ok D h F=>exact .inl ⟨_,_,_,e,D.o0,D.ne,D.l,D.os,D.o2,i,λwd H' f e2 _=>yG (f.symm.trans h) e2,λ_=>⟨λF d dx a b c qs H' s I=>m _ U d dx a b c qs _ _ _ H' s I F U,λn=>yG F n⟩⟩
 |part h =>
  refine .inr ⟨_,e,i,h,λH' s=>?_⟩;have:=j _ U H' s;rw[As3]at this;exact this
theorem Cw{v a:V}(b:v=a)(h:σ.set i (some a)=σ')(k:Kt σ' H):HB i v σ H Kt:=by subst b;subst h;exact k
theorem Q0:(Str.ofString " ")=tx [32]:=At
theorem Aa0:(Str.ofString "\n")=tx [10]:=At
theorem AmL:(Str.ofString ";")=tx [59]:=At
theorem AmM:(Str.ofString "=")=tx [61]:=At
theorem Af9:(Str.ofString "=:")=tx [61,58]:=At
theorem AfA{k:Nat}(h:k<=u.length):Tr u (some (k:Int)) none=u.drop k:=by unfold Tr;rw[HT.Kw,AyN h];exact Ayy (by rw[Ays];exact AxU _)
theorem Akh{c A B:Prop}[Decidable c](hc:¬c)(h:A):if (!decide c)=true then A else B:=by rw[zJ hc];exact Kz h
inductive Auo (t:Adr)(vs:LI)(H:Hp)(Q:VK)(E:XK):Prop
|mk(u:NV)(_:vs=[.str (tx u)])(_:(∀a b c,u=a++c::b->(∀x∈a,¬Sep x)->Sep c->∀H',Aw H H'->Q (.int (a.length:Int)) H'))(_:((∀x∈u,¬Sep x)->∀H',Aw H H'->E (.ref t.BK) none H'))
theorem Z1(T:Txt K mg t):Bm P w K mg base (CX1 P w) 1 t.RZ t.Sh ["line"] (Auo t):=by
 refine T.J7.F.okX Jc ?_;rintro _ _ _ _ H _ Q E o ⟨u,rfl,l,n⟩;refine⟨_,(Ac (PS.nox (DP yJ U (Aob U T.Abu (Aa (pv 0) Ab)) (IW U (CG (Bs (i:=1) Jc.nd U NN) (CG (Bs (i:=2) Jc.nd U NN) GJ)))
   (Ad (Bl (Ai ZC (pv 2) Af U)
    (Ad (Az (pv 1)))
    Aq))))
  (Ad (DR T.BW U T.BX (Aa Af Ab)))),?_⟩;rw[Af9];refine⟨_,U,_,U,Aml (λi σ H2=>∃j h,σ=[some (.str (tx u)),j,h]/\Aw H H2/\∀x∈u.take i,¬Sep x) ⟨none,none,U,.refl _,λx b=>by simp at b⟩ ?_ ?_⟩
 ·rintro i x σ H2 T0 b ⟨j,h,rfl,f,hi⟩ m;refine⟨T0,_,U,SqT.of Ae,U,_,_,U,_,_,U,U,?_⟩;have e:Aw H (upd H2 T0 (.tup [.int (i:Int),.str (tx [x])])):=f.new m;generalize upd H2 T0 (.tup [.int (i:Int),.str (tx [x])])=H3 at e ⊢;refine⟨_,U,_,_,U,U,?_⟩;rw[<-JT,Ad1];refine⟨_,U,?_⟩;have d:=(zC.mp b).1;refine CP (λc=>?_) (λc=>?_)
  ·have:= l (u.take i) (u.drop (i+1)) x (by rw[<-(zC.mp b).2,<-AyZ d,AyI]) hi (by unfold Sep;simpa using c) H3 e;rw[Ayc,AyN (Ay3 d)]at this;exact⟨_,U,this⟩
  ·refine⟨_,_,U,e,λy a=>?_⟩;rw[Aya,b]at a;rcases zG.mp a with a|a
   ·exact hi y a
   ·rw[show y=x by simpa using a];unfold Sep
    simpa using c
 ·rintro σ H2 ⟨j,h,rfl,f,hi⟩;rw[Ayg]at hi;exact⟨Ap,n hi H2 f⟩
theorem AfB{b:Hp}(k:LoQ t H Q E z (.ok x))(c:Aw H b)(d:b l9=some (.lst (vS x)))(e:H l9=none)(a:b q9=none):Q (.ref q9) (upd b q9 (.tup [.str (tx z),.ref l9])):=by
 refine k q9 l9 _ (c.new a) ?_ ?_
 ·rw[JN (c.free a)];exact Ae
 ·rw[JN e,Ao (Bf d a)];exact d
inductive ApA (t:Adr)(vs:LI)(H:Hp)(Q:VK)(E:XK):Prop
|mk(l:NV)(kp:Nn)(kn:Kns)(z:NV)(o:Lo)(_:vs=[.str (tx l),.ref kp])(_:l.length<=1000000)(_:Kn H kp kn)(_:kn.length<=1000)(_:(∀p∈kn,Clo p.2))(_:LnO kn l z o)(_:LoQ t H Q E z o)
theorem Aup{a d n:NV}{j:Nat}(e:a++c::b=d++j::n)(m:∀x∈a,¬Sep x)(hc:Sep c)(h:∀x∈d,¬Sep x)(i:Sep j):a=d/\c=j/\b=n:=by
 induction a generalizing d with
 |nil =>
  cases d with
  |nil=>injection e with f e2;exact⟨U,f,e2⟩
  |cons y d =>
   injection e with f _;exact yG (f▸hc) (h y AxW)
 |cons x a p =>
  cases d with
  |nil =>
   injection e with f _;exact yG (f▸i) (m x AxW)
  |cons y d =>
   injection e with f e2;obtain⟨f1,o,q⟩:=p e2 (λv l=>m v (AxY _ l)) (λv l=>h v (AxY _ l));exact⟨by rw[f,f1],o,q⟩
theorem AeE(T:Txt K mg t):Bm P w K mg base (CX1 P w) 43 t.Abi t.Abj ["line","known"] (ApA t):=by
 refine T.Vk.F.okX K5 ?_;rintro _ _ _ _ H _ Q E A ⟨l,kp,kn,z,o,rfl,O,hK,ab,hC,L,k⟩;refine⟨_,(Ac (Bd (i:=2) K5.nd U NN (Aj ((Z1 T).mono Ap) A U T.J7.m T.J7.F.kp T.J7.b .nil Cq (Aa (pv 0) Ab)))
  (Ac (Bd (i:=3) K5.nd U (Or.inr U) (Bx (K:=K) zI F.slot_str_strip F.type_str_strip X7 (Gq WM (pv 0) Ky (GP (pv 2))) (Aa Af Ab)))
  (Ac (Bl (Hr (Fb (Aj ((Xf T).mono Ap) A U T.J2.m T.J2.F.kp T.J2.b .nil Ay (Aa (pv 3) Ab))))
   (Ad (DR T.BW U T.BX (Aa Af Ab)))
   Aq)
  (Ac (Bl (Fb (Bb (Afn (K:=K)) U T.Asw Anz (Aa (PE.nox (CV (CJ.mk (Bp:=[3]) (Nc:=["pair","name"]) U At At (Cg (sc0:=Ag TJ) U At) U rfl U At (λk j h=>match k,h with | 0,h=>by obtain rfl:=yI h;exact⟨_,U,U,U⟩|_+1,h=>by simp at h)) U (BJ (K:=K) (pv 1)) (λ_ _ _ _ _=>.nil) (λ_ _ _ _ _=>(Jv Cj (Bq (Ep (K:=K)) (pv 0) Ah (λ_ _=>rfl)) (pv 1) (Av _))))) Ab)))
   (Ad (DR T.Agx U T.AkK (Aa Af Ab)))
   Aq)
  (Ac (Bd (i:=4) K5.nd U NN (Bx (K:=K) zI F.slot_str_strip F.type_str_strip X7 (Gq WM (pv 0) (GP (Ak Em (pv 2) Ah)) Ky) (Aa Af Ab)))
  (Ac (Bl (Ai Cj (Bq JS (pv 0) (pv 2) (λ_ _=>rfl)) Af (Av _))
   (Ad (Az (CT (Aa (pv 3) (Aa (By (K:=K) U (Aj ((Aat T).mono Ap) A U T.KZ.m T.KZ.F.kp T.KZ.b .nil Cq (Aa (pv 4) (Aa (pv 1) Ab))) ((De T).mono Ap) A T.Di.b Ay) Ab)))))
   Aq)
  (Ad (Az (CT (Aa (pv 3) (Aa (Aj ((Ap4 T).mono Ap) A U T.AkE.m T.AkE.F.kp T.AkE.b .nil Ay (Aa (Aj ((AdN T).mono Ap) A U T.Ms.m T.Ms.F.kp T.Ms.b .nil Cq (Aa (pv 4) Ab)) Ab)) Ab))))))))))),?_⟩;rw[Q0,AmM];have hsz:sizeLine=16777216:=z7;refine⟨_,U,l,U,λa b c el ha hc H1 Z=>?_,λaa H1 Z=>?_⟩
 rotate_left
 ·cases L with
  |part _ =>
   have:=k H1 Z;rw[Ap8]at this;exact this
  |line _ hc _=>exact yG hc (aa _ AB)
 obtain⟨rfl,S⟩:z=trim a/\LnP kn (trim a) c (trim b) o:=by
  cases L with
  |part h=>exact yG hc (h _ (by rw[el];simp))
  |line h1 h2 h3 =>
   obtain⟨rfl,rfl,rfl⟩:=Aup el h1 h2 ha hc;exact⟨U,h3⟩
 subst el;have a0:=O;rw[AxS,AxX]at a0;refine Cw U rfl ?_;have ec:Tr (a++c::b) none (some (a.length:Int))=a:=by
  unfold Tr;rw[HT.Ti,HT.Kw,AyN AB,Azv,AyY,Aza (AxU _),Ayg]
 refine⟨_,U,_,U,_,U,_,U,big O,?_⟩;rw[ec];refine⟨U,_,_,U,U,(by rw[Ba];omega),?_⟩;rw[AbW];refine Cw U rfl ?_;have X:=Z0 a;refine⟨_,U,trim a,U,Au,λH2 s2=>⟨_,U,?_⟩⟩;have u2:=Z.trans s2;clear L;generalize trim a=z at S k X ⊢;cases hn:Pat.isName z with
 |false =>
  refine Kz ⟨Ap,?_⟩;cases S with
  |name _ =>
   have:=k H2 u2;rw[Ap8]at this;exact this
  |twice h _=>rw[hn]at h;cases h
  |pat h _ _=>rw[hn]at h;cases h
  |dra h _ _=>rw[hn]at h;cases h
 |true =>
  refine GQ ?_;obtain⟨as,k1,k2,k3⟩:=hK.same u2;refine⟨_,U,_,U,⟨_,yW k1⟩,CK (K:=K) (a:=kp) (xs:=as.map V.ref) (λi ys G=>G=H2/\ys=vB ((kn.take i).map λp=>decide (p.1=z))) ⟨U,U⟩ ?_ ?_ ?_ ?_⟩
  ·rintro i ys G hi ⟨rfl,rfl⟩;refine⟨yW k1,?_⟩;rw[AjD,AxR,Ayc];exact AyB _ _
  ·rw[AxR,k2];omega
  ·rintro i xv ys G hi hx ⟨rfl,rfl⟩;rw[AxZ]at hx;obtain⟨q,ea,rfl⟩:=zU.mp hx;have J:i<kn.length:=by rw[<-k2];exact(zC.mp ea).1
   obtain⟨q2,e1,e2⟩:=k3 i q _ ea (AxT J);refine Iz.no ⟨_,U,_,_,_,_,U,U,SqT.of e1,Bw Ap U,_,U,U,CN.of hi ⟨U,?_⟩⟩;rw[AjE,Aya,AxT J,AxV]
   congr 2
   show[_]=[_]
   congr 1
   exact z5.mpr ⟨λh=>by injection h with h;exact Ja h,λh=>congrArg (λu=>V.str (tx u)) h⟩
  ·rintro ys G q ⟨rfl,rfl⟩ hq;refine⟨_,_,U,yW Ae,?_⟩;rw[AxR,k2,Ayg];have y:Aw H (upd G q (.lst (vB (kn.map λp=>decide (p.1=z))))):=u2.new hq;generalize upd G q (.lst (vB (kn.map λp=>decide (p.1=z))))=H3 at y ⊢;refine⟨_,U,?_⟩;by_cases C:∃q∈kn,q.1=z
   ·rw[show((kn.map λp=>decide (p.1=z)).any id)=true by
     obtain⟨q,v,s⟩:=C;rw[Az3,AzJ];exact⟨q,v,zN s⟩]
    refine Kz ⟨Ap,?_⟩;cases S with
    |name h=>rw[hn]at h;cases h
    |twice _ _ =>
     have:=k H3 y;rw[Awm]at this;exact this
    |pat _ h _=>exact yG C λ⟨q,h1,h2⟩=>h q h1 h2
    |dra _ h _=>exact yG C λ⟨q,h1,h2⟩=>h q h1 h2
   ·rw[show((kn.map λp=>decide (p.1=z)).any id)=false by
     rw[Az3,Az7];exact λq v s=>C ⟨q,v,yN s⟩]
    refine GQ ?_;have ed:Tr (a++c::b) (some ((a.length:Int)+1)) none=b:=by
     rw[show((a.length:Int)+1)=((a.length+1:Nat):Int) by omega,AfA AB,List.drop_append];simp
    refine⟨_,U,_,U,_,_,U,U,_,U,_,U,big O,?_⟩;rw[ed];refine⟨U,_,_,U,U,(by rw[Ba];omega),?_⟩;rw[AbW];refine Cw U rfl ?_;have tb:=Z0 b;refine⟨_,U,_,U,_,_,c,U,U,(by rw[Ba];exact big O),Bw Au (by rw[Fv,Ayi,Aym (AxU _),AyJ];rfl),U,_,U,?_⟩;cases S with
    |name h=>rw[hn]at h;cases h
    |twice _ h=>exact yG h C
    |pat _ _ pr =>
     obtain⟨o9,RT,rfl,a6⟩:=pr;refine I9 U ⟨_,U,_,U,_,U,trim b,kp,kn,o9,U,Au,hK.same y,hC,RT,a6,?_⟩;generalize rdo kn o9=R at k ⊢;obtain⟨R1,R2⟩:=R;cases R1 with
     |ok x =>
      intro pc M r hp;have W:=hp.mono (λb o e=>(NQ e).2);refine Gg T W λl9 B=>?_;have N:=y.trans r;exact⟨AE,λq9 n=>AfB k (N.new B) Ae (N.free B) n⟩
     |no f =>
      intro M r;have:=k M (y.trans r);rw[Awn]at this;exact this
    |dra _ _ D =>
     refine DQ Ap ⟨_,U,_,U,trim b,o,U,Au,D,λx ex d dx a b c qs th tss tr M r I F Y=>?_,λwd Y M r=>?_⟩
     ·refine⟨d,dx,a,b,c,qs,th,tss,tr,U,I,F,λl9 H5 s5 n9 h9=>?_⟩;rw[Y]at h9;rw[ex]at k;have N:=y.trans r;exact⟨AE,λq9 n=>AfB k (N.trans s5) h9 (N.free n9) n⟩
     ·rw[Y]at k;exact k M (y.trans r)
def BoQ (t:Adr)(H:Hp)(Q:VK)(E:XK):Bo->Prop
 | .ok kn=>∀q H',Aw H H'->Kn (nw H H') q kn->Q (.ref q) H'
 | .no wd=>∀H',Aw H H'->E (.ref (cl6 t wd)) none H'
inductive ApB (t:Adr)(vs:LI)(H:Hp)(Q:VK)(E:XK):Prop
|mk(u:NV)(bs:NI)(o:Bo)(_:vs=[.str (tx u)])(_:u.length<=1000000)(_:bs≠[])(_:jn 10 bs=u)(_:(∀b∈bs,10∉b))(_:bs.length<=900)(_:BkO [] bs o)(_:BoQ t H Q E o)
theorem As4{c:Nat}{w:NV}:∀{ws:NI},w∈ws->w.length<=(jn c ws).length
 |[],h=>by simp at h
 |[v],h=>by rw[zF.mp h];exact AxU _
 |v::x::r,h=>by
  show _<=(v++c::jn c (x::r)).length;rw[AxS,AxX];rcases yC.mp h with rfl|h
  ·lia
  ·have:= As4 (c:=c) h;lia
theorem AeF(T:Txt K mg t):Bm P w K mg base (CX1 P w) 44 t.Abg t.Abh ["text"] (ApB t):=by
 refine T.Vj.F.okX K4 ?_;rintro _ _ _ _ H _ Q E hr ⟨u,bs,o,rfl,hu,ac,hj,a6,ae,hB,k⟩;refine⟨_,(Ac (Bd (i:=1) K4.nd U NN (Cm Ab))
  (Ac (Xy λhfr=>(DP (AfY O5 hfr) U (BJ (K:=K) (Bx (K:=K) zI zY z6 AcA (pv 0) (Aa Af Ab))) (Bs (i:=2) K4.nd U NN)
   (Ac (Bd (i:=3) K4.nd U NN (Bx (K:=K) zI F.slot_str_strip F.type_str_strip X7 (pv 2) (Aa Af Ab)))
   (Ad (Bl (PW.pt (pw_and (Ai Lh (pv 3) Af (Av _)) (pw_and1 (Hr (Fb (Bx (K:=K) zI F.slot_str_startswith F.type_str_startswith ZQ (pv 3) (Aa Af Ab)))))))
    (Ad (Bj (Bx (K:=K) zM zL zQ Dg (pv 1) (Aa (Aj ((AeE T).mono Ap) hr U T.Vk.m T.Vk.F.kp T.Vk.b .nil Cq (Aa (pv 3) (Aa (pv 1) Ab))) Ab))))
    Aq)))))
  (Ad (Az (pv 1))))),?_⟩;rw[Aa0,Q0,AmL];have hsz:=z7;refine⟨AB,λq L=>?_⟩;obtain⟨H1,e9,s1,h1⟩:=nu9 (o:=.lst []) (.refl _) L;rw[e9];refine⟨_,U,U,u,10,bs,U,U,Ap,AA,ac,hj,a6,λl hl=>?_⟩;have N:Aw H1 (upd H1 l (.lst (vS bs))):=.upd hl;have h2:(upd H1 l (.lst (vS bs))) l=some (.lst (vS bs)):=Ae;have R:=Bf h1 hl;generalize upd H1 l (.lst (vS bs))=H2 at N h2 ⊢;refine⟨_,U,⟨_,yW h2⟩,Ff (K:=K) (λi σ G=>∃(Y O:Option V)(d:Kns),σ=[some (.str (tx u)),some (.ref q),Y,O]/\Aw H G/\G l=some (.lst (vS bs))/\Kn (nw H G) q d/\d.length<=i/\(∀p∈d,Clo p.2)/\BkO d (bs.drop i) o) ⟨none,none,[],U,s1.trans N,h2,⟨[],by rw[JN L];exact N _ _ h1,U,λi a p g=>by simp at g⟩,Ayf _,(λp v=>by simp at v),hB⟩ (λi σ G _ ⟨_,_,_,_,_,h,_⟩=>yW h) ?_ ?_⟩
 ·rintro i xv σ G hx ⟨Y,O,d,rfl,n,M,y,aa,J,hB⟩;obtain⟨b,hb,rfl⟩:=Fw hx;have hi:=(zC.mp hb).1;have ed:bs.drop i=b::bs.drop (i+1):=by
   rw[AyZ hi];have:= AxT hi;rw[hb]at this;injection this with this;rw[<-this]
  rw[ed]at hB;have bl:=As4 (c:=10) (Ayb hb);rw[hj]at bl;have tl:=Z0 b;refine⟨_,U,U,_,_,U,U,(by rw[Ba];lia),?_⟩;rw[AbW];refine⟨_,U,U,_,U,?_⟩;by_cases A:trim b=[]\/(trim b).head?=some 59
  ·have hB:BkO d (bs.drop (i+1)) o:=by
    cases hB with
    |skip _ h=>exact h
    |line h1 h2 _ _ _=>exact yG A λz=>z.elim h1 h2
    |stop h1 h2 _=>exact yG A λz=>z.elim h1 h2
   by_cases c1:trim b=[]
   ·rw[c1];exact GQ ⟨_,_,d,U,n,M,y,Au,J,hB⟩
   ·refine Akh (SM c1) ?_;have c2:=A.resolve_left c1;refine⟨_,U,U,_,_,U,U,?_⟩;rw[Vb];refine⟨_,U,?_⟩;rw[zN c2];exact GQ ⟨_,_,d,U,n,M,y,Au,J,hB⟩
  ·have c1:¬trim b=[]:=λz=>A (.inl z);have S:¬(trim b).head?=some 59:=λz=>A (.inr z);refine Akh (SM c1) ⟨_,U,U,_,_,U,U,?_⟩;rw[Vb];refine⟨_,U,?_⟩;rw[zJ S];obtain⟨z,lo,hL,hg⟩:∃z lo,LnO d (trim b) z lo/\((∃x,lo=.ok x/\Clo x/\BkO (d++[(z,x)]) (bs.drop (i+1)) o)\/∃wd,lo=.no wd/\o=.no wd):=by
    cases hB with
    |skip h _=>exact yG h A
    |line _ _ h1 h2 h3=>exact⟨_,_,h1,.inl ⟨_,U,h2,h3⟩⟩
    |stop _ _ h1=>exact⟨_,_,h1,.inr ⟨_,U,U⟩⟩
   have C:=y.same (λb o e=>(NQ e).2);have W:∃zs,G q=some (.lst zs):=by obtain⟨as,g,_⟩:=C;exact⟨_,g⟩
   refine⟨_,U,W.elim λzs hz=>.inl ⟨U,_,yW hz⟩,_,U,_,U,trim b,q,d,z,lo,U,Au,C,Au,J,hL,?_⟩;rcases hg with ⟨x,rfl,hX,hB⟩|⟨wd,rfl,rfl⟩
   rotate_left
   ·exact λG' s'=>k G' (n.trans s')
   intro a9 q9 G' s' n1 n2;obtain⟨as,g1,g2,g3⟩:=y;have r:=NQ g1;have a0:=n.trans s';have X:=s' _ _ r.2;refine⟨q,_,_,U,U,X,(by rw[AxR];omega),?_⟩;have f:=NQ n1;have D:=NQ n2;have Z:a9≠q:=λz=>by rw[z,r.2]at f;cases f.1
   have ab:q9≠q:=λz=>AC
   have sF:Aw H (upd G' q (.lst (as.map V.ref++[.ref a9]))):=λb o e=>by
    rw[Ao (Bf e L)];exact a0 b o e
   have lq:l≠q:=λz=>R z.symm;refine⟨_,_,d++[(z,x)],U,sF,by rw[Ao lq];exact s' _ _ M,⟨as++[a9],by rw[JN L,Ae,AxV];rfl,AC,λj a p' B e2=>?_⟩,AC,(λp v=>by
    rcases zG.mp v with v|v
    ·exact J p v
    ·rw[zF.mp v];exact hX),hB⟩
   by_cases cj:j<as.length
   ·rw[Ayo cj]at B;rw[Ayo (by rw[<-g2];exact cj)]at e2;obtain⟨q8,f1,f2⟩:=g3 j a p' B e2;have I:=NQ f1;have s:=NQ f2;have aq:a≠q:=λz=>AD
    refine⟨q8,by rw[JN I.1,Ao aq];exact s' _ _ I.2,?_⟩;rw[JN s.1,Ao]
    ·exact s' _ _ s.2
    ·intro z;have e:=s.2;rw[z,r.2]at e;injection e with e;injection e with e;have h0:(as.map V.ref)[j]?=some (.ref a):=by rw[AxZ,B];rfl
     rw[e]at h0;unfold vS at h0;cases h:p'.2[j]? with
     |none=>simp_all
     |some x=>simp_all
   ·rw[Aym Au]at B;rw[Aym (by rw[<-g2];omega),<-g2]at e2;have j0:j-as.length=0:=by
     grind
    rw[j0]at B e2;cases B;cases e2;exact⟨q9,by rw[JN (n.free f.1),Ao Z];exact f.2,by rw[JN (n.free D.1),Ao ab];exact D.2⟩
 ·rintro σ G ⟨Y,O,d,rfl,n,M,y,aa,J,hB⟩;rw[Bc,Az4]at hB;cases hB;exact⟨_,U,k q G n y⟩
end
def ldA (u:NV):NV:=u.flatMap λc=>[c,46]
def ldB (u:NV):NV:=u.flatMap λc=>[35,c]
def ld2 (x y:NI):NI:=(x.zip y).flatMap λq=>[ldA q.1,ldB q.2]
theorem U9{k:Nat}(h:i<2*k):(Iw k).getD i 0=((i%2:Nat):Int):=by
 unfold Iw;rw[Ay2,Ak2 [(0:Int),1] k i (by simp;omega)];have:i%2=0\/i%2=1:=Au
 rcases this with e|e<;>simp[e]
theorem AiO{k:Nat}:∀{i:Nat},i<=2*k->((Iw k).take i).count 0=(i+1) / 2/\((Iw k).take i).count 1=i / 2
 | 0,_=>AB
 |i+1,h=>by
  have a:=AiO (k:=k) (i:=i) (by exact Ar.c3 h);have b:i<(Iw k).length:=by rw[Gu];exact Ar.j4 h
  rw[WN b,WN b,a.1,a.2,U9 (by exact Ar.j4 h)];have:i%2=0\/i%2=1:=Au
  rcases this with e|e
  ·rw[e];simp;omega
  ·rw[e];simp;omega
theorem Ahk{k:Nat}(h:i<2*k):plc (Iw k) i=i / 2:=by
 unfold plc;rw[U9 h];have:=AiO (k:=k) (i:=i) (by exact Ar.c3 h);have e:i%2=0\/i%2=1:=Au
 rcases e with e|e
 ·rw[e];show((Iw k).take i).count 0=_;rw[this.1];omega
 ·rw[e];exact this.2
theorem ArV{k:Nat}(h:k<2*u.length):(ldA u)[k]?=some (if k%2=0 then u.getD (k / 2) 0 else 46):=by
 unfold ldA;have e:=XF (h:=2) (f:=λc:Nat=>[c,46]) u (λx _=>rfl) (k / 2) (k%2) Au;rw[show k / 2*2+k%2=k by omega]at e;rw[e];have hk:k / 2<u.length:=Au
 rw[AxT hk];show[u[k / 2],46][k%2]?=_;have e2:u.getD (k / 2) 0=u[k / 2]:=by rw[Ay2,AxT hk];rfl
 rw[e2];have:k%2=0\/k%2=1:=Au
 rcases this with a|a<;>rw[a]<;>rfl
theorem ArW{k:Nat}(h:k<2*u.length):(ldB u)[k]?=some (if k%2=0 then 35 else u.getD (k / 2) 0):=by
 unfold ldB;have e:=XF (h:=2) (f:=λc:Nat=>[35,c]) u (λx _=>rfl) (k / 2) (k%2) Au;rw[show k / 2*2+k%2=k by omega]at e;rw[e];have hk:k / 2<u.length:=Au
 rw[AxT hk];show[35,u[k / 2]][k%2]?=_;have e2:u.getD (k / 2) 0=u[k / 2]:=by rw[Ay2,AxT hk];rfl
 rw[e2];have:k%2=0\/k%2=1:=Au
 rcases this with a|a<;>rw[a]<;>rfl
theorem Alm(u:NV):(ldA u).length=2*u.length:=by unfold ldA;rw[Lr (h:=2) u λx _=>rfl];omega
theorem Aln(u:NV):(ldB u).length=2*u.length:=by unfold ldB;rw[Lr (h:=2) u λx _=>rfl];omega
theorem ArX{y:NI}(C:Cl x m n)(D:Cl y m n):lay [x,y] (Iw m) (Iw n)=ld2 x y:=by
 have zl:(x.zip y).length=n:=by rw[List.length_zip,C.hn,D.hn,Azb]
 have v:(ld2 x y).length=2*n:=by
  unfold ld2;rw[Lr (h:=2) _ λq _=>rfl,zl];omega
 apply Azj;intro j;by_cases b:j<2*n
 ·have l:j<(Iw n).length:=by rw[Gu];exact b
  rw[Ak3 l,U9 b,Ahk b];have i:j / 2<x.length:=by rw[C.hn];omega
  have p:j / 2<y.length:=by rw[D.hn];omega
  have e:=XF (h:=2) (f:=λq:NV×NV=>[ldA q.1,ldB q.2]) (x.zip y) (λq _=>rfl) (j / 2) (j%2) Au;rw[show j / 2*2+j%2=j by omega]at e;show _=(ld2 x y)[j]?;unfold ld2;rw[e];have w:(x.zip y)[j / 2]?=some (x[j / 2],y[j / 2]):=List.getElem?_zip_eq_some.mpr ⟨AxT i,AxT p⟩;rw[w];show _=[ldA x[j / 2],ldB y[j / 2]][j%2]?;have s:=C.hm _ (Ayp i);have r:=D.hm _ (Ayp p);have ex:x.getD (j / 2) []=x[j / 2]:=by rw[Ay2,AxT i];rfl
  have u:y.getD (j / 2) []=y[j / 2]:=by rw[Ay2,AxT p];rfl
  have d:j%2=0\/j%2=1:=Au
  rcases d with c|c
  ·rw[c];show some (Gs [x,y] (Iw m) 0 (j / 2))=some (ldA x[j / 2])
   congr 1
   apply Azj;intro k;by_cases hk:k<2*m
   ·rw[WQ (by rw[Gu];exact hk),ArV (by rw[s];exact hk),U9 hk,Ahk hk];show some (XD 0 ((k%2:Nat):Int) (x.getD (j / 2) []) (k / 2))=_;rw[ex];unfold XD;have o:k%2=0\/k%2=1:=Au
    rcases o with a|a
    ·rw[a];rfl
    ·rw[a];rfl
   ·rw[AyK (by rw[Lq,Gu];exact Ar.a1 hk),AyK (by rw[Alm,s];exact Ar.a1 hk)]
  ·rw[c];show some (Gs [x,y] (Iw m) 1 (j / 2))=some (ldB y[j / 2])
   congr 1
   apply Azj;intro k;by_cases hk:k<2*m
   ·rw[WQ (by rw[Gu];exact hk),ArW (by rw[r];exact hk),U9 hk,Ahk hk];show some (XD 1 ((k%2:Nat):Int) (y.getD (j / 2) []) (k / 2))=_;rw[u];unfold XD;have o:k%2=0\/k%2=1:=Au
    rcases o with a|a
    ·rw[a];rfl
    ·rw[a];rfl
   ·rw[AyK (by rw[Lq,Gu];exact Ar.a1 hk),AyK (by rw[Aln,r];exact Ar.a1 hk)]
 ·rw[AyK (by rw[Agi,Gu];exact Ar.a1 b),AyK (by rw[v];exact Ar.a1 b)]
section
variable {K:NO}{base:Heap}{t:Adr}
inductive ApC (vs:LI)(H:Hp)(Q:VK)(z3:XK):Prop
|mk(z:Int)(m:Nat)(n:Nat)(_:vs=[.int z,.int (m:Int),.int (n:Int)])(_:1<=m)(_:m<=40)(_:1<=n)(_:n<=40)(_:∀l x H',Aw H H'->H l=none->H' l=some (.lst (vS x))->Cl x m n->Q (.ref l) H')
theorem AmN{z:Int}:∃c,atI ((tx [46,35]).cps.toList) (z%2)=some c/\Sg c:=by
 have h:z%2=0\/z%2=1:=AA
 rcases h with h|h
 ·exact⟨46,by rw[h];exact Bw Ap U,.inr U⟩
 ·exact⟨35,by rw[h];exact Bw Ap U,.inl U⟩
theorem AiP(T:Txt K mg t):Bm P w K mg base CX0 1 t.Adi t.Adj ["number","ends","picks"] ApC:=by
 refine T.YW.F.ok Gv ?_;rintro _ _ _ _ H _ Q E a ⟨z,m,n,rfl,J,o,n1,p,k⟩;refine⟨_,(Ac (Bd (i:=3) Gv.nd U NN (Cm Ab))
  (Ac (DP yJ U (Ea U T.Es (Aa (pv 2) Ab)) (Bs (i:=4) Gv.nd U NN)
   (Ac (Bd (i:=5) Gv.nd U NN Af)
   (Ac (DP yJ U (Ea U T.Es (Aa (pv 1) Ab)) (Bs (i:=6) Gv.nd U NN)
    (Ac (Bd (i:=5) Gv.nd U NN (Ak Am (pv 5) (Bq JS Af (Ak Dd (pv 0) Ah) (λ_ _=>rfl))))
    (Ad (Bd (i:=0) Gv.nd U NN (Ak Eo (pv 0) Ah)))))
   (Ad (Bj (Bx (K:=K) zM zL zQ Dg (pv 3) (Aa (pv 5) Ab)))))))
  (Ad (Az (pv 3))))),?_⟩;have hsz:=z7;refine⟨Ayf _,λq I=>?_⟩;have L:Aw H (upd H q (.lst [])):=.upd I;have C:(upd H q (.lst [])) q=some (.lst (vS [])):=Ae;refine⟨_,U,_,U,(by exact Ar.a7),(by exact Ar.a8 p),?_⟩;rw[Ayi];refine GK (λi σ H2=>∃(y:Int)(s G f:Option V)(x:NI),σ=[some (.int y),some (.int (m:Int)),some (.int (n:Int)),some (.ref q),s,G,f]/\Aw H H2/\H2 q=some (.lst (vS x))/\x.length=i/\∀r∈x,r.length=m/\∀c∈r,Sg c) ⟨z,none,none,none,[],U,L,C,U,λr h=>by simp at h⟩ ?_ ?_
 ·rintro i σ H2 hi ⟨y,s,G,f,x,rfl,B,b,A,e⟩;refine⟨_,U,_,U,(by exact Ar.a7),(by exact Ar.a8 o),?_⟩;rw[Ayi];refine GK (λj σ H3=>∃(y:Int)(f:Option V)(u:NV),σ=[some (.int y),some (.int (m:Int)),some (.int (n:Int)),some (.ref q),some (.int (0+(i:Int))),some (.str (tx u)),f]/\H3=H2/\u.length=j/\∀c∈u,Sg c) ⟨y,_,[],by rw[show(("":Str))=tx [] from At]<;>rfl,U,U,λc h=>by simp at h⟩ ?_ ?_
  ·rintro j σ H3 M ⟨y,f,u,rfl,rfl,D,v⟩;obtain⟨c,hc,sc⟩:=AmN;refine⟨_,U,_,U,_,_,U,U,Ap,_,_,c,U,U,(by exact big Ap),hc,_,_,U,U,(by rw[JT,Ba,Ba];exact big AD),?_⟩;rw[JT,Bt];refine⟨_,U,_,_,U,U,⟨Ap,Ap⟩,_,_,u++[c],U,U,by rw[AxS,D];rfl,λd l=>?_⟩;rcases zG.mp l with l|l
   ·exact v d l
   ·rw[zF.mp l];exact sc
  ·rintro σ H3 ⟨y,f,u,rfl,rfl,D,v⟩;refine⟨_,U,.inl ⟨U,_,yW b⟩,_,U,_,_,_,U,U,b,(by rw[Bc];lia),?_⟩;rw[Dj];refine⟨y,_,_,_,x++[u],U,B.over (by
    grind),Ae,by rw[AxS,A];rfl,λr a=>?_⟩
   rcases zG.mp a with a|a
   ·exact e r a
   ·rw[zF.mp a];exact⟨D,v⟩
 ·rintro σ H2 ⟨y,s,G,f,x,rfl,B,b,A,e⟩;exact⟨_,U,k q x H2 B I b ⟨A,λr a=>(e r a).1,λr a=>(e r a).2,J,o,n1,p⟩⟩
inductive AmO (vs:LI)(H:Hp)(Q:VK)(z3:XK):Prop
|mk(c:_)(_:vs=[.str ⟨#[c]⟩])(_:Q (.str (tx [flip c])) H)
theorem Z2(T:Txt K mg t):Bm P w K mg base CX0 1 t.Abo t.Abp ["sign"] AmO:=by
 refine T.Jp.F.ok Ags ?_;rintro _ _ _ _ H _ Q E a ⟨c,rfl,k⟩;refine⟨_,(Ac (Bl (Ai Cj (pv 0) Af (Av _))
   (Ad (Az Af))
   Aq)
  (Ad (Az Af))),?_⟩;refine⟨_,U,U,_,U,CP (λh=>?_) (λh=>?_)⟩
 ·have e:=AvT.mp (h.trans e35.symm);rw[e]at k;exact k
 ·have e:¬c=35:=λz=>h (by rw[z];exact e35);rw[show flip c=35 by unfold flip;rw[yE e]]at k;exact k
inductive ApD (K:NO)(vs:LI)(H:Hp)(Q:VK)(z3:XK):Prop
|mk(z:NV)(a:Nn)(x:NI)(_:vs=[.str (tx z),.ref a])(_:(z=miW\/z=upW\/z=baW\/z=quW))(_:SqL K H a (vS x))(_:Clo x)(_:∀l y H',Aw H H'->H l=none->H' l=some (.lst (vS y))->Aj8 z x=.ok y->Q (.ref l) H')
theorem Iu:∀l:NI,((l.map tx).map (·.length)).sum=l.flatten.length:=λl=>by
 induction l with
 |nil=>rfl
 |cons x l a=>rw[Ayd,Ayd,Ay6,a,Ayv,AxS,Ba]
theorem Ahl:(Str.length "")=0:=At
theorem Ahm:(("":Str))=tx []:=At
theorem AeG(T:Txt K mg t):Bm P w K mg base CX0 2 t.YL t.YM ["word","rows"] (ApD K):=by
 refine T.QV.F.ok Aeg ?_;rintro _ _ _ _ H _ Q E M ⟨z,a,x,rfl,W,s,C,k⟩;refine⟨_,(Ac (Bl (Ai Cj (pv 0) Af (Av _))
   (Ad (Az (Ac6 (K:=K) U T.Jq U T.Jr (pv 1))))
   Aq)
  (Ac (Bl (Ai Cj (pv 0) Af (Av _))
   (Ad (Az (CV (CJ.mk (Bp:=[]) (Nc:=["row"]) U At At (Cg (sc0:=Ag GX) U At) U rfl U At (λ_ _ h=>by simp at h)) U (BJ (K:=K) (pv 1)) (λ_ _ _ _ _=>.nil) (λ_ _ _ _ _=>(Bx zI zS zV (DN) Af (Aa (AhZ U T.Jq U T.Jr (pv 0)) Ab))))))
   Aq)
  (Ac (Bl (Ai Cj (pv 0) Af (Av _))
   (Ad (Az (CV (CJ.mk (Bp:=[]) (Nc:=["row"]) U At At (Cg (sc0:=Ag GX) U At) U rfl U At (λ_ _ h=>by simp at h)) U (BJ (K:=K) (pv 1)) (λ_ _ _ _ _=>.nil) (λ_ _ _ _ _=>(Bx zI zS zV (DN) Af (Aa (CV (CJ.mk (Bp:=[]) (Nc:=["sign"]) U At At (AhX At) U rfl U At (λ_ _ h=>by simp at h)) U (Arc U T.Jr (Aa (pv 0) Ab)) (λ_ _ _ _ _=>.nil) (λ_ _ _ _ _=>(Aj ((Z2 T).mono Ap) M U T.Jp.m T.Jp.F.kp T.Jp.b .nil Ay (Aa (pv 0) Ab)))) Ab))))))
   Aq)
  (Ad (Az (AnS (M9.mk (Bp:=[1]) (Nc:=["k","rows"]) U rfl At (Cg (sc0:=Ag GX) U At) U rfl U At (λk j h=>match k,h with | 0,h=>by obtain rfl:=yI h;exact⟨_,U,U,U⟩|_+1,h=>by simp at h)) U (Ea U T.Es (Aa (Bb BL U T.Cd Bv (Aa (Bq (Be (K:=K)) (pv 1) Ah (λ_ _=>rfl)) Ab)) Ab)) (λ_ _ _ _ _=>.nil) (λ_ _ _ _ _=>(Bx zI zS zV (DN) Af (Aa (CV (CJ.mk (Bp:=[0]) (Nc:=["row","k"]) U At At (Aib (sc0:=Ag GX) U At) U rfl U At (λk j h=>match k,h with | 0,h=>by obtain rfl:=yI h;exact⟨_,U,U,U⟩|_+1,h=>by simp at h)) U (BJ (pv 1)) (λ_ _ _ _ _=>.nil) (λ_ _ _ _ _=>(Aj ((Z2 T).mono Ap) M U T.Jp.m T.Jp.F.kp T.Jp.b .nil Ay (Aa (Bq JS (pv 0) (pv 1) (λ_ _=>rfl)) Ab)))) Ab))))))))),?_⟩;have p:=C.n40;have r:=C.m40;refine⟨_,U,U,_,U,?_⟩;by_cases c1:z=upW
 ·subst c1;refine⟨_,U,a,vS x,U,s,(by rw[Bc];exact Ar.a2 p),λl n=>?_⟩;rw[show(vS x).reverse=vS x.reverse by unfold vS;rw[List.map_reverse]];exact k l x.reverse _ (.upd n) n Ae U
 refine DQ (SM c1) ⟨_,U,U,_,U,?_⟩;by_cases J:z=miW
 ·subst J;refine⟨_,U,_,U,⟨_,s⟩,CK (xs:=vS x) (λi ys H2=>Aw H H2/\ys=vS ((x.take i).map List.reverse)) ⟨.refl _,U⟩ ?_ ?_ ?_ ?_⟩
  ·rintro i ys H2 hi ⟨d,rfl⟩;refine⟨d.seq s,?_⟩;rw[Bc,AxR,Ayc];exact Ar.k7
  ·rw[Bc];exact Cv p
  ·rintro i L ys H2 hi B ⟨d,rfl⟩;obtain⟨u,v,rfl⟩:=Fw B;have f:=C.hm u (Ayb v);refine⟨U,_,U,_,U,(by rw[Ba,f];exact Ar.a2 r),λq R=>?_⟩;have O:((tx u).cps.toList.reverse.map λc=>V.str ⟨#[c]⟩)=vS (u.reverse.map λc=>[c]):=by
    unfold vS;rw[Ay7];rfl
   rw[O];have G:=d.new (o:=.lst (vS (u.reverse.map λc=>[c]))) R;have h3:(upd H2 q (.lst (vS (u.reverse.map λc=>[c])))) q=some (.lst (vS (u.reverse.map λc=>[c]))):=Ae;have e2:(u.reverse.map λc=>[c]).flatten=u.reverse:=(Ri id u.reverse).trans (AyP _);refine⟨_,_,((u.reverse.map λc=>[c]).map tx),U,U,yW (by rw[h3,Gj]),(by rw[Iu,e2,Ay1,Ahl,f,Aze];exact Ar.a2 r),?_⟩;rw[Ahm,GR,e2];refine CN.of hi ⟨G,?_⟩;rw[Dj,Aya,v,AxV];rfl
  ·rintro ys H2 l ⟨d,rfl⟩ n;rw[Bc,Ayg];exact k l _ _ (d.new n) (d.free n) Ae U
 refine DQ (SM J) ⟨_,U,U,_,U,?_⟩;by_cases c3:z=baW
 ·subst c3;refine⟨_,U,_,U,⟨_,s⟩,CK (xs:=vS x) (λi ys H2=>Aw H H2/\ys=vS (back (x.take i))) ⟨.refl _,U⟩ ?_ ?_ ?_ ?_⟩
  ·rintro i ys H2 hi ⟨d,rfl⟩;refine⟨d.seq s,?_⟩;unfold back;rw[Bc,AxR,Ayc];exact Ar.k7
  ·rw[Bc];exact Cv p
  ·rintro i L ys H2 hi B ⟨d,rfl⟩;obtain⟨u,v,rfl⟩:=Fw B;have f:=C.hm u (Ayb v);refine⟨U,_,U,_,U,(by rw[Ba,f];exact Cv r),Amj (λj ys H3=>H3=H2/\ys=vS (((u.reverse.take j).map flip).map λc=>[c])) ⟨U,U⟩ ?_ ?_ ?_ ?_⟩
   ·rintro j ys H3 A ⟨rfl,rfl⟩;rw[Bc,AxR,AxR,Ayc];exact Ar.k7
   ·rw[M7,f];exact Cv r
   ·rintro j c ys H3 A hc ⟨rfl,rfl⟩;rw[M7]at A hc;rw[WK]at hc;refine⟨_,U,c,U,CN.of A ⟨U,?_⟩⟩;rw[Dj,Aya,Azu A,hc,AxV,AxV];rfl
   ·rintro ys H3 l ⟨rfl,rfl⟩ n;rw[M7,show u.reverse.take u.length=u.reverse from Ayy (by rw[Ay1];exact AxU _)];have G:=d.new (o:=.lst (vS ((u.reverse.map flip).map λc=>[c]))) n;have h3:(upd H3 l (.lst (vS ((u.reverse.map flip).map λc=>[c])))) l=some (.lst (vS ((u.reverse.map flip).map λc=>[c]))):=Ae;have e2:((u.reverse.map flip).map λc=>[c]).flatten=u.reverse.map flip:=(Ri id (u.reverse.map flip)).trans (AyP _);refine⟨_,_,(((u.reverse.map flip).map λc=>[c]).map tx),U,U,yW (by rw[h3,Gj]),(by rw[Iu,e2,AxR,Ay1,Ahl,f,Aze];exact Ar.a2 r),?_⟩;rw[Ahm,GR,e2];refine CN.of hi ⟨G,?_⟩;unfold back;rw[Dj,Aya,v,AxV];rfl
  ·rintro ys H2 l ⟨d,rfl⟩ n;rw[Bc,Ayg];exact k l _ _ (d.new n) (d.free n) Ae U
 have S:z=quW:=by
  simp_all
 subst S;obtain⟨X,I,y⟩:=C.at C.n1;refine⟨_,U,_,_,_,_,U,U,s,Abv I,_,U,(by rw[Ba,y];exact Cv r),_,U,(by exact Ar.a7),(by rw[Ba,y];exact Ar.a8 r),?_⟩;rw[Ba,y,Ayi];refine Gr (λi ys H2=>Aw H H2/\ys=vS ((List.range i).map λe=>(col x e).map flip)) ⟨.refl _,U⟩ ?_ ?_ ?_ ?_
 ·rintro i ys H2 hi ⟨d,rfl⟩;rw[Bc,AxR,Ayw];exact AxU _
 ·exact Cv r
 ·rintro i ys H2 hi ⟨d,rfl⟩;have cl:(col x i).length=x.length:=by unfold col;rw[AxR]
  refine⟨U,_,U,_,U,⟨_,d.seq s⟩,CK (xs:=vS x) (λj ys H3=>H3=H2/\ys=vS ((((col x i).take j).map flip).map λc=>[c])) ⟨U,U⟩ ?_ ?_ ?_ ?_⟩
  ·rintro j ys H3 A ⟨rfl,rfl⟩;refine⟨d.seq s,?_⟩;rw[Bc,AxR,AxR,Ayc];exact Ar.k7
  ·rw[Bc];exact Cv p
  ·rintro j L ys H3 A B ⟨rfl,rfl⟩;obtain⟨u,v,rfl⟩:=Fw B;have f:=C.hm u (Ayb v);have D:i<u.length:=AC
   refine⟨_,U,_,U,_,_,u[i],U,U,(by rw[Ba,f];exact Cv r),Bw (by exact Ar.a5) (by rw[z0];exact AxT D),u[i],U,?_⟩;refine CN.of A ⟨U,?_⟩;have N:(col x i)[j]?=some u[i]:=by
    unfold col;rw[AxZ,v];show some (u.getD i 0)=_;rw[Ay2,AxT D];rfl
   rw[Dj,Aya,N,AxV,AxV];rfl
  ·rintro ys H3 l ⟨rfl,rfl⟩ n;rw[Bc,Ayy (by rw[cl];exact AxU _)];have G:=d.new (o:=.lst (vS (((col x i).map flip).map λc=>[c]))) n;have h3:(upd H3 l (.lst (vS (((col x i).map flip).map λc=>[c])))) l=some (.lst (vS (((col x i).map flip).map λc=>[c]))):=Ae;have e2:(((col x i).map flip).map λc=>[c]).flatten=(col x i).map flip:=(Ri id ((col x i).map flip)).trans (AyP _);refine⟨_,_,((((col x i).map flip).map λc=>[c]).map tx),U,U,yW (by rw[h3,Gj]),(by rw[Iu,e2,AxR,cl,Ahl,Aze];exact Ar.a2 p),?_⟩;rw[Ahm,GR,e2];refine CN.of hi ⟨G,?_⟩;rw[Dj,Ay8,AxV];rfl
 ·rintro ys H2 l ⟨d,rfl⟩ n;exact k l _ _ (d.new n) (d.free n) Ae U
inductive ApE (K:NO)(vs:LI)(H:Hp)(Q:VK)(z3:XK):Prop
|mk(a:Nn)(b:Nn)(x:NI)(y:NI)(_:vs=[.ref a,.ref b])(_:SqL K H a (vS x))(_:SqL K H b (vS y))(_:Clo x)(_:Cl y (wdt x) x.length)(_:∀l H',Aw H H'->H l=none->H' l=some (.lst (vS (ld2 x y)))->Q (.ref l) H')
theorem AiQ(T:Txt K mg t):Bm P w K mg base CX0 1 t.Adk t.Adl ["one","other"] (ApE K):=by
 refine T.YZ.F.ok TV ?_;rintro _ _ _ _ H _ Q E hr ⟨a,b,x,y,rfl,hA,hB,C,D,k⟩;refine⟨_,(Ac (Bd (i:=2) TV.nd U NN (Cm Ab))
  (Ac (DP yJ U (Ea U T.Es (Aa (Bb (Ax (K:=K)) U T.Cd Bv (Aa (pv 0) Ab)) Ab)) (Bs (i:=3) TV.nd U NN)
   (Ac (Bj (Bx (K:=K) zM zL zQ Dg (pv 2) (Aa (Bx (K:=K) zI zS zV (DN (K:=K)) Af (Aa (CV (CJ.mk (Bp:=[]) (Nc:=["sign"]) U At At (Cg (sc0:=Ag QK) U At) U rfl U At (λ_ _ h=>by simp at h)) U (WD (Bq (Be (K:=K)) (pv 0) (pv 3) (λ_ _=>rfl))) (λ_ _ _ _ _=>.nil) (λ_ _ _ _ _=>(Ak Am (pv 0) Af))) Ab)) Ab)))
   (Ad (Bj (Bx (K:=K) zM zL zQ Dg (pv 2) (Aa (Bx (K:=K) zI zS zV (DN (K:=K)) Af (Aa (CV (CJ.mk (Bp:=[]) (Nc:=["sign"]) U At At (Cg (sc0:=Ag QK) U At) U rfl U At (λ_ _ h=>by simp at h)) U (WD (Bq (Be (K:=K)) (pv 1) (pv 3) (λ_ _=>rfl))) (λ_ _ _ _ _=>.nil) (λ_ _ _ _ _=>(Ak Am Af (pv 0)))) Ab)) Ab))))))
  (Ad (Az (pv 2))))),?_⟩;rw[Ahm];have hsz:=z7;have I:=C.n40;have Xk:=C.m40;have zl:(x.zip y).length=x.length:=by rw[List.length_zip,D.hn,Azb]
 refine⟨Ayf _,λq B=>?_⟩;have s1:Aw H (upd H q (.lst [])):=.upd B;have N:(upd H q (.lst [])) q=some (.lst (vS [])):=Ae;refine⟨_,U,_,_,U,.inl (s1.seq hA),_,U,(by exact Ar.a7),(by rw[Bc];exact Ar.a8 I),?_⟩;rw[Bc,Ayi];refine GK (λj σ H3=>∃(S:Option V),σ=[some (.ref a),some (.ref b),some (.ref q),S]/\Aw H H3/\H3 q=some (.lst (vS (((x.zip y).take j).flatMap λq=>[ldA q.1,ldB q.2])))) ⟨none,U,s1,N⟩ ?_ ?_
 ·rintro j σ H3 M ⟨S,rfl,A,d⟩;have u:j<y.length:=by rw[D.hn];exact M
  have ex:=AxT M;have R:=AxT u;have wx:=C.hm _ (Ayp M);have wy:=D.hm _ (Ayp u);have X:(x.zip y)[j]?=some (x[j],y[j]):=List.getElem?_zip_eq_some.mpr ⟨ex,R⟩;generalize x[j]=f at ex wx X;generalize y[j]=m at R wy X;have O:(((x.zip y).take j).flatMap λq=>[ldA q.1,ldB q.2]).length<=80:=by
   rw[Lr (h:=2) _ λq _=>rfl,Ayc];lia
  generalize ew:(((x.zip y).take j).flatMap λq=>[ldA q.1,ldB q.2])=s at d O;have en:((x.zip y).take (j+1)).flatMap (λq=>[ldA q.1,ldB q.2])=s++[ldA f,ldB m]:=by
   rw[Aya,X,List.flatMap_append,ew];rfl
  refine⟨_,U,.inl ⟨U,_,yW d⟩,U,_,U,_,U,_,_,_,_,U,U,A.seq hA,(by rw[Ay5];exact Abv ex),_,U,Xq (λe ys z=>z=H3/\ys=vS ((f.take e).map λc=>[c,46])) ⟨U,U⟩ ?_ ?_ ?_ ?_⟩
  ·rintro e ys z v ⟨rfl,rfl⟩;rw[Bc,AxR,Ayc];exact Ar.k7
  ·rw[M7,wx];exact Cv Xk
  ·rintro e cc ys z v l ⟨rfl,rfl⟩;rw[WK]at l;rw[show((".":Str))=tx [46] from At];refine⟨_,U,_,_,U,U,(by exact big (by show 2<=1000000;decide)),?_⟩;rw[JT,Bt];refine CN.of v ⟨U,?_⟩;rw[Dj,Aya,l,AxV];rfl
  ·rintro ys z p ⟨rfl,rfl⟩ np;rw[M7,Ayg];obtain⟨W,e9,Z,h5⟩:=nu9 (o:=.lst (vS (f.map λc=>[c,46]))) (.refl _) np;rw[e9];have Y:(f.map λc=>[c,46]).flatten=ldA f:=by unfold ldA;rw[List.flatMap_def]
   have la:=Alm f;refine⟨_,_,((f.map λc=>[c,46]).map tx),U,U,yW (by rw[h5,Gj]),(by rw[Iu,Y,Ba,Ayu,Aze];lia),?_⟩;rw[GR,Y];refine⟨_,_,_,U,U,Z _ _ d,(by rw[Bc];exact Ar.g3 O),?_⟩;rw[Dj];have J:Aw H (upd W q (.lst (vS (s++[ldA f])))):=(A.trans Z).over B;have r:(upd W q (.lst (vS (s++[ldA f])))) q=some (.lst (vS (s++[ldA f]))):=Ae;generalize upd W q (.lst (vS (s++[ldA f])))=H6 at J r ⊢;refine⟨_,U,.inl ⟨U,_,yW r⟩,U,_,U,_,U,_,_,_,_,U,U,J.seq hB,(by rw[Ay5];exact Abv R),_,U,Xq (λe ys n=>n=H6/\ys=vS ((m.take e).map λc=>[35,c])) ⟨U,U⟩ ?_ ?_ ?_ ?_⟩
   ·rintro e ys n v ⟨rfl,rfl⟩;rw[Bc,AxR,Ayc];exact Ar.k7
   ·rw[M7,wy];exact Cv Xk
   ·rintro e cc ys n v l ⟨rfl,rfl⟩;rw[WK]at l;rw[show(("#":Str))=tx [35] from At];refine⟨_,U,_,_,U,U,(by exact big (by show 2<=1000000;decide)),?_⟩;rw[JT,Bt];refine CN.of v ⟨U,?_⟩;rw[Dj,Aya,l,AxV];rfl
   ·rintro ys n G ⟨rfl,rfl⟩ L;rw[M7,Ayg];have s8:Aw n (upd n G (.lst (vS (m.map λc=>[35,c])))):=.upd L;have h8:(upd n G (.lst (vS (m.map λc=>[35,c])))) G=some (.lst (vS (m.map λc=>[35,c]))):=Ae;have eg:(m.map λc=>[35,c]).flatten=ldB m:=by unfold ldB;rw[List.flatMap_def]
    have lb:=Aln m;refine⟨_,_,((m.map λc=>[35,c]).map tx),U,U,yW (by rw[h8,Gj]),(by rw[Iu,eg,Ba,Ayu,Aze];lia),?_⟩;rw[GR];refine⟨_,_,_,U,U,s8 _ _ r,(by rw[Bc,AxS];exact Ayl (show s.length+1<1000 by exact Ar.g3 (Ar.j6 O)) Ap),?_⟩;rw[Dj];refine⟨_,U,(J.trans s8).over B,?_⟩;rw[Ae,en,Ay0];rfl
 ·rintro σ H3 ⟨S,rfl,A,d⟩;rw[Ayy (by rw[zl];exact AxU _)]at d;exact⟨_,U,k q H3 A B d⟩
end
def nmT (w k:Nat):NV:=match w with
 | 0=>[111,111,97+k%26,97+k / 26%26]
 | 1=>[97+k%26,97+k / 26%26,111,111]
 |_=>[111,97+k%26,97+k / 26%26,111]
theorem ApF:∀w∈List.range 3,∀k∈List.range 61,Pat.isName (nmT w k)=true:=At
theorem ArY:∀w∈List.range 3,∀j∈List.range 61,∀k∈List.range 61,nmT w j=nmT w k->j=k:=At
theorem Alo{w k:Nat}(hw:w<3)(hk:k<61):Pat.isName (nmT w k)=true:=ApF w (yD.mpr hw) k (yD.mpr hk)
theorem Aur{w k:Nat}(hw:w<3)(a:j<61)(hk:k<61)(e:nmT w j=nmT w k):j=k:=ArY w (yD.mpr hw) j (yD.mpr a) k (yD.mpr hk) e
theorem ApG{w k:Nat}:(nmT w k).length=4:=by unfold nmT;split<;>rfl
structure Kno (kn:Kns):Prop where
 n:∀p∈kn,Pat.isName p.1=true/\p.1.length=4
 c:∀p∈kn,Clo p.2
 k:∀p∈kn,known kn p.1=.ok p.2
theorem AiR{kn:Kns}(h:∀p∈kn,¬p.1=z):known kn z=.no .unk:=by unfold known;rw[List.find?_eq_none.mpr λp a=>by simpa using h p a]
theorem Kno.add{kn:Kns}(K:Kno kn)(b:Pat.isName z=true/\z.length=4)(d:∀p∈kn,¬p.1=z)(C:Clo x):Kno (kn++[(z,x)]):=by
 refine⟨λp a=>?_,λp a=>?_,λp a=>?_⟩
 ·rcases zG.mp a with h|h
  ·exact K.n p h
  ·rw[zF.mp h];exact b
 ·rcases zG.mp a with h|h
  ·exact K.c p h
  ·rw[zF.mp h];exact C
 ·unfold known;rcases zG.mp a with h|h
  ·have:= K.k p h;unfold known at this;cases e:kn.find? λq=>decide (q.1=p.1) with
   |none=>simp_all
   |some q=>grind
  ·grind
def Pq (kn:Kns)(u:NV)(x:NI):Prop:=Pr kn u (.ok x)/\10∉u
structure PtO (kn:Kns)(u:NV)(x:NI):Prop where
 r:Pq kn u x
 c:Clo x
 f:∃c v,u=c::(v++[41])/\c≠32/\v.length<=300
theorem Acd:Nsb d (.nam z):=by cases d<;>trivial
theorem Ace:Nsb d (.num n):=by cases d<;>trivial
theorem Ahn{r:NV}:Nsb d (.run r):=by cases d<;>trivial
theorem Alp{kn:Kns}{R:Res}(W:Wd 12 nd)(h:Wt nd u)(n:Nsb 12 nd)(e:out kn 12 nd=R):Pr kn u R:=⟨some nd,.ok W h,e,λx a=>AC⟩
theorem AiS{kn:Kns}(W:Wd 12 nd)(h:Wt nd u)(n:Nsb 12 nd)(e:out kn 12 nd=.ok x):Pq kn u x:=⟨Alp W h n e,(AoO W u h).2⟩
theorem AiT:∀{r:NV} {rs:NI},WtL ((r::rs).map Nd.run) (jnS [44,32] (r::rs))
 |r,[]=>by
  have:= WtL.one (Wt.run (r:=r) (g:=0));rw[show r++bl 0=r from Ayr r]at this;exact this
 |r,s::rs=>by
  have:= WtL.cons (g:=1) (Wt.run (r:=r) (g:=0)) (AiT (r:=s) (rs:=rs));rw[show r++bl 0=r from Ayr r]at this;exact this
theorem AmP{kn:Kns}{rs:NI}(C:Clo rs):out kn (d+1) (.node Pat.Ge (rs.map Nd.run))=.ok rs/\Wd (d+1) (.node Pat.Ge (rs.map Nd.run)):=by
 have a:rs≠[]:=λe=>by have:= C.n1;rw[e]at this;simp at this
 have b:∀r∈rs,r≠[]/\∀c∈r,Sg c:=λr h=>⟨λe=>by have:= C.hm r h;have:= C.m1;rw[e]at *;simp at *;lia,C.sg r h⟩;refine⟨?_,.rows a C.n40 b⟩;show(match args (out kn d) (wr d) (rs.map Nd.run) with|.inl f=>_|.inr as=>_)=_;rw[ZX];show made Pat.Ge (rs.map Arg.run)=_;unfold made;rw[yF U,ZZ];unfold AcF;have e:((rs.map λr=>decide (¬r.length=wdt rs)).any id)=false:=by
  rw[Az3,Az7];intro r h;simp[C.hm r h]
 rw[e,yE (λz=>nomatch z),yE (by have:=C.m40;have:=C.n40;lia)]
theorem Acf(sp:NV):∀us:NI,(jnS sp us).length<=(us.map λu=>u.length+sp.length).sum
 |[]=>AxU _
 |[u]=>by simp[jnS]
 |u::v::r=>by
  have:= Acf sp (v::r);show(u++(sp++jnS sp (v::r))).length<=_;rw[AxS,AxS,Ayd,Ay6];lia
theorem ArZ{kn:Kns}{rs:NI}(C:Clo rs)(h:rs.length<=4)(f:∀r∈rs,r.length<=4):PtO kn (Pat.Ge++(40::(jnS [44,32] rs++[41]))) rs:=by
 refine⟨?_,C,114,[111,119,115,40]++jnS [44,32] rs,U,Ap,?_⟩
 ·obtain⟨r,c,rfl⟩:∃r c,rs=r::c:=by
   cases rs with
   |nil=>have:= C.n1;simp at this
   |cons r c=>exact⟨r,c,U⟩
  have o:=AmP (kn:=kn) (d:=11) C;exact AiS o.2 (Wt.node (g1:=0) (g2:=0) (g3:=0) AiT) ⟨Ap,λx e=>by obtain⟨r,_,rfl⟩:=yB.mp e;exact Ahn⟩ o.1
 ·have this:(jnS [44,32] rs).length<=(rs.map λu=>u.length+2).sum:=Acf _ _;have s:(rs.map λu=>u.length+2).sum<=rs.length*6:=by
   clear this h C
   induction rs with
   |nil=>exact AxU _
   |cons r rs i =>
    have a:=f r AxW;have b:=i λx e=>f x (AxY _ e);rw[Ayd,Ay6,AxX];lia
  rw[AxS];show 4+_<=_;lia
theorem Oa(h:n<100):(dec n).length<=2:=(dec_is h).l2
theorem ApH{kn:Kns}{a b:Nat}(j:1<=a)(d:a<=4)(i:1<=b)(f:b<=4):PtO kn (twW++(40::(dec a++(44::(dec b++[41]))))) ((List.range (a+b)).map (twT a b)):=by
 have e:QB a b=.ok ((List.range (a+b)).map (twT a b)):=by
  unfold QB;rw[yE AA,yE AA]
 refine⟨?_,Afm e,116,[119,105,108,108,40]++(dec a++(44::dec b)),?_,Ap,?_⟩
 ·have h:=Wt.node (z:=twW) (g1:=0) (g2:=0) (g3:=0) (WtL.cons (g:=0) (Wt.num (n:=a) (g:=0)) (WtL.one (Wt.num (n:=b) (g:=0))));have:= AiS (kn:=kn) (Wd.nums (.inl U) AA AA) h ⟨Ap,λx c=>by simp only [Ayj,Ayq,yM]at c;rcases c with rfl|rfl<;>exact Ace⟩ e
  simpa [bl]using this
 ·simp[twW]
 ·have:= Oa (show a<100 by lia);have:= Oa (show b<100 by lia);simp;lia
theorem Acg{kn:Kns}(h:known kn z=.ok x):arg (out kn d) (wr d) (.nam z)=.inr (.cl x z):=by
 unfold arg
 try dsimp only
 rw[Agk,h,AjA]
theorem Aki{kn:Kns}{n2:NV}{y r:NI}{g k:Nat}(K:Kno kn)(b:z=beW\/z=abW\/z=laW)(h1:(n1,x)∈kn)(h2:(n2,y)∈kn)(e:made z [.cl x n1,.cl y n2]=.ok r)(C:Clo r)(l:g<=1)(hk:k<=1):PtO kn (z++(40::(bl g++(n1++(44::(n2++(bl k++[41]))))))) r:=by
 refine⟨?_,C,?_⟩
 ·have h:=Wt.node (z:=z) (g1:=0) (g2:=g) (g3:=0) (WtL.cons (g:=0) (Wt.nam (z:=n1) (g:=0)) (WtL.one (Wt.nam (z:=n2) (g:=k))));have W:Wd 12 (.node z [.nam n1,.nam n2]):=.two b (.nam (K.n _ h1).1) (.nam (K.n _ h2).1);have o:out kn 12 (.node z [.nam n1,.nam n2])=.ok r:=by
   show(match args (out kn 11) (wr 11) [.nam n1,.nam n2]with|.inl f=>_|.inr as=>_)=_;unfold args;rw[Acg (K.k _ h1)];unfold args;rw[Acg (K.k _ h2)];exact e
  have:= AiS W h ⟨by rcases b with rfl|rfl|rfl<;>decide,λx d=>by simp only [Ayj,Ayq,yM]at d;rcases d with rfl|rfl<;>exact Acd⟩ o
  simpa [bl]using this
 ·have i:=(K.n _ h1).2;have j:=(K.n _ h2).2;have a:∃c v,z=c::v/\c≠32/\v.length<=10:=by rcases b with rfl|rfl|rfl<;>exact⟨_,_,U,Ap,Ap⟩
  obtain⟨c,v,rfl,hc,m⟩:=a;refine⟨c,v++(40::(bl g++(n1++(44::(n2++bl k))))),AB,hc,?_⟩;simp only [AxS,AxX,bl,Ayx];dsimp only at i j;lia
theorem Aus{kn:Kns}{r:NI}(K:Kno kn)(a:z=miW\/z=upW\/z=baW\/z=quW)(h1:(n1,x)∈kn)(e:Aj8 z x=.ok r):PtO kn (z++(40::(n1++[41]))) r:=by
 refine⟨?_,XH (K.c _ h1) e,?_⟩
 ·have h:=Wt.node (z:=z) (g1:=0) (g2:=0) (g3:=0) (WtL.one (Wt.nam (z:=n1) (g:=0)));have W:Wd 12 (.node z [.nam n1]):=.one a (.nam (K.n _ h1).1);have o:out kn 12 (.node z [.nam n1])=.ok r:=by
   show(match args (out kn 11) (wr 11) [.nam n1]with|.inl f=>_|.inr as=>_)=_;unfold args;rw[Acg (K.k _ h1)];show made z [.cl x n1]=_;rw[<-e];rcases a with rfl|rfl|rfl|rfl<;>rfl
  have:= AiS W h ⟨by rcases a with rfl|rfl|rfl|rfl<;>decide,λx i=>by rw[zF.mp i];exact Acd⟩ o
  simpa [bl]using this
 ·have d:=(K.n _ h1).2;have b:∃c v,z=c::v/\c≠32/\v.length<=10:=by rcases a with rfl|rfl|rfl|rfl<;>exact⟨_,_,U,Ap,Ap⟩
  obtain⟨c,v,rfl,hc,j⟩:=b;refine⟨c,v++(40::n1),AB,hc,?_⟩;simp only [AxS,AxX];dsimp only at d;lia
theorem Asa{kn:Kns}{r:NI}{a:Nat}(K:Kno kn)(h1:(n1,x)∈kn)(d:a<100)(e:AaB x a 1=.ok r):PtO kn (tiW++(40::(n1++(44::(dec a++(44::(dec 1++[41]))))))) r:=by
 refine⟨?_,Ail (K.c _ h1) e,116,[105,108,101,40]++(n1++(44::(dec a++(44::dec 1)))),by simp[tiW],Ap,?_⟩
 ·have h:=Wt.node (z:=tiW) (g1:=0) (g2:=0) (g3:=0) (WtL.cons (g:=0) (Wt.nam (z:=n1) (g:=0)) (WtL.cons (g:=0) (Wt.num (n:=a) (g:=0)) (WtL.one (Wt.num (n:=1) (g:=0)))));have W:Wd 12 (.node tiW [.nam n1,.num a,.num 1]):=.tile (.nam (K.n _ h1).1) d Ap;have o:out kn 12 (.node tiW [.nam n1,.num a,.num 1])=.ok r:=by
   show(match args (out kn 11) (wr 11) [.nam n1,.num a,.num 1]with|.inl f=>_|.inr as=>_)=_;unfold args;rw[Acg (K.k _ h1)];exact e
  have:= AiS W h ⟨Ap,λx b=>by simp only [Ayj,Ayq,yM]at b;rcases b with rfl|rfl|rfl;exact Acd;exact Ace;exact Ace⟩ o
  simpa [bl]using this
 ·have i:=(K.n _ h1).2;have:= Oa d;have:= Oa (show 1<100 by decide);simp only [AxS,AxX,Ayu];dsimp only at i;lia
theorem ApI(g:Nat)(u:NV):(bl g++u).dropWhile (λc=>decide (c=32))=u.dropWhile λc=>decide (c=32):=by
 induction g with
 |zero=>rfl
 |succ g a =>
  show((32::bl g)++u).dropWhile _=_;exact a
theorem Aut(g:Nat):(bl g).reverse=bl g:=List.reverse_replicate
theorem Z3(g k:Nat)(u:NV):trim (bl g++(u++bl k))=trim u:=by
 unfold trim;rw[ApI,List.dropWhile_append];split
 ·rename_i h;have e:u.dropWhile (λc=>decide (c=32))=[]:=by simpa using h
  rw[e];have:= ApI k [];rw[Ayr]at this;rw[this];rfl
 ·rw[AzD,Aut,ApI]
def En (u:NV):Prop:=u.head?≠some 32/\u.getLast?≠some 32
theorem En.t(h:En u):trim u=u:=ArT h.1 h.2
theorem ApJ(hc:c≠32)(a:d≠32):En (c::(v++[d])):=⟨by simpa using hc,by rw[<-Ay9,Azm];simpa using a⟩
theorem En.app(d:En u)(b:En v)(nu:u≠[])(c:v≠[]){x:NV}:En (u++(x++v)):=by
 refine⟨?_,?_⟩
 ·cases u with
  |nil=>exact yG U nu
  |cons a u=>exact d.1
 ·rw[Azm,Azm];cases e:v.getLast? with
  |none=>exact yG (List.getLast?_eq_none_iff.mp e) c
  |some a =>
   have:= b.2;rw[e]at this
   simpa using this
structure Nm (z:NV):Prop where
 n:Pat.isName z=true
 l:z.length=4
theorem Nm.let(N:Nm z):z≠[]/\∀c∈z,97<=c/\c<=122:=by have:= Ls N.n;exact⟨this.1,λc hc=>yN (this.2 c hc)⟩
theorem Nm.en(N:Nm z):En z:=⟨λe=>by have:= N.let.2 32 (List.mem_of_head? e);exact Ar.j9 this.1 (Ar.k9 this.1),λe=>by have:= N.let.2 32 (List.mem_of_getLast? e);exact Ar.j9 this.1 (Ar.k9 this.1)⟩
theorem Nm.sep(N:Nm z)(g:Nat):∀x∈z++bl g,¬Sep x:=λx a h=>by
 rcases zG.mp a with a|a
 ·have:= N.let.2 x a
  unfold Sep at h;lia
 ·rw[Od a]at h;unfold Sep at h;lia
theorem Nm.tr(N:Nm z)(g:Nat):trim (z++bl g)=z:=(Z3 0 g z).trans N.en.t
theorem ApK{kn:Kns}{g k:Nat}{o:Lo}(N:Nm z)(hc:Sep c)(a:En b)(h:LnP kn z c b o):LnO kn (z++(bl g++(c::(bl k++b)))) z o:=by
 have d:trim (bl k++b)=b:=by
  have:= Z3 k 0 b;rw[show b++bl 0=b from Ayr _]at this;rw[this,a.t]
 have:= LnO.line (b:=bl k++b) (N.sep g) hc (by rw[N.tr g,d];exact h);rw[N.tr g,Ay0]at this;exact this
theorem Awo(ws:NI):ws.length<=(jnS [32,47,32] ws).count 47+1:=by
 induction ws with
 |nil=>exact Ayf _
 |cons w r a =>
  cases r with
  |nil=>simp
  |cons v r =>
   have e:(jnS [32,47,32] (w::v::r)).count 47=w.count 47+(1+(jnS [32,47,32] (v::r)).count 47):=by
    show(w++([32,47,32]++jnS [32,47,32] (v::r))).count 47=_;rw[Az2,Az2];rfl
   rw[e,AxX];lia
theorem Aho(h:u.count 47<=1):DrO u (.no "NoDraft"):=.part λws _ e _ l=>by
 have:= Awo ws;rw[e]at this;lia
def rcN (ns:NV):Rc:=⟨Dq ns,"",ofN ns⟩
theorem ApL:∀{ns:NV} {c:Nat},(∀n∈ns,n<100)->c∈mT ns->c=32\/48<=c/\c<=57
 |[],c,_,h=>by simp[mT]at h
 |n::r,c,h,hc=>by
  rcases yC.mp hc with z|z
  ·exact .inl z
  ·rcases zG.mp z with z|z
   ·exact .inr ((dec_is (h n AxW)).dg c z)
   ·exact ApL (λm a=>h m (AxY _ a)) z
theorem Z4(h:∀n∈ns,n<100)(hc:c∈Dq ns):c=32\/48<=c/\c<=57:=by
 cases ns with
 |nil=>simp[Dq]at hc
 |cons n r =>
  rcases zG.mp hc with z|z
  ·exact .inr ((dec_is (h n AxW)).dg c z)
  ·exact ApL (λm a=>h m (AxY _ a)) z
theorem ApM:∀{ns:NV},(∀n∈ns,n<100)->(mT ns).length<=3*ns.length
 |[],_=>AxU _
 |n::r,h=>by
  have:= ApM λm a=>h m (AxY _ a);have d:=(dec_is (h n AxW)).l2;rw[mT,AxX,AxS,AxX];lia
theorem M6(h:∀n∈ns,n<100):(Dq ns).length<=3*ns.length:=by
 cases ns with
 |nil=>exact AxU _
 |cons n r =>
  have:= ApM λm a=>h m (AxY _ a);have d:=(dec_is (h n AxW)).l2;rw[Dq,AxS,AxX];lia
theorem AdO(h:∀n∈ns,n<100)(a:ns.length<=40):(rcN ns).Ok:=by
 have f:=M6 h;have no:∀c,c=47\/c=44->c∉Dq ns:=λc hc b=>by have:= Z4 h b;lia
 exact⟨.good (ArO h (by exact Ar.a2 a)),⟨Ahd (no _ (.inl U)),Ahe (no _ (.inr U)),λe=>no _ (.inl U) (Ayb e),by show(Dq ns).length<=_;lia⟩,by show(ofN ns).length<=_;unfold ofN;rw[AxR];exact Ar.a2 a,λz d=>by
  obtain⟨n,hn,rfl⟩:=yB.mp d;grind⟩
theorem ApN(h:decide (u=[])=false/\acc .start 0 u=false)(h1:47∉u)(h2:44∉u)(h3:u.length<=100):(Rc.mk u "NoRow" []).Ok:=
 ⟨.no (λz=>z.elim (λe=>AC) (λe=>AC)),⟨Ahd h1,Ahe h2,λe=>h1 (Ayb e),AD⟩,Ayf _,λz a=>by cases a⟩
def Akj:NV:=[57,42,40,57,42,40,57,42,40,48,41,41,41]
theorem rw_big9:Rw Akj [.tms 9 [.tms 9 [.tms 9 [.pth (ofN [0])]]]]:=by
 refine⟨.inr Ap,λx b=>?_,.inr ⟨Ap,_,[],[],U,?_,RIm.nil AB⟩⟩
 ·rw[zF.mp b];refine⟨Ap,Ap,AB,AB,λy a=>?_⟩;rw[zF.mp a];refine⟨Ap,Ap,AB,AB,λy a=>?_⟩;rw[zF.mp a];refine⟨Ap,Ap,AB,AB,λy a=>?_⟩;rw[zF.mp a];exact Ap2 Ap
 ·refine⟨Ap,[57,42,40,57,42,40,48,41,41,41],_,[],[41],U,U,?_,RIm.nil AB⟩;refine⟨Ap,[57,42,40,48,41,41,41],_,[],[41,41],U,U,?_,RIm.nil AB⟩;refine⟨Ap,[48,41,41,41],_,[],[41,41,41],U,U,?_,RIm.nil AB⟩;exact⟨Ap,[],U,PTr.stop Ap⟩
theorem Auu:(Rc.mk Akj "TooLarge" []).Ok:=
 ⟨.big ⟨_,rw_big9,Ap⟩,⟨Ahd Ap,Ahe Ap,Ap,Ap⟩,Ayf _,λz a=>by cases a⟩
theorem Alq{a:Rc}(c:r0.Ok)(h1:a.Ok)(h2:r2.Ok):D3 r0 [a] r2:=⟨c,AB,AB,λr b=>by rw[zF.mp b];exact h1,h2⟩
theorem rc0:(rcN [0]).Ok:=AdO Ap Ap
theorem Auv:(rcN [0,1]).Ok:=AdO Ap Ap
theorem ApO:DrO [48,32,49,32,47,32,48,32,47,32,48,32,49] (.no "NoDraft"):=by
 have e:[48,32,49,32,47,32,48,32,47,32,48,32,49]=drT (rcN [0,1]) [rcN [0]] (rcN [0,1]):=At
 refine .bad (Alq Auv rc0 Auv) At λF=>?_;have:= (F.htr 1 Ap).2;exact yG this Ap
theorem Awp:DrO [48,32,48,49,32,47,32,48,32,47,32,48] (.no "NoRow"):=by
 have e:[48,32,48,49,32,47,32,48,32,47,32,48]=drT ⟨[48,32,48,49],"NoRow",[]⟩ [rcN [0]] (rcN [0]):=At
 have f:fwd ⟨[48,32,48,49],"NoRow",[]⟩ [rcN [0]] (rcN [0])="NoRow":= by decide +kernel
 have:= DrO.no (Alq (ApN (u:=[48,32,48,49]) Ap Ap Ap Ap) rc0 rc0) (by rw[f];decide +kernel);exact this
theorem Auw:DrO ([48,32,47,32,48,32,47,32]++Akj) (.no "TooLarge"):=by
 have e:[48,32,47,32,48,32,47,32]++Akj=drT (rcN [0]) [rcN [0]] ⟨Akj,"TooLarge",[]⟩:=At
 have f:fwd (rcN [0]) [rcN [0]] ⟨Akj,"TooLarge",[]⟩="TooLarge":= by decide +kernel
 have:= DrO.no (Alq rc0 rc0 Auu) (by rw[f];decide +kernel);exact this
theorem Awq:DrO [48,32,49,32,47,32,48,61,48,32,47,32,48] (.no "NoRow"):=by
 have e:[48,32,49,32,47,32,48,61,48,32,47,32,48]=drT (rcN [0,1]) [⟨[48,61,48],"NoRow",[]⟩] (rcN [0]):=At
 have f:fwd (rcN [0,1]) [⟨[48,61,48],"NoRow",[]⟩] (rcN [0])="NoRow":= by decide +kernel
 have:= DrO.no (Alq Auv (ApN (u:=[48,61,48]) Ap Ap Ap Ap) rc0) (by rw[f];decide +kernel);exact this
structure Flt (kn:Kns)(u:NV)(wd:Str):Prop where
 e:∃z,LnO kn (trim u) z (.no wd)
 ne:trim u≠[]
 sc:¬(trim u).head?=some 59/\¬(trim u).head?=some 63
 n:10∉u
 l:u.length<=300
 w:wd≠""
theorem Z6{kn:Kns}(h:LnO kn u z (.no wd))(a:En u)(h2:(u≠[]/\¬u.head?=some 59/\¬u.head?=some 63)/\10∉u/\u.length<=300)(w:wd≠""):Flt kn u wd:=by have t:=a.t;exact⟨⟨z,by rw[t];exact h⟩,by rw[t];exact h2.1.1,by rw[t];exact h2.1.2,h2.2.1,h2.2.2,w⟩
theorem Q3(N:Nm z)(h:10∉v/\v.length<=200):(z++v≠[]/\¬(z++v).head?=some 59/\¬(z++v).head?=some 63)/\10∉z++v/\(z++v).length<=300:=by
 have L:=N.let
 have b:∀c,c<97->¬(z++v).head?=some c:=λc hc e=>by
  cases z with
  |nil=>exact L.1 U
  |cons a z =>
   have:a=c:=by simpa using e
   have:= L.2 a AxW;lia
 refine⟨⟨λe=>L.1 (List.append_eq_nil_iff.mp e).1,b 59 Ap,b 63 Ap⟩,λe=>?_,?_⟩
 ·rcases zG.mp e with e|e
  ·have:= L.2 10 e;exact Ar.j9 this.1 (Ar.k9 this.1)
  ·exact h.1 e
 ·rw[AxS,N.l];lia
theorem Ju{kn:Kns}(N:Nm z)(h:LnP kn z c b (.no wd))(hc:Sep c)(d:En b)(e:b≠[])(a:10∉b/\b.length<=100)(w:wd≠""):Flt kn (z++(32::c::32::b)) wd:=by have L:=ApK (g:=1) (k:=1) N hc d h;refine Z6 L (N.en.app (x:=[32,c,32]) d N.let.1 e) (Q3 N ⟨?_,by simp;exact Ar.a2 a.2⟩) w;unfold Sep at hc;simp only [Ayj,not_or];exact⟨Ap,AA,Ap,a.1⟩
theorem Alr{kn:Kns}{k:Nat}(N:Nm z)(h:LnP kn z c [] (.no wd))(hc:Sep c)(hk:k<=1)(w:wd≠""):Flt kn (z++(32::c::bl k)) wd:=by
 have L:=ApK (g:=1) (k:=0) N hc ⟨AB,AB⟩ h;have a:c≠32/\c≠10:=by unfold Sep at hc;lia
 have E:En (z++[32,c]):=N.en.app (x:=[32]) ⟨by simpa using a.1,by simpa using a.1⟩ N.let.1 AB
 have T:trim (z++(32::c::bl k))=z++[32,c]:=by
  have:= Z3 0 k (z++[32,c]);rw[show bl 0++(z++[32,c]++bl k)=z++(32::c::bl k) by simp[bl]]at this;rw[this,E.t]
 have f:=Q3 N (v:=[32,c]) ⟨by simp only [Ayj,Ayq,not_or];exact⟨Ap,λe=>a.2 e.symm,not_false⟩,AB⟩;have b:=Q3 N (v:=32::c::bl k) ⟨by
  simp only [Ayj,not_or];exact⟨Ap,λe=>a.2 e.symm,λe=>by have:= Od e;lia⟩,by simp[bl];exact Ar.a2 hk⟩
 exact⟨⟨z,by rw[T];exact L⟩,by rw[T];exact f.1.1,by rw[T];exact f.1.2,b.2.1,b.2.2,w⟩
theorem Vq{kn:Kns}{f:Rf}(N:Nm z)(a:∀q∈kn,¬q.1=z)(h:Pr kn u (.no f)):LnP kn z 61 u (.no (wdR f)):=.pat N.n a h
theorem Awr{kn:Kns}{a:NV}(b:z=miW\/z=upW\/z=baW\/z=quW)(N:Nm a)(c:∀q∈kn,¬q.1=a):Pr kn (z++(40::(a++[41]))) (.no .unk):=by
 have h:=Wt.node (z:=z) (g1:=0) (g2:=0) (g3:=0) (WtL.one (Wt.nam (z:=a) (g:=0)));rw[show a++bl 0=a from Ayr _]at h;have W:Wd 12 (.node z [.nam a]):=.one b (.nam N.n);have o:out kn 12 (.node z [.nam a])=.no .unk:=by
  show(match args (out kn 11) (wr 11) [.nam a]with|.inl f=>_|.inr as=>_)=_;unfold args arg
  try dsimp only
  rw[Agk,AiR c]
 exact Alp W h ⟨by rcases b with rfl|rfl|rfl|rfl<;>decide,λx d=>by rw[zF.mp d];exact Acd⟩ o
def fA:List (NV×Str):=[([114,111,119,115,40,35,41],"NoPattern"),([33,32,61,32,114,111,119,115,40,35,41],"NoPattern"),(miW++[32,61,32,114,111,119,115,40,35,41],"NoPattern")]
def too:NV:=[116,111,111,108,111,110,103,116,111,111,108,111,110,103,116,111,111,108,111,110,103,32,61,32,114,111,119,115,40,35,41]
def Aws:NV:=[98,101,115,105,100,101,40,114,111,119,115,40,35,41,44,114,111,119,115,40,35,44,46,41,41]
def bad2:NV:=[116,119,105,108,108,40,50,48,44,50,49,41]
def Awt:NV:=[98,97,99,107,40,114,111,119,115,40,35,41,41,32,58,32,48]
theorem ApP(r:NV):Wt (.run r) r:=by
 have:=Wt.run (r:=r) (g:=0)
 rwa [show r++bl 0=r from Ayr r]at this
theorem AiU:Wt (.node Pat.Ge [.run [35]]) [114,111,119,115,40,35,41]:=Wt.node (g1:=0) (g2:=0) (g3:=0) (.one (ApP [35]))
theorem pr1{kn:Kns}:Pr kn Aws (.no .nop):=Alp (nd:=.node beW [.node Pat.Ge [.run [35]],.node Pat.Ge [.run [35],.run [46]]]) (.two (.inl U) (.rows (rs:=[[35]]) Ap Ap (by unfold Sg;decide)) (.rows (rs:=[[35],[46]]) Ap Ap (by unfold Sg;decide))) (Wt.node (g1:=0) (g2:=0) (g3:=0) (.cons (g:=0) AiU (.one (Wt.node (g1:=0) (g2:=0) (g3:=0) (.cons (g:=0) (ApP [35]) (.one (ApP [46]))))))) (by
 refine⟨Ap,λy a=>?_⟩;simp only [Ayj,Ayq,yM]at a;rcases a with rfl|rfl
 ·exact⟨Ap,λy a=>by rw[zF.mp a];exact Ahn⟩
 ·refine⟨Ap,λy a=>?_⟩;simp only [Ayj,Ayq,yM]at a;rcases a with rfl|rfl<;>exact Ahn) U
theorem pr2{kn:Kns}:Pr kn bad2 (.no .big):=Alp (nd:=.node twW [.num 20,.num 21]) (.nums (.inl U) Ap Ap) (by
 have:= Wt.node (z:=twW) (g1:=0) (g2:=0) (g3:=0) (.cons (g:=0) (Wt.num (n:=20) (g:=0)) (.one (Wt.num (n:=21) (g:=0))));exact this) (by
 refine⟨Ap,λy a=>?_⟩;simp only [Ayj,Ayq,yM]at a;rcases a with rfl|rfl<;>exact Ace) U
theorem pr3{kn:Kns}:Pr kn Awt (.no .nop):=⟨none,RdT.more (.one (.inr (.inr (.inl U))) (.rows (rs:=[[35]]) Ap Ap (by unfold Sg;decide))) (Wt.node (g1:=0) (g2:=0) (g3:=1) (.one AiU)),U,λ_ e=>by cases e⟩
theorem pr0{kn:Kns}:Pr kn [] (.no .nop):=⟨none,.nil,U,λ_ e=>by cases e⟩
def fB (z a:NV):List (NV×Str):=[(too,"NoPattern"),(z++(32::61::32::(miW++(40::(a++[41])))),"Unknown"),(z++(32::61::32::Aws),"NoPattern"),(z++(32::61::32::bad2),"TooLarge"),
 (z++(32::58::32::[48,32,49,32,47,32,48]),"NoDraft"),(z++(32::58::32::[48,32,49,32,47,32,48,32,47,32,48,32,49]),"NoDraft"),
 (z++(32::58::32::[48,32,48,49,32,47,32,48,32,47,32,48]),"NoRow"),(z++(32::58::32::([48,32,47,32,48,32,47,32]++Akj)),"TooLarge"),
 (z++(32::61::bl 1),"NoPattern"),(z++(32::58::bl 0),"NoDraft"),(z++(32::61::32::(baW++(40::(z++[41])))),"Unknown"),
 (z++(32::58::32::[48,32,49,32,47,32,48,61,48,32,47,32,48]),"NoRow"),(z++(32::58::32::[48,32,61,32,48]),"NoDraft"),
 (z++(32::61::32::Awt),"NoPattern")]
theorem wP:("NoPattern":Str)≠"":= by decide +kernel
theorem wU:("Unknown":Str)≠"":= by decide +kernel
theorem wL:("TooLarge":Str)≠"":= by decide +kernel
theorem wD:("NoDraft":Str)≠"":= by decide +kernel
theorem wR:("NoRow":Str)≠"":= by decide +kernel
theorem wT:("Twice":Str)≠"":= by decide +kernel
theorem Awu{kn:Kns}:∀p∈fA,Flt kn p.1 p.2:=λp b=>by
 rcases yC.mp b with rfl|b
 ·exact Z6 (z:=[]) (.part (by unfold Sep;decide)) (by unfold En;decide) Ap wP
 rcases yC.mp b with rfl|b
 ·exact Z6 (LnO.line (a:=[33,32]) (by unfold Sep;decide) (.inl U) (.name At)) (by unfold En;decide) Ap wP
 ·rw[zF.mp b];exact Z6 (LnO.line (a:=miW++[32]) (by unfold Sep;decide) (.inl U) (.name At)) (by unfold En;decide) Ap wP
theorem Awv{kn:Kns}{a:NV}(N:Nm z)(M:Nm a)(f:∀q∈kn,¬q.1=z)(s:∀q∈kn,¬q.1=a):∀p∈fB z a,Flt kn p.1 p.2:=λp b=>by
 have i:∀{u:NV} {wd:Str},DrO u (.no wd)->LnP kn z 58 u (.no wd):=λh=>.dra N.n f h;have m:∀{y c:NV} (M:Nm c),(y=miW\/y=baW)->En (y++(40::(c++[41])))/\10∉y++(40::(c++[41]))/\(y++(40::(c++[41]))).length<=100:=λ{y c} M h=>by
  have L:=M.let
  have j:10∉c:=λe=>by have:= L.2 10 e;exact Ar.j9 this.1 (Ar.k9 this.1)
  have l:=M.l;rcases h with rfl|rfl
  ·refine⟨by have:= ApJ (c:=109) (d:=41) (v:=[105,114,114,111,114,40]++c) Ap Ap;exact this,?_,by simp[miW];exact Ar.a2 (Ar.d2 l)⟩;simp[miW,j]
  ·refine⟨by have:= ApJ (c:=98) (d:=41) (v:=[97,99,107,40]++c) Ap Ap;exact this,?_,by simp[baW];exact Ar.a2 (Ar.d2 l)⟩;simp[baW,j]
 have o:=m M (.inl U);have r:=m N (.inr U);unfold fB at b;rcases yC.mp b with rfl|b
 ·exact Z6 (LnO.line (a:=too.take 22) (by unfold Sep;decide) (.inl U) (.name At)) (by unfold En;decide) Ap wP
 rcases yC.mp b with rfl|b
 ·exact Ju N (Vq N f (Awr (.inl U) M s)) (.inl U) o.1 AB o.2 wU
 rcases yC.mp b with rfl|b
 ·exact Ju N (Vq N f pr1) (.inl U) (by unfold En;decide) Ap Ap wP
 rcases yC.mp b with rfl|b
 ·exact Ju N (Vq N f pr2) (.inl U) (by unfold En;decide) Ap Ap wL
 rcases yC.mp b with rfl|b
 ·exact Ju N (i (Aho Ap)) (.inr U) (by unfold En;decide) Ap Ap wD
 rcases yC.mp b with rfl|b
 ·exact Ju N (i ApO) (.inr U) (by unfold En;decide) Ap Ap wD
 rcases yC.mp b with rfl|b
 ·exact Ju N (i Awp) (.inr U) (by unfold En;decide) Ap Ap wR
 rcases yC.mp b with rfl|b
 ·exact Ju N (i Auw) (.inr U) (by unfold En;decide) Ap Ap wL
 rcases yC.mp b with rfl|b
 ·exact Alr N (Vq N f pr0) (.inl U) Ap wP
 rcases yC.mp b with rfl|b
 ·exact Alr N (i (Aho Ap)) (.inr U) Ap wD
 rcases yC.mp b with rfl|b
 ·exact Ju N (Vq N f (Awr (.inr (.inr (.inl U))) N f)) (.inl U) r.1 AB r.2 wU
 rcases yC.mp b with rfl|b
 ·exact Ju N (i Awq) (.inr U) (by unfold En;decide) Ap Ap wR
 rcases yC.mp b with rfl|b
 ·exact Ju N (i (Aho Ap)) (.inr U) (by unfold En;decide) Ap Ap wD
 ·rw[zF.mp b];exact Ju N (Vq N f pr3) (.inl U) (by unfold En;decide) Ap Ap wP
theorem Aww{kn:Kns}(K:Kno kn){p q:NV×NI}(b:p∈kn)(a:q∈kn):Flt kn (p.1++[32,61,32,110,111]) "Twice" /\ Flt kn (q.1++[32,58,32,48,32,47,32,48]) "Twice":= by
 have N:Nm p.1:=⟨(K.n p b).1,(K.n p b).2⟩;have M:Nm q.1:=⟨(K.n q a).1,(K.n q a).2⟩;exact⟨Ju N (.twice N.n ⟨p,b,U⟩) (.inl U) (by unfold En;decide) Ap Ap wT,Ju M (.twice M.n ⟨q,a,U⟩) (.inr U) (by unfold En;decide) Ap Ap wT⟩
section
variable {K:NO}{base:Heap}{t:Adr}
inductive Awx (K:NO)(vs:LI)(H:Hp)(Q:VK)(z3:XK):Prop
|mk(a:Nn)(ns:NF)(i:Int)(_:vs=[.ref a,.int i])(_:SqL K H a (vI ns))(_:0<=i)(_:∀c:Int,((ns.length:Int)<=i->c=0)->Q (.int c) H)
theorem Aa1(T:Txt K mg t):Bm P w K mg base CX0 1 t.Aiv t.Aiw ["script","k"] (Awx K):=by
 refine T.Ow.F.ok Amt ?_;rintro _ _ _ _ H _ Q E d ⟨a,ns,i,rfl,c,hi,k⟩;refine⟨_,(Ac (Bl (Ai Hf (pv 1) (Bb (Ax) U T.Cd Bv (Aa (pv 0) Ab)) (Av _))
   (Ad (Az (Bq (Be) (pv 0) (pv 1) (λ_ _=>rfl))))
   Aq)
  (Ad (Az Ah))),?_⟩;refine⟨_,U,_,U,_,_,U,.inl c,_,_,U,U,_,U,CP (λh1=>?_) (λh1=>?_)⟩
 ·rw[Cp]at h1;have b:i.toNat<ns.length:=AA
  exact⟨_,U,_,U,_,_,_,_,U,U,c,Bw hi (JW (AxT b)),k _ λh=>AA⟩
 ·exact k 0 λ_=>rfl
def abc:NV:=[97,98,99,100,101,102,103,104,105,106,107,108,109,110,111,112,113,114,115,116,117,118,119,120,121,122]
theorem Aux:Str.ofString "abcdefghijklmnopqrstuvwxyz"=tx abc:=At
theorem ApQ:∀k∈List.range 26,abc[k]?=some (97+k):=Ap
theorem Axy:Str.ofString "o"=tx [111]:=At
inductive ApR (vs:LI)(H:Hp)(Q:VK)(z3:XK):Prop
|mk(k:Nat)(z:Int)(_:vs=[.int (k:Int),.int z])(_:k<61)(_:∀H',Aw H H'->Q (.str (tx (nmT (z%3).toNat k))) H')
theorem UG(T:Txt K mg t):Bm P w K mg base CX0 1 t.Adg t.Adh ["k","way"] ApR:=by
 refine T.Hj.F.ok TQ ?_;rintro _ _ _ _ H _ Q E e ⟨k,z,rfl,hk,c⟩;refine⟨_,(Ac (Bd (i:=2) TQ.nd U NN Af)
  (Ac (Bd (i:=3) TQ.nd U NN (Ak Am (Bq JS (pv 2) (Ak Dd (pv 0) Ah) (λ_ _=>rfl)) (Bq JS (pv 2) (Ak Dd (Ak Eo (pv 0) Ah) Ah) (λ_ _=>rfl))))
  (Ad (Az (Bq (Be (K:=K)) (Cm (Aa (Ak Am Af (pv 3)) (Aa (Ak Am (pv 3) Af) (Aa (Ak Am (Ak Am Af (pv 3)) Af) Ab)))) (Ak Dd (pv 1) Ah) (λ_ _=>rfl)))))),?_⟩;rw[Aux,Axy];have i1:atI ((tx abc).cps.toList) ((k:Int)%26)=some (97+k%26):=by
  exact Bw AA (by exact ApQ _ (yD.mpr AA))
 have i2:atI ((tx abc).cps.toList) ((k:Int) / 26%26)=some (97+k / 26%26):=by
  exact Bw AA (by exact ApQ _ (yD.mpr Au))
 have a:(tx abc).length<=sizeLine:=Ap
 refine⟨_,U,_,U,_,_,U,U,Ap,_,_,_,U,U,a,i1,_,U,_,U,_,_,U,U,⟨Ap,Ap⟩,_,_,U,U,Ap,_,_,_,U,U,a,i2,_,_,U,U,(by show 1+1<=sizeLine;decide),?_⟩;rw[JT,JT,Bt];have b:∀{u v:NV},u.length+v.length<=100->(tx u).length+(tx v).length<=sizeLine:=λh=>by exact Ayh h Ap
 refine⟨_,U,_,_,U,U,b (by show 2+2<=100;decide),_,U,_,_,U,U,b (by show 2+2<=100;decide),_,U,_,_,U,U,b (by show 1+2<=100;decide),_,_,U,U,(by rw[Bt];exact b (by show 3+1<=100;decide)),(by show 3<=sizeLine;decide),λp d=>⟨_,U,_,_,U,U,Ap,p,_,_,_,U,U,yW Ae,?_,c _ (.upd d)⟩⟩;have h3:z%3=0\/z%3=1\/z%3=2:=AA
 rcases h3 with h|h|h<;>rw[h]<;>exact Bw Ap U
inductive Asb (vs:LI)(H:Hp)(Q:VK)(z3:XK):Prop
|mk(z:Int)(b:Nat)(n:Nat)(_:vs=[.int z,.int (b:Int),.int (n:Int)])(_:1<=b)(_:b<=100)(_:n<=40)(_:∀l ds H',Aw H H'->H l=none->H' l=some (.lst (vI (ofN ds)))->ds.length=n->(∀d∈ds,d<b)->Q (.ref l) H')
theorem Ox(T:Txt K mg t):Bm P w K mg base CX0 1 t.YQ t.YS ["number","base","many"] Asb:=by
 refine T.Fp.F.ok Jy ?_;rintro _ _ _ _ H _ Q E s ⟨z,b,n,rfl,b1,o,r,m⟩;refine⟨_,(Ac (Bd (i:=3) Jy.nd U NN (Cm Ab))
  (Ac (DP yJ U (Ea U T.Es (Aa (pv 2) Ab)) (Bs (i:=4) Jy.nd U NN)
   (Ac (Bj (Bx (K:=K) zM zL zQ Dg (pv 3) (Aa (Ak Dd (pv 0) (pv 1)) Ab)))
   (Ad (Bd (i:=0) Jy.nd U NN (Ak Eo (pv 0) (pv 1))))))
  (Ad (Az (pv 3))))),?_⟩;refine⟨AC,λl f=>?_⟩;have hsz:=z7;have q:Aw H (upd H l (.lst [])):=.upd f;have h1:(upd H l (.lst [])) l=some (.lst (vI (ofN []))):=Ae;refine⟨_,U,_,U,AA,AA,?_⟩;rw[Ayi];refine GK (λi σ H2=>∃(y:Int)(a:Option V)(ds:NV),σ=[some (.int y),some (.int (b:Int)),some (.int (n:Int)),some (.ref l),a]/\Aw H H2/\H2 l=some (.lst (vI (ofN ds)))/\ds.length=i/\∀d∈ds,d<b) ⟨z,none,[],U,q,h1,U,λd h=>by simp at h⟩ ?_ ?_
 ·rintro i σ H2 hi ⟨y,a,ds,rfl,c,h2,e,j⟩;have p:=AyQ y (show(b:Int)≠0 by lia);have m2:=AyT y (show(0:Int)<b by omega);refine⟨_,U,.inl ⟨U,_,yW h2⟩,_,U,_,U,_,_,U,U,Au,_,_,_,U,U,h2,(by rw[Cp];unfold ofN;rw[AxR];lia),_,U,_,U,_,_,U,U,⟨Au,AA⟩,_,_,ds++[(y%b).toNat],U,c.over f,?_,by rw[AxS,e];rfl,λd h=>?_⟩
  ·rw[Ae];unfold ofN vI;rw[AxV,AxV];show _=some (HO.lst (_++[V.int (((y%b).toNat:Nat):Int)]));rw[Azo p]
  ·grind
 ·rintro σ H2 ⟨y,a,ds,rfl,c,h2,e,j⟩;exact⟨_,U,m l ds H2 c f h2 e j⟩
theorem Auy:Str.ofString "rows("=tx (Pat.Ge++[40]):=At
theorem Axz:Str.ofString "twill("=tx (twW++[40]):=At
theorem Ax0:Str.ofString "beside("=tx (beW++[40]):=At
theorem Ax1:Str.ofString "above( "=tx (abW++[40,32]):=At
theorem Ax2:Str.ofString "tile("=tx (tiW++[40]):=At
theorem Ax3:Str.ofString "lay("=tx (laW++[40]):=At
theorem w_c:Str.ofString ","=tx [44]:=At
theorem w_o:Str.ofString "("=tx [40]:=At
theorem w_e:Str.ofString ")"=tx [41]:=At
theorem Ax4:Str.ofString " )"=tx [32,41]:=At
theorem w_1:Str.ofString ",1)"=tx (44::(dec 1++[41])):=At
theorem w_n:Str.ofString ""=tx []:=At
theorem Awy:Str.ofString ".#"=tx [46,35]:=At
theorem Ax5:Str.ofString "mirror"=tx miW:=At
theorem w_up:Str.ofString "upend"=tx upW:=At
theorem Ax6:Str.ofString "back"=tx baW:=At
theorem Ax7:Str.ofString "quarter"=tx quW:=At
theorem ln9(h:u.length+v.length<=1000):(tx u).length+(tx v).length<=sizeLine:=by rw[Ba,Ba];exact Ayh h Ap
theorem Q4(sp:NV):∀us:NI,Txt.join (tx sp) (us.map tx)=tx (jnS sp us)
 |[]=>by simp[Txt.join,Builtin.Str.glued,tx,Str.empty,jnS]
 |u::us=>by
  have a:∀(us:NI)(u:NV),u++(us.map λy=>sp++y).flatten=jnS sp (u::us):=λus=>by
   induction us with
   |nil=>intro u;simp[jnS]
   |cons v r b =>
    intro u;rw[Ayd,Ayv,Ay0,b v];rfl
  rw[Ad9,a]
theorem ApS{p:Prop}[Decidable p]:atI ((tx [46,35]).cps.toList) (if decide p=true then (1:Int) else 0)=some (if p then 35 else 46):=by
 rw[Fv];by_cases h:p
 ·rw[zN h,yF U,yF h];exact Bw Ap U
 ·rw[zJ h,yE (λz=>nomatch z),yE h];exact Bw Ap U
theorem Asc{y x:Nat}(a:y<=m+n):twl m n y x=if ((x:Int)-(y:Int))%((m:Int)+(n:Int))<(m:Int) then 35 else 46:=by
 have e:(((x+(m+n)-y)%(m+n):Nat):Int)=((x:Int)-(y:Int))%((m:Int)+(n:Int)):=by
  rw[Int.natCast_emod,show((x+(m+n)-y:Nat):Int)=((x:Int)-(y:Int))+((m+n:Nat):Int) by lia,Int.add_emod_right];rfl
 unfold twl;rw[<-e];by_cases h:(x+(m+n)-y)%(m+n)<m
 ·rw[yF h,yF AA]
 ·rw[yE h,yE AA]
theorem Ach{k:Nat}:∀{x:NI},(∀r∈x,r.length<=k)->x.flatten.length<=k*x.length
 |[],_=>Ayf _
 |r::x,h=>by
  have:=Ach λy a=>h y (AxY _ a);have:=h r AxW;rw[Ayv,AxS,AxX,Nat.mul_add];lia
inductive Asd (vs:LI)(H:Hp)(Q:VK)(z3:XK):Prop
|mk(z:Int)(kp:Nn)(kn:Kns)(_:vs=[.int z,.ref kp])(_:Kn H kp kn)(_:kn.length<=100)(_:Kno kn)(_:∀p l u x H',Aw H H'->H p=none->H l=none->H' p=some (.tup [.str (tx u),.ref l])->H' l=some (.lst (vS x))->PtO kn u x->Q (.ref p) H')
theorem AdP(T:Txt K mg t):Bm P w K mg base CX0 3 t.Wo t.Wq ["cell","made"] Asd:=by
 refine T.Nt.F.ok Du ?_;rintro _ _ _ _ H _ Q E X ⟨z,kp,kn,rfl,hK,S,M,kQ⟩;refine⟨_,(Ac (Bd (i:=2) Du.nd U (Or.inr U) (Ak Em Ah (Ak Dd (Ak Eo (pv 0) Ah) Ah)))
  (Ac (Bd (i:=3) Du.nd U (Or.inr U) (Ak Em Ah (Ak Dd (Ak Eo (pv 0) Ah) Ah)))
  (Ac (Bl (PW.pt (pw_or (Ai Cj (Ak Dd (pv 0) Ah) Ah (Av _)) (pw_or1 (Ai Cj (Bb (Ax (K:=K)) U T.Cd Bv (Aa (pv 1) Ab)) Ah (Av _)))))
   (Ac (Bd (i:=4) Du.nd U NN (Aj ((AiP T).mono Ap) X U T.YW.m T.YW.F.kp T.YW.b .nil Ay (Aa (Ak Eo (pv 0) Ah) (Aa (pv 2) (Aa (pv 3) Ab)))))
   (Ad (Az (CT (Aa (Ak Am (Ak Am Af (Bx (K:=K) zI zS zV (DN (K:=K)) Af (Aa (pv 4) Ab))) Af) (Aa (pv 4) Ab))))))
   Aq)
  (Ac (Bl (Ai Cj (Ak Dd (pv 0) Ah) Ah (Av _))
   (Ac (AnT (i:=4) (M9.mk (Bp:=[2,3]) (Nc:=["y","a","b"]) U rfl At (Cg (sc0:=Ag Gh) U At) U rfl U At (λk j h=>match k,h with | 0,h=>by obtain rfl:=yI h;exact⟨_,U,U,U⟩ | 1,h=>by obtain rfl:=yI h;exact⟨_,U,U,U⟩|_+2,h=>by simp at h)) U Du.nd U rfl (Ea U T.Es (Aa (Ak Em (pv 2) (pv 3)) Ab)) (λ_ _ _ _ _=>.nil) (λ_ _ _ _ _=>(Bx (K:=K) zI zS zV (DN (K:=K)) Af (Aa (CV (CJ.mk (Bp:=[0,1,2]) (Nc:=["x","y","a","b"]) U At At (Aib (sc0:=Ag Gh) U At) U rfl U At (λk j h=>match k,h with | 0,h=>by obtain rfl:=yI h;exact⟨_,U,U,U⟩ | 1,h=>by obtain rfl:=yI h;exact⟨_,U,U,U⟩ | 2,h=>by obtain rfl:=yI h;exact⟨_,U,U,U⟩|_+3,h=>by simp at h)) U (Ea U T.Es (Aa (Ak Em (pv 1) (pv 2)) Ab)) (λ_ _ _ _ _=>.nil) (λ_ _ _ _ _=>(Bq JS Af (BR ZD U T.AkG AfW (Aa (Jv Hf (Ak Dd (Ak Q7 (pv 0) (pv 1)) (Ak Em (pv 2) (pv 3))) (pv 2) (Av _)) Ab)) (λ_ _=>rfl)))) Ab))) U)
   (Ad (Az (CT (Aa (Ak Am (Ak Am (Ak Am (Ak Am Af (BR Dy U T.Sq JV (Aa (pv 2) Ab))) Af) (BR Dy U T.Sq JV (Aa (pv 3) Ab))) Af) (Aa (pv 4) Ab))))))
   Aq)
  (Ac (W4 (Bq (Be (K:=K)) (pv 1) (Ak Dd (Ak Eo (pv 0) Ah) (Bb (Ax (K:=K)) U T.Cd Bv (Aa (pv 1) Ab))) (λ_ _=>rfl)) (IW U (CG (Bs (i:=5) Du.nd U NN) (CG (Bs (i:=6) Du.nd U (Or.inr U)) GJ))))
  (Ac (W4 (Bq (Be (K:=K)) (pv 1) (Ak Dd (Ak Eo (pv 0) Ah) (Bb (Ax (K:=K)) U T.Cd Bv (Aa (pv 1) Ab))) (λ_ _=>rfl)) (IW U (CG (Bs (i:=7) Du.nd U NN) (CG (Bs (i:=8) Du.nd U (Or.inr U)) GJ))))
  (Ac (Bl (PW.pt (pw_and (Ai Cj (Ak Dd (pv 0) Ah) Ah (Av _)) (pw_and (Ai Cj (Bb (Ax (K:=K)) U T.Cd Bv (Aa (pv 6) Ab)) (Bb (Ax (K:=K)) U T.Cd Bv (Aa (pv 8) Ab)) (Av _)) (pw_and1 (Ai Hf (Ak Em (Bb BL U T.Cd Bv (Aa (Bq (Be (K:=K)) (pv 6) Ah (λ_ _=>rfl)) Ab)) (Bb BL U T.Cd Bv (Aa (Bq (Be (K:=K)) (pv 8) Ah (λ_ _=>rfl)) Ab))) Ah (Av _))))))
   (Ad (Az (CT (Aa (Ak Am (Ak Am (Ak Am (Ak Am Af (pv 5)) Af) (pv 7)) Af) (Aa (CV (CJ.mk (Bp:=[6,8]) (Nc:=["j","one","two"]) U At At (Cg (sc0:=Ag Gh) U At) U rfl U At (λk j h=>match k,h with | 0,h=>by obtain rfl:=yI h;exact⟨_,U,U,U⟩ | 1,h=>by obtain rfl:=yI h;exact⟨_,U,U,U⟩|_+2,h=>by simp at h)) U (Ea U T.Es (Aa (Bb (Ax (K:=K)) U T.Cd Bv (Aa (pv 6) Ab)) Ab)) (λ_ _ _ _ _=>.nil) (λ_ _ _ _ _=>(Ak Am (Bq (Be (K:=K)) (pv 1) (pv 0) (λ_ _=>rfl)) (Bq (Be (K:=K)) (pv 2) (pv 0) (λ_ _=>rfl))))) Ab)))))
   Aq)
  (Ac (Bl (PW.pt (pw_and (Ai Cj (Ak Dd (pv 0) Ah) Ah (Av _)) (pw_and (Ai Cj (Bb BL U T.Cd Bv (Aa (Bq (Be (K:=K)) (pv 6) Ah (λ_ _=>rfl)) Ab)) (Bb BL U T.Cd Bv (Aa (Bq (Be (K:=K)) (pv 8) Ah (λ_ _=>rfl)) Ab)) (Av _)) (pw_and1 (Ai Hf (Ak Em (Bb (Ax (K:=K)) U T.Cd Bv (Aa (pv 6) Ab)) (Bb (Ax (K:=K)) U T.Cd Bv (Aa (pv 8) Ab))) Ah (Av _))))))
   (Ad (Az (CT (Aa (Ak Am (Ak Am (Ak Am (Ak Am Af (pv 5)) Af) (pv 7)) Af) (Aa (Ak Lk (pv 6) (pv 8)) Ab)))))
   Aq)
  (Ac (Bl (PW.pt (pw_and (Ai Cj (Ak Dd (pv 0) Ah) Ah (Av _)) (pw_and1 (Ai Hf (Ak Q8 (Bb BL U T.Cd Bv (Aa (Bq (Be (K:=K)) (pv 6) Ah (λ_ _=>rfl)) Ab)) (pv 2)) Ah (Av _)))))
   (Ad (Az (CT (Aa (Ak Am (Ak Am (Ak Am (Ak Am Af (pv 5)) Af) (BR Dy U T.Sq JV (Aa (pv 2) Ab))) Af) (Aa (CV (CJ.mk (Bp:=[2]) (Nc:=["row","a"]) U At At (Cg (sc0:=Ag Gh) U At) U rfl U At (λk j h=>match k,h with | 0,h=>by obtain rfl:=yI h;exact⟨_,U,U,U⟩|_+1,h=>by simp at h)) U (BJ (K:=K) (pv 6)) (λ_ _ _ _ _=>.nil) (λ_ _ _ _ _=>(Ak K1 (pv 0) (pv 1)))) Ab)))))
   Aq)
  (Ac (Bl (PW.pt (pw_and (Ai Cj (Ak Dd (pv 0) Ah) Ah (Av _)) (pw_and (Ai Hf (Bb (Ax (K:=K)) U T.Cd Bv (Aa (pv 6) Ab)) Ah (Av _)) (pw_and1 (Ai Hf (Bb BL U T.Cd Bv (Aa (Bq (Be (K:=K)) (pv 6) Ah (λ_ _=>rfl)) Ab)) Ah (Av _))))))
   (Ad (Az (CT (Aa (Ak Am (Ak Am (Ak Am (Ak Am Af (pv 5)) Af) (pv 5)) Af) (Aa (Aj ((AiQ T).mono Ap) X U T.YZ.m T.YZ.F.kp T.YZ.b .nil Ay (Aa (pv 6) (Aa (pv 6) Ab))) Ab)))))
   Aq)
  (Ac (Bd (i:=9) Du.nd U NN (Bq (Be (K:=K)) (Cm (Aa Af (Aa Af (Aa Af (Aa Af Ab))))) (Ak Q7 (pv 2) Ah) (λ_ _=>rfl)))
  (Ad (Az (CT (Aa (Ak Am (Ak Am (Ak Am (pv 9) Af) (pv 5)) Af) (Aa (Aj ((AeG T).mono Ap) X U T.QV.m T.QV.F.kp T.QV.b .nil Ay (Aa (pv 9) (Aa (pv 6) Ab))) Ab)))))))))))))))),?_⟩;have hsz:sizeLine=16777216:=z7;rw[Auy,Axz,Ax0,Ax1,Ax2,Ax3,w_c,w_o,w_e,Ax4,w_1,w_n,Awy,Ax5,w_up,Ax6,Ax7,Ahf];have d:∀{H1:Hp} {l:Nn} {u:NV} {x:NI},Aw H H1->H1 l=some (.lst (vS x))->H l=none->PtO kn u x->Aji Q [.str (tx u),.ref l] H1:=λ{H1 l u x} N h1 n1 O=>⟨AE,λp hp=>kQ p l u x _ (N.new hp) (N.free hp) n1 Ae (by rw[Ao (Bf h1 hp)];exact h1) O⟩;obtain⟨a,ha,ea⟩:∃a:Nat,a<4/\(1+z / 6%4)=((1+a:Nat):Int):=⟨(z / 6%4).toNat,AA,AA⟩;obtain⟨b,hb,eb⟩:∃a:Nat,a<4/\(1+z / 24%4)=((1+a:Nat):Int):=⟨(z / 24%4).toNat,AA,AA⟩;have da:=Oa (show 1+a<100 by lia);have db:=Oa (show 1+b<100 by lia);refine⟨_,U,_,_,U,U,⟨Ap,Ap⟩,_,_,U,U,Ap,_,_,U,U,?_⟩;rw[ea];refine Cw U rfl ⟨_,U,_,_,U,U,⟨Ap,Ap⟩,_,_,U,U,Ap,_,_,U,U,?_⟩;rw[eb];refine Cw U rfl ?_;obtain⟨as,G,W,a0⟩:=id hK;refine⟨_,U,_,_,U,U,Ap,U,_,U,(λhA=>CP (λ_=>hA) (λ_=>⟨_,U,_,_,U,.inl (yW G),U,_,U,CP (λ_=>hA) (λc0=>?_)⟩)) ?_⟩
 rotate_left
 rotate_left
 ·refine⟨_,U,_,_,U,U,⟨Ap,Ap⟩,_,U,_,U,z / 96,1+a,1+b,U,AA,AA,AA,AA,λl x H1 N B S C=>Cw U rfl ?_⟩;have C':=C.clo;have O:=ArZ (kn:=kn) C' (by rw[C.hn];lia) (λr X=>by rw[C.hm r X];lia);have lt:(jnS [44,32] x).length<=300:=by
   obtain⟨c,v,e,_,hv⟩:=O.f;have:=congrArg List.length e;simp only [AxS,AxX,Ayu]at this;lia
  refine⟨U,_,U,_,_,x.map tx,U,U,yW (by rw[S,Gj]),?_,?_⟩
  ·have:=Ach (k:=4) (x:=x) (λr X=>by rw[C.hm r X];lia);have:=C.hn;rw[Iu,AxR,Ba];show _+_*2<=_;lia
  rw[Q4];refine⟨_,_,U,U,ln9 (by show 5+_<=_;lia),?_⟩;rw[Bt];refine⟨_,_,U,U,ln9 (by rw[AxS];show 5+_+1<=_;lia),?_⟩;rw[Bt];refine⟨_,U,?_⟩;rw[show Pat.Ge++[40]++jnS [44,32] x++[41]=Pat.Ge++(40::(jnS [44,32] x++[41])) by simp];exact d N S B O
 refine⟨_,U,_,_,U,U,Ap,U,_,U,CP (λ_=>?_) (λ_=>?_)⟩
 ·refine⟨_,U,_,U,_,_,U,U,_,U,AA,AA,?_⟩;rw[show(((1+a:Nat):Int)+((1+b:Nat):Int))=((1+a+(1+b):Nat):Int) by lia,Ayi];refine Gr (lo:=0) (n:=1+a+(1+b)) (λi ys H2=>Aw H H2/\ys=vS ((List.range i).map (twT (1+a) (1+b)))) ⟨.refl _,U⟩ ?_ ?_ ?_ ?_
  ·rintro i ys H2 hi ⟨s2,rfl⟩;rw[Bc,AxR,Ayw];exact AxU _
  ·exact Cv AA
  ·rintro i ys H2 hi ⟨s2,rfl⟩;refine Iz.no ⟨U,_,U,_,U,_,_,U,U,_,U,AA,AA,?_⟩;rw[show(((1+a:Nat):Int)+((1+b:Nat):Int))=((1+a+(1+b):Nat):Int) by lia,Ayi];refine Gr (lo:=0) (n:=1+a+(1+b)) (λj ys H3=>H3=H2/\ys=vS ((List.range j).map λx=>[twl (1+a) (1+b) i x])) ⟨U,U⟩ ?_ ?_ ?_ ?_
   ·rintro j ys H3 hj ⟨rfl,rfl⟩;rw[Bc,AxR,Ayw];exact AxU _
   ·exact Cv AA
   ·rintro j ys H3 hj ⟨rfl,rfl⟩;refine Iz.no ⟨_,U,_,U,_,_,U,U,_,U,_,U,_,_,U,U,_,_,U,U,AA,_,U,_,_,U,U,.inr ⟨_,U,_,_,twl (1+a) (1+b) i j,U,U,(by rw[Ba];exact big Ap),?_,?_⟩⟩
    ·rw[ApS,Asc AA,Ay5,Ay5]
    ·rw[JT];refine CN.of hj ⟨U,?_⟩;rw[Dj,Ay8,AxV];rfl
   ·rintro ys H3 l ⟨rfl,rfl⟩ B;obtain⟨H4,e9,s3,h3⟩:=nu9 (o:=.lst (vS ((List.range (1+a+(1+b))).map λx=>[twl (1+a) (1+b) i x]))) s2 B;rw[e9];have e2:((List.range (1+a+(1+b))).map λx=>[twl (1+a) (1+b) i x]).flatten=twT (1+a) (1+b) i:=Ri _ _;have lt:(twT (1+a) (1+b) i).length<=8:=by unfold twT;rw[AxR,Ayw];lia
    refine⟨_,_,(((List.range (1+a+(1+b))).map λx=>[twl (1+a) (1+b) i x]).map tx),U,U,yW (by rw[h3,Gj]),(by rw[Iu,e2,Ba,Ayu,Aze];lia),?_⟩;rw[GR,e2];refine CN.of hi ⟨s3,?_⟩;rw[Dj,Ay8,AxV];rfl
  ·rintro ys H2 l ⟨s2,rfl⟩ B;refine Cw U rfl ?_;have O:=ApH (kn:=kn) (a:=1+a) (b:=1+b) AA AA AA AA;refine⟨_,U,_,U,lg AA,?_⟩;rw[ZW];refine⟨_,_,U,U,ln9 (by show 6+_<=_;lia),?_⟩;rw[Bt];refine⟨_,_,U,U,ln9 (by rw[AxS];show 6+_+1<=_;lia),?_⟩;rw[Bt];refine⟨_,U,_,U,lg AA,?_⟩;rw[ZW];refine⟨_,_,U,U,ln9 (by rw[AxS,AxS];show 6+_+1+_<=_;lia),?_⟩;rw[Bt];refine⟨_,_,U,U,ln9 (by rw[AxS,AxS,AxS];show 6+_+1+_+1<=_;lia),?_⟩;rw[Bt];refine⟨_,U,?_⟩;rw[show twW++[40]++dec (1+a)++[44]++dec (1+b)++[41]=twW++(40::(dec (1+a)++(44::(dec (1+b)++[41])))) by simp];exact d (s2.new B) Ae (s2.free B) O
 have n0:0<kn.length:=by
  rw[<-W];rcases Nat.eq_zero_or_pos as.length with h|h
  ·exact yG (by rw[AxR,h];rfl) c0
  ·exact h
 obtain⟨i,hi,ei⟩:∃i:Nat,i<kn.length/\z / 24%((as.map V.ref).length:Int)=(i:Int):=⟨(z / 24%(kn.length:Int)).toNat,by have:=AyT (z / 24) (show(0:Int)<kn.length by lia);have:=AyQ (z / 24) (show(kn.length:Int)≠0 by lia);lia,by rw[AxR,W,Azo (AyQ _ AA)]⟩;obtain⟨j,hj,ej⟩:∃i:Nat,i<kn.length/\z / 96%((as.map V.ref).length:Int)=(i:Int):=⟨(z / 96%(kn.length:Int)).toNat,by have:=AyT (z / 96) (show(0:Int)<kn.length by lia);have:=AyQ (z / 96) (show(kn.length:Int)≠0 by lia);lia,by rw[AxR,W,Azo (AyQ _ AA)]⟩;have A:i<as.length:=AA
 have a6:j<as.length:=AA
 obtain⟨I,a1,q⟩:=a0 i as[i] kn[i] (AxT A) (AxT hi);obtain⟨q2,a2,R⟩:=a0 j as[j] kn[j] (AxT a6) (AxT hj);have L:=Ayp hi;have m2:=Ayp hj;have t1:atI (as.map V.ref) (i:Int)=some (V.ref as[i]):=Bw AA (by rw[Ayi,AxZ,AxT A];rfl);have t2:atI (as.map V.ref) (j:Int)=some (V.ref as[j]):=Bw AA (by rw[Ayi,AxZ,AxT a6];rfl);generalize as[i]=g1 at a1 t1;generalize as[j]=g2 at a2 t2;generalize kn[i]=p1 at a1 q L;generalize kn[j]=p2 at a2 R m2;obtain⟨n1,x⟩:=p1;obtain⟨n2,y⟩:=p2;dsimp only at a1 q a2 R;have C:=M.c _ L;have D:=M.c _ m2;dsimp only at C D;have l1:=(M.n _ L).2;have l2:=(M.n _ m2).2;dsimp only at l1 l2;have lp:(0:Int)<((as.map V.ref).length:Int):=by rw[AxR];lia
 have Y:=C.n40;have Xk:=C.m40;have ab:=D.n40;have ac:=D.m40;have hd:∀{x:NI},Clo x->∃u,atI (vS x) 0=some (.str (tx u))/\u.length=wdt x:=λ{x} C=>by
  cases x with
  |nil=>have:=C.n1;simp at this
  |cons u x=>exact⟨u,Bw Ap U,U⟩
 obtain⟨u,hu,lu⟩:=hd C;obtain⟨v,hv,lv⟩:=hd D;have su:(tx u).length<=sizeLine:=by rw[Ba];lia
 have sv:(tx v).length<=sizeLine:=by rw[Ba];lia
 refine⟨_,U,_,U,_,_,U,U,⟨Ap,Ap⟩,_,U,_,_,U,.inl (yW G),_,_,U,U,lp,kp,_,_,_,U,U,yW G,(by rw[ei];exact t1),g1,_,U,SqT.of a1,U,_,_,U,_,_,U,U,_,U,_,U,_,_,U,U,⟨Ap,Ap⟩,_,U,_,_,U,.inl (yW G),_,_,U,U,lp,kp,_,_,_,U,U,yW G,(by rw[ej];exact t2),g2,_,U,SqT.of a2,U,_,_,U,_,_,U,U,_,U,_,_,U,U,Ap,U,_,U,(λs=>CP (λ_=>⟨_,U,_,_,U,.inl (yW q),_,U,_,_,U,.inl (yW R),U,_,U,CP (λJ=>⟨_,U,I,_,_,_,U,U,yW q,hu,_,U,su,_,U,q2,_,_,_,U,U,yW R,hv,_,U,sv,_,_,U,U,_,_,U,U,_,U,CP (λc3=>?_) (λ_=>s)⟩) (λ_=>s)⟩) (λ_=>s)) ?_⟩
 rotate_left
 ·have hh:x.length=y.length:=by
   injection J with J;rw[Bc,Bc]at J;lia
  have hw:wdt x+wdt y<17:=by
   rw[Ba,Ba,lu,lv]at c3;lia
  have e:QC x y=.ok (List.zipWith (·++·) x y):=by
   unfold QC;rw[yE (λz=>z hh),yE AA]
  have O:=Aki (g:=0) (k:=0) (r:=List.zipWith (·++·) x y) M (.inl U) L m2 e (AcH C D e) Ap Ap;have zl:(List.zipWith (·++·) x y).length=x.length:=by rw[AzI,<-hh,Azb]
  refine⟨_,U,_,_,U,U,ln9 (by show 7+_<=_;lia),?_⟩;rw[Bt];refine⟨_,_,U,U,ln9 (by rw[AxS];show 7+_+1<=_;lia),?_⟩;rw[Bt];refine⟨_,U,_,_,U,U,ln9 (by rw[AxS,AxS];show 7+_+1+_<=_;lia),?_⟩;rw[Bt];refine⟨_,_,U,U,ln9 (by rw[AxS,AxS,AxS];show 7+_+1+_+1<=_;lia),?_⟩;rw[Bt];refine⟨_,U,_,_,U,.inl (yW q),_,U,AA,(by rw[Bc];lia),?_⟩;rw[Bc,Ayi];refine Gr (lo:=0) (n:=x.length) (λi ys H2=>H2=H/\ys=vS ((List.zipWith (·++·) x y).take i)) ⟨U,U⟩ ?_ ?_ ?_ ?_
  ·rintro i ys H2 hi ⟨rfl,rfl⟩;rw[Bc,Ayc];lia
  ·exact Cv Y
  ·rintro i ys H2 hi ⟨rfl,rfl⟩;refine Iz.no ?_;have A:i<y.length:=AA
   have l1:=C.hm _ (Ayp hi);have l2:=D.hm _ (Ayp A);refine⟨_,U,_,U,I,_,_,_,U,U,yW q,(by rw[Ay5];exact Abv (AxT hi)),?_⟩;refine⟨_,U,_,U,q2,_,_,_,U,U,yW R,(by rw[Ay5];exact Abv (AxT A)),?_⟩;refine⟨_,_,U,U,(by rw[Ba,Ba];exact big AA),?_⟩;rw[Bt];refine CN.of hi ⟨U,?_⟩;rw[Dj,Aya,List.getElem?_zipWith,AxT hi,AxT A];rfl
  ·rintro ys H2 p ⟨rfl,rfl⟩ np;rw[show(List.zipWith (·++·) x y).take x.length=List.zipWith (·++·) x y from Ayy (by rw[zl];exact AxU _)];rw[show beW++[40]++n1++[44]++n2++[41]=beW++(40::(bl 0++(n1++(44::(n2++(bl 0++[41])))))) by simp[bl]];exact d (.upd np) Ae np O
 refine GQ ⟨_,U,_,_,U,U,Ap,U,_,U,(λs=>CP (λ_=>⟨_,U,I,_,_,_,U,U,yW q,hu,_,U,su,_,U,q2,_,_,_,U,U,yW R,hv,_,U,sv,U,_,U,CP (λJ=>⟨_,U,_,_,U,.inl (yW q),_,U,_,_,U,.inl (yW R),_,_,U,U,_,_,U,U,_,U,CP (λc3=>?_) (λ_=>s)⟩) (λ_=>s)⟩) (λ_=>s)) ?_⟩
 rotate_left
 ·have hw:wdt x=wdt y:=by
   injection J with J;rw[Ba,Ba,lu,lv]at J;lia
  have hh:x.length+y.length<17:=by
   rw[Bc,Bc]at c3;lia
  have e:WR x y=.ok (x++y):=by
   unfold WR;rw[yE (λz=>z hw),yE AA]
  have O:=Aki (g:=1) (k:=0) (r:=x++y) M (.inr (.inl U)) L m2 e (Afl C D e) Ap Ap;refine⟨_,U,_,_,U,U,ln9 (by show 7+_<=_;lia),?_⟩;rw[Bt];refine⟨_,_,U,U,ln9 (by rw[AxS];show 7+_+1<=_;lia),?_⟩;rw[Bt];refine⟨_,U,_,_,U,U,ln9 (by rw[AxS,AxS];show 7+_+1+_<=_;lia),?_⟩;rw[Bt];refine⟨_,_,U,U,ln9 (by rw[AxS,AxS,AxS];show 7+_+1+_+1<=_;lia),?_⟩;rw[Bt];refine⟨_,U,_,U,I,q2,_,_,U,U,q,R,(by rw[Bc,Bc];lia),λl B=>?_⟩;rw[show abW++[40,32]++n1++[44]++n2++[41]=abW++(40::(bl 1++(n1++(44::(n2++(bl 0++[41])))))) by simp[bl]];refine d (.upd B) ?_ B O;rw[Ae];unfold vS;rw[AxV]
 refine GQ ⟨_,U,_,_,U,U,Ap,U,_,U,(λs=>CP (λ_=>⟨_,U,I,_,_,_,U,U,yW q,hu,_,U,su,_,U,_,_,U,U,.inl ⟨AA,by rw[Ba];lia⟩,_,_,U,U,_,U,CP (λc3=>?_) (λ_=>s)⟩) (λ_=>s)) ?_⟩
 rotate_left
 ·have hw:wdt x*(1+a)<17:=by
   rw[Ba,lu]at c3;lia
  have e:AaB x (1+a) 1=.ok (wid x (1+a)):=by
   unfold AaB;rw[yE AA,yE AA];unfold til;simp
  have O:=Asa (a:=1+a) M L AA e;refine⟨_,U,_,_,U,U,ln9 (by show 5+_<=_;lia),?_⟩;rw[Bt];refine⟨_,_,U,U,ln9 (by rw[AxS];show 5+_+1<=_;lia),?_⟩;rw[Bt];refine⟨_,U,_,U,lg AA,?_⟩;rw[ZW];refine⟨_,_,U,U,ln9 (by rw[AxS,AxS];show 5+_+1+_<=_;lia),?_⟩;rw[Bt];refine⟨_,_,U,U,ln9 (by have h1:(dec 1).length<=2:=Oa Ap;have h5:(tiW++[40]).length=5:=rfl;simp only [AxS,AxX,Ayu]at h5 ⊢;lia),?_⟩;rw[Bt];refine⟨_,U,_,U,⟨_,yW q⟩,CK (K:=K) (a:=I) (xs:=vS x) (λi ys H2=>H2=H/\ys=vS (wid (x.take i) (1+a))) ⟨U,U⟩ ?_ ?_ ?_ ?_⟩
  ·rintro i ys H2 hi ⟨rfl,rfl⟩;refine⟨yW q,?_⟩;unfold wid;rw[Bc,AxR,Ayc];lia
  ·rw[Bc];exact Cv Y
  ·rintro i xv ys H2 hi hx ⟨rfl,rfl⟩;obtain⟨r,Z,rfl⟩:=Fw hx;have ae:=C.hm r (Ayb Z);refine Iz.no ?_;have:r.length*(1+a)<=40*4:=Nat.mul_le_mul AA AA;refine⟨_,U,_,U,_,_,U,U,AA,AA,(by rw[Ayi];lia),?_⟩;rw[Ayi];refine CN.of hi ⟨U,?_⟩;unfold wid;rw[Dj,Aya,Z,AxV];rfl
  ·rintro ys H2 p ⟨rfl,rfl⟩ np;rw[Bc,Ayg];rw[show tiW++[40]++n1++[44]++dec (1+a)++(44::(dec 1++[41]))=tiW++(40::(n1++(44::(dec (1+a)++(44::(dec 1++[41])))))) by simp];exact d (.upd np) Ae np O
 refine GQ ⟨_,U,_,_,U,U,Ap,U,_,U,(λs=>CP (λ_=>⟨_,U,_,_,U,.inl (yW q),_,_,U,U,_,U,CP (λJ=>⟨_,U,I,_,_,_,U,U,yW q,hu,_,U,su,_,_,U,U,_,U,CP (λc3=>?_) (λ_=>s)⟩) (λ_=>s)⟩) (λ_=>s)) ?_⟩
 rotate_left
 ·have hw:wdt x<9:=by
   rw[Ba,lu]at c3;lia
  have hh:x.length<9:=by
   rw[Bc]at J;lia
  have e:Aj9 x x=.ok (ld2 x x):=by
   unfold Aj9;rw[yE AB,yE AA,ArX C C]
  have O:=Aki (g:=0) (k:=1) (r:=ld2 x x) M (.inr (.inr U)) L L e (Ak7 C C e) Ap Ap;refine⟨_,U,_,_,U,U,ln9 (by show 4+_<=_;lia),?_⟩;rw[Bt];refine⟨_,_,U,U,ln9 (by rw[AxS];show 4+_+1<=_;lia),?_⟩;rw[Bt];refine⟨_,U,_,_,U,U,ln9 (by rw[AxS,AxS];show 4+_+1+_<=_;lia),?_⟩;rw[Bt];refine⟨_,_,U,U,ln9 (by rw[AxS,AxS,AxS];show 4+_+1+_+2<=_;lia),?_⟩;rw[Bt];refine⟨_,U,_,U,I,I,x,x,U,yW q,yW q,C,C,λl H1 N B S=>?_⟩;rw[show laW++[40]++n1++[44]++n1++[32,41]=laW++(40::(bl 0++(n1++(44::(n1++(bl 1++[41])))))) by simp[bl]];exact d N S B O
 refine GQ ?_;obtain⟨wz,hz,e9⟩:∃wz,(wz=miW\/wz=upW\/wz=baW\/wz=quW)/\atI [V.str (tx miW),V.str (tx upW),V.str (tx baW),V.str (tx quW)] (((1+a:Nat):Int)-1)=some (V.str (tx wz)):=by
  rw[show(((1+a:Nat):Int)-1)=(a:Int) by lia];have a4:a=0\/a=1\/a=2\/a=3:=AA
  rcases a4 with rfl|rfl|rfl|rfl
  ·exact⟨miW,.inl U,Bw Ap U⟩
  ·exact⟨upW,.inr (.inl U),Bw Ap U⟩
  ·exact⟨baW,.inr (.inr (.inl U)),Bw Ap U⟩
  ·exact⟨quW,.inr (.inr (.inr U)),Bw Ap U⟩
 have lz:wz.length<=7:=by rcases hz with rfl|rfl|rfl|rfl<;>decide
 refine⟨(by show 4<=sizeLine;decide),λp9 aa=>⟨_,U,_,_,U,U,p9,_,_,_,U,U,yW Ae,e9,?_⟩⟩;have s9:Aw H (upd H p9 (.lst [V.str (tx miW),V.str (tx upW),V.str (tx baW),V.str (tx quW)])):=.upd aa;generalize upd H p9 (.lst [V.str (tx miW),V.str (tx upW),V.str (tx baW),V.str (tx quW)])=H9 at s9 ⊢;refine Cw U rfl ⟨_,U,_,_,U,U,ln9 (by show _+1<=_;lia),?_⟩;rw[Bt];refine⟨_,U,_,_,U,U,ln9 (by rw[AxS];show _+1+_<=_;lia),?_⟩;rw[Bt];refine⟨_,_,U,U,ln9 (by rw[AxS,AxS];show _+1+_+1<=_;lia),?_⟩;rw[Bt];refine⟨_,U,_,U,wz,I,x,U,hz,yW (s9 _ _ q),C,λl r H1 N B S e=>?_⟩;rw[show wz++[40]++n1++[41]=wz++(40::(n1++[41])) by simp];exact d (s9.trans N) S (s9.free B) (Aus M hz L e)
end
section
variable {pr one other:NI}{w h:Nat} (C:Cl pr m n) (C1:Cl one w h) (C2:Cl other w h)
include C C1 C2
end
theorem Awz{tr:NF}(F:Ft th tss tr):Cl (wv th tss tr) th.length tr.length:=by
 refine⟨Aj6 _ _ _,λt a=>?_,λt a c hc=>?_,F.m1,F.m40,F.n1,F.n40⟩
 ·unfold wv at a;obtain⟨v,_,rfl⟩:=yB.mp a;exact Arj _ _
 ·unfold wv at a;obtain⟨v,_,rfl⟩:=yB.mp a;unfold shd at hc;obtain⟨s,_,rfl⟩:=yB.mp hc;split
  ·exact .inl U
  ·exact .inr U
section
variable {K:NO}{base:Heap}{t:Adr}
theorem Als:∀ds:NV,mT ds=((ds.map dec).map λy=>[32]++y).flatten
 |[]=>rfl
 |n::r=>by
  rw[mT,Als r];rfl
theorem Ase(ds:NV):Txt.join (tx [32]) ((ds.map dec).map tx)=tx (Dq ds):=by
 cases ds with
 |nil=>exact Q4 [32] []
 |cons n r =>
  rw[Ayd,Ad9,<-Als];rfl
theorem Alu:∀{ds:NV},(∀d∈ds,d<100)->(ds.map dec).flatten.length<=2*ds.length
 |[],_=>AxU _
 |n::r,h=>by
  have:= Alu λm a=>h m (AxY _ a);have:= Oa (h n AxW);grind
theorem Aa2{e:TE}(j:∀k:VK,k (.ref l) H->e σ H k)(h:H l=some (.lst (vI (ofN ds))))(a:∀d∈ds,d<100)(c:ds.length<=40)(k:∀H',Aw H H'->Q (.str (tx (Dq ds))) H') :
  tBM K "str" (rJoin K) (tC (V.str (tx [32]))) (Anl (AeW (Anc K e) [] AbR (tCB Tg (Anl (AsB 0) Aqu))) Aqu) σ H Q:=by
 refine⟨U,j _ ⟨_,U,⟨_,yW h⟩,CK (xs:=vI (ofN ds)) (λi ys H2=>H2=H/\ys=vS ((ds.take i).map dec)) ⟨U,U⟩ ?_ ?_ ?_ ?_⟩⟩
 ·rintro i ys H2 hi ⟨rfl,rfl⟩;refine⟨yW h,?_⟩;rw[Bc,AxR,Ayc];exact AyB _ _
 ·rw[Cp];unfold ofN;rw[AxR];exact Cv c
 ·rintro i o ys H2 hi m ⟨rfl,rfl⟩;obtain⟨z,b,rfl⟩:=Ln m;unfold ofN at b;rw[AxZ]at b;obtain⟨d,f,rfl⟩:=zU.mp b;refine⟨_,U,_,U,lg (a d (Ayb f)),?_⟩;show CN _ _ _ (_++[V.str (Str.ofString (toString ((d:Nat):Int)))]) _;rw[ZW];refine CN.of hi ⟨U,?_⟩;rw[Dj,Aya,f,AxV];rfl
 ·rintro ys H2 p ⟨rfl,rfl⟩ np;have n:(ofN ds).length=ds.length:=AxR _;rw[Cp,n,Ayg];refine⟨_,_,(ds.map dec).map tx,U,U,yW (by rw[Ae,Gj]),?_,?_⟩
  ·have:= Alu a;rw[Iu,AxR,AxR];show _+_*1<=_;lia
  ·rw[Ase];exact k _ (.upd np)
def S4 (p:Nat->Bool):NV:=(List.range 4).filter p
theorem AfC{p:Nat->Bool}:(∀d∈S4 p,d<4)/\(S4 p).length<=4:=⟨λd a=>yD.mp (List.mem_filter.mp a).1,Ayh (Azf _ _) Ap⟩
theorem ApT{p:Nat->Bool}:∀n,n<=40->Rs (ofN ((List.range n).filter p))/\∀k∈ofN ((List.range n).filter p),k<n
 | 0,_=>⟨AtD,λk h=>by cases h⟩
 |n+1,h=>by
  have a:=ApT (p:=p) n (by exact Ar.c3 h);rw[Ay8,AyD];cases e:p n with
  |false =>
   rw[AzL (by rw[e];decide),Az5,Ayr];exact⟨a.1,λk hk=>by have:= a.2 k hk;omega⟩
  |true =>
   rw[Azd e];unfold ofN at a ⊢;rw[AxV];refine⟨AtE a.1 a.2 AD (by show(n:Int)<40;exact Ar.f5 h),λk hk=>?_⟩;rcases zG.mp hk with hk|hk
   ·have:= a.2 k hk;omega
   ·have:k=(n:Int):=zF.mp hk;lia
theorem Aw0{p:Nat->Bool}:Rs (ofN (S4 p)):=(ApT 4 Ap).1
structure DtO (u:NV)(x:NI):Prop where
 r:DrO u (.ok x)
 c:Clo x
 e:En u
 z:u≠[]
 n:10∉u
 l:u.length<=300
theorem Alv:∀{ns:NV},(∀n∈ns,n<100)->(mT ns).getLast?≠some 32
 |[],_=>by simp[mT]
 |n::r,h=>by
  have b:=Alv λm a=>h m (AxY _ a);have d:=dec_is (h n AxW);have f:dec n≠[]:=λe=>by have:= d.l1;rw[e]at this;simp at this
  rw[mT,<-Ay9,Azm];cases e:(mT r).getLast? with
  |some c=>simp_all
  |none =>
   intro z;have z:(32::dec n).getLast?=some 32:=z;rw[List.getLast?_cons,Option.some.injEq]at z;cases e2:(dec n).getLast? with
   |none=>simp_all
   |some c =>
    rw[e2]at z;have:= d.dg c (List.mem_of_getLast? e2);have z:c=32:=z;lia
theorem Alw(h:∀n∈ns,n<100)(b:ns≠[]):En (Dq ns)/\Dq ns≠[]:=by
 cases ns with
 |nil=>exact yG U b
 |cons n r =>
  have nn:=Alh (h n AxW) r;have d:=dec_is (h n AxW);refine⟨⟨λe=>?_,λe=>?_⟩,nn⟩
  ·rw[Dq]at e;cases a:dec n with
   |nil=>have:= d.l1;rw[a]at this;simp at this
   |cons c v =>
    rw[a]at e;have:= d.dg c (by rw[a];exact AxW);grind
  ·have:= Alv h;rw[mT,List.getLast?_cons]at this;rw[Dq]at e;rw[e]at this;exact this U
theorem Alx{sp:NV}{c:Nat}:∀{us:NI},c∈jnS sp us->c∈sp\/∃u∈us,c∈u
 |[],h=>by simp[jnS]at h
 |[u],h=>.inr ⟨u,AxW,h⟩
 |u::v::r,h=>by
  rcases zG.mp h with h|h
  ·simp_all
  ·rcases zG.mp h with h|h
   ·exact .inl h
   ·rcases Alx h with h|⟨x,a,hc⟩
    ·exact .inl h
    ·exact .inr ⟨x,AxY _ a,hc⟩
theorem Aw1{th tr:NV}{ps:List (Nat->Bool)}(h1:1<=th.length)(B:th.length<=5)(G:∀d∈th,d<4)(p1:1<=ps.length)(H:ps.length<=3)(o:1<=tr.length)(s:tr.length<=4)(q:∀d∈tr,d<ps.length) :
  DtO (jnS [32,47,32] [Dq th,jnS [44,32] (ps.map λp=>Dq (S4 p)),Dq tr]) (wv (ofN th) (ps.map λp=>ofN (S4 p)) (ofN tr)):=by
 have A:(ofN th).length=th.length:=AxR _;have E:(ofN tr).length=tr.length:=AxR _;have F:Ft (ofN th) (ps.map λp=>ofN (S4 p)) (ofN tr):=⟨by exact Ar.b3 A h1,by exact Ar.g6 A B,AC,AD,by exact Ar.b3 E o,by exact Ar.g6 E s,λv m=>by
   obtain⟨d,e,rfl⟩:=yB.mp m;grind,λks hk=>by
   obtain⟨p,_,rfl⟩:=yB.mp hk;exact Aw0,λv m=>by
   obtain⟨d,e,rfl⟩:=yB.mp m;grind⟩
 have f:∀d∈th,d<100:=λd e=>by have:= G d e;exact Ar.a2 this
 have i:∀d∈tr,d<100:=λd e=>AD
 have j:∀(p:Nat->Bool),∀d∈S4 p,d<100:=λp d e=>by have:= AfC.1 d e;exact Ar.a2 this
 have D:D3 (rcN th) (ps.map λp=>rcN (S4 p)) (rcN tr):=⟨AdO f (by exact Ar.a2 B),λz=>AC,AD,λr h=>by
   obtain⟨p,_,rfl⟩:=yB.mp h;exact AdO (j p) (by have:= (AfC (p:=p)).2;exact Ar.a2 this),AdO i (by exact Ar.a2 s)⟩
 have y:fwd (rcN th) (ps.map λp=>rcN (S4 p)) (rcN tr)="":= by
  unfold fwd;have:= Ahg ((rcN th).wd::(ps.map λp=>rcN (S4 p)).map Rc.wd) [(rcN tr).wd] (λw hw=>by
   rcases yC.mp hw with z|z
   ·exact z
   ·obtain⟨r,q,rfl⟩:=yB.mp z;obtain⟨p,_,rfl⟩:=yB.mp q;rfl)
  rw[this];rfl
 have O:=DrO.ok D y (by rw[Ay7];exact F);unfold drT at O;rw[Ay7,Ay7]at O;have C:=Awz F;have n1:=M6 f;have n2:=M6 i;have nm:∀c∈Dq th++Dq tr,c=32\/48<=c/\c<=57:=λc hc=>by
  rcases zG.mp hc with h|h
  ·exact Z4 f h
  ·exact Z4 i h
 have n:=Alw f (λz=>by rw[z]at h1;simp at h1);have e2:=Alw i (λz=>by rw[z]at o;simp at o);have l:jnS [32,47,32] [Dq th,jnS [44,32] (ps.map λp=>Dq (S4 p)),Dq tr]=Dq th++(([32,47,32]++(jnS [44,32] (ps.map λp=>Dq (S4 p))++[32,47,32]))++Dq tr):=by
  simp[jnS]
 have x:∀c∈jnS [44,32] (ps.map λp=>Dq (S4 p)),c≠10:=λc hc z=>by
  rcases Alx hc with h|⟨u,I,h⟩
  ·rw[z]at h;revert h;decide
  ·obtain⟨p,_,rfl⟩:=yB.mp I;have:= Z4 (j p) h;lia
 have J:(jnS [44,32] (ps.map λp=>Dq (S4 p))).length<=14*ps.length:=by
  refine Ayh (Acf _ _) (?_:((ps.map λp=>Dq (S4 p)).map λu=>u.length+2).sum<=_);clear l x O y D F C q p1 H
  induction ps with
  |nil=>exact AxU _
  |cons p r K =>
   have a:=M6 (j p);have b:=(AfC (p:=p)).2;grind
 refine⟨O,C.clo,?_,?_,?_,?_⟩
 ·rw[l];exact n.1.app e2.1 n.2 e2.2
 ·exact λz=>n.2 (List.append_eq_nil_iff.mp z).1
 ·rw[l];intro z;rcases zG.mp z with z|z
  ·have:= nm 10 (Azg _ z);omega
  ·rcases zG.mp z with z|z
   ·rcases zG.mp z with z|z
    ·revert z;decide
    ·rcases zG.mp z with z|z
     ·exact x 10 z U
     ·revert z;decide
   ·have:= nm 10 (AyA _ z);omega
 ·grind
theorem Asf{y:Nn}(N:NL G y rs tss)(j:G q=some (.lst (vI ks)))(b:∀r∈rs,r≠y)(h:q≠y):NL (upd G y (.lst (rs.map V.ref++[.ref q]))) y (rs++[q]) (tss++[ks]):=by
 refine⟨by rw[Ae,AxV];rfl,by rw[AxS,AxS,N.l];rfl,λi a e h1 h2=>?_⟩;have f:=N.l;by_cases c:i<rs.length
 ·rw[Ayo c]at h1;rw[Ayo AA]at h2;rw[Ao (b a (Ayb h1))];exact N.r i a e h1 h2
 ·rw[Aym AA]at h1;rw[Aym AA,<-f]at h2;have d:i-rs.length=0:=by
   have:=(zC.mp h1).1;rw[Azc]at this;lia
  rw[d]at h1 h2;cases h1;cases h2;rw[Ao h];exact j
inductive AmQ (vs:LI)(H:Hp)(Q:VK)(z3:XK):Prop
|mk(z:Int)(_:vs=[.int z])(_:∀p l u x H',Aw H H'->H p=none->H l=none->H' p=some (.tup [.str (tx u),.ref l])->H' l=some (.lst (vS x))->DtO u x->Q (.ref p) H')
theorem Ahp(T:Txt K mg t):Bm P w K mg base CX0 2 t.Abq t.Abr ["cell"] AmQ:=by
 refine T.Vn.F.ok Fg ?_;rintro _ _ _ _ H _ Q E hr ⟨z,rfl,kQ⟩;refine⟨_,(Ac (Bd (i:=1) Fg.nd U NN (Aj ((Ox T).mono Ap) hr U T.Fp.m T.Fp.F.kp T.Fp.b .nil Ay (Aa (pv 0) (Aa Ah (Aa (Ak Em Ah (Ak Dd (pv 0) Ah)) Ab)))))
  (Ac (Bd (i:=2) Fg.nd U (Or.inr U) (Cm Ab))
  (Ac (DP yJ U (BJ (K:=K) (Aj ((Ox T).mono Ap) hr U T.Fp.m T.Fp.F.kp T.Fp.b .nil Ay (Aa (Ak Eo (pv 0) Ah) (Aa Ah (Aa (Ak Em Ah (Ak Dd (Ak Eo (pv 0) Ah) Ah)) Ab))))) (Bs (i:=3) Fg.nd U (Or.inr U))
   (Ad (Bj (Bx (K:=K) zM zL zQ Dg (pv 2) (Aa (CV (CJ.mk (Bp:=[3]) (Nc:=["shaft","bits"]) U At At (Cg (sc0:=Ag Gw) U At) U rfl U At (λk j h=>match k,h with | 0,h=>by obtain rfl:=yI h;exact⟨_,U,U,U⟩|_+1,h=>by simp at h)) U (Ea U T.Es (Aa Ah Ab)) (λ_ _ _ _ _=>.one (Ai Cj (Ak Dd (Ak Eo (pv 1) (Bq (Be (K:=K)) (Cm (Aa Ah (Aa Ah (Aa Ah (Aa Ah Ab))))) (pv 0) (λ_ _=>rfl))) Ah) Ah (Av _))) (λ_ _ _ _ _=>(pv 0))) Ab)))))
  (Ac (Bd (i:=4) Fg.nd U NN (Aj ((Ox T).mono Ap) hr U T.Fp.m T.Fp.F.kp T.Fp.b .nil Ay (Aa (Ak Eo (pv 0) Ah) (Aa (Bb (Ax (K:=K)) U T.Cd Bv (Aa (pv 2) Ab)) (Aa (Ak Em Ah (Ak Dd (Ak Eo (pv 0) Ah) Ah)) Ab)))))
  (Ac (Bd (i:=5) Fg.nd U NN (Cm Ab))
  (Ac (DP yJ U (BJ (K:=K) (pv 4)) (Bs (i:=6) Fg.nd U (Or.inr U))
   (Ad (Bj (Bx (K:=K) zM zL zQ Dg (pv 5) (Aa (Bx (K:=K) zI zS zV (DN (K:=K)) Af (Aa (CV (CJ.mk (Bp:=[2,6]) (Nc:=["shaft","ties","treadle"]) U At At (Cg (sc0:=Ag Gw) U At) U rfl U At (λk j h=>match k,h with | 0,h=>by obtain rfl:=yI h;exact⟨_,U,U,U⟩ | 1,h=>by obtain rfl:=yI h;exact⟨_,U,U,U⟩|_+2,h=>by simp at h)) U (BJ (K:=K) (pv 1)) (λ_ _ _ _ _=>.nil) (λ_ _ _ _ _=>(Bq JS Af (BR ZD U T.AkG AfW (Aa (Jv (WL (K:=K)) (pv 0) (Bq (Be (K:=K)) (pv 1) (pv 2) (λ_ _=>rfl)) U) Ab)) (λ_ _=>rfl)))) Ab)) Ab)))))
  (Ac (Bd (i:=7) Fg.nd U NN (Cm (Aa (Bx (K:=K) zI zS zV (DN (K:=K)) Af (Aa (CV (CJ.mk (Bp:=[]) (Nc:=["one"]) U At At (Cg (sc0:=Ag Gw) U At) U rfl U At (λ_ _ h=>by simp at h)) U (BJ (K:=K) (pv 1)) (λ_ _ _ _ _=>.nil) (λ_ _ _ _ _=>(BR Dy U T.Sq JV (Aa (pv 0) Ab)))) Ab)) Ab)))
  (Ac (Bj (Bx (K:=K) zM zL zQ Dg (pv 7) (Aa (Bx (K:=K) zI zS zV (DN (K:=K)) Af (Aa (CV (CJ.mk (Bp:=[]) (Nc:=["tie"]) U At At (Cg (sc0:=Ag Gw) U At) U rfl U At (λ_ _ h=>by simp at h)) U (BJ (K:=K) (pv 2)) (λ_ _ _ _ _=>.nil) (λ_ _ _ _ _=>(Bx (K:=K) zI zS zV (DN (K:=K)) Af (Aa (CV (CJ.mk (Bp:=[]) (Nc:=["one"]) U At At (AhX At) U rfl U At (λ_ _ h=>by simp at h)) U (BJ (K:=K) (pv 0)) (λ_ _ _ _ _=>.nil) (λ_ _ _ _ _=>(BR Dy U T.Sq JV (Aa (pv 0) Ab)))) Ab)))) Ab)) Ab)))
  (Ac (Bj (Bx (K:=K) zM zL zQ Dg (pv 7) (Aa (Bx (K:=K) zI zS zV (DN (K:=K)) Af (Aa (CV (CJ.mk (Bp:=[]) (Nc:=["one"]) U At At (Cg (sc0:=Ag Gw) U At) U rfl U At (λ_ _ h=>by simp at h)) U (BJ (K:=K) (pv 4)) (λ_ _ _ _ _=>.nil) (λ_ _ _ _ _=>(BR Dy U T.Sq JV (Aa (pv 0) Ab)))) Ab)) Ab)))
  (Ad (Az (CT (Aa (Bx (K:=K) zI zS zV (DN (K:=K)) Af (Aa (pv 7) Ab)) (Aa (pv 5) Ab)))))))))))))),?_⟩;have hsz:sizeLine=16777216:=z7;rw[Q0,Ahf,AdK,w_n,Awy];obtain⟨m1,bb,ax⟩:∃n:Nat,n<5/\1+z%5=((1+n:Nat):Int):=⟨(z%5).toNat,AA,AA⟩;obtain⟨m2,ay,an⟩:∃n:Nat,n<3/\1+z / 5%3=((1+n:Nat):Int):=⟨(z / 5%3).toNat,AA,AA⟩;obtain⟨m3,bc,av⟩:∃n:Nat,n<4/\1+z / 15%4=((1+n:Nat):Int):=⟨(z / 15%4).toNat,AA,AA⟩;refine⟨_,U,_,U,_,_,U,U,Ap,_,_,U,U,z,4,1+m1,(by rw[ax];rfl),Ap,Ap,AA,λl1 th H1 s1 b4 ae b0 ht=>Cw U rfl ⟨(by show 0<=sizeLine;decide),λT0 S=>?_⟩⟩;have s2:Aw H1 (upd H1 T0 (.lst [])):=.upd S;have N2:NL (upd H1 T0 (.lst [])) T0 [] []:=⟨Ae,U,λi a ks h=>by simp at h⟩;have fT:H T0=none:=s1.free S;generalize upd H1 T0 (.lst [])=H2 at s2 N2 ⊢;refine Cw U rfl ?_;have u2:=s1.trans s2;refine⟨_,U,_,_,U,U,⟨Ap,Ap⟩,_,U,_,_,U,U,⟨Ap,Ap⟩,_,_,U,U,Ap,_,_,U,U,z / 7,16,1+m2,(by rw[an];rfl),Ap,Ap,AA,λl2 bs H3 s3 b7 a0 ap _=>?_⟩;have u3:=u2.trans s3;have aw:l1≠T0:=Bf ae S;refine⟨_,U,⟨_,yW a0⟩,Ff (K:=K) (a:=l2) (xs:=vI (ofN bs)) (λi σ G=>∃(v3:Option V)(rs:NW)(ps:List (Nat->Bool)),σ=[some (.int z),some (.ref l1),some (.ref T0),v3,none,none,none,none]/\Aw H G/\G l1=some (.lst (vI (ofN th)))/\G l2=some (.lst (vI (ofN bs)))/\NL G T0 rs (ps.map λp=>ofN (S4 p))/\(∀r∈rs,r≠T0)/\ps.length=i) ⟨none,[],[],U,u3,(s2.trans s3) _ _ ae,a0,N2.same s3,λr h=>by simp at h,U⟩ (λi σ G _ ⟨_,_,_,_,_,_,h,_⟩=>yW h) ?_ ?_⟩
 ·rintro i xv σ G hx ⟨v3,rs,ps,rfl,sG,D,I,N,ab,hp⟩;obtain⟨b,hb,rfl⟩:=Ln hx;have az:=(zC.mp hb).1;have al:(ofN bs).length=bs.length:=AxR _;have am:l2≠T0:=λe=>by
   have:=N.h;rw[<-e,I]at this;injection this with this;injection this with this;have h0:(vI (ofN bs))[i]?=some (.int b):=JW hb;rw[this,AxZ]at h0;cases h:rs[i]? with
   |none=>rw[h]at h0;cases h0
   |some r=>rw[h]at h0;cases h0
  refine Cw U rfl ⟨_,U,.inl ⟨U,_,yW N.h⟩,_,U,Ap,Ap,Gr (lo:=0) (n:=4) (λj ys f=>Aw G f/\ys=vI (ofN ((List.range j).filter λs=>decide ((V.int (b / ([1,2,4,8].getD s 1)%2):V)=V.int 1)))) ⟨.refl _,U⟩ ?_ ?_ ?_ ?_⟩
  ·rintro j ys f hj ⟨J,rfl⟩;have:(ofN ((List.range j).filter λs=>decide ((V.int (b / ([1,2,4,8].getD s 1)%2):V)=V.int 1))).length<=j:=by
    unfold ofN;rw[AxR];exact Ayh (Azf _ _) (by rw[Ayw];exact AxU _)
   rw[Cp];exact this
  ·decide
  ·rintro j ys f hj ⟨J,rfl⟩;unfold Iz;have aq:atI [V.int 1,V.int 2,V.int 4,V.int 8] (0+(j:Int))=some (V.int ([1,2,4,8].getD j 1)):=by
    rw[Ay5];have h4:j=0\/j=1\/j=2\/j=3:=AA
    rcases h4 with rfl|rfl|rfl|rfl<;>exact Bw Ap U
   have pw:(0:Int)<[1,2,4,8].getD j 1/\[1,2,4,8].getD j (1:Int)<1073741824:=by
    have h4:j=0\/j=1\/j=2\/j=3:=AA
    rcases h4 with rfl|rfl|rfl|rfl<;>decide
   refine⟨_,U,(by show 4<=sizeLine;decide),λq nq=>⟨_,U,q,_,_,_,U,U,yW Ae,aq,_,_,U,U,pw,_,_,U,U,Ap,U,_,U,?_⟩⟩;have A:=J.new (o:=.lst [V.int 1,V.int 2,V.int 4,V.int 8]) nq;generalize upd f q (.lst [V.int 1,V.int 2,V.int 4,V.int 8])=G3 at A ⊢;refine CP (λc=>⟨_,U,CN.of hj ⟨A,?_⟩⟩) (λc=>CN.of hj ⟨A,?_⟩)
   ·rw[Ay8,AyD,Azd (by exact zN c),Az5,Ay5];unfold ofN vI;rw[AxV,AxV];rfl
   ·rw[Ay8,AyD,AzL (by rw[zJ c];decide),Az5,Ayr]
  ·rintro ys f q ⟨J,rfl⟩ nq;have hq:(upd f q (.lst (vI (ofN (S4 λs=>decide ((V.int (b / ([1,2,4,8].getD s 1)%2):V)=V.int 1)))))) q=some (.lst (vI (ofN (S4 λs=>decide ((V.int (b / ([1,2,4,8].getD s 1)%2):V)=V.int 1))))):=Ae;have A:=J.new (o:=.lst (vI (ofN (S4 λs=>decide ((V.int (b / ([1,2,4,8].getD s 1)%2):V)=V.int 1))))) nq;have qT:q≠T0:=λe=>by rw[e]at nq;have:=J _ _ N.h;rw[nq]at this;cases this
   show Aks (V.ref T0) [V.ref q] (upd f q (.lst (vI (ofN (S4 λs=>decide ((V.int (b / ([1,2,4,8].getD s 1)%2):V)=V.int 1)))))) _;generalize (λs=>decide ((V.int (b / ([1,2,4,8].getD s 1)%2):V)=V.int 1))=p at hq A ⊢;generalize upd f q (.lst (vI (ofN (S4 p))))=G3 at hq A ⊢;have N3:=N.same A;have rl:rs.length<=100:=by
    have e1:=N.l;rw[AxR]at e1;lia
   refine⟨_,_,_,U,U,N3.h,(by rw[AxR];lia),_,rs++[q],ps++[p],U,(sG.trans A).over fT,?_,?_,?_,λr hr=>?_,by rw[AxS,hp];rfl⟩
   ·rw[Ao aw];exact A _ _ D
   ·rw[Ao am];exact A _ _ I
   ·rw[AxV];exact Asf N3 hq ab qT
   ·rcases zG.mp hr with h|h
    ·exact ab r h
    ·rw[zF.mp h];exact qT
 rintro σ G ⟨v3,rs,ps,rfl,sG,D,I,N,ab,hp⟩;have pl:ps.length=1+m2:=by
  rw[hp,Cp];exact(AxR _).trans ap
 have Nl:=N.l;rw[AxR]at Nl;refine⟨_,U,_,_,U,U,⟨Ap,Ap⟩,_,U,_,_,U,.inl (yW N.h),_,U,_,_,U,U,⟨Ap,Ap⟩,_,_,U,U,Ap,_,_,U,U,z / 3,ps.length,1+m3,(by rw[av,AxR,Nl];rfl),AA,AA,AA,λl4 tr L J ba Z b6 ac=>Cw U rfl ?_⟩;have u4:=sG.trans J;have h1:=J _ _ D;have N4:=N.same J;clear D I N sG ae a0 s1 s2 s3 u2 u3 N2;refine⟨(by show 0<=sizeLine;decide),λC a6=>?_⟩;have A:Aw L (upd L C (.lst [])):=.upd a6;have hR:(upd L C (.lst [])) C=some (.lst (vS (wv (ofN th) (ps.map λp=>ofN (S4 p)) (ofN (tr.take 0))))):=Ae;generalize upd L C (.lst [])=H5 at A hR ⊢;refine Cw U rfl ?_;have al:(ofN tr).length=tr.length:=AxR _;have b5:(ofN th).length=th.length:=AxR _;refine⟨_,U,_,U,⟨_,yW (A _ _ Z)⟩,Ff (K:=K) (a:=l4) (xs:=vI (ofN tr)) (λi σ G=>∃(v6:Option V),σ=[some (.int z),some (.ref l1),some (.ref T0),v3,some (.ref l4),some (.ref C),v6,none]/\Aw L G/\G C=some (.lst (vS (wv (ofN th) (ps.map λp=>ofN (S4 p)) (ofN (tr.take i)))))) ⟨none,U,A,hR⟩ (λi σ G _ ⟨_,_,s,_⟩=>yW (s _ _ Z)) ?_ ?_⟩
 ·rintro i xv σ G hx ⟨v6,rfl,M,hG⟩;obtain⟨v,hv,rfl⟩:=Ln hx;have bd:=(zC.mp hv).1;unfold ofN at hv;rw[AxZ]at hv;obtain⟨d,R,rfl⟩:=zU.mp hv;have dp:=ac d (Ayb R);have dr:d<rs.length:=AA
  have ed:(ps.map λp=>ofN (S4 p))[d]?=some (ofN (S4 ps[d])):=by rw[AxZ,AxT dp];rfl
  have B:=(N4.same M).r d rs[d] _ (AxT dr) ed;refine Cw U rfl ⟨_,U,.inl ⟨U,_,yW hG⟩,U,_,U,_,U,⟨_,yW (M _ _ h1)⟩,CK (K:=K) (a:=l1) (xs:=vI (ofN th)) (λj ys f=>f=G/\ys=vS (((ofN th).take j).map λs=>[if s∈ofN (S4 ps[d]) then 35 else 46])) ⟨U,U⟩ ?_ ?_ ?_ ?_⟩
  ·rintro j ys f hj ⟨rfl,rfl⟩;refine⟨yW (M _ _ h1),?_⟩;rw[Bc,AxR,Ayc];exact AyB _ _
  ·rw[Cp];exact Cv AA
  ·rintro j xv ys f hj as ⟨rfl,rfl⟩;obtain⟨s,hs,rfl⟩:=Ln as;refine Iz.no ⟨_,U,_,U,_,U,T0,_,_,_,U,U,yW (N4.same M).h,Bw (by show(0:Int)<=(d:Int);lia) (by rw[AxZ];show Option.map _ (rs[(d:Int).toNat]?)=_;rw[Ayi,AxT dr];rfl),_,_,U,.inl (yW B),U,Akw _,.inr ⟨_,U,?_⟩⟩;show Avi _ (V.int (if (inV (.int s) (vI (ofN (S4 ps[d]))))=true then 1 else 0)) _ _;rw[Ajw];refine⟨_,_,_,U,U,(by rw[Ba];exact big Ap),ApS,?_⟩;rw[JT];refine CN.of hj ⟨U,?_⟩;rw[Dj,Aya,hs,AxV];rfl
  ·rintro ys f p ⟨rfl,rfl⟩ np;rw[Cp,Ayg];have e1:=AlI (λs:Int=>if s∈ofN (S4 ps[d]) then 35 else 46) (ofN th);have e2:=Ri (λs:Int=>if s∈ofN (S4 ps[d]) then 35 else 46) (ofN th);refine⟨_,_,(((ofN th).map λs=>[if s∈ofN (S4 ps[d]) then 35 else 46]).map tx),U,U,yW (by rw[Ae,Gj]),?_,?_⟩
   ·rw[e1,AxR,AxR,Ba];show _+_*0<=_;lia
   ·rw[GR,e2];have sp:Aw f (upd f p (.lst (vS ((ofN th).map λs=>[if s∈ofN (S4 ps[d]) then 35 else 46])))):=.upd np;generalize upd f p (.lst (vS ((ofN th).map λs=>[if s∈ofN (S4 ps[d]) then 35 else 46])))=G3 at sp ⊢;refine⟨_,_,_,U,U,sp _ _ hG,(by rw[Bc,Aj6];unfold ofN;rw[AxR,Ayc];lia),_,U,(M.trans sp).over a6,?_⟩;rw[Ae,Dj,Aya,R]
    congr 3
    unfold ofN wv;rw[AxV,AxV]
    congr 1
    show[_]=[shd _ ((ps.map λp=>ofN (S4 p)).getD ((d:Nat):Int).toNat [])];rw[Ayi,Ay2,ed];rfl
 rintro σ G ⟨v6,rfl,M,hG⟩;rw[Cp,al,Ayg]at hG;have t1:∀d∈th,d<100:=λd R=>by have:=ht d R;lia
 have t2:∀d∈tr,d<100:=λd R=>by have:=ac d R;lia
 have t3:∀(p:Nat->Bool),∀d∈S4 p,d<100:=λp d R=>by have:=AfC.1 d R;lia
 refine Aa2 (l:=l1) (ds:=th) (λk h=>⟨_,U,h⟩) (M _ _ h1) t1 AA λG1 g1=>?_;have v1:=M.trans g1;have ar:∀{y:Nn},G1 y=none->L y=none:=λh=>v1.free h;refine⟨(by show 1<=sizeLine;decide),λy W=>?_⟩;have fP:=ar W;have ah:=g1 _ _ hG;have RP:C≠y:=Bf ah W;have sP:Aw G1 (upd G1 y (.lst [V.str (tx (Dq th))])):=.upd W;have hP:(upd G1 y (.lst [V.str (tx (Dq th))])) y=some (.lst (vS [Dq th])):=Ae;generalize upd G1 y (.lst [V.str (tx (Dq th))])=f at sP hP ⊢;refine Cw U rfl ?_;have v2:Aw L f:=v1.trans sP;have ao:=sP _ _ ah;have rl:rs.length<=3:=AA
 refine⟨_,U,.inl ⟨U,_,yW hP⟩,U,_,U,_,U,⟨_,yW (N4.same v2).h⟩,CK (K:=K) (a:=T0) (xs:=rs.map V.ref) (λi ys G3=>Aw f G3/\ys=vS ((ps.take i).map λp=>Dq (S4 p))) ⟨.refl _,U⟩ ?_ ?_ ?_ ?_⟩
 ·rintro i ys G3 hi ⟨s7,rfl⟩;refine⟨yW (s7 _ _ (N4.same v2).h),?_⟩;rw[Bc,AxR,Ayc];exact AyB _ _
 ·rw[AxR];lia
 ·rintro i xv ys G3 hi hx ⟨s7,rfl⟩;rw[AxZ]at hx;obtain⟨r,ag,rfl⟩:=zU.mp hx;have b9:=(zC.mp ag).1;have af:i<ps.length:=AA
  have B:=((N4.same v2).same s7).r i r (ofN (S4 ps[i])) ag (by rw[AxZ,AxT af];rfl);refine Iz.no (Aa2 (l:=r) (ds:=S4 ps[i]) (λk h=>⟨_,U,h⟩) B (t3 _) (by have:=(AfC (p:=ps[i])).2;lia) λG4 g4=>CN.of hi ⟨s7.trans g4,?_⟩);rw[Dj,Aya,AxT af,AxV];rfl
 rintro ys G3 p ⟨s7,rfl⟩ np;rw[show(rs.map V.ref).length=ps.length by rw[AxR];lia,Ayg];obtain⟨G4,e9,s8,au⟩:=nu9 (o:=.lst (vS (ps.map λp=>Dq (S4 p)))) s7 np;rw[e9];have fl:=Ach (k:=12) (x:=ps.map λp=>Dq (S4 p)) (λu hu=>by
  obtain⟨p,_,rfl⟩:=yB.mp hu;have:=M6 (t3 p);have:=(AfC (p:=p)).2;lia)
 rw[AxR]at fl;refine⟨_,_,((ps.map λp=>Dq (S4 p)).map tx),U,U,yW (by rw[au,Gj]),(by rw[Iu,AxR,AxR,Ba];show _+_*2<=_;lia),?_⟩;rw[Q4];refine⟨_,_,_,U,U,s8 _ _ hP,(by rw[Bc];show 1<sizeLine;decide),?_⟩;have v5:Aw L (upd G4 y (.lst (vS [Dq th]++[V.str (tx (jnS [44,32] (ps.map λp=>Dq (S4 p))))]))):=(v2.trans s8).over fP;have aa:(upd G4 y (.lst (vS [Dq th]++[V.str (tx (jnS [44,32] (ps.map λp=>Dq (S4 p))))]))) y=some (.lst (vS [Dq th,jnS [44,32] (ps.map λp=>Dq (S4 p))])):=Ae;have aj:(upd G4 y (.lst (vS [Dq th]++[V.str (tx (jnS [44,32] (ps.map λp=>Dq (S4 p))))]))) C=_:=(Ao RP).trans (s8 _ _ ao);generalize upd G4 y (.lst (vS [Dq th]++[V.str (tx (jnS [44,32] (ps.map λp=>Dq (S4 p))))]))=G5 at v5 aa aj ⊢;refine⟨_,U,.inl ⟨U,_,yW aa⟩,Aa2 (l:=l4) (ds:=tr) (λk h=>⟨_,U,h⟩) (v5 _ _ Z) t2 AA λG6 g6=>⟨_,_,_,U,U,g6 _ _ aa,(by rw[Bc];show 2<sizeLine;decide),?_⟩⟩;have v7:Aw L (upd G6 y (.lst (vS [Dq th,jnS [44,32] (ps.map λp=>Dq (S4 p))]++[V.str (tx (Dq tr))]))):=(v5.trans g6).over fP;have ak:(upd G6 y (.lst (vS [Dq th,jnS [44,32] (ps.map λp=>Dq (S4 p))]++[V.str (tx (Dq tr))]))) y=some (.lst (vS [Dq th,jnS [44,32] (ps.map λp=>Dq (S4 p)),Dq tr])):=Ae;have Y:(upd G6 y (.lst (vS [Dq th,jnS [44,32] (ps.map λp=>Dq (S4 p))]++[V.str (tx (Dq tr))]))) C=_:=(Ao RP).trans (g6 _ _ aj);generalize upd G6 y (.lst (vS [Dq th,jnS [44,32] (ps.map λp=>Dq (S4 p))]++[V.str (tx (Dq tr))]))=G7 at v7 ak Y ⊢;have O:=Aw1 (th:=th) (tr:=tr) (ps:=ps) AA AA ht AA AA AA AA ac;have lO:=O.l;have n1:=M6 t1;have n2:=M6 t2;have lJ:(jnS [44,32] (ps.map λp=>Dq (S4 p))).length<=300:=by
  refine Ayh ?_ lO;simp[jnS];lia
 refine⟨U,_,U,_,_,[Dq th,jnS [44,32] (ps.map λp=>Dq (S4 p)),Dq tr].map tx,U,U,yW (by rw[ak,Gj]),?_,?_⟩
 ·rw[Iu,AxR,Ba];simp only [Ayv,List.flatten_nil,AxS,AxX,Ayu];lia
 ·rw[Q4];refine⟨_,U,AE,λp9 X=>?_⟩;have w7:=u4.trans v7;refine kQ p9 C _ _ _ (w7.new X) (w7.free X) (u4.free a6) Ae ?_ O;rw[Ao (Bf Y X)];exact Y
end
structure PL (H:Hp)(rs:NW)(ps:List (NV×Str)):Prop where
 l:rs.length=ps.length
 r:∀(i:Nat)(a:Nn)(p:NV×Str),rs[i]?=some a->ps[i]?=some p->H a=some (.tup [.str (tx p.1),.str p.2])
theorem PL.same(N:PL H rs ps)(s:Aw H H'):PL H' rs ps:=⟨N.l,λi a p h1 h2=>s _ _ (N.r i a p h1 h2)⟩
theorem PL.add{p:NV×Str}(N:PL H rs ps)(h:H a=some (.tup [.str (tx p.1),.str p.2])):PL H (rs++[a]) (ps++[p]):=by
 have d:=N.l;refine⟨AC,λi b q h1 h2=>?_⟩;by_cases c:i<rs.length
 ·rw[Ayo c]at h1;rw[Ayo (by exact Ar.b2 d c)]at h2;exact N.r i b q h1 h2
 ·rw[Aym (by exact Ar.a1 c)]at h1;rw[Aym Au,<-d]at h2;have e:i-rs.length=0:=by
   grind
  grind
section
variable {K:NO}{base:Heap}{t:Adr}
theorem Dp(N:PL G rs ps)(k:∀p G',Aw G G'->PL G' (rs++[p]) (ps++[(u,wd)])->Q (.ref p) G'):Aji Q [.str (tx u),.str wd] G:=
 ⟨AE,λp np=>k p _ (.upd np) ((N.same (.upd np)).add Ae)⟩
theorem fb2:Str.ofString " = mirror("=tx [32,61,32,109,105,114,114,111,114,40]:=At
theorem fb3:Str.ofString " = beside(rows(#),rows(#,.))"=tx [32,61,32,98,101,115,105,100,101,40,114,111,119,115,40,35,41,44,114,111,119,115,40,35,44,46,41,41]:=At
theorem fb4:Str.ofString " = twill(20,21)"=tx [32,61,32,116,119,105,108,108,40,50,48,44,50,49,41]:=At
theorem fb5:Str.ofString " : 0 1 / 0"=tx [32,58,32,48,32,49,32,47,32,48]:=At
theorem fb6:Str.ofString " : 0 1 / 0 / 0 1"=tx [32,58,32,48,32,49,32,47,32,48,32,47,32,48,32,49]:=At
theorem fb7:Str.ofString " : 0 01 / 0 / 0"=tx [32,58,32,48,32,48,49,32,47,32,48,32,47,32,48]:=At
theorem fb8:Str.ofString " : 0 / 0 / 9*(9*(9*(0)))"=tx [32,58,32,48,32,47,32,48,32,47,32,57,42,40,57,42,40,57,42,40,48,41,41,41]:=At
theorem fb9:Str.ofString " = "=tx [32,61,32]:=At
theorem Ax8:Str.ofString " :"=tx [32,58]:=At
theorem Ax9:Str.ofString " = back("=tx [32,61,32,98,97,99,107,40]:=At
theorem AxA:Str.ofString " : 0 1 / 0=0 / 0"=tx [32,58,32,48,32,49,32,47,32,48,61,48,32,47,32,48]:=At
theorem AxB:Str.ofString " : 0 = 0"=tx [32,58,32,48,32,61,32,48]:=At
theorem AxC:Str.ofString " = back(rows(#)) : 0"=tx [32,61,32,98,97,99,107,40,114,111,119,115,40,35,41,41,32,58,32,48]:=At
theorem fc1:Str.ofString " = no"=tx [32,61,32,110,111]:=At
theorem fc2:Str.ofString " : 0 / 0"=tx [32,58,32,48,32,47,32,48]:=At
theorem JR{new:NW}(d:G l=some (.lst (rs.map V.ref)))(N:PL G (rs++new) ps)(h:rs.length+new.length<=100)(k:∀c G',Aw G G'->G' c=some (.lst ((rs++new).map V.ref))->PL G' (rs++new) ps->Q (.ref c) G'):Anm (λy H1=>Avp (.ref l) y H1 Q) (new.map V.ref) G:=by have hsz:=z7;refine⟨AD,λb e=>⟨_,_,_,_,U,U,(by rw[Ao (Bf d e)];exact d),Ae,AD,λc a=>?_⟩⟩;have f:Aw G (upd G b (.lst (new.map V.ref))):=.upd e;exact k c _ (f.new a) (by rw[Ae,AxV]) (N.same (f.new a))
theorem Aly(N:PL G rs ps)(e:0<rs.length)(z:Int):∃(a:Nn)(p:NV×Str),atI (rs.map V.ref) (z%((rs.map V.ref).length:Int))=some (.ref a)/\p∈ps/\G a=some (.tup [.str (tx p.1),.str p.2]):=by
 have b:=AyQ z (show((rs.map V.ref).length:Int)≠0 by grind);have m2:=AyT z (show(0:Int)<((rs.map V.ref).length:Int) by simp_all);rw[AxR]at b m2 ⊢;have d:=N.l;have hi:(z%(rs.length:Int)).toNat<rs.length:=AA
 have c:(z%(rs.length:Int)).toNat<ps.length:=by exact Ar.b2 d hi
 exact⟨_,_,Bw b (by rw[AxZ,AxT hi];rfl),Ayp c,N.r _ _ _ (AxT hi) (AxT c)⟩
inductive AmR (vs:LI)(H:Hp)(Q:VK)(z3:XK):Prop
|mk(z:Int)(nm:NV)(af:NV)(kp:Nn)(kn:Kns)(_:vs=[.int z,.str (tx nm),.str (tx af),.ref kp])(_:Kn H kp kn)(_:kn.length<=100)(_:Kno kn)(_:Nm nm)(_:Nm af)(_:(∀q∈kn,¬q.1=nm))(_:(∀q∈kn,¬q.1=af))(_:∀p u wd H',Aw H H'->H' p=some (.tup [.str (tx u),.str wd])->Flt kn u wd->Q (.ref p) H')
theorem Ahq(T:Txt K mg t):Bm P w K mg base CX0 1 t.Abs t.Abt ["cell","name","after","made"] AmR:=by
 refine T.Vo.F.ok Ec ?_;rintro _ _ _ _ H _ Q E hr ⟨z,nm,Z,kp,kn,rfl,hK,hl,KN,N,M,hz,ha,kQ⟩;refine⟨_,(Ac (Bd (i:=4) Ec.nd U NN (Cm (Aa (CT (Aa Af (Aa Af Ab))) (Aa (CT (Aa Af (Aa Af Ab))) (Aa (CT (Aa Af (Aa Af Ab))) Ab)))))
  (Ac (Bd (i:=4) Ec.nd U NN (Ak Lk (pv 4) (Cm (Aa (CT (Aa Af (Aa Af Ab))) (Aa (CT (Aa (Ak Am (Ak Am (Ak Am (pv 1) Af) (pv 2)) Af) (Aa Af Ab))) Ab)))))
  (Ac (Bd (i:=4) Ec.nd U NN (Ak Lk (pv 4) (Cm (Aa (CT (Aa (Ak Am (pv 1) Af) (Aa Af Ab))) (Aa (CT (Aa (Ak Am (pv 1) Af) (Aa Af Ab))) Ab)))))
  (Ac (Bd (i:=4) Ec.nd U NN (Ak Lk (pv 4) (Cm (Aa (CT (Aa (Ak Am (pv 1) Af) (Aa Af Ab))) (Aa (CT (Aa (Ak Am (pv 1) Af) (Aa Af Ab))) Ab)))))
  (Ac (Bd (i:=4) Ec.nd U NN (Ak Lk (pv 4) (Cm (Aa (CT (Aa (Ak Am (pv 1) Af) (Aa Af Ab))) (Aa (CT (Aa (Ak Am (pv 1) Af) (Aa Af Ab))) Ab)))))
  (Ac (Bd (i:=4) Ec.nd U NN (Ak Lk (pv 4) (Cm (Aa (CT (Aa (Ak Am (pv 1) Af) (Aa Af Ab))) (Aa (CT (Aa (Ak Am (pv 1) Af) (Aa Af Ab))) (Aa (CT (Aa (Ak Am (Ak Am (Ak Am (pv 1) Af) (pv 1)) Af) (Aa Af Ab))) Ab))))))
  (Ac (Bd (i:=4) Ec.nd U NN (Ak Lk (pv 4) (Cm (Aa (CT (Aa (Ak Am (pv 1) Af) (Aa Af Ab))) (Aa (CT (Aa (Ak Am (pv 1) Af) (Aa Af Ab))) Ab)))))
  (Ac (Bd (i:=4) Ec.nd U NN (Ak Lk (pv 4) (Cm (Aa (CT (Aa (Ak Am (pv 1) Af) (Aa Af Ab))) Ab))))
  (Ac (Bl (Ai HD (Bb (Ax (K:=K)) U T.Cd Bv (Aa (pv 3) Ab)) Ah (Av _))
   (Ad (Bd (i:=4) Ec.nd U NN (Ak Lk (pv 4) (Cm (Aa (CT (Aa (Ak Am (Bq (Ep (K:=K)) (Bq (Be (K:=K)) (pv 3) (Ak Dd (Ak Eo (pv 0) Ah) (Bb (Ax (K:=K)) U T.Cd Bv (Aa (pv 3) Ab))) (λ_ _=>rfl)) Ah (λ_ _=>rfl)) Af) (Aa Af Ab))) (Aa (CT (Aa (Ak Am (Bq (Ep (K:=K)) (Bq (Be (K:=K)) (pv 3) Ah (λ_ _=>rfl)) Ah (λ_ _=>rfl)) Af) (Aa Af Ab))) Ab))))))
   Aq)
  (Ad (Az (Bq (Be (K:=K)) (pv 4) (Ak Dd (pv 0) (Bb (Ax (K:=K)) U T.Cd Bv (Aa (pv 4) Ab))) (λ_ _=>rfl))))))))))))),?_⟩;have b:=N.l;have bf:=M.l;rw[w_e,fb2,fb3,fb4,fb5,fb6,fb7,fb8,fb9,Ax8,Ax9,AxA,AxB,AxC,fc1,fc2];refine Dp (rs:=[]) (ps:=[]) ⟨U,λi a p h=>by simp at h⟩ λp1 G1 s1 N1=>Dp N1 λp2 G2 s2 N2=>Dp N2 λf G3 s3 N3=>?_;have S3:=(s1.trans s2).trans s3;refine⟨(by show 3<=sizeLine;decide),λl nl=>?_⟩;have N4:=N3.same (Aw.upd (o:=.lst [.ref p1,.ref p2,.ref f]) nl);have S4:=S3.new (o:=.lst [.ref p1,.ref p2,.ref f]) nl;have bd:(upd G3 l (.lst [.ref p1,.ref p2,.ref f])) l=some (.lst ([p1,p2,f].map V.ref)):=Ae;refine Cw (σ':=[some (.int z),some (.str (tx nm)),some (.str (tx Z)),some (.ref kp),some (.ref l)]) U rfl ?_;clear N1 N2 N3 s1 s2 s3 S3 nl;refine⟨_,U,Dp N4 λB g4 s4 n4=>⟨_,U,_,_,U,U,ln9 (by rw[b];exact Ayk U),?_⟩⟩;rw[Bt];refine⟨_,U,_,_,U,U,ln9 AC,?_⟩;rw[Bt];refine⟨_,_,U,U,ln9 AC,?_⟩;rw[Bt];rw[show nm++[32,61,32,109,105,114,114,111,114,40]++Z++[41]=nm++(32::61::32::(miW++(40::(Z++[41])))) by simp[miW]];refine Dp n4 λI g5 s5 n5=>JR (new:=[B,I]) ((s4.trans s5) _ _ bd) n5 (Ayk U) λl0 H0 t0 az bc=>?_;have T0:=(S4.trans (s4.trans s5)).trans t0;refine⟨_,U,_,U,_,_,U,U,ln9 (by rw[b];exact Ayk U),?_⟩;rw[Bt];refine Dp bc λY g6 s6 n6=>⟨_,U,_,_,U,U,ln9 (by rw[b];exact Ayk U),?_⟩;rw[Bt];refine Dp n6 λJ g7 s7 n7=>JR (rs:=[p1,p2,f,B,I]) (new:=[Y,J]) ((s6.trans s7) _ _ az) n7 (Ayk U) λl1 H1 t1 G ak=>?_;have T1:=(T0.trans (s6.trans s7)).trans t1;refine⟨_,U,_,U,_,_,U,U,ln9 (by rw[b];exact Ayk U),?_⟩;rw[Bt];refine Dp ak λp8 g8 C n8=>⟨_,U,_,_,U,U,ln9 (by rw[b];exact Ayk U),?_⟩;rw[Bt];refine Dp n8 λp9 g9 s9 n9=>JR (rs:=[p1,p2,f,B,I,Y,J]) (new:=[p8,p9]) ((C.trans s9) _ _ G) n9 (Ayk U) λl2 H2 t2 D ax=>?_;have T2:=(T1.trans (C.trans s9)).trans t2;refine Cw (σ':=[some (.int z),some (.str (tx nm)),some (.str (tx Z)),some (.ref kp),some (.ref l2)]) U rfl ?_;clear T1 G ak C s9 n8 n9 t2;refine⟨_,U,_,U,_,_,U,U,ln9 (by rw[b];exact Ayk U),?_⟩;rw[Bt];refine Dp ax λm bm aa ah=>⟨_,U,_,_,U,U,ln9 (by rw[b];exact Ayk U),?_⟩;rw[Bt];refine Dp ah λj bn a6 ay=>JR (rs:=[p1,p2,f,B,I,Y,J,p8,p9]) (new:=[m,j]) ((aa.trans a6) _ _ D) ay (Ayk U) λl3 H3 t3 ab aq=>?_;have T3:=(T2.trans (aa.trans a6)).trans t3;clear T2 D ax aa a6 ah ay t3;refine⟨_,U,_,U,_,_,U,U,ln9 (by rw[b];exact Ayk U),?_⟩;rw[Bt];refine Dp aq λq bo O ap=>⟨_,U,_,_,U,U,ln9 (by rw[b];exact Ayk U),?_⟩;rw[Bt];refine Dp ap λy bh a0 ae=>⟨_,U,_,_,U,U,ln9 (by rw[b];exact Ayk U),?_⟩;rw[Bt];refine⟨_,U,_,_,U,U,ln9 (by simp only [AxS,AxX,Ayu];lia),?_⟩;rw[Bt];refine⟨_,_,U,U,ln9 (by simp only [AxS,AxX,Ayu];lia),?_⟩;rw[Bt];rw[show nm++[32,61,32,98,97,99,107,40]++nm++[41]=nm++(32::61::32::(baW++(40::(nm++[41])))) by simp[baW]];refine Dp ae λr bj R ac=>JR (rs:=[p1,p2,f,B,I,Y,J,p8,p9,m,j]) (new:=[q,y,r]) (((O.trans a0).trans R) _ _ ab) ac (Ayk U) λl4 H4 t4 al aw=>?_;have T4:=(T3.trans ((O.trans a0).trans R)).trans t4;clear T3 ab aq O a0 R ap ae ac t4;refine⟨_,U,_,U,_,_,U,U,ln9 (by rw[b];exact Ayk U),?_⟩;rw[Bt];refine Dp aw λx bi S ag=>⟨_,U,_,_,U,U,ln9 (by rw[b];exact Ayk U),?_⟩;rw[Bt];refine Dp ag λv be X aj=>JR (new:=[x,v]) ((S.trans X) _ _ al) aj (Ayk U) λl5 H5 t5 b0 bb=>?_;have T5:=(T4.trans (S.trans X)).trans t5;refine Cw (σ':=[some (.int z),some (.str (tx nm)),some (.str (tx Z)),some (.ref kp),some (.ref l5)]) U rfl ?_;clear T4 al aw S X ag aj t5;refine⟨_,U,_,U,_,_,U,U,ln9 (by rw[b];exact Ayk U),?_⟩;rw[Bt];refine Dp bb λW bg am b4=>JR (am _ _ b0) b4 (Ayk U) λl6 H6 t6 ao b7=>?_;have T6:=(T5.trans am).trans t6;have N7:PL H6 [p1,p2,f,B,I,Y,J,p8,p9,m,j,q,y,r,x,v,W] (fA++fB nm Z):=b7;have A:H6 l6=some (.lst ([p1,p2,f,B,I,Y,J,p8,p9,m,j,q,y,r,x,v,W].map V.ref)):=ao;have F7:∀p∈fA++fB nm Z,Flt kn p.1 p.2:=λp d=>by
  rcases zG.mp d with h|h
  ·exact Awu p h
  ·exact Awv N M hz ha p h
 obtain⟨as,u,s,an⟩:=hK.same T6;refine⟨_,U,_,_,U,.inl (yW u),_,_,U,U,_,U,?_⟩;generalize b9:[p1,p2,f,B,I,Y,J,p8,p9,m,j,q,y,r,x,v,W]=rs at N7 A;have L:rs.length=17:=by rw[<-b9];rfl
 refine CP (λc=>?_) (λc=>?_)
 ·rw[AxR,s]at c;have n0:0<kn.length:=by exact Ar.f6 c
  obtain⟨i,hi,ei⟩:∃i:Nat,i<kn.length/\z / 16%((as.map V.ref).length:Int)=(i:Int):=⟨(z / 16%(kn.length:Int)).toNat,by have:= AyT (z / 16) (by exact Ar.f5 (Ar.f6 c));grind,by rw[AxR,s,Azo (AyQ _ Au)]⟩;have av:i<as.length:=by exact Ar.b3 s hi
  have au:0<as.length:=by exact Ar.b3 s (Ar.f6 c)
  obtain⟨q1,a1,_⟩:=an i as[i] kn[i] (AxT av) (AxT hi);obtain⟨q2,a2,_⟩:=an 0 as[0] kn[0] (AxT au) (AxT n0);have m1:=Ayp hi;have m2:=Ayp n0;have t1:atI (as.map V.ref) (i:Int)=some (V.ref as[i]):=Bw (by exact Ar.a9) (by rw[Ayi,AxZ,AxT av];rfl);have t2:atI (as.map V.ref) 0=some (V.ref as[0]):=Bw Ap (by rw[AxZ];show Option.map _ as[0]?=_;rw[AxT au];rfl);generalize as[i]=g1 at a1 t1;generalize as[0]=g2 at a2 t2;generalize kn[i]=k1 at a1 m1;generalize kn[0]=k2 at a2 m2;have FC:=Aww KN m1 m2;have z1:=(KN.n _ m1).2;have z2:=(KN.n _ m2).2;have lp:(0:Int)<((as.map V.ref).length:Int):=AD
  refine⟨_,U,_,U,_,U,_,_,U,U,⟨Ap,Ap⟩,_,U,_,_,U,.inl (yW u),_,_,U,U,lp,kp,_,_,_,U,U,yW u,(by rw[ei];exact t1),g1,_,_,_,U,U,SqT.of a1,Bw Ap U,_,_,U,U,ln9 (by rw[z1];exact Ayk U),?_⟩;rw[Bt];refine Dp N7 λb5 G8 C N8=>⟨_,U,kp,_,_,_,U,U,yW (C _ _ u),t2,g2,_,_,_,U,U,SqT.of (C _ _ a2),Bw Ap U,_,_,U,U,ln9 (by rw[z2];exact Ayk U),?_⟩;rw[Bt];refine Dp N8 λba G9 s9 N9=>JR (new:=[b5,ba]) ((C.trans s9) _ _ A) (by rw[Ay0]at N9;exact N9) (by rw[L];exact Ayk U) λl8 H8 t8 ar b6=>?_;have T8:=(T6.trans (C.trans s9)).trans t8;obtain⟨a,p,e,d,h⟩:=Aly b6 AD z;refine⟨_,U,_,U,_,U,_,_,U,.inl (yW ar),_,_,U,U,(by rw[AxR,AxS,L];show(0:Int)<((17+2:Nat):Int);decide),l8,_,_,_,U,U,yW ar,e,kQ _ _ _ _ T8 h ?_⟩;rcases zG.mp d with d|d
  ·rcases zG.mp d with d|d
   ·exact F7 p d
   ·rw[zF.mp d];exact FC.1
  ·rw[zF.mp d];exact FC.2
 ·obtain⟨a,p,e,d,h⟩:=Aly N7 (by exact Ar.l7 L) z;exact⟨_,U,_,U,_,U,_,_,U,.inl (yW A),_,_,U,U,AC,l6,_,_,_,U,U,yW A,e,kQ _ _ _ _ T6 h (F7 p d)⟩
end
structure Wv (w i:Nat)(ls:NI)(kn:Kns)(due:Str):Prop where
 k:Kno kn
 f:∀p∈kn,∃j,j<i/\p.1=nmT w j
 l:ls.length=i
 c:kn.length<=i
 g:due="" -> ∀rest o,BkO kn rest o->BkO [] (ls++rest) o
 d:due≠"" -> ∀rest,BkO [] (ls++rest) (.no due)
theorem ApU{rest:NI}:ls++[b]++rest=ls++b::rest:=AB
theorem Wv.skip{w:Nat}{kn:Kns}(W:Wv w i ls kn due)(h:trim b=[]\/(trim b).head?=some 59):Wv w (i+1) (ls++[b]) kn due:=by
 refine⟨W.k,λp a=>?_,by rw[AxS,W.l];rfl,Nat.le_succ_of_le W.c,λe rest o B=>?_,λe rest=>?_⟩
 ·obtain⟨j,m,e⟩:=W.f p a;exact⟨j,AA,e⟩
 ·rw[ApU];exact W.g e _ _ (.skip h B)
 ·rw[ApU];exact W.d e _
theorem Wv.fresh{w:Nat}{kn:Kns}(W:Wv w i ls kn due)(hw:w<3)(hi:i<=j)(a:j<61):∀q∈kn,¬q.1=nmT w j:=λq c e=>by
 obtain⟨d,h1,b⟩:=W.f q c;have:= Aur hw AA a (b.symm.trans e);lia
theorem ApV{w k:Nat}(hw:w<3)(hk:k<61):Nm (nmT w k):=⟨Alo hw hk,ApG⟩
theorem Wv.line{w:Nat}{kn:Kns}(W:Wv w i ls kn due)(hw:w<3)(hi:i<61)(h1:trim b≠[])(h2:¬(trim b).head?=some 59)(L:LnO kn (trim b) (nmT w i) (.ok x))(C:Clo x):Wv w (i+1) (ls++[b]) (kn++[(nmT w i,x)]) due:=by
 refine⟨W.k.add ⟨Alo hw hi,ApG⟩ (W.fresh hw (AxU _) hi) C,λp a=>?_,by rw[AxS,W.l];rfl,(by rw[AxS];exact Nat.succ_le_succ W.c),λe rest o B=>?_,λe rest=>?_⟩
 ·rcases zG.mp a with h|h
  ·obtain⟨j,m,e⟩:=W.f p h;exact⟨j,AA,e⟩
  ·rw[zF.mp h];exact⟨i,AA,U⟩
 ·rw[ApU];exact W.g e _ _ (.line h1 h2 L C B)
 ·rw[ApU];exact W.d e _
theorem Wv.fault{w:Nat}{kn:Kns}(W:Wv w i ls kn due)(F:Flt kn u wd)(e:trim b=trim u):Wv w (i+1) (ls++[b]) kn (if due="" then wd else due):=by
 refine⟨W.k,λp a=>?_,by rw[AxS,W.l];rfl,Nat.le_succ_of_le W.c,λe rest o B=>?_,λn rest=>?_⟩
 ·obtain⟨j,m,e⟩:=W.f p a;exact⟨j,AA,e⟩
 ·by_cases c:due=""
  ·rw[yF c]at e;exact yG e F.w
  ·rw[yE c]at e;exact yG e c
 ·rw[ApU];by_cases c:due=""
  ·rw[yF c];obtain⟨z,h⟩:=F.e;exact W.g c _ _ (.stop (by rw[e];exact F.ne) (by rw[e];exact F.sc.1) (by rw[e];exact h))
  ·rw[yE c];exact W.d c _
theorem ApW{g k:Nat}(a:g<=2)(hk:k<=2)(h:10∉u/\u.length<=900):10∉bl g++(u++bl k)/\(bl g++(u++bl k)).length<=950:=by
 refine⟨λe=>?_,?_⟩
 ·rcases zG.mp e with e|e
  ·have:= Od e;lia
  ·rcases zG.mp e with e|e
   ·exact h.1 e
   ·have:= Od e;lia
 ·unfold bl;grind
structure Md (G:Hp)(F:NW)(M:Nn)(kn:Kns)(as qs:NW):Prop where
 h:G M=some (.lst (as.map V.ref))
 la:as.length=kn.length
 lq:qs.length=kn.length
 e:∀(i:Nat)(a q:Nn)(p:NV×NI),as[i]?=some a->qs[i]?=some q->kn[i]?=some p->G a=some (.tup [.str (tx p.1),.ref q])/\G q=some (.lst (vS p.2))/\a∉F/\q∉F
theorem Md.kn{G:Hp}{F:NW}{M:Nn}{kn:Kns}{as qs:NW}(D:Md G F M kn as qs):Kn G M kn:=⟨as,D.h,D.la,λi a p h1 h2=>by
 have hi:i<qs.length:=by
  have:= (zC.mp h2).1;rw[D.lq];exact this
 have:= D.e i a qs[i] p h1 (AxT hi) h2;exact⟨_,this.1,this.2.1⟩⟩
theorem Md.same{F:NW}{kn:Kns}(D:Md G F M kn as qs)(s:Aw G G'):Md G' F M kn as qs:=⟨s _ _ D.h,D.la,D.lq,λi a q p h1 h2 h3=>by
 have:= D.e i a q p h1 h2 h3;exact⟨s _ _ this.1,s _ _ this.2.1,this.2.2⟩⟩
theorem ne_in{b:Nn}{F:NW}(h:a∉F)(g:b∈F):a≠b:=λe=>h (e▸g)
theorem Md.upd{G:Hp}{F:NW}{L M:Nn}{kn:Kns}{as qs:NW}{o:HO}(D:Md G F M kn as qs)(b:L∈F)(n:M≠L):Md (upd G L o) F M kn as qs:=⟨by rw[Ao n];exact D.h,D.la,D.lq,λi a q p h1 h2 h3=>by
 have:= D.e i a q p h1 h2 h3;exact⟨by rw[Ao (ne_in this.2.2.1 b)];exact this.1,by rw[Ao (ne_in this.2.2.2 b)];exact this.2.1,this.2.2⟩⟩
theorem Md.push{F:NW}{kn:Kns}{p:NV×NI}(D:Md G F M kn as qs)(d:M∈F)(h1:G a=some (.tup [.str (tx p.1),.ref q]))(h2:G q=some (.lst (vS p.2)))(n1:a∉F)(n2:q∉F):Md (L2.upd G M (.lst (as.map V.ref++[.ref a]))) F M (kn++[p]) (as++[a]) (qs++[q]):=by
 have j:=D.la;have h:=D.lq;refine⟨by rw[Ae,AxV];rfl,by rw[AxS,AxS,j];rfl,by rw[AxS,AxS,h];rfl,λi b r v g1 g2 g3=>?_⟩;by_cases c:i<kn.length
 ·rw[Ayo AA]at g1 g2 g3;have:= D.e i b r v g1 g2 g3;exact⟨by rw[Ao (ne_in this.2.2.1 d)];exact this.1,by rw[Ao (ne_in this.2.2.2 d)];exact this.2.1,this.2.2⟩
 ·rw[Aym AA]at g1 g2 g3;have f:i-kn.length=0:=by
   grind
  rw[j,f]at g1;rw[h,f]at g2;rw[f]at g3;cases g1;cases g2;cases g3;exact⟨by rw[Ao (ne_in n1 d)];exact h1,by rw[Ao (ne_in n2 d)];exact h2,n1,n2⟩
theorem ApX(N:Nm z)(h:10∉v):(z++v≠[]/\¬(z++v).head?=some 59/\¬(z++v).head?=some 63)/\10∉z++v:=by
 have f:=Q3 N (v:=[]) ⟨AB,AB⟩;rw[Ayr]at f;have L:=N.let
 have b:(z++v).head?=z.head?:=by
  cases z with
  |nil=>exact yG U L.1
  |cons a z=>rfl
 refine⟨⟨λe=>L.1 (List.append_eq_nil_iff.mp e).1,by rw[b];exact f.1.2⟩,λe=>?_⟩;rcases zG.mp e with e|e
 ·exact f.2.1 e
 ·exact h e
theorem Ahr(c:Nat):∀ls:NI,jnS [c] ls=jn c ls
 |[]=>rfl
 |[w]=>rfl
 |w::v::r=>by
  show w++([c]++jnS [c] (v::r))=w++c::jn c (v::r);rw[Ahr c (v::r)];rfl
theorem ApY{k:Nat}:∀{x:NI},(∀r∈x,r.length<=k)->(x.map λu=>u.length+1).sum<=(k+1)*x.length
 |[],_=>Ayf _
 |r::x,h=>by
  have:= ApY λy a=>h y (AxY _ a);have:= h r AxW;rw[Ayd,Ay6,AxX];lia
theorem ApZ:∀{u:NV},(u.dropWhile λc=>decide (c=32)).head?≠some 32
 |[]=>AB
 |a::u=>by
  rw[AzB];split
  ·exact ApZ
  ·simp_all
theorem Z7(u:NV):En (trim u):=by
 unfold trim;refine⟨λe=>?_,by rw[List.getLast?_reverse];exact ApZ⟩;generalize a:(u.dropWhile λc=>decide (c=32))=v at e;have h:=a▸ApZ;rw[AzM]at e;have s:=Azn (λc=>decide (c=32)) (l:=v.reverse);obtain⟨x,b⟩:=s;refine h ?_;have:v=(v.reverse.dropWhile λc=>decide (c=32)).reverse++x.reverse:=by rw[<-AzD,b,AzE]
 rw[this,List.head?_append,AzM,e];rfl
def isQ (l:NV):Bool:=decide (l.head?=some 63)
def clW:NV:=[99,108,111,116,104]
def qln (z:NV):NV:=63::32::(clW++(32::z))
structure Pv (i:Nat)(al ls zs:NI):Prop where
 b:((al.map trim).filter λl=>!isQ l)=ls
 q:(al.map trim).filter isQ=zs.map qln
 n:∀b∈al,10∉b/\b.length<=950
 l:al.length<=2*i
 z:zs.length<=i
theorem AiV(h:∀b∈ls,10∉b/\b.length<=950)(a:10∉b/\b.length<=950):∀x∈ls++[b],10∉x/\x.length<=950:=λx c=>by
 rcases zG.mp c with h1|h1
 ·exact h x h1
 ·rw[zF.mp h1];exact a
theorem Pv.book(V:Pv i al ls zs)(h:isQ (trim b)=false)(a:10∉b/\b.length<=950):((al++[b]).map trim).filter (λl=>!isQ l)=ls++[trim b]/\((al++[b]).map trim).filter isQ=zs.map qln/\∀x∈al++[b],10∉x/\x.length<=950:=by
 refine⟨?_,?_,AiV V.n a⟩
 ·rw[AxV,AyD,V.b];simp[h]
 ·rw[AxV,AyD,V.q];simp[h]
theorem Auz(N:Nm z):En (qln z):=by
 have:= En.app (u:=[63]) (x:=32::(clW++[32])) ⟨Ap,Ap⟩ N.en Ap N.let.1
 exact this
theorem AfD{G:Prop}(C:St->Hp->Prop)(a:(∀σ H,C σ H->R σ H)->G)(rest:∀σ H,C σ H->R σ H):G:=a rest
section
variable {K:NO}{base:Heap}{t:Adr}
theorem Aqa:(Str.ofString "?")=tx [63]:=At
theorem AxF(u:NV):Tr u (some 1) none=u.tail:=by
 cases u with
 |nil=>decide +kernel
 |cons a u=>exact AfA AB
inductive Au0 (vs:LI)(H:Hp)(Q:VK)(z3:XK):Prop
|mk(u:NV)(_:vs=[.str (tx u)])(_:u.length<=1000000)(_:∀q H',Aw H H'->H' q=some (.lst (vS (AdM u)))->Q (.ref q) H')
theorem AiW(T:Txt K mg t):Bm P w K mg base CX0 1 t.Adb t.Adc ["text"] Au0:=by
 refine T.words_of.F.ok Ait ?_;rintro _ _ _ _ H _ Q E p ⟨u,rfl,m,k⟩;refine⟨_,(Ad (Az (CV (CJ.mk (Bp:=[]) (Nc:=["word"]) U At At (Cg (sc0:=Ag WT) U At) U rfl U At (λ_ _ h=>by simp at h)) U (BJ (K:=K) (Bx zI zY z6 AcA (pv 0) (Aa Af Ab))) (λ_ _ _ _ _=>.one (Ai Lh (pv 0) Af (Av _))) (λ_ _ _ _ _=>(pv 0))))),?_⟩;have hsz:=z7;refine⟨_,U,U,u,32,Hv 32 u,U,U,Ap,AA,Ahi _ _,Ahj _ _,Alk _ _,λl j=>?_⟩;obtain⟨H1,e9,b,h1⟩:=nu9 (o:=.lst (vS (Hv 32 u))) (.refl _) j;rw[e9];have pl:(Hv 32 u).length<=u.length+1:=by have:= Ap5 32 u;lia
 refine⟨_,U,⟨_,yW h1⟩,CK (xs:=vS (Hv 32 u)) (λi ys H2=>H2=H1/\ys=vS (((Hv 32 u).take i).filter λw=>decide (¬w=[]))) ⟨U,U⟩ ?_ ?_ ?_ ?_⟩
 ·rintro i ys H2 hi ⟨rfl,rfl⟩;refine⟨yW h1,?_⟩;rw[Bc];exact Ayh (Azf _ _) (by rw[Ayc];exact AyB _ _)
 ·rw[Bc];lia
 ·rintro i n ys H2 hi f ⟨rfl,rfl⟩;obtain⟨x,a,rfl⟩:=Fw f;have e:(Hv 32 u).take (i+1)=(Hv 32 u).take i++[x]:=by rw[Aya,a];rfl
  refine⟨_,U,U,_,U,?_⟩;by_cases c:x=[]
  ·subst c;exact Vz U (CN.of hi ⟨U,AC⟩)
  ·refine Akh (SM c) ⟨_,U,CN.of hi ⟨U,?_⟩⟩;rw[e,AyD,Azd (by simpa using c),Dj];rfl
 ·rintro ys H2 q ⟨rfl,rfl⟩ d;rw[Bc,Ayg];exact k q _ (b.new d) Ae
inductive Au1 (vs:LI)(H:Hp)(Q:VK)(z3:XK):Prop
|mk(_:vs=[.bl true])(_:Q .non H)
theorem UJ(T:Txt K mg t):Bm P w K mg base (CX1 P w) 1 t.Mp t.Mq ["fits"] Au1:=by
 refine T.Hd.F.okX Vs ?_;rintro _ _ _ _ H _ Q E a ⟨rfl,k⟩;exact⟨_,(Ad (Bl (Hr (ZL (K:=K) (pv 0) (λ_=>rfl)))
   (Ad (DR T.BW U T.BX (Aa Af Ab)))
   Aq)),_,U,_,U,GQ k⟩
inductive Au2 (vs:LI)(H:Hp)(Q:VK)(z3:XK):Prop
|mk(u:NV)(_:vs=[.str (tx u)])(_:u.length<=1000000)(_:Pat.isName u=true)(_:∀H',Aw H H'->Q .non H')
theorem AdQ(T:Txt K mg t):Bm P w K mg base (CX1 P w) 2 t.YJ t.YK ["word"] Au2:=by
 refine T.QT.F.okX Aef ?_;rintro _ _ _ _ H _ Q E a ⟨u,rfl,c,e,k⟩;refine⟨_,(Ad (Bl (Hr (Fb (Aj ((Xf T).mono Ap) a U T.J2.m T.J2.F.kp T.J2.b .nil Ay (Aa (pv 0) Ab))))
   (Ad (DR T.BW U T.BX (Aa Af Ab)))
   Aq)),?_⟩;refine⟨_,U,u,U,c,λH' s'=>⟨_,U,?_⟩⟩;rw[e];exact GQ (k _ s')
def An (H:Hp)(a l:Nn):Res->Prop
 | .ok x=>H a=some (.tup [.str "cloth",.ref l])/\H l=some (.lst (vS x))
 | .no _=>H a=some (.tup [.str "refused",.str "Unknown"])
inductive Au3 (t:Adr)(vs:LI)(H:Hp)(Q:VK)(E:XK):Prop
|mk(lt:Nn)(bk:Nn)(z:NV)(kn:Kns)(_:vs=[.str (tx clW),.ref lt,.ref bk])(_:H lt=some (.lst (vS [z])))(_:Kn H bk kn)(_:z.length<=1000000)(_:Pat.isName z=true)(_:(∀x,known kn z=.ok x->∀a l H',Aw H H'->H l=none->H' a=some (.tup [.str "cloth",.ref l])->H' l=some (.lst (vS x))->Q (.ref a) H'))(_:(known kn z=.no .unk->∀H',Aw H H'->E (.ref t.CQ) none H'))
theorem AeH(T:Txt K mg t):Bm P w K mg base (CX1 P w) 3 t.Abm t.Abn ["word","things","book"] (Au3 t):=by
 refine T.Vm.F.okX Yi ?_;rintro _ _ _ _ H _ Q E h ⟨lt,bk,z,kn,rfl,c,r,zl,nm,p,u⟩;have n:atI (vS [z]) 0=some (V.str (tx z)):=rfl;refine⟨_,(Ac (Bj (Aj ((UJ T).mono Ap) h U T.Hd.m T.Hd.F.kp T.Hd.b .nil Cq (Aa (Jv Cj (Bb (Ax) U T.Cd Bv (Aa (pv 1) Ab)) Ah (Av _)) Ab)))
  (Ac (Bj (Aj ((AdQ T).mono Ap) h U T.QT.m T.QT.F.kp T.QT.b .nil Cq (Aa (Bq (Be (K:=K)) (pv 1) Ah (λ_ _=>rfl)) Ab)))
  (Ac (Bd (i:=3) Yi.nd U (Or.inr U) (Aj ((SN T).mono Ap) h U T.Gz.m T.Gz.F.kp T.Gz.b .nil Cq (Aa (Bq (Be (K:=K)) (pv 1) Ah (λ_ _=>rfl)) (Aa (pv 2) Ab))))
  (Ac (Bl (Ai Cj (pv 0) Af (Av _))
   (Ad (Az (CT (Aa Af (Aa (BR (Fj (K:=K)) U T.Jq Hk (Aa (pv 3) Ab)) Ab)))))
   Aq)
  (Ac (Bl (Ai Cj (pv 0) Af (Av _))
   (Ac DK
   (Ad DK))
   Aq)
  (Ac (Bl (Ai Cj (pv 0) Af (Av _))
   (Ad DK)
   Aq)
  (Ac (Bl (Ai Cj (pv 0) Af (Av _))
   (Ad DK)
   Aq)
  (Ad DK)))))))),?_⟩;refine⟨_,U,_,_,U,.inl (yW c),U,(by rfl),_,U,_,_,_,_,U,U,yW c,n,z,U,zl,nm,λH1 d=>⟨_,U,_,_,_,_,U,U,yW (d _ _ c),n,_,U,z,bk,kn,U,r.same d,λx q e s=>?_,λe=>u e _ d⟩⟩;refine⟨_,U,U,_,U,_,U,_,_,U,.inl (yW s),λl o=>?_⟩;have v:Aw H (upd H1 l (.lst (vS x))):=d.new o;have f:(upd H1 l (.lst (vS x))) l=some (.lst (vS x)):=Ae;have fl:=d.free o;exact⟨AE,λa j=>p x e a l _ (v.new j) fl Ae (by rw[Ao (Bf f j)];exact f)⟩
inductive Au4 (t:Adr)(vs:LI)(H:Hp)(Q:VK)(E:XK):Prop
|mk(wp:Nn)(bk:Nn)(z:NV)(kn:Kns)(_:vs=[.ref wp,.ref bk])(_:H wp=some (.lst (vS [clW,z])))(_:Kn H bk kn)(_:z.length<=1000000)(_:Pat.isName z=true)(_:(∀x,known kn z=.ok x->∀a l H',Aw H H'->H l=none->H' a=some (.tup [.str "cloth",.ref l])->H' l=some (.lst (vS x))->Q (.ref a) H'))(_:(known kn z=.no .unk->∀H',Aw H H'->E (.ref t.CQ) none H'))
theorem Ahs(T:Txt K mg t):Bm P w K mg base (CX1 P w) 4 t.Ade t.Adf ["words","book"] (Au4 t):=by
 refine T.answered.F.okX AaM ?_;rintro _ _ _ _ H _ Q E o ⟨r,bk,z,kn,rfl,hw,h,zl,nm,f,j⟩;refine⟨_,(Ac (Bd (i:=2) AaM.nd U NN (Oz (ZL (K:=K) (pv 0) (λ_=>rfl)) (Bq (Be (K:=K)) (pv 0) Ah (λ_ _=>rfl)) Af))
  (Ac (Bl (Ai (WL (K:=K)) (pv 2) (Ce (v:=.ref t.Ib) U T.Zh U) U)
   (Ad (Az (Aj ((AeH T).mono Ap) o U T.Vm.m T.Vm.F.kp T.Vm.b .nil Cq (Aa (pv 2) (Aa (Gq (Xv (K:=K)) (pv 0) (GP Ah) Ky) (Aa (pv 1) Ab))))))
   Aq)
  (Ac (Bl (Ai Cj (pv 2) Af (Av _))
   (Ad DK)
   Aq)
  (Ac (Bl (Ai Cj (pv 2) Af (Av _))
   (Ad DK)
   Aq)
  (Ac (Bl (Ai Cj (pv 2) Af (Av _))
   (Ad DK)
   Aq)
  (Ac (Bl (Ai Cj (pv 2) Af (Av _))
   (Ad DK)
   Aq)
  (Ad (DR T.BW U T.BX (Aa Af Ab))))))))),?_⟩;refine⟨_,U,true,.inl ⟨_,yW hw,U⟩,_,U,_,_,_,_,U,U,yW hw,Bw Ap U,_,U,_,_,U,.inr (T.Zi H),U,Ap,_,U,_,U,_,U,_,U,_,_,U,yW hw,λl d=>?_⟩;have c:Aw H (upd H l (.lst (vS [z]))):=.upd d;exact⟨_,U,l,bk,z,kn,U,Ae,h.same c,zl,nm,λx e a l H' s' p q n=>f x e a l H' (c.trans s') (c.free p) q n,λe H' s'=>j e H' (c.trans s')⟩
inductive Au5 (t:Adr)(vs:LI)(H:Hp)(Q:VK)(z3:XK):Prop
|mk(wp:Nn)(bk:Nn)(z:NV)(kn:Kns)(_:vs=[.ref wp,.ref bk])(_:H wp=some (.lst (vS [clW,z])))(_:Kn H bk kn)(_:z.length<=1000000)(_:Pat.isName z=true)(_:(known kn z=.no .unk\/∃x,known kn z=.ok x))(_:∀a l H',Aw H H'->H l=none->H' l≠none->An H' a l (known kn z)->Q (.ref a) H')
theorem Aht(T:Txt K mg t):Bm P w K mg base CX0 5 t.Abk t.Abl ["words","book"] (Au5 t):=by refine T.Vl.F.ok Yh ?_;rintro _ _ _ _ H _ Q E i ⟨p,bk,z,kn,rfl,hw,n,zl,nm,s,k⟩;exact⟨_,(Ad (Atn (j:=2) ⟨U,U,U⟩ U (AhG (AqI (AhE ((Ahs T).mono Ap) i U T.answered.m T.answered.F.kp T.answered.b .nil (Aa (pv 0) (Aa (pv 1) Ab))))) Yh.nd U rfl U T.Agu T.Agv.q Lp (λ_=>(Ad (Az (CT (Aa Af (Aa (Amb (pv 2) T.Qn.c T.Aan.m (Xe T) i.hd9 T.Aan.b) Ab)))))))),_,U,_,U,p,bk,z,kn,U,hw,n,zl,nm,λx e a l H' s' o r h=>k a l H' s' o (by rw[h];simp) (by rw[e];exact⟨r,h⟩),λe H' s'=>⟨_,U,T.Qn.sub T.Uw,λea d=>⟨_,U,ea,U,Ae,_,U,Ap,λq9 f=>k q9 q9 _ ((s'.new d).new f) ((s'.new d).free f) (by rw[Ae];simp) (by rw[e];exact Ae)⟩⟩⟩
theorem AdR(kn:Kns)(z:NV):known kn z=.no .unk\/∃x,known kn z=.ok x:=by
 unfold known;split
 ·exact .inr ⟨_,U⟩
 ·exact .inl U
theorem An.same{r:Res}(h:An H a l r)(s:Aw H H'):An H' a l r:=by
 cases r with
 |ok x=>exact⟨s _ _ h.1,s _ _ h.2⟩
 |no f=>exact s _ _ h
structure As (H0 G:Hp)(kn:Kns)(zs:NI)(as ls:NW):Prop where
 la:as.length=ls.length
 lz:as.length<=zs.length
 nd:ls.Nodup
 e:∀(i:Nat) a l z,as[i]?=some a->ls[i]?=some l->zs[i]?=some z->An G a l (known kn z)
 f:∀l∈ls,H0 l=none/\G l≠none
theorem As.same{kn:Kns}{ls:NW}(A:As H0 G kn zs as ls)(s:Aw G G'):As H0 G' kn zs as ls:=⟨A.la,A.lz,A.nd,λi a l z h1 h2 h3=>(A.e i a l z h1 h2 h3).same s,λl b=>⟨(A.f l b).1,λe=>(A.f l b).2 (s.free e)⟩⟩
theorem As.push{kn:Kns}{ls:NW}(A:As H0 G kn zs as ls)(s:Aw G G')(j:zs[as.length]?=some z)(h:An G' a l (known kn z))(v:G l=none)(q:H0 l=none)(r:G' l≠none):As H0 G' kn zs (as++[a]) (ls++[l]):=by
 have o:=A.same s;have n:=A.la;refine⟨by simp[n],by have:= (zC.mp j).1;simp;lia,List.nodup_append.mpr ⟨A.nd,AB,λx d y u e=>(A.f x d).2 (by rw[e,zF.mp u];exact v)⟩,λi b m y h1 h2 h3=>?_,λx d=>?_⟩
 ·by_cases c:i<as.length
  ·rw[Ayo c]at h1;rw[Ayo Au]at h2;exact o.e i b m y h1 h2 h3
  ·rw[Aym Au]at h1;rw[Aym Au]at h2;have p:i-as.length=0:=by
    have:= (zC.mp h1).1;rw[Azc]at this;lia
   rw[<-n,p]at h2;rw[p]at h1;cases h1;cases h2;rw[show i=as.length by omega,j]at h3;cases h3;exact h
 ·rcases zG.mp d with d|d
  ·exact o.f x d
  ·rw[zF.mp d];exact⟨q,r⟩
def BaQ (t:Adr)(H:Hp)(Q:VK)(E:XK)(zs:NI):Bo->Prop
 | .ok kn=>∀q as ls H',Aw H H'->H' q=some (.lst (as.map V.ref))->H q=none->As H H' kn zs as ls->as.length=zs.length->q∉ls->Q (.ref q) H'
 | .no wd=>∀H',Aw H H'->E (.ref (cl6 t wd)) none H'
structure Pp (al zs:NI)(o:Bo):Prop where
 ne:al≠[]
 n:∀l∈al,10∉l
 l:al.length<=200
 u:(jn 10 al).length<=100000
 b:BkO [] ((al.map trim).filter λl=>!isQ l) o
 bn:((al.map trim).filter λl=>!isQ l)≠[]
 q:(al.map trim).filter isQ=zs.map qln
 z:∀z∈zs,Nm z
inductive Asg (t:Adr)(vs:LI)(H:Hp)(Q:VK)(E:XK):Prop
|mk(al:NI)(zs:NI)(o:Bo)(_:vs=[.str (tx (jn 10 al))])(_:Pp al zs o)(_:BaQ t H Q E zs o)
theorem Ash(c:Nat)(us:NI):Txt.join (tx [c]) (us.map tx)=tx (jn c us):=by rw[Q4,Ahr]
theorem Aw4(N:Nm z):AdM (qln z).tail=[clW,z]:=by
 have L:=N.let
 have a:32∉z:=λe=>by have:= L.2 32 e;lia
 show AdM (32::(clW++(32::z)))=_;rw[ArS,Ap6 _ Ap Ap,Ap7 a L.1]
theorem Akk(c:Nat):∀ws:NI,ws≠[]->(ws.map List.length).sum+ws.length=(jn c ws).length+1
 |[],h=>yG U h
 |[w],_=>by simp[jn]
 |w::v::r,_=>by
  have:= Akk c (v::r) AB;show((w::v::r).map List.length).sum+_=(w++c::jn c (v::r)).length+1;grind
theorem Au6(ws:NI):(((ws.map tx)).map (·.length)).sum=(ws.map List.length).sum:=by rw[Ay7];exact congrArg List.sum (Az8 λw _=>Ba w)
theorem Alz(p:NV->Bool):∀ws:NI,((ws.filter p).map List.length).sum<=(ws.map List.length).sum
 |[]=>AxU _
 |w::ws=>by
  have:= Alz p ws;grind
theorem AiX:∀ws:NI,((ws.map trim).map List.length).sum<=(ws.map List.length).sum
 |[]=>AxU _
 |w::ws=>by
  have:= AiX ws;have:= Z0 w;grind
theorem Ahu{w:NV}:∀{ws:NI},w∈ws->w.length<=(ws.map List.length).sum
 |[],h=>by simp at h
 |v::ws,h=>by
  simp only [Ayd,Ay6];rcases yC.mp h with rfl|h
  ·lia
  ·have:= Ahu h;lia
theorem Aqb(h:c∈trim u):c∈u:=by unfold trim at h;rw[List.mem_reverse]at h;have:= (Azn _).subset h;rw[List.mem_reverse]at this;exact(Azn _).subset this
theorem Z8{p:NV->Bool}{x:NV}(h:ws[i]?=some x):(ws.take (i+1)).filter p=(ws.take i).filter p++(if p x=true then [x] else []):=by rw[Aya,h,AyD];simp only [AzG,List.filter_cons,Az5]
theorem Abx(p:NV->Bool)(i:Nat):((ws.take i).filter p).length<=i:=Ayh (Azf _ _) (by rw[Ayc];exact AyB _ _)
theorem AdS(T:Txt K mg t):Bm P w K mg base (CX1 P w) 45 t.YG t.YH ["paper"] (Asg t):=by
 refine T.QS.F.okX Og ?_;rintro _ _ _ _ H _ Q E hr ⟨ls,zs,o,rfl,⟨L,J,ac,hu,hB,v,Y,hz⟩,k⟩;obtain⟨u,hj⟩:∃u,jn 10 ls=u:=⟨_,U⟩;rw[hj]at hu ⊢;refine⟨_,(Ac (PS.nox (AfS (i:=1) (CJ.mk (Bp:=[]) (Nc:=["line"]) U At At (Cg (sc0:=Ag HR) U At) U rfl U At (λ_ _ h=>by simp at h)) U Og.nd U rfl (BJ (K:=K) (Bx (K:=K) zI zY z6 AcA (pv 0) (Aa Af Ab))) (λ_ _ _ _ _=>.nil) (λ_ _ _ _ _=>(Bx zI F.slot_str_strip F.type_str_strip X7 (pv 0) (Aa Af Ab))) U))
  (Ac (Bd (i:=2) Og.nd U (Or.inr U) (Aj ((AeF T).mono Ap) hr U T.Vj.m T.Vj.F.kp T.Vj.b .nil Cq (Aa (Bx (K:=K) zI zS zV (DN (K:=K)) Af (Aa (PE.nox (CV (CJ.mk (Bp:=[]) (Nc:=["line"]) U At At (Cg (sc0:=Ag HR) U At) U rfl U At (λ_ _ h=>by simp at h)) U (BJ (K:=K) (pv 1)) (λ_ _ _ _ _=>.one (Hr (Fb (Bx zI F.slot_str_startswith F.type_str_startswith ZQ (pv 0) (Aa Af Ab))))) (λ_ _ _ _ _=>(pv 0)))) Ab)) Ab)))
  (Ad (Az (PE.nox (CV (CJ.mk (Bp:=[2]) (Nc:=["line","book"]) U At At (Cg (sc0:=Ag HR) U At) U rfl U At (λk j h=>match k,h with | 0,h=>by obtain rfl:=yI h;exact⟨_,U,U,U⟩|_+1,h=>by simp at h)) U (BJ (K:=K) (pv 1)) (λ_ _ _ _ _=>.one (Fb (Bx zI F.slot_str_startswith F.type_str_startswith ZQ (pv 0) (Aa Af Ab)))) (λ_ _ _ _ _=>(Aj ((Aht T).mono Ap) hr U T.Vl.m T.Vl.F.kp T.Vl.b .nil Ay (Aa (Aj ((AiW T).mono Ap) hr U T.words_of.m T.words_of.F.kp T.words_of.b .nil Ay (Aa (Gq WM (pv 0) (GP Ah) Ky) Ab)) (Aa (pv 1) Ab)))))))))),?_⟩;rw[Aa0,Q0,Aqa];have hsz:=z7;have W:=Akk 10 ls L;rw[hj]at W;have st:=AiX ls;refine⟨_,U,U,u,10,ls,U,U,Ap,AA,L,hj,J,λl Z=>?_⟩;obtain⟨H1,e9,s1,h1⟩:=nu9 (o:=.lst (vS ls)) (.refl _) Z;rw[e9];refine⟨_,U,⟨_,yW h1⟩,CK (xs:=vS ls) (λi ys G=>G=H1/\ys=vS ((ls.take i).map trim)) ⟨U,U⟩ ?_ ?_ ?_ ?_⟩
 ·rintro i ys G hi ⟨rfl,rfl⟩;refine⟨yW h1,?_⟩;rw[Bc,AxR,Ayc];exact AyB _ _
 ·rw[Bc];lia
 ·rintro i xv ys G hi D ⟨rfl,rfl⟩;obtain⟨b,p,rfl⟩:=Fw D;have:= Ahu (Ayb p);refine⟨_,U,U,_,_,U,U,(by rw[Ba];lia),?_⟩;rw[AbW];refine CN.of hi ⟨U,?_⟩;rw[Aya,p,AxV];unfold vS;rw[AxV];rfl
 ·rintro ys G p1 ⟨rfl,rfl⟩ ab;rw[Bc,Ayg];generalize R:ls.map trim=ts at hB v Y st ⊢;have tl:ts.length=ls.length:=by rw[<-R,AxR]
  obtain⟨H2,e9,s2,h2⟩:=nu9 (o:=.lst (vS ts)) s1 ab;rw[e9];refine⟨U,_,U,_,U,⟨_,yW h2⟩,CK (xs:=vS ts) (λi ys G=>G=H2/\ys=vS ((ts.take i).filter λl=>!isQ l)) ⟨U,U⟩ ?_ ?_ ?_ ?_⟩
  ·rintro i ys G hi ⟨rfl,rfl⟩;refine⟨yW h2,?_⟩;rw[Bc];exact Abx _ _
  ·rw[Bc];lia
  ·rintro i xv ys G hi D ⟨rfl,rfl⟩;obtain⟨b,p,rfl⟩:=Fw D;refine⟨_,U,U,_,_,U,U,?_⟩;rw[Vb];refine⟨_,U,?_⟩;show if (!isQ b)=true then _ else _
   refine Ati (λc=>?_) (λc=>?_)
   ·refine⟨_,U,CN.of hi ⟨U,?_⟩⟩;rw[Z8 p,yF c];unfold vS;rw[AxV];rfl
   ·exact CN.of hi ⟨U,by rw[Z8 p,yE (by rw[c];decide),Ayr]⟩
  ·rintro ys G p2 ⟨rfl,rfl⟩ A;rw[Bc,Ayg];generalize y:(ts.filter λl=>!isQ l)=bs at hB v ⊢;have bl:bs.length<=ts.length:=by rw[<-y];exact Azf _ _
   have sb:(bs.map List.length).sum<=(ts.map List.length).sum:=by rw[<-y];exact Alz _ _
   have s3:Aw H (upd G p2 (.lst (vS bs))):=s2.new A;have h3:(upd G p2 (.lst (vS bs))) p2=some (.lst (vS bs)):=Ae;have a0:(upd G p2 (.lst (vS bs))) p1=some (.lst (vS ts)):=by rw[Ao (Bf h2 A)];exact h2
   refine⟨_,p2,bs.map tx,U,U,(by rw[<-Gj];exact yW h3),?_,?_⟩
   ·rw[Au6,AxR];show _+_*1<=_;lia
   rw[Ash];have sj:=Akk 10 bs v;refine⟨_,bs,o,U,AA,v,U,λb p z=>?_,AA,hB,?_⟩
   ·rw[<-y,List.mem_filter,<-R,yB]at p;obtain⟨⟨l0,X,rfl⟩,_⟩:=p;exact J l0 X (Aqb z)
   cases o with
   |no wd=>exact λH' s'=>k H' (s3.trans s')
   |ok kn =>
   intro kp H4 s4 hK;have a6:=hK.same (λb o e=>(NQ e).2);have u4:=s3.trans s4;have h4:=s4 _ _ a0;refine⟨_,U,_,U,⟨_,yW h4⟩,CK (xs:=vS ts) (λi ys G=>∃as ls:NW,ys=as.map V.ref/\Aw H4 G/\as.length=((ts.take i).filter isQ).length/\As H G kn zs as ls) ⟨[],[],U,.refl _,U,U,Ayf _,List.nodup_nil,(λi a l z g=>by simp at g),λl Z=>by cases Z⟩ ?_ ?_ ?_ ?_⟩
   ·rintro i ys G hi ⟨as,r,rfl,s,d,_⟩;refine⟨yW (s _ _ h4),?_⟩;rw[AxR,d];exact Abx _ _
   ·rw[Bc];lia
   ·rintro i xv ys G hi D ⟨as,r,rfl,s,d,I⟩;obtain⟨b,p,rfl⟩:=Fw D;have ae:=Ahu (Ayb p);refine⟨_,U,U,_,_,U,U,?_⟩;rw[Vb];refine⟨_,U,?_⟩;show if isQ b=true then _ else _
    refine Ati (λc=>?_) (λc=>?_)
    ·have B:(zs.map qln)[as.length]?=some b:=by
      have e1:ts.filter isQ=(ts.take i).filter isQ++(b::(ts.drop (i+1)).filter isQ):=by
       have C:=(zC.mp p).1;have S:ts[i]=b:=by have:= AxT C;rw[p]at this;injection this with this;exact this.symm
       conv=>lhs;rw[<-AyI i ts]
       rw[AyD,AyZ C,S,Azd c]
      rw[<-Y,e1,d,Aym (AxU _),AyJ];rfl
     rw[AxZ]at B;obtain⟨z,O,rfl⟩:=zU.mp B;have N:=hz z (Ayb O);have zl:=N.l;refine⟨_,U,_,U,qln z,U,big AA,?_⟩;rw[AxF];refine⟨_,U,AD,λwp G1 g1 hw=>?_⟩;rw[Aw4 N]at hw;refine⟨_,U,wp,kp,z,kn,U,hw,a6.same (s.trans g1),AA,N.n,AdR _ _,λq9 l9 G2 g2 M W aa=>?_⟩;have gg:=g1.trans g2;refine CN.of hi ⟨as++[q9],r++[l9],by rw[AxV];rfl,s.trans gg,by rw[Z8 p,AxS,AxS,d];rfl,I.push gg O aa (g1.free M) ((u4.trans s).free (g1.free M)) W⟩
    ·exact CN.of hi ⟨as,r,U,s,by rw[Z8 p,yE (by rw[c];decide),Ayr];exact d,I⟩
   ·rintro ys G q ⟨as,r,rfl,s,d,I⟩ x;rw[Bc,Ayg,Y,AxR]at d;exact k q as r _ ((u4.trans s).new x) Ae ((u4.trans s).free x) (I.same (.upd x)) d λe=>(I.f q e).2 x
theorem Aqc{G:Prop}{R:Int->Prop}(a:(∀z,R z)->G)(rest:∀z,R z):G:=a rest
theorem Al0(h:σ=σ')(k:R σ' H):R σ H:=by subst h;exact k
theorem Aw5(ns:NF):(ZK (vI ns) none (some 50)).length<=50/\(ZK (vI ns) none (some 50)).length<=ns.length:=by refine⟨?_,by have:=Aa5 (vI ns) none (some 50);rw[Cp]at this;exact this⟩;unfold ZK;rw[Ayc,HT.Ti,show(50:Int)=((50:Nat):Int) from U,HT.Kw];lia
theorem AxG:Str.ofString "; ? = "=tx [59,32,63,32,61,32]:=At
theorem AdT(g:Nat):(List.replicate g [32]).flatten=bl g:=by
 induction g with
 |zero=>rfl
 |succ g a=>rw[Ayz,Ayv,a];rfl
theorem Au7{p:Prop}[Decidable p]:atI ((tx [61,58]).cps.toList) (if decide p=true then (1:Int) else 0)=some (if p then 58 else 61):=by
 rw[Fv];by_cases h:p
 ·rw[zN h,yF U,yF h];exact Bw Ap U
 ·rw[zJ h,yE (λz=>nomatch z),yE h];exact Bw Ap U
theorem AxH:Str.ofString "? cloth "=tx (63::32::(clW++[32])):=At
inductive Aw6 (vs:LI)(H:Hp)(Q:VK)(z3:XK):Prop
|mk(c:Int)(way:Int)(i:Nat)(_:vs=[.int c,.int (i:Int),.int way])(_:i<59)(_:∀j H',j<61->Aw H H'->Q (.str (tx (nmT (way%3).toNat j))) H')
theorem AbO(T:Txt K mg t):Bm P w K mg base CX0 2 t.Us t.Ut ["cell","k","way"] Aw6:=by
 refine T.La.F.ok Ab6 ?_;rintro _ _ _ _ H _ Q E d ⟨c,a,i,rfl,hi,k⟩;refine⟨_,(Ad (Az (Aj ((UG T).mono Ap) d U T.Hj.m T.Hj.F.kp T.Hj.b .nil Ay (Aa (Ak Dd (Ak Em (Ak Eo (pv 0) Ah) (Ak Q8 Ah (pv 1))) (Ak Em (pv 1) Ah)) (Aa (pv 2) Ab))))),_,U,_,_,U,U,⟨Ap,Ap⟩,_,U,_,_,U,U,.inl ⟨Ap,Ap⟩,_,_,U,U,_,U,_,_,U,U,_,_,U,U,AA,_,U,((c / 3+7*(i:Int))%((i:Int)+2)).toNat,a,(by rw[Azo (AyQ _ AA)];rfl),?_,λH' s'=>k _ _ ?_ s'⟩
 ·have:=AyT (c / 3+7*(i:Int)) (show 0<(i:Int)+2 by lia);lia
 ·have:=AyT (c / 3+7*(i:Int)) (show 0<(i:Int)+2 by lia);lia
theorem Aqd:atI (vS (zs++[y])) (-1)=some (V.str (tx y)):=by
 have l:(vS (zs++[y])).length=zs.length+1:=by rw[Bc,AxS];rfl
 unfold atI ixN;rw[yE Ap,l,yF AA];show(vS (zs++[y]))[(-1+((zs.length+1:Nat):Int)).toNat]?=_;rw[show(-1+((zs.length+1:Nat):Int)).toNat=zs.length by lia,Acz (List.getElem?_concat_length)]
structure LB (G:Hp)(L B:Nn)(al zs:NI):Prop where
 l:G L=some (.lst (vS al))
 b:G B=some (.lst (vS zs))
theorem LB.same(h:LB G L B al zs)(s:Aw G G'):LB G' L B al zs:=⟨s _ _ h.l,s _ _ h.b⟩
theorem nF(h:LB G L B al zs)(a:G M=some o)(e:G l=none):l∉[L,M,B]:=by simp only [Ayj,Ayq,yM,not_or];exact⟨λz=>(by rw[z,h.l]at e;cases e),λz=>(by rw[z,a]at e;cases e),λz=>(by rw[z,h.b]at e;cases e)⟩
inductive Aqe (K:NO)(vs:LI)(H:Hp)(Q:VK)(z3:XK):Prop
|mk(a:Nn)(ns:NF)(_:vs=[.ref a])(_:SqL K H a (vI ns))(_:ns.length<=63)(_:∀p m b al zs kn as qs due H',Aw H H'->H' p=some (.tup [.str (tx (jn 10 al)),.ref m,.ref b,.str due])->Md H' [] m kn as qs->Kno kn->kn.length<=60->zs.length<=60->H' b=some (.lst (vS zs))->(due="" -> Pp al zs (.ok kn))->(due≠"" -> Pp al zs (.no due))->Q (.ref p) H')
theorem AdU(T:Txt K mg t):Bm P w K mg base CX0 4 t.Om t.Oo ["script"] (Aqe K):=by
 refine T.Nu.F.ok Br ?_;rintro _ _ _ _ H _ Q E hr ⟨a,ns,rfl,hS,bh,kQ⟩;refine⟨_,(Ac (Bd (i:=1) Br.nd U NN (Aj ((Aa1 T).mono Ap) hr U T.Ow.m T.Ow.F.kp T.Ow.b .nil Ay (Aa (pv 0) (Aa Ah Ab))))
  (Ac (Bd (i:=2) Br.nd U NN (Cm Ab))
  (Ac (Bd (i:=3) Br.nd U NN (Cm Ab))
  (Ac (Bd (i:=4) Br.nd U NN (Cm Ab))
  (Ac (Bd (i:=5) Br.nd U NN Af)
  (Ac (Bd (i:=6) Br.nd U NN (Akm AfH Ah))
  (Ac (Bl (Ai Cj (Ak Dd (Aj ((Aa1 T).mono Ap) hr U T.Ow.m T.Ow.F.kp T.Ow.b .nil Ay (Aa (pv 0) (Aa Ah Ab))) Ah) Ah (Av _))
   (Ad (Bd (i:=6) Br.nd U NN (Ak Dd (Ak Eo (Aj ((Aa1 T).mono Ap) hr U T.Ow.m T.Ow.F.kp T.Ow.b .nil Ay (Aa (pv 0) (Aa Ah Ab))) Ah) (Bb (Ax (K:=K)) U T.Cd Bv (Aa (pv 0) Ab)))))
   Aq)
  (Ac (DP yJ U (Ea U T.Es (Aa (Bb (Ax (K:=K)) U T.Cd Bv (Aa (Gq (Xv (K:=K)) (pv 0) Ky (GP Ah)) Ab)) Ab)) (Bs (i:=7) Br.nd U NN)
   (Ac (Bd (i:=8) Br.nd U NN (Ak Eo (Bq (Be (K:=K)) (pv 0) (pv 7) (λ_ _=>rfl)) Ah))
   (Ac (Bd (i:=9) Br.nd U NN (Aj ((UG T).mono Ap) hr U T.Hj.m T.Hj.F.kp T.Hj.b .nil Ay (Aa (pv 7) (Aa (pv 1) Ab))))
   (Ac (Bd (i:=10) Br.nd U NN Af)
   (Ac (Bl (Ai Cj (Ak Dd (Bq (Be (K:=K)) (pv 0) (pv 7) (λ_ _=>rfl)) Ah) Ah (Av _))
    (Ad (Bd (i:=10) Br.nd U NN (Ak Am Af (pv 9))))
    Aq)
   (Ac (Bl (PW.pt (pw_and (Ai HD (Ak Dd (Bq (Be (K:=K)) (pv 0) (pv 7) (λ_ _=>rfl)) Ah) Ah (Av _)) (pw_and1 (PW.pt (pw_or (Ai Cj (pv 7) (pv 6) (Av _)) (pw_or1 (Ai Cj (Ak Dd (Ak Em (pv 8) (Ak Q8 Ah (pv 7))) Ah) Ah (Av _))))))))
    (Ac (W4 (Aj ((Ahq T).mono Ap) hr U T.Vo.m T.Vo.F.kp T.Vo.b .nil Ay (Aa (Ak Em (pv 8) (Ak Q8 Ah (pv 7))) (Aa (pv 9) (Aa (Aj ((UG T).mono Ap) hr U T.Hj.m T.Hj.F.kp T.Hj.b .nil Ay (Aa (Ak Em (pv 7) Ah) (Aa (pv 1) Ab))) (Aa (pv 3) Ab))))) (IW U (CG (Bs (i:=10) Br.nd U NN) (CG (Bs (i:=11) Br.nd U NN) GJ))))
    (Ad (Bl (Ai Cj (pv 5) Af (Av _))
     (Ad (Bd (i:=5) Br.nd U NN (pv 11)))
     Aq)))
    (Ad (Bl (Ai HD (Ak Dd (Bq (Be (K:=K)) (pv 0) (pv 7) (λ_ _=>rfl)) Ah) Ah (Av _))
     (Ac (W4 (Aj ((AdP T).mono Ap) hr U T.Nt.m T.Nt.F.kp T.Nt.b .nil Ay (Aa (pv 8) (Aa (pv 3) Ab))) (IW U (CG (Bs (i:=10) Br.nd U NN) (CG (Bs (i:=12) Br.nd U NN) GJ))))
     (Ac (Bl (Ai Cj (Ak Dd (Bq (Be (K:=K)) (pv 0) (pv 7) (λ_ _=>rfl)) Ah) Ah (Av _))
      (Ad (W4 (Aj ((Ahp T).mono Ap) hr U T.Vn.m T.Vn.F.kp T.Vn.b .nil Ay (Aa (Ak Dd (pv 8) Ah) Ab)) (IW U (CG (Bs (i:=10) Br.nd U NN) (CG (Bs (i:=12) Br.nd U NN) GJ)))))
      Aq)
     (Ac (Bd (i:=13) Br.nd U NN (Ak Am (Ak K1 Af (Ak Dd (pv 8) Ah)) (Bq JS Af (BR ZD U T.AkG AfW (Aa (Jv Cj (Ak Dd (Bq (Be (K:=K)) (pv 0) (pv 7) (λ_ _=>rfl)) Ah) Ah (Av _)) Ab)) (λ_ _=>rfl))))
     (Ac (Bd (i:=10) Br.nd U NN (Ak Am (Ak Am (Ak Am (pv 9) (pv 13)) (Ak K1 Af (Ak Dd (Ak Eo (pv 8) Ah) Ah))) (pv 10)))
     (Ad (Bj (Bx (K:=K) zM zL zQ Dg (pv 3) (Aa (CT (Aa (pv 9) (Aa (pv 12) Ab))) Ab))))))))
     Aq)))
   (Ac (Bj (Bx (K:=K) zM zL zQ Dg (pv 2) (Aa (Ak Am (Ak Am (Ak K1 Af (Ak Dd (pv 8) Ah)) (pv 10)) (Ak K1 Af (Ak Dd (Ak Eo (pv 8) Ah) Ah))) Ab)))
   (Ad (Bl (Ai Cj (Ak Dd (Ak Em (Bq (Be (K:=K)) (pv 0) (pv 7) (λ_ _=>rfl)) (pv 7)) Ah) Ah (Av _))
    (Ac (Bj (Bx (K:=K) zM zL zQ Dg (pv 4) (Aa (Aj ((AbO T).mono Ap) hr U T.La.m T.La.F.kp T.La.b .nil Ay (Aa (pv 8) (Aa (pv 7) (Aa (pv 1) Ab)))) Ab)))
    (Ad (Bj (Bx (K:=K) zM zL zQ Dg (pv 2) (Aa (Ak Am (Ak Am (Ak K1 Af (Ak Dd (pv 8) Ah)) Af) (Bq (Be (K:=K)) (pv 4) (Akm AfH Ah) (λ_ _=>rfl))) Ab)))))
    Aq)))))))))
  (Ad (Az (CT (Aa (Bx (K:=K) zI zS zV (DN (K:=K)) Af (Aa (pv 2) Ab)) (Aa (pv 3) (Aa (pv 4) (Aa (pv 5) Ab))))))))))))))),?_⟩;have hsz:sizeLine=16777216:=z7;rw[Q0,Af9,AxG,Aa0,AxH];refine⟨_,U,a,ns,0,U,hS,Ap,λI _=>Cw U rfl ⟨(by show 0<=sizeLine;decide),λL nL=>?_⟩⟩;have s1:Aw H (upd H L (.lst [])):=.upd nL;have h1:(upd H L (.lst [])) L=some (.lst (vS [])):=Ae;generalize upd H L (.lst [])=H1 at s1 h1 ⊢;refine Cw U rfl ⟨(by show 0<=sizeLine;decide),λM nM=>?_⟩;have s2:Aw H1 (upd H1 M (.lst [])):=.upd nM;have ap:(upd H1 M (.lst [])) M=some (.lst []):=Ae;have LM:L≠M:=Bf h1 nM;have fL:H L=none:=nL;have fM:H M=none:=s1.free nM;generalize upd H1 M (.lst [])=H0 at s2 ap ⊢;refine Cw U rfl ⟨(by show 0<=sizeLine;decide),λB nB=>?_⟩;have ao:L≠B:=Bf (s2 _ _ h1) nB;have MB:M≠B:=Bf ap nB;have fB:H B=none:=(s1.trans s2).free nB;have s9:Aw H0 (upd H0 B (.lst [])):=.upd nB;have Y:LB (upd H0 B (.lst [])) L B [] []:=⟨s9 _ _ (s2 _ _ h1),Ae⟩;have D2:Md (upd H0 B (.lst [])) [L,M,B] M [] [] []:=⟨s9 _ _ ap,U,U,λi a q p h=>by simp at h⟩;generalize upd H0 B (.lst [])=H2 at s9 D2 Y ⊢;have u2:=(s1.trans s2).trans s9;refine Cw U rfl (Cw U rfl ⟨_,U,Cw (σ':=[some (.ref a),some (.int I),some (.ref L),some (.ref M),some (.ref B),some (.str ""),some (.int (-1)),none,none,none,none,none,none,none]) U rfl ?_⟩);apply Aqc
 ·intro rest;refine⟨_,U,a,ns,1,U,u2.seq hS,Ap,λc1 e1=>⟨_,_,U,U,Ap,U,_,U,CP (λc=>?_) (λ_=>?_)⟩⟩
  ·have n2:2<=ns.length:=by
    rcases Nat.lt_or_ge ns.length 2 with h|h
    ·rw[e1 AA]at c;injection c with c;exact yG c Ap
    ·exact h
   refine⟨_,U,a,ns,1,U,u2.seq hS,Ap,λc2 _=>⟨_,_,U,U,⟨Ap,Ap⟩,_,U,_,_,U,.inl (u2.seq hS),_,_,U,U,(by rw[Cp];lia),?_⟩⟩;generalize c2 / 24%(((vI ns).length:Nat):Int)=sp;exact Cw (σ':=[some (.ref a),some (.int I),some (.ref L),some (.ref M),some (.ref B),some (.str ""),some (.int sp),none,none,none,none,none,none,none]) U rfl (rest sp)
  ·exact rest (-1)
 intro A;have cl:=Aw5 ns;refine⟨_,U,_,U,a,_,U,u2.seq hS,λp0 bb=>⟨_,_,U,.inl (yW Ae),_,U,AA,AA,?_⟩⟩;have s3:Aw H2 (upd H2 p0 (.lst (ZK (vI ns) none (some 50)))):=.upd bb;generalize upd H2 p0 (.lst (ZK (vI ns) none (some 50)))=H3 at s3 ⊢;rw[Ayi];generalize (ZK (vI ns) none (some 50)).length=n at cl ⊢;have hw:(I%3).toNat<3:=AA
 refine GK (lo:=0) (n:=n) (λi σ G=>∃(v6 v7 v8 v9 J S s:Option V)(due:Str)(al ls zs:NI)(kn:Kns)(as qs:NW),σ=[some (.ref a),some (.int I),some (.ref L),some (.ref M),some (.ref B),some (.str due),some (.int A),v6,v7,v8,v9,J,S,s]/\Aw H G/\LB G L B al zs/\Md G [L,M,B] M kn as qs/\Pv i al ls zs/\(∀z∈zs,Nm z)/\Wv (I%3).toNat i ls kn due) ⟨_,_,_,_,_,_,_,"",[],[],[],[],[],[],U,u2.trans s3,Y.same s3,D2.same s3,⟨U,U,(λb h=>by cases h),AxU _,AxU _⟩,(λz h=>by cases h),⟨⟨λp h=>(by cases h),λp h=>(by cases h),λp h=>(by cases h)⟩,λp h=>(by cases h),U,AxU _,λ_ rest o B=>B,λe=>yG U e⟩⟩ ?_ ?_
 ·rintro i σ G hi ⟨v6,v7,v8,v9,J,S,s,due,al,ls,zs,kn,as,qs,rfl,sG,ag,D,PV,NZ,W⟩;have b9:i<ns.length:=AA
  have hz:atI (vI ns) (i:Int)=some (.int ns[i]):=Bw AA (by rw[Ayi];exact JW (AxT b9));generalize ns[i]=z at hz;have ar:kn.length<=100:=by have:=W.c;lia
  have N:=ApV (k:=i) hw AA;have aw:=N.l;refine Cw (σ':=[some (.ref a),some (.int I),some (.ref L),some (.ref M),some (.ref B),some (.str due),some (.int A),some (.int (i:Int)),v7,v8,v9,J,S,s]) (congrArg V.int (Ay5 _)) U ⟨_,U,_,U,a,_,_,_,U,U,sG.seq hS,hz,_,_,U,U,⟨Ap,Ap⟩,Cw (σ':=[some (.ref a),some (.int I),some (.ref L),some (.ref M),some (.ref B),some (.str due),some (.int A),some (.int (i:Int)),some (.int (z / 8)),v8,v9,J,S,s]) U rfl ⟨_,U,_,U,i,I,U,AA,λG1 g1=>?_⟩⟩;have F0:=W.fresh hw (AxU i) AA;have F1:=W.fresh (j:=i+1) hw AA AA;have N1:=ApV (k:=i+1) hw AA;generalize au:nmT (I%3).toNat i=nm at N aw F0 ⊢;refine Cw (σ':=[some (.ref a),some (.int I),some (.ref L),some (.ref M),some (.ref B),some (.str due),some (.int A),some (.int (i:Int)),some (.int (z / 8)),some (.str (tx nm)),v9,J,S,s]) U rfl ?_;show AuK (Aby (tC _) (HB 10)) _ _ _ _;show Aby (tC _) (HB 10) _ _ _;show Anb (HB 10) _ _ _ _;refine Cw U rfl (Al0 (σ':=[some (.ref a),some (.int I),some (.ref L),some (.ref M),some (.ref B),some (.str due),some (.int A),some (.int (i:Int)),some (.int (z / 8)),some (.str (tx nm)),some (.str (Str.ofString "")),J,S,s]) U ?_);have u1:=sG.trans g1;have a0:=ag.same g1;have D1:=D.same g1;apply AfD (λσ G=>∃(u:NV)(af:Str)(ae:Kns)(an ak:NW)(J S s:Option V),σ=[some (.ref a),some (.int I),some (.ref L),some (.ref M),some (.ref B),some (.str af),some (.int A),some (.int (i:Int)),some (.int (z / 8)),some (.str (tx nm)),some (.str (tx u)),J,S,s]/\Aw H G/\LB G L B al zs/\Md G [L,M,B] M ae an ak/\u.length<=900/\10∉u/\isQ (trim u)=false/\Wv (I%3).toNat (i+1) (ls++[trim u]) ae af)
  ·intro rest;have Z:=u1.seq hS;refine⟨_,U,_,U,a,_,_,_,U,U,Z,hz,_,_,U,U,Ap,U,_,U,?_⟩;by_cases c1:z%8=1
   ·refine I9 (by rw[c1]) ⟨_,U,_,_,U,U,ln9 (by show 6+_<=_;lia),?_⟩;rw[Bt];refine Cw (σ':=[some (.ref a),some (.int I),some (.ref L),some (.ref M),some (.ref B),some (.str due),some (.int A),some (.int (i:Int)),some (.int (z / 8)),some (.str (tx nm)),some (.str (tx ([59,32,63,32,61,32]++nm))),J,S,s]) U rfl ⟨_,U,_,U,a,_,_,_,U,U,Z,hz,_,_,U,U,Ap,_,_,U,U,_,U,DQ AA (GQ ⟨_,U,_,U,a,_,_,_,U,U,Z,hz,_,_,U,U,Ap,_,_,U,U,_,U,DQ AA ?_⟩)⟩;generalize X:[some (.ref a),some (.int I),some (.ref L),some (.ref M),some (.ref B),some (.str due),some (.int A),some (.int (i:Int)),some (.int (z / 8)),some (.str (tx nm)),some (.str (tx ([59,32,63,32,61,32]++nm))),J,S,s]=σ';have E:trim ([59,32,63,32,61,32]++nm)=[59,32,63,32,61,32]++nm:=by
     have:=En.app (u:=[59]) (v:=nm) (x:=[32,63,32,61,32]) ⟨Ap,Ap⟩ N.en Ap N.let.1
     exact En.t this
    have ac:10∉nm:=by
     have:=(Q3 N (v:=[]) ⟨AB,AB⟩).2.1
     rwa [Ayr]at this
    exact rest σ' G1 ⟨[59,32,63,32,61,32]++nm,due,kn,as,qs,J,S,s,X.symm,u1,a0,D1,(by rw[AxS,aw];decide),(by simp[ac]),(by rw[E];rfl),W.skip (.inr (by rw[(Z7 _).t,E];rfl))⟩
   refine DQ (λe=>c1 (by injection e)) ⟨_,U,_,U,a,_,_,_,U,U,Z,hz,_,_,U,U,Ap,_,_,U,U,_,U,?_⟩;by_cases c2:1<z%8
   ·refine I9 c2 ((λhF hN=>⟨_,U,_,U,U,_,U,CP (λ_=>hF) (λ_=>⟨_,U,_,U,_,_,U,U,.inl ⟨Ap,Ap⟩,_,_,U,U,_,_,U,U,Ap,U,_,U,CP (λ_=>hF) (λ_=>hN)⟩)⟩) ?_ ?_)
    ·refine Kz ⟨_,U,_,U,_,_,U,U,.inl ⟨Ap,Ap⟩,_,_,U,U,_,U,_,U,_,_,U,U,_,U,i+1,I,U,AA,λG2 g2=>⟨_,U,_,nm,_,M,kn,U,(D1.same g2).kn,ar,W.k,N,N1,F0,F1,λp u wd G3 g3 hp F=>⟨p,_,U,SqT.of hp,U,_,_,U,_,_,U,U,?_⟩⟩⟩;have u3:=(u1.trans g2).trans g3;have aj:=g2.trans g3;have lu:=F.l;have am:Wv (I%3).toNat (i+1) (ls++[trim u]) kn (if due="" then wd else due):=W.fault F (Z7 u).t;have iq:isQ (trim u)=false:=zJ F.sc.2;refine⟨_,U,U,_,U,?_⟩;by_cases c3:due=""
     ·refine I9 (by rw[c3]) ?_;rw[yF c3]at am;refine⟨_,U,Cw (σ':=[some (.ref a),some (.int I),some (.ref L),some (.ref M),some (.ref B),some (.str wd),some (.int A),some (.int (i:Int)),some (.int (z / 8)),some (.str (tx nm)),some (.str (tx u)),some (.str wd),S,s]) U rfl ?_⟩;generalize X:[some (.ref a),some (.int I),some (.ref L),some (.ref M),some (.ref B),some (.str wd),some (.int A),some (.int (i:Int)),some (.int (z / 8)),some (.str (tx nm)),some (.str (tx u)),some (.str wd),S,s]=σ';exact rest σ' G3 ⟨u,wd,kn,as,qs,_,S,s,X.symm,u3,a0.same aj,D1.same aj,AA,F.n,iq,am⟩
     ·refine DQ (λe=>c3 (by injection e)) ?_;rw[yE c3]at am;refine Al0 (R:=λσ H=>_) (σ':=[some (.ref a),some (.int I),some (.ref L),some (.ref M),some (.ref B),some (.str due),some (.int A),some (.int (i:Int)),some (.int (z / 8)),some (.str (tx nm)),some (.str (tx u)),some (.str wd),S,s]) U ?_;generalize X:[some (.ref a),some (.int I),some (.ref L),some (.ref M),some (.ref B),some (.str due),some (.int A),some (.int (i:Int)),some (.int (z / 8)),some (.str (tx nm)),some (.str (tx u)),some (.str wd),S,s]=σ';exact rest σ' G3 ⟨u,due,kn,as,qs,_,S,s,X.symm,u3,a0.same aj,D1.same aj,AA,F.n,iq,am⟩
    ·refine⟨_,U,_,U,a,_,_,_,U,U,Z,hz,_,_,U,U,Ap,_,_,U,U,_,U,I9 c2 ?_⟩;have ax:∀{l:Nn},G1 l=none->l∉[L,M,B]:=λh=>nF a0 D1.h h;refine⟨_,U,_,U,_,M,kn,U,D1.kn,ar,W.k,λp l u x G2 g2 np nl hp hl O=>⟨p,_,U,SqT.of hp,U,_,_,U,_,_,U,U,?_⟩⟩;have O2:LnP kn nm 61 u (.ok x)/\En u/\u≠[]/\10∉u/\u.length<=310:=by
      obtain⟨c,v,e,hc,hv⟩:=O.f;refine⟨?_,?_,?_,?_,?_⟩
      ·exact LnP.pat N.n F0 O.r.1
      ·rw[e];exact ApJ hc Ap
      ·rw[e];simp
      ·exact O.r.2
      ·rw[e];simp;lia
     apply AfD (λσ G=>∃(u:NV)(x:NI)(l:Nn)(J s:Option V),σ=[some (.ref a),some (.int I),some (.ref L),some (.ref M),some (.ref B),some (.str due),some (.int A),some (.int (i:Int)),some (.int (z / 8)),some (.str (tx nm)),some (.str (tx u)),J,some (.ref l),s]/\Aw G1 G/\G l=some (.lst (vS x))/\l∉[L,M,B]/\Clo x/\LnP kn nm (if (V.int (z%8):V)=V.int 7 then 58 else 61) u (.ok x)/\En u/\u≠[]/\10∉u/\u.length<=310)
     ·intro aq;refine⟨_,U,_,U,a,_,_,_,U,U,g2.seq Z,hz,_,_,U,U,Ap,U,_,U,CP (λc7=>?_) (λc7=>?_)⟩
      ·refine⟨_,U,_,_,U,U,Ap,_,U,λp' l' u' x' G3 g3 be b0 b5 az O'=>⟨p',_,U,SqT.of b5,U,_,_,U,_,_,U,U,Al0 (R:=λσ H=>_) (σ':=[some (.ref a),some (.int I),some (.ref L),some (.ref M),some (.ref B),some (.str due),some (.int A),some (.int (i:Int)),some (.int (z / 8)),some (.str (tx nm)),some (.str (tx u')),J,some (.ref l'),s]) U ?_⟩⟩;generalize X:[some (.ref a),some (.int I),some (.ref L),some (.ref M),some (.ref B),some (.str due),some (.int A),some (.int (i:Int)),some (.int (z / 8)),some (.str (tx nm)),some (.str (tx u')),J,some (.ref l'),s]=σ';exact aq σ' G3 ⟨u',x',l',J,s,X.symm,g2.trans g3,az,ax (g2.free b0),O'.c,by rw[yF c7];exact .dra N.n F0 O'.r,O'.e,O'.z,O'.n,by have:=O'.l;lia⟩
      ·refine Al0 (R:=λσ H=>_) (σ':=[some (.ref a),some (.int I),some (.ref L),some (.ref M),some (.ref B),some (.str due),some (.int A),some (.int (i:Int)),some (.int (z / 8)),some (.str (tx nm)),some (.str (tx u)),J,some (.ref l),s]) U ?_;generalize X:[some (.ref a),some (.int I),some (.ref L),some (.ref M),some (.ref B),some (.str due),some (.int A),some (.int (i:Int)),some (.int (z / 8)),some (.str (tx nm)),some (.str (tx u)),J,some (.ref l),s]=σ';exact aq σ' G2 ⟨u,x,l,J,s,X.symm,g2,hl,ax nl,O.c,by rw[yE c7];exact O2.1,O2.2.1,O2.2.2.1,O2.2.2.2.1,O2.2.2.2.2⟩
     ·clear O2 O hl nl np hp g2;rintro σ G2 ⟨u,x,l,J,s,rfl,g2,hl,nl,C,LP,Eu,nu,ac,lu⟩;have b6:=g2.seq Z;refine⟨_,U,_,_,U,U,Ap,_,_,U,U,AA,AA,(by show 1*_<=_;lia),?_⟩;rw[AdT];refine⟨_,U,_,U,a,_,_,_,U,U,b6,hz,_,_,U,U,Ap,U,.inr ⟨_,U,_,_,_,U,U,(by rw[Ba];exact big Ap),Au7,?_⟩⟩;generalize hc:(if (V.int (z%8):V)=V.int 7 then 58 else 61)=c at LP ⊢;have sc:Sep c:=by rw[<-hc];split;exact .inr rfl;exact .inl U
      rw[JT];refine⟨_,_,U,U,ln9 (by unfold bl;rw[Ayx];show _+1<=_;lia),?_⟩;rw[Bt];generalize hg:(z / 8%2).toNat=g;have bg:g<=1:=AA
      refine Cw (σ':=[some (.ref a),some (.int I),some (.ref L),some (.ref M),some (.ref B),some (.str due),some (.int A),some (.int (i:Int)),some (.int (z / 8)),some (.str (tx nm)),some (.str (tx u)),J,some (.ref l),some (.str (tx (bl g++[c])))]) U rfl ⟨_,U,_,U,_,_,U,U,ln9 (by unfold bl;rw[AxS,Ayx];show _+(_+1)<=_;lia),?_⟩;rw[Bt];refine⟨_,U,_,_,U,U,⟨Ap,Ap⟩,_,_,U,U,Ap,_,_,U,U,AA,AA,(by show 1*_<=_;lia),?_⟩;rw[AdT];generalize hk:(z / 8 / 2%3).toNat=k;have k2:k<=2:=AA
      refine⟨_,_,U,U,ln9 (by unfold bl;simp only [AxS,Ayx,AxX,Ayu];lia),?_⟩;rw[Bt];refine⟨_,U,_,_,U,U,ln9 (by unfold bl;simp only [AxS,Ayx,AxX,Ayu];lia),?_⟩;rw[Bt,show nm++(bl g++[c])++bl k++u=nm++(bl g++(c::(bl k++u))) by simp];generalize hT:nm++(bl g++(c::(bl k++u)))=T9;refine Cw (σ':=[some (.ref a),some (.int I),some (.ref L),some (.ref M),some (.ref B),some (.str due),some (.int A),some (.int (i:Int)),some (.int (z / 8)),some (.str (tx nm)),some (.str (tx T9)),J,some (.ref l),some (.str (tx (bl g++[c])))]) U rfl ?_;have D2:=D1.same g2;have Y:=a0.same g2;have bd:=D.la;refine⟨_,U,.inl ⟨U,_,yW D2.h⟩,_,U,_,U,AE,λp np=>?_⟩;obtain⟨G3,e9,s3,ba⟩:=nu9 (o:=.tup [.str (tx nm),.ref l]) (.refl _) np;rw[e9];have b7:=nF Y D2.h np;have D3:=D2.same s3;refine⟨_,_,_,U,U,D3.h,(by rw[AxR];lia),?_⟩;have D4:=D3.push (p:=(nm,x)) AB ba (s3 _ _ hl) b7 nl;have aa:LB (upd G3 M (.lst (as.map V.ref++[.ref p]))) L B al zs:=⟨by rw[Ao LM];exact s3 _ _ Y.l,by rw[Ao MB.symm];exact s3 _ _ Y.b⟩;have s4:Aw H (upd G3 M (.lst (as.map V.ref++[.ref p]))):=((u1.trans g2).trans s3).over fM;generalize upd G3 M (.lst (as.map V.ref++[.ref p]))=G4 at D4 aa s4 ⊢;have LN:LnO kn T9 nm (.ok x):=by rw[<-hT];exact ApK N sc Eu LP
      have b4:c≠10:=by unfold Sep at sc;lia
      have nf:=ApX N (v:=bl g++(c::(bl k++u))) (λe=>(by
       rcases zG.mp e with e|e
       ·have:=Od e;lia
       ·rcases yC.mp e with e|e
        ·exact b4 e.symm
        ·rcases zG.mp e with e|e
         ·have:=Od e;lia
         ·exact ac e))
      have lT:T9.length<=800:=by
       rw[<-hT];unfold bl;simp only [AxS,Ayx,AxX];lia
      have ET:En T9:=by
       have:=N.en.app (x:=bl g++(c::bl k)) Eu N.let.1 nu
       rw[<-hT,show bl g++(c::(bl k++u))=(bl g++(c::bl k))++u by simp];exact this
      rw[hT]at nf;generalize X:[some (.ref a),some (.int I),some (.ref L),some (.ref M),some (.ref B),some (.str due),some (.int A),some (.int (i:Int)),some (.int (z / 8)),some (.str (tx nm)),some (.str (tx T9)),J,some (.ref l),some (.str (tx (bl g++[c])))]=σ';have tT:trim T9=T9:=ET.t;have:=W.line (b:=trim T9) (x:=x) hw AA (by rw[(Z7 _).t,tT];exact nf.1.1) (by rw[(Z7 _).t,tT];exact nf.1.2.1) (by rw[(Z7 _).t,tT,au];exact LN) C;rw[au]at this;exact rest σ' G4 ⟨T9,due,kn++[(nm,x)],_,_,J,_,_,X.symm,s4,aa,D4,AA,nf.2,(by rw[tT];exact zJ nf.1.2.2),this⟩
   ·refine DQ c2 (GQ ⟨_,U,_,U,a,_,_,_,U,U,Z,hz,_,_,U,U,Ap,_,_,U,U,_,U,DQ c2 ?_⟩);generalize X:[some (.ref a),some (.int I),some (.ref L),some (.ref M),some (.ref B),some (.str due),some (.int A),some (.int (i:Int)),some (.int (z / 8)),some (.str (tx nm)),some (.str (Str.ofString "")),J,S,s]=σ';exact rest σ' G1 ⟨[],due,kn,as,qs,J,S,s,by rw[<-X,w_n],u1,a0,D1,Ayf _,AB,U,W.skip (.inl U)⟩
  ·rintro σ G2 ⟨u,af,ae,an,ak,J,S,s,rfl,s2,Y,D2,lu,ac,iq,W2⟩;have bc:=PV.l;have bf:=PV.z;refine⟨_,U,.inl ⟨U,_,yW Y.l⟩,_,U,_,_,U,U,Ap,_,_,U,U,AA,AA,(by show 1*_<=_;lia),?_⟩;rw[AdT];refine⟨_,U,_,_,U,U,ln9 (by unfold bl;rw[Ayx];lia),?_⟩;rw[Bt];refine⟨_,U,_,_,U,U,⟨Ap,Ap⟩,_,_,U,U,Ap,_,_,U,U,AA,AA,(by show 1*_<=_;lia),?_⟩;rw[AdT];refine⟨_,_,U,U,ln9 (by unfold bl;rw[AxS,Ayx,Ayx];lia),?_⟩;rw[Bt,Ay0];refine⟨_,_,_,U,U,Y.l,(by rw[Bc];lia),?_⟩;rw[Dj];have pd:=ApW (g:=(z / 8%3).toNat) (k:=(z / 8 / 3%3).toNat) AA AA ⟨ac,lu⟩;have tr:=Z3 (z / 8%3).toNat (z / 8 / 3%3).toNat u;generalize bl (z / 8%3).toNat++(u++bl (z / 8 / 3%3).toNat)=r at pd tr ⊢;have V3:=PV.book (by rw[tr];exact iq) pd;rw[tr]at V3;have s3:=s2.over (o:=.lst (vS (al++[r]))) fL;have D3:=D2.upd (o:=.lst (vS (al++[r]))) (L:=L) AB LM.symm;have ah:LB (upd G2 L (.lst (vS (al++[r])))) L B (al++[r]) zs:=⟨Ae,by rw[Ao ao.symm];exact Y.b⟩;generalize upd G2 L (.lst (vS (al++[r])))=G3 at s3 D3 ah ⊢;refine⟨_,U,_,U,a,_,_,_,U,U,s3.seq hS,hz,_,U,_,_,U,U,_,_,U,U,Ap,U,_,U,CP (λ_=>?_) (λ_=>?_)⟩
   ·refine⟨_,U,.inl ⟨U,_,yW ah.b⟩,_,U,_,U,_,U,z / 8,I,i,U,AA,λj G4 hj s4=>?_⟩;have aa:=ah.same s4;have D4:=D3.same s4;have Nj:=ApV hw hj;generalize nmT (I%3).toNat j=y at Nj ⊢;refine⟨_,_,_,U,U,aa.b,(by rw[Bc];lia),?_⟩;rw[Dj];have s5:=(s3.trans s4).over (o:=.lst (vS (zs++[y]))) fB;have D5:=D4.upd (o:=.lst (vS (zs++[y]))) (L:=B) AB MB;have ab:LB (upd G4 B (.lst (vS (zs++[y])))) L B (al++[r]) (zs++[y]):=⟨by rw[Ao ao];exact aa.l,Ae⟩;generalize upd G4 B (.lst (vS (zs++[y])))=G5 at s5 D5 ab ⊢;refine⟨_,U,.inl ⟨U,_,yW ab.l⟩,_,U,_,_,U,U,Ap,_,_,U,U,AA,AA,(by show 1*_<=_;lia),?_⟩;rw[AdT];generalize hg:(z / 8%2).toNat=g;have g2:g<=2:=AA
    refine⟨_,_,U,U,ln9 (by unfold bl;rw[Ayx];show _+8<=_;lia),?_⟩;rw[Bt];refine⟨_,U,_,U,_,_,_,_,U,U,yW ab.b,Aqd,?_⟩;have yl:=Nj.l;refine⟨_,_,U,U,ln9 (by unfold bl;rw[AxS,Ayx];show _+8+_<=_;lia),?_⟩;rw[Bt];refine⟨_,_,_,U,U,ab.l,(by rw[Bc,AxS];show _+1<_;lia),?_⟩;rw[Dj,show bl g++63::32::(clW++[32])++y=bl g++(qln y++bl 0) by simp[qln,bl]];have tq:=(Z3 g 0 (qln y)).trans (Auz Nj).t;have ay:=(Q3 Nj (v:=[]) ⟨AB,AB⟩).2.1;rw[Ayr]at ay;have pq:=ApW (g:=g) (k:=0) (u:=qln y) g2 Ap ⟨by simp[qln,clW,ay],by simp[qln,clW];lia⟩;generalize bl g++(qln y++bl 0)=x at tq pq;refine⟨_,_,_,_,J,S,s,af,_,_,zs++[y],ae,an,ak,U,s5.over fL,⟨Ae,by rw[Ao ao.symm];exact ab.b⟩,D5.upd AB LM.symm,⟨?_,?_,AiV V3.2.2 pq,?_,?_⟩,λv hv=>?_,W2⟩
    ·rw[AxV,AyD,V3.1,List.map_singleton,tq];exact Ayr _
    ·rw[AxV,AyD,V3.2.1,List.map_singleton,tq,AxV];rfl
    ·rw[AxS,AxS];show _+1+1<=_;lia
    ·rw[AxS];show _+1<=_;lia
    ·rcases zG.mp hv with h|h
     ·exact NZ v h
     ·rw[zF.mp h];exact Nj
   ·exact⟨_,_,_,_,J,S,s,af,_,_,zs,ae,an,ak,U,s3,ah,D3,⟨V3.1,V3.2.1,V3.2.2,by rw[AxS];show _+1<=_;lia,AA⟩,NZ,W2⟩
 ·rintro σ G ⟨v6,v7,v8,v9,J,S,s,due,al,ls,zs,kn,as,qs,rfl,sG,ag,D,PV,NZ,W⟩;have wl:=PV.l;have fl:=Ach (k:=950) (x:=al) λr hr=>(PV.n r hr).2;have su:=ApY (k:=950) (x:=al) λr hr=>(PV.n r hr).2;have jl:(jnS [10] al).length<=(al.map λu=>u.length+1).sum:=Acf _ _;refine⟨U,_,U,_,_,al.map tx,U,U,yW (by rw[ag.l,Gj]),(by rw[Iu,AxR,Ba];show _+_*1<=_;lia),?_⟩;rw[Q4];refine⟨_,U,_,U,_,U,(by show 4<=sizeLine;decide),λp np=>?_⟩;have Pk:∀o,BkO [] ls o->∃a6,jn 10 a6=jnS [10] al/\Pp a6 zs o:=λo B=>by
   have b:=PV.b;have q:=PV.q;cases al with
   |nil =>
    have e1:ls=[]:=b.symm;have e2:zs=[]:=List.map_eq_nil_iff.mp q.symm;rw[e1]at B;rw[e2];exact⟨[[]],U,AB,(λl hl=>by rw[zF.mp hl];simp),Ap,Ap,.skip (.inl U) B,Ap,U,λz hz=>by cases hz⟩
   |cons x r =>
    refine⟨x::r,(Ahr 10 _).symm,AB,λl hl=>(PV.n l hl).1,AA,by rw[<-Ahr];lia,by rw[b];exact B,?_,q,NZ⟩;rw[b];intro e;have:=W.l;rw[e]at this;rw[AxX]at wl;rw[Ayu]at this;lia
  have D9:Md (upd G p (.tup [.str (tx (jnS [10] al)),.ref M,.ref B,.str due])) [] M kn as qs:=by
   have D':=D.same (.upd np (o:=.tup [.str (tx (jnS [10] al)),.ref M,.ref B,.str due]));exact⟨D'.h,D'.la,D'.lq,λi a q p h1 h2 h3=>⟨(D'.e i a q p h1 h2 h3).1,(D'.e i a q p h1 h2 h3).2.1,AB,AB⟩⟩
  have av:(upd G p (.tup [.str (tx (jnS [10] al)),.ref M,.ref B,.str due])) B=some (.lst (vS zs)):=by rw[Ao (Bf ag.b np)];exact ag.b
  have kl:kn.length<=60:=by have:=W.c;lia
  have zl:zs.length<=60:=by have:=PV.z;lia
  by_cases c:due=""
  ·obtain⟨a6,e,P⟩:=Pk (.ok kn) (by have:=W.g c [] _ .nil;rwa [Ayr]at this);exact kQ p M B a6 zs kn as qs due _ (sG.new np) (by rw[e];exact Ae) D9 W.k kl zl av (λ_=>P) λn=>yG c n
  ·obtain⟨a6,e,P⟩:=Pk (.no due) (by have:=W.d c [];rwa [Ayr]at this);exact kQ p M B a6 zs kn as qs due _ (sG.new np) (by rw[e];exact Ae) D9 W.k kl zl av (λy=>yG y c) λ_=>P
end
def W6 (wd:Str):Prop:=wd="NoPattern" \/ wd="Twice" \/ wd="Unknown" \/ wd="TooLarge" \/ wd="NoDraft" \/ wd="NoRow"
theorem D3.w6{rs:List Rc}(D:D3 r0 rs r2)(h:fwd r0 rs r2≠""):W6 (fwd r0 rs r2):=by
 have m:=Ap9 h;have:∃r:Rc,r.Ok/\r.wd=fwd r0 rs r2:=by
  rcases zG.mp m with m|m
  ·rcases yC.mp m with m|m
   ·exact⟨r0,D.o0,m.symm⟩
   ·obtain⟨r,a,e⟩:=yB.mp m;exact⟨r,D.os r a,e⟩
  ·exact⟨r2,D.o2,(zF.mp m).symm⟩
 obtain⟨r,O,e⟩:=this;rw[<-e]at h ⊢;have k:=O.k;generalize r.wd=wd at h k ⊢;cases k with
 |good _=>exact yG U h
 |no _=>exact .inr (.inr (.inr (.inr (.inr U))))
 |big _=>exact .inr (.inr (.inr (.inl U)))
theorem Au8{o:Lo}(h:DrO u o):∀{wd:Str},o=.no wd->W6 wd:=by
 intro wd e;cases h with
 |no D h=>cases e;exact D.w6 h
 |bad _ _ _=>cases e;exact .inr (.inr (.inr (.inr (.inl U))))
 |ok _ _ _=>cases e
 |part _=>cases e;exact .inr (.inr (.inr (.inr (.inl U))))
theorem Au9{kn:Kns}{o:Lo}(h:LnP kn z c u o):∀{wd:Str},o=.no wd->W6 wd:=by
 intro wd e;cases h with
 |name _=>cases e;exact .inl U
 |twice _ _=>cases e;exact .inr (.inl U)
 | @pat _ R _ _ _ =>
  cases R with
  |ok x=>cases e
  |no f =>
   cases e;cases f with
   |nop=>exact .inl U
   |big=>exact .inr (.inr (.inr (.inl U)))
   |unk=>exact .inr (.inr (.inl U))
 |dra _ _ D=>exact Au8 D e
theorem AuA{kn:Kns}{l:NV}(h:LnO kn l z (.no wd)):W6 wd:=by
 generalize e:(Lo.no wd)=o at h;cases h with
 |part _=>cases e;exact .inl U
 |line _ _ P=>exact Au9 P e.symm
theorem AuB{kn:Kns}{bs:NI}(h:BkO kn bs (.no wd)):W6 wd:=by
 generalize e:(Bo.no wd)=o at h
 induction h with
 |nil=>cases e
 |skip _ _ a=>exact a e
 |line _ _ _ _ _ a=>exact a e
 |stop _ _ L=>cases e;exact AuA L
section
variable {K:NO}{base:Heap}{t:Adr}
inductive Aqg (t:Adr)(vs:LI)(H:Hp)(Q:VK)(z3:XK):Prop
|mk(al:NI)(zs:NI)(o:Bo)(_:vs=[.str (tx (jn 10 al))])(_:Pp al zs o)(_:(∀kn,o=.ok kn->∀p q as ls H',Aw H H'->H' p=some (.tup [.str "",.ref q])->H' q=some (.lst (as.map V.ref))->As H H' kn zs as ls->as.length=zs.length->q∉ls->Q (.ref p) H'))(_:(∀wd,o=.no wd->∀p H',Aw H H'->H' p=some (.tup [.str wd,.non])->Q (.ref p) H'))
theorem AdV(T:Txt K mg t):Bm P w K mg base CX0 46 t.Ou t.Ov ["text"] (Aqg t):=by
 refine T.Nx.F.ok Dv ?_;rintro _ _ _ _ H _ Q E l ⟨al,zs,o,rfl,B,f,h⟩;refine⟨_,(Ac (Bd (i:=1) Dv.nd U NN Af)
  (Ac (Bd (i:=2) Dv.nd U NN W3)
  (Ac (AqL ⟨U,U,U⟩ U (AhG (AqH (i:=2) Dv.nd U NN (AhE ((AdS T).mono Ap) l U T.QS.m T.QS.F.kp T.QS.b .nil (Aa (pv 0) Ab)))) (.cons U T.BX T.BW.q Lp (λ_=>(Ad (Bd (i:=1) Dv.nd U NN Af))) Ap (.cons U T.AkK T.Agx.q Lp (λ_=>(Ad (Bd (i:=1) Dv.nd U NN Af))) Ap (.cons U T.Af0 T.Qn.q Lp (λ_=>(Ad (Bd (i:=1) Dv.nd U NN Af))) Ap (.cons U T.QW T.Mu.q Lp (λ_=>(Ad (Bd (i:=1) Dv.nd U NN Af))) Ap (.cons U T.Js T.Hx.q Lp (λ_=>(Ad (Bd (i:=1) Dv.nd U NN Af))) Ap (.cons U T.Lb T.J8.q Lp (λ_=>(Ad (Bd (i:=1) Dv.nd U NN Af))) Ap .nil)))))))
  (Ad (Az (CT (Aa (pv 1) (Aa (pv 2) Ab)))))))),?_⟩;refine Cw U rfl (Cw U rfl ⟨_,U,al,zs,o,U,B,?_⟩);cases o with
 |ok kn =>
  intro q as ls H1 d e _ n j c;exact Cw U rfl ⟨_,U,_,U,AE,λp np=>f kn U p q as ls _ (d.new np) Ae (by rw[Ao (Bf e np)];exact e) (n.same (.upd np)) j c⟩
 |no wd =>
  intro H1 d;have fin:∀{G:Hp} {p:Nn},Aw H G->G p=none->Q (.ref p) (upd G p (.tup [.str wd,.non])):=λs np=>h wd U _ _ (s.new np) Ae;rcases AuB B.b with rfl|rfl|rfl|rfl|rfl|rfl
  ·exact⟨t.BK,U,⟨_,_,T.BW.q⟩,λea a=>.inl ⟨Exn.has T.Tc,Cw U rfl ⟨_,U,_,U,AE,λq c=>fin (d.new a) c⟩⟩⟩
  ·exact⟨t.EY,U,⟨_,_,T.Agx.q⟩,λea a=>.inr ⟨Exn.has T.Zf,.inl ⟨Exn.has T.Aeo,Cw U rfl ⟨_,U,_,U,AE,λq c=>fin (d.new a) c⟩⟩⟩⟩
  ·exact⟨t.CQ,U,⟨_,_,T.Qn.q⟩,λea a=>.inr ⟨Exn.has T.Vw,.inr ⟨Exn.has T.AbB,.inl ⟨Exn.has T.Ze,Cw U rfl ⟨_,U,_,U,AE,λq c=>fin (d.new a) c⟩⟩⟩⟩⟩
  ·exact⟨t.Ca,U,⟨_,_,T.Mu.q⟩,λea a=>.inr ⟨Exn.has T.Uv,.inr ⟨Exn.has T.Aam,.inr ⟨Exn.has T.Xc,.inl ⟨Exn.has T.Vu,Cw U rfl ⟨_,U,_,U,AE,λq c=>fin (d.new a) c⟩⟩⟩⟩⟩⟩
  ·exact⟨t.BZ,U,⟨_,_,T.Hx.q⟩,λea a=>.inr ⟨Exn.has T.Vv,.inr ⟨Exn.has T.AbA,.inr ⟨Exn.has T.Zd,.inr ⟨Exn.has T.Xd,.inl ⟨Exn.has T.Zc,Cw U rfl ⟨_,U,_,U,AE,λq c=>fin (d.new a) c⟩⟩⟩⟩⟩⟩⟩
  ·exact⟨t.Dz,U,⟨_,_,T.J8.q⟩,λea a=>.inr ⟨Exn.has T.Zb,.inr ⟨Exn.has T.Aen,.inr ⟨Exn.has T.Ab9,.inr ⟨Exn.has T.Aal,.inr ⟨Exn.has T.Ab8,.inl ⟨Exn.has T.Aem,Cw U rfl ⟨_,U,_,U,AE,λq c=>fin (d.new a) c⟩⟩⟩⟩⟩⟩⟩⟩
theorem An.upd{G:Hp}{a l r:Nn}{x:Res}{o:HO}{xs:LI}(h:An G a l x)(b:G r=some (.lst xs))(n:r≠l):An (upd G r o) a l x:=by
 cases x with
 |ok x=>exact⟨by rw[Ao λe=>by rw[<-e,h.1]at b;cases b];exact h.1,by rw[Ao n.symm];exact h.2⟩
 |no f =>
  have h:G a=_:=h;exact(Ao λe=>AC).trans h
theorem As.upd{kn:Kns}{ls:NW}{xs:LI}(A:As H0 G kn zs as ls)(d:G r=some (.lst xs))(c:r∉ls):As H0 (L2.upd G r o) kn zs as ls:=⟨A.la,A.lz,A.nd,λi a l z h1 h2 h3=>(A.e i a l z h1 h2 h3).upd d λe=>c (by rw[e];exact Ayb h2),λl b=>⟨(A.f l b).1,by rw[Ao λe=>c (by rw[<-e];exact b)];exact(A.f l b).2⟩⟩
def DV (kn:Kns)(qs:NW)(i:Nat)(kvs:List (Key×V)):Prop:=∀z,(∃j q p,j<i/\qs[j]?=some q/\kn[j]?=some p/\p.1=z/\O6 kvs (.inr (tx z))=some (.ref q))\/(∀j p,j<i->kn[j]?=some p->p.1≠z)/\O6 kvs (.inr (tx z))=none
inductive Asi (vs:LI)(H:Hp)(Q:VK)(z3:XK):Prop
|mk(m:Nn)(b:Nn)(kn:Kns)(as:NW)(qs:NW)(zs:NI)(_:vs=[.ref m,.ref b])(_:Md H [] m kn as qs)(_:Kno kn)(_:kn.length<=60)(_:H b=some (.lst (vS zs)))(_:zs.length<=200)(_:∀r cs ls H',Aw H H'->H r=none->H' r=some (.lst (cs.map V.ref))->As H H' kn zs cs ls->cs.length=zs.length->Q (.ref r) H')
theorem AdW(T:Txt K mg t):Bm P w K mg base CX0 1 t.Oq t.Ot ["made","asked"] Asi:=by
 refine T.Nv.F.ok Fy ?_;rintro _ _ _ _ H _ Q E hr ⟨m,b,kn,as,qs,zs,rfl,D,Kk,kl,hb,zl,k⟩;refine⟨_,(Ac (Bd (i:=2) Fy.nd U NN AnD)
  (Ac (DP yJ U (BJ (K:=K) (pv 0)) (IW U (CG (Bs (i:=3) Fy.nd U NN) (CG (Bs (i:=4) Fy.nd U NN) GJ)))
   (Ad (AqW (Ans hr) (pv 2) (pv 3) (pv 4) U)))
  (Ac (Bd (i:=5) Fy.nd U NN (Cm Ab))
  (Ac (DP yJ U (BJ (K:=K) (pv 1)) (Bs (i:=3) Fy.nd U NN)
   (Ad (Bl (AmZ (Atz (Ans hr) (pv 3) (pv 2)))
    (Ad (Bj (Bx (K:=K) zM zL zQ Dg (pv 5) (Aa (CT (Aa Af (Aa (BR (Fj (K:=K)) U T.Jq Hk (Aa (AqV (Ans hr) (pv 2) (pv 3) (λ_ _=>rfl)) Ab)) Ab))) Ab))))
    (Ad (Bj (Bx (K:=K) zM zL zQ Dg (pv 5) (Aa (CT (Aa Af (Aa Af Ab))) Ab)))))))
  (Ad (Az (pv 5))))))),?_⟩;have hsz:=z7;intro d nd;have s1:Aw H (upd H d (.dK [])):=.upd nd;have h1:(upd H d (.dK [])) d=some (.dK []):=Ae;have len:(as.map V.ref).length=kn.length:=by rw[AxR,D.la]
 refine⟨_,U,_,U,⟨_,yW (s1 _ _ D.h)⟩,Ff (λi σ G=>∃(I C:Option V)(kvs:List (Key×V)),σ=[some (.ref m),some (.ref b),some (.ref d),I,C,none]/\Aw H G/\G d=some (.dK kvs)/\kvs.length<=i/\DV kn qs i kvs) ⟨_,_,[],U,s1,h1,AxU _,λz=>.inr ⟨λj p B=>yG B (Nat.not_lt_zero _),U⟩⟩ (λi σ G _ ⟨_,_,_,_,s,_⟩=>yW (s _ _ D.h)) ?_ ?_⟩
 ·rintro i xv σ G W ⟨I,C,kvs,rfl,x,y,ab,X⟩;rw[AxZ]at W;obtain⟨a,R,rfl⟩:=zU.mp W;have hi:i<kn.length:=by rw[<-D.la];exact(zC.mp R).1
  obtain⟨q,S⟩:∃q,qs[i]?=some q:=⟨_,AxT (by rw[D.lq];exact hi)⟩;obtain⟨p,J⟩:∃p,kn[i]?=some p:=⟨_,AxT hi⟩;have E:=D.e i a q p R S J;refine⟨a,_,U,SqT.of (x _ _ E.1),U,_,_,U,_,_,U,U,_,U,_,U,_,U,d,_,U,AnB.k (k:=.inr (tx p.1)) y AA,_,_,_,U,x.over nd,Ae,Ayh (AaA _ _ _) AA,λz=>?_⟩;rw[An9];by_cases c:p.1=z
  ·exact .inl ⟨i,q,p,AyF i,S,J,c,yF (by rw[c])⟩
  ·rw[yE (λe=>c (Ja (Sum.inr.inj e)).symm)];rcases X z with ⟨j,q',p',B,r⟩|⟨h,e⟩
   ·exact .inl ⟨j,q',p',AA,r⟩
   ·refine .inr ⟨λj p' B a0=>?_,e⟩;by_cases cj:j=i
    ·simp_all
    ·exact h j p' AA a0
 ·rintro σ G ⟨I,C,kvs,rfl,x,y,_,X⟩;rw[len]at X;refine⟨AD,λr nr=>?_⟩;have s2:Aw G (upd G r (.lst [])):=.upd nr;have h2:(upd G r (.lst [])) r=some (.lst []):=Ae;have fr:=x.free nr;have u2:=x.trans s2;have aa:=s2 _ _ y;have a6:=Bf y nr;refine⟨_,U,_,U,⟨_,yW (u2 _ _ hb)⟩,Ff (λi σ G=>∃(I C:Option V)(cs ls:NW),σ=[some (.ref m),some (.ref b),some (.ref d),I,C,some (.ref r)]/\Aw H G/\G d=some (.dK kvs)/\G r=some (.lst (cs.map V.ref))/\cs.length=i/\r∉ls/\As H G kn zs cs ls) ⟨_,_,[],[],U,u2,aa,h2,U,AB,U,Ayf _,List.nodup_nil,(λi a l z g=>by simp at g),λl hl=>by cases hl⟩ (λi σ G _ ⟨_,_,_,_,_,s,_⟩=>yW (s _ _ hb)) ?_ ?_⟩
  ·rintro i xv σ G W ⟨I,C,cs,ls,rfl,x,y,n,cl,M,A⟩;obtain⟨z,hz,rfl⟩:=Fw W;have hi:=(zC.mp hz).1;refine⟨_,U,_,U,d,_,U,Agb.k (k:=.inr (tx z)) y,_,U,?_⟩;have fin:∀{G':Hp} {a l:Nn},Aw G G'->G l=none->G' l≠none->An G' a l (known kn z)->∃(u v:NW),Aw H (upd G' r (.lst (cs.map V.ref++[.ref a])))/\(upd G' r (.lst (cs.map V.ref++[.ref a]))) d=some (.dK kvs)/\(upd G' r (.lst (cs.map V.ref++[.ref a]))) r=some (.lst (u.map V.ref))/\u.length=i+1/\r∉v/\As H (upd G' r (.lst (cs.map V.ref++[.ref a]))) kn zs u v:=λ{G' a l} s' O sl hA=>by
    have rl:r≠l:=λe=>AD
    have N:r∉ls++[l]:=by simp[M,rl]
    exact⟨cs++[a],ls++[l],(x.trans s').over fr,by rw[Ao a6];exact s' _ _ y,by rw[Ae,AxV];rfl,by rw[AxS,cl];rfl,N,(A.push s' (by rw[cl];exact hz) hA O (x.free O) sl).upd (s' _ _ n) N⟩
   rcases X z with ⟨j,q,p,B,S,J,rfl,e⟩|⟨h,e⟩
   ·have kz:=Kk.k p (Ayb J);rw[e];have R:=AxT (by rw[D.la];exact B);have E:=D.e j _ q p R S J;refine⟨_,U,.inl ⟨U,_,yW n⟩,_,U,_,U,d,.ref q,U,(by have:= Agb.k (k:=.inr (tx p.1)) y;rw[e]at this;exact this),_,_,U,.inl (yW (x _ _ E.2.1)),λl O=>?_⟩;obtain⟨G5,e9,s5,h5⟩:=nu9 (o:=.lst (vS p.2)) (.refl _) O;rw[e9];refine⟨AE,λa Y=>?_⟩;have L:Aw G5 (upd G5 a (.tup [.str "cloth",.ref l])):=.upd Y;have Z:(upd G5 a (.tup [.str "cloth",.ref l])) a=some (.tup [.str "cloth",.ref l]):=Ae;have h7:=L _ _ h5;refine⟨_,_,_,U,U,L _ _ (s5 _ _ n),AD,?_⟩;obtain⟨u,v,f⟩:=fin (s5.trans L) O (by rw[h7];simp) (by rw[kz];exact⟨Z,h7⟩);exact⟨_,_,u,v,U,f⟩
   ·have kz:=AiR λp J=>(by
     obtain⟨j,B⟩:=List.getElem?_of_mem J;exact h j p (zC.mp B).1 B)
    rw[e];refine⟨_,U,.inl ⟨U,_,yW n⟩,AE,λa Y=>?_⟩;have L:Aw G (upd G a (.tup [.str "refused",.str "Unknown"])):=.upd Y;have Z:(upd G a (.tup [.str "refused",.str "Unknown"])) a=some (.tup [.str "refused",.str "Unknown"]):=Ae;refine⟨_,_,_,U,U,L _ _ n,AD,?_⟩;obtain⟨u,v,f⟩:=fin L Y (by rw[Z];simp) (by rw[kz];exact Z);exact⟨_,_,u,v,U,f⟩
  ·rintro σ G ⟨I,C,cs,ls,rfl,x,y,n,cl,M,A⟩;rw[Bc]at cl;exact⟨_,U,k r cs ls G x fr n A cl⟩
theorem Pp.zl{o:Bo}(P:Pp al zs o):zs.length<=200:=by have:= Azf isQ (al.map trim);rw[P.q,AxR,AxR]at this;exact Ayh this P.l
theorem Asj{c m:Nn}{x:Res}(h:An G a l x)(g:An G c m x):Aiq K G (n+2) (.ref a) (.ref c):=by
 cases x with
 |ok x =>
  refine .tup (SqT.of h.1) (SqT.of g.1) U λj x y f1 b=>?_
  match j with
  | 0 =>
   cases f1;cases b;exact .flat U
  | 1 =>
   cases f1;cases b;refine .lst (yW h.2) (yW g.2) U λk x y f1 b=>?_;rw[f1]at b;cases b;obtain⟨v,_,rfl⟩:=Fw f1;exact .flat U
  |j+2=>cases f1
 |no f =>
  refine .tup (SqT.of h) (SqT.of g) U λj x y f1 b=>?_;rw[f1]at b;cases b
  match j with
  | 0=>cases f1;exact .flat U
  | 1=>cases f1;exact .flat U
  |j+2=>cases f1
def ad (n i:Nat):Res->Res
 | .ok x=>.ok (if i<n then x++[dec i] else x)
 |r=>r
structure Lw (G:Hp)(q r:Nn)(as ls cs ms:NW)(zs:NI)(kn:Kns)(n:Nat):Prop where
 q:G q=some (.lst (as.map V.ref))
 r:G r=some (.lst (cs.map V.ref))
 e:∀(i:Nat) a l z,as[i]?=some a->ls[i]?=some l->zs[i]?=some z->An G a l (ad n i (known kn z))
 f:∀(i:Nat) a l z,cs[i]?=some a->ms[i]?=some l->zs[i]?=some z->An G a l (known kn z)
theorem As6{x:Res}(h:i≠n):ad (n+1) i x=ad n i x:=by
 cases x with
 |ok x =>
  show Res.ok (if i<n+1 then x++[dec i] else x)=Res.ok (if i<n then x++[dec i] else x);grind
 |no f=>rfl
theorem Lw.skip{ls:NW}{kn:Kns}{f:Rf}(L:Lw G q r as ls cs ms zs kn n)(b:zs[n]?=some z)(hk:known kn z=.no f):Lw G q r as ls cs ms zs kn (n+1):=⟨L.q,L.r,λi a l y h1 h2 h3=>by
 by_cases c:i=n
 ·subst c;rw[b]at h3;cases h3;have:= L.e i a l z h1 h2 b;rw[hk]at this ⊢;exact this
 ·rw[As6 c];exact L.e i a l y h1 h2 h3,L.f⟩
theorem Lw.app{ls:NW}{kn:Kns}(L:Lw G q r as ls cs ms zs kn n)(o:zs[n]?=some z)(d:ls[n]?=some l)(hk:known kn z=.ok x)(nd:ls.Nodup)(s:q∉ls)(u:r∉ls)(nm:∀m∈ms,m∉ls)(b:G l=some (.lst (vS x))):Lw (upd G l (.lst (vS (x++[dec n])))) q r as ls cs ms zs kn (n+1):=by
 have j:=Ayb d;refine⟨by rw[Ao (ne_in s j)];exact L.q,by rw[Ao (ne_in u j)];exact L.r,λi a p y h1 h2 h3=>?_,λi a m y h1 h2 h3=>(L.f i a m y h1 h2 h3).upd b λe=>nm m (Ayb h2) (e▸j)⟩;by_cases c:i=n
 ·subst c;rw[o]at h3;cases h3;rw[d]at h2;cases h2;have:= L.e i a l z h1 d o;rw[hk]at this ⊢;have h:=this.1;refine⟨by rw[Ao λe=>by rw[<-e,h]at b;cases b];exact h,?_⟩;rw[Ae,yF (AyF _)]
 ·rw[As6 c];exact(L.e i a p y h1 h2 h3).upd b λe=>c ((List.getElem?_inj (zC.mp h2).1 nd).mp (by rw[h2,d,e]))
theorem Lw.same{ls:NW}{kn:Kns}(L:Lw G q r as ls cs ms zs kn n)(s:Aw G G'):Lw G' q r as ls cs ms zs kn n:=⟨s _ _ L.q,s _ _ L.r,λi a l z h1 h2 h3=>(L.e i a l z h1 h2 h3).same s,λi a l z h1 h2 h3=>(L.f i a l z h1 h2 h3).same s⟩
inductive Ahv (K:NO)(vs:LI)(H:Hp)(Q:VK)(z3:XK):Prop
|mk(a:Nn)(ns:NF)(_:vs=[.ref a])(_:SqL K H a (vI ns))(_:ns.length<=63)(_:∀H',Q (.bl true) H')
theorem Ahw{K:NO}{ns:NF}(c:ns.length<=63)(b:SqL K H a (ns.map V.int)):Ahv K [.ref a] H (λv _=>v=.bl true) λ_ _ _=>False:=⟨a,ns,U,b,c,λ_=>rfl⟩
theorem AuC(T:Txt K mg t):Bm P w K mg base CX0 47 t.Asv t.Ao4 ["script"] (Ahv K):=by
 have S:Bm P w K mg base CX0 4 t.Om t.Oo _ _:=AdU T;have a6:Bm P w K mg base CX0 46 t.Ou t.Ov _ _:=AdV T;have aa:Bm P w K mg base CX0 1 t.Oq t.Ot _ _:=AdW T;refine T.law.F.ok Oh ?_;rintro _ _ _ _ H _ Q E I ⟨a,ns,rfl,hS,Z,kQ⟩;refine⟨_,(Ac (W4 (Aj (S.mono Ap) I U T.Nu.m T.Nu.F.kp T.Nu.b .nil Ay (Aa (pv 0) Ab)) (IW U (CG (Bs (i:=1) Oh.nd U NN) (CG (Bs (i:=2) Oh.nd U NN) (CG (Bs (i:=3) Oh.nd U NN) (CG (Bs (i:=4) Oh.nd U NN) GJ))))))
  (Ac (W4 (Aj (a6.mono Ap) I U T.Nx.m T.Nx.F.kp T.Nx.b .nil Ay (Aa (pv 1) Ab)) (IW U (CG (Bs (i:=5) Oh.nd U NN) (CG (Bs (i:=6) Oh.nd U NN) GJ))))
  (Ac (Bl (Ai Lh (pv 4) Af (Av _))
   (Ad (Az (Jv Cj (pv 5) (pv 4) (Av _))))
   Aq)
  (Ac (Bd (i:=7) Oh.nd U NN (Aj (aa.mono Ap) I U T.Nv.m T.Nv.F.kp T.Nv.b .nil Ay (Aa (pv 2) (Aa (pv 3) Ab))))
  (Ac (Bl (PW.pt (pw_or (Ai Lh (pv 5) Af (Av _)) (pw_or (Hr (Fb (Bb (Afb (K:=K)) U T.Za V2 (Aa (pv 6) (Aa (Akl (v:=.ty "list") U T.Jq Hk U) Ab))))) (pw_or1 (Ai (AtM (K:=K) (I.AnG)) (pv 6) (pv 7) (Av _))))))
   (Ad (Az AeN))
   Aq)
  (Ac (DP yJ U (Ea U T.Es (Aa (Bb (Ax (K:=K)) U T.Cd Bv (Aa (pv 6) Ab)) Ab)) (Bs (i:=8) Oh.nd U NN)
   (Ad (Bl (Ai Cj (Bq (Ep (K:=K)) (Bq (Be (K:=K)) (pv 6) (pv 8) (λ_ _=>rfl)) Ah (λ_ _=>rfl)) Af (Av _))
    (Ad (Bj (Bx (K:=K) zM zL zQ Dg (Bq (Ep (K:=K)) (Bq (Be (K:=K)) (pv 6) (pv 8) (λ_ _=>rfl)) Ah (λ_ _=>rfl)) (Aa (BR Dy U T.Sq JV (Aa (pv 8) Ab)) Ab))))
    Aq)))
  (Ac (DP yJ U (Ea U T.Es (Aa (Bb (Ax (K:=K)) U T.Cd Bv (Aa (pv 6) Ab)) Ab)) (Bs (i:=8) Oh.nd U NN)
   (Ad (Bl (PW.pt (pw_and (Ai Cj (Bq (Ep (K:=K)) (Bq (Be (K:=K)) (pv 6) (pv 8) (λ_ _=>rfl)) Ah (λ_ _=>rfl)) Af (Av _)) (pw_and1 (Ai (AqZ (K:=K) (I.AsY)) (Bq (Ep (K:=K)) (Bq (Be (K:=K)) (pv 6) (pv 8) (λ_ _=>rfl)) Ah (λ_ _=>rfl)) (Ak Lk (Bq (Ep (K:=K)) (Bq (Be (K:=K)) (pv 7) (pv 8) (λ_ _=>rfl)) Ah (λ_ _=>rfl)) (Cm (Aa (BR Dy U T.Sq JV (Aa (pv 8) Ab)) Ab))) (Av _)))))
    (Ad (Az AeN))
    Aq)))
  (Ad (Az AeN))))))))),?_⟩;refine⟨_,U,a,ns,U,hS,Z,λp m b al zs kn X a0 due H1 s1 hp D Kk kl zl hb B1 B2=>⟨p,_,U,SqT.of hp,U,_,_,U,_,_,U,_,_,U,_,_,U,U,?_⟩⟩;by_cases c:due=""
 ·have P1:=B1 c;refine⟨_,U,al,zs,.ok kn,U,P1,λab e p' q as ls H2 Y o hq u n nq=>?_,λwd e=>by cases e⟩;cases e;refine⟨p',_,U,SqT.of o,U,_,_,U,_,_,U,U,_,U,U,_,U,Vz (by rw[c]) ?_⟩;have z2:=P1.zl;refine⟨_,U,_,U,m,b,kn,X,a0,zs,U,D.same Y,Kk,kl,Y _ _ hb,z2,λr cs ms H3 R fr af B cl=>?_⟩;have M:Lw H3 q r as ls cs ms zs kn 0:=⟨R _ _ hq,af,λi a l z h1 h2 h3=>by
   have:= (u.same R).e i a l z h1 h2 h3;cases e:known kn z with
   |ok x=>rw[e]at this;exact this
   |no f=>rw[e]at this;exact this,B.e⟩
  have nr:=λe=>(u.f r e).2 fr;have nm:=λm O e=>(u.f m e).2 (B.f m O).1;refine⟨_,U,U,_,U,_,U,_,_,true,.lst (R _ _ hq),.inl ⟨_,U,AiC K "list"⟩,_,U,?_⟩;have ac:AvJ K H3 q r:=by
   refine⟨_,_,yW M.q,yW M.r,AC,λi x y e1 e2=>?_⟩;rw[AxZ]at e1 e2;obtain⟨a,ea,rfl⟩:=zU.mp e1;obtain⟨c,ec,rfl⟩:=zU.mp e2;have hi:=(zC.mp ea).1;have h1:=AxT (by rw[<-u.la];exact hi);have h2:=AxT (by rw[<-B.la,cl,<-n];exact hi);have h3:=AxT (by rw[<-n];exact hi);exact Asj ((u.same R).e i a _ _ ea h1 h3) (B.e i c _ _ ec h2 h3)
  refine⟨_,U,_,U,q,r,U,U,ac,_,U,GQ ?_⟩;have aq:(as.map V.ref).length=zs.length:=AC
  have hsz:=z7;have get:∀{i:Nat},i<zs.length->∃a l c m z,as[i]?=some a/\ls[i]?=some l/\cs[i]?=some c/\ms[i]?=some m/\zs[i]?=some z:=λ{i} hi=>⟨_,_,_,_,_,AxT (by rw[n];exact hi),AxT (by rw[<-u.la,n];exact hi),AxT (by rw[cl];exact hi),AxT (by rw[<-B.la,cl];exact hi),AxT hi⟩;have lx:∀{z:NV} {x:NI},known kn z=.ok x->x.length<=40:=λ{z x} h=>by
   unfold known at h;split at h
   ·next p hp=>cases h;exact(Kk.c _ (List.mem_of_find?_eq_some hp)).n40
   ·cases h
  have d:∀{xs:NW} {i:Nat} {a:Nn},xs[i]?=some a->atI (xs.map V.ref) (i:Int)=some (.ref a):=λh=>Bw AA AC;refine⟨_,U,_,_,U,.inl (yW M.q),_,U,AA,AA,?_⟩;rw[Ayi,aq];refine GK (λi σ G=>∃s,σ=[some (.ref a),some (.str (tx (jn 10 al))),some (.ref m),some (.ref b),some (.str due),some (.str (Str.ofString "")),some (.ref q),some (.ref r),s]/\Lw G q r as ls cs ms zs kn i) ⟨_,U,M⟩ ?_ ?_
  ·rintro i σ G hi ⟨s,rfl,L⟩;obtain⟨a1,C,c1,m1,z,j,N,hc,O,A⟩:=get hi;have E:=L.e i a1 C z j N A;refine Cw (congrArg V.int (Ay5 _)) U ?_;rcases AdR kn z with k0|⟨x,k0⟩
   ·have h:G a1=some (.tup [.str "refused",.str "Unknown"]):=by rw[k0]at E;exact E
    exact⟨_,U,_,U,_,_,_,_,U,U,yW L.q,d j,_,_,_,_,U,U,SqT.of h,Bw Ap U,U,_,U,DQ At ⟨_,U,L.skip A k0⟩⟩
   ·have E':An G a1 C (.ok (if i<i then x++[dec i] else x)):=by rw[k0]at E;exact E
    rw[yE (Ay4 i)]at E';refine⟨_,U,_,U,_,_,_,_,U,U,yW L.q,d j,_,_,_,_,U,U,SqT.of E'.1,Bw Ap U,U,_,U,I9 U ⟨_,U,_,U,_,_,_,_,U,U,yW L.q,d j,_,_,_,_,U,U,SqT.of E'.1,Bw Ap U,.inl ⟨U,_,yW E'.2⟩,_,U,_,U,lg AA,?_⟩⟩;rw[ZW];refine⟨_,_,_,U,U,E'.2,(by have:= lx k0;rw[Bc];lia),?_⟩;rw[Dj];exact⟨_,U,L.app A N k0 u.nd nq nr nm E'.2⟩
  ·rintro σ G ⟨s,rfl,L⟩;refine⟨_,U,_,_,U,.inl (yW L.q),_,U,AA,AA,?_⟩;rw[Ayi,aq];refine GK (λi σ G=>∃s,σ=[some (.ref a),some (.str (tx (jn 10 al))),some (.ref m),some (.ref b),some (.str due),some (.str (Str.ofString "")),some (.ref q),some (.ref r),s]/\Lw G q r as ls cs ms zs kn zs.length) ⟨_,U,L⟩ ?_ ?_
   ·rintro i σ G hi ⟨s,rfl,L⟩;obtain⟨a1,C,c1,m1,z,j,N,hc,O,A⟩:=get hi;have E:=L.e i a1 C z j N A;have F:=L.f i c1 m1 z hc O A;refine Cw (congrArg V.int (Ay5 _)) U ?_;rcases AdR kn z with k0|⟨x,k0⟩
    ·have h:G a1=some (.tup [.str "refused",.str "Unknown"]):=by rw[k0]at E;exact E
     exact⟨_,U,_,U,_,_,_,_,U,U,yW L.q,d j,_,_,_,_,U,U,SqT.of h,Bw Ap U,U,_,U,DQ At (GQ ⟨_,U,L⟩)⟩
    ·rw[k0]at F;have E':An G a1 C (.ok (if i<zs.length then x++[dec i] else x)):=by rw[k0]at E;exact E
     rw[yF hi]at E';refine⟨_,U,_,U,_,_,_,_,U,U,yW L.q,d j,_,_,_,_,U,U,SqT.of E'.1,Bw Ap U,U,_,U,I9 U ⟨_,U,_,U,_,_,_,_,U,U,yW L.q,d j,_,_,_,_,U,U,SqT.of E'.1,Bw Ap U,_,U,_,U,_,_,_,_,U,U,yW L.r,d hc,_,_,_,_,U,U,SqT.of F.1,Bw Ap U,_,U,_,U,lg AA,?_⟩⟩;rw[ZW];refine⟨(by show 1<=sizeLine;decide),λl9 n9=>?_⟩;have J:Aw G (upd G l9 (.lst [.str (tx (dec i))])):=.upd n9;have h9:(upd G l9 (.lst [.str (tx (dec i))])) l9=some (.lst [.str (tx (dec i))]):=Ae;have L9:=L.same J;generalize upd G l9 (.lst [.str (tx (dec i))])=G9 at J h9 L9 ⊢;refine⟨_,_,_,_,U,U,J _ _ F.2,h9,(by have:= lx k0;rw[Bc];show _+1<=_;lia),λW ae=>?_⟩;have s8:Aw G9 (upd G9 W (.lst (vS x++[.str (tx (dec i))]))):=.upd ae;have h8:(upd G9 W (.lst (vS x++[.str (tx (dec i))]))) W=some (.lst (vS (x++[dec i]))):=by rw[Ae,Dj]
     have L8:=L9.same s8;refine⟨_,_,_,_,U,U,yW (s8 _ _ (J _ _ E'.2)),yW h8,AfX _,AfX _,_,U,?_⟩;rw[Ah8 (AfX _)];exact GQ ⟨_,U,L8⟩
   ·rintro σ G ⟨s,rfl,L⟩;exact kQ _
 ·refine⟨_,U,al,zs,.no due,U,B2 c,λab e=>(by cases e),λwd e p' H2 Y o=>?_⟩;cases e;refine⟨p',_,U,SqT.of o,U,_,_,U,_,_,U,U,_,U,U,_,U,Acy (λe=>c (by injection e)) ⟨_,U,_,U,U,?_⟩⟩;rw[zN rfl];exact kQ _
end
theorem AuD{K:NO}{t:Adr}(a:mg "law"=some (.ref fa)) (T:Txt K mg t):∃fd:No,(∀(s:Nw)(v:N0),BindsTo s fd ⟨[v],[]⟩ [("script",v)])/\∀base:Heap,K.In base->base.Ns mainGlobals mg->Bm P w K mg base CX0 47 fa fd ["script"] (Ahv K):=by have e:=a.symm.trans T.law.m;injection e with e;injection e with e;subst e;obtain⟨j,l,kV,h,i,n,d,o,c,f,lk,b⟩:=T.law.F.ex;exact⟨t.Ao4,λs v=>by rw[f];exact .of_eq U,λbase _ _=>AuC T⟩
end Mine
open PySem PySem.W PyProof.Rows
open Lean in
local macro_rules|`(universe $x)=>do
 let mut n:=0;let mut d:=0;let mut i:=0;let mut r:=#[]
 for c in x.getId.getString!.toList do
  d:=d*82+("!$%&*+,.0123456789:;<=>?ABCDEFGHIJKLMNOPQRSTUVWXYZ^_abcdefghijklmnopqrstuvwxyz{|}~".toList.idxOf c);i:=i+1
  if i%9==0 then n:=n+d;d:=0;r:=r.push (← `(def $(mkIdent (.mkSimple s!"tw{n}")):ident:=()))
 return mkNullNode r
namespace PySem.W.Fast
universe «$Qiam}lSi%W!L&{E$j!=A~4cA&}$m,uay1g71r;Y&>4w4A=fjS&aNc?c~F45Z7i<33;HRU~0*a5ZzN,q30xK{dSc$w$ao,t8e~48yg|qO6:p*Kk^e!sAL2$YsprCNY.kesbfHWC+0~1:?C6f*e5V8LB~.%d72Z!ATm0iS6C8yt=*W7Q$&h%0*1su}d_3a!7LqiC;B2DgYwfvhyB+iM*O;eiM!yX*C!v_J,5p6;_Vdr.DUus^nIRNgWujrF2W!Bhj?VCd{&8$a3{jy^>jhNZ<2ibA{.NL4N1hG}qgr.w*L!XU;nP61$2SAL|VNuL%8x;=tX80%BNv>kv_G.;PUIIRMO&rLiXpi!,&&oNu0ZJz&ZxE5jxcz0Q3*z|s%oExTahjF6h%F~YP:Fsp*wKgrcXc&%PtfbVl6V2G}HU*5m=BrD8Z4&e~VW!7A~zhy,uMZ8R8,D2y7Z}*|OQC1C1aqA>A<sAmS.Bc8,C15*=IPI8f1XMt4^M!y{ozHc_i.NOUl<F&d:eJ.MWj$.:OVSF:B5~7G%|<,vEiDno6C*x6.+it|EF;wm^npSW%itL%XorbbZd$&OYlpIBhC&U3|sZWv}.aTn!^l1wEvPo?3u400t=R4tRuV&a_z.lkHV0q2V}0Hv7+kGT.9oh2$e>tBd$_P!<ax:d*V3&9+sYG,gr%FlF+qxF828rJ_MUTy$>;o>ll3n:Vf;cG5bY6>uJJ|U_%2f4&~sUde!zjl>QFyp&$eU$gAF=+BOrCH7fl&zWGKBd^KB:_Ez>nQ_&AR!nxC*g,9r7Bqbi++lz|mp6A|,X%?A:j|o.VyW0|^hw&mMTTOOQu>TRv6n{?4+an}Y2v+a7$Stz!VT39swJjsC^I+j{{|c{S=%jd3^!r*|AX;L!cuV|*oIBBxM{^!P*Ms9zJ=!+4dFhP!7$:|kn$ZaG.gkM|UPwl+=GHjSVMh!uT7NRu7Z110e.<u3x0CHOsb,oE2&jygRC=r+Ew&{zmfr1N|fm?$X%$V~nIwQ>i25T<d5q3z+0IXI2h8n;7S34lS5|6}rFq,}9&;5Kk2Zk6X36NerfBAn&|~Ts|v,23Nl~MtG17+;feCtSMO&|y<~=~*u;BQ580w.2+xcFOV2+U>!T{z01y?$alP8lqLS%9~eA=Ygq&$%meKF3fGc0coQI!,,JSd|gu_Z,{LFxWkqwF$m3T1y<&?FqzKH$Ps:ozAj%3cZ+Y+P|ECF_$5<WytyWW!!GHefj<x%hzI_XN$f2l;7jy0C_$t5jZk=K~%.Tk7*1As2AblKOO+P1463xXLYC!Bt6!qsWiL;vO,YDlr+WnV:dogn1a,tATLWc!B%0LS2i}&!Z2HQaRW6Y$ye}zFx&xVvaNdu7<Jq:nyvXz;ed_{mxd{&Mgm{M!$,,Isk}_3dL1Rz~dQRN&$8U2j;X47&k<guTTOK*Ff}.sH~F1g}*^D*7k1jurhRtlM%M1.4*~QC%ZgHDA>J&1Alx._3~$!;>E_Gtj2R:lwlJI8i&k=k9U>TZ:X|+zI3e&%XPY3Ut1hC3u{kOUs_!|7SfXRh~&vq2HoAQJ0RJuDgUDO!cf_.|$}d;J{.*iBc8.sG6hf+g+Kjs%+_y4?0n_%da|YY!GgjMKV}};&kv|*>tj9i;hYsyG_+DVLB>Srw%:^pXSdjm&vIUtOS52*2tOoy%W43&Qdh8VVU:0laRSBkb5.y3}$i73$oz+uAr65=OdWRebeJ%2&{UP*lp+nNb!~JU7!0oSz~%3><FFd$T9T>,YMO&f>ev%XRL~>!tR2ONg20;z2!%jdyH20*&1yk?4Zcv8BC5Wmcp41I1JrC!2j%O0Muc%Y6.C_PyUXRO2!$GjzHXK+rX<K<7<.,kL!FPecr*5CW=^2$9!EiegEb+o.uHvLw6DX+Gjr!L2Si*&SAiz1t7&rHo:,,9E.3!BNj!MiD>n>Q<rYR:Xkv7D8$A$qgs_G~|W3=KkN&4EM+pqyl%q06*8gjaeGx?,:.YQX4a*%It;?p%+2&$K9}2J_5.VZn~H<&=+f79;?~YH=eldHg0fp5VGt}TM^t+~Wq,%QP=0!cZQ+!8961y:fj2|u+bm?sj46L!pJHI?MVM,*1CZNy&k1*LC}ZN~i!xT{c{,=^*C%3n_J2b*>iRoT{EZ&*Pl!=e*+$*hedx9+M+<v?L}CqK12*K^6>!RDxd{184y76m,u&gBk_6mn.l{%xN.Z>!S|u*.1,fZGXH6_0GwmZJB^j%{VGQ7}2e>66n,Q<3p&UyeW%+pF+b397GLjT.Rt%kEl,k3pUTYz+D*FP}s3I:Bt54&UX*6sXF?7:KN$<<A2mKiOP%>**6Srhje01S:7^lhkf%wBQ?zT1NFLn2L<GU+!;b$f,mRi+l4k6R&Mk!sw!xTA3w:G_!.%CD:$F_34,gRT!4P*P&r4X8lug8.?;Q$wE.EG}Gq!Zz4<+{mv&AAb:I4n1L;,hleiib!4}UtTfC47%TW0HTn$EKe2M+!ya!I=&Y$,x^.=wpx<Dl<4{EF5c7$q~~~~~~~~~9iVUfsbL^7?fbHpndK2irg_kBMD9MXlx!7zl&ud:&TvcB76xC{Jqi!.p+_~y>VU2$vzL=o?v9|PTiou5|>_;R_0Bb3,TiWzmvT_00nTe|^147JXV?e9=m+U..quim1,^dZGZ*eg&4~g|x$|v!=QX?.naq%rl!^jRx52k7O{x?m+?eLKNE+tt*Ta7*uOu_;jD1!.nJk*;Hog;Tp^$Wk3yr6{2%PIo2_9go$D4W=.$tY*xAuaeqnR$QG2q,W:kM!xju:<pn$vK9}%mbl,IJrgFoC33,T3iZ>V43yTd^g162!}Xf_sqiu3G?,JZgh;!P*Qz$^>.;UGzSp$^l!Y$CTNGC>BCw|Pi9Zv3OSyVEOP>$l&ABAvR6%RrvyHaLp9~4!oM<y>$WZ8My^Fe$S<:M&yS~+L14ZH<vD$Mnti*i%.0!h?<zZGG,3VYdPvEk++cDzS|7$2{U&%yMQ6.HBgf8^uT,g+WdTEbX6FTwsEXn15WkMz!V~^*||KbOhb:+UJXu}0s;%944E9U!z+$OhC.D*g$~jaI7EuY4+BJZ!I5Z!a^QgtQGR==+~q3I_O&s6eUgh++?.W^~4YUR$=ERkn1I}6MymhvDli5xf9TND0p3VE6HcS{!+t6k7.%}%&179QGFEcL37|z>lA{5y!3p9qR>&Ci!;>r7=A39Vxv2OP245,C|&mh5E?V{H+j4;Z1RZTXz1%s%9U955+FhCJ;?oac+ONMTuG{u$km?+|5?c2;;{whL9I,G|rxPO$1!WM7ILJsT;Wg!>!3%Z%uH,GMo89.7bIK2!ig+PHH|r37L!5StoWWp}*b$D.At8j8~,%?+Drb1.ekwsAmp*ya*luq*s1.RbG;&$%HVf.yq~ew.*&MX%?HY300Y$+|VW7}0<<wu0L*ER35Rnjc+m0dRLdQn%TPSqj+Ns0u5lkNr%F.1p|wWc$_%7pqmNJ$P+o=vmR%y>*uIc<<0l=7ChK_vk;KAHiYl^tdQ=H}~W3w^l5:pBG4Rkb0OFHqR^ms&7dC|${i2&0bMaa0Kj+Tqx<ThnB45EYlhx5^$V9~DDr0U,S7_DcHL1.Abs>OoKM$3DnQ:{rT*s.YXz&^*DK4M!XqK!3v!zFerES,O<tENMdx<Ebk;4WIV!Dm>u*}*>mpB5VOgE|7hNzJ_EVh*JtF&s.Ny9vdBI^;Gl%:2mi?W:$!*BNg5ZD<.PHjN:~;W$zrDwwK>g%,H?Pc1|C2~gjMbog^$z>7d,zvo$JN<6}mmc&bZ,GxGe.+sG7KPP14..9cZn.~^$P>D:MCT5!fGcVmIz+%GqK$gGoy6.tDx>NfUOtuOqLG~m+!W*NFMeN4BS{MIOvh+ZcjLcs4fDK<JjwM+rIm{JXs{U.,$+tq?ayUL10!a{Cz~.u11}&,iz$WIC:KLRn2Ej6wK00q,~$m9mVZT?ixBgV3Xg!TqT|3z=G4*rE!gy<q&IVx1>,R6%2fiYkY}bIJPi~o$A~3rccRgb{O!=nDc!Qw5&&CDNI+co**WcvAsH;!%NXp1ik*$<Y}U_%dg4XDwFDoVf0=cZdBBlG:s.1k5ICA336vkM<CnBdimw.eRi*LrPIx2f_&2H9G<?CE2cv0_8nt=,LmU^mVH:;2WQ2$<yxJ.DcUe|6f&AzHb.1*1,xv~GIF&7A4Sg9xbcg!S;<p>Mb}00%h&k8F7?Fa**<TLo%Yht>gFjC$:qtVzOWd&zSdrJQRy8&leQ5YOy*hAH4gkim!W,Qfi517?G~yrzWh8>b%M&xrrv,*TV>6?u04;9s~~qrY!GO~h0JC|1lTT;GRMQ%PwUYXjU,1qn!!a~>f,n>Mn}rQH!jrnNhx*a,b$C1LG$60bj=eetpR1iAz6SUa4EgU$R.Qb{$DjL8&X%o&UG5}*9l?98T:k0vd^7,9!UnCky$4Cy%7=gn+W:>}oRVD!;6uv|p=j.O0o8|<iR8e~O,7utdAV7+pih2m7k$j?Dj~6!g6XBsB$K*A}%a4Wp^,9225I<B!.xAwz:g.A2BfO&mj8c,~;IkiOVw+&%^PqT*50xS7?d3q%&X10w~vJ8%A<5V_LrbFFQb9c{_|5&EV1DCCu373IM2Dey,E;KHjW+0%+84izR||+XYUtTgNG%N{$*,63f+dt6Vt2$I65h{A|vjz7FKagr,oV,j~PJw,5s9pZ;>6LWz6:1ZJ.IV80ZlseCtJ_%.BLZy59j7EdvKr,xOJ4s|RaCh4+9g_RljNp&8|C}&7aA%+5deJ=R;3GR4T9eKxDcS%ANpkM$Yw?4,q1k0=Io8?V8N5H{7Zi03H,AWG%h%t^$A|t}LQnT&MSq^N:l{4qv9vGB^s%:m|kWz$D0fmT&H1av&11yP0~uY%0:q4H2&l,45IO7Ja11_TB&n{JY%hE6&2Dm~+.X~JnWpR*<$XJv|DM6ajYRV1~T9v%X0~XGb4+a%0Bd=j1^a%|x6r.;{veQ+mDd,sCrLS~%P7.Z7g=;Eo72f;1WlEp7NC=q&V.23|v>%+7R6?F+<:7xpl&lv~0YYLt+A8+anY_U<eGCkaf_y!Og.bm}at+Dr2392rn0s7xd7cf3+nY{H6948KS*l:jAKw%5,Yt9!MH2pAj=WNAg$|6E!&RFP$c!*Iaa$,9Je;tMZI1!DeYb.{Sy!Bmu3+t7{.V>VrY|&T2~U?;ZJo~!t.x&Ac?&acdqgEsOM0oX!G1|4u!mgEDAzFR$;>lAD:1+LaUWl_A7x+SbBd?q>U9p>7uaQNU*}MYJ^x*t=XB7,_CUL!aNpyHiDX!?JXS=$XS%c.lvRo:L.>sR<^vB~4Z8{+:UK8,E5UqQoUh0Ys8BvwII&az;}hm~!!phCpz!t^$RGx%<v61$0gtuf3DE%SF+I|F2v56%K_*Qld!C}PT,h$T2<.^T2Z%WI,~?hRP7<&:6laK4m$.y+Un6ugi2blxVTcYW6*kZ*~%rY9zW_xSdEP,mYc<VCMP55kDaAhG2+<WcN1;1z:2mtA{i{=2_>EaCqneNS?_}EV}F,c*4U8ByB%~}~D9SGO$nB_}}A2{+c7&S62I*GLuHUL&3k$fTLK$.=k3E;UW|xg&I}86w3d1Q=E4p^YFhJ;t&n3hz+V.mKv<O0G;&k!zY6Y$K%*M^<u%.Z3oBd+2=v|,darM9b*DVZOn%L:MX&9N6lGVSW6~!qx4TqN*:U_oTeIJ:+sG+c&jB!Ihb,>SZ~.T$W=CeZW*0HerboeX&q3idV|E1FF+5LmKld%Kp{n_Pxu?Uefo_FH+!X9*31H}d$HzVACig{B82tD8Ndf+im<x^<taEqukWBS+D;iwf=W;0s*tTDDcu|*!01^4=2%&&SorFW2Py..^{jy{0CHYx6,>j}g<p<X2dfOI%~o$q2MYg2PKY3WEgF7p^s$.Ni.41;6%i~j>!p_>dYeCC82L&y}zzo:WrVPw?g^&Qw_gZVbu,Em}*0eC4;IJ;w+&u8!P6Z{Qt^G.??;6H4+q&>ub|~CpH:MvVFAk9j8iXpL_}6k&&qc<Jv!H!jPveD!P~!94^d^L38*H+$Z>oAx,BGLzpz$l1y5hWk4hB*~OCq{|nd$EpK^qSkd::iY1|&*A4a%>Qdm!h0;01$+?}V0sRq|kXZY!hFnNZ6$F1Rx_nZrys3,PV+6Wzd$q=,aBNw3%PWvgqI3e*s6yQZxWS+fWhu&>tB+sg>A{Y1f*jn4.L{rG?:t0|FbO=8JyB_X7,K+5?*HEn1<,ir48i9t}9f|a_8C&g%9Yy|C|bB4<d<}Ql+P.4v~&U:bK%H?B4~DGu,thLDxCmY2lch4uYI2*b5RwAzoF3wE:M&*$M4B0Fqo6<z?TuN6|_^y>s&YG&YNMN.v;AzEJT!:mewi27,.;R7$Ml%C+4nLiTQ$C!yCdy2N&7,Xz;SQN3B,.nA1xzDY1TO2~}4|R6~spw*}Aq1dxdtKbDmM^BB+%ZPc28LYws&^Q3.{Ulq0$,ARBiVgl273McC*xW;Y2aBf*JjSf0K3dhJtKp1?|}d0GMk,20zH>!|C+f%XR}9f*%xdg0B{pq$DlVa^9hB$C=54=3yB*afpUT|<M$vX7OeZf<!DZx3?N~F&&46:qR.x,+5E7fMo?,FD9SBW_u!n+g*z0>W&4i~GUsW<+L<HAx8mo5gykm:7Vf.,oL>h+Ot1oFugpu,s&*bfxz.iZ&~3a;9*c3%ERWW?Onn&Ah=A34}C2!9r>.0GX;UK0ERH:T1to}Jf3rD2P}HKtF&P!PCK4iOTO,E*W4P8>A0,6xEQe.&8^Z}=B<Ra$fWx2h>GX<,vQ=Z<o3HZ%qehNH5&ap;z%;ZY%6e7n%JyZ!zrIaR;u!:YrBgw!XX1kvwR}>}V&:<mi%wu9,l8q+U+1xFOdJ5tJ7z7dx42E|9O.Z7w!oXmf0<pLSLF;O%K{8.h0Q.!AYMlaW>|%8NmMh_<$7KI;=CG_qI5<EK?Gvj&=dVJ>^E~8Q5R}}D*T;K3^ocn9>+*Om!{&t~3=S{5ZonF%Eq&{zu{|,X*~t7fF9Fz>gr&TO0%2WP&G;2O&NNV+<aVW+dL0$;nTw*Ab.Py7DT&eTpVEaJO!NR~Pfp3N,Q=4{*~v*!ur}gBxFW$UR1&jDrE0snfdV8un,zF4>6qP:46_}RtFTC*sHbfZSmG$4W.Iblih5d$Ah&!b+%=LyLGN{F$iELKQnZa%$OnPiQjX0Jyi.6CpS1$:xYhacL!$9RWaVE^=0|a+rq*N&N~Ckivu}=F+bwe,Z|AH22d&~lB&hJ5:Mjac+=5hWah?S+NTo_XJ;T.>>z;_2<R2AyTD5DxX!_{,HJfJ.B}Uhk^$cODu4N$%0{i.+:F:4kw$,rn{r.%RW%q:HaVlyCD*x^.X4rW?Fvc_mJZa++tl5r4XV3+ng+8>CfS6UgD6$9n!%{>:sNSJ&VrwEqy.P$|cC:LEL+27:{3WK;C,ElIn&ilC!>P2ni7ld%b8$m$2tx!.C__LgAL*7O.B=LQF,n2NAPdQF&_&^21Zn:&{NVNL.sU+X_JToI^_.C?i{UG2iZ^A6C=s$2;I,A3R}aN$?j0isi>R;p5H>:C<R0fNcqf0grCyqiu0>c^AN3:9&Rd;$%,3$t<s}$|PCDhai2&:SEW^UJf,5kkuB!V$A&P,o&9f^%PTVfJW<O.|:WE9Srt+rk??+xq?,e3MoOz7r%V};xy?py,Ob0amPF7Hm2wGU1f+RIi<WxlGbEd^6,P*4u!|&.?iTo_9$B3803~72YF!uLMwK1%95?XJ|{!Ux2SpsvHH8;E3+9?yC0_C1vKqI1ADpTB*AT*SWxIs2q2%;o90bQcG&B<s:oHit,J4tNfMZ6*|TAFq4P9*<+nZxcLqO8%},<jxA1For$AiTE.,r!;%qBB9cn?ki$3=1HD,}E!bH+ew5cO=1K.A*LILa7M1HSmIhBXp$$m3$$h>1,Wlg%W2N+*.{*iJ6sm%5~CiLuir;OK<=4ixi!rwFTpz*g+!GegWZ|s%5:W;udbv96~<ZE<ck$Wv}6XPsg$lG8Yzycr+f!~Pum6G$C^01.g.D7l|jx0y8j!bgQ{XqQB6P8<}d+5P7oO,xS!ah%74IZ=enD&9BhMCT>O!wQX<B$:Z&zhvlUQ{%,h{G|vo!XLK^Ts6H9s!<i^vgFzz1piQTQbY~&RL.bt%!I0KpDa:4Lv6ZTOrvjUH4:mK4k}hH%$4Qu5J4E!.G39apf>JX%JYRv$%!Ot+k5Uy=+7oKI<:ycBnue4!=WU$uSA}RU+k!lGXpP3z$1U,_2GGL06=S$solgS6pQ&:6N4b4sGpbN;V,EO!jtO46w+_*jF<b91%!1LE&i&Q&F98u7|&e»
end PySem.W.Fast
namespace HdQ
open PySem PySem.W
def live (o:Obj):Bool:= match o.data with
  | .freed => false
  |_ => true
noncomputable def pick (l:List Obj):Nat -> NV -> List (Obj×Bool):=
  @List.rec Obj (λ_ => Nat -> NV -> List (Obj×Bool)) (λ_ _ => [])
    (λo _ ih i as => @List.rec Nat (λ_ => List (Obj×Bool)) [] (λa as' _ => @Bool.rec (λ_ => List (Obj×Bool)) (ih (i + 1) (a :: as')) ((o,live o) :: ih (i + 1) as') (Nat.beq i a)) as) l
theorem pick_is:∀(l:List Obj) (i:Nat) (as:NV),(pick l i as).length=as.length -> ∀(k a:Nat) (o:Obj×Bool),as[k]? = some a -> (pick l i as)[k]? = some o -> i <= a /\ l[a - i]? = some o.1 /\ o.2=live o.1
  |[],i,as,h,k,a,o,h1,h2 => by
    exfalso;have:(pick [] i as)[k]? = none:= rfl;rw [this]at h2;cases h2
  |x :: l,i,[],h,k,a,o,h1,h2 => by simp at h1
  |x :: l,i,b :: as,h,k,a,o,h1,h2 => by
    have e:pick (x :: l) i (b :: as) = @Bool.rec (λ_ => List (Obj×Bool)) (pick l (i + 1) (b :: as)) ((x,live x) :: pick l (i + 1) as) (Nat.beq i b):= rfl;rw [e]at h h2;cases q:Nat.beq i b with
    |true =>
      have c:= Nat.eq_of_beq_eq_true q;rw [q]at h h2;have h':(pick l (i + 1) as).length + 1=as.length + 1:= h;cases k with
      |zero =>
        cases h1;cases h2;exact ⟨Au,by rw [c,Nat.sub_self]; rfl,rfl⟩
      |succ k =>
        obtain ⟨g1,g2,g3⟩:= pick_is l (i + 1) as Au k a o h1 h2;exact ⟨Au,by rw [show a - i=(a - (i + 1)) + 1 by omega]; exact g2,g3⟩
    |false =>
      rw [q]at h h2;obtain ⟨g1,g2,g3⟩:= pick_is l (i + 1) (b :: as) h k a o h1 h2;exact ⟨Au,by rw [show a - i=(a - (i + 1)) + 1 by omega]; exact g2,g3⟩
theorem get_live {h:Heap} {a:Nn} {o:Obj} (e:h.objs[a]? = some o) (l:live o=true):h.get? a=some o:= by
  unfold Heap.get?;rw [e];obtain ⟨c,d,b,f⟩:= o;cases b<;>first|rfl | (exact absurd l Bool.false_ne_true)
theorem pick_get {K:Frag} {as:NW} {h:Heap} (e:as=K.map (·.1)) (x:pick h.objs.toList 0 as=K.map λp => (p.2,true)):as.map h.get? = K.map λp => some p.2:= by
  have b:(pick h.objs.toList 0 as).length=as.length:= by rw [x,e,List.length_map,List.length_map]
  refine List.ext_getElem? λk => ?_;rw [List.getElem?_map,List.getElem?_map];cases q:K[k]? with
  |none =>
    have:as[k]? = none:= by rw [e,List.getElem?_map,q]; rfl
    rw [this]; rfl
  |some p =>
    have h1:as[k]? = some p.1:= by rw [e,List.getElem?_map,q]; rfl
    have h2:(pick h.objs.toList 0 as)[k]? = some (p.2,true):= by rw [x,List.getElem?_map,q]; rfl
    obtain ⟨_,g,a⟩:= pick_is _ _ _ b k p.1 _ h1 h2;rw [h1];show some (h.get? p.1)=some (some p.2);rw [Nat.sub_zero,Array.getElem?_toList]at g;rw [get_live g a.symm]
noncomputable def hk (K:Params -> Frag) (as:NW) (e:∀P,as=(K P).map (·.1)):Hook:=
  ⟨List (Obj×Bool),λs => pick s.heap.objs.toList 0 as,λw => (K w.params).map λp => (p.2,true),InK K,λw s x => InK.of e w s (pick_get (e _) x),InK.keeps⟩
theorem hk_in {K:Params -> Frag} {as:NW} {e:∀P,as=(K P).map (·.1)} {w:World} {h:Heap} (Y:(hk K as e).says w h):(K w.params).In h:= Y
end HdQ
namespace HdQ
open PySem PySem.W
def q0 : Program := { PySem.Challenge.rw_heddle_k75_whole_papers_refused.prog with main := { PySem.Challenge.rw_heddle_k75_whole_papers_refused.prog.main with body := PySem.Challenge.rw_heddle_k75_whole_papers_refused.prog.main.body.drop 207 } }
def l0 : List Str := [Str.ofString "WeaveError",Str.ofString "NoRow",Str.ofString "TooLarge",Str.ofString "NoCloth",Str.ofString "NoDraft",Str.ofString "NoStrand",Str.ofString "NoLaying",Str.ofString "NoShuttle",Str.ofString "NoColour",Str.ofString "NoBlock",Str.ofString "NoPattern",Str.ofString "Unknown",Str.ofString "Twice",Str.ofString "MOST_STRANDS",Str.ofString "measured",Str.ofString "back_of",Str.ofString "quarter_of",Str.ofString "measured_texts",Str.ofString "check_pick",Str.ofString "check_strand",Str.ofString "end_signs",Str.ofString "turned_signs",Str.ofString "MOST_SHAFTS",Str.ofString "Draft",Str.ofString "woven",Str.ofString "least_draft",Str.ofString "check_setting",Str.ofString "check_count",Str.ofString "check_count_drafts",Str.ofString "check_shaft",Str.ofString "check_tie",Str.ofString "check_treading",Str.ofString "shed_over",Str.ofString "shafts_over",Str.ofString "unlike",Str.ofString "LETTERS",Str.ofString "MOST_LETTERS",Str.ofString "WORDS",Str.ofString "is_name",Str.ofString "FIGURES",Str.ofString "Reader",Str.ofString "number_of",Str.ofString "MOST_NUMBERS",Str.ofString "MOST_DEEP_rows",Str.ofString "Path",Str.ofString "Times",Str.ofString "unfolded",Str.ofString "shown",Str.ofString "whole_size",Str.ofString "all_numbers",Str.ofString "steps_between",Str.ofString "read_row",Str.ofString "read_items",Str.ofString "read_item",Str.ofString "read_times",Str.ofString "read_path",Str.ofString "read_number",Str.ofString "read_number_rows",Str.ofString "parted",Str.ofString "written_path",Str.ofString "is_stop",Str.ofString "BETWEEN_PARTS",Str.ofString "BETWEEN_TIES",Str.ofString "written_draft",Str.ofString "read_draft",Str.ofString "filled_blocks",Str.ofString "unit_size",Str.ofString "overs_within",Str.ofString "tiled",Str.ofString "times_met",Str.ofString "scores_of",Str.ofString "tops_of",Str.ofString "layers_of",Str.ofString "layer_numbers",Str.ofString "laid_together",Str.ofString "check_owners",Str.ofString "check_piece",Str.ofString "places_within",Str.ofString "sign_at",Str.ofString "Piece",Str.ofString "Named",Str.ofString "Rows",Str.ofString "Twill",Str.ofString "Satin",Str.ofString "Beside",Str.ofString "Above",Str.ofString "Mirror",Str.ofString "Upend",Str.ofString "Back",Str.ofString "Quarter",Str.ofString "Tile",Str.ofString "Blocks",Str.ofString "Lay",Str.ofString "check_size",Str.ofString "check_one_size",Str.ofString "prime_to",Str.ofString "written",Str.ofString "MOST_DEEP_reader",Str.ofString "MOST_RUNS",Str.ofString "THINGS",Str.ofString "read_pattern",Str.ofString "read_whole",Str.ofString "read_node",Str.ofString "read_things",Str.ofString "read_runs",Str.ofString "read_run",Str.ofString "read_number_reader",Str.ofString "read_comma",Str.ofString "worked_out",Str.ofString "known_cloth",Str.ofString "made_of_one",Str.ofString "made_of_two",Str.ofString "made_of_three",Str.ofString "read_book",Str.ofString "read_line",Str.ofString "parting_place",Str.ofString "check_set",Str.ofString "lower_strands",Str.ofString "lower_within",Str.ofString "ways_from",Str.ofString "way_to",Str.ofString "upper_part",Str.ofString "measured_half",Str.ofString "finished_cloth",Str.ofString "settle",Str.ofString "longest_float",Str.ofString "COLOURS",Str.ofString "free_half",Str.ofString "measured_picture",Str.ofString "check_threads",Str.ofString "free_pick",Str.ofString "free_sign",Str.ofString "first_colouring",Str.ofString "crossings_of",Str.ofString "settle_strand",Str.ofString "chain_from",Str.ofString "made_draft",Str.ofString "shifts_of",Str.ofString "least_across",Str.ofString "stays",Str.ofString "moved",Str.ofString "SHUTTLES",Str.ofString "seams_of",Str.ofString "tubes_of",Str.ofString "sheets_of",Str.ofString "check_shuttles",Str.ofString "seams_along",Str.ofString "bearers",Str.ofString "round_way",Str.ofString "web_of_set",Str.ofString "MOST_FIGURES",Str.ofString "ASKED_OF_A_NAME",Str.ofString "answers_to",Str.ofString "words_of",Str.ofString "answer_to",Str.ofString "answered",Str.ofString "of_a_name",Str.ofString "overs",Str.ofString "sheets",Str.ofString "paint",Str.ofString "check_count_desk",Str.ofString "check_name",Str.ofString "far_number",Str.ofString "whole_number",Str.ofString "_law_at",Str.ofString "_law_name",Str.ofString "_law_rows",Str.ofString "_law_other",Str.ofString "_law_turned",Str.ofString "_law_laid",Str.ofString "_law_pattern",Str.ofString "_law_digits",Str.ofString "_law_draft",Str.ofString "_law_fault",Str.ofString "_law_question",Str.ofString "_law_written",Str.ofString "_law_answers",Str.ofString "_law_reading"]
end HdQ
open Lean in
local macro_rules
  | `(tactic| refine $f:ident $args*) => do
    unless f.getId == `PySem.W.holds_open do Macro.throwUnsupported
    let some qa := args.find? λa => a.raw.isOfKind ``Lean.Parser.Term.namedArgument && a.raw[1].getId.eraseMacroScopes == `q | Macro.throwUnsupported
    let qs := qa.raw[3]
    if qs.isIdent && qs.getId == `HdQ.q0 then Macro.throwUnsupported
    let q0 := (mkIdent `HdQ.q0).raw
    let args := args.map λa => ⟨Id.run do
      if a.raw.isOfKind ``Lean.Parser.Term.namedArgument then
        if a.raw[1].getId.eraseMacroScopes == `loose then return a.raw.setArg 3 (mkIdent `HdQ.l0)
        return Id.run (a.raw.replaceM λs => pure (if s.structEq qs then some q0 else none))
      return a.raw⟩
    `(tactic| refine $f:ident $args*)
open Lean in
local macro_rules
  | `(tactic| o_head ($h:ident $a $b $c $_ds*)) => do
    unless [`kHook, `kmHook, `PySem.W.kHook, `PySem.W.kmHook].contains h.getId.eraseMacroScopes do Macro.throwUnsupported
    `(tactic| o_head (HdQ.hk $a $b $c))
set_option maxRecDepth 100000 in
set_option maxHeartbeats 0 in
theorem PySem.Challenge.cw_heddle_k75_whole_papers_refused_holds : PySem.Challenge.rw_heddle_k75_whole_papers_refused.Holds := by
 w_on;o_law;k_head;(case hw=>w_witness2)
 k_fill
 refine L2.Anr (l:=PySem.Challenge.rw_heddle_k75_whole_papers_refused) (n:=63) (k:=47) (x := "script") (CX:=L2.CX0) (sp:=Mine.Ahv) rfl (by decide) rfl ⟨rfl,by decide,by decide⟩ (λw h Y=>HdQ.hk_in Y) ?QQF ?QQS ?QQC
 case QQF =>
  intro w mg fa h KX G hmg
  refine' Mine.AuD (t:=Mine.Adr.mk) hmg ?QQT
  case QQT =>
   constructor <;> (try dsimp only) <;> first
   | (refine' L2.DfH.df ⟨?QQa,?QQb⟩ KX G ?QQc;(case QQa=>k_is);(case QQb=>(apply L2.Ajk <;> k_is));(case QQc=>(intro _ _ _ _ _ _ us hl;first | exact Mine.bl1 (λ_=>rfl) us hl | exact Mine.bl2 (λ_ _=>rfl) us hl | exact Mine.bl3 (λ_ _ _=>rfl) us hl | exact Mine.bl4 (λ_ _ _ _=>rfl) us hl)))
   | (refine' L2.DfA.of ?QQa ?QQb KX G ?QQc;(case QQa=>k_is);(case QQb=>(apply L2.Ajk <;> k_is));(case QQc=>(intro _ _ _ _ _ _ us hl;first | exact Mine.bl1 (λ_=>rfl) us hl | exact Mine.bl2 (λ_ _=>rfl) us hl | exact Mine.bl3 (λ_ _ _=>rfl) us hl | exact Mine.bl4 (λ_ _ _ _=>rfl) us hl)))
   | exact W.mg_none_of KX G (by k_is)
   | exact⟨_,W.mg_of KX G (by k_is)⟩
   | exact W.mg_of KX G (by k_is)
   | (refine' L2.MfH.mf ⟨?QQa,?QQb,?QQd⟩ ?QQc;(case QQa=>k_is);(case QQb=>k_is);(case QQd=>(apply L2.Ajk <;> k_is));(case QQc=>(intro _ _ _ _ _ _ us hl;first | exact Mine.bl1 (λ_=>rfl) us hl | exact Mine.bl2 (λ_ _=>rfl) us hl | exact Mine.bl3 (λ_ _ _=>rfl) us hl | exact Mine.bl4 (λ_ _ _ _=>rfl) us hl)))
   | (apply L2.Atu <;> k_is)
   | (unfold L2.Ck;k_is)
   | (apply L2.Ato <;> first | k_exc | k_is)
   | k_is
   | kernel_rfl
   | (refine L2.AqY (by k_is) rfl rfl (by decide) ?_;repeat (first | exact .nil | refine .cons ⟨_,rfl⟩ ?_))
   | (refine L2.At1 ?_;kernel_rfl)
   | (constructor <;> first | k_is | rfl)
 case QQS=>exact λK H a ns hl hO hS=>Mine.Ahw hl hS
 case QQC=>exact λ_ _ _ _ z=>z
