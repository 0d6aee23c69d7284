import PyProof.Rows.All
import Wide.All
import OpenK.AllK
import Wide.FinOn
import Lean
import PyProof.EqAt
import PyProof.EqKinds
import PyProof.TupleCall
import PyProof.StrBlockL
import PyProof.EnumMake
import PyProof.CollectIter
import PyProof.JoinWalk
import PyProof.StrOps
import PyProof.StrLawsIdx
import PyProof.StrLawsIn
import PyProof.ListRange
import PyProof.Rows.Range3
import PyProof.Rows.SumAny
import KE.KIntText
import KE.LcSums
import PyProof.LongRange
import PyProof.StrOps2
import PyProof.FitsBits
import PyProof.NeKinds
import PyProof.ConsumeWalk
import PyProof.Rows.ZipGen
import PyProof.Draws
import PyProof.Rows.SeqMore
import PyProof.Rows.StrNews
import PyProof.StrLawsChain
import PyProof.Rows.SortRev
import PyProof.Rows.SortWalk
import PyProof.Rows.CallKwBuiltin
import PyProof.Rows.MinMaxN
import PyProof.Rows.SetFrom
import PyProof.CollectWalk
import PyProof.DictWalks
import PySem.Challenge.RW_heddle_k12_whole_least
set_option Elab.async false
set_option linter.all false
set_option maxRecDepth 100000
namespace L2
open PySem PySem.Spec PyProof.Rows
abbrev Key:=Sum Int Str
def Au9:Key→Value→Bool
  | .inl k,v=>Value.isInt k v
  | .inr x,v=>Value.isStrOf x v
def Axz (w:World):Key→Int
  | .inl k=>hashInt k
  | .inr x=>hashStr w x
theorem GZ:∀ {k:Key} {v:Value},Au9 k v=true→(∃ i t,k=Sum.inl i∧v=Value.int i t)∨(∃ x t,k=Sum.inr x∧v=Value.str x t)
  | .inl i,v,h=>by
    obtain ⟨t,e⟩:=Value.isInt_shape (k:=i) (v:=v) h
    exact .inl ⟨i,t,rfl,e⟩
  | .inr x,v,h=>by
    obtain ⟨t,e⟩:=Value.isStrOf_shape (x:=x) (v:=v) h
    exact .inr ⟨x,t,rfl,e⟩
theorem AuS (a b:Int):decide ((Sum.inl a:Key)=Sum.inl b)=(a == b):=by
  by_cases e:a=b
  · subst e; simp
  · have h:¬ (Sum.inl a:Key)=Sum.inl b:=fun q=>e (Sum.inl.inj q)
    rw [decide_eq_false h]
    exact (beq_eq_false_iff_ne.mpr e).symm
theorem AuT (a b:Str):decide ((Sum.inr a:Key)=Sum.inr b)=decide (a=b):=by
  by_cases e:a=b
  · subst e; simp
  · have h:¬ (Sum.inr a:Key)=Sum.inr b:=fun q=>e (Sum.inr.inj q)
    rw [decide_eq_false h,decide_eq_false e]
theorem AuU (a:Int) (b:Str):decide ((Sum.inl a:Key)=Sum.inr b)=false:=decide_eq_false (fun q=>nomatch q)
theorem AuV (a:Str) (b:Int):decide ((Sum.inr a:Key)=Sum.inl b)=false:=decide_eq_false (fun q=>nomatch q)
def Al8 (prog:Program) (w:World):PySem.KeyKind prog w Key where
  is:=Au9
  hash:=Axz w
  inj:=fun v a b ha hb=>by
    rcases GZ ha with ⟨i,t,rfl,rfl⟩ | ⟨x,t,rfl,rfl⟩
    · rcases GZ hb with ⟨j,u,rfl,e⟩ | ⟨y,u,rfl,e⟩
      · injection e with e1 _; rw [e1]
      · exact nomatch e
    · rcases GZ hb with ⟨j,u,rfl,e⟩ | ⟨y,u,rfl,e⟩
      · exact nomatch e
      · injection e with e1 _; rw [e1]
  byValue:=fun k v h=>by
    rcases GZ h with ⟨i,t,rfl,rfl⟩ | ⟨x,t,rfl,rfl⟩ <;> rfl
  pyHash:=fun hv h=>by
    rcases GZ hv with ⟨i,t,rfl,rfl⟩ | ⟨x,t,rfl,rfl⟩
    · exact wpAny_pyHash_int h
    · exact wpAny_pyHash_str h
  eqBool:=fun hu hv h=>by
    rcases GZ hu with ⟨i,t,rfl,rfl⟩ | ⟨x,t,rfl,rfl⟩
    · rcases GZ hv with ⟨j,u,rfl,rfl⟩ | ⟨y,u,rfl,rfl⟩
      · rw [AuS] at h; exact wpAny_eqBool_int h
      · rw [AuU] at h; exact SeqAt.EqAt.int_str i t y u _ _ _ _ h
    · rcases GZ hv with ⟨j,u,rfl,rfl⟩ | ⟨y,u,rfl,rfl⟩
      · rw [AuV] at h; exact SeqAt.EqAt.str_int x t j u _ _ _ _ h
      · rw [AuT] at h; exact wpAny_eqBool_str h
  «strs»:=fun k x t v h=>by
    rcases GZ h with ⟨i,u,rfl,e⟩ | ⟨y,u,rfl,e⟩
    · exact nomatch e
    · injection e with e1 _
      subst e1
      cases v <;> rfl
open PySem PySem.Spec PyProof.Rows
inductive V where
  | non | bl (b:Bool) | int (i:Int) | str (x:Str) | byt (b:Array UInt8) | flt (b:UInt64) | ref (a:Addr) | ty (n:String)
  deriving DecidableEq
def RelV:V→Value→Prop
  | .non,u=>u=Value.none
  | .bl b,u=>u=Value.bool b
  | .int i,u=>∃ t,u=Value.int i t
  | .str x,u=>∃ t,u=Value.str x t
  | .byt b,u=>∃ t,u=Value.bytes b t
  | .flt b,u=>∃ t,u=Value.float b t
  | .ref a,u=>u=Value.ref a
  | .ty n,u=>u=Value.type n
abbrev Vals:List V→List Value→Prop:=Paired RelV
theorem Vals.length {xs:List V} {us:List Value} (r:Vals xs us):xs.length=us.length:=Paired.length r
theorem Vals.get:∀ {xs:List V} {us:List Value} {i:Nat} {x:V},Vals xs us→xs[i]?=some x→∃ u,us[i]?=some u∧RelV x u
  | _,_,_,_,.nil,e=>by simp at e
  | _,_,0,_,.cons r _,e=>by simp at e; subst e; exact ⟨_,rfl,r⟩
  | _,_,i+1,x,.cons _ t,e=>by
    obtain ⟨u,h1,h2⟩:=Vals.get (i:=i) (x:=x) t (by simpa using e)
    exact ⟨u,by simpa using h1,h2⟩
theorem Vals.set {x:V} {u:Value} (r:RelV x u):∀ {xs:List V} {us:List Value} (i:Nat),Vals xs us→Vals (xs.set i x) (us.set i u)
  | _,_,_,.nil=>.nil
  | _,_,0,.cons _ t=>.cons r t
  | _,_,i+1,.cons q t=>.cons q (Vals.set r i t)
theorem Vals.append:∀ {xs ys:List V} {us ws:List Value},Vals xs us→Vals ys ws→Vals (xs++ys) (us++ws)
  | _,_,_,_,.nil,s=>s
  | _,_,_,_,.cons r t,s=>.cons r (Vals.append t s)
theorem Vals.take:∀ {xs:List V} {us:List Value} (n:Nat),Vals xs us→Vals (xs.take n) (us.take n)
  | _,_,0,_=>.nil
  | _,_,_+1,.nil=>.nil
  | _,_,n+1,.cons r t=>.cons r (Vals.take n t)
theorem Vals.drop:∀ {xs:List V} {us:List Value} (n:Nat),Vals xs us→Vals (xs.drop n) (us.drop n)
  | _,_,0,r=>r
  | _,_,_+1,.nil=>.nil
  | _,_,n+1,.cons _ t=>Vals.drop n t
def Ak0:Option V→Option Value→Prop
  | some v,some u=>RelV v u
  | none,none=>True
  | _,_=>False
def KV {κ:Type}:List (κ × V)→List (κ × Value)→Prop:=Paired fun (p:κ × V) (q:κ × Value)=>p.1=q.1∧RelV p.2 q.2
def kV:Key→V
  | .inl i=>.int i
  | .inr x=>.str x
inductive HO where
  | lst (xs:List V)
  | tup (xs:List V)
  | dK (kvs:List (Key × V)) | dT (kvs:List (List Key × V))
  | set (S:Int→Bool) (n:Nat)
  | ins (C dx:Addr) (fs:List (Str × V))
  | own (x:Addr)
  | xd (fs:List (Str × V))
  | met (f x:Addr)
  | rng (lo hi:Int)
  | frz (o:Obj) (u:HO)
  | tbl (ps:Array Value)
  | ext (φ:Heap→Prop)
abbrev Hp:=Addr→Option HO
def upd (H:Hp) (a:Addr) (o:HO):Hp:=fun b=>if b=a then some o else H b
theorem Ah {H:Hp} {a:Addr} {o:HO}:upd H a o a=some o:=by unfold upd; rw [if_pos rfl]
theorem Be {H:Hp} {a b:Addr} {o:HO} (h:b≠a):upd H a o b=H b:=by unfold upd; rw [if_neg h]
theorem T8 {H:Hp} {a:Addr} {o u:HO}:upd (upd H a o) a u=upd H a u:=by
  funext b; unfold upd; split <;> rfl
theorem Ce {H:Hp} {a b:Addr} {o:HO} (h:H a=some o) (h':H b=none):a≠b:=by
  intro e; subst e; rw [h] at h'; cases h'
section
variable (P:Program) (w:World)
def Kw (H:Hp) (h:Heap) (a:Addr):HO→Prop
  | .lst xs=>xs.length≤sizeLine∧∃ (its:List Value) (n:Nat),Vals xs its∧h.get? a=some { cls:=.type "list", data:=.seq its.toArray n }
  | .tup xs=>xs.length≤sizeLine∧∃ its:List Value,Vals xs its∧IsTup h a its.toArray
  | .dK kvs=>kvs.length≤sizeLine∧(a == sysModules)=false∧∃ vs,KV kvs vs∧h.DictOf (Al8 P w) a vs
  | .dT kvs=>kvs.length≤sizeLine∧(a == sysModules)=false∧∃ xs:List (List Key × Addr × Value),
      Paired (fun (p:List Key × V) (q:List Key × Addr × Value)=>p.1=q.1∧H q.2.1=some (.tup (p.1.map kV))∧RelV p.2 q.2.2) kvs xs ∧
      ∃ o es ep,h.get? a=some o∧o.ExactDict∧o.data=.dict es ep∧es.toList=xs.map (entryOfKey (tupleKind (Al8 P w)))∧(xs.map (·.1)).Nodup
  | .set S n=>h.SetOf (intKind P w) a S n
  | .ins C dx fs=>H dx=some (.own a)∧fs.length≤1000∧dx≠a∧h.get? a=some (PySem.W.instObj C dx) ∧
      ∃ mA,h.Ns1 dx mA∧(∀ f,Ak0 (fs.lookup f) (mA f))∧PySem.Within mA (fs.map (·.1))
  | .own _=>∃ o,h.get? a=some o
  | .xd fs=>∃ mA,h.Ns1 a mA∧∀ f,Ak0 (fs.lookup f) (mA f)
  | .rng lo hi=>∃ t u v,h.get? a=some { cls:=.type "range", data:=.fields #[.int lo t,.int hi u,.int 1 v] }
  | .frz o u=>h.get? a=some o∧Kw H h a u
  | .tbl ps=>h.get? a=some { cls:=.none,data:=.fields ps }
  | .met f x=>h.get? a=some (PySem.W.methodObj (.ref f) (.ref x))
  | .ext φ=>φ h∧(∃ o,h.get? a=some o)∧∀ h1 h2:Heap,φ h1→(∀ o,h1.get? a=some o→h2.get? a=some o)→φ h2
def HOk (H:Hp) (h:Heap):Prop:=∀ a o,H a=some o→Kw P w H h a o
end
section
variable {P:Program} {w:World} {H H':Hp} {h h':Heap} {a:Addr} {o:HO}
theorem Kw.lt (x:Kw P w H h a o):a < h.objs.size:=by
  cases o with
  | lst xs=>obtain ⟨_,_,_,_,e⟩:=x; exact Heap.lt_size e
  | tup xs=>obtain ⟨_,_,_,p⟩:=x; exact p.lt
  | dK kvs=>obtain ⟨_,_,_,_,o,_,_,e,_⟩:=x; exact Heap.lt_size e
  | dT kvs=>obtain ⟨_,_,_,_,o,_,_,e,_⟩:=x; exact Heap.lt_size e
  | set S n=>obtain ⟨o,_,_,_,e,_⟩:=x; exact Heap.lt_size e
  | ins C dx fs=>obtain ⟨_,_,_,e,_⟩:=x; exact Heap.lt_size e
  | own y=>obtain ⟨_,e⟩:=x; exact Heap.lt_size e
  | xd fs=>obtain ⟨_,⟨_,_,_,e,_⟩,_⟩:=x; exact Heap.lt_size e
  | rng lo hi=>obtain ⟨_,_,_,e⟩:=x; exact Heap.lt_size e
  | frz ob u=>obtain ⟨e,_⟩:=x; exact Heap.lt_size e
  | tbl ps=>exact Heap.lt_size (show h.get? a=some _ from x)
  | met f y=>exact Heap.lt_size (show h.get? a=some _ from x)
  | ext φ=>obtain ⟨_,⟨_,e⟩,_⟩:=x; exact Heap.lt_size e
theorem Paired.Awu {α β:Type} {F G:α→β→Prop}:∀ {l₁:List α} {l₂:List β},Paired F l₁ l₂→(∀ a b,F a b→G a b)→Paired G l₁ l₂
  | _,_,.nil,_=>.nil
  | _,_,.cons r t,f=>.cons (f _ _ r) (Paired.Awu t f)
theorem Kw.stay (x:Kw P w H h a o) (k:∀ b u,(b=a∨H b=some (.own a))→h.get? b=some u→h'.get? b=some u)
    (ho:∀ b,H b=some (.own a)→H' b=some (.own a)) (ht:∀ b xs,H b=some (.tup xs)→H' b=some (.tup xs)):Kw P w H' h' a o:=by
  induction o with
  | lst xs=>obtain ⟨z,its,n,r,e⟩:=x; exact ⟨z,its,n,r,k _ _ (.inl rfl) e⟩
  | tup xs=>obtain ⟨z,its,r,ob,e,c⟩:=x; exact ⟨z,its,r,ob,k _ _ (.inl rfl) e,c⟩
  | dK kvs=>obtain ⟨z,y,vs,r,ob,es,ep,e,c⟩:=x; exact ⟨z,y,vs,r,ob,es,ep,k _ _ (.inl rfl) e,c⟩
  | dT kvs =>
    obtain ⟨z,y,xs,r,ob,es,ep,e,c⟩:=x
    exact ⟨z,y,xs,Paired.Awu r fun p q z=>⟨z.1,ht _ _ z.2.1,z.2.2⟩,ob,es,ep,k _ _ (.inl rfl) e,c⟩
  | set S n=>obtain ⟨ob,es,ep,t,e,c⟩:=x; exact ⟨ob,es,ep,t,k _ _ (.inl rfl) e,c⟩
  | ins C dx fs =>
    obtain ⟨d,z,ne,e,mA,⟨od,es,ep,e2,c⟩,r⟩:=x
    exact ⟨ho _ d,z,ne,k _ _ (.inl rfl) e,mA,⟨od,es,ep,k _ _ (.inr d) e2,c⟩,r⟩
  | own y=>obtain ⟨ob,e⟩:=x; exact ⟨ob,k _ _ (.inl rfl) e⟩
  | xd fs=>obtain ⟨mA,⟨od,es,ep,e,c⟩,r⟩:=x; exact ⟨mA,⟨od,es,ep,k _ _ (.inl rfl) e,c⟩,r⟩
  | rng lo hi=>obtain ⟨t,u,v,e⟩:=x; exact ⟨t,u,v,k _ _ (.inl rfl) e⟩
  | frz ob u ih=>obtain ⟨e,q⟩:=x; exact ⟨k _ _ (.inl rfl) e,ih q⟩
  | tbl ps =>
    have e:h.get? a=some { cls:=.none,data:=.fields ps }:=x
    show h'.get? a=some { cls:=.none,data:=.fields ps }
    exact k a _ (.inl rfl) e
  | met f y =>
    have e:h.get? a=some (PySem.W.methodObj (.ref f) (.ref y)):=x
    show h'.get? a=some (PySem.W.methodObj (.ref f) (.ref y))
    exact k a _ (.inl rfl) e
  | ext φ=>obtain ⟨p,⟨o,e⟩,st⟩:=x; exact ⟨st _ _ p fun o q=>k _ _ (.inl rfl) q,⟨o,k _ _ (.inl rfl) e⟩,st⟩
theorem HOk.lt (x:HOk P w H h) (e:H a=some o):a < h.objs.size:=(x a o e).lt
theorem HOk.fresh (x:HOk P w H h) (e:h.objs.size≤a):H a=none:=by
  cases q:H a with
  | none=>rfl
  | some u=>exact absurd (Nat.lt_of_lt_of_le (x.lt q) e) (Nat.lt_irrefl _)
theorem HOk.kept (x:HOk P w H h) (k:∀ b u,h.get? b=some u→h'.get? b=some u):HOk P w H h':=fun a o e =>
  (x a o e).stay (fun b u _ q=>k b u q) (fun _ q=>q) fun _ _ q=>q
theorem HOk.laid (x:HOk P w H h) (k:∀ b u,h.get? b=some u→h'.get? b=some u) (hp:h.objs.size≤a) (new:Kw P w (upd H a o) h' a o):HOk P w (upd H a o) h':=fun b u e=>by
  have hn:=x.fresh hp
  by_cases hb:b=a
  · subst hb; rw [Ah] at e; cases e; exact new
  · rw [Be hb] at e
    exact (x b u e).stay (fun c v _ q=>k c v q) (fun c q=>by rw [Be (Ce q hn)]; exact q) fun c xs q=>by rw [Be (Ce q hn)]; exact q
end
def Rd (H:Hp) (a:Addr) (u:HO):Prop:=H a=some u∨∃ o,H a=some (.frz o u)
theorem Rd.ok {P:Program} {w:World} {H:Hp} {h:Heap} {a:Addr} {u:HO} (r:Rd H a u) (x:HOk P w H h):Kw P w H h a u:=by
  rcases r with r | ⟨o,r⟩
  · exact x a u r
  · obtain ⟨_,q⟩:=x a _ r
    exact q
def Mut:Option HO→Prop
  | some (.lst _)=>True
  | some (.dK _)=>True
  | some (.dT _)=>True
  | some (.set _ _)=>True
  | some (.ins _ _ _)=>True
  | some (.ext _)=>True
  | _=>False
section
variable {P:Program} {w:World} {H:Hp} {h h':Heap} {x e:Addr} {o':HO}
theorem HOk.write (ok:HOk P w H h) (mu:Mut (H x)) (he:e=x∨H e=some (.own x)) (k:∀ b u,b≠e→h.get? b=some u→h'.get? b=some u) (heo:∃ u,h'.get? e=some u)
    (new:Kw P w (upd H x o') h' x o'):HOk P w (upd H x o') h':=fun b u q=>by
  have Awv:∀ c y,H c=some (.own y)→c≠x:=fun c y r z=>by subst z; rw [r] at mu; exact mu
  have Ax0:∀ c xs,H c=some (.tup xs)→c≠x:=fun c xs r z=>by subst z; rw [r] at mu; exact mu
  by_cases hb:b=x
  · subst hb; rw [Ah] at q; cases q; exact new
  · rw [Be hb] at q
    by_cases hbe:b=e
    · have q':H b=some (.own x):=by
        rcases he with z | z
        · exact absurd (hbe.trans z) hb
        · rw [hbe]; exact z
      rw [q] at q'; cases q'
      obtain ⟨v,hv⟩:=heo
      exact ⟨v,by rw [hbe]; exact hv⟩
    · refine (ok b u q).stay (fun c v hc r=>k c v ?_ r) (fun c r=>by rw [Be (Awv c b r)]; exact r) fun c xs r=>by rw [Be (Ax0 c xs r)]; exact r
      rcases hc with rfl | hc
      · exact hbe
      · rintro rfl
        rcases he with z | z
        · exact Awv c b hc z
        · rw [hc] at z; cases z; exact hb rfl
end
structure Un (fs ex:List Addr) (H H':Hp) (h h':Heap):Prop where
  keep:∀ b o,h.get? b=some o→H b=none→b∉fs→b∉ex→h'.get? b=some o
  slot:∀ b o,h.get? b=some o→H b=none→b∈fs→b∉ex→∃ sl,h'.get? b=some { o with slots:=sl }
  free:∀ b o,h.get? b=some o→H b=none→b∉ex→H' b=none
  there:∀ b o,h.get? b=some o→b∉ex→∃ o',h'.get? b=some o'
  tups:∀ b xs,H b=some (.tup xs)→H' b=some (.tup xs)
  Adg:∀ b o u,H b=some (.frz o u)→H' b=some (.frz o u)
  AfY:∀ b ps,H b=some (.tbl ps)→∃ more,H' b=some (.tbl (ps++more))
section
variable {fs fs' ex ex':List Addr} {H H1 H2:Hp} {h h1 h2 h':Heap} {a x e:Addr} {o:HO}
theorem Un.any (u:Un fs ex H H1 h h1) {b:Addr} {ob:Obj} (q:h.get? b=some ob) (n:H b=none) (hx:b∉ex):∃ sl,h1.get? b=some { ob with slots:=sl }:=by
  by_cases hb:b∈fs
  · exact u.slot b ob q n hb hx
  · exact ⟨ob.slots,u.keep b ob q n hb hx⟩
theorem Un.kept (k:∀ b u,h.get? b=some u→h'.get? b=some u):Un fs ex H H h h' :=
  ⟨fun b ob q _ _ _=>k b ob q,fun b ob q _ _ _=>⟨ob.slots,k b ob q⟩,fun _ _ _ n _=>n,fun b ob q _=>⟨ob,k b ob q⟩,fun _ _ q=>q,fun _ _ _ q=>q,fun _ ps q=>⟨#[],by rw [q]; simp⟩⟩
theorem Un.refl:Un fs ex H H h h:=Un.kept fun _ _ q=>q
theorem Un.laid (k:∀ b u,h.get? b=some u→h'.get? b=some u) (hp:h.objs.size≤a) (hn:H a=none):Un fs ex H (upd H a o) h h' where
  keep:=fun b u q _ _ _=>k b u q
  slot:=fun b u q _ _ _=>⟨u.slots,k b u q⟩
  free:=fun b u q n _=>by rw [Be (Nat.ne_of_lt (Nat.lt_of_lt_of_le (Heap.lt_size q) hp))]; exact n
  there:=fun b u q _=>⟨u,k b u q⟩
  tups:=fun b xs q=>by rw [Be (Ce q hn)]; exact q
  Adg:=fun b u xs q=>by rw [Be (Ce q hn)]; exact q
  AfY:=fun b ps q=>⟨#[],by rw [Be (Ce q hn),q]; simp⟩
theorem Un.write (mu:Mut (H x)) (he:e=x∨H e=some (.own x)) (k:∀ b u,b≠e→h.get? b=some u→h'.get? b=some u) (heo:∃ u,h'.get? e=some u):Un fs ex H (upd H x o) h h':=by
  have hx:∀ b,H b=none→b≠x:=fun b n z=>by subst z; rw [n] at mu; exact mu
  have hb:∀ b,H b=none→b≠e:=fun b n z=>by
    subst z
    rcases he with r | r
    · exact hx b n r
    · rw [n] at r; cases r
  have hm:∀ b u,H b=some u→¬ Mut (some u)→b≠x:=fun b u q nm z=>by subst z; rw [q] at mu; exact nm mu
  refine ⟨fun b u q n _ _=>k b u (hb b n) q,fun b u q n _ _=>⟨u.slots,k b u (hb b n) q⟩,fun b u q n _=>by rw [Be (hx b n)]; exact n,fun b u q _=>?_,
    fun b xs q=>by rw [Be (hm b _ q fun z=>z)]; exact q,fun b u xs q=>by rw [Be (hm b _ q fun z=>z)]; exact q,fun b ps q=>⟨#[],by rw [Be (hm b _ q fun z=>z),q]; simp⟩⟩
  by_cases hbe:b=e
  · subst hbe; exact heo
  · exact ⟨u,k b u hbe q⟩
end
def trk (h:Heap) (H:Hp):List Addr:=(List.range h.objs.size).filter fun a=>(H a).isSome
def Al9 (h:Heap) (H:Hp):Heap:=PySem.W.hideAll h (trk h H)
theorem Aqw (h:Heap) (H:Hp):(Al9 h H).objs.size=h.objs.size:=PySem.W.hideAll_size _ _
theorem Arv {h:Heap} {H:Hp} {b:Addr} {o:Obj} (e:h.get? b=some o) (n:H b=none):(Al9 h H).get? b=some o :=
  PySem.W.hideAll_get _ e fun hm=>by
    have q:(H b).isSome=true:=(List.mem_filter.mp hm).2
    rw [n] at q; simp at q
theorem Atz {h:Heap} {H:Hp} {b:Addr} {o:Obj} (e:(Al9 h H).get? b=some o):h.get? b=some o∧H b=none:=by
  have e':h.get? b=some o:=PySem.W.of_hideAll (trk h H) e
  refine ⟨e',?_⟩
  cases q:H b with
  | none=>rfl
  | some x =>
    have hm:b∈trk h H:=List.mem_filter.mpr ⟨List.mem_range.mpr (Heap.lt_size e'),by simp [q]⟩
    have z:(Al9 h H).get? b=none:=PySem.W.hideAll_none (trk h H) hm
    rw [z] at e; cases e
def At0 (g h:Heap) (L:Addr):List (Addr × Obj):=(List.range h.objs.size).filterMap fun a=>if a=L∨(g.get? a).isSome=true then none else (h.get? a).map fun o=>(a,o)
def rest (g h:Heap) (L d:Addr):List (Addr × Obj):=(At0 g h L).filter fun p=>decide (p.1≠d)
open PySem PySem.Spec PyProof.Rows
structure Mod (K:PySem.W.Frag) (mg:Str→Option Value) (base:Heap):Prop where
  kin:K.In base
  glob:base.Ns mainGlobals mg
  blt:∃ mb,base.Ns builtinsNs mb∧∀ x:Str,x ≠ "__name__" → mb x=bootBuiltins x
  nolimit:base.NoLimit
structure Cx where
  prog:Program
  w:World
  K:PySem.W.Frag
  mg:Str→Option Value
  base:Heap
  A:Around
  N:List Str
  s₀:Shared
  H₀:Hp
  env:Env
  outer:List Env
  stack:List Env
  ex:List Addr
  fn:Str→Bool
  calm:Bool
  pn:List (Addr × Obj)
  xe:Value→Shared→Prop
def frs (l:List Env):List Addr:=l.filterMap (·.frame)
abbrev Cx.fs (X:Cx):List Addr:=frs X.outer
def Vis (sc:Scope) (x:Str):Prop:=sc.names.lookup x=some .local∨sc.names.lookup x=some .cell∨sc.names.lookup x=some .free
def Loc (sc:Scope) (x:Str):Prop:=sc.names.lookup x=some .local∨sc.names.lookup x=some .cell
def Look (env:Env) (h:Heap) (m:Str→Option Value) (x:Str) (u:Value):Prop :=
  (env.kindOf x=some .local∧m x=some u)∨((env.kindOf x=some .cell∨env.kindOf x=some .free)∧∃ c,env.cells.lookup x=some c∧h.IsCell c (some u))
structure Cx.Ok (X:Cx):Prop where
  mod:Mod X.K X.mg X.base
  kind:X.env.scope.kind=.function
  glob:X.env.globals=mainGlobals
  blt:X.env.builtins=builtinsNs
  above:X.s₀.heap.objs.size≤X.env.locals
  inj:∀ x y c,X.env.cells.lookup x=some c→X.env.cells.lookup y=some c→x=y
  has:∀ x,(X.env.kindOf x=some .cell∨X.env.kindOf x=some .free)→∃ c,X.env.cells.lookup x=some c
  cab:∀ x c,X.fn x=true→X.env.cells.lookup x=some c→X.s₀.heap.objs.size≤c
  hd:X.calm=true→X.A.handled=none
  frames:X.A.frames=some X.stack
  stk:X.stack=X.outer∨(X.stack=X.env::X.outer∧X.env.frame=some X.env.locals)
  exf:∀ b∈X.ex,b≠X.env.locals∧∀ x c,X.env.cells.lookup x=some c→c≠b
  bs:∀ b o,X.base.get? b=some o→X.s₀.heap.get? b=some o∧X.H₀ b=none
  bsz:X.base.objs.size≤X.s₀.heap.objs.size
  Ak1:∀ b o,X.base.get? b=some o→b∉X.ex
  Ak2:∀ b∈X.ex,b∉X.fs
  Adh:X.s₀.heap.FunFrames X.base X.outer
  frf:∀ b∈X.fs,X.H₀ b=none
structure Inv (X:Cx) (pins:List (Addr × Obj)) (σ:List (Option V)) (H:Hp) (s:Shared):Prop where
  ok:X.Ok
  os:s.os=X.s₀.os
  bare:AllBare s.gens
  base:Un X.fs X.ex X.H₀ H X.s₀.heap s.heap
  loc:∃ m,s.heap.Ns X.env.locals m∧∀ (i:Nat) (x:Str) (v:V),X.N[i]?=some x→σ[i]?=some (some v)→Vis X.env.scope x→∃ u,RelV v u∧Look X.env s.heap m x u
  cell:∀ x c,X.env.cells.lookup x=some c→∃ v,s.heap.IsCell c v
  free:H X.env.locals=none
  Ra:∀ x c,X.env.cells.lookup x=some c→H c=none
  pin:∀ p∈X.pn++pins,s.heap.get? p.1=some p.2∧H p.1=none∧p.1≠X.env.locals∧p.1∉X.fs∧∀ v,p.2.data≠.cell v
  hok:HOk X.prog X.w H s.heap
  len:σ.length=X.N.length
section
variable {X:Cx} {pins:List (Addr × Obj)} {σ:List (Option V)} {H H':Hp} {s:Shared} {h':Heap}
theorem Cx.Ok.Ax1 (ok:X.Ok) {b:Addr} {o:Obj} (e:X.base.get? b=some o):b∉X.fs:=fun hb=>by
  have:=(ok.Adh.mem hb).1
  rw [e] at this; cases this
theorem Inv.bs (I:Inv X pins σ H s):∀ b o,X.base.get? b=some o→s.heap.get? b=some o∧H b=none:=fun b o e =>
  ⟨I.base.keep b o (I.ok.bs b o e).1 (I.ok.bs b o e).2 (I.ok.Ax1 e) (I.ok.Ak1 b o e),I.base.free b o (I.ok.bs b o e).1 (I.ok.bs b o e).2 (I.ok.Ak1 b o e)⟩
theorem Inv.bk (I:Inv X pins σ H s):∀ b o,X.base.get? b=some o→s.heap.get? b=some o:=fun b o e=>(I.bs b o e).1
theorem Inv.mod (I:Inv X pins σ H s):Mod X.K X.mg X.base:=I.ok.mod
theorem Inv.kIn (I:Inv X pins σ H s):X.K.In s.heap:=I.ok.mod.kin.keeps I.bk
theorem Inv.lt (I:Inv X pins σ H s):X.env.locals < s.heap.objs.size:=let ⟨_,hn,_⟩:=I.loc; hn.lt
theorem Inv.sz (I:Inv X pins σ H s):X.s₀.heap.objs.size≤s.heap.objs.size:=Nat.le_trans I.ok.above (Nat.le_of_lt I.lt)
theorem Inv.Ax2 (I:Inv X pins σ H s) {a:Addr} (h:s.heap.objs.size≤a):a∉X.fs:=fun hb=>by
  obtain ⟨_,o,ho,_⟩:=I.ok.Adh.mem hb
  exact absurd (Nat.lt_of_lt_of_le (Heap.lt_size ho) (Nat.le_trans I.sz h)) (Nat.lt_irrefl _)
theorem Inv.cne (I:Inv X pins σ H s):∀ x c,X.env.cells.lookup x=some c→c≠X.env.locals:=fun x c e z=>by
  obtain ⟨v,o,ho,hd⟩:=I.cell x c e
  obtain ⟨m,⟨o',es,ep,ho',hd',_⟩,_⟩:=I.loc
  rw [z,ho'] at ho; cases ho; rw [hd'] at hd; cases hd
theorem Inv.Adh (I:Inv X pins σ H s):s.heap.FunFrames X.base X.outer:=by
  have all:∀ (l:List Env),(∀ b∈frs l,b∈X.fs)→X.s₀.heap.FunFrames X.base l→s.heap.FunFrames X.base l:=by
    intro l
    induction l with
    | nil=>intro _ _; trivial
    | cons env r ih =>
      intro hs hl
      obtain ⟨hk,⟨L,o,hf,hn,ho,hd⟩,hr⟩:=hl
      have hL:L∈X.fs:=hs L (by unfold frs; rw [List.filterMap_cons,hf]; exact List.mem_cons_self)
      obtain ⟨sl,e⟩:=I.base.slot L o ho (I.ok.frf L hL) hL fun z=>I.ok.Ak2 L z hL
      exact ⟨hk,⟨L,_,hf,hn,e,hd⟩,ih (fun b hb=>hs b (by unfold frs; rw [List.filterMap_cons,hf]; exact List.mem_cons_of_mem _ hb)) hr⟩
  exact all X.outer (fun _ hb=>hb) I.ok.Adh
theorem Inv.stack (I:Inv X pins σ H s):s.heap.FunFrames X.base X.stack:=by
  rcases I.ok.stk with e | ⟨e,hf⟩
  · rw [e]; exact I.Adh
  · rw [e]
    obtain ⟨m,hn,_⟩:=I.loc
    refine .cons (by rw [I.ok.kind]; decide) hf hn ?_ I.Adh
    exact Heap.get?_none_of_le (Nat.le_trans I.ok.bsz I.ok.above)
theorem Inv.Aio (I:Inv X pins σ H s):∀ b∈frs X.stack,b∈X.env.locals::X.fs:=fun b hb=>by
  rcases I.ok.stk with e | ⟨e,hf⟩
  · rw [e] at hb; exact List.mem_cons_of_mem _ hb
  · rw [e] at hb
    unfold frs at hb
    rw [List.filterMap_cons,hf] at hb
    exact hb
theorem Inv.Aia (I:Inv X pins σ H s):∀ b∈frs X.stack,H b=none:=fun b hb=>by
  rcases List.mem_cons.mp (I.Aio b hb) with e | hb
  · rw [e]; exact I.free
  · obtain ⟨_,o,ho,_⟩:=I.ok.Adh.mem hb
    exact I.base.free b o ho (I.ok.frf b hb) fun z=>I.ok.Ak2 b z hb
theorem Inv.step {g':Array GenState} {t':Nat} {d':Drawn} {ch:List Addr} (I:Inv X pins σ H s)
    (hch:∀ b∈ch,(b∈X.ex∨X.s₀.heap.objs.size≤b)∧b≠X.env.locals∧(∀ x c,X.env.cells.lookup x=some c→c≠b)∧∀ p∈X.pn++pins,p.1≠b)
    (keep:∀ b o,b≠X.env.locals→b∉X.fs→b∉ch→s.heap.get? b=some o→H b=none→h'.get? b=some o)
    (slot:∀ b o,b≠X.env.locals→b∈X.fs→b∉ch→s.heap.get? b=some o→H b=none→∃ sl,h'.get? b=some { o with slots:=sl }) (free:∀ b o,b∉ch→s.heap.get? b=some o→H b=none→H' b=none)
    (there:∀ b o,b∉ch→s.heap.get? b=some o→∃ o',h'.get? b=some o')
    (tups:∀ b xs,H b=some (.tup xs)→H' b=some (.tup xs)) (Adg:∀ b o u,H b=some (.frz o u)→H' b=some (.frz o u)) (AfY:∀ b ps,H b=some (.tbl ps)→∃ more,H' b=some (.tbl (ps++more)))
    (ns:∀ m,s.heap.Ns X.env.locals m→h'.Ns X.env.locals m) (hok:HOk X.prog X.w H' h') (hg:AllBare g') :
    Inv X pins σ H' { s with heap:=h',gens:=g',drawn:=d',toks:=t' }:=by
  have neL:∀ b o,X.s₀.heap.get? b=some o→b≠X.env.locals:=fun b o e=>Nat.ne_of_lt (Nat.lt_of_lt_of_le (Heap.lt_size e) I.ok.above)
  have neC:∀ b o,X.s₀.heap.get? b=some o→b∉X.ex→b∉ch:=fun b o e hx hb=>by
    rcases (hch b hb).1 with z | z
    · exact hx z
    · exact absurd (Nat.lt_of_lt_of_le (Heap.lt_size e) z) (Nat.lt_irrefl _)
  have cellK:∀ x c,X.env.cells.lookup x=some c→∀ v,s.heap.IsCell c v→h'.IsCell c v:=fun x c e v ⟨o,ho,hd⟩=>by
    have nch:c∉ch:=fun z=>(hch c z).2.2.1 x c e rfl
    by_cases hc:c∈X.fs
    · obtain ⟨sl,q⟩:=slot c o (I.cne x c e) hc nch ho (I.Ra x c e)
      exact ⟨_,q,hd⟩
    · exact ⟨o,keep c o (I.cne x c e) hc nch ho (I.Ra x c e),hd⟩
  refine ⟨I.ok,I.os,hg,⟨fun b o e n hb hx=>?_,fun b o e n hb hx=>?_,fun b o e n hx=>?_,fun b o e hx=>?_,fun b xs e=>tups b xs (I.base.tups b xs e),fun b o xs e=>Adg b o xs (I.base.Adg b o xs e),fun b ps e=>?_⟩,?_,fun x c e=>?_,?_,fun x c e=>?_,fun p hp=>?_,hok,I.len⟩
  · exact keep b o (neL b o e) hb (neC b o e hx) (I.base.keep b o e n hb hx) (I.base.free b o e n hx)
  · obtain ⟨sl,e1⟩:=I.base.slot b o e n hb hx
    obtain ⟨sl',e2⟩:=slot b _ (neL b o e) hb (neC b o e hx) e1 (I.base.free b o e n hx)
    exact ⟨sl',e2⟩
  · obtain ⟨o',e1⟩:=I.base.there b o e hx
    exact free b o' (neC b o e hx) e1 (I.base.free b o e n hx)
  · obtain ⟨o',e1⟩:=I.base.there b o e hx
    exact there b o' (neC b o e hx) e1
  · obtain ⟨m1,e1⟩:=I.base.AfY b ps e
    obtain ⟨m2,e2⟩:=AfY b _ e1
    exact ⟨m1++m2,by rw [e2,Array.append_assoc]⟩
  · obtain ⟨m,hn,hl⟩:=I.loc
    refine ⟨m,ns m hn,fun i x v e1 e2 e3=>?_⟩
    obtain ⟨u,r,l⟩:=hl i x v e1 e2 e3
    refine ⟨u,r,?_⟩
    rcases l with l | ⟨k,c,e,z⟩
    · exact .inl l
    · exact .inr ⟨k,c,e,cellK x c e _ z⟩
  · obtain ⟨v,z⟩:=I.cell x c e
    exact ⟨v,cellK x c e v z⟩
  · obtain ⟨m,⟨o,_,_,ho,_⟩,_⟩:=I.loc
    exact free _ o (fun z=>(hch _ z).2.1 rfl) ho I.free
  · obtain ⟨v,o,ho,hd⟩:=I.cell x c e
    exact free c o (fun z=>(hch c z).2.2.1 x c e rfl) ho (I.Ra x c e)
  · obtain ⟨e,n,ne,nf,d⟩:=I.pin p hp
    have nch:p.1∉ch:=fun z=>(hch p.1 z).2.2.2 p hp rfl
    exact ⟨keep p.1 p.2 ne nf nch e n,free p.1 p.2 nch e n,ne,nf,d⟩
theorem Inv.un {t':Nat} (I:Inv X pins σ H s) (u:Un X.fs [] H H' s.heap h') (hok:HOk X.prog X.w H' h'):Inv X pins σ H' { s with heap:=h',toks:=t' }:=by
  obtain ⟨m,⟨o,es,ep,ho,r⟩,_⟩:=id I.loc
  obtain ⟨sl,hL⟩:=u.any ho I.free (by simp)
  exact I.step (g':=s.gens) (d':=s.drawn) (ch:=[]) (fun _ z=>nomatch z) (fun b o _ hb _ e n=>u.keep b o e n hb (by simp)) (fun b o _ hb _ e n=>u.slot b o e n hb (by simp)) (fun b o _ e n=>u.free b o e n (by simp)) (fun b o _ e=>u.there b o e (by simp)) u.tups u.Adg u.AfY (fun m' hm=>by
    obtain ⟨o',es',ep',ho',r'⟩:=hm
    rw [ho] at ho'; cases ho'
    exact ⟨_,es',ep',hL,r'⟩) hok I.bare
theorem Inv.call {g':Array GenState} {t':Nat} {d':Drawn} {ch:List Addr} (I:Inv X pins σ H s) (u:Un (frs X.stack) ch H H' s.heap h') (hok:HOk X.prog X.w H' h') (hg:AllBare g')
    (hch:∀ b∈ch,(b∈X.ex∨X.s₀.heap.objs.size≤b)∧b≠X.env.locals∧(∀ x c,X.env.cells.lookup x=some c→c≠b)∧∀ p∈X.pn++pins,p.1≠b) :
    Inv X pins σ H' { s with heap:=h',gens:=g',drawn:=d',toks:=t' }:=by
  obtain ⟨m,⟨o,es,ep,ho,r⟩,_⟩:=id I.loc
  obtain ⟨sl,hL⟩:=u.any ho I.free fun z=>(hch _ z).2.1 rfl
  exact I.step (ch:=ch) hch (fun b o hL hb hc e n=>u.keep b o e n (fun z=>(List.mem_cons.mp (I.Aio b z)).elim hL hb) hc) (fun b o _ _ hc e n=>u.any e n hc) (fun b o hc e n=>u.free b o e n hc) (fun b o hc e=>u.there b o e hc) u.tups u.Adg u.AfY (fun m' hm=>by
    obtain ⟨o',es',ep',ho',r'⟩:=hm
    rw [ho] at ho'; cases ho'
    exact ⟨_,es',ep',hL,r'⟩) hok hg
theorem Inv.turned {t':Nat} {it:Addr} (I:Inv X pins σ H s) (k:∀ b o,b≠it→s.heap.get? b=some o→h'.get? b=some o) (hn:H it=none) (hL:it≠X.env.locals)
    (h1:it∈X.ex∨X.s₀.heap.objs.size≤it) (h2:∀ x c,X.env.cells.lookup x=some c→c≠it) (h3:∀ p∈X.pn++pins,p.1≠it):Inv X pins σ H { s with heap:=h',toks:=t' }:=by
  have nit:∀ b u,H b=some u→b≠it:=fun b u e z=>by rw [z,hn] at e; cases e
  refine I.step (g':=s.gens) (d':=s.drawn) (ch:=[it]) (fun b hb=>?_) (fun b o _ _ hc e _=>k b o (fun z=>hc (by simp [z])) e) (fun b o _ _ hc e _=>⟨o.slots,k b o (fun z=>hc (by simp [z])) e⟩) (fun _ _ _ _ n=>n)
    (fun b o hc e=>⟨o,k b o (fun z=>hc (by simp [z])) e⟩) (fun _ _ e=>e) (fun _ _ _ e=>e) (fun b ps e=>⟨#[],by rw [e]; simp⟩) (fun m hm=>?_) (fun b u e=>?_) I.bare
  · have e:b=it:=by simpa using hb
    subst e
    exact ⟨h1,hL,h2,h3⟩
  · obtain ⟨o,es,ep,ho,r⟩:=hm
    exact ⟨o,es,ep,k _ o (Ne.symm hL) ho,r⟩
  · refine (I.hok b u e).stay (fun c v hc q=>k c v ?_ q) (fun _ q=>q) fun _ _ q=>q
    rcases hc with z | z
    · rw [z]; exact nit b u e
    · exact nit c _ z
theorem Inv.tok (I:Inv X pins σ H s) (t:Nat):Inv X pins σ H { s with toks:=t }:=I.un (h':=s.heap) (t':=t) Un.refl I.hok
theorem Inv.kept {t':Nat} (I:Inv X pins σ H s) (k:∀ b u,s.heap.get? b=some u→h'.get? b=some u):Inv X pins σ H { s with heap:=h',toks:=t' }:=I.un (Un.kept k) (I.hok.kept k)
theorem Inv.laid {a:Addr} {o:HO} {t':Nat} (I:Inv X pins σ H s) (k:∀ b u,s.heap.get? b=some u→h'.get? b=some u) (hp:s.heap.objs.size≤a) (new:Kw X.prog X.w (upd H a o) h' a o) :
    Inv X pins σ (upd H a o) { s with heap:=h',toks:=t' }:=I.un (Un.laid k hp (I.hok.fresh hp)) (I.hok.laid k hp new)
theorem Inv.write {x e:Addr} {o:HO} {t':Nat} (I:Inv X pins σ H s) (mu:Mut (H x)) (he:e=x∨H e=some (.own x)) (k:∀ b u,b≠e→s.heap.get? b=some u→h'.get? b=some u) (heo:∃ u,h'.get? e=some u)
    (new:Kw X.prog X.w (upd H x o) h' x o):Inv X pins σ (upd H x o) { s with heap:=h',toks:=t' }:=I.un (Un.write mu he k heo) (I.hok.write mu he k heo new)
theorem Inv.Ma {AuA:List (Addr × Obj)} (I:Inv X pins σ H s) (h:∀ p∈AuA,s.heap.get? p.1=some p.2∧H p.1=none∧p.1≠X.env.locals∧p.1∉X.fs∧∀ v,p.2.data≠.cell v):Inv X AuA σ H s :=
  ⟨I.ok,I.os,I.bare,I.base,I.loc,I.cell,I.free,I.Ra,fun p hp=>(List.mem_append.mp hp).elim (fun z=>I.pin p (List.mem_append_left _ z)) (h p),I.hok,I.len⟩
theorem Anh {N:List Str} (hN:N.Nodup) {i j:Nat} {x:Str} (a:N[i]?=some x) (b:N[j]?=some x):i=j:=by
  obtain ⟨h1,e1⟩:=List.getElem?_eq_some_iff.mp a
  obtain ⟨h2,e2⟩:=List.getElem?_eq_some_iff.mp b
  exact (List.getElem_inj hN).mp (e1.trans e2.symm)
theorem AfZ {M:Model} {A:Around} {E:Value→Shared→Prop} {i:Nat} {x:Str} {v:V} {u:Value} {Q:Unit→Shared→Prop} (I:Inv X pins σ H s) (hN:X.N.Nodup) (hi:X.N[i]?=some x) (hx:Loc X.env.scope x) (r:RelV v u)
    (h:∀ s',Inv X pins (σ.set i (some v)) H s'→(∃ a,Heap.SameBut a s.heap s'.heap∧(a=X.env.locals∨X.env.cells.lookup x=some a))→Q () s') (hf:X.fn x=true∨X.env.scope.names.lookup x=some .local:=by first | exact .inl rfl | exact .inr rfl | assumption):wpAny M A (storeName X.env x u) Q E s:=by
  obtain ⟨m,hn,hl⟩:=id I.loc
  have hcls:(X.env.scope.kind == .class || (X.env.scope.kind == .module && X.env.locals != X.env.globals))=false:=by rw [I.ok.kind]; rfl
  have hiσ:i < σ.length:=by rw [I.len]; exact (List.getElem?_eq_some_iff.mp hi).1
  have cne:=I.cne
  have tracked:∀ {a:Addr} {h':Heap},(∃ o,s.heap.get? a=some o∧H a=none)→Heap.SameBut a s.heap h'→HOk X.prog X.w H h':=fun {a h'} ha hs b ob e=>by
    obtain ⟨_,_,hfree⟩:=ha
    refine (I.hok b ob e).stay (fun c w' hc q=>(hs.2 c ?_).trans q) (fun _ q=>q) fun _ _ q=>q
    rintro rfl
    rcases hc with rfl | hc
    · rw [hfree] at e; cases e
    · rw [hfree] at hc; cases hc
  rcases hx with hk | hk
  · refine wpAny_storeName_local hk hn (fun h' hn' hs=>?_) hcls
    obtain ⟨oL,_,_,hoL,_⟩:=id hn
    refine h _ ⟨I.ok,I.os,I.bare,⟨fun b o e n hb hx=>?_,fun b o e n hb hx=>?_,I.base.free,fun b o e hx=>?_,I.base.tups,I.base.Adg,I.base.AfY⟩,⟨_,hn',fun j y v' e1 e2 e3=>?_⟩,fun y c e=>?_,I.free,I.Ra,fun p hp=>?_,tracked ⟨oL,hoL,I.free⟩ hs,by simpa using I.len⟩ ⟨_,hs,.inl rfl⟩
    · exact (hs.2 b (Nat.ne_of_lt (Nat.lt_of_lt_of_le (Heap.lt_size e) I.ok.above))).trans (I.base.keep b o e n hb hx)
    · obtain ⟨sl,e1⟩:=I.base.slot b o e n hb hx
      exact ⟨sl,(hs.2 b (Nat.ne_of_lt (Nat.lt_of_lt_of_le (Heap.lt_size e) I.ok.above))).trans e1⟩
    · obtain ⟨o',e1⟩:=I.base.there b o e hx
      exact ⟨o',(hs.2 b (Nat.ne_of_lt (Nat.lt_of_lt_of_le (Heap.lt_size e) I.ok.above))).trans e1⟩
    · by_cases hj:j=i
      · subst hj
        rw [hi] at e1; cases e1
        rw [List.getElem?_set_self hiσ] at e2
        cases e2
        exact ⟨u,r,.inl ⟨hk,by simp⟩⟩
      · rw [List.getElem?_set_ne (Ne.symm hj)] at e2
        obtain ⟨u',r',q⟩:=hl j y v' e1 e2 e3
        refine ⟨u',r',?_⟩
        rcases q with ⟨k,e⟩ | ⟨k,c,e,z⟩
        · refine .inl ⟨k,?_⟩
          have:y≠x:=fun e=>hj (Anh hN e1 (e ▸ hi))
          simp [this,e]
        · exact .inr ⟨k,c,e,z.sameBut hs (cne y c e)⟩
    · obtain ⟨w',z⟩:=I.cell y c e
      exact ⟨w',z.sameBut hs (cne y c e)⟩
    · obtain ⟨e,n,ne,nf,d⟩:=I.pin p hp
      exact ⟨(hs.2 p.1 ne).trans e,n,ne,nf,d⟩
  · have hfn:X.fn x=true:=by
      rcases hf with z | z
      · exact z
      · rw [z] at hk; cases hk
    obtain ⟨c,hc⟩:=I.ok.has x (.inl hk)
    obtain ⟨w',z⟩:=I.cell x c hc
    refine wpAny_storeName_cell I.ok.kind hk hc z (fun h' hc' hs=>?_)
    obtain ⟨oc,hoc,Ax3⟩:=id z
    refine h { s with heap:=h' } ⟨I.ok,I.os,I.bare,⟨fun b o e n hb hx=>?_,fun b o e n hb hx=>?_,I.base.free,fun b o e hx=>?_,I.base.tups,I.base.Adg,I.base.AfY⟩,⟨m,hn.sameBut hs (Ne.symm (cne x c hc)),fun j y v' e1 e2 e3=>?_⟩,fun y c' e=>?_,I.free,I.Ra,fun p hp=>?_,tracked ⟨oc,hoc,I.Ra x c hc⟩ hs,by simpa using I.len⟩ ⟨c,hs,.inr hc⟩
    · exact (hs.2 b (Nat.ne_of_lt (Nat.lt_of_lt_of_le (Heap.lt_size e) (I.ok.cab x c hfn hc)))).trans (I.base.keep b o e n hb hx)
    · obtain ⟨sl,e1⟩:=I.base.slot b o e n hb hx
      exact ⟨sl,(hs.2 b (Nat.ne_of_lt (Nat.lt_of_lt_of_le (Heap.lt_size e) (I.ok.cab x c hfn hc)))).trans e1⟩
    · obtain ⟨o',e1⟩:=I.base.there b o e hx
      exact ⟨o',(hs.2 b (Nat.ne_of_lt (Nat.lt_of_lt_of_le (Heap.lt_size e) (I.ok.cab x c hfn hc)))).trans e1⟩
    · by_cases hj:j=i
      · subst hj
        rw [hi] at e1; cases e1
        rw [List.getElem?_set_self hiσ] at e2
        cases e2
        exact ⟨u,r,.inr ⟨.inl hk,c,hc,hc'⟩⟩
      · rw [List.getElem?_set_ne (Ne.symm hj)] at e2
        obtain ⟨u',r',q⟩:=hl j y v' e1 e2 e3
        refine ⟨u',r',?_⟩
        rcases q with q | ⟨k,c',e,z'⟩
        · exact .inl q
        · refine .inr ⟨k,c',e,z'.sameBut hs ?_⟩
          rintro rfl
          exact hj (Anh hN e1 (I.ok.inj _ _ _ e hc ▸ hi))
    · by_cases hcc:c'=c
      · subst hcc; exact ⟨_,hc'⟩
      · obtain ⟨w2,z2⟩:=I.cell y c' e
        exact ⟨w2,z2.sameBut hs hcc⟩
    · obtain ⟨e,n,ne,nf,d⟩:=I.pin p hp
      refine ⟨(hs.2 p.1 ?_).trans e,n,ne,nf,d⟩
      intro q
      rw [q,hoc] at e
      have q':oc=p.2:=Option.some.inj e
      exact d w' (by rw [← q']; exact Ax3)
theorem Aip {M:Model} {A:Around} {E:Value→Shared→Prop} {i:Nat} {x:Str} {v:V} {u:Value} {Q:Unit→Shared→Prop} (I:Inv X pins σ H s) (hN:X.N.Nodup) (hi:X.N[i]?=some x) (hx:Loc X.env.scope x) (r:RelV v u)
    (h:∀ s',Inv X pins (σ.set i (some v)) H s'→Q () s') (hf:X.fn x=true∨X.env.scope.names.lookup x=some .local:=by first | exact .inl rfl | exact .inr rfl | assumption):wpAny M A (storeName X.env x u) Q E s :=
  AfZ I hN hi hx r (fun s' I' _=>h s' I') hf
theorem Inv.call' {s':Shared} {ch:List Addr} (I:Inv X pins σ H s) (ho:s'.os=s.os) (u:Un (frs X.stack) ch H H' s.heap s'.heap) (hok:HOk X.prog X.w H' s'.heap) (hg:AllBare s'.gens)
    (hch:∀ b∈ch,(b∈X.ex∨X.s₀.heap.objs.size≤b)∧b≠X.env.locals∧(∀ x c,X.env.cells.lookup x=some c→c≠b)∧∀ p∈X.pn++pins,p.1≠b):Inv X pins σ H' s':=by
  obtain ⟨h',g',d',t',o'⟩:=s'
  have e:o'=s.os:=ho
  subst e
  exact I.call (g':=g') (t':=t') (d':=d') u hok hg hch
end
abbrev XK:=Value→Option Addr→Hp→Prop
abbrev St:=List (Option V)
abbrev VK:=V→Hp→Prop
abbrev TE:=St→Hp→VK→Prop
abbrev TT:=St→Hp→(Bool→Hp→Prop)→Prop
abbrev TA:=St→Hp→(List V→Hp→Prop)→Prop
structure Ends where
  nx:St→Hp→Prop
  rt:VK
  bk:St→Hp→Prop:=fun _ _=>False
  ct:St→Hp→Prop:=fun _ _=>False
abbrev TS:=Ends→St→Hp→Prop
def EP (X:Cx) (pins:List (Addr × Obj)) (σ:St) (Q:VK) (u:Value) (s':Shared):Prop:=∃ v H',Inv X pins σ H' s'∧RelV v u∧Q v H'
def TP (X:Cx) (pins:List (Addr × Obj)) (σ:St) (Q:Bool→Hp→Prop) (b:Bool) (s':Shared):Prop:=∃ H',Inv X pins σ H' s'∧Q b H'
def AP (X:Cx) (pins:List (Addr × Obj)) (σ:St) (Q:List V→Hp→Prop) (us:List Value) (s':Shared):Prop:=∃ vs H',Inv X pins σ H' s'∧Vals vs us∧Q vs H'
def SP (X:Cx) (pins:List (Addr × Obj)) (D:Ends) (f:Flow) (s':Shared):Prop :=
  match f with
  | .next=>∃ σ' H',Inv X pins σ' H' s'∧D.nx σ' H'
  | .brk=>∃ σ' H',Inv X pins σ' H' s'∧D.bk σ' H'
  | .cont=>∃ σ' H',Inv X pins σ' H' s'∧D.ct σ' H'
  | .ret u=>∃ v σ' H',Inv X pins σ' H' s'∧RelV v u∧D.rt v H'
def PE (X:Cx) (e:Expr) (t:TE):Prop :=
  ∀ (pins:List (Addr × Obj)) (s:Shared) (σ:St) (H:Hp) (Q:VK),Inv X pins σ H s→t σ H Q→wpAny (model X.prog X.w) X.A (eval e X.env) (EP X pins σ Q) X.xe s
def PT (X:Cx) (e:Expr) (t:TT):Prop :=
  ∀ (pins:List (Addr × Obj)) (s:Shared) (σ:St) (H:Hp) (Q:Bool→Hp→Prop),Inv X pins σ H s→t σ H Q→wpAny (model X.prog X.w) X.A (isTrue e X.env (eval e X.env)) (TP X pins σ Q) X.xe s
def PW (X:Cx) (e:Expr) (t:TT):Prop :=
  ∀ (whole:Sem Value) (pins:List (Addr × Obj)) (s:Shared) (σ:St) (H:Hp) (Q:Bool→Hp→Prop),Inv X pins σ H s→t σ H Q→wpAny (model X.prog X.w) X.A (isTrue e X.env whole) (TP X pins σ Q) X.xe s
theorem PW.pt {X:Cx} {e:Expr} {t:TT} (h:PW X e t):PT X e t:=h _
def PA (X:Cx) (es:List Expr) (t:TA):Prop :=
  ∀ (pos:Pos) (pins:List (Addr × Obj)) (s:Shared) (σ:St) (H:Hp) (Q:List V→Hp→Prop),Inv X pins σ H s→t σ H Q→wpAny (model X.prog X.w) X.A (spliced (backTo pos (starEach es X.env))) (AP X pins σ Q) X.xe s
def PS (X:Cx) (st:Stmt) (t:TS):Prop :=
  ∀ (pins:List (Addr × Obj)) (s:Shared) (σ:St) (H:Hp) (D:Ends),Inv X pins σ H s→t D σ H→wpAny (model X.prog X.w) X.A (exec st X.env) (SP X pins D) X.xe s
def PSs (X:Cx) (st:List Stmt) (t:TS):Prop :=
  ∀ (pins:List (Addr × Obj)) (s:Shared) (σ:St) (H:Hp) (D:Ends),Inv X pins σ H s→t D σ H→wpAny (model X.prog X.w) X.A (execs st X.env) (SP X pins D) X.xe s
theorem thn {α:Type} {t:Sem α} {Q Q':α→Shared→Prop} {M:Model} {A:Around} {E:Value→Shared→Prop} {s:Shared} (h:wpAny M A t Q E s) (hQ:∀ a s,Q a s→Q' a s):wpAny M A t Q' E s:=wpAny_mono h hQ fun _ _ x=>x
open PySem PySem.Spec PyProof.Rows
section
variable {X:Cx}
def Aww (i:Nat):TE:=fun σ H Q=>∃ v,σ[i]?=some (some v)∧Q v H
def tC (v:V):TE:=fun _ H Q=>Q v H
theorem AuW {i:Nat} {x:Str} {pos:Pos} (hN:X.N[i]?=some x) (hv:Vis X.env.scope x) (hd:(x == ("__debug__" : Str))=false:=by decide) (hcd:(x == ("__classdict__" : Str))=false:=by decide):PE X (.Name x pos) (Aww i):=by
  intro pins s σ H Q I h
  obtain ⟨v,e,h⟩:=h
  obtain ⟨m,hn,hl⟩:=I.loc
  obtain ⟨u,r,l⟩:=hl i x v hN e hv
  have fin:EP X pins σ Q u s:=⟨v,H,I,r,h⟩
  rcases l with ⟨hk,hm⟩ | ⟨hk,c,hc,hcell⟩
  · exact wpAny_Name (wpAny_loadName_local I.ok.kind hk hn hm fin) hd
  · rcases hk with hk | hk
    · exact wpAny_Name (wpAny_loadName_cell I.ok.kind hk hc hcell fin) hd
    · exact wpAny_Name (wpAny_loadName_free I.ok.kind hk hc hcell fin hcd) hd
theorem Aj {i j pos}:PE X (.Constant (.int i) j pos) (tC (.int i)):=fun _ _ _ H _ I h=>wpAny_Constant_int ⟨.int i,H,I.tok _,⟨_,rfl⟩,h⟩
theorem G3 {b j pos}:PE X (.Constant (.bool b) j pos) (tC (.bl b)):=fun _ _ _ H _ I h=>Constant_bool ⟨.bl b,H,I,rfl,h⟩
theorem AoC {j pos}:PE X (.Constant .none j pos) (tC .non):=fun _ _ _ H _ I h=>Constant_none ⟨.non,H,I,rfl,h⟩
theorem GR {x j pos}:PE X (.Constant (.str x) j pos) (tC (.str x)):=fun _ _ _ H _ I h=>Calls.Constant_str ⟨.str x,H,I.tok _,⟨_,rfl⟩,h⟩
def Gl (X:Cx) (x:Str):Prop:=X.env.kindOf x=some .globalImplicit
theorem AlA {E:Value→Shared→Prop} {pins:List (Addr × Obj)} {s:Shared} {σ:St} {H:Hp} {x:Str} {u:Value} {pos:Pos} {Q:Value→Shared→Prop} (I:Inv X pins σ H s) (hg:Gl X x) (hm:X.mg x=some u) (h:Q u s)
    (hd:(x == ("__debug__" : Str))=false:=by decide):wpAny (model X.prog X.w) X.A (eval (.Name x pos) X.env) Q E s :=
  Calls.Name_function_global I.ok.kind hg (Calls.loadGlobal_global (by rw [I.ok.glob]; exact I.mod.glob.keeps I.bk) hm h) hd
theorem Aaf {E:Value→Shared→Prop} {pins:List (Addr × Obj)} {s:Shared} {σ:St} {H:Hp} {x:Str} {u:Value} {pos:Pos} {Q:Value→Shared→Prop} (I:Inv X pins σ H s) (hg:Gl X x) (hm:X.mg x=none) (hv:bootBuiltins x=some u) (h:Q u s)
    (hn:x ≠ "__name__" := by decide) (hd:(x == ("__debug__" : Str))=false:=by decide):wpAny (model X.prog X.w) X.A (eval (.Name x pos) X.env) Q E s:=by
  obtain ⟨mb,h1,h2⟩:=I.mod.blt
  exact Calls.Name_function_global I.ok.kind hg (Calls.loadGlobal_builtin (by rw [I.ok.glob]; exact I.mod.glob.keeps I.bk) hm (by rw [I.ok.blt]; exact h1.keeps I.bk) ((h2 x hn).trans hv) h) hd
theorem K8 {x:Str} {v:V} {u:Value} {pos:Pos} (hg:Gl X x) (hm:X.mg x=some u) (r:RelV v u) (hd:(x == ("__debug__" : Str))=false:=by decide):PE X (.Name x pos) (tC v) :=
  fun _ _ _ H _ I h=>AlA I hg hm ⟨v,H,I,r,h⟩ hd
theorem O3 {x:Str} {v:V} {u:Value} {pos:Pos} (hg:Gl X x) (hm:X.mg x=none) (hv:bootBuiltins x=some u) (r:RelV v u) (hn:x ≠ "__name__" := by decide) (hd:(x == ("__debug__" : Str))=false:=by decide):PE X (.Name x pos) (tC v) :=
  fun _ _ _ H _ I h=>Aaf I hg hm hv ⟨v,H,I,r,h⟩ hn hd
def t2I (ta tb:TE) (k:Int→Int→Hp→Prop):St→Hp→Prop:=fun σ H=>ta σ H fun x H1=>tb σ H1 fun y H2=>∃ i j,x=.int i∧y=.int j∧k i j H2
def AyE (ta tb:TE):TE:=fun σ H Q=>t2I ta tb (fun i j H2=>Q (.int (i+j)) H2) σ H
def AyF (ta tb:TE):TE:=fun σ H Q=>t2I ta tb (fun i j H2=>Q (.int (i - j)) H2) σ H
def AyG (ta tb:TE):TE:=fun σ H Q=>t2I ta tb (fun i j H2=>(-(2 ^ 64) < i∧i < 2 ^ 64)∧Q (.int (i * j)) H2) σ H
variable {a b:Expr} {ta tb:TE} {pos:Pos}
def PC (X:Cx) (op:CmpOp) (a b:Expr) (t:TE):Prop :=
  ∀ (pins:List (Addr × Obj)) (s:Shared) (σ:St) (H:Hp) (Q:VK),Inv X pins σ H s→t σ H Q →
    wpAny (model X.prog X.w) X.A (eval a X.env) (fun v s₁=>wpAny (model X.prog X.w) X.A (eval b X.env) (fun u s₂=>wpAny (model X.prog X.w) X.A (compareOp op v u) (EP X pins σ Q) X.xe s₂) X.xe s₁) X.xe s
def Aqx (p:Int→Int→Bool) (ta tb:TE):TE:=fun σ H Q=>t2I ta tb (fun i j H2=>Q (.bl (p i j)) H2) σ H
abbrev tLt:TE→TE→TE:=Aqx fun i j=>decide (i < j)
abbrev tLe:TE→TE→TE:=Aqx fun i j=>decide (i≤j)
abbrev tGt:TE→TE→TE:=Aqx fun i j=>decide (j < i)
abbrev tGe:TE→TE→TE:=Aqx fun i j=>decide (j≤i)
abbrev AyH:TE→TE→TE:=Aqx fun i j=>decide (i=j)
abbrev AyI:TE→TE→TE:=Aqx fun i j=>!decide (i=j)
def AyJ (ta:TE):TE:=fun σ H Q=>ta σ H fun x H1=>Q (.bl (decide (x=.non))) H1
def Ayx (ta:TE):TE:=fun σ H Q=>ta σ H fun x H1=>Q (.bl (!decide (x=.non))) H1
def tB (t:TE):TT:=fun σ H Q=>t σ H fun x H1=>∃ c,x=.bl c∧Q c H1
theorem Eh {e:Expr} {t:TE} (h:PE X e t) (he:∀ whole,isTrue e X.env whole=(do let v ← whole; standAt e.pos; holding [v] (truthy v)):=by intro _; rfl):PT X e (tB t):=by
  intro pins s σ H Q I hw
  refine isTrue_plain (thn (h pins s σ H _ I hw) fun v s1 ⟨x,H1,I1,r1,q1⟩=>?_) (he _)
  obtain ⟨d,rfl,q⟩:=q1
  cases r1
  exact wpAny_truthy_bool ⟨H1,I1,q⟩
variable {tA tB':TT} {rest:List Expr}
def Ax4 (t u:TT):TT:=fun σ H Q=>t σ H fun c H1=>if c=true then u σ H1 Q else Q false H1
def tOr (t u:TT):TT:=fun σ H Q=>t σ H fun c H1=>if c=true then Q true H1 else u σ H1 Q
def Ax5 (t:TT):TT:=fun σ H Q=>t σ H fun c H1=>Q (!c) H1
theorem pw_and1 (ha:PT X a tA):PW X (.BoolOp .And [a] pos) tA:=by
  intro wh pins s σ H Q I h
  refine isTrue_and (thn (ha pins s σ H Q I h) fun c s1 e=>?_)
  cases c with
  | true=>exact isTrue_and_nil e
  | false=>exact e
theorem pw_or1 (ha:PT X a tA):PW X (.BoolOp .Or [a] pos) tA:=by
  intro wh pins s σ H Q I h
  refine isTrue_or (thn (ha pins s σ H Q I h) fun c s1 e=>?_)
  cases c with
  | false=>exact isTrue_or_nil e
  | true=>exact e
theorem pw_and (ha:PT X a tA) (hb:PW X (.BoolOp .And (b::rest) pos) tB'):PW X (.BoolOp .And (a::b::rest) pos) (Ax4 tA tB'):=by
  intro wh pins s σ H Q I h
  refine isTrue_and (thn (ha pins s σ H _ I h) fun c s1 ⟨H1,I1,q1⟩=>?_)
  cases c with
  | true=>exact hb wh pins s1 σ H1 Q I1 q1
  | false=>exact ⟨H1,I1,q1⟩
theorem pw_or (ha:PT X a tA) (hb:PW X (.BoolOp .Or (b::rest) pos) tB'):PW X (.BoolOp .Or (a::b::rest) pos) (tOr tA tB'):=by
  intro wh pins s σ H Q I h
  refine isTrue_or (thn (ha pins s σ H _ I h) fun c s1 ⟨H1,I1,q1⟩=>?_)
  cases c with
  | true=>exact ⟨H1,I1,q1⟩
  | false=>exact hb wh pins s1 σ H1 Q I1 q1
theorem G4 (ha:PT X a tA):PT X (.UnaryOp .Not a pos) (Ax5 tA):=by
  intro pins s σ H Q I h
  exact isTrue_not (ha pins s σ H (fun c H1=>Q (!c) H1) I h)
def Ayy (ta tb:TE):TE:=fun σ H Q=>ta σ H fun x H1=>∃ c,x=.bl c∧if c=true then tb σ H1 Q else Q (.bl false) H1
def AyK (ta tb:TE):TE:=fun σ H Q=>ta σ H fun x H1=>∃ c,x=.bl c∧if c=true then Q (.bl true) H1 else tb σ H1 Q
def Ayz (ta:TE):TE:=fun σ H Q=>ta σ H fun x H1=>∃ c,x=.bl c∧Q (.bl (!c)) H1
def tIf (t:TT) (ta tb:TE):TE:=fun σ H Q=>t σ H fun c H1=>if c=true then ta σ H1 Q else tb σ H1 Q
theorem Arw {c:Expr} (hc:PT X c tA) (ha:PE X a ta) (hb:PE X b tb):PE X (.IfExp c a b pos) (tIf tA ta tb):=by
  intro pins s σ H Q I h
  refine wpAny_IfExp (thn (hc pins s σ H _ I h) fun d s1 ⟨H1,I1,q1⟩=>?_)
  cases d with
  | true=>exact ha pins s1 σ H1 Q I1 q1
  | false=>exact hb pins s1 σ H1 Q I1 q1
end
open PySem PySem.Spec PyProof.Rows
def SqL (K:PySem.W.Frag) (H:Hp) (a:Addr) (xs:List V):Prop :=
  Rd H a (.lst xs) ∨
    ∃ (o:Obj) (its:Array Value) (n:Nat),K.lookup a=some o∧o.cls=.type "list" ∧ o.dict=none∧o.data=.seq its n∧its.size≤sizeLine∧Vals xs its.toList
def SqT (K:PySem.W.Frag) (H:Hp) (a:Addr) (xs:List V):Prop :=
  Rd H a (.tup xs) ∨
    ∃ (o:Obj) (its:Array Value) (n:Nat),K.lookup a=some o∧o.cls=.type "tuple" ∧ o.data=.seq its n∧its.size≤sizeLine∧Vals xs its.toList
def Ax6:Value→Option V
  | .none=>some .non
  | .bool b=>some (.bl b)
  | .int i _=>some (.int i)
  | .str x _=>some (.str x)
  | .bytes b _=>some (.byt b)
  | .float b _=>some (.flt b)
  | .ref a=>some (.ref a)
  | .type n=>some (.ty n)
  | _=>none
theorem RelV.abs {x:V} {u:Value} (r:RelV x u):Ax6 u=some x:=by
  cases x with
  | non=>cases r; rfl
  | bl _=>cases r; rfl
  | int _=>obtain ⟨t,rfl⟩:=r; rfl
  | str _=>obtain ⟨t,rfl⟩:=r; rfl
  | byt _=>obtain ⟨t,rfl⟩:=r; rfl
  | flt _=>obtain ⟨t,rfl⟩:=r; rfl
  | ref _=>cases r; rfl
  | ty _=>cases r; rfl
theorem RelV.inj {x y:V} {u:Value} (r:RelV x u) (q:RelV y u):x=y:=Option.some.inj (r.abs.symm.trans q.abs)
theorem Vals.inj:∀ {xs ys:List V} {us:List Value},Vals xs us→Vals ys us→xs=ys
  | _,_,_,.nil,.nil=>rfl
  | _,_,_,.cons r t,.cons r' t'=>by rw [r.inj r',Vals.inj t t']
section
variable {X:Cx} {pins:List (Addr × Obj)} {σ:St} {H:Hp} {s:Shared} {a:Addr} {xs ys:List V}
theorem SqL.of {K:PySem.W.Frag} (h:H a=some (.lst xs)):SqL K H a xs:=.inl (.inl h)
theorem SqT.of {K:PySem.W.Frag} (h:H a=some (.tup xs)):SqT K H a xs:=.inl (.inl h)
theorem Inv.list (I:Inv X pins σ H s) (h:SqL X.K H a xs):∃ its:List Value,Vals xs its∧PlainL s.heap a its.toArray∧xs.length≤sizeLine:=by
  rcases h with h | ⟨o,its,n,hk,hc,hd,hs,hz,r⟩
  · obtain ⟨z,its,n,r,e⟩:=h.ok I.hok
    exact ⟨its,r,⟨_,n,e,rfl,rfl,rfl⟩,z⟩
  · refine ⟨its.toList,r,⟨o,n,I.kIn a o hk,hc,hd,by simpa using hs⟩,?_⟩
    have e:=r.length
    simp only [Array.length_toList] at e
    omega
theorem Inv.tuple (I:Inv X pins σ H s) (h:SqT X.K H a xs):∃ its:List Value,Vals xs its∧IsTup s.heap a its.toArray∧xs.length≤sizeLine:=by
  rcases h with h | ⟨o,its,n,hk,hc,hs,hz,r⟩
  · obtain ⟨z,its,r,p⟩:=h.ok I.hok
    exact ⟨its,r,p,z⟩
  · refine ⟨its.toList,r,⟨o,I.kIn a o hk,hc,n,by simpa using hs⟩,?_⟩
    have e:=r.length
    simp only [Array.length_toList] at e
    omega
theorem Inv.RP (I:Inv X pins σ H s) (h:SqL X.K H a xs) (h':SqL X.K H a ys):xs=ys:=by
  obtain ⟨its,r,⟨o,n,e,_,_,d⟩,_⟩:=I.list h
  obtain ⟨its',r',⟨o',n',e',_,_,d'⟩,_⟩:=I.list h'
  rw [e] at e'; cases e'
  rw [d] at d'
  injection d' with d1 _
  have:its=its':=by simpa using congrArg Array.toList d1
  subst this
  exact r.inj r'
theorem Inv.Aga (I:Inv X pins σ H s) (h:SqT X.K H a xs) (h':SqT X.K H a ys):xs=ys:=by
  obtain ⟨its,r,⟨o,e,_,n,d⟩,_⟩:=I.tuple h
  obtain ⟨its',r',⟨o',e',_,n',d'⟩,_⟩:=I.tuple h'
  rw [e] at e'; cases e'
  rw [d] at d'
  injection d' with d1 _
  have:its=its':=by simpa using congrArg Array.toList d1
  subst this
  exact r.inj r'
end
abbrev Cx.wish (X:Cx) (E:Value→Shared→Prop):Cx:={ X with xe:=E }
abbrev Cx.nox (X:Cx):Cx:=X.wish fun _ _=>False
theorem Cx.Ok.wish {X:Cx} (ok:X.Ok) (E:Value→Shared→Prop):(X.wish E).Ok :=
  ⟨ok.mod,ok.kind,ok.glob,ok.blt,ok.above,ok.inj,ok.has,ok.cab,ok.hd,ok.frames,ok.stk,ok.exf,ok.bs,ok.bsz,ok.Ak1,ok.Ak2,ok.Adh,ok.frf⟩
theorem Cx.Ok.Aag {X:Cx} {E:Value→Shared→Prop} (ok:(X.wish E).Ok):X.Ok :=
  ⟨ok.mod,ok.kind,ok.glob,ok.blt,ok.above,ok.inj,ok.has,ok.cab,ok.hd,ok.frames,ok.stk,ok.exf,ok.bs,ok.bsz,ok.Ak1,ok.Ak2,ok.Adh,ok.frf⟩
section
variable {X:Cx} {pins:List (Addr × Obj)} {σ:St} {H:Hp} {s:Shared} {E:Value→Shared→Prop}
theorem Inv.wish (I:Inv X pins σ H s) (E:Value→Shared→Prop):Inv (X.wish E) pins σ H s:=⟨I.ok.wish E,I.os,I.bare,I.base,I.loc,I.cell,I.free,I.Ra,I.pin,I.hok,I.len⟩
theorem Inv.Aag (I:Inv (X.wish E) pins σ H s):Inv X pins σ H s:=⟨I.ok.Aag,I.os,I.bare,I.base,I.loc,I.cell,I.free,I.Ra,I.pin,I.hok,I.len⟩
theorem SP.Aag {D:Ends} {f:Flow} {s':Shared} (h:SP (X.wish E) pins D f s'):SP X pins D f s':=by
  cases f with
  | next=>obtain ⟨σ',H',I,q⟩:=h; exact ⟨σ',H',I.Aag,q⟩
  | brk=>obtain ⟨σ',H',I,q⟩:=h; exact ⟨σ',H',I.Aag,q⟩
  | cont=>obtain ⟨σ',H',I,q⟩:=h; exact ⟨σ',H',I.Aag,q⟩
  | ret u=>obtain ⟨v,σ',H',I,r,q⟩:=h; exact ⟨v,σ',H',I.Aag,r,q⟩
theorem PSs.nox {st:List Stmt} {t:TS} (h:PSs X.nox st t):PSs X st t:=fun pins s σ H D I hw =>
  wpAny_mono (h pins s σ H D (I.wish _) hw) (fun _ _ q=>q.Aag) fun _ _ z=>False.elim z
end
section
variable {X:Cx} {st:Stmt} {rest:List Stmt} {t u:TS} {e:Expr} {te:TE} {pos:Pos}
def Awx:TS:=fun D σ H=>D.nx σ H
def Ax7 (t u:TS):TS:=fun D σ H=>t { D with nx:=u D } σ H
theorem Bc:PSs X [] Awx:=fun _ _ σ H _ I h=>wpAny_execs_nil ⟨σ,H,I,h⟩
theorem Ad (h1:PS X st t) (h2:PSs X rest u):PSs X (st::rest) (Ax7 t u):=by
  intro pins s σ H D I h
  refine wpAny_execs_cons (thn (h1 pins s σ H { D with nx:=u D } I h) fun f s1 q=>?_)
  cases f with
  | next =>
    obtain ⟨σ',H',I',q⟩:=q
    exact h2 pins s1 σ' H' D I' q
  | ret v=>exact q
  | brk=>exact q
  | cont=>exact q
theorem Ae (h1:PS X st t):PSs X [st] t:=by
  intro pins s σ H D I h
  refine wpAny_execs_cons (thn (h1 pins s σ H D I h) fun f s1 q=>?_)
  cases f with
  | next=>exact wpAny_execs_nil q
  | ret v=>exact q
  | brk=>exact q
  | cont=>exact q
def Ax8:TS:=fun D σ H=>D.bk σ H
def Ay0:TS:=fun D σ H=>D.ct σ H
theorem Inv.quiet {pins:List (Addr × Obj)} {σ:St} {H:Hp} {s:Shared} (I:Inv X pins σ H s):interactive X.env=false:=by simp [interactive,I.ok.kind]
def Awy (te:TE):TS:=fun D σ H=>te σ H fun _ H1=>D.nx σ H1
theorem Ge (he:PE X e te) (hs:swapsWith e none pos.line X.env=pure false:=by rfl):PS X (.Expr e pos) (Awy te):=by
  intro pins s σ H D I h
  exact wpAny_Expr_any (thn (he pins s σ H _ I h) fun v s1 ⟨x,H1,I1,r1,q1⟩=>⟨σ,H1,I1,q1⟩) I.quiet hs
def Ax9 (te:TE):TS:=fun D σ H=>te σ H D.rt
theorem Aq (he:PE X e te):PS X (.Return (some e) pos) (Ax9 te):=by
  intro pins s σ H D I h
  exact wpAny_Return_some (thn (he pins s σ H _ I h) fun v s1 ⟨x,H1,I1,r1,q1⟩=>⟨x,σ,H1,I1,r1,q1⟩)
def Ay1:TS:=fun D _ H=>D.rt .non H
def AxA (c:TT) (t u:TS):TS:=fun D σ H=>c σ H fun b H1=>if b=true then t D σ H1 else u D σ H1
theorem BL {c:Expr} {a b:List Stmt} {tc:TT} (hc:PT X c tc) (ha:PSs X a t) (hb:PSs X b u):PS X (.If c a b pos) (AxA tc t u):=by
  intro pins s σ H D I h
  refine wpAny_If (thn (hc pins s σ H _ I h) fun d s1 ⟨H1,I1,q1⟩=>?_)
  cases d with
  | true=>exact ha pins s1 σ H1 D I1 q1
  | false=>exact hb pins s1 σ H1 D I1 q1
def AuX:TS:=fun _ _ _=>False
theorem G5:PS X st AuX:=fun _ _ _ _ _ _ h=>h.elim
end
abbrev TG:=V→St→Hp→(St→Hp→Prop)→Prop
abbrev TGs:=List V→St→Hp→(St→Hp→Prop)→Prop
def PG (X:Cx) (target:Expr) (t:TG):Prop :=
  ∀ (pins:List (Addr × Obj)) (s:Shared) (σ:St) (H:Hp) (v:V) (u:Value) (Q:St→Hp→Prop),Inv X pins σ H s→RelV v u→t v σ H Q →
    wpAny (model X.prog X.w) X.A (assign target X.env u) (fun _ s'=>∃ σ' H',Inv X pins σ' H' s'∧Q σ' H') X.xe s
def PGs (X:Cx) (ts:List Expr) (t:TGs):Prop :=
  ∀ (pins:List (Addr × Obj)) (s:Shared) (σ:St) (H:Hp) (vs:List V) (us:List Value) (Q:St→Hp→Prop),Inv X pins σ H s→Vals vs us→t vs σ H Q →
    wpAny (model X.prog X.w) X.A (assignInOrder ((assignEach ts X.env).map (·.2)) us) (fun _ s'=>∃ σ' H',Inv X pins σ' H' s'∧Q σ' H') X.xe s
abbrev At1:=V→V→V→Hp→(Hp→Prop)→Prop
def Awz (X:Cx) (t:At1):Prop :=
  ∀ (pins:List (Addr × Obj)) (s:Shared) (σ:St) (H:Hp) (o i v:V) (ov iv u:Value) (Q:Hp→Prop),Inv X pins σ H s→RelV o ov→RelV i iv→RelV v u→t o i v H Q →
    wpAny (model X.prog X.w) X.A (setItem ov iv u) (fun _ s'=>∃ H',Inv X pins σ H' s'∧Q H') X.xe s
abbrev TIp:=V→V→Hp→VK→Prop
def PIp (X:Cx) (op:Operator) (t:TIp):Prop :=
  ∀ (pins:List (Addr × Obj)) (s:Shared) (σ:St) (H:Hp) (x y:V) (v u:Value) (Q:VK),Inv X pins σ H s→RelV x v→RelV y u→t x y H Q →
    wpAny (model X.prog X.w) X.A (inplaceOp op v u) (EP X pins σ Q) X.xe s
section
variable {X:Cx} {pos:Pos}
def Aah (i:Nat):TG:=fun v σ H Q=>Q (σ.set i (some v)) H
theorem Cg {i:Nat} {x:Str} (hN:X.N.Nodup) (hi:X.N[i]?=some x) (hx:Loc X.env.scope x) (hf:X.fn x=true∨X.env.scope.names.lookup x=some .local:=by first | exact .inl rfl | exact .inr rfl | assumption):PG X (.Name x pos) (Aah i):=by
  intro pins s σ H v u Q I r h
  exact wpAny_assign_Name (Aip I hN hi hx r (fun s' I'=>⟨_,H,I',h⟩) hf)
def Aw0:TGs:=fun vs σ H Q=>vs=[]∧Q σ H
def Arx (t:TG) (u:TGs):TGs:=fun vs σ H Q=>∃ v r,vs=v::r∧t v σ H fun σ' H'=>u r σ' H' Q
theorem At2:PGs X [] Aw0:=by
  intro pins s σ H vs us Q I r h
  obtain ⟨e,h⟩:=h
  subst e
  cases r
  exact assignInOrder_nil ⟨σ,H,I,h⟩
theorem Ani {e:Expr} {es:List Expr} {t:TG} {u:TGs} (h1:PG X e t) (h2:PGs X es u)
    (hs:(assignEach (e::es) X.env).map (·.2)=assign e X.env::(assignEach es X.env).map (·.2):=by rfl):PGs X (e::es) (Arx t u):=by
  intro pins s σ H vs us Q I r h
  obtain ⟨v,vr,e1,h⟩:=h
  subst e1
  cases r with
  | cons r rr =>
    rw [hs]
    refine assignInOrder_cons (thn (h1 pins s σ H _ _ _ I r h) fun _ s1 ⟨σ1,H1,I1,q1⟩=>?_)
    exact h2 pins s1 σ1 H1 _ _ Q I1 rr q1
def Aw1 (K:PySem.W.Frag) (n:Nat) (t:TGs):TG:=fun v σ H Q=>∃ a xs,v=.ref a∧SqT K H a xs∧xs.length=n∧t xs σ H Q
theorem AuY {es:List Expr} {k:Nat} {t:TGs} {n:Nat} (hc:X.calm=true) (h:PGs X es t)
    (hn:(assignEach es X.env).length=n:=by rfl) (hst:(assignEach es X.env).findIdx? (·.1)=none:=by rfl):PG X (.Tuple es k pos) (Aw1 X.K n t):=by
  intro pins s σ H v u Q I r hw
  obtain ⟨a,xs,e1,hq,hl,hw⟩:=hw
  subst e1
  cases r
  obtain ⟨its,rv,ht,hz⟩:=I.tuple hq
  refine assign_Tuple_tuple (I.ok.hd hc) ht (by simp [hn,← hl,rv.length]) hst fun h' hx=>?_
  have I1:Inv X pins σ H { s with heap:=h' }:=I.kept (t':=s.toks) fun b o e=>hx b o (Nat.ne_of_lt (Heap.lt_size e)) e
  exact h pins _ σ H xs _ Q I1 (by simpa using rv) hw
def AxB (to ti:TE) (t:At1):TG:=fun v σ H Q=>to σ H fun o H1=>ti σ H1 fun i H2=>t o i v H2 fun H3=>Q σ H3
theorem Ary {o i:Expr} {to ti:TE} {t:At1} (ho:PE X o to) (hi:PE X i ti) (hs:Awz X t)
    (ha:∀ v,assign (.Subscript o i pos) X.env v=(do
      let ov ← holding [v] (eval o X.env)
      let iv ← holding [v,ov] (eval i X.env)
      standAt pos
      holding [v,ov,iv] (setItem ov iv v)
      release [v,ov,iv] []):=by intro _; rfl):PG X (.Subscript o i pos) (AxB to ti t):=by
  intro pins s σ H v u Q I r h
  rw [ha]
  refine wpAny_bind (wpAny_holding (thn (ho pins s σ H _ I h) fun ov s1 ⟨x,H1,I1,r1,q1⟩=>?_))
  refine wpAny_bind (wpAny_holding (thn (hi pins s1 σ H1 _ I1 q1) fun iv s2 ⟨y,H2,I2,r2,q2⟩=>?_))
  refine wpAny_bind (wpAny_standAt (wpAny_bind (wpAny_holding (thn (hs pins s2 σ H2 x y v ov iv u _ I2 r1 r2 r q2) fun _ s3 ⟨H3,I3,q3⟩=>?_))))
  exact wpAny_release ⟨σ,H3,I3,q3⟩
def At3 (te:TE) (g:TG):TS:=fun D σ H=>te σ H fun x H1=>g x σ H1 D.nx
theorem Arz {tg e:Expr} {te:TE} {g:TG} (he:PE X e te) (hg:PG X tg g) (hs:swapsWithSole [tg] e pos.line X.env=pure false:=by rfl) (hw:swappedStores [tg] e X.env=pure none:=by rfl)
    (h1:(assignEach [tg] X.env).map (·.2)=[assign tg X.env]:=by rfl):PS X (.Assign [tg] e pos) (At3 te g):=by
  intro pins s σ H D I h
  refine wpAny_Assign_stores (thn (he pins s σ H _ I h) fun v s1 ⟨x,H1,I1,r1,q1⟩=>?_) hs hw
  rw [h1]
  exact thn (hg pins s1 σ H1 x v _ I1 r1 q1) fun _ s2 q=>q
theorem Bo {i:Nat} {x:Str} {e:Expr} {te:TE} {pos':Pos} (hN:X.N.Nodup) (hi:X.N[i]?=some x) (hx:Loc X.env.scope x) (he:PE X e te) (hs:swapsWith e (some (.Name x pos')) pos.line X.env=pure false:=by rfl) (hf:X.fn x=true∨X.env.scope.names.lookup x=some .local:=by first | exact .inl rfl | exact .inr rfl | assumption) :
    PS X (.Assign [.Name x pos'] e pos) (At3 te (Aah i)):=by
  intro pins s σ H D I h
  refine wpAny_Assign_Name (thn (he pins s σ H _ I h) fun v s1 ⟨y,H1,I1,r1,q1⟩=>?_) hs
  exact Aip I1 hN hi hx r1 (fun s2 I2=>⟨_,H1,I2,q1⟩) hf
def AyL (i j:Nat) (ta:TA):TS:=fun D σ H=>ta σ H fun vs H1=>∃ v w,vs=[v,w]∧D.nx ((σ.set i (some v)).set j (some w)) H1
def AxC (i:Nat) (te:TE) (ti:TIp):TS:=fun D σ H=>∃ x,σ[i]?=some (some x)∧te σ H fun y H1=>ti x y H1 fun z H2=>D.nx (σ.set i (some z)) H2
theorem AuZ {i:Nat} {x:Str} {e:Expr} {te:TE} {op:Operator} {ti:TIp} {pos':Pos} (hN:X.N.Nodup) (hi:X.N[i]?=some x) (hx:Loc X.env.scope x) (he:PE X e te) (ho:PIp X op ti) (hf:X.fn x=true∨X.env.scope.names.lookup x=some .local:=by first | exact .inl rfl | exact .inr rfl | assumption) :
    PS X (.AugAssign (.Name x pos') op e pos) (AxC i te ti):=by
  intro pins s σ H D I h
  obtain ⟨v,e1,h⟩:=h
  obtain ⟨m,hn,hl⟩:=I.loc
  have vis:Vis X.env.scope x:=by rcases hx with k | k; exact .inl k; exact .inr (.inl k)
  obtain ⟨u,r,l⟩:=hl i x v hi e1 vis
  refine wpAny_AugAssign_Name ?_
  have go:wpAny (model X.prog X.w) X.A (eval e X.env) (fun w s₂=>wpAny (model X.prog X.w) X.A (inplaceOp op u w) (fun r s₃=>wpAny (model X.prog X.w) X.A (storeName X.env x r) (fun _=>SP X pins D .next) X.xe s₃) X.xe s₂) X.xe s:=by
    refine thn (he pins s σ H _ I h) fun w s1 ⟨y,H1,I1,r1,q1⟩=>?_
    refine thn (ho pins s1 σ H1 v y u w _ I1 r r1 q1) fun z s2 ⟨zv,H2,I2,r2,q2⟩=>?_
    exact Aip I2 hN hi hx r2 (fun s3 I3=>⟨_,H2,I3,q2⟩) hf
  rcases l with ⟨hk,hm⟩ | ⟨hk,c,hc,hcell⟩
  · exact wpAny_loadName_local I.ok.kind hk hn hm go
  · rcases hk with hk | hk
    · exact wpAny_loadName_cell I.ok.kind hk hc hcell go
    · rcases hx with k | k
      · have:X.env.scope.names.lookup x=some .free:=hk
        rw [k] at this; cases this
      · have:X.env.scope.names.lookup x=some .free:=hk
        rw [k] at this; cases this
def Ay2 (to ti te:TE) (AxD:V→V→Hp→VK→Prop) (tip:TIp) (AxE:At1):TS:=fun D σ H=>to σ H fun o H1=>ti σ H1 fun i H2=>AxD o i H2 fun x H3=>te σ H3 fun y H4=>tip x y H4 fun z H5=>AxE o i z H5 fun H6=>D.nx σ H6
def AyM (X:Cx) (t:V→V→Hp→VK→Prop):Prop :=
  ∀ (pins:List (Addr × Obj)) (s:Shared) (σ:St) (H:Hp) (o i:V) (ov iv:Value) (Q:VK),Inv X pins σ H s→RelV o ov→RelV i iv→t o i H Q →
    wpAny (model X.prog X.w) X.A (getItem ov iv) (EP X pins σ Q) X.xe s
def ipI (f:Int→Int→Int):TIp:=fun x y H Q=>∃ i j,x=.int i∧y=.int j∧Q (.int (f i j)) H
theorem Ava:PIp X .Add (ipI fun i j=>i+j):=by
  intro pins s σ H x y v u Q I r1 r2 h
  obtain ⟨i,j,e1,e2,q⟩:=h
  subst e1; subst e2
  obtain ⟨t,rfl⟩:=r1
  obtain ⟨t',rfl⟩:=r2
  exact iadd_int ⟨.int _,H,I.tok _,⟨_,rfl⟩,q⟩
end
section
variable {X:Cx} {pos:Pos}
def Avb (c:TT) (tb:TS):TS:=fun D σ H=>∃ W:Nat→St→Hp→Prop,(∃ m,W m σ H)∧∀ m σ H,W m σ H →
  c σ H fun b H1=>if b=true then ∃ N:St→Hp→Prop,(∀ σ' H',N σ' H'→∃ m',m' < m∧W m' σ' H')∧tb { D with nx:=N,ct:=N,bk:=D.nx } σ H1 else D.nx σ H1
theorem Aiq {c:Expr} {body:List Stmt} {tc:TT} {tb:TS} (hp:PassesOwn (model X.prog X.w) X.A X.env X.xe) (hc:PT X c tc) (hb:PSs X body tb):PS X (.While c body [] pos) (Avb tc tb):=by
  intro pins s σ H D I h
  obtain ⟨W,⟨m0,w0⟩,turn⟩:=h
  refine wpAny_While (codeAny_whileLoop (fun n s'=>∃ σ' H',Inv X pins σ' H' s'∧W n σ' H') ?_ m0 ⟨σ,H,I,w0⟩)
  rintro n s1 ⟨σ1,H1,I1,w1⟩
  refine wpAny_passesOwn hp (thn (hc pins s1 σ1 H1 _ I1 (turn n σ1 H1 w1)) fun b s2 ⟨H2,I2,q2⟩=>?_)
  cases b with
  | true =>
    obtain ⟨N,hN,q2⟩:=q2
    rw [if_pos rfl]
    refine wpAny_passesOwn hp (thn (hb pins s2 σ1 H2 _ I2 q2) fun f s3 q3=>?_)
    cases f with
    | next =>
      obtain ⟨σ3,H3,I3,n3⟩:=q3
      obtain ⟨m',hm,w3⟩:=hN σ3 H3 n3
      exact ⟨m',hm,σ3,H3,I3,w3⟩
    | cont =>
      obtain ⟨σ3,H3,I3,n3⟩:=q3
      obtain ⟨m',hm,w3⟩:=hN σ3 H3 n3
      exact ⟨m',hm,σ3,H3,I3,w3⟩
    | brk=>exact q3
    | ret v=>exact q3
  | false =>
    rw [if_neg Bool.false_ne_true]
    exact wpAny_execs_nil ⟨σ1,H2,I2,q2⟩
end
structure It where
  go:Nat→Hp→Prop
  yld:Nat→Hp→V→Hp→Prop
  stop:Nat→Hp→Prop
def Rj (X:Cx) (pins:List (Addr × Obj)) (H:Hp) (b:Addr):Prop :=
  H b=none∧b≠X.env.locals∧b∉X.fs∧(b∈X.ex∨X.s₀.heap.objs.size≤b)∧(∀ x c,X.env.cells.lookup x=some c→c≠b)∧∀ p∈X.pn++pins,p.1≠b
theorem Inv.At4 {X:Cx} {pins:List (Addr × Obj)} {σ:St} {H H':Hp} {s:Shared} {b:Addr} (I:Inv X pins σ H s) (hb:s.heap.objs.size≤b) (hn:H' b=none):Rj X pins H' b:=by
  refine ⟨hn,Nat.ne_of_gt (Nat.lt_of_lt_of_le I.lt hb),I.Ax2 hb,.inr (Nat.le_trans I.sz hb),fun x c e z=>?_,fun p hp z=>?_⟩
  · obtain ⟨v,q⟩:=I.cell x c e
    exact absurd (Nat.lt_of_lt_of_le q.lt (by rw [z]; exact hb)) (Nat.lt_irrefl _)
  · exact absurd (Nat.lt_of_lt_of_le (Heap.lt_size (I.pin p hp).1) (by rw [z]; exact hb)) (Nat.lt_irrefl _)
structure Turn (P:Program) (w:World) (K:PySem.W.Frag) (tg:Expr) (J:It) (fp:List Addr) (it:Addr) (tn:Nat→Heap→Prop):Prop where
  mem:it∈fp
  obj:∀ i h,tn i h→∀ b∈fp,∃ o,h.get? b=some o∧∀ v,o.data≠.cell v
  keep:∀ i h h',tn i h→(∀ b∈fp,∀ o,h.get? b=some o→h'.get? b=some o)→tn i h'
  item:∀ (X:Cx),X.prog=P→X.w=w→X.K=K→X.calm=true→∀ (i:Nat) (pins:List (Addr × Obj)) (s:Shared) (σ:St) (H:Hp) (E:Value→Shared→Prop),Inv X pins σ H s→(∀ b∈fp,Rj X pins H b)→tn i s.heap→J.go i H →
    wpAny (model P w) X.A (pyNext (.ref it)) (fun r s1=>∃ u,r=some u ∧
      wpAny (model P w) X.A (letOwnedTupleGo tg (.ref it) u) (fun _ s2=>∃ x H',Inv X pins σ H' s2∧RelV x u∧J.yld i H x H'∧tn (i+1) s2.heap∧∀ b∈fp,H' b=none) E s1) E s
  done:∀ (X:Cx),X.prog=P→X.w=w→X.K=K→X.calm=true→∀ (i:Nat) (pins:List (Addr × Obj)) (s:Shared) (σ:St) (H:Hp) (E:Value→Shared→Prop),Inv X pins σ H s→(∀ b∈fp,Rj X pins H b)→tn i s.heap→J.stop i H →
    wpAny (model P w) X.A (pyNext (.ref it)) (fun r s1=>r=none∧Inv X pins σ H s1) E s
  self:∀ (A:Around) (i:Nat) (s:Shared) (Q:Value→Shared→Prop) (E:Value→Shared→Prop),tn i s.heap→Q (.ref it) s→wpAny (model P w) A (pyIter (.ref it)) Q E s
abbrev TI:=St→Hp→(It→Hp→Prop)→Prop
def PIE (X:Cx) (pins:List (Addr × Obj)) (σ:St) (tg:Expr) (R:It→Hp→Prop) (itv:Value) (s2:Shared):Prop :=
  ∃ (it:Addr) (fp:List Addr) (tn:Nat→Heap→Prop) (J:It) (H':Hp),itv=.ref it∧Inv X pins σ H' s2∧Turn X.prog X.w X.K tg J fp it tn∧tn 0 s2.heap∧(∀ b∈fp,Rj X pins H' b)∧R J H'
def PI (X:Cx) (tg iter:Expr) (wi:TI):Prop :=
  ∀ (pins:List (Addr × Obj)) (s:Shared) (σ:St) (H:Hp) (R:It→Hp→Prop),Inv X pins σ H s→wi σ H R →
    wpAny (model X.prog X.w) X.A (eval iter X.env) (fun v s1=>wpAny (model X.prog X.w) X.A (pyIter v) (PIE X pins σ tg R) X.xe s1) X.xe s
theorem Ap9 {M:Model} {A:Around} {E:Value→Shared→Prop} {s:Shared} {tg:Expr} {it:Addr} {u:Value} {o:Obj} {n:String} {vs:Array Value} {Q:Unit→Shared→Prop} (ho:s.heap.get? it=some o) (hc:o.cls=.type n) (hd:o.data=.fields vs)
    (hn:["enumerate", "zip", "dict_itemiterator", "dict_reverseitemiterator", "odict_iterator", "itertools.zip_longest", "itertools.pairwise"].contains n=false) (hQ:Q () s):wpAny M A (letOwnedTupleGo tg (.ref it) u) Q E s:=by
  unfold letOwnedTupleGo
  cases tg <;> first
    | exact wpAny_pure hQ
    | (cases u <;> first
        | exact wpAny_pure hQ
        | (refine wpAny_bind (wpAny_load ho ?_)
           rw [hc,hd]
           show wpAny M A (if (["enumerate", "zip", "dict_itemiterator", "dict_reverseitemiterator", "odict_iterator", "itertools.zip_longest", "itertools.pairwise"].contains n && vs[0]? == some (rawInt _))=true then _ else _) Q E s
           rw [if_neg (by intro h; rw [hn,Bool.false_and] at h; cases h)]
           exact wpAny_pure hQ))
def Itl (K:PySem.W.Frag) (a:Addr):It :=
  ⟨fun i H=>∃ xs x,SqL K H a xs∧xs[i]?=some x,fun i H x H'=>H'=H∧∀ xs,SqL K H a xs→xs[i]?=some x,fun i H=>∃ xs,SqL K H a xs∧xs.length≤i⟩
def Itt (K:PySem.W.Frag) (a:Addr):It :=
  ⟨fun i H=>∃ xs x,SqT K H a xs∧xs[i]?=some x,fun i H x H'=>H'=H∧∀ xs,SqT K H a xs→xs[i]?=some x,fun i H=>∃ xs,SqT K H a xs∧xs.length≤i⟩
def Itr (lo:Int) (n:Nat):It:=⟨fun i _=>i < n,fun i H x H'=>H'=H∧x=.int (lo+i),fun i _=>n≤i⟩
theorem Aqy {P:Program} {w:World} {K:PySem.W.Frag} {tg:Expr} (a it:Addr):Turn P w K tg (Itl K a) [it] it (fun i h=>h.IsListIter it a i) where
  mem:=by simp
  obj:=fun i h st b hb=>by
    have e:b=it:=by simpa using hb
    subst e
    obtain ⟨o,e,c,d⟩:=st
    exact ⟨o,e,fun v z=>by rw [d] at z; cases z⟩
  keep:=fun i h h' st k=>st.at fun o e=>k it (by simp) o e
  item:=by
    intro X hP hw hK hc i pins s σ H E I hf st hg
    subst hP hw hK
    obtain ⟨xs,x,hq,hx⟩:=hg
    obtain ⟨its,rv,p,hz⟩:=I.list hq
    obtain ⟨u,hu,ru⟩:=rv.get hx
    obtain ⟨f0,f1,f2,f3,f4,f5⟩:=hf it (by simp)
    refine wpAny_pyNext_list_item st p.isList (x:=u) (by simpa using hu) fun h' st' sb=>?_
    have I1:Inv X pins σ H { s with heap:=h' }:=I.turned (t':=s.toks) (fun b o hb e=>(sb.2 b hb).trans e) f0 f1 f3 f4 f5
    obtain ⟨o,e,c,d⟩:=id st'
    exact ⟨u,rfl,Ap9 (s:={ s with heap:=h' }) e c d (by decide) ⟨x,H,I1,ru,⟨rfl,fun ys hy=>by rw [I.RP hy hq]; exact hx⟩,st',fun b hb=>(hf b hb).1⟩⟩
  done:=by
    intro X hP hw hK hc i pins s σ H E I hf st hg
    subst hP hw hK
    obtain ⟨xs,hq,hx⟩:=hg
    obtain ⟨its,rv,p,hz⟩:=I.list hq
    obtain ⟨f0,f1,f2,f3,f4,f5⟩:=hf it (by simp)
    have hl:=rv.length
    exact wpAny_pyNext_list_end (I.ok.hd hc) st p.isList (by simp; omega) fun h' eb=>⟨rfl,I.turned (t':=s.toks) (fun b o hb e=>eb b o hb e) f0 f1 f3 f4 f5⟩
  self:=fun _ _ _ _ _ st h=>wpAny_pyIter_listiter st h
theorem AoD {P:Program} {w:World} {K:PySem.W.Frag} {tg:Expr} (it:Addr) (lo:Int) (n:Nat):Turn P w K tg (Itr lo n) [it] it (fun i h=>IsRangeIter h it (lo+(i:Nat) * 1) ((n:Int) - (i:Nat)) 1) where
  mem:=by simp
  obj:=fun i h st b hb=>by
    have e:b=it:=by simpa using hb
    subst e
    exact ⟨_,st,fun v z=>by
      have z':Data.fields _=Data.cell v:=z
      cases z'⟩
  keep:=fun i h h' st k=>k it (by simp) _ st
  item:=by
    intro X hP hw hK hc i pins s σ H E I hf st hg
    subst hP hw hK
    obtain ⟨f0,f1,f2,f3,f4,f5⟩:=hf it (by simp)
    have W:=Walks.range (prog:=X.prog) (w:=X.w) (I.ok.hd hc) it lo 1 n
    refine W.item i s _ _ hg st fun v h' tk hv st' kk=>?_
    obtain ⟨t,rfl⟩:=hv
    have I1:Inv X pins σ H { s with heap:=h',toks:=tk }:=I.turned (fun b o hb e=>kk b o (by simpa using hb) e) f0 f1 f3 f4 f5
    refine ⟨_,rfl,Ap9 (s:={ s with heap:=h',toks:=tk }) (n := "range_iterator") st' rfl rfl (by decide) ⟨.int (lo+i),H,I1,⟨t,?_⟩,⟨rfl,rfl⟩,st',fun b hb=>(hf b hb).1⟩⟩
    rw [Int.mul_one]
  done:=by
    intro X hP hw hK hc i pins s σ H E I hf st hg
    subst hP hw hK
    obtain ⟨f0,f1,f2,f3,f4,f5⟩:=hf it (by simp)
    exact wpAny_pyNext_range_end (I.ok.hd hc) st (by have:n≤i:=hg; omega) fun h' eb=>⟨rfl,I.turned (t':=s.toks) (fun b o hb e=>eb b o hb e) f0 f1 f3 f4 f5⟩
  self:=fun _ _ _ _ _ st h=>wpAny_pyIter_rangeiter st h
open PySem PySem.Spec PyProof.Rows
section
variable {X:Cx} {tg:Expr}
def AuB (K:PySem.W.Frag) (tl:TE):TI:=fun σ H R=>tl σ H fun x H1=>∃ a,x=.ref a∧(∃ xs,SqL K H1 a xs)∧R (Itl K a) H1
def AyN (K:PySem.W.Frag) (tl:TE):TI:=fun σ H R=>tl σ H fun x H1=>∃ a,x=.ref a∧(∃ xs,SqT K H1 a xs)∧R (Itt K a) H1
theorem At5 {l:Expr} {tl:TE} (hl:PE X l tl):PI X tg l (AuB X.K tl):=by
  intro pins s σ H R I h
  refine thn (hl pins s σ H _ I h) fun v s1 ⟨x,H1,I1,r1,q1⟩=>?_
  obtain ⟨a,e,⟨xs,hq⟩,q⟩:=q1
  subst e
  cases r1
  obtain ⟨its,rv,p,hz⟩:=I1.list hq
  refine wpAny_pyIter_list p.isList ?_
  refine ⟨s1.heap.objs.size,[s1.heap.objs.size],_,_,H1,rfl,I1.kept (t':=s1.toks) fun b o e=>Heap.get?_push_of_some _ e,Aqy a _,⟨_,Heap.get?_push_size _ rfl,rfl,rfl⟩,fun b hb=>?_,q⟩
  have e:b=s1.heap.objs.size:=by simpa using hb
  subst e
  exact I1.At4 (Nat.le_refl _) (I1.hok.fresh (Nat.le_refl _))
theorem Anj {pins:List (Addr × Obj)} {σ:St} {H:Hp} {s:Shared} {R:It→Hp→Prop} {E:Value→Shared→Prop} {lo hi:Int} {t u v:Tok} {tk:Nat} (I:Inv X pins σ H s) (h1:-(2 ^ 62)≤lo) (h2:lo < 2 ^ 62) (h3:-(2 ^ 62)≤hi) (h4:hi < 2 ^ 62)
    (q:R (Itr lo (hi - lo).toNat) H):wpAny (model X.prog X.w) X.A (pyIter (.ref s.heap.objs.size)) (PIE X pins σ tg R) E { s with heap:=s.heap.push { cls:=.type "range", data:=.fields #[.int lo t,.int hi u,.int 1 v] },toks:=tk }:=by
  refine wpAny_pyIter_range (IsRange.new ..) (small_one h1 h2 h3 h4) ?_
  have I1:Inv X pins σ H { s with heap:=s.heap.push { cls:=.type "range", data:=.fields #[.int lo t,.int hi u,.int 1 v] },toks:=tk }:=I.kept fun b o e=>Heap.get?_push_of_some _ e
  refine ⟨(s.heap.push { cls:=.type "range", data:=.fields #[.int lo t,.int hi u,.int 1 v] }).objs.size,[(s.heap.push { cls:=.type "range", data:=.fields #[.int lo t,.int hi u,.int 1 v] }).objs.size],_,_,H,rfl,
    I1.kept (t':=tk) fun b o e=>Heap.get?_push_of_some _ e,AoD _ lo (hi - lo).toNat,?_,fun b hb=>?_,q⟩
  · have e1:lo+((0:Nat):Int) * 1=lo:=by simp
    have e2:(((hi - lo).toNat:Nat):Int) - ((0:Nat):Int)=Builtin.Range.rangeSize lo hi 1:=by rw [rangeSize_one]; split <;> omega
    show IsRangeIter _ _ (lo+((0:Nat):Int) * 1) ((((hi - lo).toNat:Nat):Int) - ((0:Nat):Int)) 1
    rw [e1,e2]
    exact Heap.get?_push_size _ rfl
  · have e:b=(s.heap.push { cls:=.type "range", data:=.fields #[.int lo t,.int hi u,.int 1 v] }).objs.size:=by simpa using hb
    subst e
    exact I1.At4 (Nat.le_refl _) (I1.hok.fresh (Nat.le_refl _))
def Aw2 (ta:TA):TI:=fun σ H R=>ta σ H fun vs H1=>∃ j:Int,vs=[.int j]∧-(2 ^ 62)≤j∧j < 2 ^ 62∧R (Itr 0 j.toNat) H1
def Aw3 (ta:TA):TI:=fun σ H R=>ta σ H fun vs H1=>∃ i j:Int,vs=[.int i,.int j]∧(-(2 ^ 62)≤i∧i < 2 ^ 62∧-(2 ^ 62)≤j∧j < 2 ^ 62)∧R (Itr i (j - i).toNat) H1
theorem FQ {a:Expr} {ta:TA} {p pos:Pos} (hg:Gl X "range") (hm:X.mg "range" = none) (ha:PA X [a] ta) (hs:starEach [a] X.env=[(false,eval a X.env)]:=by rfl):PI X tg (.Call (.Name "range" p) [a] [] pos) (Aw2 ta):=by
  intro pins s σ H R I h
  refine Call_ (Aaf I hg hm boot_range (PyProof.Rows.callWith_type1 (thn (ha pos pins s σ H _ I h) fun us s1 ⟨vs,H1,I1,r1,q1⟩=>?_) hs rfl))
  obtain ⟨j,e,q1,q2,q⟩:=q1
  subst e
  cases r1 with
  | cons r rr =>
    cases rr
    obtain ⟨t,rfl⟩:=r
    exact call_range_1 (Anj I1 (by omega) (by omega) q1 q2 (by simpa using q))
theorem Alc {a b:Expr} {ta:TA} {p pos:Pos} (hg:Gl X "range") (hm:X.mg "range" = none) (ha:PA X [a,b] ta) (hs:starEach [a,b] X.env=[(false,eval a X.env),(false,eval b X.env)]:=by rfl) (hs2:starEach [b] X.env=[(false,eval b X.env)]:=by rfl) :
    PI X tg (.Call (.Name "range" p) [a,b] [] pos) (Aw3 ta):=by
  intro pins s σ H R I h
  refine Call_ (Aaf I hg hm boot_range (PyProof.Rows.callWith_type1 (thn (ha pos pins s σ H _ I h) fun us s1 ⟨vs,H1,I1,r1,q1⟩=>?_) (by rw [hs,hs2]) (by rw [hs2]; rfl)))
  obtain ⟨i,j,e,⟨q1,q2,q3,q4⟩,q⟩:=q1
  subst e
  cases r1 with
  | cons r rr =>
    cases rr with
    | cons r' rr =>
      cases rr
      obtain ⟨t,rfl⟩:=r
      obtain ⟨t',rfl⟩:=r'
      exact call_range_2 (Anj I1 q1 q2 q3 q4 q)
def AxF (wi:TI) (g:TG) (tb:TS):TS:=fun D σ H=>wi σ H fun J H1=>∃ W:Nat→Nat→St→Hp→Prop,(∃ m,W 0 m σ H1)∧∀ i m σ H,W i m σ H →
  (J.stop i H∧D.nx σ H)∨(J.go i H∧∃ N:St→Hp→Prop,(∀ σ' H',N σ' H'→∃ m',m' < m∧W (i+1) m' σ' H')∧∀ x H',J.yld i H x H'→g x σ H' fun σ2 H2=>tb { D with nx:=N,ct:=N,bk:=D.nx } σ2 H2)
def Adi (fp:List Addr) (h:Heap):List (Addr × Obj):=fp.filterMap fun b=>(h.get? b).map fun o=>(b,o)
theorem J1 {fp:List Addr} {h:Heap} {b:Addr} {o:Obj} (hb:b∈fp) (e:h.get? b=some o):(b,o)∈Adi fp h:=List.mem_filterMap.mpr ⟨b,hb,by rw [e]; rfl⟩
theorem Aqz {fp:List Addr} {h:Heap} {p:Addr × Obj} (hp:p∈Adi fp h):p.1∈fp∧h.get? p.1=some p.2:=by
  obtain ⟨b,hb,e⟩:=List.mem_filterMap.mp hp
  cases q:h.get? b with
  | none=>rw [q] at e; cases e
  | some o =>
    rw [q] at e
    have e':(b,o)=p:=Option.some.inj e
    subst e'
    exact ⟨hb,q⟩
theorem Inv.pinned {pins:List (Addr × Obj)} {σ:St} {H:Hp} {s:Shared} {fp:List Addr} (I:Inv X pins σ H s) (hf:∀ b∈fp,Rj X pins H b) (ho:∀ b∈fp,∃ o,s.heap.get? b=some o∧∀ v,o.data≠.cell v):Inv X (pins++Adi fp s.heap) σ H s :=
  I.Ma fun p hp=>(List.mem_append.mp hp).elim (fun z=>I.pin p (List.mem_append_right _ z)) fun z=>by
    obtain ⟨hb,e⟩:=Aqz z
    obtain ⟨f0,f1,f2,_⟩:=hf p.1 hb
    obtain ⟨o,e',d⟩:=ho p.1 hb
    rw [e] at e'; cases e'
    exact ⟨e,f0,f1,f2,d⟩
theorem Inv.Air {pins pl:List (Addr × Obj)} {σ:St} {H:Hp} {s:Shared} (I:Inv X (pins++pl) σ H s):Inv X pins σ H s:=I.Ma fun p hp=>I.pin p (List.mem_append_right _ (List.mem_append_left _ hp))
theorem Et {iter:Expr} {body:List Stmt} {wi:TI} {g:TG} {tb:TS} {pos:Pos} (hp:PassesOwn (model X.prog X.w) X.A X.env X.xe) (hc:X.calm=true) (hi:PI X tg iter wi) (hg:PG X tg g) (hb:PSs X body tb)
    (hs:∀ x,foldedSetIterable iter X.env x=pure x:=by intro _; rfl):PS X (.For tg iter body [] pos) (AxF wi g tb):=by
  intro pins s σ H D I h
  refine wpAny_For (thn (hi pins s σ H _ I h) fun v s1 h1=>thn h1 fun itv s2 h2=>?_) hs
  obtain ⟨it,fp,tn,J,H2,e,I2,T,st2,f2,W,⟨m0,w0⟩,turn⟩:=h2
  subst e
  have stat:∀ {H':Hp},(∀ b∈fp,H' b=none)→∀ b∈fp,Rj X pins H' b:=fun hn b hb=>⟨hn b hb,(f2 b hb).2⟩
  refine codeAny_forLoop_any (fun n s'=>∃ i σ' H',Inv X pins σ' H' s'∧tn i s'.heap∧(∀ b∈fp,H' b=none)∧W i n σ' H') ?_ m0 ⟨0,σ,H2,I2,st2,fun b hb=>(f2 b hb).1,w0⟩
  rintro n s3 ⟨i,σ3,H3,I3,st3,fr3,w3⟩
  rcases turn i n σ3 H3 w3 with ⟨stop,qn⟩ | ⟨go,N,hN,step⟩
  · refine wpAny_passesOwn hp (thn (T.done X rfl rfl rfl hc i pins s3 σ3 H3 X.xe I3 (stat fr3) st3 stop) fun r s4 ⟨hr,I4⟩=>?_)
    subst hr
    exact wpAny_execs_nil ⟨σ3,H3,I4,qn⟩
  · refine wpAny_passesOwn hp (thn (T.item X rfl rfl rfl hc i pins s3 σ3 H3 X.xe I3 (stat fr3) st3 go) fun r s4 ⟨u,hr,h4⟩=>?_)
    subst hr
    refine wpAny_passesOwn hp (thn h4 fun _ s5 ⟨x,H5,I5,r5,y5,st5,fr5⟩=>?_)
    have I5':=I5.pinned (stat fr5) (T.obj _ _ st5)
    refine wpAny_passesOwn hp (thn (hg _ s5 σ3 H5 x u _ I5' r5 (step x H5 y5)) fun _ s6 ⟨σ6,H6,I6,q6⟩=>?_)
    refine wpAny_passesOwn hp (thn (hb _ s6 σ6 H6 _ I6 q6) fun f s7 q7=>?_)
    have again:∀ {σ7:St} {H7:Hp},Inv X (pins++Adi fp s5.heap) σ7 H7 s7→N σ7 H7→∃ m,m < n∧∃ i σ' H',Inv X pins σ' H' s7∧tn i s7.heap∧(∀ b∈fp,H' b=none)∧W i m σ' H':=fun {σ7 H7} I7 n7=>by
      obtain ⟨m',hm,w7⟩:=hN σ7 H7 n7
      refine ⟨m',hm,i+1,σ7,H7,I7.Air,T.keep _ _ _ st5 fun b hb o e=>(I7.pin (b,o) (List.mem_append_right _ (List.mem_append_right _ (J1 hb e)))).1,fun b hb=>?_,w7⟩
      obtain ⟨o,e,d⟩:=T.obj _ _ st5 b hb
      exact (I7.pin (b,o) (List.mem_append_right _ (List.mem_append_right _ (J1 hb e)))).2.1
    cases f with
    | next=>obtain ⟨σ7,H7,I7,n7⟩:=q7; exact again I7 n7
    | cont=>obtain ⟨σ7,H7,I7,n7⟩:=q7; exact again I7 n7
    | brk=>obtain ⟨σ7,H7,I7,q7⟩:=q7; exact ⟨σ7,H7,I7.Air,q7⟩
    | ret v=>obtain ⟨x7,σ7,H7,I7,r7,q7⟩:=q7; exact ⟨x7,σ7,H7,I7.Air,r7,q7⟩
end
theorem Ha {K:PySem.W.Frag} {a:Addr} {xs:List V} {g:TG} {tb:TS} {D:Ends} {σ:St} {H:Hp} (Pv:Nat→St→Hp→Prop) (h0:Pv 0 σ H) (hl:∀ i σ H,i≤xs.length→Pv i σ H→SqL K H a xs)
    (hs:∀ i x σ H,xs[i]?=some x→Pv i σ H→g x σ H fun σ2 H2=>tb { D with nx:=Pv (i+1),ct:=Pv (i+1),bk:=D.nx } σ2 H2) (hd:∀ σ H,Pv xs.length σ H→D.nx σ H) :
    ∃ W:Nat→Nat→St→Hp→Prop,(∃ m,W 0 m σ H)∧∀ i m σ H,W i m σ H →
      ((Itl K a).stop i H∧D.nx σ H)∨((Itl K a).go i H∧∃ N:St→Hp→Prop,(∀ σ' H',N σ' H'→∃ m',m' < m∧W (i+1) m' σ' H')∧∀ x H',(Itl K a).yld i H x H'→g x σ H' fun σ2 H2=>tb { D with nx:=N,ct:=N,bk:=D.nx } σ2 H2):=by
  refine ⟨fun i m σ H=>m=xs.length - i∧i≤xs.length∧Pv i σ H,⟨xs.length,by simp,Nat.zero_le _,h0⟩,?_⟩
  rintro i m σ H ⟨rfl,hi,p⟩
  have q:=hl i σ H hi p
  by_cases hlt:i < xs.length
  · refine .inr ⟨⟨xs,xs[i],q,by simp [hlt]⟩,Pv (i+1),fun σ' H' p'=>⟨xs.length - (i+1),by omega,rfl,hlt,p'⟩,fun x H' y=>?_⟩
    obtain ⟨e,y⟩:=y
    subst e
    exact hs i x σ _ (y xs q) p
  · have e:i=xs.length:=by omega
    subst e
    exact .inl ⟨⟨xs,q,Nat.le_refl _⟩,hd σ H p⟩
theorem Gz {lo:Int} {n:Nat} {g:TG} {tb:TS} {D:Ends} {σ:St} {H:Hp} (Pv:Nat→St→Hp→Prop) (h0:Pv 0 σ H)
    (hs:∀ i σ H,i < n→Pv i σ H→g (.int (lo+i)) σ H fun σ2 H2=>tb { D with nx:=Pv (i+1),ct:=Pv (i+1),bk:=D.nx } σ2 H2) (hd:∀ σ H,Pv n σ H→D.nx σ H) :
    ∃ W:Nat→Nat→St→Hp→Prop,(∃ m,W 0 m σ H)∧∀ i m σ H,W i m σ H →
      ((Itr lo n).stop i H∧D.nx σ H)∨((Itr lo n).go i H∧∃ N:St→Hp→Prop,(∀ σ' H',N σ' H'→∃ m',m' < m∧W (i+1) m' σ' H')∧∀ x H',(Itr lo n).yld i H x H'→g x σ H' fun σ2 H2=>tb { D with nx:=N,ct:=N,bk:=D.nx } σ2 H2):=by
  refine ⟨fun i m σ H=>m=n - i∧i≤n∧Pv i σ H,⟨n,by simp,Nat.zero_le _,h0⟩,?_⟩
  rintro i m σ H ⟨rfl,hi,p⟩
  by_cases hlt:i < n
  · refine .inr ⟨hlt,Pv (i+1),fun σ' H' p'=>⟨n - (i+1),by omega,rfl,hlt,p'⟩,fun x H' y=>?_⟩
    obtain ⟨e,y⟩:=y
    subst e y
    exact hs i σ _ hlt p
  · have e:i=n:=by omega
    subst e
    exact .inl ⟨Nat.le_refl _,hd σ H p⟩
open PySem PySem.Spec PyProof.Rows
abbrev R2:=V→V→Hp→VK→Prop
def OpR (X:Cx) (f:Value→Value→Sem Value) (r:R2):Prop :=
  ∀ (pins:List (Addr × Obj)) (s:Shared) (σ:St) (H:Hp) (x y:V) (v u:Value) (Q:VK),Inv X pins σ H s→RelV x v→RelV y u→r x y H Q →
    wpAny (model X.prog X.w) X.A (f v u) (EP X pins σ Q) X.xe s
def UnR (X:Cx) (f:Value→Sem Value) (r:V→Hp→VK→Prop):Prop :=
  ∀ (pins:List (Addr × Obj)) (s:Shared) (σ:St) (H:Hp) (x:V) (v:Value) (Q:VK),Inv X pins σ H s→RelV x v→r x H Q →
    wpAny (model X.prog X.w) X.A (f v) (EP X pins σ Q) X.xe s
def Nz (X:Cx) (f:Value) (r:List V→Hp→VK→Prop):Prop :=
  ∀ (pins:List (Addr × Obj)) (s:Shared) (σ:St) (H:Hp) (xs:List V) (us:List Value) (Q:VK),Inv X pins σ H s→Vals xs us→r xs H Q →
    wpAny (model X.prog X.w) X.A (call f us) (EP X pins σ Q) X.xe s
def AxG (X:Cx) (r:V→Hp→(Bool→Hp→Prop)→Prop):Prop :=
  ∀ (pins:List (Addr × Obj)) (s:Shared) (σ:St) (H:Hp) (x:V) (v:Value) (Q:Bool→Hp→Prop),Inv X pins σ H s→RelV x v→r x H Q →
    wpAny (model X.prog X.w) X.A (truthy v) (TP X pins σ Q) X.xe s
def tOp (r:R2) (ta tb:TE):TE:=fun σ H Q=>ta σ H fun x H1=>tb σ H1 fun y H2=>r x y H2 Q
def tUn (r:V→Hp→VK→Prop) (ta:TE):TE:=fun σ H Q=>ta σ H fun x H1=>r x H1 Q
def rI (C:Int→Int→Prop) (g:Int→Int→V):R2:=fun x y H Q=>∃ i j,x=.int i∧y=.int j∧C i j∧Q (g i j) H
def rI0 (g:Int→Int→V):R2:=fun x y H Q=>∃ i j,x=.int i∧y=.int j∧Q (g i j) H
def rU (g:Int→V):V→Hp→VK→Prop:=fun x H Q=>∃ i,x=.int i∧Q (g i) H
section
variable {X:Cx} {a b c:Expr} {ta tb tc:TE} {pos:Pos}
theorem Avc (ha:PE X a ta) (hb:PE X b tb) {pins:List (Addr × Obj)} {s:Shared} {σ:St} {H:Hp} {R:V→V→Hp→Prop} (I:Inv X pins σ H s)
    (h:ta σ H fun x H1=>tb σ H1 fun y H2=>R x y H2) {Q:Value→Shared→Prop} {f:Value→Value→Sem Value}
    (hf:∀ v u s2 x y H2,Inv X pins σ H2 s2→RelV x v→RelV y u→R x y H2→wpAny (model X.prog X.w) X.A (f v u) Q X.xe s2) :
    wpAny (model X.prog X.w) X.A (eval a X.env) (fun v s₁=>wpAny (model X.prog X.w) X.A (eval b X.env) (fun u s₂=>wpAny (model X.prog X.w) X.A (f v u) Q X.xe s₂) X.xe s₁) X.xe s:=by
  refine thn (ha pins s σ H _ I h) fun v s1 ⟨x,H1,I1,r1,q1⟩=>?_
  refine thn (hb pins s1 σ H1 _ I1 q1) fun u s2 ⟨y,H2,I2,r2,q2⟩=>?_
  exact hf v u s2 x y H2 I2 r1 r2 q2
theorem Bp {op:Operator} {r:R2} (ho:OpR X (binaryOp op) r) (ha:PE X a ta) (hb:PE X b tb):PE X (.BinOp a op b pos) (tOp r ta tb):=by
  intro pins s σ H Q I h
  exact wpAny_BinOp (Avc ha hb I h fun v u s2 x y H2 I2 rx ry q=>ho pins s2 σ H2 x y v u Q I2 rx ry q)
theorem Ais {op:UnaryOp} {r:V→Hp→VK→Prop} (ho:UnR X (unaryOp op) r) (ha:PE X a ta):PE X (.UnaryOp op a pos) (tUn r ta):=by
  intro pins s σ H Q I h
  exact UnaryOp_ (thn (ha pins s σ H _ I h) fun v s1 ⟨x,H1,I1,r1,q1⟩=>ho pins s1 σ H1 x v Q I1 r1 q1)
theorem opI {f:Value→Value→Sem Value} {C:Int→Int→Prop} {g:Int→Int→Int}
    (rule:∀ (i j:Int) (t u:Tok) (s:Shared) (Q:Value→Shared→Prop) (E:Value→Shared→Prop),C i j→Q (.int (g i j) s.toks) { s with toks:=s.toks+1 }→wpAny (model X.prog X.w) X.A (f (.int i t) (.int j u)) Q E s) :
    OpR X f (rI C fun i j=>.int (g i j)):=by
  intro pins s σ H x y v u Q I rx ry h
  obtain ⟨i,j,rfl,rfl,hc,q⟩:=h
  obtain ⟨t,rfl⟩:=rx
  obtain ⟨t',rfl⟩:=ry
  exact rule i j t t' s _ _ hc ⟨.int (g i j),H,I.tok _,⟨_,rfl⟩,q⟩
theorem Aw4 {f:Value→Value→Sem Value} {g:Int→Int→Int}
    (rule:∀ (i j:Int) (t u:Tok) (s:Shared) (Q:Value→Shared→Prop) (E:Value→Shared→Prop),Q (.int (g i j) s.toks) { s with toks:=s.toks+1 }→wpAny (model X.prog X.w) X.A (f (.int i t) (.int j u)) Q E s) :
    OpR X f (rI0 fun i j=>.int (g i j)):=by
  intro pins s σ H x y v u Q I rx ry h
  obtain ⟨i,j,rfl,rfl,q⟩:=h
  obtain ⟨t,rfl⟩:=rx
  obtain ⟨t',rfl⟩:=ry
  exact rule i j t t' s _ _ ⟨.int (g i j),H,I.tok _,⟨_,rfl⟩,q⟩
theorem At6 {f:Value→Value→Sem Value} {g:Int→Int→Bool}
    (rule:∀ (i j:Int) (t u:Tok) (s:Shared) (Q:Value→Shared→Prop) (E:Value→Shared→Prop),Q (.bool (g i j)) s→wpAny (model X.prog X.w) X.A (f (.int i t) (.int j u)) Q E s) :
    OpR X f (rI0 fun i j=>.bl (g i j)):=by
  intro pins s σ H x y v u Q I rx ry h
  obtain ⟨i,j,rfl,rfl,q⟩:=h
  obtain ⟨t,rfl⟩:=rx
  obtain ⟨t',rfl⟩:=ry
  exact rule i j t t' s _ _ ⟨.bl (g i j),H,I,rfl,q⟩
def AxH (i j:Int):Prop:=0 < j∧j < 1073741824
def Ay3 (i j:Int):Prop:=j≠0∧j.natAbs < 1073741824
def AxI (i j:Int):Prop:=0≤j∧j≤1000000∧i.natAbs < 2 ^ 64
def Avd (i j:Int):Prop:=(-(2 ^ 64) < i∧i < 2 ^ 64)∨(-(2 ^ 64) < j∧j < 2 ^ 64)
theorem Avd.ok {i j:Int} (h:Avd i j):IntMulOk i j:=by
  rcases h with ⟨h1,h2⟩ | ⟨h1,h2⟩
  · exact .of_left (intBits_le_64 h1 h2)
  · exact .of_right (intBits_le_64 h1 h2)
theorem GX:OpR X (binaryOp .Add) (rI0 fun i j=>.int (i+j)):=Aw4 fun _ _ _ _ _ _ _ q=>add_int q
theorem Ym:OpR X (binaryOp .Sub) (rI0 fun i j=>.int (i - j)):=Aw4 fun _ _ _ _ _ _ _ q=>sub_int q
theorem Agb:OpR X (binaryOp .Mult) (rI Avd fun i j=>.int (i * j)):=opI fun _ _ _ _ _ _ _ hc q=>mul_int q hc.ok
theorem Aib:OpR X (binaryOp .FloorDiv) (rI AxH fun i j=>.int (i / j)):=opI fun i j _ _ _ _ _ hc q=>by
  have h1:(0:Int) < j:=hc.1
  have h2:j < 1073741824:=hc.2
  exact floordiv_int (by omega) (by rw [Int.fdiv_eq_ediv_of_nonneg i (by omega)]; exact q) (.inl (PyProof.noPylong_small (by omega)))
theorem Mg:OpR X (binaryOp .Mod) (rI (fun _ j=>0 < j) fun i j=>.int (i % j)):=opI fun i j _ _ _ _ _ hc q=>by
  have h1:(0:Int) < j:=hc
  exact mod_int' (by omega) (by rw [Int.fmod_eq_emod_of_nonneg i (by omega)]; exact q)
theorem AoE:OpR X (binaryOp .Pow) (rI AxI fun i j=>.int (i ^ j.toNat)):=opI fun _ _ _ _ _ _ _ hc q=>pow_int_small hc.1 hc.2.1 hc.2.2 q
theorem unI {f:Value→Sem Value} {g:Int→Int}
    (rule:∀ (i:Int) (t:Tok) (s:Shared) (Q:Value→Shared→Prop) (E:Value→Shared→Prop),Q (.int (g i) s.toks) { s with toks:=s.toks+1 }→wpAny (model X.prog X.w) X.A (f (.int i t)) Q E s) :
    UnR X f (rU fun i=>.int (g i)):=by
  intro pins s σ H x v Q I rx h
  obtain ⟨i,rfl,q⟩:=h
  obtain ⟨t,rfl⟩:=rx
  exact rule i t s _ _ ⟨.int (g i),H,I.tok _,⟨_,rfl⟩,q⟩
theorem Adj:UnR X (unaryOp .USub) (rU fun i=>.int (-i)):=unI fun _ _ _ _ _ q=>neg_int q
end
def Aw5:V→V→Bool
  | .non,.non=>true | .non,.int _=>true | .int _,.non=>true | .non,.bl _=>true | .bl _,.non=>true | .non,.str _=>true | .str _,.non=>true
  | .int _,.int _=>true | .bl _,.bl _=>true | .str _,.str _=>true | .byt _,.byt _=>true
  | .int _,.str _=>true | .str _,.int _=>true | .bl _,.str _=>true | .str _,.bl _=>true
  | _,_=>false
def rEq:R2:=fun x y H Q=>Aw5 x y=true∧Q (.bl (decide (x=y))) H
def rNe:R2:=fun x y H Q=>Aw5 x y=true∧Q (.bl (!decide (x=y))) H
theorem ApA {i j:Int}:decide (V.int i=V.int j)=(i == j):=by
  rw [Bool.eq_iff_iff]
  simp
theorem Ar0 {i j:Bool}:decide (V.bl i=V.bl j)=(i == j):=by
  rw [Bool.eq_iff_iff]
  simp
theorem ApB {i j:Str}:decide (V.str i=V.str j)=(i == j):=by
  rw [Bool.eq_iff_iff]
  simp
theorem ApC {i j:Array UInt8}:decide (V.byt i=V.byt j)=(i.toList == j.toList):=by
  rw [Bool.eq_iff_iff]
  cases i
  cases j
  simp
section
variable {X:Cx} {a b c:Expr} {ta tb tc:TE} {pos:Pos}
theorem Di {pins:List (Addr × Obj)} {σ:St} {H:Hp} {s:Shared} {Q:VK} {k k':Bool} (I:Inv X pins σ H s) (q:Q (.bl k) H) (e:k=k'):EP X pins σ Q (.bool k') s:=by
  subst e
  exact ⟨.bl k,H,I,rfl,q⟩
theorem T9:OpR X (compareOp .Eq) rEq:=by
  intro pins s σ H x y v u Q I rx ry h
  obtain ⟨hs,q⟩:=h
  cases x with
  | non =>
    cases rx
    cases y with
    | non=>cases ry; exact PySem.EqNone.eq_none_none (Di I q (by simp))
    | bl j=>cases ry; exact PySem.EqNone.eq_none_bool (Di I q (by simp))
    | int j=>obtain ⟨t',rfl⟩:=ry; exact PySem.EqNone.eq_none_int (Di I q (by simp))
    | str j=>obtain ⟨t',rfl⟩:=ry; exact PySem.EqNone.eq_none_str (Di I q (by simp))
    | _=>exact absurd (show false=true from hs) Bool.false_ne_true
  | bl i =>
    cases rx
    cases y with
    | non=>cases ry; exact PySem.EqNone.eq_bool_none (Di I q (by simp))
    | bl j=>cases ry; exact eq_bool (Di I q Ar0)
    | str j=>obtain ⟨t',rfl⟩:=ry; exact PySem.EqMixed.eq_bool_str (Di I q (by simp))
    | _=>exact absurd (show false=true from hs) Bool.false_ne_true
  | int i =>
    obtain ⟨t,rfl⟩:=rx
    cases y with
    | non=>cases ry; exact PySem.EqNone.eq_int_none (Di I q (by simp))
    | int j=>obtain ⟨t',rfl⟩:=ry; exact eq_int (Di I q ApA)
    | str j=>obtain ⟨t',rfl⟩:=ry; exact PySem.EqMixed.eq_int_str (Di I q (by simp))
    | _=>exact absurd (show false=true from hs) Bool.false_ne_true
  | str i =>
    obtain ⟨t,rfl⟩:=rx
    cases y with
    | non=>cases ry; exact PySem.EqNone.eq_str_none (Di I q (by simp))
    | bl j=>cases ry; exact PySem.EqMixed.eq_str_bool (Di I q (by simp))
    | int j=>obtain ⟨t',rfl⟩:=ry; exact PySem.EqMixed.eq_str_int (Di I q (by simp))
    | str j=>obtain ⟨t',rfl⟩:=ry; exact eq_str (Di I q ApB)
    | _=>exact absurd (show false=true from hs) Bool.false_ne_true
  | byt i =>
    obtain ⟨t,rfl⟩:=rx
    cases y with
    | byt j=>obtain ⟨t',rfl⟩:=ry; exact PySem.W.eq_bytes (Di I q ApC)
    | _=>exact absurd (show false=true from hs) Bool.false_ne_true
  | _=>cases y <;> exact absurd (show false=true from hs) Bool.false_ne_true
theorem Zw:OpR X (compareOp .NotEq) rNe:=by
  intro pins s σ H x y v u Q I rx ry h
  obtain ⟨hs,q⟩:=h
  cases x with
  | non =>
    cases rx
    cases y with
    | non=>cases ry; exact PySem.EqNone.ne_none_none (Di I q (by simp))
    | bl j=>cases ry; exact PySem.EqNone.ne_none_bool (Di I q (by simp))
    | int j=>obtain ⟨t',rfl⟩:=ry; exact PySem.EqNone.ne_none_int (Di I q (by simp))
    | str j=>obtain ⟨t',rfl⟩:=ry; exact PySem.EqNone.ne_none_str (Di I q (by simp))
    | _=>exact absurd (show false=true from hs) Bool.false_ne_true
  | bl i =>
    cases rx
    cases y with
    | non=>cases ry; exact PySem.EqNone.ne_bool_none (Di I q (by simp))
    | bl j=>cases ry; exact ne_bool (Di I q (congrArg not Ar0))
    | str j=>obtain ⟨t',rfl⟩:=ry; exact PySem.EqMixed.ne_bool_str (Di I q (by simp))
    | _=>exact absurd (show false=true from hs) Bool.false_ne_true
  | int i =>
    obtain ⟨t,rfl⟩:=rx
    cases y with
    | non=>cases ry; exact PySem.EqNone.ne_int_none (Di I q (by simp))
    | int j=>obtain ⟨t',rfl⟩:=ry; exact ne_int (Di I q (congrArg not ApA))
    | str j=>obtain ⟨t',rfl⟩:=ry; exact PySem.EqMixed.ne_int_str (Di I q (by simp))
    | _=>exact absurd (show false=true from hs) Bool.false_ne_true
  | str i =>
    obtain ⟨t,rfl⟩:=rx
    cases y with
    | non=>cases ry; exact PySem.EqNone.ne_str_none (Di I q (by simp))
    | bl j=>cases ry; exact PySem.EqMixed.ne_str_bool (Di I q (by simp))
    | int j=>obtain ⟨t',rfl⟩:=ry; exact PySem.EqMixed.ne_str_int (Di I q (by simp))
    | str j=>obtain ⟨t',rfl⟩:=ry; exact ne_str (Di I q (congrArg not ApB))
    | _=>exact absurd (show false=true from hs) Bool.false_ne_true
  | byt i =>
    obtain ⟨t,rfl⟩:=rx
    cases y with
    | byt j=>obtain ⟨t',rfl⟩:=ry; exact PySem.W.ne_bytes (Di I q (congrArg not ApC))
    | _=>exact absurd (show false=true from hs) Bool.false_ne_true
  | _=>cases y <;> exact absurd (show false=true from hs) Bool.false_ne_true
theorem RQ:OpR X (compareOp .Lt) (rI0 fun i j=>.bl (decide (i < j))):=At6 fun _ _ _ _ _ _ _ q=>lt_int q
theorem Aw6:OpR X (compareOp .LtE) (rI0 fun i j=>.bl (decide (i≤j))):=At6 fun _ _ _ _ _ _ _ q=>le_int q
theorem Acw:OpR X (compareOp .Gt) (rI0 fun i j=>.bl (decide (j < i))):=At6 fun _ _ _ _ _ _ _ q=>gt_int q
theorem ApD:OpR X (compareOp .GtE) (rI0 fun i j=>.bl (decide (j≤i))):=At6 fun _ _ _ _ _ _ _ q=>ge_int q
theorem Aq0:OpR X (compareOp .In) (fun x y H Q=>∃ i j,x=.str i∧y=.str j∧Q (.bl (!(Builtin.Str.occurrences j i 0 j.length 1).isEmpty)) H):=by
  intro pins s σ H x y v u Q I rx ry h
  obtain ⟨i,j,rfl,rfl,q⟩:=h
  obtain ⟨t,rfl⟩:=rx
  obtain ⟨t',rfl⟩:=ry
  exact in_str (Di I q rfl)
theorem Ave:OpR X (compareOp .Is) (fun x y H Q=>y=.non∧Q (.bl (decide (x=.non))) H):=by
  intro pins s σ H x y v u Q I rx ry h
  obtain ⟨rfl,q⟩:=h
  cases ry
  refine is_none_gen (Di I q ?_)
  cases x <;> first
    | (cases rx; rfl)
    | (obtain ⟨t,rfl⟩:=rx; rfl)
theorem AlB:OpR X (compareOp .NotIn) (fun x y H Q=>∃ i j,x=.str i∧y=.str j∧Q (.bl (!(!(Builtin.Str.occurrences j i 0 j.length 1).isEmpty))) H):=by
  intro pins s σ H x y v u Q I rx ry h
  obtain ⟨i,j,rfl,rfl,q⟩:=h
  obtain ⟨t,rfl⟩:=rx
  obtain ⟨t',rfl⟩:=ry
  exact notIn_str (Di I q rfl)
def isObj:HO→Bool
  | .lst _=>true
  | .ins _ _ _=>true
  | _=>false
theorem Bm (b:Expr) {op:CmpOp} (h:op≠.In:=by decide) (h2:op≠.NotIn:=by decide):behindInMarks op b=false:=by
  have e1:(op == CmpOp.In)=false:=by cases op <;> first | rfl | exact absurd rfl h
  have e2:(op == CmpOp.NotIn)=false:=by cases op <;> first | rfl | exact absurd rfl h2
  cases b <;> simp [behindInMarks,e1,e2]
theorem ApE {op:CmpOp} {r:R2} (ho:OpR X (compareOp op) r) (ha:PE X a ta) (hb:PE X b tb) (hm:behindInMarks op b=false):PE X (.Compare a [op] [b] pos) (tOp r ta tb):=by
  intro pins s σ H Q I h
  exact wpAny_Compare1 (Avc ha hb I h fun v u s2 x y H2 I2 rx ry q=>ho pins s2 σ H2 x y v u Q I2 rx ry q) hm
def Aw7 (t:TE):TT:=fun σ H Q=>t σ H fun x H'=>∃ k,x=.bl k∧Q k H'
theorem Av {op:CmpOp} {r:R2} (ho:OpR X (compareOp op) r) (ha:PE X a ta) (hb:PE X b tb) (hm:behindInMarks op b=false):PT X (.Compare a [op] [b] pos) (Aw7 (tOp r ta tb)):=by
  intro pins s σ H Q I h
  refine wpAny_isTrue_Compare1 (thn (ha pins s σ H _ I h) fun v s1 ⟨x,H1,I1,r1,q1⟩=>thn (hb pins s1 σ H1 _ I1 q1) fun u s2 ⟨y,H2,I2,r2,q2⟩ =>
    thn (ho pins s2 σ H2 x y v u _ I2 r1 r2 q2) fun c s3 ⟨z,H3,I3,r3,k,e,q3⟩=>?_) hm
  subst e
  cases r3
  exact wpAny_truthy_bool ⟨H3,I3,q3⟩
def AxJ (r r':R2) (ta tb tc:TE):TE:=fun σ H Q=>ta σ H fun x H1=>tb σ H1 fun y H2=>r x y H2 fun z H3=>∃ k,z=.bl k ∧
  (if k=true then tc σ H3 fun w' H4=>r' y w' H4 Q else Q (.bl false) H3)
def Avf (K:PySem.W.Frag) (x:V) (H:Hp) (k:Bool):Prop :=
  match x with
  | .non=>k=false
  | .bl b=>k=b
  | .int i=>k=(i != 0)
  | .str y=>y.length≤sizeLine∧k=((y.length:Int) != 0)
  | .byt y=>y.size≤sizeLine∧k=((y.size:Int) != 0)
  | .ref p=>(∃ xs,SqL K H p xs∧k=!xs.isEmpty)∨(∃ xs,SqT K H p xs∧k=!xs.isEmpty)∨∃ kvs,H p=some (.dK kvs)∧k=!kvs.isEmpty
  | _=>False
theorem AoF {κ:Type} {kvs:List (κ × V)} {vs:List (κ × Value)} (r:KV kvs vs):(!vs.isEmpty)=!kvs.isEmpty:=by
  cases r <;> rfl
theorem Ait {xs:List V} {its:List Value} (r:Vals xs its):(!its.toArray.isEmpty)=!xs.isEmpty:=by
  cases r <;> simp
theorem Adk:(sizeLine:Nat) < 2 ^ 63:=by rw [sizeLine_eq]; decide
theorem Avg:AxG X (fun x H Q=>∃ k,Avf X.K x H k∧Q k H):=by
  intro pins s σ H x v Q I rx h
  obtain ⟨k,e,q⟩:=h
  have hl:=Adk
  have hs:sizeLine=16777216:=sizeLine_eq
  cases x with
  | non =>
    cases rx
    have e':k=false:=e
    subst e'
    exact truthy_none ⟨H,I,q⟩
  | bl b =>
    cases rx
    have e':k=b:=e
    subst e'
    exact wpAny_truthy_bool ⟨H,I,q⟩
  | int i =>
    obtain ⟨t,rfl⟩:=rx
    have e':k=(i != 0):=e
    subst e'
    exact PySem.P.truthy_int ⟨H,I,q⟩
  | str y =>
    obtain ⟨t,rfl⟩:=rx
    obtain ⟨hy,e'⟩:y.length≤sizeLine∧k=((y.length:Int) != 0):=e
    subst e'
    exact PySem.P.truthy_str (by omega) ⟨H,I.tok _,q⟩
  | byt y =>
    obtain ⟨t,rfl⟩:=rx
    obtain ⟨hy,e'⟩:y.size≤sizeLine∧k=((y.size:Int) != 0):=e
    subst e'
    exact PySem.W.truthy_bytes (by omega) ⟨H,I.tok _,q⟩
  | ref p =>
    cases rx
    have e':(∃ xs,SqL X.K H p xs∧k=!xs.isEmpty)∨(∃ xs,SqT X.K H p xs∧k=!xs.isEmpty)∨∃ kvs,H p=some (.dK kvs)∧k=!kvs.isEmpty:=e
    rcases e' with ⟨xs,hx,e'⟩ | ⟨xs,hx,e'⟩ | ⟨kvs,hx,e'⟩
    · subst e'
      obtain ⟨its,r,pl,hz⟩:=I.list hx
      have hlen:=r.length
      exact wpAny_truthy_list pl.isList (by simp only [List.size_toArray]; omega) ⟨H,I.tok _,by rw [Ait r]; exact q⟩
    · subst e'
      obtain ⟨its,r,pl,hz⟩:=I.tuple hx
      have hlen:=r.length
      exact truthy_tuple pl (by simp only [List.size_toArray]; omega) ⟨H,I.tok _,by rw [Ait r]; exact q⟩
    · subst e'
      obtain ⟨hz,hS,vs,r,m⟩:kvs.length≤sizeLine∧(p == sysModules)=false∧∃ vs,KV kvs vs∧s.heap.DictOf (Al8 X.prog X.w) p vs:=I.hok p _ hx
      have hlen:kvs.length=vs.length:=Paired.length r
      exact wpAny_truthy_dict hS m (by omega) ⟨H,I.tok _,by rw [AoF r]; exact q⟩
  | _=>exact (show False from e).elim
theorem Ar1 (ha:PE X a ta) (he:∀ whole,isTrue a X.env whole=(do let v ← whole; standAt a.pos; holding [v] (truthy v))) :
    PT X a (fun σ H Q=>ta σ H fun x H'=>∃ k,Avf X.K x H' k∧Q k H'):=by
  intro pins s σ H Q I h
  exact isTrue_plain (thn (ha pins s σ H _ I h) fun v s1 ⟨x,H1,I1,r1,q1⟩=>Avg pins s1 σ H1 x v Q I1 r1 q1) (he _)
theorem N5:OpR X (binaryOp .Add) (fun x y H Q=>∃ i j,x=.str i∧y=.str j∧i.length+j.length≤sizeLine∧Q (.str (i++j)) H):=by
  intro pins s σ H x y v u Q I rx ry h
  obtain ⟨i,j,rfl,rfl,hz,q⟩:=h
  obtain ⟨t,rfl⟩:=rx
  obtain ⟨t',rfl⟩:=ry
  exact add_str (fun t' tk=>⟨.str (i++j),H,I.tok _,⟨_,rfl⟩,q⟩) hz
def Aw8 (b:Expr):Prop:=∀ o i,subscripted b false o i=operate [o,i] (getItem o i)
theorem vals1 {x:V} {us:List Value} (r:Vals [x] us):∃ u,us=[u]∧RelV x u:=by
  cases r with
  | cons r1 r2=>cases r2; exact ⟨_,rfl,r1⟩
theorem vals2 {x y:V} {us:List Value} (r:Vals [x,y] us):∃ u w',us=[u,w']∧RelV x u∧RelV y w':=by
  cases r with
  | cons r1 r2 =>
    cases r2 with
    | cons r3 r4=>cases r4; exact ⟨_,_,rfl,r1,r3⟩
theorem Ank:Nz X (.builtin "abs") (fun xs H Q=>∃ i,xs=[.int i]∧Q (.int (if i < 0 then -i else i)) H):=by
  intro pins s σ H xs us Q I r h
  obtain ⟨i,rfl,q⟩:=h
  obtain ⟨u,rfl,t,rfl⟩:=vals1 r
  exact call_abs_int fun u tk=>⟨.int (if i < 0 then -i else i),H,I.tok _,⟨_,rfl⟩,q⟩
theorem Aq1 (hc:X.calm=true):Nz X (.builtin "max") (fun xs H Q=>∃ i j,xs=[.int i,.int j]∧Q (.int (if j > i then j else i)) H):=by
  intro pins s σ H xs us Q I r h
  obtain ⟨i,j,rfl,q⟩:=h
  obtain ⟨u,w',rfl,⟨t,rfl⟩,⟨t',rfl⟩⟩:=vals2 r
  refine max_two_ints (I.ok.hd hc) fun h' tk k=>⟨_,H,I.kept k,?_,q⟩
  by_cases hj:j > i
  · rw [if_pos hj,if_pos hj]; exact ⟨_,rfl⟩
  · rw [if_neg hj,if_neg hj]; exact ⟨_,rfl⟩
theorem AdS:Nz X (.type "str") (fun xs H Q=>∃ i,xs=[.int i]∧i.natAbs.log2 < 1920∧Q (.str (toString i)) H):=by
  intro pins s σ H xs us Q I r h
  obtain ⟨i,rfl,hz,q⟩:=h
  obtain ⟨u,rfl,t,rfl⟩:=vals1 r
  exact PySem.P.str_of_int hz ⟨.str _,H,I.tok _,⟨_,rfl⟩,q⟩
def AyO (K:PySem.W.Frag) (x:V) (H:Hp) (n:Nat):Prop :=
  match x with
  | .str y=>y.length≤sizeLine∧n=y.length
  | .byt y=>y.size≤sizeLine∧n=y.size
  | .ref p=>(∃ xs,SqL K H p xs∧n=xs.length)∨∃ xs,SqT K H p xs∧n=xs.length
  | _=>False
end
open PySem PySem.Spec PyProof.Rows
structure AoG (h:Heap) (x dx C:Addr) (mA:Str→Option Value):Prop where
  obj:h.get? x=some (PySem.W.instObj C dx)
  ns:h.Ns1 dx mA
  ne:dx≠x
theorem Aq2 {h:Heap} {dx:Addr} {mA:Str→Option Value} (n:h.Ns1 dx mA):∃ od,h.get? dx=some od∧∀ name,PySem.W.lookIn name od=some (mA name):=by
  obtain ⟨o,es,ep,ho,hd,hk,_,hm⟩:=n
  refine ⟨o,ho,fun name=>?_⟩
  have e:=hm name
  unfold nsFind findBy at e
  rw [← Array.find?_toList] at e
  unfold PySem.W.lookIn
  rw [hd]
  dsimp only
  split
  · rename_i y q
    rw [q] at e
    exact congrArg some e
  · rename_i q
    rw [q] at e
    have a:es.toList.any (·.refKey)=false:=by
      rw [List.any_eq_false]
      intro y hy
      obtain ⟨z,t,hkey⟩:=hk y (Array.mem_toList_iff.mp hy)
      simp [DictEntry.refKey,hkey]
    have a':¬ es.toList.any (·.refKey)=true:=by rw [a]; exact Bool.false_ne_true
    rw [if_neg a']
    exact congrArg some e
theorem AoG.look {h:Heap} {x dx C:Addr} {mA:Str→Option Value} (I:AoG h x dx C mA):∃ od,PySem.W.InstAt h x (PySem.W.instObj C dx) C (some od)∧∀ name,PySem.W.lookIn name od=some (mA name) :=
  let ⟨od,ho,hl⟩:=Aq2 I.ns
  ⟨od,⟨I.obj,rfl,rfl,ho⟩,hl⟩
section
variable {prog:Program} {w:World} {A:Around} {E:Value→Shared→Prop} {s:Shared} {K:PySem.W.Frag} {x dx C f:Addr} {mA:Str→Option Value} {name:Str} {v:Value}
theorem get_map {expr:Bool} {Q:Value→Shared→Prop} (X:K.In s.heap) (I:AoG s.heap x dx C mA) (hg:PySem.W.plainGet K C name=true) (hh:PySem.W.hasDictIn K C=true)
    (ha:PySem.W.findIn K (.ref C) name=some none) (hv:mA name=some v) (hv':PySem.W.handedIn v=true) (h:Q v { s with toks:=s.toks+1 }) :
    wpAny (model prog w) A (getAttr (.ref x) name expr) Q E s:=by
  obtain ⟨od,J,hl⟩:=I.look
  exact PySem.W.get_value X J (PySem.W.plainGet_of hg).1 (PySem.W.findObj_own hh ha rfl (by rw [hl,hv])) hv' h
theorem Ar2 {pl:Sem Bool} {Q:Value × List Value→Shared→Prop} (X:K.In s.heap) (I:AoG s.heap x dx C mA) (hg:PySem.W.plainGet K C name=true)
    (hf:PySem.W.findIn K (.ref C) name=some (some (.ref f))) (ht:PySem.W.isFn K (.ref f)=true) (hv:mA name=none) (h:Q (.ref f,[.ref x]) s) :
    wpAny (model prog w) A (getMethod (.ref x) name pl) Q E s:=by
  obtain ⟨od,J,hl⟩:=I.look
  exact PySem.W.method_fn X J (PySem.W.plainGet_of hg).1 (PySem.W.plainGet_of hg).2 hf (beq_iff_eq.mp ht) (by show (PySem.W.lookIn name od).map (·.isSome)=some false; rw [hl,hv]; rfl) h
theorem At7 {ns:List Str} {Q:Unit→Shared→Prop} (X:K.In s.heap) (I:AoG s.heap x dx C mA)
    (hs:PySem.W.findIn K (.ref C) "__setattr__" = some (some (.builtin "object.__setattr__"))) (hp:PySem.W.plainOver K C=true) (ht:PySem.W.takerIn K C name=some none) (hh:PySem.W.hasDictIn K C=true)
    (hw:PySem.Within mA ns) (hsz:ns.length≤sizeLine)
    (h:∀ h',AoG h' x dx C (fun y=>if y=name then some v else mA y)→Heap.SameBut dx s.heap h'→Q () { s with heap:=h',toks:=s.toks+2 }) :
    wpAny (model prog w) A (setAttr (.ref x) name v) Q E s:=by
  obtain ⟨od,J,hl⟩:=I.look
  refine PySem.W.set_plain X J hs (PySem.W.osa_open (s:={ s with toks:=s.toks+1 }) (r:=none) X J hp ht fun b=>?_)
  obtain ⟨cd,hc,hd'⟩:=PySem.W.any_some hh
  have hx:s.heap.get? x=some ⟨.ref C,some dx,.plain,#[]⟩:=I.obj
  refine wpAny_bind (wpAny_pure (wpAny_bind (wpAny_bind (wpAny_loadPart hx (wpAny_bind (PySem.W.Looks.here (s:={ s with toks:=s.toks+1 }) (PySem.W.looks_clsIn X hc) ?_))))))
  rw [hd']
  refine wpAny_pure (a:=some dx) (wpAny_bind (wpAny_pure (wpAny_bind ?_)))
  refine wpAny_nsSet1 (s:={ s with toks:=s.toks+1 }) I.ns fun h' hn2 hs2=>?_
  obtain ⟨oD,esD,epD,hoD,hdD,hcD⟩:=hn2.count (PySem.Within.cons name v hw)
  refine wpAny_bind (wpAny_lookBehind hoD (by rw [hdD]; exact pastItsLine_dict (Nat.le_trans hcD (by rw [List.length_cons]; omega))) ?_)
  exact wpAny_pure (h _ ⟨(hs2.2 _ (Ne.symm I.ne)).trans I.obj,hn2,I.ne⟩ hs2)
theorem Ar3 {R:Result→Shared→Prop} {vs:List Value} {kw:List (Str × Value)} (X:K.In s.heap) (hm:PySem.W.makesIn K C=true)
    (hi:PySem.W.findIn K (.ref C) "__init__" = some (some (.ref f))) (hf:PySem.W.typeIn K (.ref f)=some (.type "function"))
    (h:codeAny (model prog w) (A.under (.builtin "type.__call__" ⟨.ref C::vs,kw⟩)) (.call (.ref f) ⟨.ref (s.heap.objs.size+1)::vs,kw⟩) (PySem.W.InitBack (s.heap.objs.size+1) R)
      { s with heap:=(s.heap.push PySem.W.emptyDict).push (PySem.W.instObj C s.heap.objs.size) }) :
    codeAny (model prog w) A (.call (.ref C) ⟨vs,kw⟩) R s:=by
  obtain ⟨hh,g,d,t,os⟩:=s
  exact PySem.W.make_core (PySem.W.makes_of X hm) (PySem.W.looks_findIn X hi) (fun self=>PySem.W.bind_fn X self hf) (.inl rfl) h
end
def We (f:Str) (v:V):List (Str × V)→List (Str × V)
  | []=>[(f,v)]
  | (g,x)::r=>if g=f then (g,v)::r else (g,x)::We f v r
theorem Ahi (f g:Str) (v:V):∀ fs:List (Str × V),(We f v fs).lookup g=if g=f then some v else fs.lookup g
  | []=>by
    show List.lookup g [(f,v)]=_
    by_cases h:g=f
    · have hb:(g == f)=true:=beq_iff_eq.mpr h
      simp only [List.lookup,hb,if_pos h]
    · have hb:(g == f)=false:=beq_eq_false_iff_ne.mpr h
      simp only [List.lookup,hb,if_neg h]
  | (k,x)::r=>by
    have ih:=Ahi f g v r
    rw [show We f v ((k,x)::r)=(if k=f then (k,v)::r else (k,x)::We f v r) from rfl]
    by_cases hk:k=f
    · rw [if_pos hk]
      by_cases h:g=k
      · have hb:(g == k)=true:=beq_iff_eq.mpr h
        simp only [List.lookup,hb,if_pos (h.trans hk)]
      · have hb:(g == k)=false:=beq_eq_false_iff_ne.mpr h
        simp only [List.lookup,hb,if_neg (fun e:g=f=>h (e.trans hk.symm))]
    · rw [if_neg hk]
      by_cases h:g=k
      · have hb:(g == k)=true:=beq_iff_eq.mpr h
        simp only [List.lookup,hb,if_neg (fun e:g=f=>hk (h.symm.trans e))]
      · have hb:(g == k)=false:=beq_eq_false_iff_ne.mpr h
        simp only [List.lookup,hb]
        exact ih
theorem Agc (f:Str) (v:V):∀ fs:List (Str × V),f∈(We f v fs).map (·.1)∧∀ g,g∈fs.map (·.1)→g∈(We f v fs).map (·.1)
  | []=>⟨by simp [We],fun g h=>by simp at h⟩
  | (k,x)::r=>by
    obtain ⟨i1,i2⟩:=Agc f v r
    rw [show We f v ((k,x)::r)=(if k=f then (k,v)::r else (k,x)::We f v r) from rfl]
    by_cases hk:k=f
    · rw [if_pos hk]
      subst hk
      exact ⟨by simp,fun g h=>by simpa using h⟩
    · rw [if_neg hk]
      refine ⟨?_,fun g h=>?_⟩
      · rw [List.map_cons]
        exact List.mem_cons_of_mem _ i1
      · rw [List.map_cons] at h ⊢
        rcases List.mem_cons.mp h with e | e
        · exact List.mem_cons.mpr (.inl e)
        · exact List.mem_cons_of_mem _ (i2 g e)
theorem Ahj (f:Str) (v:V):∀ fs:List (Str × V),(We f v fs).length≤fs.length+1
  | []=>by simp [We]
  | (k,x)::r=>by
    have ih:=Ahj f v r
    rw [show We f v ((k,x)::r)=(if k=f then (k,v)::r else (k,x)::We f v r) from rfl]
    by_cases hk:k=f
    · rw [if_pos hk,List.length_cons,List.length_cons]; omega
    · rw [if_neg hk,List.length_cons,List.length_cons]; omega
theorem Ak0.some_of {v:V} {o:Option Value} (r:Ak0 (some v) o):∃ u,o=some u∧RelV v u:=by
  cases o with
  | none=>exact (show False from r).elim
  | some u=>exact ⟨u,rfl,r⟩
theorem Ak0.none_of {o:Option Value} (r:Ak0 none o):o=none:=by
  cases o with
  | none=>rfl
  | some u=>exact (show False from r).elim
theorem Aq3 {v:V} {u:Value} (r:RelV v u):PySem.W.handedIn u=true:=by
  cases v with
  | non=>cases (show u=Value.none from r); rfl
  | bl b=>cases (show u=Value.bool b from r); rfl
  | int i=>obtain ⟨t,e⟩:=(show ∃ t,u=Value.int i t from r); cases e; rfl
  | str x=>obtain ⟨t,e⟩:=(show ∃ t,u=Value.str x t from r); cases e; rfl
  | byt b=>obtain ⟨t,e⟩:=(show ∃ t,u=Value.bytes b t from r); cases e; rfl
  | flt b=>obtain ⟨t,e⟩:=(show ∃ t,u=Value.float b t from r); cases e; rfl
  | ref a=>cases (show u=Value.ref a from r); rfl
  | ty n=>cases (show u=Value.type n from r); rfl
section
variable {P:Program} {w:World} {H H':Hp} {h h':Heap} {a C dx:Addr} {fs fs':List (Str × V)}
theorem Aic (hok:HOk P w H h) (e:H a=some (.ins C dx fs)):∃ mA,AoG h a dx C mA∧(∀ f,Ak0 (fs.lookup f) (mA f))∧PySem.Within mA (fs.map (·.1))∧fs.length≤1000∧H dx=some (.own a):=by
  obtain ⟨d,z,ne,ob,mA,n,r,q⟩:=(show Kw P w H h a (.ins C dx fs) from hok a _ e)
  exact ⟨mA,⟨ob,n,ne⟩,r,q,z,d⟩
end
structure Cls (K:PySem.W.Frag) (C:Addr):Prop where
  pg:PySem.W.plainGet K C Str.empty=true
  hd:PySem.W.hasDictIn K C=true
  po:PySem.W.plainOver K C=true
  sa:PySem.W.findIn K (.ref C) "__setattr__" = some (some (.builtin "object.__setattr__"))
theorem Cls.get {K:PySem.W.Frag} {C:Addr} (c:Cls K C) (f:Str):PySem.W.plainGet K C f=true:=c.pg
def Ln (K:PySem.W.Frag) (C:Addr) (f:Str):Prop:=PySem.W.findIn K (.ref C) f=some none
theorem Ln.taker {K:PySem.W.Frag} {C:Addr} {f:Str} (n:Ln K C f):PySem.W.takerIn K C f=some none:=by
  unfold PySem.W.takerIn
  rw [show PySem.W.findIn K (.ref C) f=some none from n]
  rfl
structure Con (K:PySem.W.Frag) (C:Addr) (f:Str) (v:V) (u:Value):Prop where
  at_:PySem.W.findIn K (.ref C) f=some (some u)
  rel:RelV v u
  get:PySem.W.specialIn K u "__get__" = some none
  cp:PySem.W.copiedNames.contains f=false
structure Meth (K:PySem.W.Frag) (C:Addr) (m:Str) (f:Addr):Prop where
  at_:PySem.W.findIn K (.ref C) m=some (some (.ref f))
  fn:PySem.W.isFn K (.ref f)=true
  kp:PySem.W.keepIn K (.ref f)=true
section
variable {X:Cx} {pins:List (Addr × Obj)} {σ:St} {H:Hp} {s:Shared} {a C dx:Addr} {fs:List (Str × V)} {f:Str} {v:V} {A:Around} {E:Value→Shared→Prop}
theorem Aiu {b:Bool} {Q:Value→Shared→Prop} (I:Inv X pins σ H s) (e:H a=some (.ins C dx fs)) (c:Cls X.K C) (n:Ln X.K C f) (l:fs.lookup f=some v)
    (h:∀ u s',Inv X pins σ H s'→RelV v u→Q u s'):wpAny (model X.prog X.w) A (getAttr (.ref a) f b) Q E s:=by
  obtain ⟨mA,O,r,_,_,_⟩:=Aic I.hok e
  obtain ⟨u,hu,ru⟩:=Ak0.some_of (v:=v) (o:=mA f) (by rw [← l]; exact r f)
  exact get_map I.kIn O (c.get f) c.hd n hu (Aq3 ru) (h u _ (I.tok _) ru)
theorem Yn {m:Str} {g:Addr} {pl:Sem Bool} {Q:Value × List Value→Shared→Prop} (I:Inv X pins σ H s) (e:H a=some (.ins C dx fs)) (c:Cls X.K C) (k:Meth X.K C m g) (l:fs.lookup m=none)
    (h:Q (.ref g,[.ref a]) s):wpAny (model X.prog X.w) A (getMethod (.ref a) m pl) Q E s:=by
  obtain ⟨mA,O,r,_,_,_⟩:=Aic I.hok e
  have hn:mA m=none:=Ak0.none_of (by rw [← l]; exact r m)
  exact Ar2 I.kIn O (c.get m) k.at_ k.fn hn h
theorem Aiv {y:V} {u:Value} {Q:Unit→Shared→Prop} (I:Inv X pins σ H s) (e:H a=some (.ins C dx fs)) (c:Cls X.K C) (n:Ln X.K C f) (hl:fs.length < 1000) (ry:RelV y u)
    (h:∀ s',Inv X pins σ (upd H a (.ins C dx (We f y fs))) s'→Q () s'):wpAny (model X.prog X.w) A (setAttr (.ref a) f u) Q E s:=by
  obtain ⟨mA,O,r,wi,_,ho⟩:=Aic I.hok e
  have hz:(fs.map (·.1)).length≤sizeLine:=by rw [List.length_map,sizeLine_eq]; omega
  refine At7 I.kIn O c.sa c.po n.taker c.hd wi hz fun h' O' sb=>h _ ?_
  have hd:∃ o,h'.get? dx=some o:=let ⟨o,_,_,e',_⟩:=O'.ns; ⟨o,e'⟩
  refine I.write (x:=a) (e:=dx) (by rw [e]; exact True.intro) (.inr ho) (fun b q hb z=>(sb.2 b hb).trans z) hd ?_
  refine ⟨by rw [Be O.ne]; exact ho,?_,O.ne,O'.obj,_,O'.ns,fun g=>?_,fun g hg=>?_⟩
  · have:=Ahj f y fs; omega
  · show Ak0 ((We f y fs).lookup g) (if g=f then some u else mA g)
    rw [Ahi]
    by_cases q:g=f
    · rw [if_pos q,if_pos q]; exact ry
    · rw [if_neg q,if_neg q]; exact r g
  · by_cases q:g=f
    · rw [q]; exact (Agc f y fs).1
    · refine (Agc f y fs).2 g (wi g fun z=>hg ?_)
      show (if g=f then some u else mA g)=none
      rw [if_neg q]; exact z
theorem Inv.made (I:Inv X pins σ H s):Inv X pins σ (upd (upd H s.heap.objs.size (.own (s.heap.objs.size+1))) (s.heap.objs.size+1) (.ins C s.heap.objs.size []))
    { s with heap:=(s.heap.push PySem.W.emptyDict).push (PySem.W.instObj C s.heap.objs.size) }:=by
  have e1:(s.heap.push PySem.W.emptyDict).get? s.heap.objs.size=some PySem.W.emptyDict:=Heap.get?_push_size s.heap rfl
  have e2:((s.heap.push PySem.W.emptyDict).push (PySem.W.instObj C s.heap.objs.size)).get? (s.heap.objs.size+1)=some (PySem.W.instObj C s.heap.objs.size):=by
    have:=Heap.get?_push_size (s.heap.push PySem.W.emptyDict) (o:=PySem.W.instObj C s.heap.objs.size) rfl
    rwa [Heap.size_push] at this
  have e3:(s.heap.push PySem.W.emptyDict).Ns s.heap.objs.size (fun _=>none):=⟨PySem.W.emptyDict,#[],_,e1,rfl,(fun e he=>absurd he (by simp)),fun _=>rfl⟩
  have I1:=I.laid (a:=s.heap.objs.size) (o:=.own (s.heap.objs.size+1)) (h':=s.heap.push PySem.W.emptyDict) (t':=s.toks) (fun b u q=>Heap.get?_push_of_some _ q) (Nat.le_refl _) ⟨_,e1⟩
  refine I1.laid (a:=s.heap.objs.size+1) (o:=.ins C s.heap.objs.size []) (t':=s.toks) (fun b u q=>Heap.get?_push_of_some _ q) (Nat.le_of_eq (Heap.size_push _ _)) ?_
  have ne:s.heap.objs.size≠s.heap.objs.size+1:=Nat.ne_of_lt (Nat.lt_succ_self _)
  refine ⟨by rw [Be ne,Ah],Nat.zero_le _,ne,e2,fun _=>none,(Heap.Ns1.of_empty e3).at fun o q=>Heap.get?_push_of_some _ q,fun _=>True.intro,fun y hy=>absurd rfl hy⟩
theorem At8 {prog:Program} {w:World} {env:Env} {e:Expr} {f:Str} {pos:Pos} {s:Shared} {Q:Value→Shared→Prop} (hb:attributeBase e f env (eval e env)=eval e env)
    (h:wpAny (model prog w) A (eval e env) (fun o s₁=>wpAny (model prog w) A (getAttr o f true) Q E s₁) E s):wpAny (model prog w) A (eval (.Attribute e f pos) env) Q E s :=
  Attribute_any_ h (by rw [arm_eval_Attribute,hb])
end
def Aw9 (K:PySem.W.Frag) (ta:TE) (f:Str):TE:=fun σ H Q=>ta σ H fun x H1=>∃ a C dx fs v,x=.ref a∧H1 a=some (.ins C dx fs)∧Cls K C∧Ln K C f∧fs.lookup f=some v∧Q v H1
def AyP (K:PySem.W.Frag) (ta:TE) (f:Str):TE:=fun σ H Q=>ta σ H fun x H1=>∃ a C dx fs v u,x=.ref a∧H1 a=some (.ins C dx fs)∧Cls K C∧Con K C f v u∧fs.lookup f=none∧Q v H1
def AwA (K:PySem.W.Frag) (ta tv:TE) (f:Str):TS:=fun D σ H=>tv σ H fun y H1=>ta σ H1 fun x H2=>∃ a C dx fs,x=.ref a∧H2 a=some (.ins C dx fs)∧Cls K C∧Ln K C f∧fs.length < 1000 ∧
  D.nx σ (upd H2 a (.ins C dx (We f y fs)))
def Avh (X:Cx) (op:Operator) (rd:V→V→Hp→VK→Prop):Prop :=
  ∀ (pins:List (Addr × Obj)) (s:Shared) (σ:St) (H:Hp) (x y:V) (u v:Value) (Q:VK),Inv X pins σ H s→RelV x u→RelV y v→rd x y H Q→wpAny (model X.prog X.w) X.A (inplaceOp op u v) (EP X pins σ Q) X.xe s
def ApF (K:PySem.W.Frag) (ta tv:TE) (rd:V→V→Hp→VK→Prop) (f:Str):TS:=fun D σ H=>ta σ H fun x H1=>∃ a C dx fs v,x=.ref a∧H1 a=some (.ins C dx fs)∧Cls K C∧Ln K C f∧fs.lookup f=some v ∧
  tv σ H1 fun y H2=>rd v y H2 fun z H3=>∃ dx' fs',H3 a=some (.ins C dx' fs')∧fs'.length < 1000∧D.nx σ (upd H3 a (.ins C dx' (We f z fs')))
section
variable {X:Cx} {o e value:Expr} {f:Str} {pos pos' tpos:Pos} {ta tv:TE}
theorem Avi (he:PE X e ta) (hb:attributeBase e f X.env (eval e X.env)=eval e X.env):PE X (.Attribute e f pos) (Aw9 X.K ta f):=by
  intro pins s σ H Q I h
  refine At8 hb (thn (he pins s σ H _ I h) fun u s1 ⟨x,H1,I1,rx,a,C,dx,fs,v,ex,ea,c,n,l,q⟩=>?_)
  subst ex
  obtain rfl:u=Value.ref a:=rx
  exact Aiu I1 ea c n l fun u' s2 I2 ru=>⟨v,H1,I2,ru,q⟩
theorem Avj (ha:PE X o ta) (hv:PE X value tv) (hs:swapsWith value (some (.Attribute o f pos')) pos.line X.env=pure false):PS X (.Assign [.Attribute o f pos'] value pos) (AwA X.K ta tv f):=by
  intro pins s σ H D I h
  refine plainObj_wpAny_Assign_Attribute (thn (hv pins s σ H _ I h) fun u s1 ⟨y,H1,I1,ry,q⟩=>thn (ha pins s1 σ H1 _ I1 q) fun ov s2 ⟨x,H2,I2,rx,a,C,dx,fs,ex,ea,c,n,l,q2⟩=>?_) hs
  subst ex
  obtain rfl:ov=Value.ref a:=rx
  exact Aiv I2 ea c n l ry fun s3 I3=>⟨σ,_,I3,q2⟩
theorem Aq4 {op:Operator} {rd:V→V→Hp→VK→Prop} (ha:PE X o ta) (hv:PE X value tv) (hop:Avh X op rd):PS X (.AugAssign (.Attribute o f tpos) op value pos) (ApF X.K ta tv rd f):=by
  intro pins s σ H D I h
  refine wpAny_AugAssign_AttributeAny (thn (ha pins s σ H _ I h) fun ov s1 ⟨x,H1,I1,rx,a,C,dx,fs,v,ex,ea,c,n,l,q⟩=>?_)
  subst ex
  obtain rfl:ov=Value.ref a:=rx
  refine Aiu I1 ea c n l fun u s2 I2 ru=>thn (hv pins s2 σ H1 _ I2 q) fun w3 s3 ⟨y,H2,I3,ry,q3⟩=>thn (hop pins s3 σ H2 v y u w3 _ I3 ru ry q3) fun w4 s4 ⟨z,H3,I4,rz,dx',fs',ea',l',q4⟩=>?_
  exact Aiv I4 ea' c n l' rz fun s5 I5=>⟨σ,_,I5,q4⟩
def AxK:V→V→Hp→VK→Prop:=fun x y H Q=>∃ i j,x=.int i∧y=.int j∧Q (.int (i+j)) H
def AyQ:V→V→Hp→VK→Prop:=fun x y H Q=>∃ i j,x=.int i∧y=.int j∧Q (.int (i - j)) H
theorem Avk:Avh X .Add AxK:=by
  rintro pins s σ H x y u v Q I rx ry ⟨i,j,rfl,rfl,q⟩
  obtain ⟨t,rfl⟩:=(show ∃ t,u=Value.int i t from rx)
  obtain ⟨t',rfl⟩:=(show ∃ t',v=Value.int j t' from ry)
  exact PyProof.Rows.iadd_int ⟨.int (i+j),H,I.tok _,⟨_,rfl⟩,q⟩
end
section
variable {X:Cx} {pins:List (Addr × Obj)} {σ:St} {H:Hp} {s:Shared} {A:Around} {E:Value→Shared→Prop} {Q:Value→Shared→Prop} {c:Value} {b:Bool}
inductive AdT (K:PySem.W.Frag) (H:Hp):V→Value→Prop where
  | non:AdT K H .non (.type "NoneType")
  | bl (x:Bool):AdT K H (.bl x) (.type "bool")
  | int (i:Int):AdT K H (.int i) (.type "int")
  | str (x:Str):AdT K H (.str x) (.type "str")
  | flt (x:UInt64):AdT K H (.flt x) (.type "float")
  | lst {a:Addr} {xs:List V} (e:H a=some (.lst xs)):AdT K H (.ref a) (.type "list")
  | frz {a:Addr} {o:Obj} {xs:List V} (e:H a=some (.frz o (.lst xs))):AdT K H (.ref a) (.type "list")
  | tup {a:Addr} {xs:List V} (e:H a=some (.tup xs)):AdT K H (.ref a) (.type "tuple")
  | dK {a:Addr} {kvs:List (Key × V)} (e:H a=some (.dK kvs)):AdT K H (.ref a) (.type "dict")
  | dT {a:Addr} {kvs:List (List Key × V)} (e:H a=some (.dT kvs)):AdT K H (.ref a) (.type "dict")
  | ins {a C dx:Addr} {fs:List (Str × V)} (e:H a=some (.ins C dx fs)) (cl:Cls K C) (ha:PySem.W.findIn K (.ref C) "__class__" = some (some (.builtin "object.__class__")))
      (hn:PySem.W.specialIn K (.builtin "object.__class__") "__get__" = some (some (.builtin "getset_descriptor.__get__"))) (htk:PySem.W.takesIn K (.builtin "object.__class__")=some true)
      (hm:PySem.W.mroIn K C (.type "object")=some true):AdT K H (.ref a) (.ref C)
theorem Ald {x:V} {u t:Value} (I:Inv X pins σ H s) (rx:RelV x u) (ty:AdT X.K H x t) (e:PySem.W.kitOne X.K t c=some b) (h:∀ tk,Q (.bool b) { s with toks:=tk }) :
    wpAny (model X.prog X.w) A (call (.builtin "isinstance") [u,c]) Q E s:=by
  cases ty with
  | non=>cases (show u=Value.none from rx); exact PySem.W.kia_one PySem.W.kitx_none I.kIn True.intro e (fun z=>nomatch z) h
  | bl y=>cases (show u=Value.bool y from rx); exact PySem.W.kia_one PySem.W.kitx_bool I.kIn True.intro e (fun z=>nomatch z) h
  | int i=>obtain ⟨t,q⟩:=(show ∃ t,u=Value.int i t from rx); cases q; exact PySem.W.kia_one PySem.W.kitx_int I.kIn True.intro e (fun z=>nomatch z) h
  | str y=>obtain ⟨t,q⟩:=(show ∃ t,u=Value.str y t from rx); cases q; exact PySem.W.kia_one PySem.W.kitx_str I.kIn True.intro e (fun z=>nomatch z) h
  | flt y=>obtain ⟨t,q⟩:=(show ∃ t,u=Value.float y t from rx); cases q; exact PySem.W.kia_one PySem.W.kitx_float I.kIn True.intro e (fun z=>nomatch z) h
  | @lst a xs ea =>
    cases (show u=Value.ref a from rx)
    obtain ⟨_,_,n,_,h1⟩:=(show Kw X.prog X.w H s.heap a (.lst xs) from I.hok a _ ea)
    exact PySem.W.kia_one PySem.W.kitx_list I.kIn ⟨_,h1,rfl⟩ e (fun z=>nomatch z) h
  | @frz a ob xs ea =>
    cases (show u=Value.ref a from rx)
    obtain ⟨_,_,_,n,_,h1⟩:=(show Kw X.prog X.w H s.heap a (.frz ob (.lst xs)) from I.hok a _ ea)
    exact PySem.W.kia_one PySem.W.kitx_list I.kIn ⟨_,h1,rfl⟩ e (fun z=>nomatch z) h
  | @tup a xs ea =>
    cases (show u=Value.ref a from rx)
    obtain ⟨_,_,_,p⟩:=(show Kw X.prog X.w H s.heap a (.tup xs) from I.hok a _ ea)
    obtain ⟨o,h1,h2,_⟩:=p
    exact PySem.W.kia_one PySem.W.kitx_tuple I.kIn ⟨o,h1,h2⟩ e (fun z=>nomatch z) h
  | @dK a kvs ea =>
    cases (show u=Value.ref a from rx)
    obtain ⟨_,_,vs,_,p⟩:=(show Kw X.prog X.w H s.heap a (.dK kvs) from I.hok a _ ea)
    obtain ⟨o,es,ep,h1,h2,_⟩:=p
    exact PySem.W.kia_one PySem.W.kitx_dict I.kIn ⟨o,h1,h2.1⟩ e (fun z=>nomatch z) h
  | @dT a kvs ea =>
    cases (show u=Value.ref a from rx)
    obtain ⟨_,_,xs,_,o,es,ep,h1,h2,_⟩:=(show Kw X.prog X.w H s.heap a (.dT kvs) from I.hok a _ ea)
    exact PySem.W.kia_one PySem.W.kitx_dict I.kIn ⟨o,h1,h2.1⟩ e (fun z=>nomatch z) h
  | @ins a C dx fs ea cl ha hn htk hm =>
    cases (show u=Value.ref a from rx)
    obtain ⟨mA,O,_⟩:=Aic I.hok ea
    obtain ⟨od,J,_⟩:=O.look
    exact PySem.W.kia_one (PySem.W.kitx_own (cl.get _) cl.hd ha hn htk hm) I.kIn J e (fun z=>nomatch z) h
end
open PySem PySem.Spec PyProof.Rows
structure Mh (k:Nat) (A:Around):Prop where
  hd:A.handled=none
  dp:A.depth+3 * k+5 < recursionLimit
  un:A.units+16 * k+200 < cLine
theorem Mh.mono {j k:Nat} {A:Around} (r:Mh k A) (h:j≤k):Mh j A:=⟨r.hd,by have:=r.dp; omega,by have:=r.un; omega⟩
theorem Mh.deeper {k:Nat} {A:Around} (r:Mh (k+1) A) (env:Env):Mh k (A.deeper env) :=
  ⟨r.hd,by have:=r.dp; show A.depth+1+3 * k+5 < _; omega,by have:=r.un; show A.units+3+16 * k+200 < _; omega⟩
theorem AoH {A:Around} {C:Addr} {us:List Value} {kw:List (Str × Value)}:(A.under (.builtin "type.__call__" ⟨.ref C::us,kw⟩)).depth=A.depth+1:=by
  first | rfl | simp [Around.under,Code.weight,Code.isCreation,Code.isGuard,Code.isCaller,Code.frames,Code.isFrame,guardIds]
theorem AoI {A:Around} {C:Addr} {us:List Value} {kw:List (Str × Value)}:(A.under (.builtin "type.__call__" ⟨.ref C::us,kw⟩)).units=A.units+1:=by
  first | rfl | simp [Around.under,Code.cUnits,Code.frames,Code.isFrame]
theorem Mh.make {k:Nat} {A:Around} (r:Mh (k+1) A) (C:Addr) (us:List Value) (kw:List (Str × Value)):Mh k (A.under (.builtin "type.__call__" ⟨.ref C::us,kw⟩)) :=
  ⟨r.hd,by have:=r.dp; rw [AoH]; omega,by have:=r.un; rw [AoI]; omega⟩
theorem Mh.depth {k:Nat} {A:Around} (r:Mh k A):A.depth < recursionLimit:=by have:=r.dp; omega
theorem Mh.Avl {k:Nat} {A:Around} (r:Mh k A):A.units < cLine:=by have:=r.un; omega
def AwB:TA:=fun _ H Q=>Q [] H
def AwC (ta:TE) (tr:TA):TA:=fun σ H Q=>ta σ H fun x H1=>tr σ H1 fun xs H2=>Q (x::xs) H2
section
variable {X:Cx} {e:Expr} {es:List Expr} {te:TE} {t:TA} {pos:Pos}
theorem Ac:PA X [] AwB:=fun _ _ _ _ H Q I h=>Calls.spliced_nil ⟨[],H,I,.nil,h⟩
theorem Aa (ha:PE X e te) (hr:PA X es t) (hs:starEach (e::es) X.env=(false,eval e X.env)::starEach es X.env:=by rfl):PA X (e::es) (AwC te t):=by
  intro pos pins s σ H Q I h
  rw [hs]
  show wpAny _ _ (spliced ((false,eval e X.env)::backTo pos (starEach es X.env))) _ _ s
  refine Calls.spliced_cons (thn (ha pins s σ H _ I h) fun u s1 ⟨x,H1,I1,r1,q1⟩=>?_)
  exact thn (hr pos pins s1 σ H1 _ I1 q1) fun us s2 ⟨xs,H2,I2,r2,q2⟩=>⟨x::xs,H2,I2,.cons r1 r2,q2⟩
def AxL (t:TA):TE:=fun σ H Q=>t σ H fun xs H1=>xs.length≤sizeLine∧∀ p,H1 p=none→Q (.ref p) (upd H1 p (.tup xs))
def AxM (t:TA):TE:=fun σ H Q=>t σ H fun xs H1=>xs.length≤sizeLine∧∀ p,H1 p=none→Q (.ref p) (upd H1 p (.lst xs))
theorem Ar4 {x1} (h:PA X es t):PE X (.Tuple es x1 pos) (AxL t):=by
  intro pins s σ H Q I hq
  refine wpAny_Tuple_spliced (thn (h pos pins s σ H _ I hq) fun us s1 ⟨xs,H1,I1,r,z,q⟩=>⟨by rw [← r.length]; exact z,?_⟩)
  have hf:H1 s1.heap.objs.size=none:=I1.hok.fresh (Nat.le_refl _)
  refine ⟨.ref s1.heap.objs.size,upd H1 s1.heap.objs.size (.tup xs),I1.laid (t':=s1.toks) (fun b u e=>Heap.get?_push_of_some _ e) (Nat.le_refl _) ?_,rfl,q _ hf⟩
  exact ⟨z,us,r,⟨_,Heap.get?_push_size _ rfl,rfl,_,rfl⟩⟩
theorem Mi (h:PA X es t):PE X (.List es pos) (AxM t):=by
  intro pins s σ H Q I hq
  refine wpAny_List_spliced (thn (h pos pins s σ H _ I hq) fun us s1 ⟨xs,H1,I1,r,z,q⟩=>⟨by rw [← r.length]; exact z,?_⟩)
  have hf:H1 s1.heap.objs.size=none:=I1.hok.fresh (Nat.le_refl _)
  refine ⟨.ref s1.heap.objs.size,upd H1 s1.heap.objs.size (.lst xs),I1.laid (t':=s1.toks) (fun b u e=>Heap.get?_push_of_some _ e) (Nat.le_refl _) ?_,rfl,q _ hf⟩
  exact ⟨z,us,0,r,Heap.get?_push_size _ rfl⟩
end
abbrev Sp:=List V→Hp→VK→XK→Prop
abbrev CXT:=List Env→Hp→Shared→XK→Value→Shared→Prop
structure AoJ (P:Program) (w:World) (K:PySem.W.Frag) (mg:Str→Option Value) (base:Heap) (A:Around) (outer:List Env) (s:Shared) (H:Hp):Prop where
  frames:A.frames=some outer
  mod:Mod K mg base
  bs:∀ b o,base.get? b=some o→s.heap.get? b=some o∧H b=none
  bsz:base.objs.size≤s.heap.objs.size
  Adh:s.heap.FunFrames base outer
  frf:∀ b∈frs outer,H b=none
  hok:HOk P w H s.heap
  bare:AllBare s.gens
def CE (outer:List Env) (P:Program) (w:World) (H:Hp) (s:Shared) (Q:VK) (u:Value) (s':Shared):Prop :=
  ∃ v H',s'.os=s.os∧AllBare s'.gens∧Un (frs outer) [] H H' s.heap s'.heap∧HOk P w H' s'.heap∧RelV v u∧Q v H'
def CR (CX:CXT) (outer:List Env) (P:Program) (w:World) (H:Hp) (s:Shared) (Q:VK) (E:XK) (r:Result) (s':Shared):Prop :=
  match r with
  | .ok (.ret u)=>CE outer P w H s Q u s'
  | .ok _=>False
  | .error e=>CX outer H s E e s'
structure Ar (P:Program) (w:World) (K:PySem.W.Frag) (mg:Str→Option Value) (base:Heap) (CX:CXT) (k:Nat) (f:Addr) (fd:FuncData) (ps:List Str) (sp:Sp):Prop where
  len:∀ vs H Q E,sp vs H Q E→vs.length=ps.length
  run:∀ (A:Around) (outer:List Env) (s:Shared) (H:Hp) (args:Args) (us:List Value) (vs:List V) (Q:VK) (E:XK),Mh k A→AoJ P w K mg base A outer s H→BindsTo s fd args (ps.zip us)→Vals vs us→sp vs H Q E →
    codeAny (model P w) A (.call (.ref f) args) (CR CX outer P w H s Q E) s
theorem Ar.mono {P:Program} {w:World} {K:PySem.W.Frag} {mg:Str→Option Value} {base:Heap} {CX:CXT} {j k:Nat} {f:Addr} {fd:FuncData} {ps:List Str} {sp:Sp} (F:Ar P w K mg base CX j f fd ps sp) (h:j≤k) :
    Ar P w K mg base CX k f fd ps sp:=⟨F.len,fun A outer s H args us vs Q E hr=>F.run A outer s H args us vs Q E (hr.mono h)⟩
theorem Ar.imp {P:Program} {w:World} {K:PySem.W.Frag} {mg:Str→Option Value} {base:Heap} {CX:CXT} {k:Nat} {f:Addr} {fd:FuncData} {ps:List Str} {sp sp':Sp} (F:Ar P w K mg base CX k f fd ps sp)
    (h:∀ vs H Q E,sp' vs H Q E→sp vs H Q E):Ar P w K mg base CX k f fd ps sp' :=
  ⟨fun vs H Q E q=>F.len vs H Q E (h _ _ _ _ q),fun A outer s H args us vs Q E hr he hb hv hs=>F.run A outer s H args us vs Q E hr he hb hv (h _ _ _ _ hs)⟩
theorem AoJ.make {P:Program} {w:World} {K:PySem.W.Frag} {mg:Str→Option Value} {base:Heap} {A:Around} {outer:List Env} {s:Shared} {H:Hp} (e:AoJ P w K mg base A outer s H) (C:Addr) (us:List Value) (kw:List (Str × Value)) :
    AoJ P w K mg base (A.under (.builtin "type.__call__" ⟨.ref C::us,kw⟩)) outer s H:=⟨by first | exact e.frames | (simpa [Around.under,Code.envs,Code.isFrame,pushEnvs] using e.frames),e.mod,e.bs,e.bsz,e.Adh,e.frf,e.hok,e.bare⟩
section
variable {X:Cx} {pins:List (Addr × Obj)} {σ:St} {H:Hp} {s s':Shared}
theorem Inv.env0 (I:Inv X pins σ H s):AoJ X.prog X.w X.K X.mg X.base X.A X.stack s H :=
  ⟨I.ok.frames,I.ok.mod,I.bs,Nat.le_trans I.ok.bsz I.sz,I.stack,I.Aia,I.hok,I.bare⟩
theorem Inv.after {Q:VK} {u:Value} (I:Inv X pins σ H s) (h:CE X.stack X.prog X.w H s Q u s'):EP X pins σ Q u s':=by
  obtain ⟨v,H',os,bare,un,hok,r,q⟩:=h
  obtain ⟨hh,g,d,t,os'⟩:=s'
  obtain rfl:os'=s.os:=os
  exact ⟨v,H',I.call (h':=hh) (g':=g) (d':=d) (t':=t) (ch:=[]) un hok bare (fun b z=>absurd z (by simp)),r,q⟩
end
def AwD (sp:Sp) (dvs:List V) (E:XK) (t:TA):TE:=fun σ H Q=>t σ H fun vs H1=>sp (vs++dvs) H1 Q E
def AuC (C:Addr) (m:Str) (sp:Sp) (dvs:List V) (E:XK) (ta:TE) (t:TA):TE:=fun σ H Q=>ta σ H fun x H1=>∃ a dx fs,x=.ref a∧H1 a=some (.ins C dx fs)∧fs.lookup m=none ∧
  t σ H1 fun vs H2=>sp (x::(vs++dvs)) H2 Q E
def AwE (C:Addr) (sp:Sp) (dvs:List V) (E:XK) (t:TA):TE:=fun σ H Q=>t σ H fun vs H1=>∀ x dx,H1 x=none→H1 dx=none→dx≠x →
  sp (.ref x::(vs++dvs)) (upd (upd H1 dx (.own x)) x (.ins C dx [])) (fun v H2=>v=.non∧Q (.ref x) H2) E
def Binds (K:PySem.W.Frag) (fd:FuncData) (ps:List Str) (ds:List Value):Prop :=
  ∀ (s:Shared) (us:List Value),K.In s.heap→(us++ds).length=ps.length→BindsTo s fd ⟨us,[]⟩ (ps.zip (us++ds))
theorem Binds.all {K:PySem.W.Frag} {fd:FuncData} {ps:List Str} (h:∀ us:List Value,us.length=ps.length→bindArgs fd ⟨us,[]⟩=pure (ps.zip us)):Binds K fd ps []:=fun s us _ hl=>by
  rw [List.append_nil] at hl ⊢
  exact .of_eq (h us hl)
def Passes (CX:CXT) (X:Cx) (E:XK):Prop:=∀ (pins:List (Addr × Obj)) (σ:St) (H:Hp) (s:Shared) (e:Value) (s':Shared),Inv X pins σ H s→CX X.stack H s E e s'→X.xe e s'
section
variable {X:Cx} {CX:CXT} {k:Nat} {f C:Addr} {fd:FuncData} {ps:List Str} {sp:Sp} {dvs:List V} {ds:List Value} {E:XK} {x m:Str} {p pos apos:Pos} {e o:Expr} {es:List Expr} {ta:TE} {t:TA}
theorem Aiw {pins:List (Addr × Obj)} {σ:St} {H:Hp} {s:Shared} {Q:VK} {us:List Value} {vs:List V} (F:Ar X.prog X.w X.K X.mg X.base CX k f fd ps sp) (hr:Mh k X.A) (hb:Binds X.K fd ps ds) (hd:Vals dvs ds) (hx:Passes CX X E)
    (I:Inv X pins σ H s) (r:Vals vs us) (h:sp (vs++dvs) H Q E):wpAny (model X.prog X.w) X.A (call (.ref f) us) (EP X pins σ Q) X.xe s:=by
  have r2:Vals (vs++dvs) (us++ds):=r.append hd
  have hl:(us++ds).length=ps.length:=by rw [← r2.length]; exact F.len _ _ _ _ h
  refine wpAny_call (codeAny_mono (F.run X.A X.stack s H ⟨us,[]⟩ (us++ds) (vs++dvs) Q E hr I.env0 (hb s us I.kIn hl) r2 h) fun r s' hq=>?_)
  cases r with
  | error e=>exact hx pins σ H s e s' I hq
  | ok fl =>
    cases fl with
    | ret u=>exact I.after hq
    | next=>exact False.elim hq
    | brk=>exact False.elim hq
    | cont=>exact False.elim hq
theorem Ak (F:Ar X.prog X.w X.K X.mg X.base CX k f fd ps sp) (hr:Mh k X.A) (hg:Gl X x) (hm:X.mg x=some (.ref f)) (hk:PySem.W.keepIn X.K (.ref f)=true) (hb:Binds X.K fd ps ds) (hd:Vals dvs ds) (hx:Passes CX X E)
    (ha:PA X (e::es) t) (hdb:(x == ("__debug__" : Str))=false:=by decide) (he:starEach (e::es) X.env=(false,eval e X.env)::starEach es X.env:=by rfl) (hpl:(backTo pos (starEach es X.env)).any (·.1)=false:=by rfl) :
    PE X (.Call (.Name x p) (e::es) [] pos) (AwD sp dvs E t):=by
  intro pins s σ H Q I h
  refine wpAny_Call_Name_kw (AlA I hg hm ?_ hdb)
  refine PySem.W.callWith_K (h₀:=X.base) I.ok.mod.kin hk (thn (ha pos pins s σ H _ I h) fun us s1 ⟨vs,H1,I1,r,q⟩=>⟨I1.kIn,?_⟩) he hpl
  exact Aiw F hr hb hd hx I1 r q
theorem AdU {pl:Sem Bool} (he:PE X o ta) (c:Cls X.K C) (hm:Meth X.K C m f) (F:Ar X.prog X.w X.K X.mg X.base CX k f fd ps sp) (hr:Mh k X.A) (hb:Binds X.K fd ps ds) (hd:Vals dvs ds) (hx:Passes CX X E) (ha:PA X (e::es) t)
    (hst:starEach (e::es) X.env=(false,eval e X.env)::starEach es X.env:=by rfl) (hpl:(backTo pos (starEach es X.env)).any (·.1)=false:=by rfl)
    (ht:eval (.Call (.Attribute o m apos) (e::es) [] pos) X.env=(do
      let ov ← eval o X.env
      standAt apos.atName
      let (f,first) ← holding [ov] (getMethod ov m pl)
      callWith pos f first (backTo pos (starEach (e::es) X.env)) (backToKw pos (keywordEach [] X.env))):=by rfl) :
    PE X (.Call (.Attribute o m apos) (e::es) [] pos) (AuC C m sp dvs E ta t):=by
  intro pins s σ H Q I h
  refine PySem.W.methodCall_KW (pl:=pl) (thn (he pins s σ H _ I h) fun u s1 ⟨x,H1,I1,rx,a,dx,fs,ex,ea,l,q⟩=>?_) ht
  subst ex
  obtain rfl:u=Value.ref a:=rx
  refine Yn I1 ea c hm l ?_
  refine PySem.W.callWith_K (first:=[.ref a]) (h₀:=X.base) I.ok.mod.kin hm.kp (thn (ha pos pins s1 σ H1 _ I1 q) fun us s2 ⟨vs,H2,I2,r,q2⟩=>⟨I2.kIn,?_⟩) hst hpl
  exact Aiw (us:=.ref a::us) (vs:=.ref a::vs) F hr hb hd hx I2 (.cons rfl r) q2
theorem Aix {pl:Sem Bool} (he:PE X o ta) (c:Cls X.K C) (hm:Meth X.K C m f) (F:Ar X.prog X.w X.K X.mg X.base CX k f fd ps sp) (hr:Mh k X.A) (hb:Binds X.K fd ps ds) (hd:Vals dvs ds) (hx:Passes CX X E)
    (ht:eval (.Call (.Attribute o m apos) [] [] pos) X.env=(do
      let ov ← eval o X.env
      standAt apos.atName
      let (f,first) ← holding [ov] (getMethod ov m pl)
      callWith pos f first (backTo pos (starEach [] X.env)) (backToKw pos (keywordEach [] X.env))):=by rfl) :
    PE X (.Call (.Attribute o m apos) [] [] pos) (AuC C m sp dvs E ta AwB):=by
  intro pins s σ H Q I h
  refine PySem.W.methodCall_KW (pl:=pl) (thn (he pins s σ H _ I h) fun u s1 ⟨x,H1,I1,rx,a,dx,fs,ex,ea,l,q⟩=>?_) ht
  subst ex
  obtain rfl:u=Value.ref a:=rx
  refine Yn I1 ea c hm l ?_
  exact PySem.W.callWith_K0 (first:=[.ref a]) I1.kIn hm.kp (Aiw (us:=[.ref a]) (vs:=[.ref a]) F hr hb hd hx I1 (.cons rfl .nil) q)
structure Mk (K:PySem.W.Frag) (C f:Addr):Prop where
  makes:PySem.W.makesIn K C=true
  init:PySem.W.findIn K (.ref C) "__init__" = some (some (.ref f))
  fn:PySem.W.isFn K (.ref f)=true
  kp:PySem.W.keepIn K (.ref C)=true
theorem Ar5 {pins:List (Addr × Obj)} {σ:St} {H:Hp} {s:Shared} {Q:VK} {us:List Value} {vs:List V} (M:Mk X.K C f) (F:Ar X.prog X.w X.K X.mg X.base CX k f fd ps sp) (hr:Mh (k+1) X.A) (hb:Binds X.K fd ps ds) (hd:Vals dvs ds)
    (hx:Passes CX X E) (I:Inv X pins σ H s) (r:Vals vs us)
    (h:∀ x dx,H x=none→H dx=none→dx≠x→sp (.ref x::(vs++dvs)) (upd (upd H dx (.own x)) x (.ins C dx [])) (fun v H2=>v=.non∧Q (.ref x) H2) E) :
    wpAny (model X.prog X.w) X.A (call (.ref C) us) (EP X pins σ Q) X.xe s:=by
  have hq:=h (s.heap.objs.size+1) s.heap.objs.size (I.hok.fresh (Nat.le_succ _)) (I.hok.fresh (Nat.le_refl _)) (Nat.ne_of_lt (Nat.lt_succ_self _))
  have I2:=Inv.made (C:=C) I
  have r2:Vals (V.ref (s.heap.objs.size+1)::(vs++dvs)) (Value.ref (s.heap.objs.size+1)::(us++ds)):=.cons rfl (r.append hd)
  have hl:(Value.ref (s.heap.objs.size+1)::us++ds).length=ps.length:=by
    have e:=r2.length
    rw [F.len _ _ _ _ hq] at e
    exact e.symm
  refine wpAny_call (Ar3 (f:=f) I.kIn M.makes M.init (beq_iff_eq.mp M.fn) (codeAny_mono (F.run _ X.stack _ _ ⟨Value.ref (s.heap.objs.size+1)::us,[]⟩ (Value.ref (s.heap.objs.size+1)::(us++ds)) _ _ E (hr.make C us [])
    (I2.env0.make C us []) (hb _ (Value.ref (s.heap.objs.size+1)::us) I2.kIn hl) r2 hq) fun r s' hq'=>?_))
  cases r with
  | error e=>exact hx pins σ _ _ e s' I2 hq'
  | ok fl =>
    cases fl with
    | ret u =>
      obtain ⟨v,H',I3,rv,ev,q3⟩:=I2.after hq'
      subst ev
      exact ⟨rv,⟨V.ref (s.heap.objs.size+1),H',I3,rfl,q3⟩⟩
    | next=>exact False.elim hq'
    | brk=>exact False.elim hq'
    | cont=>exact False.elim hq'
theorem AbT (M:Mk X.K C f) (F:Ar X.prog X.w X.K X.mg X.base CX k f fd ps sp) (hr:Mh (k+1) X.A) (hg:Gl X x) (hm:X.mg x=some (.ref C)) (hb:Binds X.K fd ps ds) (hd:Vals dvs ds) (hx:Passes CX X E)
    (ha:PA X (e::es) t) (hdb:(x == ("__debug__" : Str))=false:=by decide) (he:starEach (e::es) X.env=(false,eval e X.env)::starEach es X.env:=by rfl) (hpl:(backTo pos (starEach es X.env)).any (·.1)=false:=by rfl) :
    PE X (.Call (.Name x p) (e::es) [] pos) (AwE C sp dvs E t):=by
  intro pins s σ H Q I h
  refine wpAny_Call_Name_kw (AlA I hg hm ?_ hdb)
  refine PySem.W.callWith_K (h₀:=X.base) I.ok.mod.kin M.kp (thn (ha pos pins s σ H _ I h) fun us s1 ⟨vs,H1,I1,r,q⟩=>⟨I1.kIn,?_⟩) he hpl
  exact Ar5 M F hr hb hd hx I1 r q
end
def PK (X:Cx) (kws:List Keyword) (t:TA):Prop :=
  ∀ (pos:Pos) (pins:List (Addr × Obj)) (s:Shared) (σ:St) (H:Hp) (Q:List V→Hp→Prop),Inv X pins σ H s→t σ H Q→wpAny (model X.prog X.w) X.A (evalAll ((backToKw pos (keywordEach kws X.env)).map (·.2))) (AP X pins σ Q) X.xe s
section
variable {X:Cx} {CX:CXT} {k:Nat} {f C:Addr} {fd:FuncData} {ps ks:List Str} {sp:Sp} {E:XK} {x m:Str} {p pos apos AyR:Pos} {e o:Expr} {es:List Expr} {kws:List Keyword} {te ta:TE} {t tk:TA} {nm:Option Str}
structure AxN (K:PySem.W.Frag) (fd:FuncData) (ps ks:List Str) (g:List Value→List Value→List Value) (gV:List V→List V→List V):Prop where
  to:∀ (s:Shared) (us ws:List Value),K.In s.heap→(g us ws).length=ps.length→BindsTo s fd ⟨us,ks.zip ws⟩ (ps.zip (g us ws))
  rel:∀ {vs:List V} {us:List Value} {zs:List V} {ws:List Value},Vals vs us→Vals zs ws→Vals (gV vs zs) (g us ws)
def AxO (sp:Sp) (gV:List V→List V→List V) (E:XK) (t tk:TA):TE:=fun σ H Q=>t σ H fun vs H1=>tk σ H1 fun zs H2=>sp (gV vs zs) H2 Q E
variable {g:List Value→List Value→List Value} {gV:List V→List V→List V}
end
structure Aw (N P:List Str) (sc:Scope):Prop where
  kind:sc.kind=.function
  co:sc.isCoroutine=false
  gen:sc.isGenerator=false
  nd:N.Nodup
  pre:N.take P.length=P
  par:∀ x∈P,sc.names.lookup x=some .local∨sc.names.lookup x=some .cell
  Avm:∀ y∈sc.names,y.2≠.free
theorem Ale {kindOf:Str→Option NameKind} {x:Str}:∀ {binds:List (Str × Value)} {m:Str→Option Value},(∀ v,(x,v)∉binds)→bindL kindOf binds m x=m x
  | [],_,_=>rfl
  | (n,v)::r,m,h=>by
    unfold bindL
    rw [Ale fun w hw=>h w (List.mem_cons_of_mem _ hw)]
    split
    · have:x≠n:=by rintro rfl; exact h v List.mem_cons_self
      simp [this]
    · rfl
theorem Alf {kindOf:Str→Option NameKind} {x:Str}:∀ {binds:List (Str × Value)} {m:Str→Option Value},(∀ v,(x,v)∉binds)→bindC kindOf binds m x=m x
  | [],_,_=>rfl
  | (n,v)::r,m,h=>by
    unfold bindC
    rw [Alf fun w hw=>h w (List.mem_cons_of_mem _ hw)]
    split
    · rfl
    · have:x≠n:=by rintro rfl; exact h v List.mem_cons_self
      simp [this]
theorem Alh {kindOf:Str→Option NameKind} {x:Str} {v:Value}:∀ {P:List Str} {vs:List Value} {i:Nat} {m:Str→Option Value},P.Nodup→P[i]?=some x→vs[i]?=some v→kindOf x=some .local →
    bindL kindOf (P.zip vs) m x=some v
  | [],_,_,_,_,h,_,_=>by simp at h
  | _::_,[],_,_,_,_,h,_=>by simp at h
  | p::P,w::vs,0,m,nd,h1,h2,hk=>by
    simp at h1 h2; subst h1; subst h2
    show bindL kindOf ((p,w)::P.zip vs) m p=_
    unfold bindL
    rw [Ale fun v hv=>(List.nodup_cons.mp nd).1 (List.of_mem_zip hv).1,if_pos hk]
    simp
  | p::P,w::vs,i+1,m,nd,h1,h2,hk=>by
    show bindL kindOf ((p,w)::P.zip vs) m x=_
    unfold bindL
    exact Alh (i:=i) (List.nodup_cons.mp nd).2 (by simpa using h1) (by simpa using h2) hk
theorem Ali {kindOf:Str→Option NameKind} {x:Str} {v:Value}:∀ {P:List Str} {vs:List Value} {i:Nat} {m:Str→Option Value},P.Nodup→P[i]?=some x→vs[i]?=some v→kindOf x≠some .local →
    bindC kindOf (P.zip vs) m x=some v
  | [],_,_,_,_,h,_,_=>by simp at h
  | _::_,[],_,_,_,_,h,_=>by simp at h
  | p::P,w::vs,0,m,nd,h1,h2,hk=>by
    simp at h1 h2; subst h1; subst h2
    show bindC kindOf ((p,w)::P.zip vs) m p=_
    unfold bindC
    rw [Alf fun v hv=>(List.nodup_cons.mp nd).1 (List.of_mem_zip hv).1,if_neg hk]
    simp
  | p::P,w::vs,i+1,m,nd,h1,h2,hk=>by
    show bindC kindOf ((p,w)::P.zip vs) m x=_
    unfold bindC
    exact Ali (i:=i) (List.nodup_cons.mp nd).2 (by simpa using h1) (by simpa using h2) hk
def start (N:List Str) (vs:List V):St:=vs.map some++List.replicate (N.length - vs.length) none
def Anl (CX:CXT) (P:Program) (w:World) (K:PySem.W.Frag) (mg:Str→Option Value) (base:Heap) (N:List Str) (qual:Str) (scope:Scope) (f:Addr) (cd:Value) (A:Around) (outer:List Env) (s:Shared) (H:Hp) (E:XK):Cx where
  prog:=P
  w:=w
  K:=K
  mg:=mg
  base:=base
  A:=A.deeper (envOfC qual scope s.heap.objs.size f cd)
  N:=N
  s₀:=s
  H₀:=H
  env:=envOfC qual scope s.heap.objs.size f cd
  outer:=outer
  stack:=envOfC qual scope s.heap.objs.size f cd::outer
  ex:=[]
  calm:=true
  fn:=fun _=>true
  pn:=[]
  xe:=fun e s'=>wpAny (model P w) (A.deeper (envOfC qual scope s.heap.objs.size f cd)) (leaving (envOfC qual scope s.heap.objs.size f cd) e) (fun _ s''=>CX outer H s E e s'') (fun e' s''=>CX outer H s E e' s'') s'
theorem Anm {sc:Scope} {n:Nat} {x:Str} (h:sc.names.lookup x=some .cell):∃ c,(cellsFrom n sc.names []).lookup x=some c:=by
  have q:=PySem.W.cellsFrom_some sc.names n [] (.inl h)
  exact Option.isSome_iff_exists.mp q
theorem Aq5 {CX:CXT} {P:Program} {w:World} {K:PySem.W.Frag} {mg:Str→Option Value} {base:Heap} {N ps:List Str} {qual:Str} {scope:Scope} {f:Addr} {cd:Value} {A:Around} {outer:List Env} {s s1:Shared} {H:Hp} {E:XK} {us:List Value} {vs:List V}
    (S:Aw N ps scope) (hd:A.handled=none) (e0:AoJ P w K mg base A outer s H) (hl:vs.length=ps.length) (r:Vals vs us)
    (x:InCallC s s.heap.objs.size (bindL (envOfC qual scope s.heap.objs.size f cd).kindOf (ps.zip us) fun _=>none) (cellsFrom (s.heap.objs.size+1) scope.names []) (bindC (envOfC qual scope s.heap.objs.size f cd).kindOf (ps.zip us) fun _=>none) s1) :
    Inv (Anl CX P w K mg base N qual scope f cd A outer s H E) [] (start N vs) H s1:=by
  have hpl:ps.length≤N.length:=by have:=congrArg List.length S.pre; rw [List.length_take] at this; omega
  obtain ⟨h1,tk,rfl,hk⟩:=x.done
  have noA:∀ b:Addr,b∉(Anl CX P w K mg base N qual scope f cd A outer s H E).ex:=fun b z=>absurd (show b∈([]:List Addr) from z) (by simp)
  refine ⟨⟨e0.mod,S.kind,rfl,rfl,Nat.le_refl _,fun y z c h1 h2=>?_,fun y hy=>?_,fun y c _ h=>?_,fun _=>hd,Around.frames_deeper e0.frames,.inr ⟨rfl,rfl⟩,fun b z=>absurd z (noA b),e0.bs,e0.bsz,fun b _ _=>noA b,fun b z=>absurd z (noA b),e0.Adh,e0.frf⟩,
    rfl,e0.bare,Un.kept hk,⟨_,x.toInCall.ns,fun i y v h1 h2 h3=>?_⟩,fun y c h=>⟨_,x.cell y c h⟩,e0.hok.fresh (Nat.le_refl _),fun y c h=>?_,fun p hp=>absurd (show p∈([]:List (Addr × Obj)) from hp) (by simp),e0.hok.kept hk,?_⟩
  · exact name_of_addr x.apart (PySem.mem_of_lookup h1) (PySem.mem_of_lookup h2)
  · have hy:scope.names.lookup y=some .cell∨scope.names.lookup y=some .free:=hy
    rcases hy with hy | hy
    · exact Anm hy
    · exact absurd rfl (S.Avm _ (PySem.mem_of_lookup hy))
  · exact Nat.le_of_lt (x.above y c (PySem.mem_of_lookup h))
  · have hi:i < vs.length:=by
      unfold start at h2
      by_cases hi:i < vs.length
      · exact hi
      · rw [List.getElem?_append_right (by simpa using hi)] at h2
        rw [List.getElem?_replicate] at h2
        split at h2 <;> cases h2
    have ha:vs[i]?=some v:=by
      unfold start at h2
      rw [List.getElem?_append_left (by simpa using hi),List.getElem?_map] at h2
      cases e:vs[i]? with
      | none=>rw [e] at h2; cases h2
      | some a=>rw [e] at h2; cases h2; rfl
    obtain ⟨u,hu,rv⟩:=r.get ha
    have hp:ps[i]?=some y:=by
      rw [← S.pre,List.getElem?_take_of_lt (by omega)]; exact h1
    have ndP:ps.Nodup:=by rw [← S.pre]; exact S.nd.sublist (List.take_sublist _ _)
    refine ⟨u,rv,?_⟩
    rcases S.par y (List.mem_of_getElem? hp) with k | k
    · exact .inl ⟨k,Alh ndP hp hu k⟩
    · obtain ⟨c,e⟩:=Anm (n:=s.heap.objs.size+1) k
      refine .inr ⟨.inl k,c,e,?_⟩
      have q:=x.cell y c e
      rw [Ali ndP hp hu (by show scope.names.lookup y≠_; rw [k]; decide)] at q
      exact q
  · exact e0.hok.fresh (Nat.le_of_lt (x.above y c (PySem.mem_of_lookup h)))
  · unfold start
    show _=N.length
    rw [List.length_append,List.length_map,List.length_replicate]
    omega
theorem AwF {CX:CXT} {P:Program} {w:World} {K:PySem.W.Frag} {mg:Str→Option Value} {base:Heap} {k:Nat} {f:Addr} {name qual:Str} {params:Arguments} {body:List Stmt} {scope:Scope} {dV kV doc pm cdv ct oc:Value} {an od:Option Addr}
    {osl:Array (Option Value)} {N ps:List Str} {sp:Sp} (lk:K.lookup f=some ⟨oc,od,.func (PySem.W.fnOf name qual params body scope dV kV doc pm an cdv ct),osl⟩) (hcd:PySem.W.codeIn K cdv qual=true) (S:Aw N ps scope)
    (len:∀ vs H Q E,sp vs H Q E→vs.length=ps.length)
    (hbody:∀ (A:Around) (outer:List Env) (s:Shared) (H:Hp) (vs:List V) (Q:VK) (E:XK),Mh k (A.deeper (envOfC qual scope s.heap.objs.size f cdv))→sp vs H Q E →
      ∃ t,PSs (Anl CX P w K mg base N qual scope f cdv A outer s H E) body t∧t { nx:=fun _ H'=>Q .non H',rt:=Q } (start N vs) H) :
    Ar P w K mg base CX (k+1) f (PySem.W.fnOf name qual params body scope dV kV doc pm an cdv ct) ps sp:=by
  refine ⟨len,fun A outer s H args us vs Q E hr e0 hb r hsp=>?_⟩
  have hl:=len _ _ _ _ hsp
  have KX:K.In s.heap:=e0.mod.kin.keeps fun b o e=>(e0.bs b o e).1
  have lim:s.heap.NoLimit:=e0.mod.nolimit.keeps fun b o e=>(e0.bs b o e).1
  have hkind:∀ y∈ps.zip us,scope.names.lookup y.1=some .local∨(scope.names.lookup y.1=some .cell∧((cellsFrom (s.heap.objs.size+1) scope.names []).lookup y.1).isSome=true):=fun ⟨n,v⟩ hy=>by
    rcases S.par n (List.of_mem_zip hy).1 with q | q
    · exact .inl q
    · exact .inr ⟨q,PySem.W.cellsFrom_some _ _ _ (.inl q)⟩
  refine codeAny_call_function hr.depth (KX _ _ lk) rfl S.co S.gen rfl (PySem.W.codeRec_of KX hcd) (hb _ _ _ _ ?_)
  refine wpAny_newFunctionEnv_cells S.kind hkind fun env he s1 x=>?_
  subst he
  refine ⟨lim.keeps x.toInCall.keep,codeAny_func ?_⟩
  obtain ⟨t,ht,hq⟩:=hbody A outer s H vs Q E (hr.deeper _) hsp
  have I:Inv (Anl CX P w K mg base N qual scope f cdv A outer s H E) [] (start N vs) H s1:=Aq5 S hr.hd e0 hl r x
  refine wpAny_mono (ht [] s1 (start N vs) H _ I hq) (fun fl s' hs=>?_) fun e s' hs=>hs
  have fin:∀ {σ':St} {H':Hp} {v:V} {u:Value},Inv (Anl CX P w K mg base N qual scope f cdv A outer s H E) [] σ' H' s'→RelV v u→Q v H'→CE outer P w H s Q u s' :=
    fun {σ' H' v u} J rv q=>⟨v,H',J.os,J.bare,J.base,J.hok,rv,q⟩
  cases fl with
  | ret u =>
    obtain ⟨v,σ',H',J,rv,q⟩:=hs
    exact fin J rv q
  | next =>
    obtain ⟨σ',H',J,q⟩:=hs
    exact fin (v:=V.non) (u:=Value.none) J rfl q
  | brk =>
    obtain ⟨_,_,_,q⟩:=hs
    exact False.elim q
  | cont =>
    obtain ⟨_,_,_,q⟩:=hs
    exact False.elim q
open PySem PySem.Spec PyProof.Rows
section
variable {X:Cx} {x:Str} {p pos:Pos} {e:Expr} {es:List Expr} {t:TA} {id T:String} {r:List V→Hp→VK→Prop}
def tCB (r:List V→Hp→VK→Prop) (t:TA):TE:=fun σ H Q=>t σ H fun vs H1=>r vs H1 Q
theorem Ao (hc:Nz X (.builtin id) r) (hg:Gl X x) (hm:X.mg x=none) (hv:bootBuiltins x=some (.builtin id)) (ha:PA X (e::es) t) (hn:x ≠ "__name__" := by decide) (hdb:(x == ("__debug__" : Str))=false:=by decide)
    (he:starEach (e::es) X.env=(false,eval e X.env)::starEach es X.env:=by rfl) (hpl:(backTo pos (starEach es X.env)).any (·.1)=false:=by rfl):PE X (.Call (.Name x p) (e::es) [] pos) (tCB r t):=by
  intro pins s σ H Q I h
  refine wpAny_Call_Name_kw (Aaf I hg hm hv ?_ hn hdb)
  exact PyProof.Rows.callWith_builtin1 (thn (ha pos pins s σ H _ I h) fun us s1 ⟨vs,H1,I1,r1,q1⟩=>hc pins s1 σ H1 vs us Q I1 r1 q1) he hpl
theorem FW (hc:Nz X (.type T) r) (hg:Gl X x) (hm:X.mg x=none) (hv:bootBuiltins x=some (.type T)) (ha:PA X (e::es) t) (hn:x ≠ "__name__" := by decide) (hdb:(x == ("__debug__" : Str))=false:=by decide)
    (he:starEach (e::es) X.env=(false,eval e X.env)::starEach es X.env:=by rfl) (hpl:(backTo pos (starEach es X.env)).any (·.1)=false:=by rfl):PE X (.Call (.Name x p) (e::es) [] pos) (tCB r t):=by
  intro pins s σ H Q I h
  refine wpAny_Call_Name_kw (Aaf I hg hm hv ?_ hn hdb)
  exact PyProof.Rows.callWith_type1 (thn (ha pos pins s σ H _ I h) fun us s1 ⟨vs,H1,I1,r1,q1⟩=>hc pins s1 σ H1 vs us Q I1 r1 q1) he hpl
end
end L2
namespace HT
open PySem PyProof.Rows
def lexLt:List Int→List Int→Bool
  | [],[]=>false
  | [],_::_=>true
  | _::_,[]=>false
  | x::xs,y::ys=>if x=y then lexLt xs ys else decide (x < y)
section
open PySem.SeqAt
open PySem.AutoSeq1 (wpAny_loadPart')
open PySem.MeetsSeq PySem.MeetsSeq2 PySem.MeetsSeq3
end
section
variable {prog:Program} {w:World} {A:Around} {E:Value→Shared→Prop} {s:Shared}
def sIx (n d:Nat):Option Int→Nat
  | none=>d
  | some v=>if v < 0 then (v+(n:Int)).toNat else min v.toNat n
theorem Ar6 (n d:Nat):sIx n d none=d:=rfl
theorem AlC (n d k:Nat):sIx n d (some (k:Int))=min k n:=by
  show (if (k:Int) < 0 then ((k:Int)+(n:Int)).toNat else min (k:Int).toNat n)=min k n
  rw [if_neg (by omega),Int.toNat_natCast]
theorem Avn (n d:Nat) (hd:d≤n) (o:Option Int):sIx n d o≤n:=by
  cases o with
  | none=>exact hd
  | some v =>
    show (if v < 0 then (v+(n:Int)).toNat else min v.toNat n)≤n
    by_cases hv:v < 0
    · rw [if_pos hv]; omega
    · rw [if_neg hv]; exact Nat.min_le_right _ _
end
end HT
namespace L2
open PySem PySem.Spec PyProof.Rows
abbrev TO:=St→Hp→(Option Int→Hp→Prop)→Prop
def PO (X:Cx) (e:Option Expr) (t:TO):Prop :=
  ∀ (pins:List (Addr × Obj)) (s:Shared) (σ:St) (H:Hp) (Q:Option Int→Hp→Prop),Inv X pins σ H s→t σ H Q →
    wpAny (model X.prog X.w) X.A (evalPart e X.env) (fun u s'=>∃ o H',Inv X pins σ H' s'∧IsPart u o∧Q o H') X.xe s
def At9:TO:=fun _ H Q=>Q none H
def AwG (t:TE):TO:=fun σ H Q=>t σ H fun x H1=>∃ i,x=.int i∧Q (some i) H1
theorem intsAre_of {ns:List Int}:∀ {us:List Value},Vals (ns.map V.int) us→IntsAre us ns:=by
  induction ns with
  | nil=>intro us r; rw [List.map_nil] at r; cases r; exact .nil
  | cons n ns ih =>
    intro us r
    rw [List.map_cons] at r
    cases r with
    | cons r1 r2 =>
      obtain ⟨t,e⟩:=r1
      subst e
      exact .cons n t (ih r2)
section
variable {X:Cx} {e:Expr} {te:TE} {lo hi:Option Expr} {tl th:TO} {pos p2:Pos}
theorem AtA:PO X none At9:=by
  intro pins s σ H Q I h
  rw [evalPart_none]
  exact wpAny_pure ⟨none,H,I,.none,h⟩
theorem Mj (h:PE X e te):PO X (some e) (AwG te):=by
  intro pins s σ H Q I hw
  rw [evalPart_some]
  refine thn (h pins s σ H _ I hw) fun u s1 ⟨x,H1,I1,r1,q1⟩=>?_
  obtain ⟨i,rfl,q⟩:=q1
  obtain ⟨t,rfl⟩:=r1
  exact ⟨some i,H1,I1,.int i t,q⟩
def SlR (X:Cx) (r:V→Option Int→Option Int→Hp→VK→Prop):Prop :=
  ∀ (pins:List (Addr × Obj)) (s:Shared) (σ:St) (H:Hp) (x:V) (v vl vu:Value) (lo hi:Option Int) (sl:Addr) (Q:VK),Inv X pins σ H s→RelV x v→s.heap.IsSliceOf sl vl vu .none→IsPart vl lo→IsPart vu hi→r x lo hi H Q →
    ∃ T id,typeLookup (.type T) "__getitem__" = pure (some (.builtin id))∧s.TypeIs v T∧wpAny (model X.prog X.w) X.A (getItem v (.ref sl)) (EP X pins σ Q) X.xe s
def tSl (r:V→Option Int→Option Int→Hp→VK→Prop) (te:TE) (tl th:TO):TE:=fun σ H Q=>te σ H fun x H1=>tl σ H1 fun l H2=>th σ H2 fun u H3=>r x l u H3 Q
theorem Xi {r:V→Option Int→Option Int→Hp→VK→Prop} (hr:SlR X r) (he:PE X e te) (hl:PO X lo tl) (hu:PO X hi th):PE X (.Subscript e (.Slice lo hi none p2) pos) (tSl r te tl th):=by
  intro pins s σ H Q I h
  refine Subscript_ (thn (he pins s σ H _ I h) fun v s1 ⟨x,H1,I1,r1,q1⟩=>?_)
  refine wpAny_Slice (thn (hl pins s1 σ H1 _ I1 q1) fun vl s2 ⟨l,H2,I2,pl,q2⟩=>thn (hu pins s2 σ H2 _ I2 q2) fun vu s3 ⟨u,H3,I3,pu,q3⟩=>?_)
  rw [evalPart_none]
  refine wpAny_pure ?_
  have I4:Inv X pins σ H3 { s3 with heap:=s3.heap.push { cls:=.type "slice", data:=.fields #[vl,vu,.none] } }:=I3.kept (t':=s3.toks) fun b ob q=>Heap.get?_push_of_some _ q
  obtain ⟨T,id,hT,ht,hg⟩:=hr pins { s3 with heap:=s3.heap.push { cls:=.type "slice", data:=.fields #[vl,vu,.none] } } σ H3 x v vl vu l u s3.heap.objs.size Q I4 r1 (Heap.IsSliceOf.new ..) pl pu q3
  show wpAny (model X.prog X.w) X.A (subscriptTail e (.Slice lo hi none p2) v (.ref s3.heap.objs.size)) (EP X pins σ Q) X.xe { s3 with heap:=s3.heap.push { cls:=.type "slice", data:=.fields #[vl,vu,.none] } }
  exact tail_any (ops:=[.ref s3.heap.objs.size,v]) ht hT hg (by with_unfolding_all rfl)
def AlD (xs:List V) (lo hi:Option Int):List V:=(xs.drop (HT.sIx xs.length 0 lo)).take (HT.sIx xs.length xs.length hi - HT.sIx xs.length 0 lo)
theorem Ann (xs:List V) (lo hi:Option Int):(AlD xs lo hi).length≤xs.length:=by
  unfold AlD
  rw [List.length_take,List.length_drop]
  omega
def AyS (K:PySem.W.Frag):V→Option Int→Option Int→Hp→VK→Prop:=fun x lo hi H Q=>∃ a xs,x=.ref a∧SqT K H a xs ∧
  ¬ (HT.sIx xs.length 0 lo=0∧HT.sIx xs.length xs.length hi=xs.length)∧∀ p,H p=none→Q (.ref p) (upd H p (.tup (AlD xs lo hi)))
def AyT (K:PySem.W.Frag):R2:=fun x y H Q=>∃ a b ns ms,x=.ref a∧y=.ref b∧SqT K H a (ns.map V.int)∧SqT K H b (ms.map V.int)∧Q (.bl (HT.lexLt ns ms)) H
def Ay4 (K:PySem.W.Frag):R2:=fun x y H Q=>∃ a b xs ys,x=.ref a∧y=.ref b∧SqT K H a xs∧SqT K H b ys∧xs≠[]∧xs.length+ys.length≤sizeLine ∧
  (ys=[]→Q (.ref a) H)∧(ys≠[]→∀ p,H p=none→Q (.ref p) (upd H p (.tup (xs++ys))))
end
open PySem PySem.Spec PyProof.Rows
def ixN (n:Nat) (i:Int):Option Nat:=if 0≤i then (if i < n then some i.toNat else none) else if -(n:Int)≤i then some (i+n).toNat else none
def atI {α:Type} (xs:List α) (i:Int):Option α:=(ixN xs.length i).bind fun j=>xs[j]?
theorem ApG {n:Nat} {i:Int} {j:Nat} (h:ixN n i=some j):seqIndex? i n=some j∧j < n∧-(n:Int)≤i∧i < n:=by
  unfold ixN at h
  by_cases h0:0≤i
  · rw [if_pos h0] at h
    by_cases h1:i < n
    · rw [if_pos h1] at h
      have e:i.toNat=j:=Option.some.inj h
      exact ⟨by rw [seqIndex_of h0 h1,e],by omega,by omega,h1⟩
    · rw [if_neg h1] at h; cases h
  · rw [if_neg h0] at h
    by_cases h1:-(n:Int)≤i
    · rw [if_pos h1] at h
      have e:(i+n).toNat=j:=Option.some.inj h
      exact ⟨by rw [seqIndex_neg (by omega) h1,e],by omega,h1,by omega⟩
    · rw [if_neg h1] at h; cases h
theorem AlE {α:Type} {xs:List α} {i:Int} {v:α} (h:atI xs i=some v):∃ j,seqIndex? i xs.length=some j∧xs[j]?=some v∧j < xs.length∧-(xs.length:Int)≤i∧i < xs.length:=by
  unfold atI at h
  cases e:ixN xs.length i with
  | none=>rw [e] at h; cases h
  | some j =>
    rw [e] at h
    obtain ⟨h1,h2,h3,h4⟩:=ApG e
    exact ⟨j,h1,h,h2,h3,h4⟩
theorem AlF {α:Type} {xs:List α} {j:Nat} {v:α} (h:xs[j]?=some v):atI xs (j:Int)=some v:=by
  have hj:j < xs.length:=(List.getElem?_eq_some_iff.mp h).1
  have e:ixN xs.length (j:Int)=some j:=by
    unfold ixN
    rw [if_pos (by omega),if_pos (by omega)]; simp
  unfold atI; rw [e]; exact h
theorem Ano {α:Type} (xs:List α) (v:α):atI (xs++[v]) (-1)=some v:=by
  have hl:(xs++[v]).length=xs.length+1:=by simp
  have e:ixN (xs++[v]).length (-1)=some xs.length:=by
    unfold ixN
    rw [hl,if_neg (by decide),if_pos (by omega)]
    congr 1
    omega
  unfold atI
  rw [e]
  show (xs++[v])[xs.length]?=some v
  simp
def AtB (b:Expr):Prop:=∀ o i,subscripted b false o i=operate [o,i] (getItem o i)
def IxR (X:Cx) (r:R2):Prop :=
  ∀ (value slice:Expr) (pins:List (Addr × Obj)) (s:Shared) (σ:St) (H:Hp) (x y:V) (v u:Value) (Q:VK),Inv X pins σ H s→RelV x v→RelV y u→r x y H Q →
    subscripted slice false v u=operate [v,u] (getItem v u)→wpAny (model X.prog X.w) X.A (subscriptTail value slice v u) (EP X pins σ Q) X.xe s
def MtR (X:Cx) (id:String) (r:V→List V→Hp→VK→Prop):Prop :=
  ∀ (pins:List (Addr × Obj)) (s:Shared) (σ:St) (H:Hp) (x:V) (xs:List V) (v:Value) (us:List Value) (Q:VK),Inv X pins σ H s→RelV x v→Vals xs us→r x xs H Q →
    wpAny (model X.prog X.w) X.A (call (.builtin id) (v::us)) (EP X pins σ Q) X.xe s
section
variable {X:Cx} {a b:Expr} {ta tb:TE} {pos:Pos}
theorem Bu {r:R2} (hr:IxR X r) (ha:PE X a ta) (hb:PE X b tb) (hs:AtB b):PE X (.Subscript a b pos) (tOp r ta tb):=by
  intro pins s σ H Q I h
  exact Subscript_ (Avc ha hb I h fun v u s2 x y H2 I2 rx ry q=>hr a b pins s2 σ H2 x y v u Q I2 rx ry q (hs _ _))
def Avo (K:PySem.W.Frag):R2:=fun x y H Q=>∃ p xs i v,x=.ref p∧y=.int i∧SqL K H p xs∧atI xs i=some v∧Q v H
def Avp (K:PySem.W.Frag):R2:=fun x y H Q=>∃ p xs i v,x=.ref p∧y=.int i∧SqT K H p xs∧atI xs i=some v∧Q v H
def AwH:R2:=fun x y H Q=>∃ z i c,x=.str z∧y=.int i∧z.length≤sizeLine∧atI z.cps.toList i=some c∧Q (.str ⟨#[c]⟩) H
theorem AtC:IxR X (Avo X.K):=by
  intro value slice pins s σ H x y v u Q I rx ry h hs
  obtain ⟨p,xs,i,z,rfl,rfl,hq,he,q⟩:=h
  cases rx
  obtain ⟨t,rfl⟩:=ry
  obtain ⟨its,r,pl,hz⟩:=I.list hq
  obtain ⟨j,h1,h2,h3,h4,h5⟩:=AlE he
  obtain ⟨w,ew,rw'⟩:=r.get h2
  have hl:=r.length
  have hn:=Adk
  have fin:EP X pins σ Q w s:=⟨z,H,I,rw',q⟩
  by_cases h0:0≤i
  · have hj:i.toNat=j:=by
      rw [seqIndex_of h0 h5] at h1
      exact Option.some.inj h1
    exact item_listR pl.isList h0 (by omega) (by rw [hj]; simpa using ew) fin hs
  · have hj:(i+(its.toArray.size:Int)).toNat=j:=by
      rw [seqIndex_neg (by omega) h4] at h1
      rw [List.size_toArray,← hl]
      exact Option.some.inj h1
    exact subscriptTail_builtinR (x:=w) pl.isList.typeIs slot_list_getitem.lookup
      (wpAny_getItem_list_neg (Q:=fun r s'=>r=w∧EP X pins σ Q r s') pl.isList (by omega) (by rw [List.size_toArray] <;> omega) (by omega) (by rw [hj]; simpa using ew) ⟨rfl,fin⟩) hs
theorem Avq:IxR X (Avp X.K):=by
  intro value slice pins s σ H x y v u Q I rx ry h hs
  obtain ⟨p,xs,i,z,rfl,rfl,hq,he,q⟩:=h
  cases rx
  obtain ⟨t,rfl⟩:=ry
  obtain ⟨its,r,pl,hz⟩:=I.tuple hq
  obtain ⟨j,h1,h2,h3,h4,h5⟩:=AlE he
  obtain ⟨w,ew,rw'⟩:=r.get h2
  have hl:=r.length
  have hn:=Adk
  have fin:EP X pins σ Q w s:=⟨z,H,I,rw',q⟩
  exact subscriptTail_builtinR (x:=w) pl.typeIs slot_tuple_getitem.lookup
    (getItem_tuple (j:=j) (Q:=fun r s'=>r=w∧EP X pins σ Q r s') pl (by omega) (by omega) (by rw [List.size_toArray,← hl]; exact h1) (by simpa using ew) ⟨rfl,fin⟩) hs
theorem AlG:IxR X AwH:=by
  intro value slice pins s σ H x y v u Q I rx ry h hs
  obtain ⟨z,i,c,rfl,rfl,hz,he,q⟩:=h
  obtain ⟨t,rfl⟩:=rx
  obtain ⟨t',rfl⟩:=ry
  obtain ⟨j,h1,h2,h3,h4,h5⟩:=AlE he
  have hl:z.cps.toList.length=z.length:=by simp [Str.length]
  rw [hl] at h1 h4 h5
  have hn:=Adk
  exact tail_any (typeIs_str s z t) slot_str_getitem.lookup (getItem_str (c:=c) (by
    have e1:decide (i < -(2 ^ 63:Int))=false:=decide_eq_false (by omega)
    have e2:decide (i ≥ 2 ^ 63)=false:=decide_eq_false (by omega)
    rw [e1,e2,Bool.or_false]) (by rw [h1]; simpa using h2) ⟨.str ⟨#[c]⟩,H,I.tok _,⟨_,rfl⟩,q⟩) hs
def rIx (K:PySem.W.Frag):R2:=fun x y H Q=>Avo K x y H Q∨Avp K x y H Q∨AwH x y H Q
theorem AoK (its:List Value) (n j:Nat) (u:Value):Obj.mapSeq (·.setIfInBounds j u) { cls:=.type "list", data:=.seq its.toArray n }={ cls:=.type "list", data:=.seq (its.set j u).toArray n }:=by
  simp [Obj.mapSeq]
theorem Inv.lst {pins:List (Addr × Obj)} {σ:St} {H:Hp} {s:Shared} {p:Addr} {xs:List V} (I:Inv X pins σ H s) (h:H p=some (.lst xs)) :
    ∃ (its:List Value) (n:Nat),Vals xs its∧s.heap.get? p=some { cls:=.type "list", data:=.seq its.toArray n }∧xs.length≤sizeLine:=by
  obtain ⟨z,its,n,r,e⟩:=I.hok p _ h
  exact ⟨its,n,r,e,z⟩
theorem Inv.Avr {pins:List (Addr × Obj)} {σ:St} {H:Hp} {s:Shared} {p:Addr} {xs ys:List V} {its its':List Value} {n n':Nat} {f:Obj→Obj} (I:Inv X pins σ H s) (h:H p=some (.lst xs))
    (ho:s.heap.get? p=some { cls:=.type "list", data:=.seq its.toArray n }) (hf:f { cls:=.type "list", data:=.seq its.toArray n }={ cls:=.type "list", data:=.seq its'.toArray n' }) (r:Vals ys its') (hz:ys.length≤sizeLine) (t:Nat) :
    Inv X pins σ (upd H p (.lst ys)) { s with heap:=s.heap.update p f,toks:=t }:=by
  have e:(s.heap.update p f).get? p=some { cls:=.type "list", data:=.seq its'.toArray n' }:=by
    rw [Heap.get?_update_self f ho (by rw [hf] <;> rfl),hf]
  refine I.write (x:=p) (e:=p) (by rw [h]; trivial) (.inl rfl) (fun b u hb q=>(Heap.get?_update_other _ _ (Ne.symm hb)).trans q) ⟨_,e⟩ ?_
  exact ⟨hz,its',n',r,e⟩
def AwI:V→V→V→Hp→(Hp→Prop)→Prop:=fun o i v H Q=>∃ p xs k j,o=.ref p∧i=.int k∧H p=some (.lst xs)∧ixN xs.length k=some j∧Q (upd H p (.lst (xs.set j v)))
theorem set_list:Awz X AwI:=by
  intro pins s σ H o i v ov iv u Q I ro ri rv h
  obtain ⟨p,xs,k,j,rfl,rfl,hp,hj,q⟩:=h
  cases ro
  obtain ⟨t,rfl⟩:=ri
  obtain ⟨its,n,r,ho,hz⟩:=I.lst hp
  obtain ⟨h1,h2,h3,h4⟩:=ApG hj
  have hl:=r.length
  have hn:=Adk
  have I':Inv X pins σ (upd H p (.lst (xs.set j v))) { s with heap:=s.heap.update p (Obj.mapSeq (·.setIfInBounds j u)) } :=
    I.Avr hp ho (AoK its n j u) (r.set rv j) (by rw [List.length_set]; exact hz) s.toks
  by_cases h0:0≤k
  · have hk:k.toNat=j:=by
      rw [seqIndex_of h0 h4] at h1
      exact Option.some.inj h1
    exact PySem.W.ki_setAt ho h0 (by omega) (by rw [List.size_toArray,← hl]; exact h4) (by rw [hk]; exact ⟨_,I',q⟩)
  · have hk:(k+(its.toArray.size:Int)).toNat=j:=by
      rw [seqIndex_neg (by omega) h3] at h1
      rw [List.size_toArray,← hl]
      exact Option.some.inj h1
    exact PySem.W.ki_setBack ho (by omega) (by rw [List.size_toArray,← hl]; exact h3) (by omega) (by rw [hk]; exact ⟨_,I',q⟩)
theorem AlH (lo hi:Option Int) (n:Nat):(sliceBounds lo hi none n).1=((HT.sIx n 0 lo:Nat):Int)∧(sliceBounds lo hi none n).2.1=((HT.sIx n n hi:Nat):Int)∧(sliceBounds lo hi none n).2.2=1:=by
  refine ⟨?_,?_,rfl⟩
  · cases lo with
    | none=>simp [sliceBounds,HT.sIx]
    | some i =>
      simp only [sliceBounds,HT.sIx,Option.getD_none,show (1:Int) > 0 by decide,if_true]
      by_cases h:i < 0
      · simp only [h,if_true] <;> omega
      · simp only [h,if_false] <;> omega
  · cases hi with
    | none=>simp [sliceBounds,HT.sIx]
    | some i =>
      simp only [sliceBounds,HT.sIx,Option.getD_none,show (1:Int) > 0 by decide,if_true]
      by_cases h:i < 0
      · simp only [h,if_true] <;> omega
      · simp only [h,if_false] <;> omega
theorem Ak3 (its:List Value) (lo hi:Option Int):slicePick its.toArray lo hi none=((its.drop (HT.sIx its.length 0 lo)).take (HT.sIx its.length its.length hi - HT.sIx its.length 0 lo)).toArray:=by
  obtain ⟨h1,h2,h3⟩:=AlH lo hi its.toArray.size
  unfold slicePick
  rw [h1,h2,h3]
  simp only [sliceRange_one,pick_run,List.size_toArray] <;> rfl
def AwJ (K:PySem.W.Frag):V→Option Int→Option Int→Hp→VK→Prop:=fun x lo hi H Q=>∃ a xs,x=.ref a∧SqL K H a xs∧∀ p,H p=none→Q (.ref p) (upd H p (.lst (AlD xs lo hi)))
theorem AtD:SlR X (AwJ X.K):=by
  intro pins s σ H x v vl vu lo hi sl Q I rx hs pl pu h
  obtain ⟨a,xs,rfl,hx,q⟩:=h
  cases rx
  obtain ⟨its,r,ht,hz⟩:=I.list hx
  have hlen:=r.length
  refine ⟨"list", _,slot_list_getitem.lookup,ht.isList.typeIs,?_⟩
  refine wpAny_getItem_list_slice ht.isList hs pl pu .none (by simp) ?_ (by rw [List.size_toArray] <;> omega)
  rw [Ak3,← hlen]
  refine ⟨.ref s.heap.objs.size,_,I.laid (t':=s.toks) (o:=.lst (AlD xs lo hi)) (fun b ob q=>Heap.get?_push_of_some _ q) (Nat.le_refl _) ?_,rfl,q _ (I.hok.fresh (Nat.le_refl _))⟩
  exact ⟨Nat.le_trans (Ann xs lo hi) hz,_,0,(r.drop (HT.sIx xs.length 0 lo)).take (HT.sIx xs.length xs.length hi - HT.sIx xs.length 0 lo),Heap.get?_push_size _ rfl⟩
def GQ:V→Bool
  | .non=>true
  | .bl _=>true
  | .int _=>true
  | .str _=>true
  | _=>false
def eqV:V→V→Bool
  | .non,.non=>true
  | .bl a,.bl b=>a == b
  | .bl a,.int b=>(if a then 1 else 0) == b
  | .int a,.bl b=>a == (if b then 1 else 0)
  | .int a,.int b=>a == b
  | .str a,.str b=>a == b
  | _,_=>false
theorem AlI {A:Around} {s:Shared} {y x:V} {u v:Value} (ry:RelV y u) (rx:RelV x v) (fy:GQ y=true) (fx:GQ x=true):SeqAt.EqAt A s u v (eqV y x):=by
  cases y with
  | non =>
    cases ry
    cases x with
    | non=>cases rx; exact SeqAt.EqAt.same _
    | bl b=>cases rx; exact SeqAt.EqAt.none_bool b
    | int b=>obtain ⟨t,rfl⟩:=rx; exact SeqAt.EqAt.none_int b t
    | str b=>obtain ⟨t,rfl⟩:=rx; exact SeqAt.EqAt.none_str b t
    | _=>exact absurd (show false=true from fx) Bool.false_ne_true
  | bl a =>
    cases ry
    cases x with
    | non=>cases rx; exact SeqAt.EqAt.bool_none a
    | bl b=>cases rx; exact SeqAt.EqAt.bool_bool a b
    | int b=>obtain ⟨t,rfl⟩:=rx; exact SeqAt.EqAt.bool_int a b t
    | str b=>obtain ⟨t,rfl⟩:=rx; exact SeqAt.EqAt.bool_str a b t
    | _=>exact absurd (show false=true from fx) Bool.false_ne_true
  | int a =>
    obtain ⟨t',rfl⟩:=ry
    cases x with
    | non=>cases rx; exact SeqAt.EqAt.int_none a t'
    | bl b=>cases rx; exact SeqAt.EqAt.int_bool a t' b
    | int b=>obtain ⟨t,rfl⟩:=rx; exact SeqAt.EqAt.int_int a t' b t
    | str b=>obtain ⟨t,rfl⟩:=rx; exact SeqAt.EqAt.int_str a t' b t
    | _=>exact absurd (show false=true from fx) Bool.false_ne_true
  | str a =>
    obtain ⟨t',rfl⟩:=ry
    cases x with
    | non=>cases rx; exact SeqAt.EqAt.str_none a t'
    | bl b=>cases rx; exact SeqAt.EqAt.str_bool a t' b
    | int b=>obtain ⟨t,rfl⟩:=rx; exact SeqAt.EqAt.str_int a t' b t
    | str b=>obtain ⟨t,rfl⟩:=rx; exact SeqAt.EqAt.str_str a t' b t
    | _=>exact absurd (show false=true from fx) Bool.false_ne_true
  | _=>exact absurd (show false=true from fy) Bool.false_ne_true
def eqU (x:V) (u:Value):Bool:=match u with
  | .none=>eqV .non x
  | .bool b=>eqV (.bl b) x
  | .int i _=>eqV (.int i) x
  | .str z _=>eqV (.str z) x
  | _=>false
theorem Ar7 {x y:V} {u:Value} (r:RelV y u) (f:GQ y=true):eqU x u=eqV y x:=by
  cases y with
  | non=>cases r; rfl
  | bl b=>cases r; rfl
  | int i=>obtain ⟨t,rfl⟩:=r; rfl
  | str z=>obtain ⟨t,rfl⟩:=r; rfl
  | _=>exact absurd (show false=true from f) Bool.false_ne_true
theorem AdV {x:V}:∀ {xs:List V} {us:List Value},Vals xs us→xs.all GQ=true→us.any (eqU x)=xs.any fun y=>eqV y x
  | _,_,.nil,_=>rfl
  | y::xs,u::us,.cons r t,f=>by
    rw [List.all_cons,Bool.and_eq_true] at f
    rw [List.any_cons,List.any_cons,Ar7 r f.1,AdV t f.2]
theorem Aai {A:Around} {s:Shared} {x:V} {v:Value} (rx:RelV x v) (fx:GQ x=true):∀ {xs:List V} {us:List Value},Vals xs us→xs.all GQ=true→∀ u∈us,SeqAt.EqAt A s u v (eqU x u)
  | _,_,.nil,_=>fun u hu=>by cases hu
  | y::xs,u::us,.cons r t,f=>fun u' hu=>by
    rw [List.all_cons,Bool.and_eq_true] at f
    rcases List.mem_cons.mp hu with rfl | hu
    · rw [Ar7 r f.1]; exact AlI r rx f.1 fx
    · exact Aai rx fx t f.2 u' hu
def inV (x:V) (xs:List V):Bool:=xs.any fun y=>eqV y x
def rIn (K:PySem.W.Frag) (neg:Bool):R2:=fun x y H Q=>∃ p xs,y=.ref p∧(SqL K H p xs∨SqT K H p xs)∧GQ x=true∧xs.all GQ=true∧Q (.bl (if neg then !inV x xs else inV x xs)) H
theorem Aq6:OpR X (compareOp .In) (rIn X.K false):=by
  intro pins s σ H x y v u Q I rx ry h
  obtain ⟨p,xs,rfl,hq,fx,fs,q⟩:=h
  cases ry
  rcases hq with hq | hq
  · obtain ⟨its,r,pl,hz⟩:=I.list hq
    refine SeqAt.in_listAt (eqU x) pl.isList (fun w hw=>Aai rx fx r fs w (by simpa using hw)) ⟨.bl _,H,I,rfl,?_⟩
    rw [show its.toArray.any (eqU x)=its.any (eqU x) by simp,AdV r fs]
    exact q
  · obtain ⟨its,r,pl,hz⟩:=I.tuple hq
    refine SeqAt.in_tupleAt (eqU x) pl (fun w hw=>Aai rx fx r fs w (by simpa using hw)) ⟨.bl _,H,I,rfl,?_⟩
    rw [show its.toArray.any (eqU x)=its.any (eqU x) by simp,AdV r fs]
    exact q
theorem AlJ:OpR X (compareOp .NotIn) (rIn X.K true):=by
  intro pins s σ H x y v u Q I rx ry h
  obtain ⟨p,xs,rfl,hq,fx,fs,q⟩:=h
  cases ry
  rcases hq with hq | hq
  · obtain ⟨its,r,pl,hz⟩:=I.list hq
    refine SeqAt.notIn_listAt (eqU x) pl.isList (fun w hw=>Aai rx fx r fs w (by simpa using hw)) ⟨.bl _,H,I,rfl,?_⟩
    rw [show its.toArray.any (eqU x)=its.any (eqU x) by simp,AdV r fs]
    exact q
  · obtain ⟨its,r,pl,hz⟩:=I.tuple hq
    refine SeqAt.notIn_tupleAt (eqU x) pl (fun w hw=>Aai rx fx r fs w (by simpa using hw)) ⟨.bl _,H,I,rfl,?_⟩
    rw [show its.toArray.any (eqU x)=its.any (eqU x) by simp,AdV r fs]
    exact q
theorem AlK:Nz X (.builtin "len") (fun xs H Q=>∃ p ys,xs=[.ref p]∧(SqL X.K H p ys∨SqT X.K H p ys)∧Q (.int ys.length) H):=by
  intro pins s σ H xs us Q I r h
  obtain ⟨p,ys,rfl,hq,q⟩:=h
  obtain ⟨u,rfl,rx⟩:=vals1 r
  cases rx
  have hn:=Adk
  rcases hq with hq | hq
  · obtain ⟨its,r',pl,hz⟩:=I.list hq
    have hlen:=r'.length
    exact Calls.call_len_list pl.isList (by simp only [List.size_toArray] <;> omega) ⟨.int ys.length,H,I.tok _,⟨s.toks+1,by rw [List.size_toArray,hlen]⟩,q⟩
  · obtain ⟨its,r',pl,hz⟩:=I.tuple hq
    have hlen:=r'.length
    exact len_tuple pl (by simp only [List.size_toArray] <;> omega) ⟨.int ys.length,H,I.tok _,⟨s.toks+1,by rw [List.size_toArray,hlen]⟩,q⟩
theorem Gf:Nz X (.builtin "len") (fun xs H Q=>∃ z,xs=[.str z]∧z.length≤sizeLine∧Q (.int z.length) H):=by
  intro pins s σ H xs us Q I r h
  obtain ⟨z,rfl,hz,q⟩:=h
  obtain ⟨u,rfl,t,rfl⟩:=vals1 r
  have hn:=Adk
  exact len_str (by omega) ⟨.int z.length,H,I.tok _,⟨_,rfl⟩,q⟩
theorem AlL:Nz X (.type "list") (fun xs H Q=>∃ p ys,xs=[.ref p]∧(SqL X.K H p ys∨SqT X.K H p ys)∧∀ l,H l=none→Q (.ref l) (upd H l (.lst ys))):=by
  intro pins s σ H xs us Q I r h
  obtain ⟨p,ys,rfl,hq,q⟩:=h
  obtain ⟨u,rfl,rx⟩:=vals1 r
  cases rx
  have fin:∀ (its:List Value),Vals ys its→ys.length≤sizeLine→∀ (h':Heap) (c':Nat),(∀ b o',s.heap.get? b=some o'→h'.get? b=some o') →
      h'.get? s.heap.objs.size=some { cls:=.type "list", dict:=none,data:=.seq its.toArray c',slots:=#[] }→EP X pins σ Q (.ref s.heap.objs.size) { s with heap:=h' }:=fun its r' hz h' c' kp e =>
    ⟨.ref s.heap.objs.size,_,I.laid (t':=s.toks) kp (Nat.le_refl _) (show Kw X.prog X.w _ h' _ (.lst ys) from ⟨hz,its,c',r',e⟩),rfl,q _ (I.hok.fresh (Nat.le_refl _))⟩
  rcases hq with hq | hq
  · obtain ⟨its,r',pl,hz⟩:=I.list hq
    have hlen:=r'.length
    obtain ⟨o,ho,hc,n,hd⟩:=pl.isList
    exact call_list_seq p (.inl rfl) ho hc hd (fun h' c' kp e=>fin its r' hz h' c' kp e) (by simp only [List.size_toArray] <;> omega)
  · obtain ⟨its,r',pl,hz⟩:=I.tuple hq
    have hlen:=r'.length
    obtain ⟨o,ho,hc,n,hd⟩:=pl
    exact call_list_seq p (.inr rfl) ho hc hd (fun h' c' kp e=>fin its r' hz h' c' kp e) (by simp only [List.size_toArray] <;> omega)
def tyV (K:PySem.W.Frag) (T:String) (x:V) (H:Hp):Prop:=match x with
  | .str _=>T = "str"
  | .int _=>T = "int"
  | .ref p=>(T = "list" ∧ ∃ xs,SqL K H p xs)∨(T = "tuple" ∧ ∃ o,K.lookup p=some o∧o.cls=.type "tuple" ∧ o.dict=none) ∨
      (T = "dict" ∧ ((∃ kvs,H p=some (.dK kvs))∨∃ kvs,H p=some (.dT kvs)))∨(T = "set" ∧ ∃ S n,H p=some (.set S n))
  | _=>False
theorem Avs {pins:List (Addr × Obj)} {σ:St} {H:Hp} {s:Shared} {T:String} {x:V} {v:Value} (I:Inv X pins σ H s) (r:RelV x v) (ty:tyV X.K T x H) :
    s.TypeIs v T∧∀ a,v=.ref a→∃ ob,s.heap.get? a=some ob∧ob.dict=none:=by
  cases x with
  | str z =>
    obtain ⟨t,rfl⟩:=r
    cases (show T = "str" from ty)
    exact ⟨typeIs_str s z t,fun _ e=>nomatch e⟩
  | int i =>
    obtain ⟨t,rfl⟩:=r
    cases (show T = "int" from ty)
    exact ⟨typeIs_int s i t,fun _ e=>nomatch e⟩
  | ref p =>
    cases r
    rcases ty with ⟨rfl,xs,hq⟩ | ⟨rfl,o,hk,hc,hd⟩ | ⟨rfl,hk⟩ | ⟨rfl,S,n,hk⟩
    · obtain ⟨its,_,pl,_⟩:=I.list hq
      refine ⟨pl.isList.typeIs,fun a e=>?_⟩
      cases e
      obtain ⟨o,n,e,c,hd,_⟩:=pl
      exact ⟨o,e,hd⟩
    · refine ⟨⟨o,I.kIn p o hk,hc⟩,fun a e=>?_⟩
      cases e
      exact ⟨o,I.kIn _ o hk,hd⟩
    · have z:∃ o,s.heap.get? p=some o∧o.ExactDict:=by
        rcases hk with ⟨kvs,hk⟩ | ⟨kvs,hk⟩
        · obtain ⟨_,_,_,_,o,_,_,e,ex,_⟩:=I.hok p _ hk
          exact ⟨o,e,ex⟩
        · obtain ⟨_,_,_,_,o,_,_,e,ex,_⟩:=I.hok p _ hk
          exact ⟨o,e,ex⟩
      obtain ⟨o,e,ex⟩:=z
      refine ⟨⟨o,e,ex.1⟩,fun a e2=>?_⟩
      cases e2
      exact ⟨o,e,ex.2.1⟩
    · obtain ⟨o,_,_,_,e,ex,_⟩:=I.hok p _ hk
      refine ⟨⟨o,e,ex.1⟩,fun a e2=>?_⟩
      cases e2
      exact ⟨o,e,ex.2.1⟩
  | _=>exact False.elim ty
def AyU (K:PySem.W.Frag) (T:String) (r:V→List V→Hp→VK→Prop) (to:TE):TE:=fun σ H Q=>to σ H fun x H1=>tyV K T x H1∧r x [] H1 Q
def tBM (K:PySem.W.Frag) (T:String) (r:V→List V→Hp→VK→Prop) (to:TE) (t:TA):TE:=fun σ H Q=>to σ H fun x H1=>tyV K T x H1∧t σ H1 fun xs H2=>r x xs H2 Q
variable {o e:Expr} {es:List Expr} {to:TE} {t:TA} {name:Str} {apos cpos:Pos} {T id:String} {r:V→List V→Hp→VK→Prop}
theorem AwK (pa:PlainAttrs T) (slot:Slot T name id) (hty:typeOf (.builtin id)=pure (.type "method_descriptor")) (hm:MtR X id r) (ho:PE X o to) (ha:PA X (e::es) t)
    (hbase:attributeBase o name X.env (eval o X.env)=eval o X.env:=by rfl)
    (hfew:((backTo cpos (starEach (e::es) X.env)).all (fun x=>!x.1) && (backToKw cpos (keywordEach [] X.env)).all (fun x=>x.1.isSome)
      && decide ((e::es).length+([]:List Keyword).length+(if ([]:List Keyword).isEmpty then 0 else 1) < 30))=true:=by rfl)
    (hline:(apos.endLine == cpos.line)=true:=by rfl) (hs:starEach (e::es) X.env=(false,eval e X.env)::starEach es X.env:=by rfl) (hplain:(backTo cpos (starEach es X.env)).any (·.1)=false:=by rfl) :
    PE X (.Call (.Attribute o name apos) (e::es) [] cpos) (tBM X.K T r to t):=by
  intro pins s σ H Q I h
  refine wpAny_Call_method_late hbase hfew hline rfl (thn (ho pins s σ H _ I h) fun v s1 ⟨x,H1,I1,r1,ty,q1⟩=>?_)
  obtain ⟨h1,h2⟩:=Avs I1 r1 ty
  refine ⟨T,id,pa,slot,hty,h1,h2,?_⟩
  have hA:=ha cpos pins s1 σ H1 _ I1 q1
  rw [hs] at hA ⊢
  refine Calls.callWith_builtin (by show (false || (backTo cpos (starEach es X.env)).any (·.1))=false; rw [hplain] <;> rfl) (Calls.evalArgs_plain ?_)
  exact thn hA fun us s2 ⟨vs,H2,I2,r2,q2⟩=>hm pins s2 σ H2 x vs v us Q I2 r1 r2 q2
end
open PySem PySem.Spec PyProof.Rows
def MtM (X:Cx) (id:String) (r:V→List V→Hp→VK→Prop):Prop :=
  ∀ (pins:List (Addr × Obj)) (s:Shared) (σ:St) (H:Hp) (x:V) (xs:List V) (v:Value) (us:List Value) (Q:VK),Inv X pins σ H s→RelV x v→Vals xs us→r x xs H Q →
    wpAny (model X.prog X.w) X.A (call (.builtin id) (v::us)) (EP X pins σ Q) X.xe s
theorem Vals.one:∀ {x:V} {us:List Value},Vals [x] us→∃ u,us=[u]∧RelV x u
  | _,_,.cons r .nil=>⟨_,rfl,r⟩
theorem Vals.two:∀ {x y:V} {us:List Value},Vals [x,y] us→∃ u v,us=[u,v]∧RelV x u∧RelV y v
  | _,_,_,.cons r (.cons q .nil)=>⟨_,_,rfl,r,q⟩
theorem Vals.rep {xs:List V} {us:List Value} (h:Vals xs us):∀ k:Nat,Vals (List.replicate k xs).flatten (List.replicate k us).flatten
  | 0=>.nil
  | k+1=>by
    rw [List.replicate_succ,List.replicate_succ,List.flatten_cons,List.flatten_cons]
    exact Vals.append h (Vals.rep h k)
theorem foldl_rep (its:List Value):∀ (k:Nat) (acc:List Value),
    List.foldl (fun x1 x2=>x1++x2) acc.toArray (List.replicate k its.toArray)=(acc++(List.replicate k its).flatten).toArray
  | 0,acc=>by simp
  | k+1,acc=>by
    have e:acc.toArray++its.toArray=(acc++its).toArray:=by simp
    have e2:(acc++its)++(List.replicate k its).flatten=acc++(List.replicate (k+1) its).flatten:=by
      rw [List.replicate_succ,List.flatten_cons,List.append_assoc]
    rw [← e2,← foldl_rep its k (acc++its),← e,List.replicate_succ,List.foldl_cons]
section
variable {X:Cx} {pins:List (Addr × Obj)} {σ:St} {H:Hp} {s:Shared} {l b:Addr} {xs ys zs:List V}
theorem Inv.AwL {its its':List Value} {n:Nat} {f:Array Value→Array Value} {t':Nat} (I:Inv X pins σ H s) (hH:H l=some (.lst xs))
    (e:s.heap.get? l=some { cls:=.type "list", data:=.seq its.toArray n }) (hf:f its.toArray=its'.toArray) (hv:Vals ys its') (hz:ys.length≤sizeLine) :
    Inv X pins σ (upd H l (.lst ys)) { s with heap:=s.heap.update l (Obj.mapSeq f),toks:=t' }:=by
  have q:=PySem.IsL.update e f
  rw [hf] at q
  refine I.write (x:=l) (e:=l) (by rw [hH]; exact trivial) (.inl rfl) (fun b' u hb hu=>(Heap.get?_update_other s.heap (Obj.mapSeq f) (Ne.symm hb)).trans hu) ⟨_,q⟩ ?_
  exact ⟨hz,its',_,hv,q⟩
theorem Inv.AxP {its:List Value} {t':Nat} (I:Inv X pins σ H s) (hv:Vals ys its) (hz:ys.length≤sizeLine) :
    Inv X pins σ (upd H s.heap.objs.size (.lst ys)) { s with heap:=s.heap.push { cls:=.type "list", data:=.seq its.toArray },toks:=t' } :=
  I.laid (fun _ _ q=>Heap.get?_push_of_some _ q) (Nat.le_refl _) ⟨hz,its,0,hv,Heap.get?_push_size _ rfl⟩
theorem Inv.fresh (I:Inv X pins σ H s):H s.heap.objs.size=none:=I.hok.fresh (Nat.le_refl _)
theorem Inv.Aq7 (I:Inv X pins σ H s) (hH:H l=some (.lst xs)):xs.length≤sizeLine∧∃ (its:List Value) (n:Nat),Vals xs its∧xs.length=its.length∧s.heap.get? l=some { cls:=.type "list", data:=.seq its.toArray n }:=by
  obtain ⟨z,its,n,r,e⟩:=I.hok l _ hH
  exact ⟨z,its,n,r,r.length,e⟩
theorem Anp {n:Nat} (h:n≤sizeLine):Builtin.List.listTooLong n=false:=by
  unfold Builtin.List.listTooLong
  exact decide_eq_false (by omega)
end
section
variable {X:Cx}
def AtE:V→List V→Hp→VK→Prop:=fun x vs H Q=>∃ l xs y,x=.ref l∧vs=[y]∧H l=some (.lst xs)∧xs.length < sizeLine∧Q .non (upd H l (.lst (xs++[y])))
theorem LK:MtM X "list.append" AtE:=by
  intro pins s σ H x vs v us Q I rx rv h
  obtain ⟨l,xs,y,rfl,rfl,hH,hz,q⟩:=h
  cases rx
  obtain ⟨u,rfl,ru⟩:=rv.one
  obtain ⟨z,its,n,r,hl,e⟩:=I.Aq7 hH
  refine call_meets F.slot_list_append ⟨_,e,rfl⟩ F.entry_list_append (F.args_list_append_2 _ _) (PySem.list_append l its.toArray n u (by rw [List.size_toArray]; omega)) ⟨e,?_⟩
  refine ⟨.non,_,I.AwL (its':=its++[u]) hH e (by simp) (r.append (.cons ru .nil)) ?_,rfl,q⟩
  rw [List.length_append,List.length_singleton]
  omega
def AtF:V→List V→Hp→VK→Prop:=fun x vs H Q=>∃ l b xs zs,x=.ref l∧vs=[.ref b]∧H l=some (.lst xs)∧H b=some (.lst zs)∧xs.length+zs.length≤sizeLine∧Q .non (upd H l (.lst (xs++zs)))
theorem Alj:MtM X "list.extend" AtF:=by
  intro pins s σ H x vs v us Q I rx rv h
  obtain ⟨l,b,xs,zs,rfl,rfl,hH,hB,hz,q⟩:=h
  cases rx
  obtain ⟨u,rfl,ru⟩:=rv.one
  cases ru
  obtain ⟨z,its,n,r,hl,e⟩:=I.Aq7 hH
  obtain ⟨z2,its2,n2,r2,hl2,e2⟩:=I.Aq7 hB
  have hsz:its.toArray.size+its2.toArray.size≤sizeLine:=by rw [List.size_toArray,List.size_toArray]; omega
  have Ar8:¬ (!its.toArray.isEmpty && Builtin.List.listTooLong (its.toArray.size+its2.toArray.size))=true:=by
    rw [Anp hsz,Bool.and_false]
    exact Bool.false_ne_true
  refine call_meets F.slot_list_extend ⟨_,e,rfl⟩ F.entry_list_extend (F.args_list_extend_2 _ _)
    (AutoSeq1.list_extend_list_list_0 l its.toArray n b its2.toArray n2 Ar8 (by rw [List.size_toArray]; omega) (by omega)) ⟨e,e2,?_⟩
  refine ⟨.non,_,I.AwL (its':=its++its2) hH e (by simp) (r.append r2) ?_,rfl,q⟩
  rw [List.length_append]
  omega
def AyV:V→List V→Hp→VK→Prop:=fun x vs H Q=>∃ l xs y,x=.ref l∧vs=[]∧H l=some (.lst xs)∧xs[xs.length - 1]?=some y∧Q y (upd H l (.lst xs.dropLast))
def AxQ:V→List V→Hp→VK→Prop:=fun x vs H Q=>∃ l xs i k y,x=.ref l∧vs=[.int i]∧H l=some (.lst xs)∧-(2 ^ 63)≤i∧i < 2 ^ 63∧seqIndex? i xs.length=some k∧xs[k]?=some y∧Q y (upd H l (.lst (xs.eraseIdx k)))
def AwM:V→List V→Hp→VK→Prop:=fun x vs H Q=>∃ l xs,x=.ref l∧vs=[]∧H l=some (.lst xs)∧Q .non (upd H l (.lst xs.reverse))
def AxR:V→List V→Hp→VK→Prop:=fun x vs H Q=>∃ l xs,x=.ref l∧vs=[]∧H l=some (.lst xs)∧Q .non (upd H l (.lst []))
def AyW:R2:=fun x y H Q=>∃ l b xs zs,x=.ref l∧y=.ref b∧H l=some (.lst xs)∧H b=some (.lst zs)∧xs.length+zs.length≤sizeLine∧∀ p,H p=none→Q (.ref p) (upd H p (.lst (xs++zs)))
def AxS:R2:=fun x y H Q=>∃ l k xs,x=.ref l∧y=.int k∧H l=some (.lst xs)∧-(2 ^ 63)≤k∧k < 2 ^ 63∧xs.length * k.toNat≤sizeLine ∧
  ∀ p,H p=none→Q (.ref p) (upd H p (.lst (List.replicate k.toNat xs).flatten))
theorem len_rep {α:Type} (xs:List α) (k:Nat):(List.replicate k xs).flatten.length=k * xs.length:=by
  induction k with
  | zero=>simp
  | succ k ih=>rw [List.replicate_succ,List.flatten_cons,List.length_append,ih,Nat.succ_mul,Nat.add_comm]
theorem Ar9:OpR X (binaryOp .Mult) AxS:=by
  intro pins s σ H x y v u Q I rx ry h
  obtain ⟨l,k,xs,rfl,rfl,hH,h1,h2,hz,q⟩:=h
  cases rx
  obtain ⟨t,rfl⟩:=ry
  obtain ⟨z,its,n,r,hl,e⟩:=I.Aq7 hH
  have hlen:its.toArray.size * k.toNat≤sizeLine:=by rw [List.size_toArray,← hl]; exact hz
  have AxT:¬ its.toArray.size * k.toNat > (2 ^ 63 - 1) / 8:=by
    have:(sizeLine:Nat)≤(2 ^ 63 - 1) / 8:=by decide
    omega
  have hfit:¬ (!Builtin.List.listFitsIndex k)=true:=by
    rw [fitsIndex_both h1 h2]
    exact Bool.false_ne_true
  have Ar8:¬ Builtin.List.listTooLong (its.toArray.size * k.toNat)=true:=by
    rw [Anp hlen]
    exact Bool.false_ne_true
  have hnew:List.foldl (fun x1 x2=>x1++x2) #[] (List.replicate (if its.toArray.isEmpty=true then 0 else k.toNat) its.toArray)=(List.replicate k.toNat its).flatten.toArray:=by
    have f0:∀ m:Nat,List.foldl (fun x1 x2=>x1++x2) #[] (List.replicate m its.toArray)=(List.replicate m its).flatten.toArray:=fun m=>by
      have:=foldl_rep its m []
      rw [List.nil_append] at this
      exact this
    rw [f0]
    cases its with
    | nil=>simp
    | cons a r'=>rw [if_neg (by simp)]
  refine wpAny_binaryOp_repeat_ref (T := "list") (U := "int") (by decide) ⟨_,e,rfl⟩ (fun s'=>typeIs_int s' k t) noFill_list_mul F.fills_int_mul F.slot_int_rmul repeat_list F.slot_int_index.lookup
    (call_meets F.slot_int_rmul (typeIs_int s k t) F.entry_int_rmul (F.args_int_rmul_2 _ _) (int___rmul___int_list k t l its.toArray n)
      ⟨e,rfl,⟨_,e,rfl⟩,call_meets F.slot_list_mul ⟨_,e,rfl⟩ F.entry_list_mul (F.args_list_mul_2 _ _) (AutoListH.list___mul___list_int_3 l its.toArray n k t hfit AxT Ar8) ⟨e,?_⟩⟩)
  rw [hnew]
  exact ⟨.ref _,_,I.AxP (t':=s.toks) (r.rep k.toNat) (by rw [len_rep,Nat.mul_comm]; exact hz),rfl,q _ I.fresh⟩
end
section
variable {prog:Program} {w:World} {A:Around} {E:Value→Shared→Prop} {s:Shared}
end
section
variable {X:Cx}
end
end L2
namespace Att
open PySem PySem.W PySem.Calls PyProof.Rows
theorem Ah5 {P:Params} {h:Heap}:∀ (ns:List Int) (vs:List Value),WellAll P h vs (ns.map WData.int)→IntsAre vs ns:=by
  intro ns
  induction ns with
  | nil =>
    intro vs w
    rw [List.map_nil] at w
    cases w
    exact .nil
  | cons n ns ih =>
    intro vs w
    rw [List.map_cons] at w
    cases w with
    | cons a b =>
      cases a
      exact .cons _ _ (ih _ b)
theorem Aq8 {l:OpenLaw} {n:Nat} (hn:l.most=some n) {P:Params} {h:Heap} {args:List WData} {vals:List Value}
    (hpre:l.row.toRowW.claim.pre args=true) (hwl:WellAll P h vals args) :
    ∃ a vs ns,vals=[Value.ref a]∧args=[WData.list (ns.map WData.int)]∧h.get? a=some { cls:=.type "list", data:=.seq vs.toArray }∧IntsAre vs ns∧ns.length≤n:=by
  have hsh:WShape.hasAll [] args [.list .int]=true:=(pre_splitW hpre).1
  have hc:l.pre.holds [] { args:=args }=true:=(pre_splitW hpre).2
  obtain ⟨d,r,rfl,h1,h2⟩:=hasAllW_cons hsh
  obtain rfl:=hasAllW_nil h2
  obtain ⟨xs,rfl,h3⟩:=hasW_list h1
  obtain ⟨ns,rfl⟩:=items_int h3
  have hlen:ns.length≤n:=by
    unfold OpenLaw.pre at hc
    have h4:(WTm.not (.lt (.lit (.int (n:Int))) (.len (.arg 0)))).holds [] { args:=[.list (ns.map .int)] }=true:=by
      have h4:=(holds_andW hc).1
      rw [hn] at h4
      exact h4
    have h5:=condW_of h4 (w_not (w_lt w_lit (w_len_list (w_arg rfl))))
    rw [List.length_map] at h5
    refine Nat.le_of_not_lt fun q=>?_
    have q':(n:Int) < ((ns.length:Nat):Int):=by omega
    first
      | (rw [decide_eq_true q'] at h5; exact absurd h5 (by decide))
      | (simp at h5; omega)
  cases hwl with
  | cons w1 w2 =>
    cases w2
    cases w1 with
    | list ho hall=>exact ⟨_,_,ns,rfl,rfl,ho,Ah5 ns _ hall,hlen⟩
theorem Aq9 (l:OpenLaw) (args:List WData):l.row.toRowW.claim.post args (.bool true) args=true :=
  postW_of (r:=l.row.toRowW) (X:=(true == true))
    (show WShape.has [] (.bool true) .bool=true by first | rfl | decide | simp [WShape.has,WShape.arms,WShape.armsAll])
    (show (WTm.eq .res (.lit (.bool true))).value [] { args:=args,res:=some (.bool true),after:=args }=some (.bool (true == true)) from w_eq_bool (w_res rfl) w_lit) rfl
theorem Anq {l:OpenLaw} {n:Nat} {q:Program} {loose:List Str} {XP:(Str→Option Value)→Heap→Prop} {YP:World→Heap→Prop} {d:DefRec}
    (hn:l.most=some n) (hdf:d.params.defaults=[])
    (call:∀ (w:World) (s₀ s₁:Shared) (mg mb:Str→Option Value) (fa:Addr) (o:Obj) (pm cd doc:Value) (a:Addr) (vs:List Value) (ns:List Int),
      Ground q loose [] XP w s₀ mg mb s₁.heap→YP w s₁.heap →
      s₁.heap.get? fa=some o→o.data=.func (docDef d.name d.params d.body d.scope pm cd doc)→s₁.heap.CodeRec cd d.name→mg d.name=some (.ref fa) →
      s₁.heap.get? a=some { cls:=.type "list", data:=.seq vs.toArray }→IntsAre vs ns→ns.length≤n→s₁.gens=#[] →
      codeAny (model l.prog w) callerA (.call (.ref fa) ⟨[.ref a],[]⟩) (fun r s'=>r=.ok (.ret (.bool true))∧OldK s₁.heap s'.heap∧s'.os=s₁.os∧AllBare s'.gens) s₁) :
    WalkO q loose XP YP l.row.toRowW d [] (fun f vs=>PySem.call f vs):=by
  intro w s₀ s₁ mg mb G Y fa o pm cd doc dV kV ho hd hcd hD hmg hg args vals as hpre hlay hrd hwl hlo
  obtain rfl:dV=.none:=Dflts.none hD hdf
  obtain rfl:kV=.none:=Dflts.noKw hD
  obtain ⟨a,vs,ns,rfl,rfl,hobj,hints,hlen⟩:=Aq8 hn hpre hwl
  refine enter_call (codeAny_mono (call w s₀ s₁ mg mb fa o pm cd doc a vs ns G Y ho (fd_plain hd) hcd hmg hobj hints hlen hg) fun r s' hq=>?_)
  obtain ⟨rfl,h2,h3,h4⟩:=hq
  exact ⟨.inl ⟨.bool true,.bool true,[],rfl,fun _=>rfl,.bool true,Aq9 l _,fun _=>⟨List.Pairwise.nil,fun _ hm=>(nomatch hm)⟩⟩,h2,h3,h4⟩
section
variable {prog:Program} {w:World} {A:Around} {E:Value→Shared→Prop} {s:Shared} {K:Frag}
def AxU (h:Heap):Heap:={ h with objs:=#[] }
def ledger (h:Heap) (L d:Addr):List (Addr × Obj):=(List.range h.objs.size).filterMap fun a=>if a=L∨a=d then none else (h.get? a).map fun o=>(a,o)
end
end Att
namespace L2
open PySem PySem.Spec PyProof.Rows
theorem Agd:∀ {vs:List Value} {ns:List Int},IntsAre vs ns→Vals (ns.map V.int) vs
  | _,_,.nil=>.nil
  | _,_,.cons n t h=>.cons ⟨t,rfl⟩ (Agd h)
def Only (H:Hp):Prop:=∀ b,H b=none∨∃ o xs,H b=some (.frz o (.lst xs))
theorem ArA {P:Program} {w:World} {K:PySem.W.Frag} {mg mb:Str→Option Value} {CX:CXT} {k:Nat} {fa a:Addr} {fd:FuncData} {x:Str} {sp:Sp} {s₁:Shared} {vs:List Value} {ns:List Int}
    (KX:K.In s₁.heap) (hns:s₁.heap.Ns mainGlobals mg) (hb:s₁.heap.Ns builtinsNs mb) (hbb:∀ x:Str,x ≠ "__name__" → mb x=bootBuiltins x) (hlim:s₁.heap.NoLimit) (hg:s₁.gens=#[])
    (ha:s₁.heap.get? a=some { cls:=.type "list", data:=.seq vs.toArray }) (hi:IntsAre vs ns) (hl:ns.length≤sizeLine) (hr:Mh k callerA)
    (F:∀ base:Heap,K.In base→base.Ns mainGlobals mg→Ar P w K mg base CX k fa fd [x] sp) (hbind:∀ (s:Shared) (u:Value),BindsTo s fd ⟨[u],[]⟩ [(x,u)])
    (hsp:∀ H:Hp,Only H→SqL K H a (ns.map V.int)→sp [.ref a] H (fun v _=>v=.bl true) fun _ _ _=>False)
    (hCX:∀ H e s',CX [] H s₁ (fun _ _ _=>False) e s'→False) :
    codeAny (model P w) callerA (.call (.ref fa) ⟨[.ref a],[]⟩) (fun r s'=>r=.ok (.ret (.bool true))∧OldK s₁.heap s'.heap∧s'.os=s₁.os∧AllBare s'.gens) s₁:=by
  have rv:=Agd hi
  have lenV:=hi.length
  have core:∀ H:Hp,Only H→SqL K H a (ns.map V.int)→HOk P w H s₁.heap→(∀ b,H b≠none→b=a)→(H a≠none→K.lookup a=none) →
      codeAny (model P w) callerA (.call (.ref fa) ⟨[.ref a],[]⟩) (fun r s'=>r=.ok (.ret (.bool true))∧OldK s₁.heap s'.heap∧s'.os=s₁.os∧AllBare s'.gens) s₁:=by
    intro H hO hS hok hA hK
    have ApH:∀ {b:Addr} {o:Obj},s₁.heap.get? b=some o→H b=none→(Al9 s₁.heap H).get? b=some o:=fun e n=>Arv e n
    have noA:∀ {b:Addr} {o:Obj} {es:Array DictEntry} {ep:Nat},s₁.heap.get? b=some o→o.data=.dict es ep→H b=none:=fun {b o es ep} e d=>by
      cases q:H b with
      | none=>rfl
      | some u =>
        have e':b=a:=hA b (by rw [q]; simp)
        subst e'
        rw [ha] at e; cases e
        have d':Data.seq vs.toArray _=Data.dict es ep:=d
        cases d'
    have nsK:∀ {b:Addr} {m:Str→Option Value},s₁.heap.Ns b m→(Al9 s₁.heap H).Ns b m:=fun {b m} ⟨o,es,ep,e,d,r⟩=>⟨o,es,ep,ApH e (noA e d),d,r⟩
    have hKb:K.In (Al9 s₁.heap H):=fun b o e=>ApH (KX b o e) (by
      cases q:H b with
      | none=>rfl
      | some u =>
        have e':b=a:=hA b (by rw [q]; simp)
        subst e'
        rw [hK (by rw [q]; simp)] at e; cases e)
    have hM:Mod K mg (Al9 s₁.heap H):=⟨hKb,nsK hns,⟨mb,nsK hb,hbb⟩,let ⟨mc,h1,h2⟩:=hlim; ⟨mc,nsK h1,h2⟩⟩
    have e0:AoJ P w K mg (Al9 s₁.heap H) callerA [] s₁ H:=⟨rfl,hM,fun b o e=>Atz e,Nat.le_of_eq (Aqw _ _),trivial,fun b hb=>absurd (show b∈([]:List Addr) from hb) (by simp),hok,.of_eq hg⟩
    refine codeAny_mono ((F _ hKb (nsK hns)).run callerA [] s₁ H ⟨[.ref a],[]⟩ [.ref a] [.ref a] _ _ hr e0 (hbind s₁ (.ref a)) (.cons rfl .nil) (hsp H hO hS)) fun r s' h=>?_
    cases r with
    | error e=>exact (hCX H e s' h).elim
    | ok fl =>
      cases fl with
      | next=>exact False.elim h
      | brk=>exact False.elim h
      | cont=>exact False.elim h
      | ret u =>
        obtain ⟨v,H',os,bare,un,hok',r',q⟩:=h
        have q':v=.bl true:=q
        subst q'
        obtain rfl:u=Value.bool true:=r'
        refine ⟨rfl,OldK.of_keep fun b o e=>?_,os,bare⟩
        cases q:H b with
        | none=>exact un.keep b o e q (by intro z; exact absurd (show b∈([]:List Addr) from z) (by simp)) (by simp)
        | some u =>
          rcases hO b with z | ⟨ob,xs,z⟩
          · rw [q] at z; cases z
          · have z2:=un.Adg b ob _ z
            obtain ⟨e1,_⟩:=hok b _ z
            obtain ⟨e2,_⟩:=hok' b _ z2
            rw [e] at e1; cases e1
            exact e2
  cases hk:K.lookup a with
  | some o =>
    have e:=KX a o hk
    rw [ha] at e
    cases e
    refine core (fun _=>none) (fun _=>.inl rfl) (.inr ⟨_,vs.toArray,_,hk,rfl,rfl,rfl,by rw [List.size_toArray,lenV]; exact hl,by simpa using rv⟩) (fun b u z=>by have z':(none:Option HO)=some u:=z; cases z') (fun b z=>absurd rfl z) fun z=>absurd rfl z
  | none =>
    refine core (fun b=>if b=a then some (.frz { cls:=.type "list", data:=.seq vs.toArray } (.lst (ns.map V.int))) else none) (fun b=>?_) (.inl (.inr ⟨{ cls:=.type "list", data:=.seq vs.toArray },if_pos rfl⟩)) (fun b u z=>?_) (fun b z=>?_) fun _=>hk
    · by_cases hb:b=a
      · exact .inr ⟨_,_,if_pos hb⟩
      · exact .inl (if_neg hb)
    · by_cases hb:b=a
      · have z':=(if_pos hb).symm.trans z
        cases z'
        subst hb
        exact ⟨ha,by rw [List.length_map]; exact hl,vs,_,rv,ha⟩
      · have z':=(if_neg hb).symm.trans z
        cases z'
    · by_cases hb:b=a
      · exact hb
      · exact absurd (if_neg hb) z
open PySem PySem.Spec PyProof.Rows
abbrev KOf {K:PySem.W.Frag} {h:Heap} (_:K.In h):PySem.W.Frag:=K
theorem AtG {l:PySem.W.OpenLaw} {n k:Nat} {q:Program} {loose:List Str} {XP:(Str→Option Value)→Heap→Prop} {YP:World→Heap→Prop} {d:DefRec} {K:Params→PySem.W.Frag} {CX:World→CXT} {sp:World→Sp} {x:Str}
    (hn:l.most=some n) (hn2:n≤sizeLine) (hdf:d.params.defaults=[]) (hr:Mh k callerA)
    (hY:∀ (w:World) (h:Heap),YP w h→(K w.params).In h)
    (F:∀ (w:World) (mg:Str→Option Value) (fa:Addr) (h:Heap),(K w.params).In h→h.Ns mainGlobals mg→mg d.name=some (.ref fa) →
      ∃ fd:FuncData,(∀ (s:Shared) (u:Value),BindsTo s fd ⟨[u],[]⟩ [(x,u)]) ∧
        ∀ base:Heap,(K w.params).In base→base.Ns mainGlobals mg→Ar l.prog w (K w.params) mg base (CX w) k fa fd [x] (sp w))
    (hsp:∀ (w:World) (H:Hp) (a:Addr) (ns:List Int),ns.length≤n→Only H→SqL (K w.params) H a (ns.map V.int)→sp w [.ref a] H (fun v _=>v=.bl true) fun _ _ _=>False)
    (hCX:∀ (w:World) (H:Hp) (s:Shared) (e:Value) (s':Shared),CX w [] H s (fun _ _ _=>False) e s'→False) :
    PySem.W.WalkO q loose XP YP l.row.toRowW d [] (fun f vs=>PySem.call f vs):=by
  refine Att.Anq hn hdf fun w s₀ s₁ mg mb fa o pm cd doc a vs ns G Y ho hd hcd hmg hobj hints hlen hg=>?_
  have KX:=hY w _ Y
  obtain ⟨fd,hb,hF⟩:=F w mg fa _ KX G.T.g hmg
  exact ArA KX G.T.g G.T.b G.T.builtins G.T.nolimit hg hobj hints (Nat.le_trans hlen hn2) hr hF hb (fun H hO hS=>hsp w H a ns hlen hO hS) fun H e s'=>hCX w H s₁ e s'
theorem ArB {l:PySem.W.OpenLaw} {n k:Nat} {q:Program} {loose:List Str} {XP:(Str→Option Value)→Heap→Prop} {YP:World→Heap→Prop} {d:DefRec} {K:Params→PySem.W.Frag} {CX:CXT} {sp:PySem.W.Frag→Sp} {x:Str}
    (hn:l.most=some n) (hn2:n≤sizeLine) (hdf:d.params.defaults=[]) (hr:Mh k callerA)
    (hY:∀ (w:World) (h:Heap),YP w h→(K w.params).In h)
    (F:∀ (w:World) (mg:Str→Option Value) (fa:Addr) (h:Heap),(K w.params).In h→h.Ns mainGlobals mg→mg d.name=some (.ref fa) →
      ∃ fd:FuncData,(∀ (s:Shared) (u:Value),BindsTo s fd ⟨[u],[]⟩ [(x,u)]) ∧
        ∀ base:Heap,(K w.params).In base→base.Ns mainGlobals mg→Ar l.prog w (K w.params) mg base CX k fa fd [x] (sp (K w.params)))
    (hsp:∀ (K:PySem.W.Frag) (H:Hp) (a:Addr) (ns:List Int),ns.length≤n→Only H→SqL K H a (ns.map V.int)→sp K [.ref a] H (fun v _=>v=.bl true) fun _ _ _=>False)
    (hCX:∀ (H:Hp) (s:Shared) (e:Value) (s':Shared),CX [] H s (fun _ _ _=>False) e s'→False) :
    PySem.W.WalkO q loose XP YP l.row.toRowW d [] (fun f vs=>PySem.call f vs) :=
  AtG (K:=K) (CX:=fun _=>CX) (sp:=fun w=>sp (K w.params)) hn hn2 hdf hr hY F (fun w H a ns h1 h2 h3=>hsp (K w.params) H a ns h1 h2 h3) fun _ H s e s'=>hCX H s e s'
open PySem PySem.Spec PyProof.Rows
def inClass (s:Stmt) (j:Nat):Stmt:=match s with
  | .ClassDef _ _ _ body _ _ _ _ _ _ _=>body.getD j (.Pass ⟨0,0,0,0⟩)
  | _=>.Pass ⟨0,0,0,0⟩
def Ag (s:Stmt):Arguments:=match s with
  | .FunctionDef _ a _ _ _ _ _ _ _ _=>a
  | _=>{ posonlyargs:=[],args:=[],vararg:=none,kwonlyargs:=[],kw_defaults:=[],kwarg:=none,defaults:=[] }
def Af (s:Stmt):List Stmt:=match s with
  | .FunctionDef _ _ b _ _ _ _ _ _ _=>b
  | _=>[]
def Ab (s:Stmt):Scope:=match s with
  | .FunctionDef _ _ _ _ _ _ sc _ _ _=>sc
  | _=>{ kind:=.function,names:=[],isGenerator:=false,isCoroutine:=false }
abbrev CX0:CXT:=fun _ _ _ _ _ _=>False
abbrev E0:XK:=fun _ _ _=>False
theorem Ba {X:Cx}:Passes CX0 X E0:=fun _ _ _ _ _ _ _ h=>h.elim
structure Fun (K:PySem.W.Frag) (x qual:Str) (st:Stmt) (f:Addr) (fd:FuncData):Prop where
  ex:∃ (oc:Value) (od:Option Addr) (kV doc pm:Value) (an:Option Addr) (cdv ct:Value) (osl:Array (Option Value)),
    fd=PySem.W.fnOf x qual (Ag st) (Af st) (Ab st) .none kV doc pm an cdv ct∧K.lookup f=some ⟨oc,od,.func fd,osl⟩∧PySem.W.codeIn K cdv qual=true
  kp:PySem.W.keepIn K (.ref f)=true
section
variable {P:Program} {w:World} {K:PySem.W.Frag} {mg:Str→Option Value} {base:Heap}
theorem Fun.ok {x qual:Str} {st:Stmt} {f:Addr} {fd:FuncData} {N ps:List Str} {k:Nat} {sp:Sp} (F:Fun K x qual st f fd) (S:Aw N ps (Ab st)) (len:∀ vs H Q E,sp vs H Q E→vs.length=ps.length)
    (hbody:∀ (cdv:Value) (A:Around) (outer:List Env) (s:Shared) (H:Hp) (vs:List V) (Q:VK) (E:XK),Mh k (A.deeper (envOfC qual (Ab st) s.heap.objs.size f cdv))→sp vs H Q E →
      ∃ t,PSs (Anl CX0 P w K mg base N qual (Ab st) f cdv A outer s H E).nox (Af st) t∧t { nx:=fun _ H'=>Q .non H',rt:=Q } (start N vs) H):Ar P w K mg base CX0 (k+1) f fd ps sp:=by
  obtain ⟨oc,od,kV,doc,pm,an,cdv,ct,osl,rfl,lk,hcd⟩:=F.ex
  refine AwF lk hcd S len fun A outer s H vs Q E hr hsp=>?_
  obtain ⟨t,h,q⟩:=hbody cdv A outer s H vs Q E hr hsp
  exact ⟨t,h.nox,q⟩
theorem Fun.binds {x qual:Str} {st:Stmt} {f:Addr} {fd:FuncData} {ps:List Str} (F:Fun K x qual st f fd)
    (h:∀ (kV doc pm:Value) (an:Option Addr) (cdv ct:Value) (us:List Value),us.length=ps.length→bindArgs (PySem.W.fnOf x qual (Ag st) (Af st) (Ab st) .none kV doc pm an cdv ct) ⟨us,[]⟩=pure (ps.zip us)):Binds K fd ps []:=by
  obtain ⟨oc,od,kV,doc,pm,an,cdv,ct,osl,rfl,lk,hcd⟩:=F.ex
  exact .all (h kV doc pm an cdv ct)
theorem Ai {x qual:Str} {st:Stmt} {f:Addr} {oc:Value} {od an:Option Addr} {osl:Array (Option Value)} {kV doc pm cdv ct:Value} (l:K.lookup f=some ⟨oc,od,.func (PySem.W.fnOf x qual (Ag st) (Af st) (Ab st) .none kV doc pm an cdv ct),osl⟩)
    (c:PySem.W.codeIn K cdv qual=true) (k:PySem.W.keepIn K (.ref f)=true):Fun K x qual st f (PySem.W.fnOf x qual (Ag st) (Af st) (Ab st) .none kV doc pm an cdv ct):=⟨⟨oc,od,kV,doc,pm,an,cdv,ct,osl,rfl,l,c⟩,k⟩
end
theorem Xj {n:Nat} (h:n≤1000):n < sizeLine:=Nat.lt_of_le_of_lt h (by decide)
section
variable {X:Cx}
theorem pv (i:Nat) {x:Str} {pos:Pos} (hN:X.N[i]?=some x:=by rfl) (hv:Vis X.env.scope x:=by first | exact Or.inl rfl | exact Or.inr (Or.inl rfl) | exact Or.inr (Or.inr rfl)) (hd:(x == ("__debug__" : Str))=false:=by decide)
    (hcd:(x == ("__classdict__" : Str))=false:=by decide):PE X (.Name x pos) (Aww i):=AuW hN hv hd hcd
end
theorem Jc {A B:Prop} (h:B):if false=true then A else B:=by
  rw [if_neg Bool.false_ne_true]
  exact h
theorem Ak4 {A B:Prop} (h:A):if true=true then A else B:=by
  rw [if_pos rfl]
  exact h
theorem TF {c A B:Prop} [Decidable c] (hc:c) (h:B):if (!decide c)=true then A else B:=by
  rw [decide_eq_true hc]
  exact Jc h
def Ax (H H':Hp):Prop:=∀ b o,H b=some o→H' b=some o
theorem Ax.refl (H:Hp):Ax H H:=fun _ _ h=>h
theorem Ax.trans {H H1 H2:Hp} (a:Ax H H1) (b:Ax H1 H2):Ax H H2:=fun c o h=>b c o (a c o h)
theorem Ax.free {H H':Hp} (e:Ax H H') {l:Addr} (h:H' l=Option.none):H l=Option.none:=by
  cases q:H l with
  | none=>rfl
  | some o =>
    rw [e l o q] at h
    cases h
theorem Ax.seq {K:PySem.W.Frag} {H H':Hp} {a:Addr} {xs:List V} (e:Ax H H') (h:SqL K H a xs):SqL K H' a xs:=by
  rcases h with (h | ⟨o,h⟩) | h
  · exact .inl (.inl (e _ _ h))
  · exact .inl (.inr ⟨o,e _ _ h⟩)
  · exact .inr h
open PySem PySem.Spec PyProof.Rows
theorem Yo {scope:Scope} {env:Env} (h:∀ y∈scope.names,y.2=.free→∃ c,env.cells.lookup y.1=some c) :
    ∃ cl,closureFor scope env=pure cl∧(∀ x c,cl.lookup x=some c→env.cells.lookup x=some c∧(x,NameKind.free)∈scope.names) ∧
      ∀ x,(x,NameKind.free)∈scope.names→cl.lookup x=env.cells.lookup x:=by
  have key:∀ (l:List (Str × NameKind)) (cs:List (Str × Addr)),(∀ y∈l,y.2=.free→∃ c,env.cells.lookup y.1=some c) →
      ∃ cl,(forIn l cs (fun (x:Str × NameKind) (cs:List (Str × Addr))=>do
          if x.2 == .free then
            let c ← cellOf env x.1
            pure (ForInStep.yield ((x.1,c)::cs))
          else pure (ForInStep.yield cs)):Sem (List (Str × Addr)))=pure cl ∧
        (∀ x c,cl.lookup x=some c→(env.cells.lookup x=some c∧(x,NameKind.free)∈l)∨cs.lookup x=some c) ∧
        ∀ x,((x,NameKind.free)∈l→cl.lookup x=env.cells.lookup x)∧((cs.lookup x=env.cells.lookup x)→cl.lookup x=env.cells.lookup x):=by
    intro l
    induction l with
    | nil=>intro cs _; exact ⟨cs,rfl,fun x c e=>.inr e,fun x=>⟨fun z=>absurd z (by simp),fun z=>z⟩⟩
    | cons y r ih =>
      intro cs hl
      obtain ⟨n,k⟩:=y
      by_cases hk:k=.free
      · subst hk
        obtain ⟨c,hc⟩:=hl (n,.free) List.mem_cons_self rfl
        obtain ⟨cl,e1,e2,e3⟩:=ih ((n,c)::cs) fun y hy=>hl y (List.mem_cons_of_mem _ hy)
        refine ⟨cl,?_,fun x d e=>?_,fun x=>⟨fun z=>?_,fun z=>?_⟩⟩
        · rw [List.forIn_cons]
          simp only [beq_self_eq_true,if_true,cellOf,hc]
          exact e1
        · rcases e2 x d e with ⟨z1,z2⟩ | z
          · exact .inl ⟨z1,List.mem_cons_of_mem _ z2⟩
          · rw [List.lookup_cons] at z
            by_cases hx:x == n
            · rw [hx] at z
              have hx':x=n:=by simpa using hx
              subst hx'
              refine .inl ⟨?_,List.mem_cons_self⟩
              rw [hc]; exact z
            · have hx':(x == n)=false:=by simpa using hx
              rw [hx'] at z
              exact .inr z
        · rcases List.mem_cons.mp z with z | z
          · injection z with z1 _
            subst z1
            refine (e3 x).2 ?_
            rw [List.lookup_cons,hc]
            simp
          · exact (e3 x).1 z
        · by_cases hx:x=n
          · subst hx
            refine (e3 x).2 ?_
            rw [List.lookup_cons,hc]
            simp
          · refine (e3 x).2 ?_
            rw [List.lookup_cons]
            have hx':(x == n)=false:=by simpa using hx
            rw [hx']
            exact z
      · obtain ⟨cl,e1,e2,e3⟩:=ih cs fun y hy=>hl y (List.mem_cons_of_mem _ hy)
        have hb:(k == NameKind.free)=false:=by simpa using hk
        refine ⟨cl,?_,fun x d e=>?_,fun x=>⟨fun z=>?_,(e3 x).2⟩⟩
        · rw [List.forIn_cons]
          simp only [hb,Bool.false_eq_true,if_false]
          exact e1
        · rcases e2 x d e with ⟨z1,z2⟩ | z
          · exact .inl ⟨z1,List.mem_cons_of_mem _ z2⟩
          · exact .inr z
        · rcases List.mem_cons.mp z with z | z
          · injection z with _ z2
            exact absurd z2.symm hk
          · exact (e3 x).1 z
  obtain ⟨cl,e1,e2,e3⟩:=key scope.names [] h
  refine ⟨cl,?_,fun x c e=>?_,fun x z=>(e3 x).1 z⟩
  · unfold closureFor
    have:=e1
    simpa using this
  · rcases e2 x c e with z | z
    · exact z
    · simp at z
theorem Fq {env:Env} (hk:env.scope.kind=.function):∀ {names:List (Str × NameKind)} {x:Str} {k:NameKind},names.lookup x=some k→k≠.free →
    (names.map fun (n,k)=>if (k == NameKind.free && env.scope.kind == .function && env.kindOf n == some .cell) then (n,NameKind.cell) else (n,k)).lookup x=some k
  | [],_,_,h,_=>by simp at h
  | (n,k')::r,x,k,h,hf=>by
    have ih:=@Fq env hk r x k
    show List.lookup x ((if (k' == NameKind.free && env.scope.kind == .function && env.kindOf n == some .cell)=true then (n,NameKind.cell) else (n,k'))::_)=_
    cases hx:x == n with
    | true =>
      simp only [List.lookup_cons,hx] at h
      cases h
      have:(k' == NameKind.free)=false:=by simpa using hf
      simp [List.lookup_cons,hx,this]
    | false =>
      simp only [List.lookup_cons,hx] at h
      by_cases hc:(k' == NameKind.free && env.scope.kind == .function && env.kindOf n == some .cell)=true
      · rw [if_pos hc]; simp only [List.lookup_cons,hx]; exact ih h hf
      · rw [if_neg hc]; simp only [List.lookup_cons,hx]; exact ih h hf
theorem HB {env:Env} (hk:env.scope.kind=.function):∀ {names:List (Str × NameKind)} {x:Str},names.lookup x=some .free→env.kindOf x=some .cell →
    (names.map fun (n,k)=>if (k == NameKind.free && env.scope.kind == .function && env.kindOf n == some .cell) then (n,NameKind.cell) else (n,k)).lookup x=some .cell
  | [],_,h,_=>by simp at h
  | (n,k')::r,x,h,hc=>by
    have ih:=@HB env hk r x
    show List.lookup x ((if (k' == NameKind.free && env.scope.kind == .function && env.kindOf n == some .cell)=true then (n,NameKind.cell) else (n,k'))::_)=_
    cases hx:x == n with
    | true =>
      simp only [List.lookup_cons,hx] at h
      cases h
      have hxn:x=n:=by simpa using hx
      subst hxn
      simp [List.lookup_cons,hk,hc]
    | false =>
      simp only [List.lookup_cons,hx] at h
      by_cases hd:(k' == NameKind.free && env.scope.kind == .function && env.kindOf n == some .cell)=true
      · rw [if_pos hd]; simp only [List.lookup_cons,hx]; exact ih h hc
      · rw [if_neg hd]; simp only [List.lookup_cons,hx]; exact ih h hc
def Ji (X:Cx) (Nc:List Str) (scope:Scope) (cl:List (Str × Addr)) (C:Addr) (fp:List Addr) (s:Shared) (H:Hp):Cx where
  prog:=X.prog
  w:=X.w
  K:=X.K
  mg:=X.mg
  base:=X.base
  A:=X.A
  N:=Nc
  s₀:=s
  H₀:=H
  env:=compEnvC scope cl C X.env
  outer:=X.stack
  stack:=X.stack
  ex:=fp
  fn:=fun _=>false
  calm:=X.calm
  pn:=[]
  xe:=fun _ _=>False
def J2 (σ:St) (Bl:List Nat):St:=Bl.map fun j=>(σ[j]?).join
structure Fv (X:Cx) (x:Str) (Nc:List Str) (Bl:List Nat) (scope:Scope):Prop where
  kind:scope.kind=.function
  cell:∀ y∈scope.names,y.2≠.cell
  names:∀ y∈scope.names,y.2=.local→scope.names.lookup y.1=some .local
  fr:∀ y∈scope.names,y.2=.free→X.env.scope.names.lookup y.1=some .cell∧scope.names.lookup y.1=some .free
  loc:scope.names.lookup x=some .local
  len:Nc.length=Bl.length+1
  hd:Nc[0]?=some x
  nd:Nc.Nodup
  cap:∀ k j,Bl[k]?=some j→∃ y,Nc[k+1]?=some y∧X.N[j]?=some y∧scope.names.lookup y=some .free
theorem Yp {prog:Program} {w:World} {A:Around} {R:Result→Shared→Prop} {s:Shared} {elt target iter:Expr} {ifs:List Expr} {scope:Scope} {pos:Pos} {it acc:Value} {env:Env} (I:Nat→Shared→Prop)
    (turn:∀ n s,I n s→wpAny (model prog w) A (pyNext it) (fun r s₁=>match r with
      | none=>R (.ok .next) s₁
      | some v=>wpAny (model prog w) A (letOwnedTupleGo target it v) (fun _ s1'=>wpAny (model prog w) A (assign target env v) (fun _ s₂ =>
          wpAny (model prog w) A (forIn ifs true fun c r=>if r=true then do let ok ← isTrue c env (eval c env); pure (ForInStep.yield ok) else pure (ForInStep.yield r)) (fun ok s₃ =>
            if ok=true then wpAny (model prog w) A (eval elt env) (fun x s₄ =>
              wpAny (model prog w) A (call (.builtin "list.append") [acc,x]) (fun _ s₅=>∃ m,m < n∧I m s₅) (notedBy (model prog w) A env fun e s'=>R (.error e) s') s₄) (notedBy (model prog w) A env fun e s'=>R (.error e) s') s₃
            else ∃ m,m < n∧I m s₃) (notedBy (model prog w) A env fun e s'=>R (.error e) s') s₂) (notedBy (model prog w) A env fun e s'=>R (.error e) s') s1') (notedBy (model prog w) A env fun e s'=>R (.error e) s') s₁) (notedBy (model prog w) A env fun e s'=>R (.error e) s') s)
    (n:Nat) (h:I n s) :
    codeAny (model prog w) A (.compLoop (.ListComp elt [⟨target,iter,ifs,0⟩] scope pos) 0 it acc env) R s:=by
  refine codeAny_loop rfl I (fun n s hI=>?_) n h
  show wpAny _ A ((compTurn (.ListComp elt [⟨target,iter,ifs,0⟩] scope pos) 0 it acc env).onRaise (fun x=>do noteFrame x env; theTreesLotGoes x)) _ _ s
  refine wpAny_noted ?_
  rw [compTurn_list]
  refine wpAny_bind (wpAny_standAt (wpAny_bind (wpAny_mono (turn n s hI) (fun r s₁ h₁=>?_) fun _ _ h'=>h')))
  cases r with
  | none=>exact wpAny_pure h₁
  | some v =>
    refine wpAny_bind (wpAny_mono h₁ (fun _ s1' h₁=>?_) fun _ _ h'=>h')
    refine wpAny_bind (wpAny_mono h₁ (fun _ s₂ h₂=>wpAny_bind (wpAny_mono h₂ (fun ok s₃ h₃=>?_) fun _ _ h'=>h')) fun _ _ h'=>h')
    cases ok with
    | false=>exact wpAny_pure ⟨rfl,h₃⟩
    | true =>
      exact wpAny_bind (wpAny_bind (wpAny_mono h₃ (fun x s₄ h₄=>wpAny_bind (wpAny_mono h₄ (fun _ s₅ h₅=>wpAny_pure (wpAny_pure ⟨rfl,h₅⟩)) fun _ _ h'=>h')) fun _ _ h'=>h'))
def AlM:TT:=fun _ H Q=>Q true H
inductive PIf (X:Cx):List Expr→TT→Prop where
  | nil:PIf X [] AlM
  | one {c:Expr} {t:TT} (h:PT X c t):PIf X [c] t
theorem PIf.run {X:Cx} {ifs:List Expr} {t:TT} (h:PIf X ifs t) {pins:List (Addr × Obj)} {s:Shared} {σ:St} {H:Hp} {Q:Bool→Hp→Prop} (I:Inv X pins σ H s) (ht:t σ H Q) :
    wpAny (model X.prog X.w) X.A (forIn ifs true fun c r=>if r=true then do let ok ← isTrue c X.env (eval c X.env); pure (ForInStep.yield ok) else pure (ForInStep.yield r)) (TP X pins σ Q) X.xe s:=by
  cases h with
  | nil=>exact wpAny_tests_nil ⟨H,I,ht⟩
  | one h=>exact wpAny_tests_one (h pins s σ H Q I ht)
def Aiy (Bl:List Nat) (tc:TT) (te:TE) (J:It) (σ:St) (H:Hp) (Q:VK):Prop :=
  ∃ W:Nat→Nat→List V→Hp→Prop,(∃ m,W 0 m [] H)∧∀ i m ys H,W i m ys H →
    (J.stop i H∧ys.length≤sizeLine∧∀ p,H p=none→Q (.ref p) (upd H p (.lst ys))) ∨
    (J.go i H∧ys.length < sizeLine∧∀ x H',J.yld i H x H'→tc (some x::J2 σ Bl) H' fun b H2 =>
      if b=true then te (some x::J2 σ Bl) H2 fun y H3=>∃ m',m' < m∧W (i+1) m' (ys++[y]) H3 else ∃ m',m' < m∧W (i+1) m' ys H2)
def ArC (wi:TI) (Bl:List Nat) (tc:TT) (te:TE):TE:=fun σ H Q=>wi σ H fun J H1=>Aiy Bl tc te J σ H1 Q
section
variable {X:Cx} {pins:List (Addr × Obj)} {σ:St} {H:Hp} {s:Shared}
theorem Un.track {fs ex:List Addr} {H H':Hp} {h h':Heap} {a:Addr} {o:HO} (u:Un fs ex H H' h h') (ha:h.objs.size≤a) (hn:H' a=none):Un fs ex H (upd H' a o) h h' where
  keep:=u.keep
  slot:=u.slot
  free:=fun b ob q n hx=>by rw [Be (Nat.ne_of_lt (Nat.lt_of_lt_of_le (Heap.lt_size q) ha))]; exact u.free b ob q n hx
  there:=u.there
  tups:=fun b xs q=>by rw [Be (Ce (u.tups b xs q) hn)]; exact u.tups b xs q
  Adg:=fun b ob xs q=>by rw [Be (Ce (u.Adg b ob xs q) hn)]; exact u.Adg b ob xs q
  AfY:=fun b ps q=>by
    obtain ⟨m,e⟩:=u.AfY b ps q
    exact ⟨m,by rw [Be (Ce e hn)]; exact e⟩
theorem HOk.track {P:Program} {w:World} {H:Hp} {h:Heap} {a:Addr} {o:HO} (x:HOk P w H h) (hn:H a=none) (new:Kw P w (upd H a o) h a o):HOk P w (upd H a o) h:=fun b u e=>by
  by_cases hb:b=a
  · subst hb; rw [Ah] at e; cases e; exact new
  · rw [Be hb] at e
    exact (x b u e).stay (fun c v _ q=>q) (fun c q=>by rw [Be (Ce q hn)]; exact q) fun c xs q=>by rw [Be (Ce q hn)]; exact q
theorem AtH {x:Str} {Nc:List Str} {Bl:List Nat} {scope:Scope} {cl:List (Str × Addr)} {C:Addr} {fp:List Addr} (I:Inv X pins σ H s) (O:Fv X x Nc Bl scope)
    (hcl:∀ x c,cl.lookup x=some c→X.env.cells.lookup x=some c∧(x,NameKind.free)∈scope.names) (Xk:∀ x,(x,NameKind.free)∈scope.names→cl.lookup x=X.env.cells.lookup x)
    (hC:s.heap.objs.size≤C) (hfp:∀ b∈fp,Rj X pins H b) (hfo:∀ b∈fp,b < s.heap.objs.size):(Ji X Nc scope cl C fp s H).Ok where
  mod:=I.ok.mod
  kind:=O.kind
  glob:=I.ok.glob
  blt:=I.ok.blt
  above:=hC
  inj:=fun a b c e1 e2=>I.ok.inj a b c (hcl a c e1).1 (hcl b c e2).1
  has:=fun y hy=>by
    have mem:(y,NameKind.free)∈scope.names:=by
      have hy':((relabel scope X.env).names.lookup y=some .cell)∨((relabel scope X.env).names.lookup y=some .free):=hy
      have hm:∃ k,(y,k)∈(relabel scope X.env).names∧(k=.cell∨k=.free):=by
        rcases hy' with h | h
        · exact ⟨_,PySem.mem_of_lookup h,.inl rfl⟩
        · exact ⟨_,PySem.mem_of_lookup h,.inr rfl⟩
      obtain ⟨k,hm,hk⟩:=hm
      obtain ⟨⟨n,k'⟩,hm',e⟩:=List.mem_map.mp hm
      dsimp only at e
      by_cases hc:(k' == NameKind.free && X.env.scope.kind == .function && X.env.kindOf n == some .cell)=true
      · rw [if_pos hc] at e
        injection e with e1 _
        subst e1
        have:k'=.free:=by
          have:=(Bool.and_eq_true _ _ ▸ (Bool.and_eq_true _ _ ▸ hc).1).1
          simpa using this
        subst this
        exact hm'
      · rw [if_neg hc] at e
        injection e with e1 e2
        subst e1 e2
        rcases hk with hk | hk
        · subst hk; exact absurd rfl (O.cell _ hm')
        · subst hk; exact hm'
    obtain ⟨c,e⟩:=I.ok.has y (.inl (O.fr _ mem rfl).1)
    exact ⟨c,(Xk y mem).trans e⟩
  cab:=fun _ _ z=>nomatch z
  hd:=I.ok.hd
  frames:=I.ok.frames
  stk:=.inl rfl
  exf:=fun b hb=>⟨Nat.ne_of_lt (Nat.lt_of_lt_of_le (hfo b hb) hC),fun y c e=>(hfp b hb).2.2.2.2.1 y c (hcl y c e).1⟩
  bs:=I.bs
  bsz:=Nat.le_trans I.ok.bsz I.sz
  Ak1:=fun b o e hb=>by
    rcases (hfp b hb).2.2.2.1 with z | z
    · exact I.ok.Ak1 b o e z
    · exact absurd (Nat.lt_of_lt_of_le (Heap.lt_size e) (Nat.le_trans I.ok.bsz z)) (Nat.lt_irrefl _)
  Ak2:=fun b hb z=>by
    rcases List.mem_cons.mp (I.Aio b z) with e | e
    · exact (hfp b hb).2.1 e
    · exact (hfp b hb).2.2.1 e
  Adh:=I.stack
  frf:=I.Aia
end
open PySem PySem.Spec PyProof.Rows
section
variable {X:Cx} {pins:List (Addr × Obj)} {σ:St} {H:Hp} {s:Shared}
theorem Aiz (σ:St) (Bl:List Nat):(J2 σ Bl).length=Bl.length:=by unfold J2; rw [List.length_map]
theorem Ai0 {σ:St} {Bl:List Nat} {k:Nat} {v:V} (e:(J2 σ Bl)[k]?=some (some v)):∃ j,Bl[k]?=some j∧σ[j]?=some (some v):=by
  unfold J2 at e
  rw [List.getElem?_map] at e
  cases hk:Bl[k]? with
  | none=>rw [hk] at e; cases e
  | some j =>
    rw [hk] at e
    have e':(σ[j]?).join=some v:=Option.some.inj e
    refine ⟨j,rfl,?_⟩
    cases hj:σ[j]? with
    | none=>rw [hj] at e'; cases e'
    | some o=>rw [hj] at e'; rw [show o=some v from e']
theorem Un.but {fs ex:List Addr} {H H':Hp} {h h1 h2:Heap} {C:Addr} (u:Un fs ex H H' h h1) (hs:Heap.SameBut C h1 h2) (hC:h.objs.size≤C):Un fs ex H H' h h2 where
  keep:=fun b o q n hb hx=>(hs.2 b (Nat.ne_of_lt (Nat.lt_of_lt_of_le (Heap.lt_size q) hC))).trans (u.keep b o q n hb hx)
  slot:=fun b o q n hb hx=>by
    obtain ⟨sl,e⟩:=u.slot b o q n hb hx
    exact ⟨sl,(hs.2 b (Nat.ne_of_lt (Nat.lt_of_lt_of_le (Heap.lt_size q) hC))).trans e⟩
  free:=u.free
  there:=fun b o q hx=>by
    obtain ⟨o',e⟩:=u.there b o q hx
    exact ⟨o',(hs.2 b (Nat.ne_of_lt (Nat.lt_of_lt_of_le (Heap.lt_size q) hC))).trans e⟩
  tups:=u.tups
  Adg:=u.Adg
  AfY:=u.AfY
theorem AoL {x:Str} {Nc:List Str} {Bl:List Nat} {scope:Scope} {cl:List (Str × Addr)} {C:Addr} {fp:List Addr} {h':Heap} {tk:Nat} {m0:Str→Option Value} (I:Inv X pins σ H s) (O:Fv X x Nc Bl scope)
    (hcl:∀ x c,cl.lookup x=some c→X.env.cells.lookup x=some c∧(x,NameKind.free)∈scope.names) (Xk:∀ x,(x,NameKind.free)∈scope.names→cl.lookup x=X.env.cells.lookup x)
    (hC:s.heap.objs.size≤C) (hfp:∀ b∈fp,Rj X pins H b) (hfo:∀ b∈fp,b < s.heap.objs.size)
    (old:∀ b o,s.heap.get? b=some o→h'.get? b=some o) (hns:h'.Ns C m0) :
    Inv (Ji X Nc scope cl C fp s H) [] (none::J2 σ Bl) H { s with heap:=h',toks:=tk } where
  ok:=AtH I O hcl Xk hC hfp hfo
  os:=rfl
  bare:=I.bare
  base:=Un.kept old
  loc:=by
    refine ⟨m0,hns,fun i y v hN hσ hv=>?_⟩
    cases i with
    | zero=>simp at hσ
    | succ k =>
      rw [List.getElem?_cons_succ] at hσ
      obtain ⟨j,hj,hs⟩:=Ai0 hσ
      obtain ⟨z,hz1,hz2,hz3⟩:=O.cap k j hj
      have hN':Nc[k+1]?=some y:=hN
      rw [hz1] at hN'
      cases hN'
      have mem:(y,NameKind.free)∈scope.names:=PySem.mem_of_lookup hz3
      have hk:=(O.fr _ mem rfl).1
      obtain ⟨m,hn,hl⟩:=I.loc
      obtain ⟨u,r,l⟩:=hl j y v hz2 hs (.inr (.inl hk))
      refine ⟨u,r,?_⟩
      rcases l with ⟨k',_⟩ | ⟨_,c,hc,z⟩
      · have k'':X.env.scope.names.lookup y=some .local:=k'
        rw [hk] at k''; cases k''
      · obtain ⟨o,ho,hd⟩:=z
        exact .inr ⟨.inl (HB I.ok.kind hz3 hk),c,(Xk y mem).trans hc,o,old _ _ ho,hd⟩
  cell:=fun y c e=>by
    obtain ⟨v,o,ho,hd⟩:=I.cell y c (hcl y c e).1
    exact ⟨v,o,old _ _ ho,hd⟩
  free:=I.hok.fresh hC
  Ra:=fun y c e=>I.Ra y c (hcl y c e).1
  pin:=fun p hp=>absurd (show p∈([]:List (Addr × Obj)) from hp) (by simp)
  hok:=I.hok.kept old
  len:=by
    show (none::J2 σ Bl).length=Nc.length
    rw [List.length_cons,Aiz,O.len]
abbrev N6 (us:List Value) (n:Nat):Obj:={ cls:=.type "list", data:=.seq us.toArray n }
theorem Es {X:Cx} {sc0 scope:Scope} (h:X.env.scope=sc0) (hd:∀ y∈scope.names,y.2=.free→sc0.names.lookup y.1=some .cell∧scope.names.lookup y.1=some .free) :
    ∀ y∈scope.names,y.2=.free→X.env.scope.names.lookup y.1=some .cell∧scope.names.lookup y.1=some .free:=by
  rw [h]
  exact hd
theorem Ai1 {x:Str} {px:Pos} {Nc:List Str} {Bl:List Nat} {scope:Scope} {cl:List (Str × Addr)} {iter elt:Expr} {ifs:List Expr} {pos:Pos} {tc:TT} {te:TE} {Q:VK} {it:Addr} {fp:List Addr} {tn:Nat→Heap→Prop} {J:It}
    {RR:Value→Addr→Result→Shared→Prop} {E:Value→Shared→Prop}
    (O:Fv X x Nc Bl scope) (hc:X.calm=true)
    (hcl:∀ x c,cl.lookup x=some c→X.env.cells.lookup x=some c∧(x,NameKind.free)∈scope.names) (Xk:∀ x,(x,NameKind.free)∈scope.names→cl.lookup x=X.env.cells.lookup x)
    (hte:∀ C fp s H,PE (Ji X Nc scope cl C fp s H) elt te) (htc:∀ C fp s H,PIf (Ji X Nc scope cl C fp s H) ifs tc)
    (I:Inv X pins σ H s) (T:Turn X.prog X.w X.K (.Name x px) J fp it tn) (st:tn 0 s.heap) (hfp:∀ b∈fp,Rj X pins H b) (h:Aiy Bl tc te J σ H Q)
    (hRR:∀ (D C:Addr) (s':Shared) (m:Str→Option Value),s'.heap.Ns C m→(∀ h',Heap.SameBut C s'.heap h'→∃ H',Inv X pins σ H' { s' with heap:=h' }∧H' C=none∧Q (.ref D) H') →
      s.heap.objs.size≤C→RR (.ref D) C (.ok .next) s') :
    wpAny (model X.prog X.w) X.A (newList []) (fun acc s₃=>wpAny (model X.prog X.w) X.A (newFunctionEnv scope X.env.globals cl [] X.env.qual none .none (some X.env)) (fun cenv s₄ =>
      codeAny (model X.prog X.w) X.A (.compStart (.ListComp elt [⟨.Name x px,iter,ifs,0⟩] scope pos) 0 (.ref it) acc { cenv with scope:=relabel scope X.env }) (RR acc cenv.locals) s₄) E s₃) E s:=by
  refine wpAny_newObj_type (wpAny_newFunctionEnv O.cell (by intro y hy; simp at hy) (fun h₁ hns₁ hsb₁=>?_) O.kind)
  dsimp only at hns₁ hsb₁ ⊢
  generalize hH2:s.heap.push { cls:=.type "list", dict:=none,data:=.seq ([]:List Value).toArray }=H2 at hns₁ hsb₁ ⊢
  have hC:H2.objs.size=s.heap.objs.size+1:=by rw [← hH2,Heap.size_push]
  have hCle:s.heap.objs.size≤H2.objs.size:=by rw [hC]; exact Nat.le_succ _
  have hDC:s.heap.objs.size≠H2.objs.size:=by rw [hC]; exact Nat.ne_of_lt (Nat.lt_succ_self _)
  have below:∀ b,b < s.heap.objs.size→b≠H2.objs.size∧b≠s.heap.objs.size:=fun b hb=>⟨by rw [hC]; exact Nat.ne_of_lt (Nat.lt_succ_of_lt hb),Nat.ne_of_lt hb⟩
  have old:∀ b o,s.heap.get? b=some o→h₁.get? b=some o:=fun b o e=>hsb₁.extBut b o (below b (Heap.lt_size e)).1 (Heap.get?_push_of_some _ (hH2 ▸ Heap.get?_push_of_some _ e))
  have hacc:h₁.get? s.heap.objs.size=some (N6 [] 0):=hsb₁.extBut _ _ hDC (Heap.get?_push_of_some _ (hH2 ▸ Heap.get?_push_size _ rfl))
  have hfo:∀ b∈fp,b < s.heap.objs.size:=fun b hb=>by
    obtain ⟨o,e,_⟩:=T.obj _ _ st b hb
    exact Heap.lt_size e
  have st1:tn 0 h₁:=T.keep _ _ _ st fun b _ o e=>old b o e
  generalize hDD:s.heap.objs.size=D at *
  generalize hCC:H2.objs.size=C at *
  have AqA:D≤C:=hCle
  let Y:Cx:=Ji X Nc scope cl C fp s H
  have I0:Inv Y [] (none::J2 σ Bl) H { s with heap:=h₁,toks:=s.toks+([]:List (Str × Value)).length }:=AoL I O hcl Xk (by rw [hDD]; exact hCle) hfp (fun b hb=>by rw [hDD]; exact hfo b hb) old hns₁
  have Anr:H D=none:=by rw [← hDD]; exact I.hok.fresh (Nat.le_refl _)
  have AdW:D≠C:=hDC
  have Dfs:D∉Y.fs:=fun z=>by
    have:=I.stack.mem (show D∈frs X.stack from z)
    obtain ⟨_,o,e,_⟩:=this
    have:=Heap.lt_size e
    rw [hDD] at this
    exact Nat.lt_irrefl _ this
  have Ans:∀ y c,Y.env.cells.lookup y=some c→c≠D:=fun y c e z=>by
    obtain ⟨v,q⟩:=I.cell y c (hcl y c e).1
    have:=q.lt
    rw [z,hDD] at this
    exact Nat.lt_irrefl _ this
  have Dfp:∀ b∈fp,b≠D:=fun b hb=>Nat.ne_of_lt (hfo b hb)
  have fpY:∀ {H':Hp},(∀ b∈fp,H' b=none)→∀ b∈fp,Rj Y [] H' b:=fun hn b hb =>
    ⟨hn b hb,Nat.ne_of_lt (Nat.lt_of_lt_of_le (hfo b hb) AqA),fun z=>I0.ok.Ak2 b hb z,.inl hb,fun y c e=>(I0.ok.exf b hb).2 y c e,fun p hp=>absurd (show p∈([]:List (Addr × Obj)) from hp) (by simp)⟩
  obtain ⟨W,⟨m0,w0⟩,turn⟩:=h
  have loop:∀ s₃:Shared,s₃={ s with heap:=h₁,toks:=s.toks+([]:List (Str × Value)).length } →
      codeAny (model X.prog X.w) X.A (.compLoop (.ListComp elt [⟨.Name x px,iter,ifs,0⟩] scope pos) 0 (.ref it) (.ref D) (compEnvC scope cl C X.env)) (RR (.ref D) C) s₃:=by
    rintro s₃ rfl
    refine Yp (fun n s'=>∃ (i:Nat) (o:Option V) (H':Hp) (ys:List V) (us:List Value) (k:Nat),Inv Y [] (o::J2 σ Bl) H' s'∧tn i s'.heap∧(∀ b∈fp,H' b=none)∧s'.heap.get? D=some (N6 us k)∧H' D=none∧Vals ys us∧W i n ys H')
      ?_ m0 ⟨0,none,H,[],[],0,I0,st1,fun b hb=>(hfp b hb).1,hacc,Anr,.nil,w0⟩
    rintro n s3 ⟨i,o3,H3,ys,us,k,I3,st3,fr3,hD3,nD3,rv,w3⟩
    have fpP:∀ {H':Hp} {ob:Obj},(∀ b∈fp,H' b=none)→∀ b∈fp,Rj Y [(D,ob)] H' b:=fun hn b hb=>by
      obtain ⟨g0,g1,g2,g3,g4,_⟩:=fpY hn b hb
      refine ⟨g0,g1,g2,g3,g4,fun p hp=>?_⟩
      have e:p=(D,_):=List.mem_singleton.mp (show p∈[(D,_)] from hp)
      rw [e]
      exact Ne.symm (Dfp b hb)
    have IP:Inv Y [(D,N6 us k)] (o3::J2 σ Bl) H3 s3:=I3.Ma fun p hp=>by
      have e:p=(D,N6 us k):=List.mem_singleton.mp hp
      subst e
      exact ⟨hD3,nD3,AdW,Dfs,fun v z=>by cases z⟩
    have Ai2:∀ {σ':St} {H':Hp} {s':Shared} {pl:List (Addr × Obj)},Inv Y ([(D,N6 us k)]++pl) σ' H' s'→s'.heap.get? D=some (N6 us k)∧H' D=none:=fun I'=>by
      have z:=I'.pin (D,N6 us k) (List.mem_append_right _ (List.mem_append_left _ List.mem_cons_self))
      exact ⟨z.1,z.2.1⟩
    rcases turn i n ys H3 w3 with ⟨stop,hlen,fin⟩ | ⟨go,hlen,step⟩
    ·
      refine wpAny_mono (T.done Y rfl rfl rfl hc i _ s3 _ H3 (fun _ _=>False) IP (fpP fr3) st3 stop) (fun r s4 hr=>?_) fun _ _ z=>z.elim
      obtain ⟨hr,I4⟩:=hr
      subst hr
      obtain ⟨gD,nD⟩:=Ai2 (pl:=[]) (by simpa using I4)
      obtain ⟨m,hn,_⟩:=I4.loc
      refine hRR D C s4 m hn (fun h' hs'=>⟨upd H3 D (.lst ys),?_,(Be (Ne.symm AdW)).trans I4.free,fin D nD⟩) hCle
      have nt:∀ b ob,H3 b=some ob→b≠C:=fun b ob e z=>by
        have:=I4.free
        rw [z] at e
        rw [show H3 C=none from this] at e
        cases e
      have u1:Un (frs X.stack) fp H H3 s.heap h':=Un.but I4.base hs' (show s.heap.objs.size≤C by rw [hDD]; exact hCle)
      have ok1:HOk X.prog X.w H3 h':=fun b ob e=>(I4.hok b ob e).stay (fun c v hc q=>(hs'.2 c (by
        rcases hc with z | z
        · rw [z]; exact nt b ob e
        · exact nt c _ z)).trans q) (fun _ q=>q) fun _ _ q=>q
      have gD':h'.get? D=some (N6 us k):=(hs'.2 D AdW).trans gD
      exact I.call' (s':={ s4 with heap:=h' }) (ch:=fp) I4.os (u1.track (Nat.le_of_eq hDD) nD) (ok1.track nD ⟨hlen,us,k,rv,gD'⟩) I4.bare fun b hb=>by
        obtain ⟨_,g1,_,g3,g4,g5⟩:=hfp b hb
        exact ⟨g3,g1,g4,g5⟩
    ·
      refine wpAny_mono (T.item Y rfl rfl rfl hc i _ s3 _ H3 (fun _ _=>False) IP (fpP fr3) st3 go) (fun r s4 hr=>?_) fun _ _ z=>z.elim
      obtain ⟨u0,hr,h4⟩:=hr
      subst hr
      refine wpAny_mono h4 (fun _ s5 h5=>?_) fun _ _ z=>z.elim
      obtain ⟨x5,H5,I5,r5,y5,st5,fr5⟩:=h5
      have I5':=I5.pinned (fpP fr5) (T.obj _ _ st5)
      have tgt:PG Y (.Name x px) (Aah 0):=Cg (i:=0) O.nd O.hd (.inl (Fq I.ok.kind O.loc (by intro z; cases z))) (.inr (Fq I.ok.kind O.loc (by intro z; cases z)))
      refine wpAny_mono (tgt _ s5 _ H5 x5 u0 (fun σ2 H2=>σ2=some x5::J2 σ Bl∧H2=H5) I5' r5 ⟨rfl,rfl⟩) (fun _ s6 h6=>?_) fun _ _ z=>z.elim
      obtain ⟨_,_,I6,rfl,rfl⟩:=h6
      refine wpAny_mono ((htc C fp s H).run I6 (step x5 _ y5)) (fun b s7 h7=>?_) fun _ _ z=>z.elim
      obtain ⟨H7,I7,q7⟩:=h7
      have Ahk:∀ {σ':St} {H':Hp} {s':Shared},Inv Y ([(D,N6 us k)]++Adi fp s5.heap) σ' H' s'→tn (i+1) s'.heap∧∀ b∈fp,H' b=none:=fun I' =>
        ⟨T.keep _ _ _ st5 fun b hb o e=>(I'.pin (b,o) (List.mem_append_right _ (List.mem_append_right _ (J1 hb e)))).1,fun b hb=>by
          obtain ⟨o,e,d⟩:=T.obj _ _ st5 b hb
          exact (I'.pin (b,o) (List.mem_append_right _ (List.mem_append_right _ (J1 hb e)))).2.1⟩
      cases b with
      | false =>
        rw [if_neg Bool.false_ne_true] at q7
        rw [if_neg Bool.false_ne_true]
        obtain ⟨m',hm,w7⟩:=q7
        obtain ⟨gD,nD⟩:=Ai2 I7
        obtain ⟨k1,k2⟩:=Ahk I7
        exact ⟨m',hm,i+1,some x5,H7,ys,us,k,I7.Ma (fun p hp=>nomatch hp),k1,k2,gD,nD,rv,w7⟩
      | true =>
        rw [if_pos rfl] at q7
        rw [if_pos rfl]
        refine wpAny_mono (hte C fp s H _ s7 _ H7 _ I7 q7) (fun u8 s8 h8=>?_) fun _ _ z=>z.elim
        obtain ⟨y8,H8,I8,r8,m',hm,w8⟩:=h8
        obtain ⟨gD,nD⟩:=Ai2 I8
        obtain ⟨k1,k2⟩:=Ahk I8
        refine call_meets F.slot_list_append ⟨_,gD,rfl⟩ F.entry_list_append (F.args_list_append_2 _ _) (PySem.list_append D us.toArray k u8 (by rw [List.size_toArray,← rv.length]; omega)) ⟨gD,?_⟩
        have q:=PySem.IsL.update gD (·.push u8)
        have e1:us.toArray.push u8=(us++[u8]).toArray:=by simp
        rw [e1] at q
        have I8':Inv Y [] (some x5::J2 σ Bl) H8 s8:=I8.Ma (fun p hp=>nomatch hp)
        have I9:Inv Y [] (some x5::J2 σ Bl) H8 { s8 with heap:=s8.heap.update D (Obj.mapSeq (·.push u8)),toks:=s8.toks } :=
          I8'.turned (it:=D) (fun b o hb e=>(Heap.get?_update_other s8.heap (Obj.mapSeq (·.push u8)) (Ne.symm hb)).trans e) nD AdW (.inr (Nat.le_of_eq hDD)) Ans (fun p hp=>nomatch hp)
        refine ⟨m',hm,i+1,some x5,H8,ys++[y8],us++[u8],_,I9,T.keep _ _ _ k1 fun b hb o e=>(Heap.get?_update_other s8.heap (Obj.mapSeq (·.push u8)) (Ne.symm (Dfp b hb))).trans e,k2,q,nD,rv.append (.cons r8 .nil),w8⟩
  exact codeAny_compStart_list (loop _ rfl) (T.self X.A 0 _ _ _ st1 (loop _ rfl))
theorem Jj {x:Str} {px pos:Pos} {Nc:List Str} {Bl:List Nat} {scope:Scope} {iter elt:Expr} {ifs:List Expr} {wi:TI} {tc:TT} {te:TE} (O:Fv X x Nc Bl scope) (hc:X.calm=true) (hi:PI X (.Name x px) iter wi)
    (htc:∀ cl C fp s H,PIf (Ji X Nc scope cl C fp s H) ifs tc) (hte:∀ cl C fp s H,PE (Ji X Nc scope cl C fp s H) elt te) (hs:∀ x,foldedSetIterable iter X.env x=pure x:=by intro _; rfl) :
    PE X (.ListComp elt [⟨.Name x px,iter,ifs,0⟩] scope pos) (ArC wi Bl tc te):=by
  intro pins s σ H Q I h
  rw [eval_ListComp]
  obtain ⟨cl,e1,e2,e3⟩:=Yo (scope:=scope) (env:=X.env) fun y hy hf=>I.ok.has y.1 (.inl (O.fr y hy hf).1)
  refine wpAny_comprehension_free (use:=none) rfl hs e1 O.kind O.names (thn (hi pins s σ H _ I h) fun v s1 h1=>thn h1 fun itv s2 h2=>?_)
  obtain ⟨it,fp,tn,J,H2,e,I2,T,st2,f2,w2⟩:=h2
  subst e
  refine Ai1 (RR:=fun acc C=>compPost (model X.prog X.w) X.A X.xe none (EP X pins σ Q) acc C) O hc e2 e3 (hte cl) (htc cl) I2 T st2 f2 w2 ?_
  intro D C s' m hn hq hC
  refine ⟨m,hn,fun h' hs'=>?_⟩
  obtain ⟨H',I',_,q⟩:=hq h' hs'
  exact ⟨.ref D,H',I',rfl,q⟩
theorem Yq {i:Nat} {y x:Str} {px py pos spos:Pos} {Nc:List Str} {Bl:List Nat} {scope:Scope} {iter elt:Expr} {ifs:List Expr} {wi:TI} {tc:TT} {te:TE} (O:Fv X x Nc Bl scope) (hc:X.calm=true)
    (hN:X.N.Nodup) (hy:X.N[i]?=some y) (hx:X.env.scope.names.lookup y=some .local) (hi:PI X (.Name x px) iter wi)
    (htc:∀ cl C fp s H,PIf (Ji X Nc scope cl C fp s H) ifs tc) (hte:∀ cl C fp s H,PE (Ji X Nc scope cl C fp s H) elt te)
    (hsw:swapsWith (.ListComp elt [⟨.Name x px,iter,ifs,0⟩] scope pos) (some (.Name y py)) spos.line X.env=pure true) (hs:∀ x,foldedSetIterable iter X.env x=pure x:=by intro _; rfl) :
    PS X (.Assign [.Name y py] (.ListComp elt [⟨.Name x px,iter,ifs,0⟩] scope pos) spos) (At3 (ArC wi Bl tc te) (Aah i)):=by
  intro pins s σ H Dn I h
  rw [exec_Assign_Name_used _ _ _ _ hsw]
  refine wpAny_bind (wpAny_standAt (wpAny_bind ?_))
  obtain ⟨cl,e1,e2,e3⟩:=Yo (scope:=scope) (env:=X.env) fun y hy hf=>I.ok.has y.1 (.inl (O.fr y hy hf).1)
  show wpAny _ X.A (do let _ ← comprehension (.ListComp elt [⟨.Name x px,iter,ifs,0⟩] scope pos) scope X.env _ (newList []) false (eval iter X.env) (some (assign (.Name y py) X.env))) _ _ s
  refine wpAny_bind (wpAny_mono (wpAny_comprehension_free (use:=some (assign (.Name y py) X.env)) (Q:=fun _ s'=>SP X pins Dn .next s') rfl hs e1 O.kind O.names
    (thn (hi pins s σ H _ I h) fun v s1 h1=>thn h1 fun itv s2 h2=>?_)) (fun _ s' hq=>wpAny_pure (wpAny_pure hq)) fun _ _ e=>e)
  obtain ⟨it,fp,tn,J,H2,e,I2,T,st2,f2,w2⟩:=h2
  subst e
  refine Ai1 (RR:=fun acc C=>compPost (model X.prog X.w) X.A X.xe (some (assign (.Name y py) X.env)) (fun _ s'=>SP X pins Dn .next s') acc C) O hc e2 e3 (hte cl) (htc cl) I2 T st2 f2 w2 ?_
  intro D C s' m hn hq hC
  show wpAny _ X.A (assign (.Name y py) X.env (.ref D)) _ _ _
  obtain ⟨H',I',nC,q⟩:=hq s'.heap (.refl ..)
  have I'':Inv X pins σ H' s':=I'
  have CL:C≠X.env.locals:=Nat.ne_of_gt (Nat.lt_of_lt_of_le I2.lt hC)
  have Ant:∀ y c,X.env.cells.lookup y=some c→c≠C:=fun y c e z=>by
    obtain ⟨v,q⟩:=I2.cell y c e
    have:=Nat.lt_of_lt_of_le q.lt hC
    rw [z] at this
    exact Nat.lt_irrefl _ this
  refine wpAny_assign_Name (AfZ I'' hN hy (.inl hx) (show RelV (.ref D) (.ref D) from rfl) (fun s3 I3 hsb=>?_) (.inr hx))
  obtain ⟨a,hsb,ha⟩:=hsb
  have aC:C≠a:=by
    rcases ha with z | z
    · rw [z]; exact CL
    · exact Ne.symm (Ant _ _ z)
  refine ⟨m,hn.sameBut hsb aC,fun h4 hs4=>?_⟩
  refine ⟨_,H',I3.turned (it:=C) (t':=s3.toks) (fun b o hb e=>(hs4.2 b hb).trans e) nC CL (.inr (Nat.le_trans I2.sz hC)) Ant (fun p hp z=>?_),q⟩
  · have:=Nat.lt_of_lt_of_le (Heap.lt_size (I2.pin p hp).1) hC
    rw [z] at this
    exact Nat.lt_irrefl _ this
end
open PySem PySem.Spec PyProof.Rows
def Its (x:Str):It:=⟨fun i _=>i < x.cps.size,fun i H v H'=>H'=H∧∃ c,x.cps[i]?=some c∧v=.str ⟨#[c]⟩,fun i _=>x.cps.size≤i⟩
theorem AqB {P:Program} {w:World} {K:PySem.W.Frag} {tg:Expr} (it:Addr) (x:Str) (t:Tok):Turn P w K tg (Its x) [it] it (fun i h=>i≤x.cps.size∧h.IsStrIter it "str_ascii_iterator" x t i) where
  mem:=by simp
  obj:=fun i h st b hb=>by
    have e:b=it:=by simpa using hb
    subst e
    obtain ⟨_,o,e,c,d⟩:=st
    exact ⟨o,e,fun v z=>by rw [d] at z; cases z⟩
  keep:=fun i h h' st k=>by
    obtain ⟨hl,o,e,c,d⟩:=st
    exact ⟨hl,o,k it (by simp) o e,c,d⟩
  item:=by
    intro X hP hw hK hc i pins s σ H E I hf st hg
    subst hP hw hK
    obtain ⟨hl,st⟩:=st
    have hg:i < x.cps.size:=hg
    obtain ⟨f0,f1,f2,f3,f4,f5⟩:=hf it (by simp)
    have hx:x.cps[i]?=some x.cps[i]:=by simp [hg]
    refine wpAny_pyNext_ascii_item st hx fun h' st' sb=>?_
    have I1:Inv X pins σ H { s with heap:=h',toks:=s.toks+1 }:=I.turned (fun b o hb e=>(sb.2 b hb).trans e) f0 f1 f3 f4 f5
    obtain ⟨o,e,c,d⟩:=id st'
    exact ⟨_,rfl,Ap9 (s:={ s with heap:=h',toks:=s.toks+1 }) e c d (by decide) ⟨.str ⟨#[x.cps[i]]⟩,H,I1,⟨_,rfl⟩,⟨rfl,_,hx,rfl⟩,⟨hg,st'⟩,fun b hb=>(hf b hb).1⟩⟩
  done:=by
    intro X hP hw hK hc i pins s σ H E I hf st hg
    subst hP hw hK
    obtain ⟨hl,st⟩:=st
    have hg:x.cps.size≤i:=hg
    obtain ⟨f0,f1,f2,f3,f4,f5⟩:=hf it (by simp)
    exact wpAny_pyNext_ascii_end (I.ok.hd hc) st (by simp; omega) fun h' eb=>⟨rfl,I.turned (t':=s.toks) (fun b o hb e=>eb b o hb e) f0 f1 f3 f4 f5⟩
  self:=fun _ _ _ _ _ st h=>wpAny_pyIter_striter_ascii st.2 h
theorem AqC {P:Program} {w:World} {K:PySem.W.Frag} {tg:Expr} (it:Addr) (x:Str) (t:Tok):Turn P w K tg (Its x) [it] it (fun i h=>i≤x.cps.size∧h.IsStrIter it "str_iterator" x t i) where
  mem:=by simp
  obj:=fun i h st b hb=>by
    have e:b=it:=by simpa using hb
    subst e
    obtain ⟨_,o,e,c,d⟩:=st
    exact ⟨o,e,fun v z=>by rw [d] at z; cases z⟩
  keep:=fun i h h' st k=>by
    obtain ⟨hl,o,e,c,d⟩:=st
    exact ⟨hl,o,k it (by simp) o e,c,d⟩
  item:=by
    intro X hP hw hK hc i pins s σ H E I hf st hg
    subst hP hw hK
    obtain ⟨hl,st⟩:=st
    have hg:i < x.cps.size:=hg
    obtain ⟨f0,f1,f2,f3,f4,f5⟩:=hf it (by simp)
    have hx:x.cps[i]?=some x.cps[i]:=by simp [hg]
    refine wpAny_pyNext_wide_item st hx fun h' st' sb=>?_
    have I1:Inv X pins σ H { s with heap:=h',toks:=s.toks+1 }:=I.turned (fun b o hb e=>(sb.2 b hb).trans e) f0 f1 f3 f4 f5
    obtain ⟨o,e,c,d⟩:=id st'
    exact ⟨_,rfl,Ap9 (s:={ s with heap:=h',toks:=s.toks+1 }) e c d (by decide) ⟨.str ⟨#[x.cps[i]]⟩,H,I1,⟨_,rfl⟩,⟨rfl,_,hx,rfl⟩,⟨hg,st'⟩,fun b hb=>(hf b hb).1⟩⟩
  done:=by
    intro X hP hw hK hc i pins s σ H E I hf st hg
    subst hP hw hK
    obtain ⟨hl,st⟩:=st
    have hg:x.cps.size≤i:=hg
    obtain ⟨f0,f1,f2,f3,f4,f5⟩:=hf it (by simp)
    exact wpAny_pyNext_wide_end (I.ok.hd hc) st (by simp; omega) fun h' eb=>⟨rfl,I.turned (t':=s.toks) (fun b o hb e=>eb b o hb e) f0 f1 f3 f4 f5⟩
  self:=fun _ _ _ _ _ st h=>wpAny_pyIter_striter_wide st.2 h
section
variable {X:Cx} {tg:Expr}
def AxV (tl:TE):TI:=fun σ H R=>tl σ H fun x H1=>∃ z,x=.str z∧R (Its z) H1
theorem Avt {l:Expr} {tl:TE} (hl:PE X l tl):PI X tg l (AxV tl):=by
  intro pins s σ H R I h
  refine thn (hl pins s σ H _ I h) fun v s1 ⟨x,H1,I1,r1,q1⟩=>?_
  obtain ⟨z,e,q⟩:=q1
  subst e
  obtain ⟨t,rfl⟩:=r1
  have fpn:∀ b∈[s1.heap.objs.size],Rj X pins H1 b:=fun b hb=>by
    have e:b=s1.heap.objs.size:=by simpa using hb
    subst e
    exact I1.At4 (Nat.le_refl _) (I1.hok.fresh (Nat.le_refl _))
  cases ha:z.cps.all (· < 128)
  · refine wpAny_pyIter_wide ha ?_
    exact ⟨s1.heap.objs.size,[s1.heap.objs.size],_,_,H1,rfl,I1.kept (t':=s1.toks) fun b o e=>Heap.get?_push_of_some _ e,AqC _ z t,⟨Nat.zero_le _,_,Heap.get?_push_size _ rfl,rfl,rfl⟩,fpn,q⟩
  · refine wpAny_pyIter_ascii ha ?_
    exact ⟨s1.heap.objs.size,[s1.heap.objs.size],_,_,H1,rfl,I1.kept (t':=s1.toks) fun b o e=>Heap.get?_push_of_some _ e,AqB _ z t,⟨Nat.zero_le _,_,Heap.get?_push_size _ rfl,rfl,rfl⟩,fpn,q⟩
end
theorem AtK {z:Str} {g:TG} {tb:TS} {D:Ends} {σ:St} {H:Hp} (Pv:Nat→St→Hp→Prop) (h0:Pv 0 σ H)
    (hs:∀ i c σ H,z.cps[i]?=some c→Pv i σ H→g (.str ⟨#[c]⟩) σ H fun σ2 H2=>tb { D with nx:=Pv (i+1),ct:=Pv (i+1),bk:=D.nx } σ2 H2) (hd:∀ σ H,Pv z.cps.size σ H→D.nx σ H) :
    ∃ W:Nat→Nat→St→Hp→Prop,(∃ m,W 0 m σ H)∧∀ i m σ H,W i m σ H →
      ((Its z).stop i H∧D.nx σ H)∨((Its z).go i H∧∃ N:St→Hp→Prop,(∀ σ' H',N σ' H'→∃ m',m' < m∧W (i+1) m' σ' H')∧∀ x H',(Its z).yld i H x H'→g x σ H' fun σ2 H2=>tb { D with nx:=N,ct:=N,bk:=D.nx } σ2 H2):=by
  refine ⟨fun i m σ H=>m=z.cps.size - i∧i≤z.cps.size∧Pv i σ H,⟨z.cps.size,by simp,Nat.zero_le _,h0⟩,?_⟩
  rintro i m σ H ⟨rfl,hi,p⟩
  by_cases hlt:i < z.cps.size
  · refine .inr ⟨hlt,Pv (i+1),fun σ' H' p'=>⟨z.cps.size - (i+1),by omega,rfl,hlt,p'⟩,fun x H' y=>?_⟩
    obtain ⟨e,c,hc,rfl⟩:=y
    subst e
    exact hs i c σ _ hc p
  · have e:i=z.cps.size:=by omega
    subst e
    exact .inl ⟨Nat.le_refl _,hd σ H p⟩
def CN (n:Nat) (Pv:Nat→List V→Hp→Prop) (i:Nat) (ys:List V) (H:Hp):Prop:=∃ m',m' < n - i∧m'=n - (i+1)∧i+1≤n∧Pv (i+1) ys H
theorem CN.of {n:Nat} {Pv:Nat→List V→Hp→Prop} {i:Nat} {ys:List V} {H:Hp} (h:i < n) (p:Pv (i+1) ys H):CN n Pv i ys H:=⟨n - (i+1),by omega,rfl,h,p⟩
def Hy (n:Nat) (Pv:Nat→List V→Hp→Prop) (tc:TT) (te:TE) (σ:St) (i:Nat) (ys:List V) (H:Hp):Prop :=
  tc σ H fun b H2=>if b=true then te σ H2 fun y H3=>CN n Pv i (ys++[y]) H3 else CN n Pv i ys H2
theorem Hy.no {n:Nat} {Pv:Nat→List V→Hp→Prop} {te:TE} {σ:St} {i:Nat} {ys:List V} {H:Hp} (h:te σ H fun y H3=>CN n Pv i (ys++[y]) H3):Hy n Pv AlM te σ i ys H:=by
  unfold Hy AlM
  exact Ak4 h
theorem Dk {K:PySem.W.Frag} {a:Addr} {xs:List V} {Bl:List Nat} {tc:TT} {te:TE} {σ:St} {H:Hp} {Q:VK} (Pv:Nat→List V→Hp→Prop) (h0:Pv 0 [] H) (hl:∀ i ys H,i≤xs.length→Pv i ys H→SqL K H a xs∧ys.length≤i)
    (hz:xs.length≤sizeLine) (hs:∀ i x ys H,i < xs.length→xs[i]?=some x→Pv i ys H→Hy xs.length Pv tc te (some x::J2 σ Bl) i ys H)
    (hd:∀ ys H p,Pv xs.length ys H→H p=none→Q (.ref p) (upd H p (.lst ys))):Aiy Bl tc te (Itl K a) σ H Q:=by
  refine ⟨fun i m ys H=>m=xs.length - i∧i≤xs.length∧Pv i ys H,⟨xs.length,by simp,Nat.zero_le _,h0⟩,?_⟩
  rintro i m ys H ⟨rfl,hi,p⟩
  obtain ⟨q,hy⟩:=hl i ys H hi p
  by_cases hlt:i < xs.length
  · refine .inr ⟨⟨xs,xs[i],q,by simp [hlt]⟩,by omega,fun x H' y=>?_⟩
    obtain ⟨e,y⟩:=y
    subst e
    exact hs i x ys _ hlt (y xs q) p
  · have e:i=xs.length:=by omega
    subst e
    exact .inl ⟨⟨xs,q,Nat.le_refl _⟩,by omega,fun p' hp=>hd ys H p' p hp⟩
theorem Yr {lo:Int} {n:Nat} {Bl:List Nat} {tc:TT} {te:TE} {σ:St} {H:Hp} {Q:VK} (Pv:Nat→List V→Hp→Prop) (h0:Pv 0 [] H) (hl:∀ i ys H,i≤n→Pv i ys H→ys.length≤i)
    (hz:n≤sizeLine) (hs:∀ i ys H,i < n→Pv i ys H→Hy n Pv tc te (some (.int (lo+i))::J2 σ Bl) i ys H)
    (hd:∀ ys H p,Pv n ys H→H p=none→Q (.ref p) (upd H p (.lst ys))):Aiy Bl tc te (Itr lo n) σ H Q:=by
  refine ⟨fun i m ys H=>m=n - i∧i≤n∧Pv i ys H,⟨n,by simp,Nat.zero_le _,h0⟩,?_⟩
  rintro i m ys H ⟨rfl,hi,p⟩
  have hy:=hl i ys H hi p
  by_cases hlt:i < n
  · refine .inr ⟨hlt,by omega,fun x H' y=>?_⟩
    obtain ⟨e,y⟩:=y
    subst e y
    exact hs i ys _ hlt p
  · have e:i=n:=by omega
    subst e
    exact .inl ⟨Nat.le_refl _,by omega,fun p' hp=>hd ys H p' p hp⟩
theorem AoM {ys:List Str}:∀ {us:List Value},Vals (ys.map V.str) us→StrsAre us ys:=by
  induction ys with
  | nil=>intro us r; rw [List.map_nil] at r; cases r; exact .nil
  | cons n ns ih =>
    intro us r
    rw [List.map_cons] at r
    cases r with
    | cons r1 r2 =>
      obtain ⟨t,e⟩:=r1
      subst e
      exact .cons n t (ih r2)
def rJoin (K:PySem.W.Frag):V→List V→Hp→VK→Prop:=fun x vs H Q=>∃ z a ys,x=.str z∧vs=[.ref a]∧SqL K H a (ys.map V.str)∧(ys.map (·.length)).sum+ys.length * z.length≤16777216∧Q (.str (Txt.join z ys)) H
section
variable {X:Cx}
theorem AtL:MtR X "str.join" (rJoin X.K):=by
  intro pins s σ H x vs v us Q I rx rv h
  obtain ⟨z,a,ys,rfl,rfl,hq,hz,q⟩:=h
  obtain ⟨t,rfl⟩:=rx
  obtain ⟨u,rfl,ru⟩:=rv.one
  cases ru
  obtain ⟨its,r,pl,hl⟩:=I.list hq
  exact join_list pl.isList (AoM (by simpa using r)) hz fun t' k=>⟨.str _,H,I.tok _,⟨_,rfl⟩,q⟩
def AwN (K:PySem.W.Frag):List V→Hp→VK→Prop:=fun vs H Q=>∃ x t b,AdT K H x t ∧
  ((∃ n,vs=[x,.ty n]∧PySem.W.kitOne K t (.type n)=some b)∨(∃ a,vs=[x,.ref a]∧PySem.W.kitOne K t (.ref a)=some b))∧Q (.bl b) H
theorem ArD:Nz X (.builtin "isinstance") (AwN X.K):=by
  intro pins s σ H xs us Q I rv h
  obtain ⟨x,t,b,ty,hv,q⟩:=h
  rcases hv with ⟨n,rfl,e⟩ | ⟨a,rfl,e⟩
  · obtain ⟨u1,u2,rfl,r1,r2⟩:=rv.two
    cases r2
    exact Ald I r1 ty e fun tk=>⟨.bl b,H,I.tok _,rfl,q⟩
  · obtain ⟨u1,u2,rfl,r1,r2⟩:=rv.two
    cases r2
    exact Ald I r1 ty e fun tk=>⟨.bl b,H,I.tok _,rfl,q⟩
def eqL:List V→List V→Bool
  | [],[]=>true
  | x::xs,y::ys=>eqV x y && eqL xs ys
  | _,_=>false
theorem Ai3 {x:V} (h:GQ x=true):eqV x x=true:=by
  cases x with
  | non=>rfl
  | bl b=>simp [eqV]
  | int i=>simp [eqV]
  | str z=>simp [eqV]
  | _=>exact absurd (show false=true from h) Bool.false_ne_true
theorem AdX:∀ {xs:List V},xs.all GQ=true→eqL xs xs=true
  | [],_=>rfl
  | x::xs,h=>by
    rw [List.all_cons,Bool.and_eq_true] at h
    rw [eqL,Ai3 h.1,AdX h.2]
    rfl
theorem Aid:∀ {xs ys:List V},xs.length≠ys.length→eqL xs ys=false
  | [],[],h=>absurd rfl h
  | [],_::_,_=>rfl
  | _::_,[],_=>rfl
  | x::xs,y::ys,h=>by
    rw [eqL,Aid (xs:=xs) (ys:=ys) (fun z=>h (by rw [List.length_cons,List.length_cons,z])),Bool.and_false]
theorem AbU:∀ {xs ys:List V},xs.length=ys.length→(List.range xs.length).all (fun j=>eqV (xs.getD j .non) (ys.getD j .non))=eqL xs ys
  | [],[],_=>rfl
  | [],_::_,h=>by simp at h
  | _::_,[],h=>by simp at h
  | x::xs,y::ys,h=>by
    have h':xs.length=ys.length:=by simpa using h
    rw [List.length_cons,List.range_succ_eq_map,List.all_cons,List.all_map]
    rw [eqL,← AbU h']
    rfl
def AyX (K:PySem.W.Frag):R2:=fun x y H Q=>∃ p q xs ys,x=.ref p∧y=.ref q∧SqL K H p xs∧SqL K H q ys∧xs.all GQ=true∧ys.all GQ=true∧Q (.bl (eqL xs ys)) H
end
open PySem
def tx (l:List Nat):Str:=⟨l.toArray⟩
theorem Bt (l:List Nat):(tx l).length=l.length:=by simp [tx,Str.length]
theorem O4 (l:List Nat):(tx l).cps.toList=l:=by simp [tx]
theorem AoN (l:List Nat) (i:Nat):(tx l).cps[i]?=l[i]?:=by simp [tx]
theorem AwO (z:Str):tx z.cps.toList=z:=by cases z; simp [tx]
theorem Age (a b:List Nat):tx a++tx b=tx (a++b):=by
  show Str.append (tx a) (tx b)=_
  simp [tx,Str.append]
theorem Adl {a b:List Nat} (h:tx a=tx b):a=b:=by
  have:=congrArg (fun z:Str=>z.cps.toList) h
  simpa [tx] using this
theorem AlN (c:Nat):(⟨#[c]⟩:Str)=tx [c]:=rfl
theorem Alk:∀ (ys:List (List Nat)) (acc:Array Nat),(ys.map tx).foldl (fun acc p=>acc++(tx []).cps++p.cps) acc=acc++ys.flatten.toArray
  | [],acc=>by simp
  | y::ys,acc=>by
    rw [List.map_cons,List.foldl_cons,Alk ys]
    simp [tx]
theorem AlO:∀ (ys:List (List Nat)),Txt.join (tx []) (ys.map tx)=tx ys.flatten
  | []=>by simp [Txt.join,Builtin.Str.glued,tx,Str.empty]
  | y::ys=>by
    show Str.mk _=_
    simp only [List.map_cons,List.drop_one,List.tail_cons,List.headD_cons]
    rw [Alk]
    simp [tx]
theorem Alm {α:Type} (f:α→Nat):∀ (l:List α),(l.map fun c=>[f c]).flatten=l.map f
  | []=>rfl
  | a::l=>by rw [List.map_cons,List.flatten_cons,Alm f l]; rfl
theorem AtM {α:Type} (f:α→Nat):∀ (l:List α),(((l.map fun c=>[f c]).map tx).map (·.length)).sum=l.length
  | []=>rfl
  | a::l=>by
    rw [List.map_cons,List.map_cons,List.map_cons,List.sum_cons,AtM f l,Bt,List.length_cons]
    show 1+l.length=l.length+1
    omega
end L2
namespace PySem
open Sem (wp)
open Builtin Builtin.Str Builtin.Int
namespace RV
end RV
def AyY (x:Str) (t:Tok) (i:Int):Obj:={ cls:=.type "reversed", data:=.fields #[.str x t,rawInt i] }
def Heap.Avu (h:Heap) (a:Addr) (x:Str) (t:Tok) (i:Int):Prop:=∃ o,h.get? a=some o∧o.cls=.type "reversed" ∧ o.data=.fields #[.str x t,rawInt i]
section
variable {prog:Program} {w:World} {A:Around} {E:Value→Shared→Prop} {s:Shared}
end
end PySem
namespace L2
open PySem PySem.Spec PyProof.Rows
def AyZ (p:Addr) (x:Str):HO:=.ext fun h=>∃ t,h.Avu p x t ((x.length:Int) - 1)
def Aza (p:Addr):HO:=.ext fun h=>∃ o,h.get? p=some o
section
variable {X:Cx}
theorem AoO (hc:X.calm=true:=by rfl):Nz X (.builtin "max") (fun xs H Q=>∃ i j,xs=[.int i,.int j]∧Q (.int (if j > i then j else i)) H):=Aq1 hc
end
open PySem PySem.Spec PyProof.Rows
theorem Gi {c A B:Prop} [Decidable c] (h:¬ c) (k:B):if decide c=true then A else B:=by rw [decide_eq_false h]; exact Jc k
theorem Ai4 {c A B:Prop} [Decidable c] (h:c) (k:A):if decide c=true then A else B:=by rw [decide_eq_true h]; exact Ak4 k
theorem ArE {c A B:Prop} [Decidable c] (h:¬ c) (k:A):if (!decide c)=true then A else B:=by rw [decide_eq_false h]; exact Ak4 k
theorem Qu {c A B:Prop} [Decidable c] (h1:c→A) (h2:¬ c→B):if decide c=true then A else B:=by
  by_cases h:c
  · exact Ai4 h (h1 h)
  · exact Gi h (h2 h)
theorem Ax.upd {H:Hp} {p:Addr} {o:HO} (h:H p=none):Ax H (L2.upd H p o):=fun b o' e=>by rw [Be (Ce e h)]; exact e
theorem Ax.new {H H1:Hp} {p:Addr} {o:HO} (e:Ax H H1) (h:H1 p=none):Ax H (L2.upd H1 p o):=e.trans (.upd h)
theorem Ax.over {H H1:Hp} {p:Addr} {o:HO} (e:Ax H H1) (h:H p=none):Ax H (L2.upd H1 p o):=fun b o' q=>by rw [Be (Ce q h)]; exact e b o' q
theorem Cd:bootBuiltins "len" = some (.builtin "len"):=by decide +kernel
theorem Dl:bootBuiltins "isinstance" = some (.builtin "isinstance"):=by decide +kernel
theorem ArF:bootBuiltins "abs" = some (.builtin "abs"):=by decide +kernel
theorem Avv:bootBuiltins "max" = some (.builtin "max"):=by decide +kernel
theorem Avw:bootBuiltins "sum" = some (.builtin "sum"):=by decide +kernel
theorem AqD:bootBuiltins "sorted" = some (.builtin "sorted"):=by decide +kernel
theorem Jk:bootBuiltins "list" = some (.type "list"):=by decide +kernel
theorem AoP:bootBuiltins "str" = some (.type "str"):=by decide +kernel
theorem AoQ:bootBuiltins "int" = some (.type "int"):=by decide +kernel
theorem Avx:bootBuiltins "zip" = some (.type "zip"):=by decide +kernel
theorem ApI:bootBuiltins "bool" = some (.type "bool"):=by decide +kernel
theorem Anu:bootBuiltins "range" = some (.type "range"):=by decide +kernel
theorem Avy:bootBuiltins "set" = some (.type "set"):=by decide +kernel
structure Df (K:PySem.W.Frag) (mg:Str→Option Value) (x:Str) (st:Stmt) (ps:List Str) (f:Addr) (fd:FuncData):Prop where
  F:Fun K x x st f fd
  m:mg x=some (.ref f)
  b:Binds K fd ps []
def vS (cl:List (List Nat)):List V:=cl.map fun t=>V.str (tx t)
def vI (ns:List Int):List V:=ns.map V.int
theorem Cz (cl:List (List Nat)):(vS cl).length=cl.length:=by unfold vS; rw [List.length_map]
theorem Bd (ns:List Int):(vI ns).length=ns.length:=by unfold vI; rw [List.length_map]
theorem ArG {cl:List (List Nat)} {i:Nat} {t:List Nat} (h:cl[i]?=some t):(vS cl)[i]?=some (.str (tx t)):=by unfold vS; rw [List.getElem?_map,h]; rfl
theorem RT {ns:List Int} {i:Nat} {n:Int} (h:ns[i]?=some n):(vI ns)[i]?=some (.int n):=by unfold vI; rw [List.getElem?_map,h]; rfl
theorem Aaj {cl:List (List Nat)} {i:Nat} {v:V} (h:(vS cl)[i]?=some v):∃ t,cl[i]?=some t∧v=.str (tx t):=by
  unfold vS at h
  rw [List.getElem?_map] at h
  cases e:cl[i]? with
  | none=>rw [e] at h; cases h
  | some t=>rw [e] at h; exact ⟨t,rfl,(Option.some.inj h).symm⟩
theorem Ku {ns:List Int} {i:Nat} {v:V} (h:(vI ns)[i]?=some v):∃ t,ns[i]?=some t∧v=.int t:=by
  unfold vI at h
  rw [List.getElem?_map] at h
  cases e:ns[i]? with
  | none=>rw [e] at h; cases h
  | some t=>rw [e] at h; exact ⟨t,rfl,(Option.some.inj h).symm⟩
theorem AlP (ns:List Int):(vI ns).all GQ=true:=by unfold vI; rw [List.all_map]; exact List.all_eq_true.mpr fun _ _=>rfl
theorem Aie (cl:List (List Nat)):(vS cl).all GQ=true:=by unfold vS; rw [List.all_map]; exact List.all_eq_true.mpr fun _ _=>rfl
theorem Wf (cl:List (List Nat)):vS cl=(cl.map tx).map V.str:=by unfold vS; rw [List.map_map]; rfl
theorem ArH (ns:List Int) (j:Nat) (n:Int):(vI ns).set j (.int n)=vI (ns.set j n):=by unfold vI; rw [List.map_set]
theorem Wg (ns:List Int) (n:Int):vI ns++[.int n]=vI (ns++[n]):=by unfold vI; rw [List.map_append]; rfl
theorem Ml (cl:List (List Nat)) (t:List Nat):vS cl++[.str (tx t)]=vS (cl++[t]):=by unfold vS; rw [List.map_append]; rfl
theorem Fw {α:Type} {xs:List α} {i:Int} {v:α} (h0:0≤i) (h:xs[i.toNat]?=some v):atI xs i=some v:=by
  have e:i=(i.toNat:Int):=by omega
  rw [e]
  exact AlF h
theorem AoR {n:Nat} {i:Int} (h0:0≤i) (h:i < n):ixN n i=some i.toNat:=by unfold ixN; rw [if_pos h0,if_pos h]
open PySem PySem.Spec PyProof.Rows
section
variable {X:Cx} {K:PySem.W.Frag} {tg:Expr}
theorem Az (hK:X.K=K:=by rfl):IxR X (Avo K):=by subst hK; exact AtC
theorem O5 (hK:X.K=K:=by rfl):IxR X (Avp K):=by subst hK; exact Avq
theorem Ai5 (hK:X.K=K:=by rfl):OpR X (compareOp .In) (rIn K false):=by subst hK; exact Aq6
theorem Acx (hK:X.K=K:=by rfl):OpR X (compareOp .NotIn) (rIn K true):=by subst hK; exact AlJ
theorem An (hK:X.K=K:=by rfl):Nz X (.builtin "len") (fun xs H Q=>∃ p ys,xs=[.ref p]∧(SqL K H p ys∨SqT K H p ys)∧Q (.int ys.length) H):=by subst hK; exact AlK
theorem Hq (hK:X.K=K:=by rfl):Nz X (.type "list") (fun xs H Q=>∃ p ys,xs=[.ref p]∧(SqL K H p ys∨SqT K H p ys)∧∀ l,H l=none→Q (.ref l) (upd H l (.lst ys))):=by subst hK; exact AlL
theorem HF (hK:X.K=K:=by rfl):Nz X (.builtin "isinstance") (AwN K):=by subst hK; exact ArD
theorem Mm (hK:X.K=K:=by rfl):MtR X "str.join" (rJoin K):=by subst hK; exact AtL
theorem AdY (hK:X.K=K:=by rfl):SlR X (AwJ K):=by subst hK; exact AtD
theorem Br {l:Expr} {tl:TE} (hl:PE X l tl) (hK:X.K=K:=by rfl):PI X tg l (AuB K tl):=by subst hK; exact At5 hl
theorem AqE {a:Expr} {ta:TE} (ha:PE X a ta) (he:∀ whole,isTrue a X.env whole=(do let v ← whole; standAt a.pos; holding [v] (truthy v))) (hK:X.K=K:=by rfl) :
    PT X a (fun σ H Q=>ta σ H fun x H'=>∃ k,Avf K x H' k∧Q k H'):=by subst hK; exact Ar1 ha he
variable {o e:Expr} {es:List Expr} {to:TE} {t:TA} {name:Str} {apos cpos:Pos} {T id:String} {r:V→List V→Hp→VK→Prop}
theorem Gg (pa:PlainAttrs T) (slot:Slot T name id) (hty:typeOf (.builtin id)=pure (.type "method_descriptor")) (hm:MtR X id r) (ho:PE X o to) (ha:PA X (e::es) t)
    (hbase:attributeBase o name X.env (eval o X.env)=eval o X.env:=by rfl)
    (hfew:((backTo cpos (starEach (e::es) X.env)).all (fun x=>!x.1) && (backToKw cpos (keywordEach [] X.env)).all (fun x=>x.1.isSome)
      && decide ((e::es).length+([]:List Keyword).length+(if ([]:List Keyword).isEmpty then 0 else 1) < 30))=true:=by rfl)
    (hline:(apos.endLine == cpos.line)=true:=by rfl) (hs:starEach (e::es) X.env=(false,eval e X.env)::starEach es X.env:=by rfl) (hplain:(backTo cpos (starEach es X.env)).any (·.1)=false:=by rfl) (hK:X.K=K:=by rfl) :
    PE X (.Call (.Attribute o name apos) (e::es) [] cpos) (tBM K T r to t):=by
  subst hK
  exact AwK pa slot hty hm ho ha hbase hfew hline hs hplain
end
open PySem PySem.Spec PyProof.Rows
abbrev exO (C t:Addr) (tb:Value):Obj:={ cls:=.ref C,data:=.fields #[.ref t,tb,.none,.none,.bool false,.none] }
structure Fx (B:Heap) (l:List Env) (e C t:Addr) (fl:Value) (h:Heap):Prop where
  st:B.StaysIn h
  ne:B.get? e=none
  fr:h.FunFrames B l
  ob:∃ (T:Addr) (oT:Obj) (ts:Array Value),h.get? e=some (exO C t (.ref T))∧B.get? T=none∧T≠e∧h.get? T=some oT∧oT.data=.fields ts∧ts[3]?=some fl
section
variable {M:Model} {A:Around} {E:Value→Shared→Prop} {s:Shared} {B:Heap} {env:Env} {l:List Env} {e C t L:Addr}
end
open PySem PySem.Spec PyProof.Rows
section
variable {M:Model} {A:Around} {E:Value→Shared→Prop} {s:Shared} {B:Heap} {env:Env} {l:List Env} {e C t L:Addr}
end
structure Bk (P:Program) (w:World) (outer:List Env) (H:Hp) (h:Heap) (H':Hp) (B h':Heap):Prop where
  ok:HOk P w H' B
  keep:∀ b o,h.get? b=some o→H b=none→b∉frs outer→B.get? b=some o
  slot:∀ b o,h.get? b=some o→b∈frs outer→∃ sl,h'.get? b=some { o with slots:=sl }
  free:∀ b o,h.get? b=some o→H b=none→H' b=none
  there:∀ b o,h.get? b=some o→b∉frs outer→∃ o',B.get? b=some o'
  tups:∀ b xs,H b=some (.tup xs)→H' b=some (.tup xs)
  Adg:∀ b o u,H b=some (.frz o u)→H' b=some (.frz o u)
  AfY:∀ b ps,H b=some (.tbl ps)→∃ more,H' b=some (.tbl (ps++more))
def CX1 (P:Program) (w:World):CXT:=fun outer H s E e s'=>∃ ea C t H' B,e=.ref ea∧Fx B outer ea C t .none s'.heap∧s'.os=s.os∧AllBare s'.gens∧Bk P w outer H s.heap H' B s'.heap∧E (.ref C) none H'
inductive Fly (B:Heap) (l:List Env) (L ea C t:Addr) (h:Heap):Prop where
  | new (st:B.StaysIn h) (ne:B.get? ea=none) (fr:h.FunFrames B l) (ob:h.get? ea=some (exO C t .none))
  | came (x:Fx B l ea C t .none h)
  | seen (x:Fx B l ea C t (rawInt L) h)
def FlX (X:Cx) (E:XK):Value→Shared→Prop:=fun e s'=>∃ ea C t H' B,e=.ref ea∧Fly B X.stack X.env.locals ea C t s'.heap∧s'.os=X.s₀.os∧AllBare s'.gens∧Bk X.prog X.w X.outer X.H₀ X.s₀.heap H' B s'.heap∧E (.ref C) none H'
structure Body (X:Cx):Prop where
  stack:X.stack=X.env::X.outer
  frame:X.env.frame=some X.env.locals
  ex:X.ex=[]
section
variable {X:Cx} {pins:List (Addr × Obj)} {σ:St} {H:Hp} {s s':Shared} {E:XK} {e:Value}
end
open PySem PySem.Spec PyProof.Rows
def AxW (K:PySem.W.Frag) (C:Addr):List Value:=match K.lookup C with
  | some ⟨_,_,.cls cd,_⟩=>cd.mro
  | _=>[]
def AxX (C:Addr) (E:XK) (t:TA):TS:=fun _ σ H=>t σ H fun vs H1=>vs.length≤sizeLine∧E (.ref C) none H1
section
variable {X:Cx} {x:Str} {C:Addr} {bmB bmN:List Value} {B Bn nid Azb iid Azc:String} {E:XK} {e:Expr} {es:List Expr} {t:TA} {np cpos pos:Pos}
end
abbrev cx1 (P:Program) (w:World) (K:PySem.W.Frag) (mg:Str→Option Value) (base:Heap) (N:List Str) (qual:Str) (scope:Scope) (f:Addr) (cd:Value) (A:Around) (outer:List Env) (s:Shared) (H:Hp) (E:XK):Cx :=
  (Anl (CX1 P w) P w K mg base N qual scope f cd A outer s H E).wish (FlX (Anl (CX1 P w) P w K mg base N qual scope f cd A outer s H E) E)
section
variable {P:Program} {w:World} {K:PySem.W.Frag} {mg:Str→Option Value} {base:Heap}
end
def PEX (X:Cx) (e:Expr) (t:XK→TE):Prop:=∀ (pins:List (Addr × Obj)) (s:Shared) (σ:St) (H:Hp) (Q:VK) (E:XK),Inv X pins σ H s→t E σ H Q →
  wpAny (model X.prog X.w) X.A (eval e X.env) (EP X pins σ Q) (fun ex s'=>∃ H1 s1,Inv X pins σ H1 s1∧CX1 X.prog X.w X.stack H1 s1 E ex s') s
section
variable {X:Cx} {k:Nat} {f C:Addr} {fd:FuncData} {ps:List Str} {sp:Sp} {dvs:List V} {ds:List Value} {x m:Str} {p pos apos:Pos} {e o:Expr} {es:List Expr} {ta:TE} {t:TA}
end
open PySem PySem.Spec PyProof.Rows
def exH (C a:Addr):HO:=.ext fun h=>∃ t tb,h.get? a=some (exO C t tb)
section
variable {X:Cx} {pins:List (Addr × Obj)} {σ:St} {H H':Hp} {s s':Shared} {B h2:Heap} {ea C t:Addr} {fl:Value}
abbrev Cx.hdl (X:Cx) (e:Addr):Cx:={ X with A:=X.A.mark (some (.ref e)),calm:=false,xe:=fun _ _=>False }
end
open PySem PySem.Spec PyProof.Rows
section
variable {M:Model} {A:Around} {E:Value→Shared→Prop} {h:Heap} {g:Array GenState} {d:Drawn} {t:Nat} {os:OsState}
end
abbrev WX (X:Cx) (pins:List (Addr × Obj)) (σ:St) (E:XK):Value→Shared→Prop:=fun ex s'=>∃ H1 s1,Inv X pins σ H1 s1∧CX1 X.prog X.w X.stack H1 s1 E ex s'
def PSX (X:Cx) (st:Stmt) (t:XK→TS):Prop:=∀ (pins:List (Addr × Obj)) (s:Shared) (σ:St) (H:Hp) (D:Ends) (E:XK),Inv X pins σ H s→t E D σ H→wpAny (model X.prog X.w) X.A (exec st X.env) (SP X pins D) (WX X pins σ E) s
def Azd (X:Cx) (st:List Stmt) (t:XK→TS):Prop:=∀ (pins:List (Addr × Obj)) (s:Shared) (σ:St) (H:Hp) (D:Ends) (E:XK),Inv X pins σ H s→t E D σ H→wpAny (model X.prog X.w) X.A (execs st X.env) (SP X pins D) (WX X pins σ E) s
section
variable {X:Cx} {e:Expr} {t u:XK→TS} {te:XK→TE} {pos:Pos} {st:Stmt}
abbrev Ends.un (D:Ends) (j:Nat):Ends:={ nx:=fun σ H=>D.nx (σ.set j none) H,rt:=D.rt,bk:=fun σ H=>D.bk (σ.set j none) H,ct:=fun σ H=>D.ct (σ.set j none) H }
def Sub (K:PySem.W.Frag) (C D:Addr):Prop:=(∃ bm nid,PySem.W.excIn K C bm nid=true)∧(AxW K C).contains (.ref D)=true
def Aze (K:PySem.W.Frag) (Ch:Addr) (j:Nat) (t:XK→TS) (ts:TS):TS:=fun D σ H=>t (fun c _ H'=>∃ C,c=.ref C∧Sub K C Ch∧∀ ea,H' ea=none→ts (D.un j) (σ.set j (some (.ref ea))) (upd H' ea (exH C ea))) D σ H
end
open PySem PySem.Spec PyProof.Rows
structure ExC (K:PySem.W.Frag) (C:Addr):Prop where
  ga:PySem.W.findIn K (.ref C) "__getattribute__" = some (some (.builtin "BaseException.__getattribute__"))
  gt:PySem.W.findIn K (.ref C) "__getattr__" = some none
  cl:PySem.W.findIn K (.ref C) "__class__" = some (some (.builtin "object.__class__"))
  gc:PySem.W.specialIn K (.builtin "object.__class__") "__get__" = some (some (.builtin "getset_descriptor.__get__"))
  tk:PySem.W.takesIn K (.builtin "object.__class__")=some true
  ob:PySem.W.mroIn K C (.type "object")=some true
  be:PySem.W.mroIn K C (.type "BaseException")=some true
  is:(PySem.W.clsIn K C).isSome=true
section
variable {prog:Program} {w:World} {A:Around} {E:Value→Shared→Prop} {s:Shared} {K:PySem.W.Frag} {x C t:Addr} {tb:Value}
end
def Azf (K:PySem.W.Frag):List V→Hp→VK→Prop:=fun vs H Q=>∃ a C b,H a=some (exH C a)∧ExC K C ∧
  ((∃ n,vs=[.ref a,.ty n]∧PySem.W.kitOne K (.ref C) (.type n)=some b)∨(∃ D,vs=[.ref a,.ref D]∧PySem.W.kitOne K (.ref C) (.ref D)=some b))∧Q (.bl b) H
section
variable {X:Cx} {K:PySem.W.Frag}
variable {CX:CXT} {k:Nat} {ps:List Str} {sp:Addr→Sp} {E:XK} {m:Str} {pos apos:Pos} {o:Expr} {ta:TE}
def AxY (K:PySem.W.Frag) (m:Str) (sp:Addr→Sp) (E:XK) (ta:TE):TE:=fun σ H Q=>ta σ H fun x H1=>∃ a C,x=.ref a∧H1 a=some (exH C a)∧sp C [x] H1 Q E
end
open PySem PySem.Spec PyProof.Rows
abbrev vE:List Value:=[.type "ValueError", .type "Exception", .type "BaseException", .type "object"]
abbrev vN:String := "ValueError.__new__"
structure Exn (K:PySem.W.Frag) (C:Addr):Prop where
  q:PySem.W.excIn K C vE vN=true
  c:ExC K C
  ty:PySem.W.typeIn K (.ref C)=some (.type "type")
  ve:PySem.W.mroIn K C (.type "ValueError")=some true
theorem Ai6 {K:PySem.W.Frag} {C:Addr} (q:PySem.W.excIn K C vE vN=true) (ga:PySem.W.findIn K (.ref C) "__getattribute__" = some (some (.builtin "BaseException.__getattribute__"))) (gt:PySem.W.findIn K (.ref C) "__getattr__" = some none)
    (cl:PySem.W.findIn K (.ref C) "__class__" = some (some (.builtin "object.__class__"))) (gc:PySem.W.specialIn K (.builtin "object.__class__") "__get__" = some (some (.builtin "getset_descriptor.__get__"))) (tk:PySem.W.takesIn K (.builtin "object.__class__")=some true)
    (ob:PySem.W.mroIn K C (.type "object")=some true) (be:PySem.W.mroIn K C (.type "BaseException")=some true) (is:PySem.W.isClsIn K C=true) (ty:PySem.W.typeIn K (.ref C)=some (.type "type")) (ve:PySem.W.mroIn K C (.type "ValueError")=some true):Exn K C :=
  ⟨q,⟨ga,gt,cl,gc,tk,ob,be,is⟩,ty,ve⟩
section
variable {X:Cx} {CX:CXT} {k:Nat} {C f:Addr} {fd:FuncData} {ps:List Str} {sp:Sp} {E:XK} {m:Str} {pos apos:Pos} {o:Expr} {ta:TE}
def AxZ (C:Addr) (sp:Sp) (E:XK) (ta:TE):TE:=fun σ H Q=>ta σ H fun x H1=>∃ a,x=.ref a∧H1 a=some (exH C a)∧sp [x] H1 Q E
end
def Hb (s:Stmt):List Stmt:=match s with
  | .ClassDef _ _ _ b _ _ _ _ _ _ _=>b
  | _=>[]
structure Mf (K:PySem.W.Frag) (x q:Str) (st:Stmt) (ps:List Str) (C f:Addr) (fd:FuncData):Prop where
  F:Fun K x q st f fd
  m:Meth K C x f
  b:Binds K fd ps []
theorem ArI (K:PySem.W.Frag):PySem.W.kitOne K (.type "int") (.type "bool")=some false:=by
  unfold PySem.W.kitOne PySem.W.kitCls PySem.W.subIn
  rw [if_neg (by simp)]
  show (if _ then _ else _)=_
  rw [if_pos (by decide +kernel)]
  show Option.map (fun x=>x.contains (Value.type "bool")) (fastBuiltinMro "int")=some false
  decide +kernel
open PySem PySem.Spec PyProof.Rows
open Builtin Builtin.Str
def AoS (u:List Nat) (lo hi:Option Int):List Nat:=(u.drop (HT.sIx u.length 0 lo)).take (HT.sIx u.length u.length hi - HT.sIx u.length 0 lo)
theorem Avz (a b:Nat):sliceRange (a:Int) (b:Int) 1=(List.range (b - a)).map fun k=>a+k:=by
  unfold sliceRange
  simp only [show (1:Int) > 0 by decide,if_true]
  by_cases h:(a:Int) < (b:Int)
  · rw [if_pos h,Int.ediv_one,show (b:Int) - (a:Int)+1 - 1=((b - a:Nat):Int) by omega,Int.toNat_natCast]
    exact List.map_congr_left fun k _=>by omega
  · rw [if_neg h,show b - a=0 by omega]
    rfl
theorem AbV (n d:Nat) (i:Int):max 0 (min (if i < 0 then i+(n:Int) else i) (n:Int))=(HT.sIx n d (some i):Int):=by
  show _=(((if i < 0 then (i+(n:Int)).toNat else min i.toNat n):Nat):Int)
  by_cases h:i < 0
  · rw [if_pos h,if_pos h]; omega
  · rw [if_neg h,if_neg h]; omega
theorem idx_eq (n:Nat) (lo hi:Option Int):strSliceIndices lo hi 1 n=(List.range (HT.sIx n n hi - HT.sIx n 0 lo)).map fun k=>HT.sIx n 0 lo+k:=by
  rw [← Avz]
  cases lo with
  | none =>
    cases hi with
    | none=>rfl
    | some j=>rw [← AbV]; rfl
  | some i =>
    cases hi with
    | none=>rw [← AbV n 0 i]; rfl
    | some j=>rw [← AbV n 0 i,← AbV n n j]; rfl
theorem ArJ (u:List Nat) (lo hi:Option Int):Txt.slice (tx u) lo hi=tx (AoS u lo hi):=by
  unfold Txt.slice AoS
  rw [Bt,idx_eq]
  have hle:HT.sIx u.length u.length hi≤u.length:=HT.Avn _ _ (Nat.le_refl _) _
  have key:∀ (a k:Nat),a+k≤u.length→((List.range k).map fun j=>a+j).filterMap (fun i=>(tx u).cps[i]?)=(u.drop a).take k:=by
    intro a k
    induction k with
    | zero=>intro _; simp
    | succ k ih =>
      intro h
      rw [List.range_succ,List.map_append,List.filterMap_append,ih (by omega)]
      have:a+k < u.length:=by omega
      simp only [List.map_cons,List.map_nil,List.filterMap_cons,List.filterMap_nil,AoN,List.getElem?_eq_getElem this]
      rw [List.take_succ,List.getElem?_drop,List.getElem?_eq_getElem this]
      rfl
  split
  next h =>
    simp only [List.length_map,List.length_range,Bool.and_eq_true,beq_iff_eq] at h
    have h2:=h.2
    have:HT.sIx u.length 0 lo=0∨u.length=0:=by omega
    rcases this with e | e
    · rw [e,List.drop_zero,List.take_of_length_le (by omega)]
    · rw [List.eq_nil_of_length_eq_zero e]; simp
  next h =>
    by_cases hlt:HT.sIx u.length 0 lo≤HT.sIx u.length u.length hi
    · show (Str.mk _)=_
      rw [key _ _ (by omega)]
      rfl
    · have e:HT.sIx u.length u.length hi - HT.sIx u.length 0 lo=0:=by omega
      rw [e]
      simp [tx]
section
variable {X:Cx}
theorem ArK:SlR X (fun x lo hi H Q=>∃ u:List Nat,x=.str (tx u)∧u.length≤sizeLine∧Q (.str (tx (AoS u lo hi))) H):=by
  intro pins s σ H x v vl vu lo hi sl Q I rx hs pl pu h
  obtain ⟨u,rfl,hz,q⟩:=h
  obtain ⟨t,rfl⟩:=rx
  rw [← ArJ] at q
  refine ⟨"str", _,F.slot_str_getitem.lookup,typeIs_str _ _ _,?_⟩
  have hsz:(tx u).length≤sizeLine:=by rw [Bt]; exact hz
  obtain ⟨os,hos,hcs,hds⟩:=id hs
  have fin:∀ (l u':Option (Int × Tok)),s.heap.IsSlice sl l u' none→Q (.str (Txt.slice (tx u) (l.map (·.1)) (u'.map (·.1)))) H→wpAny (model X.prog X.w) X.A (getItem (.str (tx u) t) (.ref sl)) (EP X pins σ Q) X.xe s:=fun l u' z q' =>
    wpAny_getItem_str_slice z rfl (post_val_or_str ⟨Nat.le_trans (Txt.slice_le (tx u) _ _) hsz,fun t' k=>⟨.str _,H,I.tok _,⟨t',rfl⟩,q'⟩⟩)
  cases pl with
  | none=>cases pu with
    | none=>exact fin none none ⟨os,hos,hcs,hds⟩ q
    | int j tj=>exact fin none (some (j,tj)) ⟨os,hos,hcs,hds⟩ q
  | int i ti=>cases pu with
    | none=>exact fin (some (i,ti)) none ⟨os,hos,hcs,hds⟩ q
    | int j tj=>exact fin (some (i,ti)) (some (j,tj)) ⟨os,hos,hcs,hds⟩ q
end
open PySem PySem.Spec PyProof.Rows
theorem Anv:∀ (xs:List V) (us:List Value),xs.length=us.length→(∀ (i:Nat) x u,xs[i]?=some x→us[i]?=some u→RelV x u)→Vals xs us
  | [],[],_,_=>.nil
  | [],_::_,h,_=>by simp at h
  | _::_,[],h,_=>by simp at h
  | x::xs,u::us,h,p=>.cons (p 0 x u rfl rfl) (Anv xs us (by simpa using h) fun i y v e1 e2=>p (i+1) y v e1 e2)
def ArL (p:Addr) (a b c:Int):HO:=.ext fun h=>∃ t u v,IsRange h p a b c t u v
def Agf (a c:Int) (n:Nat):List Int:=(List.range n).map fun (i:Nat)=>a+(i:Int) * c
section
variable {X:Cx} {K:PySem.W.Frag}
theorem Anw {pins:List (Addr × Obj)} {σ:St} {H:Hp} {s:Shared} {a b c:Int} {t u v:Tok} {Q:VK} {tk:Nat} (I:Inv X pins σ H s) (q:∀ p,H p=none→Q (.ref p) (upd H p (ArL p a b c))) :
    EP X pins σ Q (.ref s.heap.objs.size) { s with heap:=s.heap.push { cls:=.type "range", data:=.fields #[.int a t,.int b u,.int c v] },toks:=tk }:=by
  have hg:(s.heap.push { cls:=.type "range", data:=.fields #[.int a t,.int b u,.int c v] }).get? s.heap.objs.size=some { cls:=.type "range", data:=.fields #[.int a t,.int b u,.int c v] }:=Heap.get?_push_size _ rfl
  refine ⟨.ref s.heap.objs.size,_,I.laid (o:=ArL s.heap.objs.size a b c) (fun b o e=>Heap.get?_push_of_some _ e) (Nat.le_refl _) ?_,rfl,q _ (I.hok.fresh (Nat.le_refl _))⟩
  exact ⟨⟨t,u,v,hg⟩,⟨_,hg⟩,fun h1 h2 y k=>by
    obtain ⟨t',u',v',y⟩:=y
    exact ⟨t',u',v',k _ y⟩⟩
theorem AqF:Nz X (.type "range") (fun xs H Q=>∃ a b,xs=[.int a,.int b]∧∀ p,H p=none→Q (.ref p) (upd H p (ArL p a b 1))):=by
  intro pins s σ H xs us Q I rv h
  obtain ⟨a,b,rfl,q⟩:=h
  obtain ⟨u1,u2,rfl,r1,r2⟩:=rv.two
  obtain ⟨t,rfl⟩:=r1
  obtain ⟨t',rfl⟩:=r2
  exact call_range_2 (Anw I q)
theorem AqG:Nz X (.type "range") (fun xs H Q=>∃ a b c,xs=[.int a,.int b,.int c]∧c≠0∧c.natAbs < 1000000∧∀ p,H p=none→Q (.ref p) (upd H p (ArL p a b c))):=by
  intro pins s σ H xs us Q I rv h
  obtain ⟨a,b,c,rfl,hc,hz,q⟩:=h
  cases rv with
  | cons r1 rv=>cases rv with
    | cons r2 rv=>cases rv with
      | cons r3 rv =>
        cases rv
        obtain ⟨t,rfl⟩:=r1
        obtain ⟨t',rfl⟩:=r2
        obtain ⟨t'',rfl⟩:=r3
        exact call_range_3 hc (Anw I q) (Or.inl (PyProof.noPylong_small (by omega)))
theorem Ai7 (hc:X.calm=true:=by rfl):Nz X (.type "list") (fun xs H Q=>∃ (p:Addr) (a b c:Int) (n:Nat),xs=[.ref p]∧H p=some (ArL p a b c)∧Builtin.Range.small a b c=true∧Builtin.Range.rangeSize a b c=n∧n≤1000 ∧
    ∀ l,H l=none→Q (.ref l) (upd H l (.lst (vI (Agf a c n))))):=by
  intro pins s σ H xs us Q I rv h
  obtain ⟨p,a,b,c,n,rfl,hp,hs,hn,hz,q⟩:=h
  obtain ⟨u,rfl,ru⟩:=rv.one
  cases ru
  obtain ⟨⟨t,u,v,hr⟩,_,_⟩:=I.hok p _ hp
  refine call_list_range (I.ok.hd hc) hr hs hn (Nat.le_trans hz (by decide)) fun h' tk acc c' hk hl hi=>?_
  refine ⟨.ref s.heap.objs.size,_,I.laid (t':=tk) (o:=.lst (vI (Agf a c n))) hk (Nat.le_refl _) ?_,rfl,q _ (I.hok.fresh (Nat.le_refl _))⟩
  have hlen:(vI (Agf a c n)).length=n:=by rw [Bd]; unfold Agf; rw [List.length_map,List.length_range]
  refine ⟨by rw [hlen]; exact Nat.le_of_lt (Xj hz),acc.toList,c',?_,hl⟩
  refine Anv _ _ (by rw [hlen,Array.length_toList,hi.1]) fun i x u e1 e2=>?_
  obtain ⟨z,hz1,rfl⟩:=Ku e1
  obtain ⟨t',rfl⟩:=hi.2 i u (by rw [← Array.getElem?_toList]; exact e2)
  have hin:i < n:=by
    have:=(List.getElem?_eq_some_iff.mp e1).1
    rwa [hlen] at this
  unfold Agf at hz1
  rw [List.getElem?_map,List.getElem?_range hin] at hz1
  cases hz1
  exact ⟨t',rfl⟩
theorem AqH:Nz X (.type "int") (fun xs H Q=>∃ z n,xs=[.str z]∧PySem.intText? z=some n∧z.length≤640∧Q (.int n) H):=by
  intro pins s σ H xs us Q I rv h
  obtain ⟨z,n,rfl,hn,hl,q⟩:=h
  obtain ⟨u,rfl,t,rfl⟩:=rv.one
  exact PySem.W.KIN.call_text hn hl ⟨.int n,H,I.tok _,⟨_,rfl⟩,q⟩
theorem AqI (hK:X.K=K:=by rfl) (hc:X.calm=true:=by rfl):Nz X (.builtin "sum") (fun xs H Q=>∃ a ns,xs=[.ref a]∧SqL K H a (vI ns)∧Q (.int ns.sum) H):=by
  subst hK
  intro pins s σ H xs us Q I rv h
  obtain ⟨a,ns,rfl,hq,q⟩:=h
  obtain ⟨u,rfl,ru⟩:=rv.one
  cases ru
  obtain ⟨its,r,pl,hl⟩:=I.list hq
  have hi:IntsAre its ns:=intsAre_of r
  obtain ⟨xs,hx⟩:=hi.allInts.items
  have hL:s.heap.IsList a (intItems xs):=by rw [← hx]; exact pl.isList
  refine sum_intListG (I.ok.hd hc) hL fun h' tk t' hk=>?_
  have e1:xs.toList.map (·.1)=ns:=by
    have z:numsOf its.toArray.toList=ns:=hi.numsOf
    rw [hx,nums_intItems] at z
    exact z
  rw [show preSum (numAt xs) xs.size=ns.sum by rw [preSum_eq,List.take_of_length_le (by simp),e1]]
  exact ⟨.int ns.sum,H,I.kept hk,⟨t',rfl⟩,q⟩
theorem AtN (c:Nat):(!(Builtin.Str.occurrences "0123456789" ⟨#[c]⟩ 0 (Str.length "0123456789") 1).isEmpty)=decide (48≤c∧c≤57):=by
  rw [StrLaws.found_one]
  have e:(("0123456789" : Str)).cps.toList=[48,49,50,51,52,53,54,55,56,57]:=by decide +kernel
  rw [e]
  apply decide_eq_decide.mpr
  simp only [List.mem_cons,List.not_mem_nil,or_false]
  omega
end
open PySem PySem.Spec PyProof.Rows
section
variable {X:Cx} {tg:Expr}
def Aya (ta:TA):TI:=fun σ H R=>ta σ H fun vs H1=>∃ i j:Int,vs=[.int i,.int j]∧R (Itr i (j - i).toNat) H1
end
section
variable {X:Cx}
def Ay5:R2:=fun x y H Q=>∃ u n,x=.str (tx u)∧y=.int n∧0≤n∧n≤1000000∧u.length * n.toNat≤sizeLine∧Q (.str (tx (List.replicate n.toNat u).flatten)) H
def Ayb:V→List V→Hp→VK→Prop:=fun x vs H Q=>∃ u c,x=.str (tx u)∧vs=[.str ⟨#[c]⟩]∧Q (.int (u.count c:Nat)) H
end
open PySem PySem.Spec PyProof.Rows
section
variable {X:Cx} {K:PySem.W.Frag}
def Ay6 (K:PySem.W.Frag):List V→Hp→VK→Prop:=fun vs H Q=>∃ (a C p:Addr) (Ds:List Addr) (b:Bool),vs=[.ref a,.ref p]∧H a=some (exH C a)∧ExC K C∧H p=some (.tup (Ds.map V.ref))∧PySem.W.kitAny K (.ref C) (Ds.map Value.ref)=some b∧Q (.bl b) H
end
open PySem PySem.Spec PyProof.Rows
section
variable {X:Cx} {K:PySem.W.Frag}
def Ayc (K:PySem.W.Frag):R2:=fun x y H Q=>∃ p q xs ys,x=.ref p∧y=.ref q∧SqL K H p xs∧SqL K H q ys∧xs.all GQ=true∧ys.all GQ=true∧Q (.bl (!eqL xs ys)) H
theorem AtO (hu:X.A.units < cLine) (hK:X.K=K:=by rfl):OpR X (compareOp .NotEq) (Ayc K):=by
  subst hK
  intro pins s σ H x y v u Q I rx ry h
  obtain ⟨p,q,xs,ys,rfl,rfl,hx,hy,fx,fy,k⟩:=h
  cases rx
  cases ry
  obtain ⟨its,r,pl,hz⟩:=I.list hx
  obtain ⟨its2,r2,pl2,hz2⟩:=I.list hy
  have l1:=r.length
  have l2:=r2.length
  by_cases hl:xs.length=ys.length
  · refine SeqAt.RcNeAt.lists (e:=fun j=>eqV (xs.getD j .non) (ys.getD j .non)) pl.isList pl2.isList (by simp only [List.size_toArray]; omega) hu (fun j h1 h2=>?_) _ _ _ _ ?_
    · have j1:j < xs.length:=by simp only [List.size_toArray] at h1; omega
      have j2:j < ys.length:=by omega
      obtain ⟨w1,e1,q1⟩:=r.get (i:=j) (x:=xs[j]) (by simp [j1])
      obtain ⟨w2,e2,q2⟩:=r2.get (i:=j) (x:=ys[j]) (by simp [j2])
      have g1:its.toArray[j]=w1:=by
        have:its.toArray[j]?=some w1:=by simpa using e1
        exact Option.some.inj ((Array.getElem?_eq_getElem h1).symm.trans this)
      have g2:its2.toArray[j]=w2:=by
        have:its2.toArray[j]?=some w2:=by simpa using e2
        exact Option.some.inj ((Array.getElem?_eq_getElem h2).symm.trans this)
      rw [g1,g2]
      have d1:xs.getD j .non=xs[j]:=by simp [List.getD,j1]
      have d2:ys.getD j .non=ys[j]:=by simp [List.getD,j2]
      show SeqAt.EqAt _ _ _ _ (eqV (xs.getD j .non) (ys.getD j .non))
      rw [d1,d2]
      exact AlI q1 q2 (List.all_eq_true.mp fx _ (List.getElem_mem j1)) (List.all_eq_true.mp fy _ (List.getElem_mem j2))
    · refine ⟨.bl (!eqL xs ys),H,I,?_,k⟩
      show Value.bool _=Value.bool _
      rw [List.size_toArray,← l1,AbU hl]
  · refine SeqAt.RcNeAt.lists_lengths pl.isList pl2.isList (by simp only [List.size_toArray,bne_iff_ne]; omega) hu _ _ _ _ ?_
    exact ⟨.bl (!eqL xs ys),H,I,by rw [Aid hl]; rfl,k⟩
end
open PySem PySem.Spec PyProof.Rows
theorem Mh.ArM {k:Nat} {A:Around} (r:Mh k A):A.units+100 < cLine:=by have:=r.un; omega
def AwP (K:PySem.W.Frag) (H:Hp) (p q:Addr):Prop:=∃ as bs:List Addr,SqL K H p (as.map V.ref)∧SqL K H q (bs.map V.ref)∧as.length=bs.length ∧
  ∀ (i:Nat) (a b:Addr),as[i]?=some a→bs[i]?=some b→∃ xs:List V,xs.all GQ=true∧SqL K H a xs∧SqL K H b xs
section
variable {X:Cx} {K:PySem.W.Frag}
def Ay7 (K:PySem.W.Frag):R2:=fun x y H Q=>∃ p q,x=.ref p∧y=.ref q∧AwP K H p q∧Q (.bl false) H
def Ay8 (K:PySem.W.Frag):R2:=fun x y H Q=>∃ p q,x=.ref p∧y=.ref q∧AwP K H p q∧Q (.bl true) H
theorem AlQ (z:Int):∀ ks:List Int,inV (.int z) (vI ks)=decide (z∈ks)
  | []=>by simp [inV,vI]
  | k::ks=>by
    have ih:=AlQ z ks
    unfold inV vI at ih ⊢
    rw [List.map_cons,List.any_cons,ih]
    by_cases h:k=z
    · subst h
      have:eqV (V.int k) (V.int k)=true:=Ai3 rfl
      rw [this]
      simp
    · have:eqV (V.int k) (V.int z)=false:=by simp [eqV,h]
      rw [this,Bool.false_or]
      exact decide_eq_decide.mpr (by simp [Ne.symm h])
end
open PySem PySem.Spec PyProof.Rows
section
variable {X:Cx} {K:PySem.W.Frag} {o e value:Expr} {f:Str} {pos pos' tpos:Pos} {ta tv:TE} {st:Stmt} {t:TS}
theorem Bf (he:PE X e ta) (hb:attributeBase e f X.env (eval e X.env)=eval e X.env) (hK:X.K=K:=by rfl):PE X (.Attribute e f pos) (Aw9 K ta f):=by subst hK; exact Avi he hb
theorem Rk (ha:PE X o ta) (hv:PE X value tv) (hs:swapsWith value (some (.Attribute o f pos')) pos.line X.env=pure false:=by rfl) (hK:X.K=K:=by rfl):PS X (.Assign [.Attribute o f pos'] value pos) (AwA K ta tv f):=by subst hK; exact Avj ha hv hs
theorem AoT {op:Operator} {rd:V→V→Hp→VK→Prop} (ha:PE X o ta) (hv:PE X value tv) (hop:Avh X op rd) (hK:X.K=K:=by rfl):PS X (.AugAssign (.Attribute o f tpos) op value pos) (ApF K ta tv rd f):=by subst hK; exact Aq4 ha hv hop
end
structure Own (K:PySem.W.Frag) (C f:Addr):Prop where
  c:Cls K C
  m:Mk K C f
theorem AlR {K:PySem.W.Frag} {C f:Addr} (h1:PySem.W.plainGet K C Str.empty=true) (h2:PySem.W.hasDictIn K C=true) (h3:PySem.W.plainOver K C=true) (h4:PySem.W.findIn K (.ref C) "__setattr__" = some (some (.builtin "object.__setattr__")))
    (h5:PySem.W.makesIn K C=true) (h6:PySem.W.findIn K (.ref C) "__init__" = some (some (.ref f))) (h7:PySem.W.isFn K (.ref f)=true) (h8:PySem.W.keepIn K (.ref C)=true):Own K C f:=⟨⟨h1,h2,h3,h4⟩,⟨h5,h6,h7,h8⟩⟩
open PySem PySem.Spec PyProof.Rows
structure Isa (K:PySem.W.Frag) (C:Addr):Prop where
  ha:PySem.W.findIn K (.ref C) "__class__" = some (some (.builtin "object.__class__"))
  hn:PySem.W.specialIn K (.builtin "object.__class__") "__get__" = some (some (.builtin "getset_descriptor.__get__"))
  htk:PySem.W.takesIn K (.builtin "object.__class__")=some true
  hm:PySem.W.mroIn K C (.type "object")=some true
theorem Isa.ty {K:PySem.W.Frag} {C a dx:Addr} {fs:List (Str × V)} {H:Hp} (h:Isa K C) (cl:Cls K C) (e:H a=some (.ins C dx fs)):AdT K H (.ref a) (.ref C):=.ins e cl h.ha h.hn h.htk h.hm
open PySem PySem.Spec PyProof.Rows
section
variable {X:Cx} {CX CX':CXT} {k k':Nat} {f f' C C':Addr} {fd fd':FuncData} {ps ps':List Str} {sp sp':Sp} {E:XK} {m:Str} {pos apos:Pos} {o:Expr} {ta:TE}
def Av0 (C C':Addr) (m:Str) (sp sp':Sp) (E:XK) (ta:TE):TE:=fun σ H Q=>ta σ H fun x H1=>∃ a dx fs,x=.ref a∧fs.lookup m=none ∧
  ((H1 a=some (.ins C dx fs)∧sp [x] H1 Q E)∨(H1 a=some (.ins C' dx fs)∧sp' [x] H1 Q E))
theorem Anx {pl:Sem Bool} (he:PE X o ta) (c:Cls X.K C) (hm:Meth X.K C m f) (F:Ar X.prog X.w X.K X.mg X.base CX k f fd ps sp) (hr:Mh k X.A) (hb:Binds X.K fd ps []) (hx:Passes CX X E)
    (c':Cls X.K C') (hm':Meth X.K C' m f') (F':Ar X.prog X.w X.K X.mg X.base CX' k' f' fd' ps' sp') (hr':Mh k' X.A) (hb':Binds X.K fd' ps' []) (hx':Passes CX' X E)
    (ht:eval (.Call (.Attribute o m apos) [] [] pos) X.env=(do
      let ov ← eval o X.env
      standAt apos.atName
      let (f,first) ← holding [ov] (getMethod ov m pl)
      callWith pos f first (backTo pos (starEach [] X.env)) (backToKw pos (keywordEach [] X.env))):=by rfl) :
    PE X (.Call (.Attribute o m apos) [] [] pos) (Av0 C C' m sp sp' E ta):=by
  intro pins s σ H Q I h
  refine PySem.W.methodCall_KW (pl:=pl) (thn (he pins s σ H _ I h) fun u s1 ⟨x,H1,I1,rx,a,dx,fs,ex,l,q⟩=>?_) ht
  subst ex
  obtain rfl:u=Value.ref a:=rx
  rcases q with ⟨ea,q⟩ | ⟨ea,q⟩
  · refine Yn I1 ea c hm l ?_
    exact PySem.W.callWith_K0 (first:=[.ref a]) I1.kIn hm.kp (Aiw (us:=[.ref a]) (vs:=[.ref a]) F hr hb .nil hx I1 (.cons rfl .nil) (by simpa using q))
  · refine Yn I1 ea c' hm' l ?_
    exact PySem.W.callWith_K0 (first:=[.ref a]) I1.kIn hm'.kp (Aiw (us:=[.ref a]) (vs:=[.ref a]) F' hr' hb' .nil hx' I1 (.cons rfl .nil) (by simpa using q))
end
open PySem PySem.Spec PyProof.Rows
def vB (bs:List Bool):List V:=bs.map V.bl
section
variable {X:Cx} {K:PySem.W.Frag}
end
open PySem PySem.Spec PyProof.Rows
section
variable {X:Cx} {K:PySem.W.Frag}
end
open PySem PySem.Spec PyProof.Rows
theorem Inv.ApJ {X:Cx} {pins:List (Addr × Obj)} {σ:St} {H:Hp} {s:Shared} {h':Heap} {t':Nat} {its:List Addr} (I:Inv X pins σ H s)
    (k:∀ b o,b∉its→s.heap.get? b=some o→h'.get? b=some o) (hf:∀ b∈its,Rj X pins H b):Inv X pins σ H { s with heap:=h',toks:=t' }:=by
  have nit:∀ b u,H b=some u→b∉its:=fun b u e z=>by
    have:=(hf b z).1
    rw [this] at e
    cases e
  have nL:X.env.locals∉its:=fun z=>(hf _ z).2.1 rfl
  refine I.step (g':=s.gens) (d':=s.drawn) (ch:=its) (fun b hb=>?_) (fun b o _ _ hc e _=>k b o hc e) (fun b o _ _ hc e _=>⟨o.slots,k b o hc e⟩) (fun _ _ _ _ n=>n)
    (fun b o hc e=>⟨o,k b o hc e⟩) (fun _ _ e=>e) (fun _ _ _ e=>e) (fun b ps e=>⟨#[],by rw [e]; simp⟩) (fun m hm=>?_) (fun b u e=>?_) I.bare
  · obtain ⟨_,h2,_,h4,h5,h6⟩:=hf b hb
    exact ⟨h4,h2,h5,h6⟩
  · obtain ⟨o,es,ep,ho,r⟩:=hm
    exact ⟨o,es,ep,k _ o nL ho,r⟩
  · refine (I.hok b u e).stay (fun c v hc q=>k c v ?_ q) (fun _ q=>q) fun _ _ q=>q
    rcases hc with z | z
    · rw [z]; exact nit b u e
    · exact nit c _ z
def Itz (K:PySem.W.Frag) (a b:Addr):It where
  go:=fun i H=>∃ xs ys x y,SqL K H a xs∧SqL K H b ys∧xs[i]?=some x∧ys[i]?=some y
  yld:=fun i H x H'=>∃ T,x=.ref T∧H T=none∧∀ xs ys u v,SqL K H a xs→SqL K H b ys→xs[i]?=some u→ys[i]?=some v→H'=upd H T (.tup [u,v])
  stop:=fun i H=>∃ xs ys,SqL K H a xs∧SqL K H b ys∧(xs.length≤i∨ys.length≤i)
def Ay9 (z TI TO i1 i2 a b:Addr) (i:Nat) (h:Heap):Prop:=IsZip h z TI TO .none∧IsPair h TI (.ref i1) (.ref i2)∧(∃ p q,IsPair h TO p q)∧h.IsListIter i1 a i∧h.IsListIter i2 b i
section
variable {X:Cx} {es:List Expr} {kx:Nat} {tp:Pos}
def Azg (K:PySem.W.Frag) (ta:TA):TI:=fun σ H R=>ta σ H fun vs H1=>∃ a b,vs=[.ref a,.ref b]∧(∃ xs,SqL K H1 a xs)∧(∃ ys,SqL K H1 b ys)∧R (Itz K a b) H1
end
open PySem PySem.Spec PyProof.Rows
def Azh (K:PySem.W.Frag):R2:=fun x y H Q=>∃ (p q:Addr) (as:List Addr) (ks:List Int),x=.ref p∧y=.ref q∧SqL K H q (as.map V.ref)∧SqT K H p (vI ks) ∧
  (∀ a∈as,∃ js:List Int,SqT K H a (vI js))∧(∃ a∈as,SqT K H a (vI ks))∧Q (.bl true) H
section
variable {X:Cx} {K:PySem.W.Frag}
end
open PySem PySem.Spec PyProof.Rows
section
variable {prog:Program} {w:World} {A:Around} {E:Value→Shared→Prop} {s:Shared}
theorem ArN (hh:A.handled=none) (it:Addr) (x:Str) (t:Tok):Draws prog w A it [it] x.cps.size (fun i v=>∃ c u,x.cps[i]?=some c∧v=.str ⟨#[c]⟩ u) (fun i h=>h.IsStrIter it (strIterType x) x t i):=by
  unfold strIterType
  split
  · exact Draws.strAscii hh it x t
  · exact Draws.strWide hh it x t
structure Agg (z TI TO i1 i2:Addr):Prop where
  TIz:TI≠z
  TOz:TO≠z
  i1z:i1≠z
  i2z:i2≠z
  TITO:TI≠TO
  TIi1:TI≠i1
  TIi2:TI≠i2
  TOi1:TO≠i1
  TOi2:TO≠i2
  i12:i1≠i2
theorem AqJ {z TI TO i1 i2:Addr} {fp1 fp2:List Addr} {n1 n2 k:Nat} {P1 P2:Nat→Value→Prop} {S1 S2:Nat→Heap→Prop} {a b:Value} {Q:Value→Shared→Prop} (D:Agg z TI TO i1 i2)
    (D1:∀ A':Around,A'.handled=none→Draws prog w A' i1 fp1 n1 P1 S1) (D2:∀ A':Around,A'.handled=none→Draws prog w A' i2 fp2 n2 P2 S2) (hh:A.handled=none)
    (f1:∀ c∈fp1,c≠z∧c≠TO∧c≠i2) (f2:∀ c∈fp2,c≠z∧c≠TO∧c≠i1)
    (hz:IsZip s.heap z TI TO .none) (hTI:IsPair s.heap TI (.ref i1) (.ref i2)) (hTO:IsPair s.heap TO a b) (h1:S1 k s.heap) (h2:S2 k s.heap) (lt1:k < n1) (lt2:k < n2)
    (hQ:∀ x y h' tk,P1 k x→P2 k y→IsZip h' z TI TO (rawInt s.heap.objs.size)→IsPair h' TO x y→S1 (k+1) h'→S2 (k+1) h'→IsPair h' s.heap.objs.size x y→h'.objs.size=s.heap.objs.size+1 →
      (∀ c o,c≠z→c≠TO→c≠i1→c≠i2→s.heap.get? c=some o→h'.get? c=some o)→Q (.ref s.heap.objs.size) { s with heap:=h',toks:=tk }) :
    wpAny (model prog w) A (Builtin.«zip.__next__» ⟨[.ref z],[]⟩) (fun fin s'=>∃ v,fin=.done (.ret v)∧Q v s') E s:=by
  show wpAny _ _ (field (.ref z) 2 >>= _) _ _ _
  refine wpAny_bind (wpAny_field hz rfl (x:=.bool false) rfl ?_)
  show wpAny _ _ (field (.ref z) 3 >>= _) _ _ _
  refine wpAny_bind (wpAny_field hz rfl (x:=.ref TI) rfl ?_)
  refine wpAny_bind (wpAny_seqItems hTI rfl ?_)
  show wpAny _ _ (Builtin.SmallTypes.ownedTupleIsFree (.ref z) >>= _) _ _ _
  refine wpAny_bind ?_
  unfold Builtin.SmallTypes.ownedTupleIsFree
  refine wpAny_bind (wpAny_field hz rfl (x:=.none) rfl (wpAny_pure ?_))
  simp only [if_true]
  refine wpAny_bind (wpAny_rule ?_)
  refine wpAny_bind (wpAny_field hz rfl (x:=.ref TO) rfl ?_)
  refine wpAny_bind (wpAny_setField_rec hz (by simp) fun h₁ hz₁ hs₁=>?_)
  replace hz₁:IsZip h₁ z TI TO .ellipsis:=hz₁
  refine wpAny_bind ?_
  simp only [List.zipIdx_cons,List.zipIdx_nil,List.forIn_cons,List.forIn_nil]
  refine wpAny_bind (wpAny_bind (wpAny_onRaise ?_))
  show wpAny _ _ (Builtin.SmallTypes.nextOf (.ref i1) >>= _) _ _ _
  refine wpAny_bind ((D1 _ hh).item k _ _ _ lt1 ((D1 A hh).frame _ _ _ h1 fun c hc o e=>hs₁.extBut _ _ (f1 c hc).1 e) fun x h₂ tk₂ px h1₂ hs₂=>wpAny_pure ?_)
  have hs₂:Heap.SameBut i1 h₁ h₂:=hs₂
  have hTO₂:IsPair h₂ TO a b:=hs₂.extBut _ _ D.TOi1 (hs₁.extBut _ _ D.TOz hTO)
  refine wpAny_bind (wpAny_seqItems hTO₂ rfl ?_)
  refine wpAny_bind (wpAny_updateSeq_pair hTO₂ fun h₃ hTO₃ hs₃=>?_)
  have hs₃:Heap.SameBut TO h₂ h₃:=hs₃
  replace hTO₃:IsPair h₃ TO x b:=hTO₃
  refine wpAny_bind (wpAny_letGo (wpAny_pure ?_))
  refine wpAny_bind (wpAny_bind (wpAny_onRaise ?_))
  show wpAny _ _ (Builtin.SmallTypes.nextOf (.ref i2) >>= _) _ _ _
  refine wpAny_bind ((D2 _ hh).item k _ _ _ lt2 ((D2 A hh).frame _ _ _ h2 fun c hc o e=>hs₃.extBut _ _ (f2 c hc).2.1 (hs₂.extBut _ _ (f2 c hc).2.2 (hs₁.extBut _ _ (f2 c hc).1 e))) fun y h₄ tk₄ py h2₄ hs₄=>wpAny_pure ?_)
  have hs₄:Heap.SameBut i2 h₃ h₄:=hs₄
  have hTO₄:IsPair h₄ TO x b:=hs₄.extBut _ _ D.TOi2 hTO₃
  refine wpAny_bind (wpAny_seqItems hTO₄ rfl ?_)
  refine wpAny_bind (wpAny_updateSeq_pair hTO₄ fun h₅ hTO₅ hs₅=>?_)
  have hs₅:Heap.SameBut TO h₄ h₅:=hs₅
  replace hTO₅:IsPair h₅ TO x y:=hTO₅
  refine wpAny_bind (wpAny_letGo (wpAny_pure (wpAny_pure ?_)))
  refine wpAny_bind (wpAny_seqItems hTO₅ rfl ?_)
  refine wpAny_bind (wpAny_newTuple ?_)
  have hsz:h₅.objs.size=s.heap.objs.size:=by rw [hs₅.1,hs₄.1,hs₃.1,hs₂.1,hs₁.1]
  have hz₅:IsZip h₅ z TI TO .ellipsis:=hs₅.extBut _ _ D.TOz.symm (hs₄.extBut _ _ D.i2z.symm (hs₃.extBut _ _ D.TOz.symm (hs₂.extBut _ _ D.i1z.symm hz₁)))
  have hk₅:∀ c o,c≠z→c≠TO→c≠i1→c≠i2→s.heap.get? c=some o→h₅.get? c=some o:=fun c o c1 c2 c3 c4 e =>
    hs₅.extBut _ _ c2 (hs₄.extBut _ _ c4 (hs₃.extBut _ _ c2 (hs₂.extBut _ _ c3 (hs₁.extBut _ _ c1 e))))
  have h1₅:S1 (k+1) h₅:=(D1 A hh).frame _ _ _ h1₂ fun c hc o e=>hs₅.extBut _ _ (f1 c hc).2.1 (hs₄.extBut _ _ (f1 c hc).2.2 (hs₃.extBut _ _ (f1 c hc).2.1 e))
  have h2₅:S2 (k+1) h₅:=(D2 A hh).frame _ _ _ h2₄ fun c hc o e=>hs₅.extBut _ _ (f2 c hc).2.1 e
  have hzlt:z < h₅.objs.size:=Heap.lt_size hz₅
  show wpAny _ _ (Builtin.SmallTypes.ownedTupleHandOut (.ref z) (.ref h₅.objs.size) >>= _) _ _ _
  refine wpAny_bind ?_
  unfold Builtin.SmallTypes.ownedTupleHandOut
  have hz₆:IsZip (h₅.push { cls:=.type "tuple", data:=.seq #[x,y] }) z TI TO .ellipsis:=Heap.get?_push_of_some _ hz₅
  refine wpAny_bind (wpAny_setField_rec hz₆ (by simp) fun h₇ hz₇ hs₇=>?_)
  replace hz₇:IsZip h₇ z TI TO (rawInt h₅.objs.size):=hz₇
  refine wpAny_setField_rec hz₇ (by simp) fun h₈ hz₈ hs₈=>?_
  replace hz₈:IsZip h₈ z TI TO (rawInt h₅.objs.size):=hz₈
  have up:∀ c o,c≠z→h₅.get? c=some o→h₈.get? c=some o:=fun c o c1 e=>hs₈.extBut _ _ c1 (hs₇.extBut _ _ c1 (Heap.get?_push_of_some _ e))
  have hT₈:IsPair h₈ h₅.objs.size x y:=hs₈.extBut _ _ (Nat.ne_of_gt hzlt) (hs₇.extBut _ _ (Nat.ne_of_gt hzlt) (Heap.get?_push_size _ rfl))
  have hz8:h₈.objs.size=h₅.objs.size+1:=by rw [hs₈.1,hs₇.1,Heap.size_push]
  rw [hsz] at hz₈ hT₈ hz8
  refine wpAny_pure ⟨_,rfl,?_⟩
  show Q (.ref h₅.objs.size) _
  rw [hsz]
  exact hQ x y h₈ tk₄ px py hz₈ (up _ _ D.TOz hTO₅) ((D1 A hh).frame _ _ _ h1₅ fun c hc o e=>up _ o (f1 c hc).1 e) ((D2 A hh).frame _ _ _ h2₅ fun c hc o e=>up _ o (f2 c hc).1 e) hT₈ hz8 fun c o c1 c2 c3 c4 e=>up c o c1 (hk₅ c o c1 c2 c3 c4 e)
theorem ArO {z TI TO i1 i2:Addr} {fp1 fp2:List Addr} {n1 n2 k:Nat} {P1 P2:Nat→Value→Prop} {S1 S2:Nat→Heap→Prop} {a b:Value} {Q:Fin→Shared→Prop} (D:Agg z TI TO i1 i2)
    (D1:∀ A':Around,A'.handled=none→Draws prog w A' i1 fp1 n1 P1 S1) (D2:∀ A':Around,A'.handled=none→Draws prog w A' i2 fp2 n2 P2 S2) (hh:A.handled=none)
    (f1:∀ c∈fp1,c≠z∧c≠TO∧c≠i2) (f2:∀ c∈fp2,c≠z∧c≠TO∧c≠i1)
    (hz:IsZip s.heap z TI TO .none) (hTI:IsPair s.heap TI (.ref i1) (.ref i2)) (hTO:IsPair s.heap TO a b) (h1:S1 k s.heap) (h2:S2 k s.heap) (hend:k=n1∨(k < n1∧k=n2))
    (hE:∀ h' e tk,(∀ c o,c≠z→c≠TO→c≠i1→c≠i2→s.heap.get? c=some o→h'.get? c=some o)→(∃ o,h'.get? e=some o∧o.cls=.type "StopIteration")→E (.ref e) { s with heap:=h',toks:=tk }) :
    wpAny (model prog w) A (Builtin.«zip.__next__» ⟨[.ref z],[]⟩) Q E s:=by
  show wpAny _ _ (field (.ref z) 2 >>= _) _ _ _
  refine wpAny_bind (wpAny_field hz rfl (x:=.bool false) rfl ?_)
  show wpAny _ _ (field (.ref z) 3 >>= _) _ _ _
  refine wpAny_bind (wpAny_field hz rfl (x:=.ref TI) rfl ?_)
  refine wpAny_bind (wpAny_seqItems hTI rfl ?_)
  show wpAny _ _ (Builtin.SmallTypes.ownedTupleIsFree (.ref z) >>= _) _ _ _
  refine wpAny_bind ?_
  unfold Builtin.SmallTypes.ownedTupleIsFree
  refine wpAny_bind (wpAny_field hz rfl (x:=.none) rfl (wpAny_pure ?_))
  simp only [if_true]
  refine wpAny_bind (wpAny_rule ?_)
  refine wpAny_bind (wpAny_field hz rfl (x:=.ref TO) rfl ?_)
  refine wpAny_bind (wpAny_setField_rec hz (by simp) fun h₁ hz₁ hs₁=>?_)
  replace hz₁:IsZip h₁ z TI TO .ellipsis:=hz₁
  refine wpAny_bind ?_
  simp only [List.zipIdx_cons,List.zipIdx_nil,List.forIn_cons,List.forIn_nil]
  refine wpAny_bind (wpAny_bind (wpAny_onRaise ?_))
  show wpAny _ _ (Builtin.SmallTypes.nextOf (.ref i1) >>= _) _ _ _
  have g1:S1 k h₁:=(D1 A hh).frame _ _ _ h1 fun c hc o e=>hs₁.extBut _ _ (f1 c hc).1 e
  rcases hend with hk | ⟨lt1,hk⟩
  · subst hk
    refine wpAny_bind ((D1 _ hh).done _ _ _ g1 fun h₂ e hs₂ he=>?_)
    have hs₂:Heap.ExtBut i1 h₁ h₂:=hs₂
    obtain ⟨oe,hoe,hce⟩:=he
    have hz₂:IsZip h₂ z TI TO .ellipsis:=hs₂ _ _ D.i1z.symm hz₁
    have hez:e≠z:=fun x=>by subst x; rw [hz₂] at hoe; cases hoe; simp at hce
    refine wpAny_setField_rec hz₂ (by simp) fun h₃ _ hs₃=>hE h₃ e _ (fun c o c1 _ c3 _ x=>hs₃.extBut _ _ c1 (hs₂ _ _ c3 (hs₁.extBut _ _ c1 x))) ⟨oe,hs₃.extBut _ _ hez hoe,hce⟩
  · refine wpAny_bind ((D1 _ hh).item k _ _ _ lt1 g1 fun x h₂ tk₂ px h1₂ hs₂=>wpAny_pure ?_)
    have hs₂:Heap.SameBut i1 h₁ h₂:=hs₂
    have hTO₂:IsPair h₂ TO a b:=hs₂.extBut _ _ D.TOi1 (hs₁.extBut _ _ D.TOz hTO)
    refine wpAny_bind (wpAny_seqItems hTO₂ rfl ?_)
    refine wpAny_bind (wpAny_updateSeq_pair hTO₂ fun h₃ hTO₃ hs₃=>?_)
    have hs₃:Heap.SameBut TO h₂ h₃:=hs₃
    refine wpAny_bind (wpAny_letGo (wpAny_pure ?_))
    refine wpAny_bind (wpAny_bind (wpAny_onRaise ?_))
    show wpAny _ _ (Builtin.SmallTypes.nextOf (.ref i2) >>= _) _ _ _
    subst hk
    refine wpAny_bind ((D2 _ hh).done _ _ _ ((D2 A hh).frame _ _ _ h2 fun c hc o e=>hs₃.extBut _ _ (f2 c hc).2.1 (hs₂.extBut _ _ (f2 c hc).2.2 (hs₁.extBut _ _ (f2 c hc).1 e))) fun h₄ e hs₄ he=>?_)
    have hs₄:Heap.ExtBut i2 h₃ h₄:=hs₄
    obtain ⟨oe,hoe,hce⟩:=he
    have hz₄:IsZip h₄ z TI TO .ellipsis:=hs₄ _ _ D.i2z.symm (hs₃.extBut _ _ D.TOz.symm (hs₂.extBut _ _ D.i1z.symm hz₁))
    have hez:e≠z:=fun x=>by subst x; rw [hz₄] at hoe; cases hoe; simp at hce
    refine wpAny_setField_rec hz₄ (by simp) fun h₅ _ hs₅=>hE h₅ e _ (fun c o c1 c2 c3 c4 x=>hs₅.extBut _ _ c1 (hs₄ _ _ c4 (hs₃.extBut _ _ c2 (hs₂.extBut _ _ c3 (hs₁.extBut _ _ c1 x))))) ⟨oe,hs₅.extBut _ _ hez hoe,hce⟩
theorem AoU {z TI TO i1 i2:Addr} {fp1 fp2:List Addr} {n1 n2 k:Nat} {P1 P2:Nat→Value→Prop} {S1 S2:Nat→Heap→Prop} {a b:Value} {Q:Option Value→Shared→Prop} (D:Agg z TI TO i1 i2)
    (D1:∀ A':Around,A'.handled=none→Draws prog w A' i1 fp1 n1 P1 S1) (D2:∀ A':Around,A'.handled=none→Draws prog w A' i2 fp2 n2 P2 S2) (hh:A.handled=none)
    (f1:∀ c∈fp1,c≠z∧c≠TO∧c≠i2) (f2:∀ c∈fp2,c≠z∧c≠TO∧c≠i1)
    (hz:IsZip s.heap z TI TO .none) (hTI:IsPair s.heap TI (.ref i1) (.ref i2)) (hTO:IsPair s.heap TO a b) (h1:S1 k s.heap) (h2:S2 k s.heap) (lt1:k < n1) (lt2:k < n2)
    (hQ:∀ x y h' tk,P1 k x→P2 k y→IsZip h' z TI TO (rawInt s.heap.objs.size)→IsPair h' TO x y→S1 (k+1) h'→S2 (k+1) h'→IsPair h' s.heap.objs.size x y→h'.objs.size=s.heap.objs.size+1 →
      (∀ c o,c≠z→c≠TO→c≠i1→c≠i2→s.heap.get? c=some o→h'.get? c=some o)→Q (some (.ref s.heap.objs.size)) { s with heap:=h',toks:=tk }) :
    wpAny (model prog w) A (pyNext (.ref z)) Q E s:=by
  have hT:s.TypeIs (.ref z) "zip" := ⟨_,hz,rfl⟩
  unfold pyNext
  exact wpAny_bind (wpAny_attempt (wpAny_callSpecial?_slot (name:=Str.ofString "__next__") hT F.slot_zip_next
    (wpAny_call_entry F.slot_zip_next hT F.entry_zip_next
      (AqJ D D1 D2 hh f1 f2 hz hTI hTO h1 h2 lt1 lt2 fun x y h' tk a1 a2 a3 a4 a5 a6 a7 a8 a9=>wpAny_pure (hQ x y h' tk a1 a2 a3 a4 a5 a6 a7 a8 a9)) (F.args_zip_next_1 _))))
theorem AqK {z TI TO i1 i2:Addr} {fp1 fp2:List Addr} {n1 n2 k:Nat} {P1 P2:Nat→Value→Prop} {S1 S2:Nat→Heap→Prop} {a b:Value} {Q:Option Value→Shared→Prop} (D:Agg z TI TO i1 i2)
    (D1:∀ A':Around,A'.handled=none→Draws prog w A' i1 fp1 n1 P1 S1) (D2:∀ A':Around,A'.handled=none→Draws prog w A' i2 fp2 n2 P2 S2) (hh:A.handled=none)
    (f1:∀ c∈fp1,c≠z∧c≠TO∧c≠i2) (f2:∀ c∈fp2,c≠z∧c≠TO∧c≠i1)
    (hz:IsZip s.heap z TI TO .none) (hTI:IsPair s.heap TI (.ref i1) (.ref i2)) (hTO:IsPair s.heap TO a b) (h1:S1 k s.heap) (h2:S2 k s.heap) (hend:k=n1∨(k < n1∧k=n2))
    (hQ:∀ h' tk,(∀ c o,c≠z→c≠TO→c≠i1→c≠i2→s.heap.get? c=some o→h'.get? c=some o)→Q none { s with heap:=h',toks:=tk }):wpAny (model prog w) A (pyNext (.ref z)) Q E s:=by
  have hT:s.TypeIs (.ref z) "zip" := ⟨_,hz,rfl⟩
  unfold pyNext
  refine wpAny_bind (wpAny_attempt (wpAny_callSpecial?_slot (name:=Str.ofString "__next__") hT F.slot_zip_next
    (wpAny_call_entry F.slot_zip_next hT F.entry_zip_next (ArO D D1 D2 hh f1 f2 hz hTI hTO h1 h2 hend fun h' e tk hk he=>?_) (F.args_zip_next_1 _))))
  obtain ⟨o,ho,hc⟩:=he
  refine wpAny_bind (wpAny_isInstance (T := "StopIteration") (b:=true) ⟨o,ho,hc⟩ isSubtype_stop ?_)
  exact wpAny_pure (hQ _ _ hk)
abbrev Acy (x:Str) (t:Tok):Obj:={ cls:=.type (strIterType x),data:=.fields #[.str x t,.int 0 0] }
abbrev ApK (l:Addr):Obj:={ cls:=.type "list_iterator", data:=.fields #[.ref l,.int 0 0] }
abbrev Xl (h:Heap) (o1 o2:Obj):Heap:=((((h.push o1).push o2).push { cls:=.type "tuple", data:=.seq #[.ref h.objs.size,.ref (h.push o1).objs.size] }).push { cls:=.type "tuple", data:=.seq #[.none,.none] }).push
  { cls:=.type "zip", data:=.fields #[.none,.bool false,.bool false,.ref ((h.push o1).push o2).objs.size,.ref (((h.push o1).push o2).push { cls:=.type "tuple", data:=.seq #[.ref h.objs.size,.ref (h.push o1).objs.size] }).objs.size] }
abbrev Aln (h:Heap) (o1 o2:Obj):Addr:=((((h.push o1).push o2).push { cls:=.type "tuple", data:=.seq #[.ref h.objs.size,.ref (h.push o1).objs.size] }).push { cls:=.type "tuple", data:=.seq #[.none,.none] }).objs.size
set_option maxHeartbeats 4000000 in
theorem Anz (l1:Addr) (xs:Array Value) (x:Str) (t:Tok) :
    Meets (Builtin.«zip.__new__» ⟨[.type "zip", .ref l1,.str x t],[]⟩) (fun _ R s=>s.heap.IsList l1 xs∧R (.ok (.ret (.ref (Aln s.heap (ApK l1) (Acy x t))))) { s with heap:=Xl s.heap (ApK l1) (Acy x t) }) :=
  .of_wp fun prog w A R s h=>by
    obtain ⟨hp,g,d,tk,os⟩:=s; obtain ⟨hl1,h⟩:=h
    have hsub:=sub_zip
    have hL1:Heap.IsList (Shared.heap ⟨hp,g,d,tk,os⟩) l1 xs:=hl1
    wp_walk using wpAny_pyIter_list hL1,wpAny_pyIter_strU
    exact ⟨_,rfl,h⟩
set_option maxHeartbeats 4000000 in
theorem An0 (y:Str) (u:Tok) (x:Str) (t:Tok) :
    Meets (Builtin.«zip.__new__» ⟨[.type "zip", .str y u,.str x t],[]⟩) (fun _ R s=>R (.ok (.ret (.ref (Aln s.heap (Acy y u) (Acy x t))))) { s with heap:=Xl s.heap (Acy y u) (Acy x t) }) :=
  .of_wp fun prog w A R s h=>by
    obtain ⟨hp,g,d,tk,os⟩:=s
    have hsub:=sub_zip
    wp_walk using wpAny_pyIter_strU
    exact ⟨_,rfl,h⟩
end
open PySem PySem.Spec PyProof.Rows
inductive Src where
  | l (a:Addr)
  | s (z:Str)
def AwQ:Src→V
  | .l a=>.ref a
  | .s z=>.str z
def Ai8 (K:PySem.W.Frag) (H:Hp):Src→Prop
  | .l a=>∃ xs,SqL K H a xs
  | .s _=>True
def Xm (K:PySem.W.Frag) (H:Hp):Src→Nat→V→Prop
  | .l a,i,v=>∃ xs,SqL K H a xs∧xs[i]?=some v
  | .s z,i,v=>∃ c,z.cps[i]?=some c∧v=.str ⟨#[c]⟩
def AoV (K:PySem.W.Frag) (H:Hp):Src→Nat→Prop
  | .l a,i=>∃ xs,SqL K H a xs∧xs.length=i
  | .s z,i=>z.cps.size=i
def AdZ (it:Addr) (t:Tok):Src→Nat→Heap→Prop
  | .l a,i,h=>h.IsListIter it a i
  | .s z,i,h=>h.IsStrIter it (strIterType z) z t i
def ArP (it:Addr):Src→List Addr
  | .l a=>[it,a]
  | .s _=>[it]
def AyA (t:Tok):Src→Obj
  | .l a=>ApK a
  | .s z=>Acy z t
theorem Ai9 {X:Cx} {pins:List (Addr × Obj)} {σ:St} {H:Hp} {s:Shared} (I:Inv X pins σ H s) {S:Src} {i:Nat} {u v:V} (h1:Xm X.K H S i u) (h2:Xm X.K H S i v):u=v:=by
  cases S with
  | l a =>
    obtain ⟨xs,q1,e1⟩:=h1
    obtain ⟨ys,q2,e2⟩:=h2
    rw [I.RP q2 q1,e1] at e2
    exact Option.some.inj e2
  | s z =>
    obtain ⟨c,e1,rfl⟩:=h1
    obtain ⟨d,e2,rfl⟩:=h2
    rw [e1] at e2
    cases e2
    rfl
theorem AbW {X:Cx} {pins:List (Addr × Obj)} {σ:St} {H:Hp} {s:Shared} (I:Inv X pins σ H s) {it:Addr} {t:Tok} {S:Src} {i:Nat} (st:AdZ it t S i s.heap) (ok:Ai8 X.K H S) (ap:∀ a,S=.l a→a≠it) :
    ∃ (n:Nat) (Pd:Nat→Value→Prop) (Sd:Nat→Heap→Prop),(∀ A':Around,A'.handled=none→Draws X.prog X.w A' it (ArP it S) n Pd Sd)∧Sd i s.heap∧(∀ h',Sd (i+1) h'→AdZ it t S (i+1) h') ∧
      (∀ v,Xm X.K H S i v→i < n∧∀ u,Pd i u→RelV v u)∧(AoV X.K H S i→i=n):=by
  cases S with
  | l a =>
    obtain ⟨xs,q⟩:=ok
    obtain ⟨its,rv,p1,_⟩:=I.list q
    have len:=rv.length
    refine ⟨_,_,_,fun A' hh=>Draws.list hh it a (ap a rfl) its.toArray,⟨st,p1.isList⟩,fun h' z=>z.1,fun v hv=>?_,fun he=>?_⟩
    · obtain ⟨ys,q2,e⟩:=hv
      rw [I.RP q2 q] at e
      obtain ⟨u,hu,r⟩:=rv.get e
      refine ⟨by have:=(List.getElem?_eq_some_iff.mp hu).1; simpa using this,fun u' hu'=>?_⟩
      have:its[i]?=some u':=by simpa using hu'
      rw [hu] at this
      cases this
      exact r
    · obtain ⟨ys,q2,e⟩:=he
      rw [I.RP q2 q] at e
      simp only [List.size_toArray]
      omega
  | s z =>
    refine ⟨_,_,_,fun A' hh=>ArN hh it z t,st,fun h' z=>z,fun v hv=>?_,fun he=>he.symm⟩
    obtain ⟨c,e,rfl⟩:=hv
    refine ⟨by rw [Array.getElem?_eq_some_iff] at e; exact e.1,fun u ⟨d,tk,e2,hu⟩=>?_⟩
    rw [e] at e2
    cases e2
    exact ⟨tk,hu⟩
def AtQ (K:PySem.W.Frag) (S1 S2:Src):It where
  go:=fun i H=>(∃ u,Xm K H S1 i u)∧∃ v,Xm K H S2 i v
  yld:=fun i H x H'=>∃ T,x=.ref T∧H T=none∧∀ u v,Xm K H S1 i u→Xm K H S2 i v→H'=upd H T (.tup [u,v])
  stop:=fun i H=>Ai8 K H S1∧Ai8 K H S2∧(AoV K H S1 i∨((∃ u,Xm K H S1 i u)∧AoV K H S2 i))
theorem An1 {K:PySem.W.Frag} {H:Hp} {S:Src} {i:Nat} {u:V} (h:Xm K H S i u):Ai8 K H S:=by
  cases S with
  | l a=>obtain ⟨xs,q,_⟩:=h; exact ⟨xs,q⟩
  | s z=>trivial
def Av1 (z TI TO i1 i2:Addr) (t1 t2:Tok) (S1 S2:Src) (i:Nat) (h:Heap):Prop:=IsZip h z TI TO .none∧IsPair h TI (.ref i1) (.ref i2)∧(∃ p q,IsPair h TO p q)∧AdZ i1 t1 S1 i h∧AdZ i2 t2 S2 i h
theorem Aea {it:Addr} {t:Tok} {S:Src} {i:Nat} {h h':Heap} (st:AdZ it t S i h) (k:∀ o,h.get? it=some o→h'.get? it=some o):AdZ it t S i h':=by
  cases S with
  | l a=>exact Heap.IsListIter.at st k
  | s z=>obtain ⟨o,e,c⟩:=st; exact ⟨o,k o e,c⟩
theorem AbX {it:Addr} {t:Tok} {S:Src} {i:Nat} {h:Heap} (st:AdZ it t S i h):∃ o,h.get? it=some o∧∀ v,o.data≠.cell v:=by
  cases S with
  | l a=>obtain ⟨o,e,_,d⟩:=st; exact ⟨o,e,fun v z=>by rw [d] at z; cases z⟩
  | s z=>obtain ⟨o,e,_,d⟩:=st; exact ⟨o,e,fun v z=>by rw [d] at z; cases z⟩
theorem AqL {P:Program} {w:World} {K:PySem.W.Frag} {es:List Expr} {kx:Nat} {tp:Pos} {z TI TO i1 i2:Addr} {t1 t2:Tok} {S1 S2:Src} (D:Agg z TI TO i1 i2)
    (a1:∀ a,S1=.l a→a≠z∧a≠TO∧a≠i1∧a≠i2) (a2:∀ a,S2=.l a→a≠z∧a≠TO∧a≠i1∧a≠i2) :
    Turn P w K (.Tuple es kx tp) (AtQ K S1 S2) [z,TI,TO,i1,i2] z (Av1 z TI TO i1 i2 t1 t2 S1 S2):=by
  have f1:∀ c∈ArP i1 S1,c≠z∧c≠TO∧c≠i2:=fun c hc=>by
    cases S1 with
    | l a =>
      rcases List.mem_cons.mp hc with e | e
      · subst e; exact ⟨D.i1z,D.TOi1.symm,D.i12⟩
      · rw [List.mem_singleton.mp e]; exact ⟨(a1 a rfl).1,(a1 a rfl).2.1,(a1 a rfl).2.2.2⟩
    | s x=>rw [List.mem_singleton.mp hc]; exact ⟨D.i1z,D.TOi1.symm,D.i12⟩
  have f2:∀ c∈ArP i2 S2,c≠z∧c≠TO∧c≠i1:=fun c hc=>by
    cases S2 with
    | l a =>
      rcases List.mem_cons.mp hc with e | e
      · subst e; exact ⟨D.i2z,D.TOi2.symm,D.i12.symm⟩
      · rw [List.mem_singleton.mp e]; exact ⟨(a2 a rfl).1,(a2 a rfl).2.1,(a2 a rfl).2.2.1⟩
    | s x=>rw [List.mem_singleton.mp hc]; exact ⟨D.i2z,D.TOi2.symm,D.i12.symm⟩
  exact {
    mem:=by simp
    obj:=fun i h st c hc=>by
      obtain ⟨s1,s2,⟨p,q,s3⟩,s4,s5⟩:=st
      simp only [List.mem_cons,List.not_mem_nil,or_false] at hc
      rcases hc with e | e | e | e | e
      · subst e; exact ⟨_,s1,fun v z=>by cases (show Data.fields _=Data.cell v from z)⟩
      · subst e; exact ⟨_,s2,fun v z=>by cases (show Data.seq _ _=Data.cell v from z)⟩
      · subst e; exact ⟨_,s3,fun v z=>by cases (show Data.seq _ _=Data.cell v from z)⟩
      · subst e; exact AbX s4
      · subst e; exact AbX s5
    keep:=fun i h h' st k=>by
      obtain ⟨s1,s2,⟨p,q,s3⟩,s4,s5⟩:=st
      exact ⟨k _ (by simp) _ s1,k _ (by simp) _ s2,⟨p,q,k _ (by simp) _ s3⟩,Aea s4 fun o e=>k _ (by simp) o e,Aea s5 fun o e=>k _ (by simp) o e⟩
    item:=by
      intro X hP hw hK hc i pins s σ H E I hf st hg
      subst hP hw hK
      obtain ⟨⟨x,hx⟩,y,hy⟩:=hg
      obtain ⟨s1,s2,⟨p,q,s3⟩,s4,s5⟩:=st
      obtain ⟨n1,P1,Q1,D1,g1,e1,v1,_⟩:=AbW I s4 (An1 hx) (fun a e=>(a1 a e).2.2.1)
      obtain ⟨n2,P2,Q2,D2,g2,e2,v2,_⟩:=AbW I s5 (An1 hy) (fun a e=>(a2 a e).2.2.2)
      obtain ⟨l1,r1⟩:=v1 x hx
      obtain ⟨l2,r2⟩:=v2 y hy
      refine AoU D D1 D2 (I.ok.hd hc) f1 f2 s1 s2 s3 g1 g2 l1 l2 fun u v h1 tk pu pv z1 w1 j1 j2 hT hsz kk=>?_
      have ru:=r1 u pu
      have rw':=r2 v pv
      refine ⟨_,rfl,wpAny_letOwnedTupleGo_zip z1 fun h2 z2 sb=>?_⟩
      have sb:Heap.SameBut z h1 h2:=sb
      have zl:z < s.heap.objs.size:=Heap.lt_size s1
      have TIl:TI < s.heap.objs.size:=Heap.lt_size s2
      have TOl:TO < s.heap.objs.size:=Heap.lt_size s3
      have i1l:i1 < s.heap.objs.size:=by obtain ⟨_,e,_⟩:=AbX s4; exact Heap.lt_size e
      have i2l:i2 < s.heap.objs.size:=by obtain ⟨_,e,_⟩:=AbX s5; exact Heap.lt_size e
      have up:∀ c o,c≠z→h1.get? c=some o→h2.get? c=some o:=fun c o c1 e=>(sb.2 c c1).trans e
      have hTn:H s.heap.objs.size=none:=I.hok.fresh (Nat.le_refl _)
      have I1:Inv X pins σ (upd H s.heap.objs.size (.tup [x,y])) { s with heap:=s.heap.push { cls:=.type "tuple", data:=.seq #[u,v] },toks:=tk } :=
        I.laid (fun c o e=>Heap.get?_push_of_some _ e) (Nat.le_refl _) ⟨by show 2≤sizeLine; decide,[u,v],.cons ru (.cons rw' .nil),⟨_,Heap.get?_push_size _ rfl,rfl,_,rfl⟩⟩
      have fp2:∀ c∈[z,TI,TO,i1,i2],Rj X pins (upd H s.heap.objs.size (.tup [x,y])) c:=fun c hc=>by
        obtain ⟨f0,f⟩:=hf c hc
        refine ⟨?_,f⟩
        have lt:c < s.heap.objs.size:=by
          simp only [List.mem_cons,List.not_mem_nil,or_false] at hc
          rcases hc with e | e | e | e | e <;> subst e <;> assumption
        rw [Be (Nat.ne_of_lt lt)]
        exact f0
      have I2:Inv X pins σ (upd H s.heap.objs.size (.tup [x,y])) { s with heap:=h2,toks:=tk }:=by
        refine Inv.ApJ (s:={ s with heap:=s.heap.push { cls:=.type "tuple", data:=.seq #[u,v] },toks:=tk }) (h':=h2) (t':=tk) (its:=[z,TI,TO,i1,i2]) I1 (fun c o hc e=>?_) fp2
        simp only [List.mem_cons,List.not_mem_nil,or_false,not_or] at hc
        refine up c o hc.1 ?_
        by_cases hcs:c=s.heap.objs.size
        · subst hcs
          have e':(s.heap.push { cls:=.type "tuple", data:=.seq #[u,v] }).get? s.heap.objs.size=some { cls:=.type "tuple", data:=.seq #[u,v] }:=Heap.get?_push_size _ rfl
          rw [e'] at e
          cases e
          exact hT
        · have e':s.heap.get? c=some o:=by
            rw [← e]
            exact (Heap.get?_push_ne _ _ _ hcs).symm
          exact kk c o hc.1 hc.2.2.1 hc.2.2.2.1 hc.2.2.2.2 e'
      refine ⟨.ref s.heap.objs.size,_,I2,rfl,⟨s.heap.objs.size,rfl,hTn,fun u' v' q1 q2=>?_⟩,⟨z2,up _ _ D.TIz (kk _ _ D.TIz D.TITO D.TIi1 D.TIi2 s2),⟨u,v,up _ _ D.TOz w1⟩,Aea (e1 _ j1) fun o e=>up _ o D.i1z e,Aea (e2 _ j2) fun o e=>up _ o D.i2z e⟩,fun c hc=>(fp2 c hc).1⟩
      rw [Ai9 I q1 hx,Ai9 I q2 hy]
    done:=by
      intro X hP hw hK hc i pins s σ H E I hf st hg
      subst hP hw hK
      obtain ⟨o1,o2,hend⟩:=hg
      obtain ⟨s1,s2,⟨p,q,s3⟩,s4,s5⟩:=st
      obtain ⟨n1,P1,Q1,D1,g1,e1,v1,d1⟩:=AbW I s4 o1 (fun a e=>(a1 a e).2.2.1)
      obtain ⟨n2,P2,Q2,D2,g2,e2,v2,d2⟩:=AbW I s5 o2 (fun a e=>(a2 a e).2.2.2)
      have he:i=n1∨(i < n1∧i=n2):=by
        rcases hend with h | ⟨⟨u,hu⟩,h⟩
        · exact .inl (d1 h)
        · exact .inr ⟨(v1 u hu).1,d2 h⟩
      refine AqK D D1 D2 (I.ok.hd hc) f1 f2 s1 s2 s3 g1 g2 he fun h' tk kk=>⟨rfl,I.ApJ (t':=tk) (its:=[z,TI,TO,i1,i2]) (fun c o hc e=>?_) hf⟩
      simp only [List.mem_cons,List.not_mem_nil,or_false,not_or] at hc
      exact kk c o hc.1 hc.2.2.1 hc.2.2.2.1 hc.2.2.2.2 e
    self:=fun _ _ _ _ _ st h=>wpAny_pyIter_zip st.1 h }
theorem An2 {h:Heap} {o1 o2:Obj} (e1:o1.isFreed=false) (e2:o2.isFreed=false):Aln h o1 o2=h.objs.size+4∧IsZip (Xl h o1 o2) (h.objs.size+4) (h.objs.size+2) (h.objs.size+3) .none ∧
    IsPair (Xl h o1 o2) (h.objs.size+2) (.ref h.objs.size) (.ref (h.objs.size+1))∧IsPair (Xl h o1 o2) (h.objs.size+3) .none .none∧(Xl h o1 o2).get? h.objs.size=some o1∧(Xl h o1 o2).get? (h.objs.size+1)=some o2 ∧
    ∀ c o,h.get? c=some o→(Xl h o1 o2).get? c=some o:=by
  have z1:(h.push o1).objs.size=h.objs.size+1:=Heap.size_push ..
  have z2:((h.push o1).push o2).objs.size=h.objs.size+2:=by rw [Heap.size_push,z1]
  have z3:(((h.push o1).push o2).push { cls:=.type "tuple", data:=.seq #[.ref h.objs.size,.ref (h.push o1).objs.size] }).objs.size=h.objs.size+3:=by rw [Heap.size_push,z2]
  have z4:Aln h o1 o2=h.objs.size+4:=by unfold Aln; rw [Heap.size_push,z3]
  have g5:(Xl h o1 o2).get? (Aln h o1 o2)=some _:=Heap.get?_push_size _ rfl
  have g4:(Xl h o1 o2).get? (((h.push o1).push o2).push { cls:=.type "tuple", data:=.seq #[.ref h.objs.size,.ref (h.push o1).objs.size] }).objs.size=some _:=Heap.get?_push_of_some _ (Heap.get?_push_size _ rfl)
  have g3:(Xl h o1 o2).get? ((h.push o1).push o2).objs.size=some _:=Heap.get?_push_of_some _ (Heap.get?_push_of_some _ (Heap.get?_push_size _ rfl))
  have g2:(Xl h o1 o2).get? (h.push o1).objs.size=some o2:=Heap.get?_push_of_some _ (Heap.get?_push_of_some _ (Heap.get?_push_of_some _ (Heap.get?_push_size _ e2)))
  have g1:(Xl h o1 o2).get? h.objs.size=some o1:=Heap.get?_push_of_some _ (Heap.get?_push_of_some _ (Heap.get?_push_of_some _ (Heap.get?_push_of_some _ (Heap.get?_push_size _ e1))))
  refine ⟨z4,?_,?_,?_,g1,?_,fun c o x=>Heap.get?_push_of_some _ (Heap.get?_push_of_some _ (Heap.get?_push_of_some _ (Heap.get?_push_of_some _ (Heap.get?_push_of_some _ x))))⟩
  · rw [z4,z2,z3] at g5; exact g5
  · rw [z2,z1] at g3; exact g3
  · rw [z3] at g4; exact g4
  · rw [z1] at g2; exact g2
theorem ane {a b:Nat} (h:a≠b):@Ne Addr a b:=h
theorem lne {a n:Nat} (h:a < n) (k:Nat):@Ne Addr a (n+k):=fun z=>by have z:a=n+k:=z; omega
theorem AoW (n:Nat):Agg (n+4) (n+2) (n+3) n (n+1) where
  TIz:=ane (by omega)
  TOz:=ane (by omega)
  i1z:=ane (by omega)
  i2z:=ane (by omega)
  TITO:=ane (by omega)
  TIi1:=ane (by omega)
  TIi2:=ane (by omega)
  TOi1:=ane (by omega)
  TOi2:=ane (by omega)
  i12:=ane (by omega)
section
variable {X:Cx} {es:List Expr} {kx:Nat} {tp:Pos}
def zOk:Src→Src→Prop
  | .s _,.l _=>False
  | _,_=>True
def AwR (K:PySem.W.Frag) (ta:TA):TI:=fun σ H R=>ta σ H fun vs H1=>∃ S1 S2,vs=[AwQ S1,AwQ S2]∧zOk S1 S2∧Ai8 K H1 S1∧Ai8 K H1 S2∧R (AtQ K S1 S2) H1
theorem AtR {K:PySem.W.Frag} {a b:Expr} {ta:TA} {p pos:Pos} (hg:Gl X "zip") (hm:X.mg "zip" = none) (ha:PA X [a,b] ta) (hK:X.K=K:=by rfl) (hs:starEach [a,b] X.env=[(false,eval a X.env),(false,eval b X.env)]:=by rfl) (hs2:starEach [b] X.env=[(false,eval b X.env)]:=by rfl) :
    PI X (.Tuple es kx tp) (.Call (.Name "zip" p) [a,b] [] pos) (AwR K ta):=by
  subst hK
  intro pins s σ H R I h
  refine Call_ (Aaf I hg hm Avx (PyProof.Rows.callWith_type1 (thn (ha pos pins s σ H _ I h) fun us s1 ⟨vs,H1,I1,r1,q1⟩=>?_) (by rw [hs,hs2]) (by rw [hs2]; rfl)))
  obtain ⟨S1,S2,e,hz,o1,o2,q⟩:=q1
  subst e
  obtain ⟨u1,u2,rfl,ru1,ru2⟩:=r1.two
  have fin:∀ (t1 t2:Tok) (h':Heap) (tk:Nat),IsZip h' (s1.heap.objs.size+4) (s1.heap.objs.size+2) (s1.heap.objs.size+3) .none→IsPair h' (s1.heap.objs.size+2) (.ref s1.heap.objs.size) (.ref (s1.heap.objs.size+1))→IsPair h' (s1.heap.objs.size+3) .none .none →
      AdZ s1.heap.objs.size t1 S1 0 h'→AdZ (s1.heap.objs.size+1) t2 S2 0 h'→(∀ c o,s1.heap.get? c=some o→h'.get? c=some o) →
      wpAny (model X.prog X.w) X.A (pyIter (.ref (s1.heap.objs.size+4))) (PIE X pins σ (.Tuple es kx tp) R) X.xe { s1 with heap:=h',toks:=tk }:=fun t1 t2 h' tk hzz hTI hTO j1 j2 kk=>by
    refine wpAny_pyIter_zip hzz ?_
    have lt:∀ S:Src,Ai8 X.K H1 S→∀ a,S=.l a→a < s1.heap.objs.size:=fun S ok a e=>by
      subst e
      obtain ⟨xs,q⟩:=ok
      obtain ⟨its,_,p1,_⟩:=I1.list q
      obtain ⟨o,e,_⟩:=p1.isList
      exact Heap.lt_size e
    refine ⟨_,[s1.heap.objs.size+4,s1.heap.objs.size+2,s1.heap.objs.size+3,s1.heap.objs.size,s1.heap.objs.size+1],_,_,H1,rfl,I1.kept (t':=tk) kk,AqL (t1:=t1) (t2:=t2) (AoW _) (fun a e=>?_) (fun a e=>?_),
      ⟨hzz,hTI,⟨_,_,hTO⟩,j1,j2⟩,fun c hc=>?_,q⟩
    · have:=lt S1 o1 a e; exact ⟨lne this 4,lne this 3,lne this 0,lne this 1⟩
    · have:=lt S2 o2 a e; exact ⟨lne this 4,lne this 3,lne this 0,lne this 1⟩
    · have le:s1.heap.objs.size≤c:=by
        simp only [List.mem_cons,List.not_mem_nil,or_false] at hc
        rcases hc with e | e | e | e | e <;> subst e <;> omega
      exact I1.At4 le (I1.hok.fresh le)
  cases S1 with
  | l a =>
    cases ru1
    obtain ⟨xs,hq1⟩:=id o1
    obtain ⟨Ayd,rv1,p1,_⟩:=I1.list hq1
    cases S2 with
    | l b =>
      cases ru2
      obtain ⟨ys,hq2⟩:=id o2
      obtain ⟨its2,rv2,p2,_⟩:=I1.list hq2
      refine call_zip_2 p1.isList p2.isList fun h' hzz hTI hTO j1 j2 hsz kk=>fin 0 0 h' s1.toks hzz hTI hTO j1 j2 kk
    | s x =>
      obtain ⟨t,rfl⟩:=ru2
      refine callType_new F.called_zip (by decide) (F.typeCall_zip_2 _ _) (F.newCall_zip_2 _ _) (fun obj=>F.args_object_init_3 obj _ _) F.entry_zip_new (Anz a Ayd.toArray x t) ⟨p1.isList,?_⟩
      obtain ⟨z4,g5,g3,g4,g1,g2,kk⟩:=An2 (h:=s1.heap) (o1:=ApK a) (o2:=Acy x t) rfl rfl
      show _∧_
      rw [z4]
      exact ⟨⟨_,g5,rfl⟩,fin 0 t _ s1.toks g5 g3 g4 ⟨_,g1,rfl,rfl⟩ ⟨_,g2,rfl,rfl⟩ kk⟩
  | s y =>
    obtain ⟨t1,rfl⟩:=ru1
    cases S2 with
    | l b=>exact hz.elim
    | s x =>
      obtain ⟨t,rfl⟩:=ru2
      refine callType_new F.called_zip (by decide) (F.typeCall_zip_2 _ _) (F.newCall_zip_2 _ _) (fun obj=>F.args_object_init_3 obj _ _) F.entry_zip_new (An0 y t1 x t) ?_
      obtain ⟨z4,g5,g3,g4,g1,g2,kk⟩:=An2 (h:=s1.heap) (o1:=Acy y t1) (o2:=Acy x t) rfl rfl
      show _∧_
      rw [z4]
      exact ⟨⟨_,g5,rfl⟩,fin t1 t _ s1.toks g5 g3 g4 ⟨_,g1,rfl,rfl⟩ ⟨_,g2,rfl,rfl⟩ kk⟩
end
open PySem PySem.Spec PyProof.Rows
structure AbY (X:Cx) (x x':Str) (Nc:List Str) (Bl:List Nat) (scope:Scope):Prop where
  kind:scope.kind=.function
  cell:∀ y∈scope.names,y.2≠.cell
  names:∀ y∈scope.names,y.2=.local→scope.names.lookup y.1=some .local
  fr:∀ y∈scope.names,y.2=.free→X.env.scope.names.lookup y.1=some .cell∧scope.names.lookup y.1=some .free
  loc:scope.names.lookup x=some .local
  AwS:scope.names.lookup x'=some .local
  len:Nc.length=Bl.length+2
  hd:Nc[0]?=some x
  hd2:Nc[1]?=some x'
  nd:Nc.Nodup
  cap:∀ k j,Bl[k]?=some j→∃ y,Nc[k+2]?=some y∧X.N[j]?=some y∧scope.names.lookup y=some .free
def AlS (K:PySem.W.Frag) (Bl:List Nat) (tc:TT) (te:TE) (J:It) (σ:St) (H:Hp) (Q:VK):Prop :=
  ∃ W:Nat→Nat→List V→Hp→Prop,(∃ m,W 0 m [] H)∧∀ i m ys H,W i m ys H →
    (J.stop i H∧ys.length≤sizeLine∧∀ p,H p=none→Q (.ref p) (upd H p (.lst ys))) ∨
    (J.go i H∧ys.length < sizeLine∧∀ x H',J.yld i H x H'→∃ a u v,x=.ref a∧SqT K H' a [u,v]∧tc (some u::some v::J2 σ Bl) H' fun b H2 =>
      if b=true then te (some u::some v::J2 σ Bl) H2 fun y H3=>∃ m',m' < m∧W (i+1) m' (ys++[y]) H3 else ∃ m',m' < m∧W (i+1) m' ys H2)
def ArQ (K:PySem.W.Frag) (wi:TI) (Bl:List Nat) (tc:TT) (te:TE):TE:=fun σ H Q=>wi σ H fun J H1=>AlS K Bl tc te J σ H1 Q
section
variable {X:Cx} {pins:List (Addr × Obj)} {σ:St} {H:Hp} {s:Shared}
theorem ArR {x x':Str} {Nc:List Str} {Bl:List Nat} {scope:Scope} {cl:List (Str × Addr)} {C:Addr} {fp:List Addr} (I:Inv X pins σ H s) (O:AbY X x x' Nc Bl scope)
    (hcl:∀ x c,cl.lookup x=some c→X.env.cells.lookup x=some c∧(x,NameKind.free)∈scope.names) (Xk:∀ x,(x,NameKind.free)∈scope.names→cl.lookup x=X.env.cells.lookup x)
    (hC:s.heap.objs.size≤C) (hfp:∀ b∈fp,Rj X pins H b) (hfo:∀ b∈fp,b < s.heap.objs.size):(Ji X Nc scope cl C fp s H).Ok where
  mod:=I.ok.mod
  kind:=O.kind
  glob:=I.ok.glob
  blt:=I.ok.blt
  above:=hC
  inj:=fun a b c e1 e2=>I.ok.inj a b c (hcl a c e1).1 (hcl b c e2).1
  has:=fun y hy=>by
    have mem:(y,NameKind.free)∈scope.names:=by
      have hy':((relabel scope X.env).names.lookup y=some .cell)∨((relabel scope X.env).names.lookup y=some .free):=hy
      have hm:∃ k,(y,k)∈(relabel scope X.env).names∧(k=.cell∨k=.free):=by
        rcases hy' with h | h
        · exact ⟨_,PySem.mem_of_lookup h,.inl rfl⟩
        · exact ⟨_,PySem.mem_of_lookup h,.inr rfl⟩
      obtain ⟨k,hm,hk⟩:=hm
      obtain ⟨⟨n,k'⟩,hm',e⟩:=List.mem_map.mp hm
      dsimp only at e
      by_cases hc:(k' == NameKind.free && X.env.scope.kind == .function && X.env.kindOf n == some .cell)=true
      · rw [if_pos hc] at e
        injection e with e1 _
        subst e1
        have:k'=.free:=by
          have:=(Bool.and_eq_true _ _ ▸ (Bool.and_eq_true _ _ ▸ hc).1).1
          simpa using this
        subst this
        exact hm'
      · rw [if_neg hc] at e
        injection e with e1 e2
        subst e1 e2
        rcases hk with hk | hk
        · subst hk; exact absurd rfl (O.cell _ hm')
        · subst hk; exact hm'
    obtain ⟨c,e⟩:=I.ok.has y (.inl (O.fr _ mem rfl).1)
    exact ⟨c,(Xk y mem).trans e⟩
  cab:=fun _ _ z=>nomatch z
  hd:=I.ok.hd
  frames:=I.ok.frames
  stk:=.inl rfl
  exf:=fun b hb=>⟨Nat.ne_of_lt (Nat.lt_of_lt_of_le (hfo b hb) hC),fun y c e=>(hfp b hb).2.2.2.2.1 y c (hcl y c e).1⟩
  bs:=I.bs
  bsz:=Nat.le_trans I.ok.bsz I.sz
  Ak1:=fun b o e hb=>by
    rcases (hfp b hb).2.2.2.1 with z | z
    · exact I.ok.Ak1 b o e z
    · exact absurd (Nat.lt_of_lt_of_le (Heap.lt_size e) (Nat.le_trans I.ok.bsz z)) (Nat.lt_irrefl _)
  Ak2:=fun b hb z=>by
    rcases List.mem_cons.mp (I.Aio b z) with e | e
    · exact (hfp b hb).2.1 e
    · exact (hfp b hb).2.2.1 e
  Adh:=I.stack
  frf:=I.Aia
theorem An3 {x x':Str} {Nc:List Str} {Bl:List Nat} {scope:Scope} {cl:List (Str × Addr)} {C:Addr} {fp:List Addr} {h':Heap} {tk:Nat} {m0:Str→Option Value} (I:Inv X pins σ H s) (O:AbY X x x' Nc Bl scope)
    (hcl:∀ x c,cl.lookup x=some c→X.env.cells.lookup x=some c∧(x,NameKind.free)∈scope.names) (Xk:∀ x,(x,NameKind.free)∈scope.names→cl.lookup x=X.env.cells.lookup x)
    (hC:s.heap.objs.size≤C) (hfp:∀ b∈fp,Rj X pins H b) (hfo:∀ b∈fp,b < s.heap.objs.size)
    (old:∀ b o,s.heap.get? b=some o→h'.get? b=some o) (hns:h'.Ns C m0) :
    Inv (Ji X Nc scope cl C fp s H) [] (none::none::J2 σ Bl) H { s with heap:=h',toks:=tk } where
  ok:=ArR I O hcl Xk hC hfp hfo
  os:=rfl
  bare:=I.bare
  base:=Un.kept old
  loc:=by
    refine ⟨m0,hns,fun i y v hN hσ hv=>?_⟩
    match i with
    | 0=>simp at hσ
    | 1=>simp at hσ
    | k+2 =>
      rw [List.getElem?_cons_succ,List.getElem?_cons_succ] at hσ
      obtain ⟨j,hj,hs⟩:=Ai0 hσ
      obtain ⟨z,hz1,hz2,hz3⟩:=O.cap k j hj
      have hN':Nc[k+2]?=some y:=hN
      rw [hz1] at hN'
      cases hN'
      have mem:(y,NameKind.free)∈scope.names:=PySem.mem_of_lookup hz3
      have hk:=(O.fr _ mem rfl).1
      obtain ⟨m,hn,hl⟩:=I.loc
      obtain ⟨u,r,l⟩:=hl j y v hz2 hs (.inr (.inl hk))
      refine ⟨u,r,?_⟩
      rcases l with ⟨k',_⟩ | ⟨_,c,hc,z⟩
      · have k'':X.env.scope.names.lookup y=some .local:=k'
        rw [hk] at k''; cases k''
      · obtain ⟨o,ho,hd⟩:=z
        exact .inr ⟨.inl (HB I.ok.kind hz3 hk),c,(Xk y mem).trans hc,o,old _ _ ho,hd⟩
  cell:=fun y c e=>by
    obtain ⟨v,o,ho,hd⟩:=I.cell y c (hcl y c e).1
    exact ⟨v,o,old _ _ ho,hd⟩
  free:=I.hok.fresh hC
  Ra:=fun y c e=>I.Ra y c (hcl y c e).1
  pin:=fun p hp=>absurd (show p∈([]:List (Addr × Obj)) from hp) (by simp)
  hok:=I.hok.kept old
  len:=by
    show (none::none::J2 σ Bl).length=Nc.length
    rw [List.length_cons,List.length_cons,Aiz,O.len]
theorem An4 {x x':Str} {px px' tp:Pos} {kx:Nat} {Nc:List Str} {Bl:List Nat} {scope:Scope} {cl:List (Str × Addr)} {iter elt:Expr} {ifs:List Expr} {pos:Pos} {tc:TT} {te:TE} {Q:VK} {it:Addr} {fp:List Addr} {tn:Nat→Heap→Prop} {J:It}
    {RR:Value→Addr→Result→Shared→Prop} {E:Value→Shared→Prop}
    (O:AbY X x x' Nc Bl scope) (hc:X.calm=true)
    (hcl:∀ x c,cl.lookup x=some c→X.env.cells.lookup x=some c∧(x,NameKind.free)∈scope.names) (Xk:∀ x,(x,NameKind.free)∈scope.names→cl.lookup x=X.env.cells.lookup x)
    (hte:∀ C fp s H,PE (Ji X Nc scope cl C fp s H) elt te) (htc:∀ C fp s H,PIf (Ji X Nc scope cl C fp s H) ifs tc)
    (I:Inv X pins σ H s) (T:Turn X.prog X.w X.K (.Tuple [.Name x px,.Name x' px'] kx tp) J fp it tn) (st:tn 0 s.heap) (hfp:∀ b∈fp,Rj X pins H b) (h:AlS X.K Bl tc te J σ H Q)
    (hRR:∀ (D C:Addr) (s':Shared) (m:Str→Option Value),s'.heap.Ns C m→(∀ h',Heap.SameBut C s'.heap h'→∃ H',Inv X pins σ H' { s' with heap:=h' }∧H' C=none∧Q (.ref D) H') →
      s.heap.objs.size≤C→RR (.ref D) C (.ok .next) s') :
    wpAny (model X.prog X.w) X.A (newList []) (fun acc s₃=>wpAny (model X.prog X.w) X.A (newFunctionEnv scope X.env.globals cl [] X.env.qual none .none (some X.env)) (fun cenv s₄ =>
      codeAny (model X.prog X.w) X.A (.compStart (.ListComp elt [⟨(.Tuple [.Name x px,.Name x' px'] kx tp),iter,ifs,0⟩] scope pos) 0 (.ref it) acc { cenv with scope:=relabel scope X.env }) (RR acc cenv.locals) s₄) E s₃) E s:=by
  refine wpAny_newObj_type (wpAny_newFunctionEnv O.cell (by intro y hy; simp at hy) (fun h₁ hns₁ hsb₁=>?_) O.kind)
  dsimp only at hns₁ hsb₁ ⊢
  generalize hH2:s.heap.push { cls:=.type "list", dict:=none,data:=.seq ([]:List Value).toArray }=H2 at hns₁ hsb₁ ⊢
  have hC:H2.objs.size=s.heap.objs.size+1:=by rw [← hH2,Heap.size_push]
  have hCle:s.heap.objs.size≤H2.objs.size:=by rw [hC]; exact Nat.le_succ _
  have hDC:s.heap.objs.size≠H2.objs.size:=by rw [hC]; exact Nat.ne_of_lt (Nat.lt_succ_self _)
  have below:∀ b,b < s.heap.objs.size→b≠H2.objs.size∧b≠s.heap.objs.size:=fun b hb=>⟨by rw [hC]; exact Nat.ne_of_lt (Nat.lt_succ_of_lt hb),Nat.ne_of_lt hb⟩
  have old:∀ b o,s.heap.get? b=some o→h₁.get? b=some o:=fun b o e=>hsb₁.extBut b o (below b (Heap.lt_size e)).1 (Heap.get?_push_of_some _ (hH2 ▸ Heap.get?_push_of_some _ e))
  have hacc:h₁.get? s.heap.objs.size=some (N6 [] 0):=hsb₁.extBut _ _ hDC (Heap.get?_push_of_some _ (hH2 ▸ Heap.get?_push_size _ rfl))
  have hfo:∀ b∈fp,b < s.heap.objs.size:=fun b hb=>by
    obtain ⟨o,e,_⟩:=T.obj _ _ st b hb
    exact Heap.lt_size e
  have st1:tn 0 h₁:=T.keep _ _ _ st fun b _ o e=>old b o e
  generalize hDD:s.heap.objs.size=D at *
  generalize hCC:H2.objs.size=C at *
  have AqA:D≤C:=hCle
  let Y:Cx:=Ji X Nc scope cl C fp s H
  have I0:Inv Y [] (none::none::J2 σ Bl) H { s with heap:=h₁,toks:=s.toks+([]:List (Str × Value)).length }:=An3 I O hcl Xk (by rw [hDD]; exact hCle) hfp (fun b hb=>by rw [hDD]; exact hfo b hb) old hns₁
  have Anr:H D=none:=by rw [← hDD]; exact I.hok.fresh (Nat.le_refl _)
  have AdW:D≠C:=hDC
  have Dfs:D∉Y.fs:=fun z=>by
    have:=I.stack.mem (show D∈frs X.stack from z)
    obtain ⟨_,o,e,_⟩:=this
    have:=Heap.lt_size e
    rw [hDD] at this
    exact Nat.lt_irrefl _ this
  have Ans:∀ y c,Y.env.cells.lookup y=some c→c≠D:=fun y c e z=>by
    obtain ⟨v,q⟩:=I.cell y c (hcl y c e).1
    have:=q.lt
    rw [z,hDD] at this
    exact Nat.lt_irrefl _ this
  have Dfp:∀ b∈fp,b≠D:=fun b hb=>Nat.ne_of_lt (hfo b hb)
  have fpY:∀ {H':Hp},(∀ b∈fp,H' b=none)→∀ b∈fp,Rj Y [] H' b:=fun hn b hb =>
    ⟨hn b hb,Nat.ne_of_lt (Nat.lt_of_lt_of_le (hfo b hb) AqA),fun z=>I0.ok.Ak2 b hb z,.inl hb,fun y c e=>(I0.ok.exf b hb).2 y c e,fun p hp=>absurd (show p∈([]:List (Addr × Obj)) from hp) (by simp)⟩
  obtain ⟨W,⟨m0,w0⟩,turn⟩:=h
  have loop:∀ s₃:Shared,s₃={ s with heap:=h₁,toks:=s.toks+([]:List (Str × Value)).length } →
      codeAny (model X.prog X.w) X.A (.compLoop (.ListComp elt [⟨(.Tuple [.Name x px,.Name x' px'] kx tp),iter,ifs,0⟩] scope pos) 0 (.ref it) (.ref D) (compEnvC scope cl C X.env)) (RR (.ref D) C) s₃:=by
    rintro s₃ rfl
    refine Yp (fun n s'=>∃ (i:Nat) (o o':Option V) (H':Hp) (ys:List V) (us:List Value) (k:Nat),Inv Y [] (o::o'::J2 σ Bl) H' s'∧tn i s'.heap∧(∀ b∈fp,H' b=none)∧s'.heap.get? D=some (N6 us k)∧H' D=none∧Vals ys us∧W i n ys H')
      ?_ m0 ⟨0,none,none,H,[],[],0,I0,st1,fun b hb=>(hfp b hb).1,hacc,Anr,.nil,w0⟩
    rintro n s3 ⟨i,o3,o3',H3,ys,us,k,I3,st3,fr3,hD3,nD3,rv,w3⟩
    have fpP:∀ {H':Hp} {ob:Obj},(∀ b∈fp,H' b=none)→∀ b∈fp,Rj Y [(D,ob)] H' b:=fun hn b hb=>by
      obtain ⟨g0,g1,g2,g3,g4,_⟩:=fpY hn b hb
      refine ⟨g0,g1,g2,g3,g4,fun p hp=>?_⟩
      have e:p=(D,_):=List.mem_singleton.mp (show p∈[(D,_)] from hp)
      rw [e]
      exact Ne.symm (Dfp b hb)
    have IP:Inv Y [(D,N6 us k)] (o3::o3'::J2 σ Bl) H3 s3:=I3.Ma fun p hp=>by
      have e:p=(D,N6 us k):=List.mem_singleton.mp hp
      subst e
      exact ⟨hD3,nD3,AdW,Dfs,fun v z=>by cases z⟩
    have Ai2:∀ {σ':St} {H':Hp} {s':Shared} {pl:List (Addr × Obj)},Inv Y ([(D,N6 us k)]++pl) σ' H' s'→s'.heap.get? D=some (N6 us k)∧H' D=none:=fun I'=>by
      have z:=I'.pin (D,N6 us k) (List.mem_append_right _ (List.mem_append_left _ List.mem_cons_self))
      exact ⟨z.1,z.2.1⟩
    rcases turn i n ys H3 w3 with ⟨stop,hlen,fin⟩ | ⟨go,hlen,step⟩
    ·
      refine wpAny_mono (T.done Y rfl rfl rfl hc i _ s3 _ H3 (fun _ _=>False) IP (fpP fr3) st3 stop) (fun r s4 hr=>?_) fun _ _ z=>z.elim
      obtain ⟨hr,I4⟩:=hr
      subst hr
      obtain ⟨gD,nD⟩:=Ai2 (pl:=[]) (by simpa using I4)
      obtain ⟨m,hn,_⟩:=I4.loc
      refine hRR D C s4 m hn (fun h' hs'=>⟨upd H3 D (.lst ys),?_,(Be (Ne.symm AdW)).trans I4.free,fin D nD⟩) hCle
      have nt:∀ b ob,H3 b=some ob→b≠C:=fun b ob e z=>by
        have:=I4.free
        rw [z] at e
        rw [show H3 C=none from this] at e
        cases e
      have u1:Un (frs X.stack) fp H H3 s.heap h':=Un.but I4.base hs' (show s.heap.objs.size≤C by rw [hDD]; exact hCle)
      have ok1:HOk X.prog X.w H3 h':=fun b ob e=>(I4.hok b ob e).stay (fun c v hc q=>(hs'.2 c (by
        rcases hc with z | z
        · rw [z]; exact nt b ob e
        · exact nt c _ z)).trans q) (fun _ q=>q) fun _ _ q=>q
      have gD':h'.get? D=some (N6 us k):=(hs'.2 D AdW).trans gD
      exact I.call' (s':={ s4 with heap:=h' }) (ch:=fp) I4.os (u1.track (Nat.le_of_eq hDD) nD) (ok1.track nD ⟨hlen,us,k,rv,gD'⟩) I4.bare fun b hb=>by
        obtain ⟨_,g1,_,g3,g4,g5⟩:=hfp b hb
        exact ⟨g3,g1,g4,g5⟩
    ·
      refine wpAny_mono (T.item Y rfl rfl rfl hc i _ s3 _ H3 (fun _ _=>False) IP (fpP fr3) st3 go) (fun r s4 hr=>?_) fun _ _ z=>z.elim
      obtain ⟨u0,hr,h4⟩:=hr
      subst hr
      refine wpAny_mono h4 (fun _ s5 h5=>?_) fun _ _ z=>z.elim
      obtain ⟨x5,H5,I5,r5,y5,st5,fr5⟩:=h5
      have I5':=I5.pinned (fpP fr5) (T.obj _ _ st5)
      have n1:PG Y (.Name x px) (Aah 0):=Cg (i:=0) O.nd O.hd (.inl (Fq I.ok.kind O.loc (by intro z; cases z))) (.inr (Fq I.ok.kind O.loc (by intro z; cases z)))
      have n2:PG Y (.Name x' px') (Aah 1):=Cg (i:=1) O.nd O.hd2 (.inl (Fq I.ok.kind O.AwS (by intro z; cases z))) (.inr (Fq I.ok.kind O.AwS (by intro z; cases z)))
      have tgt:PG Y (.Tuple [.Name x px,.Name x' px'] kx tp) (Aw1 Y.K 2 (Arx (Aah 0) (Arx (Aah 1) Aw0))):=AuY hc (Ani n1 (Ani n2 At2))
      obtain ⟨aT,uT,vT,rfl,hT,stepT⟩:=step x5 _ y5
      refine wpAny_mono (tgt _ s5 _ H5 (.ref aT) u0 (fun σ2 H2=>σ2=some uT::some vT::J2 σ Bl∧H2=H5) I5' r5 ⟨aT,[uT,vT],rfl,hT,rfl,uT,[vT],rfl,vT,[],rfl,rfl,rfl,rfl⟩) (fun _ s6 h6=>?_) fun _ _ z=>z.elim
      obtain ⟨_,_,I6,rfl,rfl⟩:=h6
      refine wpAny_mono ((htc C fp s H).run I6 stepT) (fun b s7 h7=>?_) fun _ _ z=>z.elim
      obtain ⟨H7,I7,q7⟩:=h7
      have Ahk:∀ {σ':St} {H':Hp} {s':Shared},Inv Y ([(D,N6 us k)]++Adi fp s5.heap) σ' H' s'→tn (i+1) s'.heap∧∀ b∈fp,H' b=none:=fun I' =>
        ⟨T.keep _ _ _ st5 fun b hb o e=>(I'.pin (b,o) (List.mem_append_right _ (List.mem_append_right _ (J1 hb e)))).1,fun b hb=>by
          obtain ⟨o,e,d⟩:=T.obj _ _ st5 b hb
          exact (I'.pin (b,o) (List.mem_append_right _ (List.mem_append_right _ (J1 hb e)))).2.1⟩
      cases b with
      | false =>
        rw [if_neg Bool.false_ne_true] at q7
        rw [if_neg Bool.false_ne_true]
        obtain ⟨m',hm,w7⟩:=q7
        obtain ⟨gD,nD⟩:=Ai2 I7
        obtain ⟨k1,k2⟩:=Ahk I7
        exact ⟨m',hm,i+1,some uT,some vT,H7,ys,us,k,I7.Ma (fun p hp=>nomatch hp),k1,k2,gD,nD,rv,w7⟩
      | true =>
        rw [if_pos rfl] at q7
        rw [if_pos rfl]
        refine wpAny_mono (hte C fp s H _ s7 _ H7 _ I7 q7) (fun u8 s8 h8=>?_) fun _ _ z=>z.elim
        obtain ⟨y8,H8,I8,r8,m',hm,w8⟩:=h8
        obtain ⟨gD,nD⟩:=Ai2 I8
        obtain ⟨k1,k2⟩:=Ahk I8
        refine call_meets F.slot_list_append ⟨_,gD,rfl⟩ F.entry_list_append (F.args_list_append_2 _ _) (PySem.list_append D us.toArray k u8 (by rw [List.size_toArray,← rv.length]; omega)) ⟨gD,?_⟩
        have q:=PySem.IsL.update gD (·.push u8)
        have e1:us.toArray.push u8=(us++[u8]).toArray:=by simp
        rw [e1] at q
        have I8':Inv Y [] (some uT::some vT::J2 σ Bl) H8 s8:=I8.Ma (fun p hp=>nomatch hp)
        have I9:Inv Y [] (some uT::some vT::J2 σ Bl) H8 { s8 with heap:=s8.heap.update D (Obj.mapSeq (·.push u8)),toks:=s8.toks } :=
          I8'.turned (it:=D) (fun b o hb e=>(Heap.get?_update_other s8.heap (Obj.mapSeq (·.push u8)) (Ne.symm hb)).trans e) nD AdW (.inr (Nat.le_of_eq hDD)) Ans (fun p hp=>nomatch hp)
        refine ⟨m',hm,i+1,some uT,some vT,H8,ys++[y8],us++[u8],_,I9,T.keep _ _ _ k1 fun b hb o e=>(Heap.get?_update_other s8.heap (Obj.mapSeq (·.push u8)) (Ne.symm (Dfp b hb))).trans e,k2,q,nD,rv.append (.cons r8 .nil),w8⟩
  exact codeAny_compStart_list (loop _ rfl) (T.self X.A 0 _ _ _ st1 (loop _ rfl))
theorem ArS {x x':Str} {px px' tp pos:Pos} {kx:Nat} {Nc:List Str} {Bl:List Nat} {scope:Scope} {iter elt:Expr} {ifs:List Expr} {wi:TI} {tc:TT} {te:TE} (O:AbY X x x' Nc Bl scope) (hc:X.calm=true) (hi:PI X (.Tuple [.Name x px,.Name x' px'] kx tp) iter wi)
    (htc:∀ cl C fp s H,PIf (Ji X Nc scope cl C fp s H) ifs tc) (hte:∀ cl C fp s H,PE (Ji X Nc scope cl C fp s H) elt te) (hs:∀ x,foldedSetIterable iter X.env x=pure x:=by intro _; rfl) :
    PE X (.ListComp elt [⟨(.Tuple [.Name x px,.Name x' px'] kx tp),iter,ifs,0⟩] scope pos) (ArQ X.K wi Bl tc te):=by
  intro pins s σ H Q I h
  rw [eval_ListComp]
  obtain ⟨cl,e1,e2,e3⟩:=Yo (scope:=scope) (env:=X.env) fun y hy hf=>I.ok.has y.1 (.inl (O.fr y hy hf).1)
  refine wpAny_comprehension_free (use:=none) rfl hs e1 O.kind O.names (thn (hi pins s σ H _ I h) fun v s1 h1=>thn h1 fun itv s2 h2=>?_)
  obtain ⟨it,fp,tn,J,H2,e,I2,T,st2,f2,w2⟩:=h2
  subst e
  refine An4 (RR:=fun acc C=>compPost (model X.prog X.w) X.A X.xe none (EP X pins σ Q) acc C) O hc e2 e3 (hte cl) (htc cl) I2 T st2 f2 w2 ?_
  intro D C s' m hn hq hC
  refine ⟨m,hn,fun h' hs'=>?_⟩
  obtain ⟨H',I',_,q⟩:=hq h' hs'
  exact ⟨.ref D,H',I',rfl,q⟩
theorem AqM {K:PySem.W.Frag} {x x':Str} {px px' tp pos:Pos} {kx:Nat} {Nc:List Str} {Bl:List Nat} {scope:Scope} {iter elt:Expr} {ifs:List Expr} {wi:TI} {tc:TT} {te:TE} (O:AbY X x x' Nc Bl scope) (hc:X.calm=true) (hi:PI X (.Tuple [.Name x px,.Name x' px'] kx tp) iter wi)
    (htc:∀ cl C fp s H,PIf (Ji X Nc scope cl C fp s H) ifs tc) (hte:∀ cl C fp s H,PE (Ji X Nc scope cl C fp s H) elt te) (hs:∀ x,foldedSetIterable iter X.env x=pure x:=by intro _; rfl) (hK:X.K=K:=by rfl) :
    PE X (.ListComp elt [⟨(.Tuple [.Name x px,.Name x' px'] kx tp),iter,ifs,0⟩] scope pos) (ArQ K wi Bl tc te):=by
  subst hK
  exact ArS O hc hi htc hte hs
theorem ArT {K:PySem.W.Frag} {S1 S2:Src} {n:Nat} {Bl:List Nat} {tc:TT} {te:TE} {σ:St} {H:Hp} {Q:VK} (f g:Nat→V) (Pv:Nat→List V→Hp→Prop) (h0:Pv 0 [] H) (hl:∀ i ys H,i≤n→Pv i ys H→ys.length≤i)
    (hz:n≤sizeLine) (h1:∀ i ys H,i < n→Pv i ys H→Xm K H S1 i (f i)) (h2:∀ i ys H,i < n→Pv i ys H→Xm K H S2 i (g i)) (hst:∀ ys H,Pv n ys H→(AtQ K S1 S2).stop n H)
    (hs:∀ i ys H T,i < n→Pv i ys H→H T=none→Hy n Pv tc te (some (f i)::some (g i)::J2 σ Bl) i ys (upd H T (.tup [f i,g i])))
    (hd:∀ ys H p,Pv n ys H→H p=none→Q (.ref p) (upd H p (.lst ys))):AlS K Bl tc te (AtQ K S1 S2) σ H Q:=by
  refine ⟨fun i m ys H=>m=n - i∧i≤n∧Pv i ys H,⟨n,by simp,Nat.zero_le _,h0⟩,?_⟩
  rintro i m ys H ⟨rfl,hi,p⟩
  have hy:=hl i ys H hi p
  by_cases hlt:i < n
  · refine .inr ⟨⟨⟨_,h1 i ys H hlt p⟩,_,h2 i ys H hlt p⟩,by omega,fun x H' y=>?_⟩
    obtain ⟨T,rfl,hT,e⟩:=y
    have e:=e _ _ (h1 i ys H hlt p) (h2 i ys H hlt p)
    subst e
    exact ⟨T,f i,g i,rfl,SqT.of Ah,hs i ys H T hlt p hT⟩
  · have e:i=n:=by omega
    subst e
    exact .inl ⟨hst ys H p,by omega,fun p' hp=>hd ys H p' p hp⟩
theorem Av2 {K:PySem.W.Frag} {H:Hp} {u:List Nat} {i:Nat} (h:i < u.length):Xm K H (.s (tx u)) i (.str ⟨#[u.getD i 0]⟩) :=
  ⟨u.getD i 0,by rw [AoN,List.getElem?_eq_getElem h]; simp [List.getD,h],rfl⟩
theorem AtS {K:PySem.W.Frag} {H:Hp} {a:Addr} {xs:List V} {i:Nat} (q:SqL K H a xs) (h:i < xs.length):Xm K H (.l a) i (xs.getD i .non) :=
  ⟨xs,q,by rw [List.getElem?_eq_getElem h]; simp [List.getD,h]⟩
end
open PySem PySem.Spec PyProof.Rows
section
variable {X:Cx}
def Axu (K:PySem.W.Frag):V→List V→Hp→VK→Prop:=fun x vs H Q=>∃ a ns k,x=.ref a∧vs=[.int k]∧SqL K H a (vI ns)∧Q (.int (ns.count k:Nat)) H
end
def Ite (K:PySem.W.Frag) (a:Addr):It where
  go:=fun i H=>∃ xs x,SqL K H a xs∧xs[i]?=some x
  yld:=fun i H x H'=>∃ T,x=.ref T∧H T=none∧∀ xs u,SqL K H a xs→xs[i]?=some u→H'=upd H T (.tup [.int (i:Int),u])
  stop:=fun i H=>∃ xs,SqL K H a xs∧xs.length=i
def Azi (e it a:Addr) (i:Nat) (h:Heap):Prop:=(∃ old,IsEnum h e it i old)∧h.IsListIter it a i
section
variable {X:Cx} {es:List Expr} {kx:Nat} {tp:Pos}
def AyB (K:PySem.W.Frag) (ta:TA):TI:=fun σ H R=>ta σ H fun vs H1=>∃ a,vs=[.ref a]∧(∃ xs,SqL K H1 a xs)∧R (Ite K a) H1
end
open PySem PySem.Spec PyProof.Rows
inductive AqN (K:PySem.W.Frag) (H:Hp):Nat→V→V→Prop where
  | flat {n:Nat} {x:V} (h:GQ x=true):AqN K H n x x
  | lst {n:Nat} {p q:Addr} {xs ys:List V} (hp:SqL K H p xs) (hq:SqL K H q ys) (hl:xs.length=ys.length) (hi:∀ (i:Nat) (x y:V),xs[i]?=some x→ys[i]?=some y→AqN K H n x y):AqN K H (n+1) (.ref p) (.ref q)
  | tup {n:Nat} {p q:Addr} {xs ys:List V} (hp:SqT K H p xs) (hq:SqT K H q ys) (hl:xs.length=ys.length) (hi:∀ (i:Nat) (x y:V),xs[i]?=some x→ys[i]?=some y→AqN K H n x y):AqN K H (n+1) (.ref p) (.ref q)
section
variable {X:Cx} {K:PySem.W.Frag}
def AwT (K:PySem.W.Frag) (H:Hp) (p q:Addr):Prop:=∃ xs ys:List V,SqL K H p xs∧SqL K H q ys∧xs.length=ys.length∧∀ (i:Nat) (x y:V),xs[i]?=some x→ys[i]?=some y→AqN K H 50 x y
def Azj (K:PySem.W.Frag):R2:=fun x y H Q=>∃ p q,x=.ref p∧y=.ref q∧AwT K H p q∧Q (.bl true) H
def Azk (K:PySem.W.Frag):R2:=fun x y H Q=>∃ p q,x=.ref p∧y=.ref q∧AwT K H p q∧Q (.bl false) H
end
open PySem PySem.Spec PyProof.Rows
section
variable {X:Cx} {K:PySem.W.Frag} {k:Nat} {f C:Addr} {fd:FuncData} {ps:List Str} {sp:Sp} {dvs:List V} {ds:List Value} {x m:Str} {p pos apos:Pos} {e o:Expr} {es:List Expr} {ta:TE} {t:TA}
def Azl (K:PySem.W.Frag):R2:=fun x y H Q=>∃ p q xs,x=.ref p∧y=.ref q∧SqL K H p xs∧SqL K H q []∧Q (.bl (!xs.isEmpty)) H
def Azm (K:PySem.W.Frag):R2:=fun x y H Q=>∃ p q xs,x=.ref p∧y=.ref q∧SqL K H p xs∧SqL K H q []∧Q (.bl xs.isEmpty) H
end
open PySem PySem.Spec PyProof.Rows PySem.Builtin PySem.Builtin.Str
def jn (c:Nat):List (List Nat)→List Nat
  | []=>[]
  | [w]=>w
  | w::v::r=>w++c::jn c (v::r)
theorem ArU {c:Nat}:∀ {w v a b:List Nat},c∉w→c∉v→w++c::a=v++c::b→w=v∧a=b
  | [],[],a,b,_,_,h=>⟨rfl,(List.cons.inj h).2⟩
  | [],x::v,a,b,_,hv,h=>absurd (by have:=(List.cons.inj h).1; rw [this]; exact List.mem_cons_self) hv
  | x::w,[],a,b,hw,_,h=>absurd (by have:=(List.cons.inj h).1; rw [← this]; exact List.mem_cons_self) hw
  | x::w,y::v,a,b,hw,hv,h=>by
    have e:=List.cons.inj h
    have:=ArU (w:=w) (v:=v) (fun z=>hw (List.mem_cons_of_mem _ z)) (fun z=>hv (List.mem_cons_of_mem _ z)) e.2
    exact ⟨by rw [e.1,this.1],this.2⟩
theorem join_list (c:Nat):∀ l:List Str,(Str.join ⟨#[c]⟩ l).cps.toList=jn c (l.map fun z=>z.cps.toList)
  | []=>rfl
  | [x]=>rfl
  | x::y::r=>by
    show (x++⟨#[c]⟩++Str.join ⟨#[c]⟩ (y::r)).cps.toList=x.cps.toList++c::jn c ((y::r).map fun z=>z.cps.toList)
    rw [← join_list c (y::r)]
    show ((x.cps++#[c])++(Str.join ⟨#[c]⟩ (y::r)).cps).toList=_
    simp
theorem Av3 (z:Str):1≤Builtin.Str.strKind z:=by
  unfold Builtin.Str.strKind
  split
  · omega
  · split <;> omega
theorem AiA:∀ {l:List Nat} {a:Nat},a∈l→a≤l.sum
  | [],_,h=>by cases h
  | b::l,a,h=>by
    rw [List.sum_cons]
    rcases List.mem_cons.mp h with z | z
    · rw [z]; omega
    · have:=AiA z; omega
theorem Alo:∀ {l:List (Str × Tok)} {ws:List (List Nat)},l.map (·.1)=ws.map tx→Vals (vS ws) (strValues l)
  | [],[],_=>.nil
  | [],w::ws,h=>by cases h
  | p::l,[],h=>by cases h
  | p::l,w::ws,h=>by
    have e:=List.cons.inj h
    exact .cons ⟨p.2,by rw [← e.1]⟩ (Alo e.2)
def Aye:V→List V→Hp→VK→Prop:=fun x vs H Q=>∃ (u:List Nat) (c:Nat) (ws:List (List Nat)),x=.str (tx u)∧vs=[.str ⟨#[c]⟩]∧c < 256∧u.length+2≤sizeLine∧ws≠[]∧jn c ws=u∧(∀ w∈ws,c∉w)∧∀ l,H l=none→Q (.ref l) (upd H l (.lst (vS ws)))
open PySem PySem.Spec PyProof.Rows PySem.Builtin PySem.Builtin.Str
def jnS (sp:List Nat):List (List Nat)→List Nat
  | []=>[]
  | [w]=>w
  | w::v::r=>w++(sp++jnS sp (v::r))
structure Sgn (sp:List Nat) (c d:Nat):Prop where
  at':∀ i,sp[i]?=some c↔i=d
  b:∀ z∈sp,z < 256
theorem Sgn.lt {sp:List Nat} {c d:Nat} (S:Sgn sp c d):d < sp.length:=(List.getElem?_eq_some_iff.mp ((S.at' d).mpr rfl)).1
theorem Sgn.parts {sp:List Nat} {c d:Nat} (S:Sgn sp c d):∃ a b,sp=a++c::b∧c∉a∧c∉b∧a.length=d:=by
  have h:=S.lt
  refine ⟨sp.take d,sp.drop (d+1),?_,fun z=>?_,fun z=>?_,by rw [List.length_take]; omega⟩
  · have e:sp[d]=c:=(List.getElem?_eq_some_iff.mp ((S.at' d).mpr rfl)).2
    have:sp.take d++sp.drop d=sp:=List.take_append_drop d sp
    rw [List.drop_eq_getElem_cons h,e] at this
    exact this.symm
  · obtain ⟨i,hi,e⟩:=List.getElem_of_mem z
    rw [List.length_take] at hi
    have q:(sp.take d)[i]?=some c:=by rw [← e]; exact List.getElem?_eq_getElem _
    rw [List.getElem?_take,if_pos (by omega)] at q
    have:=(S.at' i).mp q
    omega
  · obtain ⟨i,hi,e⟩:=List.getElem_of_mem z
    have q:(sp.drop (d+1))[i]?=some c:=by rw [← e]; exact List.getElem?_eq_getElem _
    rw [List.getElem?_drop] at q
    have:=(S.at' _).mp q
    omega
theorem Xn {sp:List Nat} {c d:Nat} (S:Sgn sp c d):∀ {ws:List (List Nat)},ws≠[]→(jnS sp ws).count c+1=(ws.map (List.count c)).sum+ws.length
  | [],h=>absurd rfl h
  | [w],_=>by simp [jnS]
  | w::v::r,_=>by
    have ih:=Xn S (ws:=v::r) (by simp)
    obtain ⟨a,b,e,na,nb,_⟩:=S.parts
    have one:sp.count c=1:=by rw [e,List.count_append,List.count_cons_self,List.count_eq_zero.mpr na,List.count_eq_zero.mpr nb]
    rw [jnS,List.count_append,List.count_append,one,List.map_cons,List.sum_cons,List.length_cons]
    omega
theorem AtT {sp:List Nat} {c d:Nat} (S:Sgn sp c d) {w v a b:List Nat} (hw:c∉w) (hv:c∉v) (h:w++(sp++a)=v++(sp++b)):w=v∧a=b:=by
  obtain ⟨p,q,e,np,nq,_⟩:=S.parts
  have h':(w++p)++c::(q++a)=(v++p)++c::(q++b):=by rw [e] at h; simpa using h
  have:=ArU (fun z=>(List.mem_append.mp z).elim hw np) (fun z=>(List.mem_append.mp z).elim hv np) h'
  exact ⟨List.append_cancel_right this.1,List.append_cancel_left this.2⟩
theorem Sgn.mem {sp:List Nat} {c d:Nat} (S:Sgn sp c d):c∈sp:=List.mem_of_getElem? ((S.at' d).mpr rfl)
theorem ApL {sp:List Nat} {c d:Nat} (S:Sgn sp c d):∀ {ws vs:List (List Nat)},ws≠[]→vs≠[]→(∀ w∈ws,c∉w)→(∀ v∈vs,c∉v)→jnS sp ws=jnS sp vs→ws=vs
  | [],_,h,_,_,_,_=>absurd rfl h
  | _,[],_,h,_,_,_=>absurd rfl h
  | [w],[v],_,_,_,_,e=>by rw [show w=v from e]
  | [w],v::v'::r,_,_,hw,_,e=>absurd (show c∈w by rw [show w=v++(sp++jnS sp (v'::r)) from e]; simp [S.mem]) (hw w List.mem_cons_self)
  | w::w'::r,[v],_,_,_,hv,e=>absurd (show c∈v by rw [← show w++(sp++jnS sp (w'::r))=v from e]; simp [S.mem]) (hv v List.mem_cons_self)
  | w::w'::r,v::v'::r',_,_,hw,hv,e=>by
    have h:=AtT S (hw w List.mem_cons_self) (hv v List.mem_cons_self) (show w++(sp++jnS sp (w'::r))=v++(sp++jnS sp (v'::r')) from e)
    rw [h.1,ApL S (ws:=w'::r) (vs:=v'::r') (by simp) (by simp) (fun x hx=>hw x (List.mem_cons_of_mem _ hx)) (fun x hx=>hv x (List.mem_cons_of_mem _ hx)) h.2]
theorem AiB (sp:List Nat):∀ l:List Str,(Str.join (tx sp) l).cps.toList=jnS sp (l.map fun z=>z.cps.toList)
  | []=>rfl
  | [x]=>rfl
  | x::y::r=>by
    show (x++tx sp++Str.join (tx sp) (y::r)).cps.toList=x.cps.toList++(sp++jnS sp ((y::r).map fun z=>z.cps.toList))
    rw [← AiB sp (y::r)]
    show ((x.cps++(tx sp).cps)++(Str.join (tx sp) (y::r)).cps).toList=_
    simp [tx]
theorem ApM {sp:List Nat} {c d:Nat} (S:Sgn sp c d):∀ {ws:List (List Nat)},(∀ w∈ws,c∉w)→∀ p,(jnS sp ws)[p]?=some c→d≤p∧∀ i,i < sp.length→(jnS sp ws)[p - d+i]?=sp[i]?
  | [],_,p,h=>by simp [jnS] at h
  | [w],no,p,h=>absurd (List.mem_of_getElem? h) (no w List.mem_cons_self)
  | w::v::r,no,p,h=>by
    rw [jnS] at h ⊢
    by_cases c1:p < w.length
    · rw [List.getElem?_append_left c1] at h
      exact absurd (List.mem_of_getElem? h) (no w List.mem_cons_self)
    · rw [List.getElem?_append_right (by omega)] at h
      by_cases c2:p - w.length < sp.length
      · rw [List.getElem?_append_left c2] at h
        have e:=(S.at' _).mp h
        refine ⟨by omega,fun i hi=>?_⟩
        rw [List.getElem?_append_right (by omega),List.getElem?_append_left (by omega)]
        congr 1
        omega
      · rw [List.getElem?_append_right (by omega)] at h
        have ih:=ApM S (ws:=v::r) (fun x hx=>no x (List.mem_cons_of_mem _ hx)) _ h
        refine ⟨by omega,fun i hi=>?_⟩
        rw [List.getElem?_append_right (by omega),List.getElem?_append_right (by omega),← ih.2 i hi]
        congr 1
        omega
theorem ApN {sp:List Nat} {c d:Nat} (S:Sgn sp c d):∀ {ws:List (List Nat)},(∀ w∈ws,c∉w)→∀ p p',(jnS sp ws)[p]?=some c→(jnS sp ws)[p']?=some c→p < p'→p+sp.length≤p'
  | [],_,p,p',h,_,_=>by simp [jnS] at h
  | [w],no,p,p',h,_,_=>absurd (List.mem_of_getElem? h) (no w List.mem_cons_self)
  | w::v::r,no,p,p',h,h',lt=>by
    rw [jnS] at h h'
    have c1:¬ p < w.length:=fun c1=>by
      rw [List.getElem?_append_left c1] at h
      exact absurd (List.mem_of_getElem? h) (no w List.mem_cons_self)
    rw [List.getElem?_append_right (by omega)] at h h'
    have no':∀ x∈v::r,c∉x:=fun x hx=>no x (List.mem_cons_of_mem _ hx)
    by_cases c2:p - w.length < sp.length
    · rw [List.getElem?_append_left c2] at h
      have e:=(S.at' _).mp h
      by_cases c3:p' - w.length < sp.length
      · rw [List.getElem?_append_left c3] at h'
        have e':=(S.at' _).mp h'
        omega
      · rw [List.getElem?_append_right (by omega)] at h'
        have:=(ApM S no' _ h').1
        omega
    · rw [List.getElem?_append_right (by omega)] at h h'
      have:=ApN S no' _ _ h h' (by omega)
      omega
theorem ArV (u:List Nat) (i n:Nat):((tx u).cps.extract i n).toList=(u.drop i).take (n - i):=by
  show ((u.toArray).extract i n).toList=_
  rw [Array.toList_extract,List.extract_eq_drop_take]
theorem AqO {u sp:List Nat} {j:Nat}:Builtin.Str.subAt (tx u) (tx sp) j=true↔(u.drop j).take sp.length=sp:=by
  unfold Builtin.Str.subAt
  rw [beq_iff_eq,← Array.toList_inj,ArV,Bt,show j+sp.length - j=sp.length by omega,O4]
theorem AiC {u sp:List Nat} {c d limit:Nat} (M:∀ j,u[j+d]?=some c↔(j+(tx sp).length≤(tx u).length∧Builtin.Str.subAt (tx u) (tx sp) j=true)) (G:∀ j j',u[j+d]?=some c→u[j'+d]?=some c→j < j'→j+(tx sp).length≤j'):∀ (k i:Nat) (acc:Array Nat) (free:Nat),(∀ j,i≤j→u[j+d]?=some c→free≤j)→acc.size+k≤limit →
    (forIn (List.range' i k) (acc,free) (StrLaws.occBody (tx u) (tx sp) (tx u).length limit)).run.fst.size=acc.size+((u.drop (i+d)).take k).count c
  | 0,i,acc,free,_,_=>by simp
  | k+1,i,acc,free,hf,hl=>by
    rw [List.range'_succ,List.forIn_cons]
    by_cases hc:u[i+d]?=some c
    · have h1:=(M i).mp hc
      have e:StrLaws.occBody (tx u) (tx sp) (tx u).length limit i (acc,free)=pure (ForInStep.yield (acc.push i,i+(tx sp).length)):=by
        unfold StrLaws.occBody
        rw [if_pos ⟨⟨⟨by show acc.size < limit; omega,hf i (Nat.le_refl _) hc⟩,h1.1⟩,h1.2⟩]
      rw [e]
      have ih:=AiC (limit:=limit) M G k (i+1) (acc.push i) (i+(tx sp).length) (fun j hj hj'=>G i j hc hj' (by omega)) (by rw [Array.size_push]; omega)
      have hd:u.drop (i+d)=c::u.drop (i+1+d):=by
        obtain ⟨hlt,he⟩:=List.getElem?_eq_some_iff.mp hc
        rw [List.drop_eq_getElem_cons hlt,he,show i+d+1=i+1+d by omega]
      rw [hd,List.take_succ_cons,List.count_cons_self]
      rw [Array.size_push] at ih
      refine Eq.trans ih ?_
      omega
    · have h1:¬ (i+(tx sp).length≤(tx u).length∧Builtin.Str.subAt (tx u) (tx sp) i=true):=fun z=>hc ((M i).mpr z)
      have e:StrLaws.occBody (tx u) (tx sp) (tx u).length limit i (acc,free)=pure (ForInStep.yield (acc,free)):=by
        unfold StrLaws.occBody
        rw [if_neg fun z=>h1 ⟨z.1.2,z.2⟩]
      rw [e]
      have ih:=AiC (limit:=limit) M G k (i+1) acc free (fun j hj=>hf j (by omega)) (by omega)
      refine Eq.trans ih ?_
      congr 1
      by_cases hlt:i+d < u.length
      · rw [List.drop_eq_getElem_cons hlt,List.take_succ_cons,List.count_cons_of_ne,show i+d+1=i+1+d by omega]
        intro z
        exact hc (by rw [List.getElem?_eq_getElem hlt]; exact congrArg some z)
      · rw [List.drop_eq_nil_of_le (by omega),List.drop_eq_nil_of_le (by omega)]
        simp
theorem AqP {sp:List Nat} {c d:Nat} (S:Sgn sp c d) {ws:List (List Nat)} (no:∀ w∈ws,c∉w):(Builtin.Str.occurrences (tx (jnS sp ws)) (tx sp) 0 (tx (jnS sp ws)).length ((tx (jnS sp ws)).length+1)).length=(jnS sp ws).count c:=by
  rw [StrLaws.occ_eq]
  have dl:=S.lt
  have hc:=ApM S no
  have hg:=ApN S no
  generalize jnS sp ws=u at hc hg ⊢
  have M:∀ j,u[j+d]?=some c↔(j+(tx sp).length≤(tx u).length∧Builtin.Str.subAt (tx u) (tx sp) j=true):=fun j=>by
    rw [AqO,Bt,Bt]
    constructor
    · intro h
      have q:=(hc _ h).2
      rw [show j+d - d=j by omega] at q
      have hl:j+sp.length≤u.length:=by
        have:=q (sp.length - 1) (by omega)
        rw [List.getElem?_eq_getElem (l:=sp) (show sp.length - 1 < sp.length by omega)] at this
        have:=(List.getElem?_eq_some_iff.mp this).1
        omega
      refine ⟨hl,List.ext_getElem? fun i=>?_⟩
      rw [List.getElem?_take]
      split
      · rw [List.getElem?_drop,q i (by assumption)]
      · rw [List.getElem?_eq_none (by omega)]
    · rintro ⟨hl,e⟩
      have:((u.drop j).take sp.length)[d]?=sp[d]?:=by rw [e]
      rw [List.getElem?_take,if_pos dl,List.getElem?_drop,(S.at' d).mpr rfl] at this
      exact this
  have G:∀ j j',u[j+d]?=some c→u[j'+d]?=some c→j < j'→j+(tx sp).length≤j':=fun j j' h h' l=>by
    have:=hg _ _ h h' (by omega)
    rw [Bt]
    omega
  have:=AiC (limit:=(tx u).length+1) M G ((tx u).length+1 - 0) 0 #[] 0 (fun _ _ _=>Nat.zero_le _) (by simp)
  rw [Array.length_toList,this,Bt]
  have t0:(u.take d).count c=0:=List.count_eq_zero.mpr fun z=>by
    obtain ⟨i,hi,e⟩:=List.getElem_of_mem z
    rw [List.length_take] at hi
    have q:(u.take d)[i]?=some c:=by rw [← e]; exact List.getElem?_eq_getElem _
    rw [List.getElem?_take,if_pos (by omega)] at q
    have:=(hc _ q).1
    omega
  have e:u.count c=(u.take d).count c+(u.drop d).count c:=by rw [← List.count_append,List.take_append_drop]
  rw [e,t0,List.take_of_length_le (by rw [List.length_drop]; omega)]
  simp
theorem Av4 {sp:List Nat} (h:∀ z∈sp,z < 256):Builtin.Str.strKind (tx sp)=1:=by
  unfold Builtin.Str.strKind
  rw [if_pos]
  rw [← Array.all_toList,O4,List.all_eq_true]
  exact fun z hz=>decide_eq_true (h z hz)
theorem AoX {sp:List Nat} {c d:Nat} (S:Sgn sp c d) {ws:List (List Nat)} (ne:ws≠[]) (no:∀ w∈ws,c∉w):(Txt.split (tx (jnS sp ws)) (tx sp)).length=ws.length:=by
  have n:=AqP S no
  have k:=Xn S ne
  have s0:(ws.map (List.count c)).sum=0:=by
    clear n k ne
    induction ws with
    | nil=>rfl
    | cons w r ih=>rw [List.map_cons,List.sum_cons,List.count_eq_zero.mpr (no w List.mem_cons_self),ih fun x hx=>no x (List.mem_cons_of_mem _ hx)]
  unfold Txt.split
  split
  · rename_i h
    have lt:(tx (jnS sp ws)).length < (tx sp).length:=by
      rcases Bool.or_eq_true_iff.mp h with h | h
      · exact of_decide_eq_true h
      · have:=of_decide_eq_true h
        rw [Av4 S.b] at this
        have:=Av3 (tx (jnS sp ws))
        omega
    rw [Bt,Bt] at lt
    have:(jnS sp ws).count c=0:=List.count_eq_zero.mpr fun z=>by
      obtain ⟨i,hi,e⟩:=List.getElem_of_mem z
      have q:=(ApM S no i (by rw [← e]; exact List.getElem?_eq_getElem _)).2 (sp.length - 1) (by have:=S.lt; omega)
      rw [List.getElem?_eq_getElem (l:=sp) (show sp.length - 1 < sp.length by have:=S.lt; omega)] at q
      have:=(List.getElem?_eq_some_iff.mp q).1
      omega
    show 1=_
    omega
  · split
    · rename_i h
      rw [List.isEmpty_iff] at h
      rw [h] at n
      show 1=_
      simp at n
      omega
    · rw [length_partsBetween,n]
      omega
theorem AqQ {sp:List Nat} {c d:Nat} (S:Sgn sp c d) {ws:List (List Nat)} (ne:ws≠[]) (no:∀ w∈ws,c∉w):Txt.split (tx (jnS sp ws)) (tx sp)=ws.map tx:=by
  have l:=AoX S ne no
  have j:=congrArg (fun z:Str=>z.cps.toList) (StrLaws.join_split (tx (jnS sp ws)) (tx sp))
  rw [AiB,O4] at j
  generalize Txt.split (tx (jnS sp ws)) (tx sp)=ps at l j
  obtain ⟨qs,eqs⟩:∃ qs,qs=ps.map fun z=>z.cps.toList:=⟨_,rfl⟩
  rw [← eqs] at j
  have ql:qs.length=ps.length:=by rw [eqs,List.length_map]
  have wl:0 < ws.length:=List.length_pos_iff.mpr ne
  have qne:qs≠[]:=fun z=>by rw [z] at ql; simp at ql; omega
  have cnt:=Xn S qne
  have Ayf:=Xn S ne
  have s0:(ws.map (List.count c)).sum=0:=by
    clear Ayf cnt l j ql wl ne
    induction ws with
    | nil=>rfl
    | cons w r ih=>rw [List.map_cons,List.sum_cons,List.count_eq_zero.mpr (no w List.mem_cons_self),ih fun x hx=>no x (List.mem_cons_of_mem _ hx)]
  rw [j,ql,l] at cnt
  have s1:(qs.map (List.count c)).sum=0:=by omega
  have qno:∀ w∈qs,c∉w:=fun w hw z=>by
    have h1:w.count c≤(qs.map (List.count c)).sum:=AiA (List.mem_map.mpr ⟨w,hw,rfl⟩)
    have h2:=List.count_pos_iff.mpr z
    omega
  have e:qs=ws:=ApL S qne ne qno no j
  rw [← e,eqs,List.map_map]
  exact (List.map_id' ps).symm.trans (List.map_congr_left fun z _=>by rfl)
def AtU:V→List V→Hp→VK→Prop:=fun x vs H Q=>∃ (sp:List Nat) (c d:Nat) (ws:List (List Nat)),x=.str (tx (jnS sp ws))∧vs=[.str (tx sp)]∧Sgn sp c d∧(jnS sp ws).length+2≤sizeLine∧ws≠[]∧(∀ w∈ws,c∉w)∧∀ l,H l=none→Q (.ref l) (upd H l (.lst (vS ws)))
theorem Alp {X:Cx}:MtR X "str.split" AtU:=by
  intro pins s σ H x vs v us Q I rx rv h
  obtain ⟨sp,c,d,ws,rfl,rfl,hc,hz,ne,no,q⟩:=h
  obtain ⟨t,rfl⟩:=rx
  obtain ⟨u',rfl,ru⟩:=rv.one
  obtain ⟨t',rfl⟩:=ru
  have es:=AqQ hc ne no
  have wl:ws.length≤(jnS sp ws).length+1:=by
    have:=Xn hc ne
    have:=List.count_le_length (a:=c) (l:=jnS sp ws)
    omega
  generalize jnS sp ws=u at es hz wl ⊢
  have hlen:(tx u).length+2≤sizeLine:=by rw [Bt]; exact hz
  have fin:∀ (l:List (Str × Tok)) (tk:Nat),l.map (·.1)=Txt.split (tx u) (tx sp)→EP X pins σ Q (.ref s.heap.objs.size) { s with heap:=s.heap.push { cls:=.type "list", data:=.seq (strValues l).toArray },toks:=tk }:=fun l tk e =>
    ⟨.ref s.heap.objs.size,_,I.laid (t':=tk) (fun b o e=>Heap.get?_push_of_some _ e) (Nat.le_refl _) (show Kw X.prog X.w _ _ _ (.lst (vS ws)) from ⟨by rw [Cz]; omega,_,_,Alo (e.trans es),Heap.get?_push_size _ rfl⟩),rfl,q _ (I.hok.fresh (Nat.le_refl _))⟩
  have hy:((tx sp).length == 0)=false:=by rw [Bt]; have:=hc.lt; rw [beq_eq_false_iff_ne]; omega
  have hn:(partsBetween (tx u) (occurrences (tx u) (tx sp) 0 (tx u).length ((tx u).length+1)) ((tx sp)).length).length≤sizeLine:=by
    have e1:=StrLaws.occ_length_le (tx u) (tx sp) 0 (tx u).length ((tx u).length+1)
    rw [length_partsBetween]; omega
  cases h1:(decide ((tx u).length < ((tx sp)).length) || decide (Builtin.Str.strKind (tx u) < Builtin.Str.strKind (tx sp)))
  · cases hf:(occurrences (tx u) (tx sp) 0 (tx u).length ((tx u).length+1)).isEmpty
    · refine call_meets F.slot_str_split (typeIs_str _ _ _) F.entry_str_split (F.args_str_split_2 _ _) (meets_str_split_sep (tx u) (tx sp) t t' h1 hy hf (by omega) hn) ?_
      show wants (EP X pins σ Q) _ _ { s with toks:=_,heap:=s.heap.push { cls:=.type "list", data:=.seq (strsFrom s.toks (partsBetween (tx u) (occurrences (tx u) (tx sp) 0 (tx u).length ((tx u).length+1)) ((tx sp)).length)).toArray } }
      rw [strsFrom_eq]
      exact fin (numbered s.toks _) _ ((numbered_texts _ _).trans ((if_neg (ne_true_of_eq_false h1)).trans (if_neg (ne_true_of_eq_false hf))).symm)
    · exact call_meets F.slot_str_split (typeIs_str _ _ _) F.entry_str_split (F.args_str_split_2 _ _) (meets_str_split_not_found (tx u) (tx sp) t t' h1 hy hf)
        (fin [(tx u,t)] s.toks ((if_neg (ne_true_of_eq_false h1)).trans (if_pos hf)).symm)
  · exact call_meets F.slot_str_split (typeIs_str _ _ _) F.entry_str_split (F.args_str_split_2 _ _) (meets_str_split_cannot_occur (tx u) (tx sp) t t' h1)
      (fin [(tx u,t)] s.toks (if_pos h1).symm)
theorem AqR:Sgn [32,47,32] 47 1:=by
  refine ⟨fun i=>?_,by decide⟩
  match i with
  | 0=>simp
  | 1=>simp
  | 2=>simp
  | _+3=>simp
theorem ArW:Sgn [44,32] 44 0:=by
  refine ⟨fun i=>?_,by decide⟩
  match i with
  | 0=>simp
  | 1=>simp
  | _+2=>simp
open PySem PySem.Spec PyProof.Rows
section
variable {X:Cx} {K:PySem.W.Frag}
def Ayg (K:PySem.W.Frag) (tl:TE):TE:=fun σ H Q=>tl σ H fun x H1=>∃ a ns,x=.ref a∧SqL K H1 a (vI ns)∧ns.length < 64∧∀ l ns',ns'.Perm ns→ns'.Pairwise (· ≥ ·)→H1 l=none→Q (.ref l) (upd H1 l (.lst (vI ns')))
end
open PySem PySem.Spec PyProof.Rows
namespace SetW
theorem AiD:Slot "set_iterator" "__next__" "set_iterator.__next__" := .of (owner := "set_iterator") (n := "__next__") (by rw [typeLookup_type,builtinLookup_eq_fast]; kernel_rfl) (by decide +kernel) (by decide +kernel) (by decide +kernel) (by first | exact .inl (by decide +kernel) | exact .inr (by decide +kernel)) (by rw [isSubtype_type]; kernel_rfl)
theorem AuD:Slot "set_iterator" "__iter__" "set_iterator.__iter__" := .of (owner := "set_iterator") (n := "__iter__") (by rw [typeLookup_type,builtinLookup_eq_fast]; kernel_rfl) (by decide +kernel) (by decide +kernel) (by decide +kernel) (by first | exact .inl (by decide +kernel) | exact .inr (by decide +kernel)) (by rw [isSubtype_type]; kernel_rfl)
theorem AuE:entryFor table "set_iterator.__next__" = some Builtin.«set_iterator.__next__»:=entryFor_of_fast (by kernel_rfl)
theorem AwU:entryFor table "set_iterator.__iter__" = some Builtin.«dict_keyiterator.__iter__»:=entryFor_alias (id' := "dict_keyiterator.__iter__") (by kernel_rfl) rfl (by decide +kernel) (by kernel_rfl)
theorem AwV:entryFor table "set.__iter__" = some Builtin.«frozenset.__iter__»:=entryFor_alias (id' := "frozenset.__iter__") (by kernel_rfl) rfl (by decide +kernel) (by kernel_rfl)
theorem AuF (a:Value):argsOk "set_iterator.__next__" ⟨[a],[]⟩:=by unfold argsOk; kernel_rfl
theorem AwW (a:Value):argsOk "set_iterator.__iter__" ⟨[a],[]⟩:=by unfold argsOk; kernel_rfl
theorem Av5:typeLookup (.type "set") "__len__" = pure (some (.builtin "set.__len__")):=by rw [typeLookup_type,builtinLookup_eq_fast]; kernel_rfl
end SetW
open PySem PySem.Spec PyProof.Rows
namespace SetW
theorem ApO {α:Type} (next:Nat→Nat):∀ (fuel k:Nat) (left:List α) (out:Array α),left.length≤fuel→(pickOrder.go next fuel k left out).toList.Perm (out.toList++left)
  | 0,k,left,out,h=>by
    have:left=[]:=List.length_eq_zero_iff.mp (by omega)
    subst this
    simp [pickOrder.go]
  | fuel+1,k,left,out,h=>by
    unfold pickOrder.go
    by_cases e:left=[]
    · subst e
      simp
    · have l0:0 < left.length:=List.length_pos_iff.mpr e
      have l1:next k % left.length < left.length:=Nat.mod_lt _ l0
      rw [List.getElem?_eq_getElem l1]
      dsimp only
      refine (ApO next fuel (k+1) _ _ (by rw [List.length_eraseIdx,if_pos l1]; omega)).trans ?_
      rw [Array.toList_push,List.append_assoc]
      refine List.Perm.append_left _ ?_
      rw [List.eraseIdx_eq_take_drop_succ]
      have e2:left=left.take (next k % left.length)++left[next k % left.length]::left.drop (next k % left.length+1):=by
        rw [List.getElem_cons_drop,List.take_append_drop]
      exact (List.perm_middle (a:=left[next k % left.length]) (l₁:=left.take (next k % left.length)) (l₂:=left.drop (next k % left.length+1))).symm.trans (.of_eq e2.symm)
theorem AqS {α:Type} (next:Nat→Nat) (xs:Array α):(pickOrder next xs).toList.Perm xs.toList:=by
  have:=ApO next xs.size 0 xs.toList #[] (by simp)
  simpa [pickOrder] using this
def Agh (xs:Array Nat):Prop:=∀ i k,i < k→k < xs.size→xs.getD i 0 < xs.getD k 0
theorem AiE (xs:Array Nat) (j:Nat) (hR:Agh xs):∀ (fuel lo hi:Nat),lo≤hi→hi≤xs.size→hi - lo≤fuel→(∀ i,i < lo→xs.getD i 0 < j)→(∀ i,hi≤i→i < xs.size→j≤xs.getD i 0) →
    SetTable.below.go xs j fuel lo hi≤xs.size∧(∀ i,i < SetTable.below.go xs j fuel lo hi→xs.getD i 0 < j)∧(∀ i,SetTable.below.go xs j fuel lo hi≤i→i < xs.size→j≤xs.getD i 0)
  | 0,lo,hi,h1,h2,h3,h4,h5=>by
    have:lo=hi:=by omega
    subst this
    unfold SetTable.below.go
    exact ⟨h2,h4,h5⟩
  | fuel+1,lo,hi,h1,h2,h3,h4,h5=>by
    unfold SetTable.below.go
    by_cases c:lo < hi
    · rw [if_pos c]
      have hm:(lo+hi) / 2 < xs.size:=by omega
      have e:xs.getD ((lo+hi) / 2) j=xs.getD ((lo+hi) / 2) 0:=by simp [Array.getD,hm]
      dsimp only
      by_cases c2:xs.getD ((lo+hi) / 2) j < j
      · rw [if_pos c2]
        refine AiE xs j hR fuel _ hi (by omega) h2 (by omega) (fun i hi'=>?_) h5
        rw [e] at c2
        by_cases c3:i=(lo+hi) / 2
        · rw [c3]; exact c2
        · have:=hR i ((lo+hi) / 2) (by omega) hm
          omega
      · rw [if_neg c2]
        refine AiE xs j hR fuel lo _ (by omega) (by omega) (by omega) h4 (fun i hi' hs=>?_)
        rw [e] at c2
        by_cases c3:i=(lo+hi) / 2
        · rw [c3]; omega
        · have:=hR ((lo+hi) / 2) i (by omega) hs
          omega
    · rw [if_neg c]
      have:lo=hi:=by omega
      subst this
      exact ⟨h2,h4,h5⟩
theorem AiF {xs:Array Nat} (hR:Agh xs) (j:Nat):SetTable.below xs j≤xs.size∧(∀ i,i < SetTable.below xs j→xs.getD i 0 < j)∧(∀ i,SetTable.below xs j≤i→i < xs.size→j≤xs.getD i 0) :=
  AiE xs j hR xs.size 0 xs.size (Nat.zero_le _) (Nat.le_refl _) (by omega) (fun i h=>by omega) (fun i h1 h2=>by omega)
theorem AoY {xs:Array Nat} (hR:Agh xs):SetTable.below xs 0=0:=by
  obtain ⟨h1,h2,h3⟩:=AiF hR 0
  by_cases c:SetTable.below xs 0=0
  · exact c
  · have:=h2 0 (by omega); omega
theorem AoZ {xs:Array Nat} (hR:Agh xs) {i:Nat} (hi:i < xs.size):SetTable.below xs (xs.getD i 0+1)=i+1:=by
  obtain ⟨h1,h2,h3⟩:=AiF hR (xs.getD i 0+1)
  rcases Nat.lt_trichotomy (SetTable.below xs (xs.getD i 0+1)) (i+1) with c | c | c
  · have:=h3 i (by omega) hi; omega
  · exact c
  · have a:=h2 (i+1) c
    have:=hR i (i+1) (by omega) (by omega)
    omega
structure Wk (w:World) (o:Obj) (es:Array (Int × Value)) (ep:Nat) (t:SetTable):Prop where
  ex:o.ExactSet
  d:o.data=.set es ep t
  f:t.fits es.size=true
  ok:w.params.followText "set-order" = true∨es.size=0∨(t.led=true∧(t.plain=true→Agh t.place))
theorem Wk.rise {w:World} {o:Obj} {es:Array (Int × Value)} {ep:Nat} {t:SetTable} (W:Wk w o es ep t) (hb:w.params.followText "set-order" = false) (hp:t.plain=true∨es.size≤1):Agh t.place:=by
  have hf:t.place.size=es.size:=by
    have:=W.f
    unfold SetTable.fits at this
    simp at this
    exact this.1
  rcases W.ok with e | e | ⟨_,e⟩
  · rw [hb] at e; cases e
  · intro i k h1 h2; omega
  · rcases hp with hp | hp
    · exact e hp
    · intro i k h1 h2; omega
def Md (w:World) (a:Addr) (es:Array (Int × Value)) (ep:Nat) (t:SetTable) (h:Heap) (T:Addr) (xl:List (Int × Value)) (i:Nat) (f:Value):Prop :=
  (∃ slot:Nat,f=.int slot 0∧((w.params.followText "set-order" = true∧xl=(pickOrder (w.params.setOrder a ep) es).toList)∨(w.params.followText "set-order" = false∧(t.plain=true∨es.size≤1)∧xl=es.toList∧SetTable.below t.place slot=i))) ∨
  (∃ pm:List Nat,f=.ref T∧h.get? T=some (seqObj "tuple" (pm.map fun k:Nat=>rawInt (k:Int)).toArray 0)∧pm.Perm (List.range es.size)∧xl=pm.map fun k=>es.toList.getD k (0,.none))
theorem Md.perm {w:World} {a T:Addr} {es:Array (Int × Value)} {ep i:Nat} {t:SetTable} {h:Heap} {xl:List (Int × Value)} {f:Value} (m:Md w a es ep t h T xl i f):xl.Perm es.toList:=by
  rcases m with ⟨_,_,⟨_,e⟩ | ⟨_,_,e,_⟩⟩ | ⟨pm,_,_,hp,e⟩
  · rw [e]; exact AqS _ _
  · rw [e]
  · rw [e]
    refine (hp.map _).trans (.of_eq ?_)
    refine List.ext_getElem? fun k=>?_
    rw [List.getElem?_map]
    by_cases c:k < es.size
    · rw [List.getElem?_range c]
      simp [List.getD,c]
    · rw [List.getElem?_eq_none (by simp; omega),List.getElem?_eq_none (by simp; omega)]
      rfl
theorem Md.len {w:World} {a T:Addr} {es:Array (Int × Value)} {ep i:Nat} {t:SetTable} {h:Heap} {xl:List (Int × Value)} {f:Value} (m:Md w a es ep t h T xl i f):xl.length=es.size:=by
  rw [m.perm.length_eq,Array.length_toList]
def StI (w:World) (I a T:Addr) (o:Obj) (es:Array (Int × Value)) (ep:Nat) (t:SetTable) (xl:List (Int × Value)) (i:Nat) (h:Heap):Prop :=
  ∃ f oi,h.get? I=some oi∧oi.cls=.type "set_iterator" ∧ oi.data=.fields #[f,.int i 0,.ref a,.int es.size 0,.int ep 0]∧Md w a es ep t h T xl i f∧h.get? a=some o
section
variable {prog:Program} {w:World} {A:Around} {E:Value→Shared→Prop} {s:Shared} {a T:Addr} {o:Obj} {es:Array (Int × Value)} {ep:Nat} {t:SetTable} {xl:List (Int × Value)}
theorem StI.typeIs {I:Addr} {i:Nat} (x:StI w I a T o es ep t xl i s.heap):s.TypeIs (.ref I) "set_iterator" := let ⟨_,oi,ho,hc,_⟩:=x; ⟨oi,ho,hc⟩
theorem typ (W:Wk w o es ep t) (ho:s.heap.get? a=some o):s.TypeIs (.ref a) "set" := ⟨o,ho,W.ex.1⟩
theorem Agi {Q:Bool→Shared→Prop} (h:Q (w.params.followText "set-order") s):wpAny (model prog w) A setsByText Q E s:=by
  unfold setsByText
  exact wpAny_bind (wpAny_askSetting (wpAny_pure h))
theorem ArX (W:Wk w o es ep t) (ho:s.heap.get? a=some o) {Q:Bool→Shared→Prop} (h:Q (!w.params.followText "set-order" && (!t.plain && decide (es.size > 1))) s):wpAny (model prog w) A (setDrawn a) Q E s:=by
  unfold setDrawn
  exact wpAny_bind (wpAny_setState_of ho W.d W.f (wpAny_bind (Agi (wpAny_pure h))))
theorem An5 (W:Wk w o es ep t) (ho:s.heap.get? a=some o) {Q:Nat→Shared→Prop} (h:Q ep s):wpAny (model prog w) A (setEpoch a) Q E s:=by
  unfold setEpoch
  exact wpAny_bind (wpAny_setState_of ho W.d W.f (wpAny_pure h))
theorem AlT (W:Wk w o es ep t) (ho:s.heap.get? a=some o) {Q:Array (Int × Value)→Shared→Prop} (h:Q es s):wpAny (model prog w) A (setEntries a) Q E s:=by
  unfold setEntries
  exact wpAny_bind (wpAny_setState_of ho W.d W.f (wpAny_pure h))
theorem AqT {M:Model} {n:Nat} (hn:0 < n) {Q:Nat→Shared→Prop} (h:∀ i d,i < n→Q i { s with drawn:=d }):wpAny M A (choose .order n) Q E s:=fun Γ p _=>by
  show Sem.wp M Γ (.choose .order n .pure) _ _ p s
  rw [Sem.wp_choose]
  exact ⟨by omega,h _ _ (Nat.mod_lt _ hn)⟩
theorem An6 {α:Type} {M:Model}:∀ (n:Nat) (l:List α) {s:Shared} {Q:List α→Shared→Prop},l.length≤n→(∀ l' d,l'.Perm l→Q l' { s with drawn:=d })→wpAny M A (drawOrder n l) Q E s
  | 0,l,s,Q,hl,h=>by
    have:l=[]:=List.length_eq_zero_iff.mp (by omega)
    subst this
    unfold drawOrder
    exact wpAny_pure (h [] s.drawn (.refl _))
  | n+1,[],s,Q,hl,h=>by
    unfold drawOrder
    exact wpAny_pure (h [] s.drawn (.refl _))
  | n+1,x::l,s,Q,hl,h=>by
    unfold drawOrder
    refine wpAny_bind (AqT (by simp) fun i d hi=>?_)
    rw [List.getElem?_eq_getElem hi]
    dsimp only
    refine wpAny_bind (An6 n ((x::l).eraseIdx i) (by rw [List.length_eraseIdx,if_pos hi]; omega) fun l' d' hp=>wpAny_pure (h _ d' ?_))
    refine (hp.cons _).trans ?_
    rw [List.eraseIdx_eq_take_drop_succ]
    have e2:(x::l)=(x::l).take i++(x::l)[i]::(x::l).drop (i+1):=by rw [List.getElem_cons_drop,List.take_append_drop]
    exact (List.perm_middle (a:=(x::l)[i]) (l₁:=(x::l).take i) (l₂:=(x::l).drop (i+1))).symm.trans (.of_eq e2.symm)
theorem Av6 (W:Wk w o es ep t) (ho:s.heap.get? a=some o) (hz:es.size≤sizeLine) {Q:Value→Shared→Prop}
    (hQ:∀ (h':Heap) d I T xl,I≠a→T≠I→s.heap.objs.size≤I→(T=a∨s.heap.objs.size≤T)→(∀ b o,s.heap.get? b=some o→h'.get? b=some o)→StI w I a T o es ep t xl 0 h'→Q (.ref I) { s with heap:=h',drawn:=d }):wpAny (model prog w) A (pyIter (.ref a)) Q E s:=by
  have hT:=typ W ho
  have ha:a < s.heap.objs.size:=Heap.lt_size ho
  refine wpAny_pyIter_slot hT F.slot_set_iter (wpAny_call_entry F.slot_set_iter hT AwV ?_ (F.args_set_iter_1 _))
  unfold Builtin.«frozenset.__iter__»
  refine wpAny_bind (m:=Builtin.Frozenset.slot0 "__iter__" ⟨[.ref a],[]⟩) (wpAny_of_eq (a:=a) rfl ?_)
  refine wpAny_bind (wpAny_bind (AlT W ho (wpAny_pure ?_)))
  refine wpAny_bind (ArX W ho ?_)
  dsimp only
  by_cases c:(!w.params.followText "set-order" && (!t.plain && decide (es.size > 1)))=true
  · rw [if_pos c]
    refine wpAny_bind (An6 es.size (List.range es.size) (by simp) fun pm d hp=>?_)
    have hl:pm.length=es.size:=by rw [hp.length_eq,List.length_range]
    unfold newTuple
    refine wpAny_bind (wpAny_newObj_type ?_ (by show (List.map _ pm).toArray.size≤_+1; rw [List.size_toArray,List.length_map,hl]; have:=sizeLine_eq; omega))
    have k1:∀ b ob,s.heap.get? b=some ob→(s.heap.push { cls:=.type "tuple", data:=.seq (pm.map fun k:Nat=>rawInt (k:Int)).toArray }).get? b=some ob:=fun b ob e=>Heap.get?_push_of_some _ e
    refine wpAny_bind (An5 W (k1 _ _ ho) (wpAny_bind (wpAny_newObj_type (wpAny_pure ⟨_,rfl, "set_iterator", _,⟨_,Heap.get?_push_size _ rfl,rfl⟩,AiD.lookup,?_⟩))))
    refine hQ _ d _ s.heap.objs.size (pm.map fun k=>es.toList.getD k (0,.none)) ?_ ?_ ?_ (.inr (Nat.le_refl _)) (fun b ob e=>Heap.get?_push_of_some _ (k1 _ _ e)) ?_
    · show (s.heap.push _).objs.size≠a
      rw [Heap.size_push]; exact Nat.ne_of_gt (Nat.lt_succ_of_lt ha)
    · show s.heap.objs.size≠(s.heap.push _).objs.size
      rw [Heap.size_push]; exact Nat.ne_of_lt (Nat.lt_succ_self _)
    · show s.heap.objs.size≤(s.heap.push _).objs.size
      rw [Heap.size_push]; exact Nat.le_succ _
    · exact ⟨.ref s.heap.objs.size,_,Heap.get?_push_size _ rfl,rfl,rfl,.inr ⟨pm,rfl,Heap.get?_push_of_some _ (Heap.get?_push_size _ rfl),hp,rfl⟩,Heap.get?_push_of_some _ (k1 _ _ ho)⟩
  · rw [if_neg c]
    refine wpAny_bind (wpAny_pure (wpAny_bind (An5 W ho (wpAny_bind (wpAny_newObj_type (wpAny_pure ⟨_,rfl, "set_iterator", _,⟨_,Heap.get?_push_size _ rfl,rfl⟩,AiD.lookup,?_⟩))))))
    have k:∀ b ob,s.heap.get? b=some ob→(s.heap.push { cls:=.type "set_iterator", data:=.fields [rawInt 0,rawInt 0,.ref a,rawInt es.size,rawInt ep].toArray }).get? b=some ob:=fun b ob e=>Heap.get?_push_of_some _ e
    refine hQ _ s.drawn s.heap.objs.size a (if w.params.followText "set-order" = true then (pickOrder (w.params.setOrder a ep) es).toList else es.toList) (Nat.ne_of_gt ha) (Nat.ne_of_lt ha) (Nat.le_refl _) (.inl rfl) k ?_
    refine ⟨rawInt 0,_,Heap.get?_push_size _ rfl,rfl,rfl,.inl ⟨0,rfl,?_⟩,k _ _ ho⟩
    by_cases hb:w.params.followText "set-order" = true
    · exact .inl ⟨hb,by rw [if_pos hb]⟩
    · have hb':w.params.followText "set-order" = false:=by simpa using hb
      rw [hb'] at c
      have hpl:t.plain=true∨es.size≤1:=by
        by_cases z:t.plain=true
        · exact .inl z
        · have z':t.plain=false:=by simpa using z
          rw [z'] at c
          simp at c
          exact .inr c
      exact .inr ⟨hb',hpl,by rw [if_neg hb],AoY (W.rise hb' hpl)⟩
theorem ApP (W:Wk w o es ep t) (ho:s.heap.get? a=some o) {slot i:Nat}
    (hm:(w.params.followText "set-order" = true∧xl=(pickOrder (w.params.setOrder a ep) es).toList)∨(w.params.followText "set-order" = false∧(t.plain=true∨es.size≤1)∧xl=es.toList∧SetTable.below t.place slot=i)) {Q:Option (Value × Nat)→Shared→Prop}
    (h:∀ next,(i < es.size→(w.params.followText "set-order" = true∧xl=(pickOrder (w.params.setOrder a ep) es).toList)∨(w.params.followText "set-order" = false∧(t.plain=true∨es.size≤1)∧xl=es.toList∧SetTable.below t.place next=i+1)) →
      Q ((xl[i]?).map fun e=>(e.2,next)) s):wpAny (model prog w) A (setNext a slot i ep) Q E s:=by
  unfold setNext
  refine wpAny_bind (wpAny_setState_of ho W.d W.f (wpAny_bind (Agi ?_)))
  dsimp only
  rcases hm with ⟨hb,hx⟩ | ⟨hb,hp,hx,hs⟩
  · rw [hb,if_pos rfl,if_neg (by simp)]
    unfold setWalk
    refine wpAny_bind (wpAny_bind (wpAny_setState_of ho W.d W.f (wpAny_bind (Agi ?_))))
    rw [hb,if_pos rfl]
    refine wpAny_bind (wpAny_askSetting (wpAny_pure (wpAny_pure ?_)))
    have:=h slot fun _=>.inl ⟨hb,hx⟩
    rw [hx,Array.getElem?_toList] at this
    exact this
  · rw [hb,if_neg (by decide)]
    have hR:=W.rise hb hp
    have hf:t.place.size=es.size:=by
      have:=W.f
      unfold SetTable.fits at this
      simp at this
      exact this.1
    have nd:(!t.plain && decide (es.size > 1))=false:=by
      rcases hp with e | e
      · rw [e]; simp
      · rw [decide_eq_false (by omega)]; simp
    have nl:(!t.led && !es.isEmpty)=false:=by
      rcases W.ok with e | e | ⟨e,_⟩
      · rw [hb] at e; cases e
      · simp [Array.isEmpty,e]
      · rw [e]; simp
    split
    · rename_i hd
      have hd':(!t.plain && decide (es.size > 1))=true:=hd
      rw [nd] at hd'
      cases hd'
    · refine wpAny_bind ?_
      show wpAny _ _ (if (!t.led && !es.isEmpty)=true then unsupported "set:maker-not-led" else pure ()) _ _ _
      rw [nl,if_neg (by decide)]
      refine wpAny_pure (wpAny_pure ?_)
      rw [hs]
      by_cases hi:i < es.size
      · have:=h (t.place[i]'(by omega)+1) fun _=>.inr ⟨hb,hp,hx,by
          have:=AoZ hR (i:=i) (by omega)
          rwa [show t.place.getD i 0=t.place[i]'(by omega) by simp [Array.getD,show i < t.place.size by omega]] at this⟩
        rw [hx,Array.getElem?_toList,Array.getElem?_eq_getElem hi] at this
        rw [Array.getElem?_eq_getElem hi,Array.getElem?_eq_getElem (show i < t.place.size by omega)]
        exact this
      · have:=h 0 fun z=>absurd z hi
        rw [hx,Array.getElem?_toList,Array.getElem?_eq_none (by omega)] at this
        rw [Array.getElem?_eq_none (by omega)]
        exact this
theorem AtV (W:Wk w o es ep t) {I:Addr} {i:Nat} {x:Int × Value} {Q:Option Value→Shared→Prop} (hne:a≠I) (hnT:T≠I) (st:StI w I a T o es ep t xl i s.heap) (hx:xl[i]?=some x)
    (hQ:∀ h',StI w I a T o es ep t xl (i+1) h'→(∀ b o,b≠I→s.heap.get? b=some o→h'.get? b=some o)→Q (some x.2) { s with heap:=h' }):wpAny (model prog w) A (pyNext (.ref I)) Q E s:=by
  have hT:=st.typeIs
  obtain ⟨f,oi,hoi,hci,hdi,hm,ho⟩:=st
  have hi:i < es.size:=by rw [← hm.len]; exact (List.getElem?_eq_some_iff.mp hx).1
  unfold pyNext
  refine wpAny_bind (wpAny_attempt (wpAny_callSpecial?_slot (name:=Str.ofString "__next__") hT AiD (wpAny_call_entry AiD hT AuE ?_ (AuF _))))
  unfold Builtin.«set_iterator.__next__»
  refine wpAny_bind (m:=slotArgs "__next__" 0 ⟨[.ref I],[]⟩) (wpAny_of_eq (a:=(Value.ref I,[])) rfl ?_)
  refine wpAny_bind (wpAny_fieldsOf hoi hdi ?_)
  dsimp only
  refine wpAny_bind (AlT W ho ?_)
  rw [if_neg (by simp)]
  rcases hm with ⟨slot,rfl,hm⟩ | ⟨pm,rfl,hT2,hp,hxl⟩
  · simp only [Int.toNat_natCast]
    refine wpAny_bind (ApP W ho hm fun next hn=>?_)
    rw [hx]
    dsimp only [Option.map]
    refine wpAny_bind (wpAny_setField hoi hdi (by simp) ?_)
    have ho1:=Heap.get?_update_self (Obj.mapFields (·.setIfInBounds 0 (rawInt (next:Int)))) hoi (Obj.isFreed_of_fields (Obj.data_mapFields hdi _))
    have hd1:=Obj.data_mapFields hdi (·.setIfInBounds 0 (rawInt (next:Int)))
    refine wpAny_bind (wpAny_setField ho1 hd1 (by simp) (wpAny_pure ⟨_,rfl,wpAny_pure (hQ _ ⟨.int next 0,_,Heap.get?_update_self _ ho1 (Obj.isFreed_of_fields (Obj.data_mapFields hd1 _)),?_,?_,.inl ⟨next,rfl,hn hi⟩,?_⟩ fun b o' hb e=>?_)⟩))
    · exact (Obj.cls_mapFields ..).trans ((Obj.cls_mapFields ..).trans hci)
    · rw [Obj.data_mapFields hd1]; simp [rawInt]
    · exact (Heap.get?_update_other _ _ (Ne.symm hne)).trans ((Heap.get?_update_other _ _ (Ne.symm hne)).trans ho)
    · exact (Heap.get?_update_other _ _ (Ne.symm hb)).trans ((Heap.get?_update_other _ _ (Ne.symm hb)).trans e)
  · have hpi:i < pm.length:=by rw [hp.length_eq,List.length_range]; exact hi
    have hk:pm[i] < es.size:=by
      have:=hp.mem_iff.mp (List.getElem_mem hpi)
      simpa using this
    have e1:es[pm[i]]?=some x:=by
      rw [hxl,List.getElem?_map,List.getElem?_eq_getElem hpi] at hx
      have:=Option.some.inj hx
      rw [Array.getElem?_eq_getElem hk]
      simp [List.getD,hk] at this
      rw [this]
    simp only [Int.toNat_natCast]
    refine wpAny_bind (wpAny_seqItems hT2 rfl ?_)
    dsimp only
    rw [show ((pm.map fun k:Nat=>rawInt (k:Int)).toArray)[i]?=some (.int (pm[i]:Int) 0) by simp [hpi,rawInt]]
    dsimp only
    unfold setNextDrawn
    refine wpAny_bind (wpAny_bind (wpAny_setState_of ho W.d W.f ?_))
    dsimp only
    rw [if_neg (by simp)]
    simp only [Int.toNat_natCast]
    rw [e1]
    refine wpAny_pure (wpAny_bind (wpAny_setField hoi hdi (by simp) (wpAny_pure ⟨_,rfl,wpAny_pure (hQ _ ⟨.ref T,_,Heap.get?_update_self _ hoi (Obj.isFreed_of_fields (Obj.data_mapFields hdi _)),?_,?_,.inr ⟨pm,rfl,?_,hp,hxl⟩,?_⟩ fun b o' hb e=>?_)⟩)))
    · exact (Obj.cls_mapFields ..).trans hci
    · rw [Obj.data_mapFields hdi]; simp [rawInt]
    · exact (Heap.get?_update_other _ _ (Ne.symm hnT)).trans hT2
    · exact (Heap.get?_update_other _ _ (Ne.symm hne)).trans ho
    · exact (Heap.get?_update_other _ _ (Ne.symm hb)).trans e
theorem stops (hh:A.handled=none) {Q:Option Value→Shared→Prop} (hQ:∀ h',(∀ b o,s.heap.get? b=some o→h'.get? b=some o)→Q none { s with heap:=h' }) :
    wpAny (model prog w) A.in1 (do raiseNew (← newExc (.type "StopIteration") []):Sem Fin) (fun fin s'=>∃ v,fin=Fin.done (Flow.ret v)∧wpAny (model prog w) A (pure (some v)) Q E s')
      (fun e s'=>wpAny (model prog w) A (do if ← isInstance e (.type "StopIteration") then pure none else throw e) Q E s') s:=by
  refine wpAny_bind ?_
  simp only [newExc,newTuple]
  refine wpAny_bind (wpAny_newObj_type (wpAny_bind (m:=firstArgMember _ _) (wpAny_of_eq (a:=Value.none) (by first | rfl | (simp only [firstArgMember]; rfl)) (wpAny_newObj_type ?_ (by size_fits)))) (by size_fits))
  simp only [raiseNew]
  refine wpAny_bind (wpAny_handled ?_)
  rw [show A.in1.handled=none from hh]
  refine wpAny_bind (wpAny_pure (wpAny_throw ?_))
  refine wpAny_bind (wpAny_isInstance (T := "StopIteration") (b:=true) ⟨_,Heap.get?_push_size _ rfl,rfl⟩ isSubtype_stop (wpAny_pure (hQ _ fun b o' e=>?_)))
  exact Heap.get?_push_of_some _ (Heap.get?_push_of_some _ e)
theorem Av7 (W:Wk w o es ep t) {I:Addr} {Q:Option Value→Shared→Prop} (hh:A.handled=none) (st:StI w I a T o es ep t xl es.size s.heap)
    (hQ:∀ h',(∀ b o,b≠I→s.heap.get? b=some o→h'.get? b=some o)→Q none { s with heap:=h' }):wpAny (model prog w) A (pyNext (.ref I)) Q E s:=by
  have hT:=st.typeIs
  obtain ⟨f,oi,hoi,hci,hdi,hm,ho⟩:=st
  have hx:xl[es.size]?=none:=List.getElem?_eq_none (by rw [hm.len]; exact Nat.le_refl _)
  unfold pyNext
  refine wpAny_bind (wpAny_attempt (wpAny_callSpecial?_slot (name:=Str.ofString "__next__") hT AiD (wpAny_call_entry AiD hT AuE ?_ (AuF _))))
  unfold Builtin.«set_iterator.__next__»
  refine wpAny_bind (m:=slotArgs "__next__" 0 ⟨[.ref I],[]⟩) (wpAny_of_eq (a:=(Value.ref I,[])) rfl ?_)
  refine wpAny_bind (wpAny_fieldsOf hoi hdi ?_)
  dsimp only
  refine wpAny_bind (AlT W ho ?_)
  rw [if_neg (by simp)]
  rcases hm with ⟨slot,rfl,hm⟩ | ⟨pm,rfl,hT2,hp,hxl⟩
  · simp only [Int.toNat_natCast]
    refine wpAny_bind (ApP W ho hm fun next hn=>?_)
    rw [hx]
    dsimp only [Option.map]
    refine wpAny_bind (wpAny_setField hoi hdi (by simp) (stops hh fun h' k=>hQ h' fun b o' hb e=>k _ _ ?_))
    exact (Heap.get?_update_other _ _ (Ne.symm hb)).trans e
  · simp only [Int.toNat_natCast]
    refine wpAny_bind (wpAny_seqItems hT2 rfl ?_)
    dsimp only
    rw [show ((pm.map fun k:Nat=>rawInt (k:Int)).toArray)[es.size]?=none by
      rw [List.getElem?_toArray]
      exact List.getElem?_eq_none (by rw [List.length_map,hp.length_eq,List.length_range]; exact Nat.le_refl _)]
    dsimp only
    refine wpAny_bind (wpAny_setField hoi hdi (by simp) ?_)
    have ho1:=Heap.get?_update_self (Obj.mapFields (·.setIfInBounds 0 (rawInt 0))) hoi (Obj.isFreed_of_fields (Obj.data_mapFields hdi _))
    have hd1:=Obj.data_mapFields hdi (·.setIfInBounds 0 (rawInt 0))
    refine wpAny_bind (wpAny_setField ho1 hd1 (by simp) (stops hh fun h' k=>hQ h' fun b o' hb e=>k _ _ ?_))
    exact (Heap.get?_update_other _ _ (Ne.symm hb)).trans ((Heap.get?_update_other _ _ (Ne.symm hb)).trans e)
theorem AtW {I:Addr} {i:Nat} {Q:Value→Shared→Prop} (st:StI w I a T o es ep t xl i s.heap) (h:Q (.ref I) s):wpAny (model prog w) A (pyIter (.ref I)) Q E s:=by
  have hT:=st.typeIs
  refine wpAny_pyIter_slot hT AuD (wpAny_call_entry AuD hT AwU ?_ (AwW _))
  show wpAny _ _ (ret (.ref I)) _ _ s
  exact wpAny_pure ⟨_,rfl, "set_iterator", _,hT,AiD.lookup,h⟩
theorem walks (W:Wk w o es ep t) (hh:A.handled=none) {I:Addr} (hne:a≠I) (hnT:T≠I):Walks prog w A I [I,a,T] [I] es.size (fun i v=>∃ x,xl[i]?=some x∧v=x.2) (StI w I a T o es ep t xl) where
  sub:=fun b hb=>by rw [List.mem_singleton.mp hb]; exact List.mem_cons_self
  frame:=fun i h h' ⟨f,oi,h1,h2,h3,hm,h4⟩ hk=>⟨f,oi,hk I (by simp) _ h1,h2,h3,by
    rcases hm with m | ⟨pm,m1,m2,m3⟩
    · exact .inl m
    · exact .inr ⟨pm,m1,hk T (by simp) _ m2,m3⟩,hk a (by simp) _ h4⟩
  item:=fun i s Q E hi st hQ=>by
    obtain ⟨x,hx⟩:∃ x,xl[i]?=some x:=⟨_,List.getElem?_eq_getElem (by
      obtain ⟨_,_,_,_,_,hm,_⟩:=id st
      rw [hm.len]; exact hi)⟩
    exact AtV W hne hnT st hx fun h' st' hk=>hQ _ h' s.toks ⟨x,hx,rfl⟩ st' fun b o hb e=>hk b o (fun z=>hb (by simp [z])) e
  done:=fun s Q E st hQ=>Av7 W hh st fun h' hk=>hQ h' s.toks fun b o hb e=>hk b o (fun z=>hb (by simp [z])) e
  self:=fun i s Q E st hQ=>AtW st hQ
end
end SetW
open PySem PySem.Spec PyProof.Rows
namespace SetW
section
variable {prog:Program} {w:World} {A:Around} {E:Value→Shared→Prop} {s:Shared} {a:Addr} {o:Obj} {es:Array (Int × Value)} {ep:Nat} {t:SetTable}
theorem Av8:isSubtype (.type "set") (.type "set")=pure true:=by rw [isSubtype_type]; kernel_rfl
theorem AtX (W:Wk w o es ep t) (ho:s.heap.get? a=some o) (hh:A.handled=none) (hn:es.size≤sizeLine) {Q:List Value→Shared→Prop}
    (hQ:∀ (xl:List (Int × Value)) s',xl.Perm es.toList→(∀ b o,s.heap.get? b=some o→s'.heap.get? b=some o)→s'.gens=s.gens→s'.os=s.os→s.heap.objs.size≤s'.heap.objs.size→Q (xl.map (·.2)) s'):wpAny (model prog w) A (collect (.ref a)) Q E s:=by
  have ha:a < s.heap.objs.size:=Heap.lt_size ho
  unfold collect
  refine wpAny_bind (wpAny_runValue (codeAny_builtin F.entry_proto_collect ?_))
  rw [Around.under_plainId F.plain_proto_collect _]
  show wpAny _ A.in1 (newList [] >>= fun l=>again (.builtin "list.__iadd__" ⟨[l,.ref a],[]⟩)) _ _ s
  refine wpAny_bind (wpAny_newObj_type (wpAny_pure ⟨plainId_quiet F.plain_list_iadd _,codeAny_builtin F.entry_list_iadd ?_⟩))
  rw [Around.under_plainId F.plain_list_iadd _]
  obtain ⟨h1,eh1⟩:∃ h1,h1=s.heap.push { cls:=.type "list", data:=.seq ([]:List Value).toArray }:=⟨_,rfl⟩
  have hS1:h1.get? s.heap.objs.size=some { cls:=.type "list", data:=.seq ([]:List Value).toArray }:=by rw [eh1]; exact Heap.get?_push_size _ rfl
  have k1:∀ b o,s.heap.get? b=some o→h1.get? b=some o:=fun b o e=>by rw [eh1]; exact Heap.get?_push_of_some _ e
  have z1:h1.objs.size=s.heap.objs.size+1:=by rw [eh1,Heap.size_push]
  show wpAny _ A.in1 (Builtin.List.listExtendWith (.ref s.heap.objs.size) (.ref a) (.ref s.heap.objs.size)) _ _ { s with heap:=s.heap.push { cls:=.type "list", data:=.seq ([]:List Value).toArray } }
  rw [← eh1]
  unfold Builtin.List.listExtendWith
  have ho1:=k1 _ _ ho
  refine wpAny_bind (wpAny_typeOf (typ (s:={ s with heap:=h1 }) W ho1) ?_)
  have e1:Builtin.List.listSameRef (.ref s.heap.objs.size) (.ref a)=false:=by
    have:s.heap.objs.size≠a:=Nat.ne_of_gt ha
    simp [Builtin.List.listSameRef,this]
  rw [if_neg (by rw [e1]; decide)]
  refine wpAny_bind (Av6 (s:={ s with heap:=h1 }) W ho1 hn ?_)
  intro h2 d I T xl nIa nTI sI sT k2 st2
  have hxp:xl.Perm es.toList:=by
    obtain ⟨_,_,_,_,_,hm,_⟩:=st2
    exact hm.perm
  have sI':s.heap.objs.size < I:=Nat.lt_of_lt_of_le (by rw [z1]; exact Nat.lt_succ_self _) sI
  show wpAny _ A.in1 _ _ _ { s with heap:=h2,drawn:=d }
  refine wpAny_bind (wpAny_holding ?_)
  unfold Builtin.List.listLengthHint
  have ho2:=k2 _ _ ho1
  refine wpAny_bind (wpAny_specialOf (typ (s:={ s with heap:=h2,drawn:=d }) W ho2) Av5 ?_)
  generalize hid:("set.__len__" : String)=ln0
  wp_delta
  rw [show splitId ln0=some ("set", "__len__") by subst hid; decide +kernel]
  subst hid
  refine wpAny_bind (wpAny_isInstance (b:=true) (typ (s:={ s with heap:=h2,drawn:=d }) W ho2) Av8 ?_)
  rw [if_neg (by decide)]
  split
  case isFalse hn1=>exact absurd (by decide +kernel) hn1
  refine wpAny_bind (wpAny_typeOf (typ (s:={ s with heap:=h2,drawn:=d }) W ho2) (wpAny_pure ?_))
  rw [if_pos (by decide +kernel)]
  refine wpAny_bind (wpAny_rule (wpAny_bind ?_))
  have hS2:=k2 _ _ hS1
  show wpAny _ A.in1 (updateSeq s.heap.objs.size (·.push .none) >>= fun _=>updateSeq s.heap.objs.size (·.pop)) _ _ _
  refine wpAny_bind (wpAny_updateSeq hS2 rfl ?_)
  have hS3:=Heap.get?_update_self (Obj.mapSeq (·.push Value.none)) hS2 rfl
  refine wpAny_updateSeq hS3 rfl ?_
  have hS4:=Heap.get?_update_self (Obj.mapSeq (·.pop)) hS3 rfl
  obtain ⟨h4,eh4⟩:∃ h4,h4=(h2.update s.heap.objs.size (Obj.mapSeq (·.push Value.none))).update s.heap.objs.size (Obj.mapSeq (·.pop)):=⟨_,rfl⟩
  have k4:∀ b o,b≠s.heap.objs.size→h2.get? b=some o→h4.get? b=some o:=fun b o hb e=>by rw [eh4]; exact (Heap.get?_update_other _ _ (Ne.symm hb)).trans ((Heap.get?_update_other _ _ (Ne.symm hb)).trans e)
  have nT:T≠s.heap.objs.size:=by
    rcases sT with e | e
    · rw [e]; exact Nat.ne_of_lt ha
    · exact Nat.ne_of_gt (Nat.lt_of_lt_of_le (by rw [z1]; exact Nat.lt_succ_self _) e)
  have WK:=walks (prog:=prog) (T:=T) (xl:=xl) (A:=A.in1) W hh nIa.symm nTI
  have st4:StI w I a T o es ep t xl 0 h4:=WK.frame 0 h2 h4 st2 fun b hb ob e=>k4 b ob (by
    simp only [List.mem_cons,List.not_mem_nil,or_false] at hb
    rcases hb with e | e | e
    · rw [e]; exact Nat.ne_of_gt sI'
    · rw [e]; exact Nat.ne_of_lt ha
    · rw [e]; exact nT) e
  show wpAny _ A.in1 (again (.builtin "list.extend.loop" ⟨[.ref s.heap.objs.size,.ref I,.ref s.heap.objs.size],[]⟩)) _ _ { s with heap:=(h2.update s.heap.objs.size (Obj.mapSeq (·.push Value.none))).update s.heap.objs.size (Obj.mapSeq (·.pop)),drawn:=d }
  rw [← eh4]
  rw [← eh4] at hS4
  refine wpAny_pure ⟨plainId_quiet F.plain_extend_loop _,codeAny_extend_loopS (WK.toS) hn s.heap.objs.size ?_ _ es.size 0 _ _ _ rfl (Nat.zero_le _) st4 hS4 (ItemsOf.nil _) fun s' acc' c' hm hS' hacc=>?_⟩
  · simp only [List.mem_cons,List.not_mem_nil,or_false,not_or]
    exact ⟨Nat.ne_of_lt sI',Nat.ne_of_gt ha,nT.symm⟩
  show wpAny _ A (load s.heap.objs.size >>= _) _ _ s'
  refine wpAny_bind (wpAny_load hS' (wpAny_pure ?_))
  have AtY:xl.length=es.size:=by rw [hxp.length_eq,Array.length_toList]
  have ea:acc'.toList=xl.map (·.2):=by
    refine List.ext_getElem? fun i=>?_
    rw [List.getElem?_map,Array.getElem?_toList]
    by_cases hi:i < es.size
    · have hi2:i < acc'.size:=by rw [hacc.1]; exact hi
      obtain ⟨x,g1,g2⟩:=hacc.2 i acc'[i] (Array.getElem?_eq_getElem hi2)
      rw [g1,Array.getElem?_eq_getElem hi2,g2]
      rfl
    · rw [Array.getElem?_eq_none (by rw [hacc.1]; omega),List.getElem?_eq_none (by rw [AtY]; omega)]
      rfl
  rw [ea]
  refine hQ xl s' hxp (fun b ob e=>hm.heap b ob ?_ (k4 _ _ (Nat.ne_of_lt (Heap.lt_size e)) (k2 _ _ (k1 _ _ e)))) hm.gens hm.os (Nat.le_of_lt (Heap.lt_size hS'))
  have:=Heap.lt_size e
  simp only [List.mem_cons,List.not_mem_nil,or_false,not_or]
  exact ⟨Nat.ne_of_lt this,Nat.ne_of_lt (Nat.lt_trans this sI')⟩
theorem Apa (W:Wk w o es ep t) (ho:s.heap.get? a=some o) (hh:A.handled=none) (h64:es.size < 64) {key:Int × Value→Int} (hI:∀ e∈es.toList,∃ tk,e.2=.int (key e) tk) {Q:Value→Shared→Prop}
    (hQ:∀ (h':Heap) d (tk l e:Nat) (out:Array Value) (ns':List Int),(∀ b o,s.heap.get? b=some o→h'.get? b=some o)→s.heap.objs.size≤l→h'.get? l=some (seqObj "list" out e)→IntsAre out.toList ns'→ns'.Perm (es.toList.map key)→ns'.Pairwise (·≤·) →
      Q (.ref l) { s with heap:=h',drawn:=d,toks:=tk }):wpAny (model prog w) A (call (.builtin "sorted") [.ref a]) Q E s:=by
  refine Calls.call_function_entry kind_sorted plain_sorted entry_sorted (args_sorted1 _) ?_
  unfold Builtin.«sorted»
  refine wpAny_bind (m:=checkCount "sorted" 1 1 _) (wpAny_pure (wpAny_bind (AtX (A:=A.in1) W ho hh (by rw [sizeLine_eq]; omega) fun xl s' hxp k hg hos hz=>?_)))
  obtain ⟨h',g',d',tk',os'⟩:=s'
  dsimp only at k hg hos hz
  subst hg hos
  have AtY:xl.length=es.size:=by rw [hxp.length_eq,Array.length_toList]
  have hI2:∀ l:List (Int × Value),(∀ e∈l,∃ tk,e.2=.int (key e) tk)→IntsAre (l.map (·.2)) (l.map key):=by
    intro l
    induction l with
    | nil=>intro _; exact .nil
    | cons e l ih =>
      intro h
      obtain ⟨tk,hk⟩:=h e List.mem_cons_self
      rw [List.map_cons,List.map_cons,hk]
      exact .cons _ _ (ih fun x hx=>h x (List.mem_cons_of_mem _ hx))
  have hIx:=hI2 xl fun e he=>hI e (hxp.mem_iff.mp he)
  have hoL:(h'.push (seqObj "list" (xl.map (·.2)).toArray 0)).get? h'.objs.size=some (seqObj "list" (xl.map (·.2)).toArray 0):=Heap.get?_push_size _ rfl
  refine wpAny_bind (wpAny_newList (hsz:=by rw [List.length_map,AtY,sizeLine_eq]; omega) ?_)
  show wpAny _ _ _ _ _ { s with heap:=h'.push (seqObj "list" (xl.map (·.2)).toArray 0),drawn:=d',toks:=tk' }
  refine wpAny_bind (wpAny_holding (wpAny_call_entry slot_list_sort ⟨_,hoL,rfl⟩ entry_list_sort (list_sort_tree hoL hIx (by rw [List.length_map,AtY]; exact h64) fun out ns' a1 a2 a3=>⟨_,rfl,wpAny_pure ⟨_,rfl,?_⟩⟩) (args_list_sort _)))
  obtain ⟨e,he⟩:=sortedHeap_at (out:=out) hoL
  refine hQ _ d' tk' h'.objs.size e out ns' (fun b ob eb=>?_) ?_ he a1 (a2.trans (hxp.map _)) a3
  · have lb:=Heap.lt_size (k _ _ eb)
    rw [sortedHeap_old (Nat.ne_of_lt lb) (by rw [size_push']; exact Nat.lt_succ_of_lt lb)]
    exact Heap.get?_push_of_some _ (k _ _ eb)
  · exact hz
end
end SetW
open PySem PySem.Spec PyProof.Rows
namespace SetW
theorem AiG {xs:Array Nat}:Agh xs↔xs.toList.Pairwise (· < ·):=by
  rw [List.pairwise_iff_getElem]
  constructor
  · intro h i j hi hj hij
    have:=h i j hij (by simpa using hj)
    have hi':i < xs.size:=by simpa using hi
    have hj':j < xs.size:=by simpa using hj
    simpa [Array.getD,hi',hj'] using this
  · intro h i k hik hk
    have:=h i k (by simp; omega) (by simpa using hk) hik
    have hi':i < xs.size:=by omega
    simpa [Array.getD,hi',hk] using this
theorem ArY {xs:Array Nat} {j:Nat} (hR:Agh xs) (hn:xs[SetTable.below xs j]?≠some j):Agh (SetTable.insertAt xs (SetTable.below xs j) j):=by
  obtain ⟨h1,h2,h3⟩:=AiF hR j
  have hP:=AiG.mp hR
  rw [AiG]
  generalize SetTable.below xs j=p at h1 h2 h3 hn
  have e:(SetTable.insertAt xs p j).toList=xs.toList.take p++j::xs.toList.drop p:=by
    unfold SetTable.insertAt
    simp [Array.toList_extract,List.take_of_length_le]
  rw [e]
  have g:∀ i,i < xs.size→xs.getD i 0=xs.toList.getD i 0:=fun i hi=>by simp [Array.getD,List.getD,hi]
  have lo:∀ y∈xs.toList.take p,y < j:=fun y hy=>by
    obtain ⟨i,hi,rfl⟩:=List.mem_take_iff_getElem.mp hy
    have hi':i < p∧i < xs.size:=by simpa using (Nat.lt_min.mp hi)
    have:=h2 i hi'.1
    simpa [Array.getD,hi'.2] using this
  have hi:∀ y∈xs.toList.drop p,j < y:=fun y hy=>by
    obtain ⟨i,hi,rfl⟩:=List.mem_drop_iff_getElem.mp hy
    have hi':i+p < xs.size:=by simpa using hi
    have a:=h3 (i+p) (by omega) hi'
    have b:xs.getD (i+p) 0=xs[i+p]:=by simp [Array.getD,hi']
    rw [b] at a
    have ne:xs[i+p]≠j:=fun z=>by
      by_cases c:i=0
      · subst c
        apply hn
        rw [Array.getElem?_eq_getElem (by omega)]
        simp at z
        rw [z]
      · have c1:=h3 p (Nat.le_refl _) (by omega)
        have c2:=hR p (i+p) (by omega) hi'
        rw [b,z] at c2
        omega
    have:(xs.toList)[i+p]'(by simpa using hi')=xs[i+p]:=by simp
    simp only [Nat.add_comm] at *
    omega
  rw [List.pairwise_append]
  refine ⟨hP.sublist (List.take_sublist _ _),?_,fun a ha b hb=>?_⟩
  · rw [List.pairwise_cons]
    exact ⟨hi,hP.sublist (List.drop_sublist _ _)⟩
  · rcases List.mem_cons.mp hb with e | hb
    · rw [e]; exact lo a ha
    · exact Nat.lt_trans (lo a ha) (hi b hb)
theorem Adm (t:SetTable) (g:Nat→Int) (h:Int):∀ (fuel:Nat) (p:SetTable.Probe) (j:Nat) (dm:Option Nat),(∀ d,p.dummy=some d→t.slot d=.dummy)→SetTable.probe.go t g h fuel p=some (.empty j dm)→t.slot j=.empty∧∀ d,dm=some d→t.slot d=.dummy
  | 0,p,j,dm,hd,e=>by simp [SetTable.probe.go] at e
  | fuel+1,p,j,dm,hd,e=>by
    have adv:∀ q:SetTable.Probe,(t.advance q).dummy=q.dummy:=fun q=>by
      unfold SetTable.advance
      split <;> rfl
    unfold SetTable.probe.go at e
    split at e
    · rename_i hs
      injection e with e
      injection e with e1 e2
      subst e1 e2
      exact ⟨hs,hd⟩
    · rename_i hs
      refine Adm t g h fuel _ j dm (fun d hd'=>?_) e
      rw [adv] at hd'
      have:p.j=d:=by simpa using hd'
      rw [← this]; exact hs
    · split at e
      · cases e
      · exact Adm t g h fuel _ j dm (fun d hd'=>hd d (by rwa [adv] at hd')) e
theorem AqU {t:SetTable} {h:Int} {j:Nat} {b:Bool} (e:t.freeSlot h=some (j,b)):t.place[SetTable.below t.place j]?≠some j:=by
  have nl:t.slot j=.empty∨t.slot j=.dummy:=by
    unfold SetTable.freeSlot at e
    split at e
    · rename_i j' dm hp
      unfold SetTable.probe at hp
      obtain ⟨a,b'⟩:=Adm t _ h _ _ j' dm (fun d hd=>by simp [SetTable.probeStart] at hd) hp
      injection e with e
      injection e with e1 e2
      cases dm with
      | none=>exact .inl (by rw [← e1]; exact a)
      | some d=>exact .inr (by rw [← e1]; exact b' d rfl)
    · cases e
  intro z
  unfold SetTable.slot at nl
  dsimp only at nl
  rw [if_pos (by rw [z]; simp)] at nl
  rcases nl with nl | nl <;> cases nl
def TOk (t t':SetTable):Prop:=t'.led=t.led∧((t.plain=true→Agh t.place)→t'.plain=true→Agh t'.place)
theorem AiH (t:SetTable) (n:Nat):TOk t (t.standIn n):=⟨rfl,fun _ h=>by cases h⟩
theorem AwX {t t':SetTable} (h:TOk t t') (n:Nat):TOk t (t'.orStandIn n):=by
  unfold SetTable.orStandIn
  by_cases c:t'.fits n=true
  · rw [if_pos c]; exact h
  · rw [if_neg c]; exact ⟨h.1,fun _ z=>by cases z⟩
theorem Av9 (t:SetTable) (es:Array (Int × Value)) (h:Int) (x:Value):TOk t (layNew t es h x).2.1:=by
  unfold layNew
  split
  · rename_i slot wd e
    exact AwX (t:=t) (t':=(t.put slot).1) ⟨rfl,fun hr hp=>ArY (hr hp) (AqU e)⟩ _
  · exact AiH _ _
theorem AtZ {mask finger moves:Nat} {led plain:Bool} {hs:Array Int} {t':SetTable} {order:Array Nat} (e:SetTable.laid mask finger moves led plain hs=some (t',order)):t'.led=led∧t'.plain=plain∧Agh t'.place:=by
  unfold SetTable.laid at e
  cases ho:SetTable.layClean mask hs with
  | none=>rw [ho] at e; cases e
  | some owner =>
    rw [ho] at e
    have e':some (_,_)=some (t',order):=e
    injection e' with e'
    injection e' with e1 e2
    subst e1
    refine ⟨rfl,rfl,?_⟩
    rw [AiG]
    dsimp only
    refine List.Pairwise.map (R:=fun a b:Nat × Nat=>a.1 < b.1) _ (fun a b h=>h) ?_
    refine List.Pairwise.filterMap (R:=(· < ·)) _ (fun a a' haa b hb b' hb'=>?_) List.pairwise_lt_range
    cases h1:owner.getD a none with
    | none=>rw [h1] at hb; cases hb
    | some u =>
      cases h2:owner.getD a' none with
      | none=>rw [h2] at hb'; cases hb'
      | some u' =>
        rw [h1] at hb; rw [h2] at hb'
        cases hb; cases hb'
        exact haa
theorem ArZ (t:SetTable) (es:Array (Int × Value)) (n:Nat):TOk t (relayAll t es n).2.1:=by
  unfold relayAll
  split
  · rename_i t' order e
    unfold SetTable.relaid at e
    obtain ⟨a,b,c⟩:=AtZ e
    dsimp only
    split
    · exact ⟨a,fun _ _=>c⟩
    · exact AiH _ _
  · exact AiH _ _
section
variable {prog:Program} {w:World} {A:Around} {E:Value→Shared→Prop} {s:Shared} {a:Addr}
def ky (e:Int × Value):Int:=match e.2 with | .int i _=>i | _=>0
structure IS (w:World) (o:Obj) (es:Array (Int × Value)) (ep:Nat) (t:SetTable):Prop where
  ex:o.ExactSet
  d:o.data=.set es ep t
  f:t.fits es.size=true
  ok:w.params.followText "set-order" = true∨(t.led=true∧(t.plain=true→Agh t.place))
  el:∀ e∈es.toList,(∃ k tk,e=(hashInt k,.int k tk))
  nd:(es.toList.map ky).Nodup
theorem IS.elems {o:Obj} {es:Array (Int × Value)} {ep:Nat} {t:SetTable} (h:IS w o es ep t):ElemsOf (intKind prog w) es.toList:=fun e he=>by
  obtain ⟨k,tk,rfl⟩:=h.el e he
  exact ⟨⟨k,intKind_is _ _ _ _,rfl⟩,rfl⟩
theorem IS.wk {o:Obj} {es:Array (Int × Value)} {ep:Nat} {t:SetTable} (h:IS w o es ep t):Wk w o es ep t:=⟨h.ex,h.d,h.f,h.ok.elim .inl fun z=>.inr (.inr z)⟩
theorem AuG {gv:Bool} (g:Sem Unit) (hg:g=match gv with | true=>rule "set.scan.the-table-gave-way" | false=>pure ()) {Q:Unit→Shared→Prop} (h:Q () s):wpAny (model prog w) A g Q E s:=by
  subst hg
  cases gv
  · exact wpAny_pure h
  · exact wpAny_rule h
theorem ApQ {o:Obj} {es es':Array (Int × Value)} {ep:Nat} {t t':SetTable} (ho:s.heap.get? a=some o) (hd:o.data=.set es ep t):(s.heap.update a (Obj.putSet es' t')).get? a=some { o with data:=.set es' (ep+1) t' }:=by
  have:=Heap.get?_update_self (Obj.putSet es' t') ho (by rw [putSet_of es' t' hd]; rfl)
  rw [putSet_of es' t' hd] at this
  exact this
theorem IS.to {o:Obj} {es es1:Array (Int × Value)} {ep:Nat} {t t1:SetTable} {v:Int} {tk:Tok} (h:IS w o es ep t) (hv:v∉es.toList.map ky) (hp:es1.toList.Perm (es.push (hashInt v,.int v tk)).toList) (hf:t1.fits es1.size=true) (hto:TOk t t1) (ep':Nat) :
    IS w { o with data:=.set es1 ep' t1 } es1 ep' t1:=by
  rw [Array.toList_push] at hp
  refine ⟨h.ex,rfl,hf,h.ok.imp id fun z=>⟨by rw [hto.1]; exact z.1,hto.2 z.2⟩,fun e he=>?_,?_⟩
  · rcases List.mem_append.mp (hp.mem_iff.mp he) with he | he
    · exact h.el e he
    · rw [List.mem_singleton.mp he]; exact ⟨v,tk,rfl⟩
  · refine (hp.map ky).nodup_iff.mpr ?_
    rw [List.map_append,List.nodup_append]
    refine ⟨h.nd,by simp,fun x hx y hy e=>?_⟩
    have:y=v:=by simpa [ky] using hy
    rw [e,this] at hx
    exact hv hx
theorem AvA {o:Obj} {es:Array (Int × Value)} {ep:Nat} {t:SetTable} (h:IS w o es ep t) (ho:s.heap.get? a=some o) {v:Int} {tk:Tok} (hb:es.size+1 < scanBound) {Q:Bool→Shared→Prop}
    (hQ:∀ h' o' es' ep' t' b,Heap.SameBut a s.heap h'→h'.get? a=some o'→IS w o' es' ep' t'→(∀ z,z∈es'.toList.map ky↔z∈es.toList.map ky∨z=v)→es'.size≤es.size+1→Q b { s with heap:=h' }) :
    wpAny (model prog w) A (setAddHashed a (.int v tk) (hashInt v)) Q E s:=by
  have hel:ElemsOf (intKind prog w) es.toList:=h.elems
  have hkey:(intKind prog w).is v (.int v tk)=true:=intKind_is _ _ _ _
  unfold setAddHashed setAddHashedIn
  refine wpAny_holding (wpAny_bind (wpAny_setState_of ho h.d h.f ?_))
  dsimp only
  rw [byScan_of (knd:=intKind prog w) rfl (Nat.lt_of_succ_lt hb) hel,if_pos rfl]
  unfold setAddByScan
  refine wpAny_bind (wpAny_bind (wpAny_rule (wpAny_bind (wpAny_setScan_of (knd:=intKind prog w) hkey ho h.d h.f hel ?_))))
  have mem:∀ e∈es.toList,((intKind prog w).is v e.2=true↔ky e=v):=fun e he=>by
    obtain ⟨k,tk',rfl⟩:=h.el e he
    show Value.isInt v (.int k tk')=true↔k=v
    constructor
    · intro z
      obtain ⟨_,q⟩:=Value.isInt_shape z
      cases q
      rfl
    · intro z
      rw [← z]
      exact intKind_is prog w k tk'
  cases hr:List.findIdx? (fun e=>(intKind prog w).is v e.2) es.toList with
  | some j =>
    dsimp only
    obtain ⟨hj,hpj,_⟩:=List.findIdx?_eq_some_iff_getElem.mp hr
    refine wpAny_pure (wpAny_pure ?_)
    have hv:v∈es.toList.map ky:=List.mem_map.mpr ⟨_,List.getElem_mem hj,(mem _ (List.getElem_mem hj)).mp hpj⟩
    have:=hQ s.heap o es ep t false (Heap.SameBut.refl a s.heap) ho h (fun z=>⟨.inl,fun q=>q.elim id fun e=>e ▸ hv⟩) (Nat.le_succ _)
    exact this
  | none =>
    dsimp only
    have hv:v∉es.toList.map ky:=fun q=>by
      obtain ⟨e,he,hk⟩:=List.mem_map.mp q
      have:=List.findIdx?_eq_none_iff.mp hr e he
      rw [(mem e he).mpr hk] at this
      cases this
    have hperm:=layNew_perm t es (hashInt v) (.int v tk)
    have hfits:=layNew_fits t es (hashInt v) (.int v tk)
    have hto:=Av9 t es (hashInt v) (.int v tk)
    generalize layNew t es (hashInt v) (.int v tk)=Ly at hperm hfits hto ⊢
    obtain ⟨es1,t1,wd,gv⟩:=Ly
    dsimp only at hperm hfits hto ⊢
    refine wpAny_bind (AuG (gv:=gv) _ rfl ?_)
    have mm:∀ z,z∈es1.toList.map ky↔z∈es.toList.map ky∨z=v:=fun z=>by
      rw [(hperm.map ky).mem_iff,Array.toList_push,List.map_append,List.mem_append]
      simp [ky]
    have sz:es1.size=es.size+1:=by rw [← Array.length_toList,hperm.length_eq,Array.toList_push,List.length_append,Array.length_toList]; rfl
    have hb1:es1.size < scanBound:=by rw [sz]; exact hb
    have g1:=ApQ (es':=es1) (t':=t1) ho h.d
    have I1:=h.to hv hperm hfits hto (ep+1)
    have b1:=Heap.SameBut.update s.heap a (Obj.putSet es1 t1)
    split
    all_goals
      refine wpAny_bind (wpAny_of_eq (a:=true) rfl ?_)
      simp only [↓reduceIte]
      refine wpAny_bind (wpAny_storeSet_of ho h.d ?_ (fits_of_scanBound hb1))
      split
      · have rp:=relayAll_perm t1 es1 (SetTable.grown es1.size)
        have rf:=relayAll_fits t1 es1 (SetTable.grown es1.size)
        have rt:=ArZ t1 es1 (SetTable.grown es1.size)
        generalize relayAll t1 es1 (SetTable.grown es1.size)=Rl at rp rf rt ⊢
        obtain ⟨es2,t2,gv2⟩:=Rl
        dsimp only at rp rf rt ⊢
        have sz2:es2.size=es1.size:=by rw [← Array.length_toList,rp.length_eq,Array.length_toList]
        refine wpAny_bind (AuG (gv:=gv2) _ rfl (wpAny_bind (wpAny_storeSet_of g1 rfl (wpAny_pure (wpAny_pure ?_)) (fits_of_scanBound (by rw [sz2]; exact hb1)))))
        refine hQ _ _ es2 (ep+1+1) t2 true (b1.trans (Heap.SameBut.update _ a _)) (ApQ (s:={ s with heap:=s.heap.update a (Obj.putSet es1 t1) }) g1 rfl) ?_ (fun z=>by rw [(rp.map ky).mem_iff]; exact mm z) (by rw [sz2,sz]; exact Nat.le_refl _)
        exact ⟨I1.ex,rfl,rf,I1.ok.imp id fun z=>⟨by rw [rt.1]; exact z.1,rt.2 z.2⟩,fun e he=>I1.el e (rp.mem_iff.mp he),(rp.map ky).nodup_iff.mpr I1.nd⟩
      · exact wpAny_pure (wpAny_pure (hQ _ _ es1 (ep+1) t1 true b1 g1 I1 mm (by rw [sz]; exact Nat.le_refl _)))
end
end SetW
open PySem PySem.Spec PyProof.Rows
namespace SetW
section
variable {prog:Program} {w:World} {A:Around} {E:Value→Shared→Prop} {s:Shared}
theorem IS.fresh:IS w { cls:=.type "set", dict:=none,data:=.set #[] 0 (.fresh 0 0 (!w.params.followText "set-order")) } #[] 0 (.fresh 0 0 (!w.params.followText "set-order")):=by
  refine ⟨⟨rfl,rfl,rfl⟩,rfl,rfl,?_,fun e he=>by simp at he,by simp⟩
  by_cases h:w.params.followText "set-order" = true
  · exact .inl h
  · refine .inr ⟨by simpa [SetTable.fresh] using h,fun _ i k h1 h2=>?_⟩
    simp [SetTable.fresh] at h2
theorem Aua {I:Addr} {fp wr:List Addr} {G:Array GenState→Array GenState→Prop} {n:Nat} {P:Nat→Value→Prop} {St:Nat→Shared→Prop} {R:Result→Shared→Prop} (W:WalksS prog w A.in1 I fp wr G n P St) (S:Addr) (hSf:S∉fp)
    (val:Nat→Int) (hval:∀ i v,P i v→∃ tk,v=.int (val i) tk) (hb:n+1 < scanBound):∀ (k i:Nat) (s:Shared) (o:Obj) (es:Array (Int × Value)) (ep:Nat) (t:SetTable),n - i=k→i≤n→St i s→s.heap.get? S=some o→IS w o es ep t→es.size≤i →
      (∀ z,z∈es.toList.map ky↔∃ j,j < i∧val j=z) →
      (∀ s' o' es' ep' t',Moved (S::wr) G s s'→s'.heap.get? S=some o'→IS w o' es' ep' t'→es'.size≤n→(∀ z,z∈es'.toList.map ky↔∃ j,j < n∧val j=z)→R (.ok (.ret .none)) s') →
      codeAny (model prog w) A (.builtin "set.update.loop" ⟨[.ref S,.ref I],[]⟩) R s:=by
  have hSw:S∉wr:=fun h=>hSf (W.sub _ h)
  have hsub:∀ b∈wr,b∈S::wr:=fun b hb=>List.mem_cons_of_mem _ hb
  intro k
  induction k with
  | zero =>
    intro i s o es ep t hk hi hst ho hS hz hm hR
    obtain rfl:i=n:=by omega
    refine codeAny_builtin PyProof.Rows.F.entry_set_update_loop ?_
    rw [Around.under_plainId PyProof.Rows.F.plain_set_update_loop _]
    show wpAny _ A.in1 (pyNext (.ref I) >>= _) _ _ s
    refine wpAny_bind (W.done s _ _ hst fun s' mv=>?_)
    show wpAny _ A.in1 (ret Value.none) _ _ s'
    exact wpAny_pure (hR s' o es ep t (mv.mono hsub) (mv.heap S _ hSw ho) hS hz hm)
  | succ k ih =>
    intro i s o es ep t hk hi hst ho hS hz hm hR
    have hlt:i < n:=by omega
    refine codeAny_builtin PyProof.Rows.F.entry_set_update_loop ?_
    rw [Around.under_plainId PyProof.Rows.F.plain_set_update_loop _]
    show wpAny _ A.in1 (pyNext (.ref I) >>= _) _ _ s
    refine wpAny_bind (W.item i s _ _ hlt hst fun v s' hP hst' mv=>?_)
    obtain ⟨tk,rfl⟩:=hval i v hP
    show wpAny _ A.in1 (holding [Value.int (val i) tk] (setAdd S (.int (val i) tk)) >>= _) _ _ s'
    refine wpAny_bind (wpAny_holding ?_)
    unfold setAdd
    refine wpAny_holding (wpAny_bind ((intKind prog w).pyHash (k:=val i) (intKind_is _ _ _ _) ?_))
    refine AvA (s:={ s' with toks:=s'.toks+1 }) hS (mv.heap S _ hSw ho) (by omega) fun h' o' es' ep' t' b sb ho' hS' hm' hz'=>?_
    refine wpAny_pure ⟨plainId_quiet PyProof.Rows.F.plain_set_update_loop _,ih (i+1) _ o' es' ep' t' (by omega) hlt (W.frame _ s' _ _ hst' (Nat.le_succ _) fun b hb ob e=>?_) ho' hS' (by omega) (fun z=>?_) fun s'' o2 es2 ep2 t2 mv2 ho2 hS2 hz2 hm2=>?_⟩
    · rw [sb.2 b (fun h:b=S=>hSf (by rw [← h]; exact hb))]; exact e
    · rw [hm' z,hm z]
      constructor
      · rintro (⟨j,hj,e⟩ | e)
        · exact ⟨j,by omega,e⟩
        · exact ⟨i,by omega,e.symm⟩
      · rintro ⟨j,hj,e⟩
        by_cases c:j=i
        · exact .inr (by rw [← e,c])
        · exact .inl ⟨j,by omega,e⟩
    · refine hR s'' o2 es2 ep2 t2 (Moved.trans W.gtrans ((mv.mono hsub).then_heap (Nat.le_succ _) fun b ob hb e=>?_) mv2) ho2 hS2 hz2 hm2
      rw [sb.2 b (fun h:b=S=>hb (by rw [h]; exact List.mem_cons_self))]; exact e
end
end SetW
open PySem PySem.Spec PyProof.Rows
namespace SetW
section
variable {prog:Program} {w:World} {A:Around} {E:Value→Shared→Prop} {s:Shared}
def frs (w:World):Obj:={ cls:=.type "set", dict:=none,data:=.set #[] 0 (.fresh 0 0 (!w.params.followText "set-order")) }
theorem AvB (v:Value) {Q₁:Value→Shared→Prop} (h:Q₁ (.ref s.heap.objs.size) { s with heap:=s.heap.push (frs w) }):codeAny (model prog w) A (.call (.builtin "set.__new__") ⟨[.type "set", v],[]⟩) (wants Q₁ E) s:=by
  refine codeAny_of_tree ?_
  show wpAny _ A.in1 (do checkBuiltinCall "set.__new__" ⟨[.type "set", v],[]⟩; again (.builtin "set.__new__" ⟨[.type "set", v],[]⟩)) _ _ s
  refine wpAny_bind (wpAny_of_eq (PySem.F.newCall_set_1 v) (wpAny_pure ⟨plainId_quiet PySem.F.plain_set_new _,codeAny_builtin PySem.F.entry_set_new ?_⟩))
  rw [Around.under_plainId PySem.F.plain_set_new _]
  unfold Builtin.«set.__new__» Builtin.Frozenset.newClass
  have hsub:=sub_set_self
  obtain ⟨hp,g,d,tk,os⟩:=s
  dsimp only
  wp_walk
  refine wpAny_askSetting (wpAny_pure ?_)
  dsimp only
  simp only [newObj]
  exact wpAny_bind (wpAny_alloc (wpAny_pure (wpAny_pure h)))
set_option maxHeartbeats 4000000 in
theorem Aub {l:Addr} {items:Array Value} {ns:List Int} {Q:Value→Shared→Prop} (hh:A.handled=none) (hl:s.heap.IsList l items) (hi:IntsAre items.toList ns) (hb:items.size+1 < scanBound)
    (h:∀ (h':Heap) (tk:Nat) o es ep t,h'.get? s.heap.objs.size=some o→IS w o es ep t→es.size≤items.size→(∀ z,z∈es.toList.map ky↔∃ j,j < items.size∧ns.getD j 0=z) →
      (∀ b o,s.heap.get? b=some o→h'.get? b=some o)→Q (.ref s.heap.objs.size) { s with heap:=h',toks:=tk }):wpAny (model prog w) A (call (.type "set") [.ref l]) Q E s:=by
  obtain ⟨c,tl,hmro⟩:=PySem.F.called_set.mro
  have hmade:=PySem.F.called_set.made
  have hsub:=PySem.F.called_set.sub
  refine wpAny_call (codeAny_of_tree ?_)
  show wpAny _ _ (callAny (.type "set") _) _ _ _
  refine wpAny_pure ⟨Code.quiet_builtin _ (by decide +kernel),codeAny_builtin PySem.F.entry_type_call ?_⟩
  rw [Around.under_plain (weight_type_call_type "set" [.ref l] []) rfl]
  have h1:=PySem.F.called_set.notType
  have h2:=PySem.F.called_set.canCreate
  have hct:=PySem.F.typeCall_set_1 (.ref l)
  repeat (any_goals (first | assumption | wp_step))
  refine codeAny_mono (AvB (.ref l) (E:=E) (Q₁:=fun obj s₁=>obj=.ref s.heap.objs.size∧s₁={ s with heap:=s.heap.push (frs w) }) ⟨rfl,rfl⟩) fun r s₁ hr=>?_
  cases r with
  | error e=>exact hr
  | ok fl =>
    cases fl with
    | ret obj =>
      obtain ⟨rfl,rfl⟩:=hr
      have hS:(s.heap.push (frs w)).get? s.heap.objs.size=some (frs w):=Heap.get?_push_size _ rfl
      have hT:Shared.TypeIs { s with heap:=s.heap.push (frs w) } (.ref s.heap.objs.size) "set" := ⟨_,hS,rfl⟩
      have hli:=PySem.F.called_set.init.lookup
      have hbi:=PySem.F.called_set.init.bind (.ref s.heap.objs.size)
      repeat (any_goals (first | assumption | wp_step))
      refine codeAny_mono (codeAny_call_builtin (R:=wants (fun r s₂=>r=.none∧∃ h' tk o es ep t,s₂={ s with heap:=h',toks:=tk }∧h'.get? s.heap.objs.size=some o∧IS w o es ep t∧es.size≤items.size∧(∀ z,z∈es.toList.map ky↔∃ j,j < items.size∧ns.getD j 0=z) ∧
          (∀ b o,s.heap.get? b=some o→h'.get? b=some o)) E) PySem.F.called_set.init.plain PySem.F.entry_set_init (check_set_init_1 hT ?_)) fun r₂ s₂ hr₂=>?_
      · obtain ⟨ol,hol,hcl,nl,hdl⟩:=hl
        obtain ⟨ocls,odict,odata,oslots⟩:=ol
        simp only at hcl hdl
        subst hcl hdl
        have hlS:l < s.heap.objs.size:=Heap.lt_size hol
        obtain ⟨h1,eh1⟩:∃ h1,h1=s.heap.push (frs w):=⟨_,rfl⟩
        have z1:h1.objs.size=s.heap.objs.size+1:=by rw [eh1,Heap.size_push]
        have k1:∀ b ob,s.heap.get? b=some ob→h1.get? b=some ob:=fun b ob e=>by rw [eh1]; exact Heap.get?_push_of_some _ e
        rw [← eh1] at hS hT ⊢
        have hol':=k1 _ _ hol
        have hl1:h1.IsList l items:=⟨_,hol',rfl,nl,rfl⟩
        have hsls:=PySem.F.sub_list_set
        have hslf:=PySem.F.sub_list_frozenset
        have hne:(Value.type "list" == Value.type "dict")=false:=by decide
        have hS':h1.get? s.heap.objs.size=some { cls:=.type "set", dict:=none,data:=.set #[] 0 (.fresh 0 0 (!w.params.followText "set-order")) }:=hS
        unfold Builtin.«set.__init__» noKeywords Builtin.Frozenset.updateFrom
        generalize hPI:pyIter=PI
        wp_walk
        subst hPI
        refine wpAny_pyIter_list hl1 ?_
        obtain ⟨h2,eh2⟩:∃ h2,h2=h1.push { cls:=.type "list_iterator", data:=.fields #[.ref l,.int 0 0] }:=⟨_,rfl⟩
        show wpAny _ _ _ _ _ { s with heap:=h1.push { cls:=.type "list_iterator", data:=.fields #[.ref l,.int 0 0] } }
        rw [← eh2]
        have k2:∀ b ob,h1.get? b=some ob→h2.get? b=some ob:=fun b ob e=>by rw [eh2]; exact Heap.get?_push_of_some _ e
        have hit2:h2.IsListIter h1.objs.size l 0:=by rw [eh2]; exact ⟨_,Heap.get?_push_size _ rfl,rfl,rfl⟩
        have hl2:h2.IsList l items:=⟨_,k2 _ _ hol',rfl,nl,rfl⟩
        refine wpAny_bind (wpAny_runValue ?_)
        have hh3:A.in1.in1.in1.handled=none:=by simp [hh]
        have hneI:l≠h1.objs.size:=by rw [z1]; exact Nat.ne_of_lt (Nat.lt_succ_of_lt hlS)
        have hSf:s.heap.objs.size∉[h1.objs.size,l]:=by
          simp only [List.mem_cons,List.not_mem_nil,or_false,not_or]
          exact ⟨by rw [z1]; exact Nat.ne_of_lt (Nat.lt_succ_self _),Nat.ne_of_gt hlS⟩
        have hval:∀ (i:Nat) (v:Value),items[i]?=some v→∃ tk,v=.int ((fun i=>ns.getD i 0) i) tk:=fun i v hv=>IntsAre.int_at hi i v (by rw [Array.getElem?_toList]; exact hv)
        refine Aua ((Walks.list hh3 h1.objs.size l hneI items).toS) s.heap.objs.size hSf (fun i=>ns.getD i 0) hval hb (items.size - 0) 0 _ _ #[] 0 _ (by omega) (Nat.zero_le _) ⟨hit2,hl2⟩ (k2 _ _ hS') IS.fresh (Nat.zero_le _) (fun z=>by simp) fun s' o es ep t mv ho hI hz hm=>?_
        obtain ⟨h',g',d',tk',os'⟩:=s'
        have eg:g'=s.gens:=mv.gens
        have ed:d'=s.drawn:=mv.drawn
        have eo:os'=s.os:=mv.os
        subst eg ed eo
        show wpAny _ _ _ _ _ _
        refine wpAny_pure ?_
        show wpAny _ _ (ret Value.none) _ _ _
        refine wpAny_pure ⟨rfl,h',tk',o,es,ep,t,rfl,ho,hI,hz,hm,fun b ob e=>?_⟩
        have lb:=Heap.lt_size e
        refine mv.heap b ob ?_ (k2 _ _ (k1 _ _ e))
        simp only [List.mem_cons,List.not_mem_nil,or_false,not_or]
        exact ⟨Nat.ne_of_lt lb,by rw [z1]; exact Nat.ne_of_lt (Nat.lt_succ_of_lt lb)⟩
      · cases r₂ with
        | error e=>exact hr₂
        | ok fl₂ =>
          cases fl₂ with
          | ret r =>
            obtain ⟨rfl,h',tk,o,es,ep,t,rfl,a1,a2,a3,a4,a5⟩:=hr₂
            repeat (any_goals (first | assumption | wp_step))
            exact h _ _ o es ep t a1 a2 a3 a4 a5
          | _=>exact hr₂.elim
    | _=>exact hr.elim
end
end SetW
open PySem PySem.Spec PyProof.Rows
section
variable {X:Cx} {K:PySem.W.Frag} {p1 p2 pos1 pos2:Pos} {e:Expr} {te:TE}
theorem Inv.drew {X:Cx} {pins:List (Addr × Obj)} {σ:St} {H:Hp} {s:Shared} {d:Drawn} (I:Inv X pins σ H s):Inv X pins σ H { s with drawn:=d }:=⟨I.ok,I.os,I.bare,I.base,I.loc,I.cell,I.free,I.Ra,I.pin,I.hok,I.len⟩
def Asa (K:PySem.W.Frag) (te:TE):TE:=fun σ H Q=>te σ H fun x H1=>∃ a ns,x=.ref a∧SqL K H1 a (vI ns)∧ns.length≤4000∧(∀ ds:List Int,ds.Nodup→(∀ z∈ds,z∈ns)→ds.length < 64) ∧
  ∀ l ns',(∀ z,z∈ns'↔z∈ns)→ns'.Pairwise (· < ·)→H1 l=none→Q (.ref l) (upd H1 l (.lst (vI ns')))
theorem An7:∀ {l:List Int},l.Pairwise (·≤·)→l.Nodup→l.Pairwise (· < ·):=fun h n=>(h.and n).imp fun {a b} ⟨h1,h2⟩=>by omega
theorem Apb (hg1:Gl X "sorted") (hm1:X.mg "sorted" = none) (hg2:Gl X "set") (hm2:X.mg "set" = none) (he:PE X e te) (hK:X.K=K:=by rfl) (hc:X.calm=true:=by rfl)
    (hs2:starEach [e] X.env=(false,eval e X.env)::starEach [] X.env:=by rfl)
    (hs1:starEach [.Call (.Name "set" p2) [e] [] pos2] X.env=(false,eval (.Call (.Name "set" p2) [e] [] pos2) X.env)::starEach [] X.env:=by rfl)
    (hq1:(backTo pos1 (starEach [] X.env)).any (·.1)=false:=by rfl) (hq2:(backTo pos2 (starEach [] X.env)).any (·.1)=false:=by rfl) :
    PE X (.Call (.Name "sorted" p1) [.Call (.Name "set" p2) [e] [] pos2] [] pos1) (Asa K te):=by
  subst hK
  intro pins s σ H Q I h
  have hsz:sizeLine=16777216:=sizeLine_eq
  refine wpAny_Call_Name_kw (Aaf I hg1 hm1 AqD ?_ (by decide) (by decide))
  refine PyProof.Rows.callWith_builtin1 ?_ hs1 hq1
  rw [hs1]
  show wpAny _ _ (spliced ((false,eval (.Call (.Name "set" p2) [e] [] pos2) X.env)::backTo pos1 (starEach [] X.env))) _ _ s
  refine Calls.spliced_cons ?_
  refine wpAny_Call_Name_kw (Aaf I hg2 hm2 Avy ?_ (by decide) (by decide))
  refine PyProof.Rows.callWith_type1 ?_ hs2 hq2
  rw [hs2]
  show wpAny _ _ (spliced ((false,eval e X.env)::backTo pos2 (starEach [] X.env))) _ _ s
  refine Calls.spliced_cons (thn (he pins s σ H _ I h) fun u s1 ⟨x,H1,I1,r1,a,ns,ex,hq,h4,h64,q⟩=>?_)
  subst ex
  cases r1
  refine Calls.spliced_nil ?_
  obtain ⟨its,r,pl,hz⟩:=I1.list hq
  have hi:IntsAre its ns:=intsAre_of r
  have hlen:its.length=ns.length:=hi.length
  refine SetW.Aub (items:=its.toArray) (I.ok.hd hc) pl.isList hi (by rw [List.size_toArray,hlen]; show _+1 < 4096; omega) fun h' tk o es ep t go gi gz gm gk=>?_
  refine Calls.spliced_nil ?_
  have mem:∀ z,z∈es.toList.map SetW.ky↔z∈ns:=fun z=>by
    rw [gm z,List.size_toArray,hlen]
    constructor
    · rintro ⟨j,hj,e⟩
      rw [← e,List.getD_eq_getElem?_getD,List.getElem?_eq_getElem hj]
      exact List.getElem_mem hj
    · intro hz
      obtain ⟨j,hj,e⟩:=List.getElem_of_mem hz
      exact ⟨j,hj,by rw [List.getD_eq_getElem?_getD,List.getElem?_eq_getElem hj]; exact e⟩
  have e64:es.size < 64:=by
    have:=h64 _ gi.nd fun z hz=>(mem z).mp hz
    rwa [List.length_map,Array.length_toList] at this
  refine SetW.Apa (s:={ s1 with heap:=h',toks:=tk }) (key:=SetW.ky) gi.wk go (I.ok.hd hc) e64 (fun e he=>?_) fun h2 d tk2 l ep2 out ns' k2 hl2 hg2 hi2 hp2 hr2=>?_
  · obtain ⟨k,tk',rfl⟩:=gi.el e he
    exact ⟨tk',rfl⟩
  · have hns:ns'.Nodup:=hp2.nodup_iff.mpr gi.nd
    have hl1:s1.heap.objs.size≤l:=Nat.le_of_lt (Nat.lt_of_lt_of_le (Heap.lt_size go) hl2)
    refine ⟨.ref l,_,(I1.laid (t':=tk2) (h':=h2) (a:=l) (o:=.lst (vI ns')) (fun b u e=>k2 _ _ (gk _ _ e)) hl1 ?_).drew,rfl,q l ns' (fun z=>by rw [hp2.mem_iff]; exact mem z) (An7 hr2 hns) (I1.hok.fresh hl1)⟩
    have:ns'.length < 64:=by rw [hp2.length_eq,List.length_map,Array.length_toList]; exact e64
    refine ⟨by rw [Bd]; omega,out.toList,ep2,Agd hi2,?_⟩
    rw [hg2]
end
open PySem PySem.Spec PyProof.Rows
section
variable {X:Cx}
def ApR (z:Str):Value→Bool
  | .str a _=>a.cps.toList == z.cps.toList
  | _=>false
theorem AiI {zs:List Str} {us:List Value} (r:Vals (zs.map V.str) us) {j:Nat} {u:Value} (h:us[j]?=some u):∃ k t,zs[j]?=some k∧u=.str k t:=by
  have hj:=(List.getElem?_eq_some_iff.mp h).1
  have l:=r.length
  rw [List.length_map] at l
  have hk:j < zs.length:=by omega
  obtain ⟨u',e,q⟩:=r.get (i:=j) (x:=.str zs[j]) (by rw [List.getElem?_map,List.getElem?_eq_getElem hk]; rfl)
  rw [h] at e
  cases e
  obtain ⟨t,rfl⟩:=q
  exact ⟨zs[j],t,List.getElem?_eq_getElem hk,rfl⟩
def AwY:V→List V→Hp→VK→Prop:=fun x vs H Q=>∃ (l:Addr) (zs:List Str) (z:Str) (j:Nat),x=.ref l∧vs=[.str z]∧H l=some (.lst (zs.map V.str))∧zs[j]?=some z∧(∀ i,i < j→zs[i]?≠some z)∧zs.length≤1000∧Q (.int (j:Int)) H
theorem ApS:MtR X "list.index" AwY:=by
  intro pins s σ H x vs v us Q I rx rv h
  obtain ⟨l,zs,z,j,rfl,rfl,hH,hj,hno,hz,q⟩:=h
  cases rx
  obtain ⟨u,rfl,ru⟩:=rv.one
  obtain ⟨t,rfl⟩:=ru
  obtain ⟨zz,its,n,r,hl,e⟩:=I.Aq7 hH
  have lr:=r.length
  rw [List.length_map] at lr
  have jl:j < its.length:=by have:=(List.getElem?_eq_some_iff.mp hj).1; omega
  have ja:j < its.toArray.size:=by rw [List.size_toArray]; exact jl
  have hit:ApR z its.toArray[j]=true:=by
    obtain ⟨k',t',e1,e2⟩:=AiI r (List.getElem?_eq_getElem jl)
    rw [hj] at e1
    cases e1
    rw [List.getElem_toArray,e2]
    exact beq_self_eq_true z.cps.toList
  have hn:∀ m (hm:m < its.toArray.size),m < j→ApR z its.toArray[m]=false:=fun m hm hmj=>by
    have ml:m < its.length:=by rw [List.size_toArray] at hm; exact hm
    obtain ⟨k',t',e1,e2⟩:=AiI r (List.getElem?_eq_getElem ml)
    have:=hno m hmj
    rw [List.getElem_toArray,e2]
    show (k'.cps.toList == z.cps.toList)=false
    rw [beq_eq_false_iff_ne]
    intro ez
    have ek:k'=z:=by
      cases k'; cases z
      exact congrArg Str.mk (Array.toList_inj.mp ez)
    rw [ek] at e1
    exact this e1
  have he:∀ y,y∈its.toArray→MeetsSeq.EqGives y (.str z t) (ApR z y):=fun y hy=>by
    have hy:y∈its:=by simpa using hy
    obtain ⟨m,hm,em⟩:=List.getElem_of_mem hy
    obtain ⟨k',t',e1,e2⟩:=AiI r (List.getElem?_eq_getElem hm)
    rw [← em,e2]
    exact SeqRoads2.EqGives.str k' z t' t
  refine call_meets F.slot_list_index ⟨_,e,rfl⟩ F.entry_list_index (F.args_list_index_2 _ _)
    (MeetsSeq.list_index l its.toArray n (.str z t) (ApR z) he j ja (by omega) hit hn) ⟨e,?_⟩
  exact ⟨.int _,H,I.tok _,⟨_,rfl⟩,q⟩
end
end L2
namespace Mine
open L2
def Sg (c:Nat):Prop:=c=35∨c=46
structure Cl (cl:List (List Nat)) (m n:Nat):Prop where
  hn:cl.length=n
  hm:∀ t∈cl,t.length=m
  sg:∀ t∈cl,∀ c∈t,Sg c
  m1:1≤m
  m40:m≤40
  n1:1≤n
  n40:n≤40
def flip (c:Nat):Nat:=if c=35 then 46 else 35
def back (cl:List (List Nat)):List (List Nat):=cl.map fun t=>t.reverse.map flip
def col (cl:List (List Nat)) (e:Nat):List Nat:=cl.map fun t=>t.getD e 0
def AyC (cl:List (List Nat)) (m:Nat):List (List Nat):=(List.range m).map fun e=>(col cl e).map flip
def sgn (cl:List (List Nat)) (m n:Nat) (x y:Int):Nat:=(cl.getD (y % (n:Int)).toNat []).getD (x % (m:Int)).toNat 0
def Rs (ks:List Int):Prop:=(∀ (i:Nat) (a b:Int),ks[i]?=some a→ks[i+1]?=some b→a < b)∧∀ k∈ks,0≤k∧k < 40
theorem Apc:Rs []:=⟨fun i a b h=>by simp at h,fun k h=>by cases h⟩
theorem Asb {ks:List Int} {z:Int} (h:Rs ks) (hz:∀ k∈ks,k < z) (h0:0≤z) (h1:z < 40):Rs (ks++[z]):=by
  refine ⟨fun i a b ha hb=>?_,fun k hk=>?_⟩
  · by_cases hi:i+1 < ks.length
    · rw [List.getElem?_append_left (by omega)] at ha
      rw [List.getElem?_append_left hi] at hb
      exact h.1 i a b ha hb
    · by_cases hi2:i < ks.length
      · rw [List.getElem?_append_left hi2] at ha
        rw [List.getElem?_append_right (by omega)] at hb
        have e:i+1 - ks.length=0:=by omega
        rw [e] at hb
        have:b=z:=by simpa using hb.symm
        rw [this]
        exact hz a (List.mem_of_getElem? ha)
      · rw [List.getElem?_append_right (by omega)] at hb
        have:([z]:List Int)[i+1 - ks.length]?=none:=by
          apply List.getElem?_eq_none
          simp
          omega
        rw [this] at hb
        cases hb
  · rcases List.mem_append.mp hk with h2 | h2
    · exact h.2 k h2
    · rw [List.mem_singleton.mp h2]; exact ⟨h0,h1⟩
structure Ft (th:List Int) (tss:List (List Int)) (tr:List Int):Prop where
  m1:1≤th.length
  m40:th.length≤40
  t1:1≤tss.length
  t40:tss.length≤40
  n1:1≤tr.length
  n40:tr.length≤40
  hth:∀ v∈th,0≤v∧v < 40
  hti:∀ ks∈tss,Rs ks
  htr:∀ v∈tr,0≤v∧v < tss.length
def shd (th ks:List Int):List Nat:=th.map fun s=>if s∈ks then 35 else 46
def wv (th:List Int) (tss:List (List Int)) (tr:List Int):List (List Nat):=tr.map fun v=>shd th (tss.getD v.toNat [])
theorem ApT (th ks:List Int):(shd th ks).length=th.length:=by unfold shd; rw [List.length_map]
theorem Apd (th:List Int) (tss:List (List Int)) (tr:List Int):(wv th tss tr).length=tr.length:=by unfold wv; rw [List.length_map]
theorem ApU {tss:List (List Int)} {v:Int} (h:0≤v∧v < tss.length):tss[v.toNat]?=some (tss.getD v.toNat []):=by
  have:v.toNat < tss.length:=by omega
  rw [List.getD_eq_getElem?_getD,List.getElem?_eq_getElem this]
  rfl
section
variable {α β:Type} [DecidableEq α] [DecidableEq β]
theorem snoc_ind {γ:Type} {P:List γ→Prop} (h0:P []) (h1:∀ l x,P l→P (l++[x])):∀ l,P l:=by
  intro l
  have k:∀ r:List γ,P r.reverse:=by
    intro r
    induction r with
    | nil=>exact h0
    | cons a r ih=>rw [List.reverse_cons]; exact h1 _ _ ih
  have:=k l.reverse
  rwa [List.reverse_reverse] at this
def unl (l:List α):List α:=l.foldl (fun f x=>if x∈f then f else f++[x]) []
theorem J3 (l:List α) (x:α):unl (l++[x])=if x∈unl l then unl l else unl l++[x]:=by
  unfold unl
  rw [List.foldl_append]
  rfl
theorem O6 (x:α):∀ l:List α,x∈unl l↔x∈l:=by
  refine snoc_ind (by simp [unl]) fun l y ih=>?_
  rw [J3]
  split
  · rename_i h
    rw [ih,List.mem_append,List.mem_singleton]
    refine ⟨.inl,fun z=>z.elim id fun z=>?_⟩
    rw [z]; rw [z] at ih; exact ih.mp h
  · rw [List.mem_append,List.mem_append,ih]
theorem Alq:∀ l:List α,(unl l).Nodup:=by
  refine snoc_ind (by simp [unl]) fun l y ih=>?_
  rw [J3]
  split
  · exact ih
  · rename_i h
    rw [List.nodup_append]
    exact ⟨ih,by simp,fun a ha b hb e=>h (by rw [← List.mem_singleton.mp hb,← e]; exact ha)⟩
theorem Auc (l:List α):∀ r,∃ s,unl (l++r)=unl l++s:=by
  refine snoc_ind ⟨[],by simp⟩ fun r y ⟨s,hs⟩=>?_
  rw [← List.append_assoc,J3,hs]
  split
  · exact ⟨s,rfl⟩
  · exact ⟨s++[y],by rw [List.append_assoc]⟩
theorem Adn:∀ l:List α,(unl l).length≤l.length:=by
  refine snoc_ind (by simp [unl]) fun l y ih=>?_
  rw [J3,List.length_append]
  split
  · omega
  · rw [List.length_append]
    show _+1≤_+1
    omega
theorem AlU {l:List α} (h:l≠[]):0 < (unl l).length:=by
  cases l with
  | nil=>exact absurd rfl h
  | cons a r=>exact List.length_pos_of_mem ((O6 a _).mpr List.mem_cons_self)
def ix (l:List α) (x:α):Nat:=@List.idxOf α instBEqOfDecidableEq x l
def num (l:List α):List Nat:=l.map fun x=>ix (unl l) x
theorem Ij (l:List α):(num l).length=l.length:=by unfold num; rw [List.length_map]
theorem Asc {l:List α} {i:Nat} {x:α} (h:l[i]?=some x):(num l)[i]?=some (ix (unl l) x):=by unfold num; rw [List.getElem?_map,h]; rfl
theorem AvC {l:List α} {x:α} (h:x∈l):ix (unl l) x < (unl l).length:=List.idxOf_lt_length_iff.mpr ((O6 x l).mpr h)
theorem AvD {l:List α} {z:Nat} (h:z∈num l):z < (unl l).length:=by
  obtain ⟨x,hx,rfl⟩:=List.mem_map.mp h
  exact AvC hx
theorem Aud {l:List α} {j:Nat} (h:j < (unl l).length):j∈num l:=by
  refine List.mem_map.mpr ⟨(unl l)[j],(O6 _ l).mp (List.getElem_mem h),?_⟩
  exact (Alq l).idxOf_getElem j h
theorem AiJ {l:List α} {x:α} (h:x∈l):ix l x < l.length:=List.idxOf_lt_length_iff.mpr h
theorem ApV {l:List α} {x:α} (h:x∈l):l[ix l x]?=some x:=by
  rw [List.getElem?_eq_getElem (AiJ h)]
  exact congrArg some (List.getElem_idxOf (AiJ h))
theorem Asd {x:α}:∀ {l:List α} {i:Nat},i < ix l x→l[i]?≠some x
  | [],i,h=>by simp
  | a::l,i,h=>by
    unfold ix at h
    rw [List.idxOf_cons] at h
    by_cases e:a=x
    · subst e
      simp at h
    · have:(a == x)=false:=by simp [e]
      rw [this] at h
      cases i with
      | zero=>exact fun z=>e (Option.some.inj z)
      | succ i=>exact Asd (l:=l) (i:=i) (Nat.lt_of_succ_lt_succ h)
theorem Aue {l r:List α} {x:α} (h:x∈l):ix (unl (l++r)) x=ix (unl l) x:=by
  obtain ⟨s,hs⟩:=Auc l r
  unfold ix
  rw [hs,List.idxOf_append,if_pos ((O6 x l).mpr h)]
end
def bw (bs:List Nat) (F:Nat) (ws:List Nat):List Nat:=bs.flatMap fun b=>ws.map fun x=>b * F+x
def fil (pr one other:List (List Nat)):List (List Nat):=pr.flatMap fun u=>(one.zip other).map fun q=>u.flatMap fun c=>if c=35 then q.1 else q.2
section
variable {pr one other:List (List Nat)} {m n w h:Nat} (C:Cl pr m n) (C1:Cl one w h) (C2:Cl other w h)
include C C1 C2
end
def cols (cl:List (List Nat)) (m:Nat):List (List Nat):=(List.range m).map (col cl)
def AuH (one other:List (List Nat)) (w:Nat):List (List Nat × List Nat):=(List.range w).map fun e=>(col one e,col other e)
theorem Xo (cl:List (List Nat)) (m:Nat):(cols cl m).length=m:=by unfold cols; rw [List.length_map,List.length_range]
theorem AlV {cl:List (List Nat)} {m e:Nat} (h:e < m):(cols cl m)[e]?=some (col cl e):=by
  unfold cols
  rw [List.getElem?_map,List.getElem?_range h]
  rfl
theorem Ase {cl:List (List Nat)} {p:Nat} {u:List Nat} (h:cl[p]?=some u) (e:Nat):(col cl e)[p]?=some (u.getD e 0):=by
  unfold col
  rw [List.getElem?_map,h]
  rfl
def nts (l:List Nat):List Int:=l.map fun (z:Nat)=>(z:Int)
theorem O7 (l:List Nat):(nts l).length=l.length:=by unfold nts; rw [List.length_map]
theorem AlW {l:List Nat} {i z:Nat} (h:l[i]?=some z):(nts l)[i]?=some (z:Int):=by unfold nts; rw [List.getElem?_map,h]; rfl
theorem Ape {l:List Nat} {i:Nat} {z:Int} (h:(nts l)[i]?=some z):∃ y:Nat,l[i]?=some y∧z=(y:Int):=by
  unfold nts at h
  rw [List.getElem?_map] at h
  obtain ⟨y,hy,rfl⟩:=Option.map_eq_some_iff.mp h
  exact ⟨y,hy,rfl⟩
theorem Auf {l:List Nat} {z:Int}:z∈nts l↔∃ y∈l,z=(y:Int):=by
  unfold nts
  rw [List.mem_map]
  exact ⟨fun ⟨y,hy,e⟩=>⟨y,hy,e.symm⟩,fun ⟨y,hy,e⟩=>⟨y,hy,e.symm⟩⟩
section
variable {pr one other:List (List Nat)} {m n w h:Nat} (C:Cl pr m n) (C1:Cl one w h) (C2:Cl other w h)
def thN (pr one other:List (List Nat)) (m w:Nat):List Nat:=bw (num (cols pr m)) (unl (AuH one other w)).length (num (AuH one other w))
def trN (pr one other:List (List Nat)):List Nat:=bw (num pr) (unl (one.zip other)).length (num (one.zip other))
include C C1 C2
end
section
variable {α β:Type} [DecidableEq α] [DecidableEq β]
theorem AiK (f:α→β):∀ l:List α,(unl (l.map f)).length≤(unl l).length:=by
  refine snoc_ind (Nat.le_refl _) fun l x ih=>?_
  rw [List.map_append,List.map_cons,List.map_nil,J3,J3]
  by_cases c:x∈unl l
  · have:f x∈unl (l.map f):=(O6 _ _).mpr (List.mem_map.mpr ⟨x,(O6 x l).mp c,rfl⟩)
    rw [if_pos c,if_pos this]
    exact ih
  · rw [if_neg c]
    split
    · rw [List.length_append]; omega
    · rw [List.length_append,List.length_append]; simp; exact ih
theorem Asf {l:List α} {i:Nat} {x:α} (h:l[i]?=some x):(ix (unl l) x < (unl (l.take i)).length∧(unl (l.take (i+1))).length=(unl (l.take i)).length)∨(ix (unl l) x=(unl (l.take i)).length∧(unl (l.take (i+1))).length=(unl (l.take i)).length+1):=by
  have hi:i < l.length:=(List.getElem?_eq_some_iff.mp h).1
  have e1:l.take (i+1)=l.take i++[x]:=by rw [List.take_add_one,h]; rfl
  have e2:l=l.take (i+1)++l.drop (i+1):=(List.take_append_drop _ _).symm
  have e3:ix (unl l) x=ix (unl (l.take (i+1))) x:=by
    have:ix (unl (l.take (i+1)++l.drop (i+1))) x=ix (unl (l.take (i+1))) x:=Aue (by rw [e1]; simp)
    rw [← e2] at this
    exact this
  rw [e3,e1,J3]
  by_cases c:x∈unl (l.take i)
  · rw [if_pos c]
    exact .inl ⟨AiJ c,rfl⟩
  · rw [if_neg c,List.length_append]
    refine .inr ⟨?_,rfl⟩
    have hm:x∈unl (l.take i)++[x]:=by simp
    have h1:=AiJ hm
    have h2:=ApV hm
    rw [List.length_append,List.length_singleton] at h1
    by_cases q:ix (unl (l.take i)++[x]) x < (unl (l.take i)).length
    · rw [List.getElem?_append_left q] at h2
      exact absurd (List.mem_of_getElem? h2) c
    · omega
theorem Aeb {l:List α} {i j:Nat} (h:(num l)[i]?=some j):l[i]?=(unl l)[j]?∧j < (unl l).length:=by
  have hi:i < l.length:=by have:=(List.getElem?_eq_some_iff.mp h).1; rwa [Ij] at this
  have hx:=List.getElem?_eq_getElem hi
  have:=Asc hx
  rw [h] at this
  have e:=Option.some.inj this
  have hm:l[i]∈unl l:=(O6 _ _).mpr (List.getElem_mem hi)
  rw [hx,e]
  exact ⟨(ApV hm).symm,AiJ hm⟩
end
theorem AwZ {th:List Int} {tss:List (List Int)} {tr:List Int} (F:Ft th tss tr):Cl (wv th tss tr) th.length tr.length:=by
  refine ⟨Apd _ _ _,fun t ht=>?_,fun t ht c hc=>?_,F.m1,F.m40,F.n1,F.n40⟩
  · unfold wv at ht
    obtain ⟨v,_,rfl⟩:=List.mem_map.mp ht
    exact ApT _ _
  · unfold wv at ht
    obtain ⟨v,_,rfl⟩:=List.mem_map.mp ht
    unfold shd at hc
    obtain ⟨s,_,rfl⟩:=List.mem_map.mp hc
    split
    · exact .inl rfl
    · exact .inr rfl
theorem An8 (th:List Int) (tss:List (List Int)) (tr:List Int):(unl (wv th tss tr)).length≤(unl tr).length:=AiK _ tr
theorem Auh (th:List Int) (tss:List (List Int)) (tr:List Int):cols (wv th tss tr) th.length=th.map fun s=>tr.map fun v=>if s∈tss.getD v.toNat [] then 35 else 46:=by
  refine List.ext_getElem? fun e=>?_
  rw [List.getElem?_map]
  by_cases he:e < th.length
  · rw [AlV he,List.getElem?_eq_getElem he]
    show some _=some _
    congr 1
    unfold col wv
    rw [List.map_map]
    refine List.map_congr_left fun v _=>?_
    show (shd th (tss.getD v.toNat [])).getD e 0=_
    unfold shd
    rw [List.getD_eq_getElem?_getD,List.getElem?_map,List.getElem?_eq_getElem he]
    rfl
  · rw [List.getElem?_eq_none (by rw [Xo]; omega),List.getElem?_eq_none (by omega)]
    rfl
theorem Apf (th:List Int) (tss:List (List Int)) (tr:List Int):(unl (cols (wv th tss tr) th.length)).length≤(unl th).length:=by
  rw [Auh]
  exact AiK _ th
theorem An9 {cl:List (List Nat)} {m n:Nat} (C:Cl cl m n) {tss:List (List Int)} (hl:tss.length=(unl cl).length)
    (ht:∀ (j:Nat) (u:List Nat) (ks:List Int),(unl cl)[j]?=some u→tss[j]?=some ks→∀ z:Int,z∈ks↔∃ e:Nat,(nts (num (cols cl m)))[e]?=some z∧u[e]?=some 35) :
    wv (nts (num (cols cl m))) tss (nts (num cl))=cl:=by
  unfold wv
  refine List.ext_getElem? fun p=>?_
  rw [List.getElem?_map]
  by_cases hp:p < cl.length
  case neg =>
    rw [List.getElem?_eq_none (by rw [O7,Ij]; omega),List.getElem?_eq_none (by omega)]
    rfl
  have lp:p < (num cl).length:=by rw [Ij]; exact hp
  have hv:=List.getElem?_eq_getElem lp
  generalize (num cl)[p]=v at hv
  obtain ⟨hu,vb'⟩:=Aeb hv
  have vb:v < tss.length:=by rw [hl]; exact vb'
  have hcl:=List.getElem?_eq_getElem hp
  generalize cl[p]=u at hcl
  rw [AlW hv]
  have e1:tss.getD (v:Int).toNat []=tss[v]:=by
    rw [Int.toNat_natCast,List.getD_eq_getElem?_getD,List.getElem?_eq_getElem vb]
    rfl
  show some (shd _ (tss.getD (v:Int).toNat []))=_
  rw [e1,hcl]
  rw [hcl] at hu
  have hz:=ht v u _ hu.symm (List.getElem?_eq_getElem vb)
  have mu:=List.mem_of_getElem? hcl
  have lu:=C.hm u mu
  congr 1
  unfold shd
  refine List.ext_getElem? fun e=>?_
  rw [List.getElem?_map]
  by_cases he:e < m
  case neg =>
    rw [List.getElem?_eq_none (by rw [O7,Ij,Xo]; omega),List.getElem?_eq_none (by omega)]
    rfl
  have le:e < (num (cols cl m)).length:=by rw [Ij,Xo]; exact he
  have hs:=List.getElem?_eq_getElem le
  generalize (num (cols cl m))[e]=x at hs
  rw [AlW hs]
  have hc:=List.getElem?_eq_getElem (show e < u.length by omega)
  have sg:=C.sg u mu _ (List.getElem_mem (show e < u.length by omega))
  rw [hc]
  show some (if ((x:Nat):Int)∈tss[v] then 35 else 46)=some u[e]
  congr 1
  by_cases q:u[e]=35
  · rw [if_pos,q]
    exact (hz _).mpr ⟨e,AlW hs,by rw [hc,q]⟩
  · have q2:u[e]=46:=by
      rcases sg with z | z
      · exact absurd z q
      · exact z
    rw [if_neg,q2]
    intro h
    obtain ⟨e',h1,h2⟩:=(hz _).mp h
    obtain ⟨y,hy,ey⟩:=Ape h1
    have yx:y=x:=by omega
    rw [yx] at hy
    have le':e' < m:=by have:=(List.getElem?_eq_some_iff.mp hy).1; rwa [Ij,Xo] at this
    have k1:=(Aeb hs).1
    have k2:=(Aeb hy).1
    rw [AlV he] at k1
    rw [AlV le',← k1] at k2
    have k3:=Option.some.inj k2
    have c1:=Ase hcl e
    have c2:=Ase hcl e'
    rw [k3,c1] at c2
    have c3:=Option.some.inj c2
    rw [List.getD_eq_getElem?_getD,List.getD_eq_getElem?_getD,h2,hc] at c3
    exact q c3
end Mine
namespace L2
open PySem PySem.Spec PyProof.Rows
theorem AiL {acc:List (Str × Addr)}:∀ {names:List (Str × NameKind)} {n:Nat} {h:Heap},names.filter (fun y=>y.2 == .cell)=[]→cellsFrom n names acc=acc∧pushCells h names=h
  | [],_,_,_=>⟨rfl,rfl⟩
  | (a,k)::r,n,h,e=>by
    cases hk:k == NameKind.cell with
    | true=>simp [List.filter_cons,hk] at e
    | false =>
      have e':r.filter (fun y=>y.2 == .cell)=[]:=by simpa [List.filter_cons,hk] using e
      unfold cellsFrom pushCells
      rw [hk]
      exact AiL e'
theorem Alr {x:Str} {acc:List (Str × Addr)}:∀ {names:List (Str × NameKind)} {n:Nat} {h:Heap},names.filter (fun y=>y.2 == .cell)=[(x,.cell)] →
    cellsFrom n names acc=(x,n)::acc∧pushCells h names=h.push { cls:=.type "cell", data:=.cell none }
  | [],_,_,e=>by simp at e
  | (a,k)::r,n,h,e=>by
    cases hk:k == NameKind.cell with
    | true =>
      have e':(a,k)::r.filter (fun y=>y.2 == .cell)=[(x,.cell)]:=by simpa [List.filter_cons,hk] using e
      injection e' with e1 e2
      cases e1
      have:=AiL (acc:=(x,n)::acc) (n:=n+1) (h:=h.push { cls:=.type "cell", data:=.cell none }) e2
      unfold cellsFrom pushCells
      rw [if_pos hk,if_pos hk]
      exact this
    | false =>
      have e':r.filter (fun y=>y.2 == .cell)=[(x,.cell)]:=by simpa [List.filter_cons,hk] using e
      have:=Alr (acc:=acc) (n:=n) (h:=h) e'
      unfold cellsFrom pushCells
      rw [hk]
      exact this
abbrev ApW:Obj:={ cls:=.type "dict", data:=.dict #[] }
abbrev AuI:Obj:={ cls:=.type "cell", data:=.cell none }
theorem AnA {M:Model} {A:Around} {E:Value→Shared→Prop} {s:Shared} {x:Str} {scope:Scope} {globals:Addr} {cl:List (Str × Addr)} {qual:Str} {env:Env} {Q:Env→Shared→Prop}
    (hone:scope.names.filter (fun y=>y.2 == .cell)=[(x,.cell)])
    (hQ:Q { scope,locals:=s.heap.objs.size,globals,cells:=(x,s.heap.objs.size+1)::cl,qual,func:=none,code:=env.code,frame:=env.frame,builtins:=env.builtins } { s with heap:=(s.heap.push ApW).push AuI }) :
    wpAny M A (newFunctionEnv scope globals cl [] qual none .none (some env)) Q E s:=by
  simp only [newFunctionEnv,Option.isSome_some,if_true]
  refine wpAny_bind (wpAny_alloc ?_)
  refine wpAny_bind (wpAny_layCells _ (fun name kind cells=>by cases hkc:kind == NameKind.cell <;> simp [hkc]) _ _ _ _ ?_)
  have e1:=fun (n:Nat) (h:Heap)=>Alr (acc:=cl) (n:=n) (h:=h) hone
  rw [(e1 _ s.heap).1,(e1 0 _).2]
  rw [show ({ s with heap:=s.heap.push ApW }:Shared).heap.objs.size=s.heap.objs.size+1 from Heap.size_push ..]
  exact wpAny_bind (by rw [List.forIn_nil]; exact wpAny_pure (wpAny_pure hQ))
def TJ (X:Cx) (x:Str) (Nc:List Str) (scope:Scope) (cs:List (Str × Addr)) (C:Addr) (fp:List Addr) (s:Shared) (H:Hp):Cx where
  prog:=X.prog
  w:=X.w
  K:=X.K
  mg:=X.mg
  base:=X.base
  A:=X.A
  N:=Nc
  s₀:=s
  H₀:=H
  env:=compEnvC scope cs C X.env
  outer:=X.stack
  stack:=X.stack
  ex:=fp
  fn:=fun y=>y == x
  calm:=X.calm
  pn:=[]
  xe:=fun _ _=>False
structure Ys (X:Cx) (x:Str) (Nc:List Str) (Bl:List Nat) (scope:Scope):Prop where
  kind:scope.kind=.function
  one:scope.names.filter (fun y=>y.2 == .cell)=[(x,.cell)]
  names:∀ y∈scope.names,y.2=.local→scope.names.lookup y.1=some .local
  fr:∀ y∈scope.names,y.2=.free→X.env.scope.names.lookup y.1=some .cell∧scope.names.lookup y.1=some .free
  loc:scope.names.lookup x=some .cell
  len:Nc.length=Bl.length+1
  hd:Nc[0]?=some x
  nd:Nc.Nodup
  cap:∀ k j,Bl[k]?=some j→∃ y,Nc[k+1]?=some y∧X.N[j]?=some y∧scope.names.lookup y=some .free
theorem Ys.cell {X:Cx} {x:Str} {Nc:List Str} {Bl:List Nat} {scope:Scope} (O:Ys X x Nc Bl scope) {y:Str} (h:(y,NameKind.cell)∈scope.names):y=x:=by
  have:(y,NameKind.cell)∈scope.names.filter (fun y=>y.2 == .cell):=List.mem_filter.mpr ⟨h,rfl⟩
  rw [O.one] at this
  have:=List.mem_singleton.mp this
  injection this
section
variable {X:Cx} {pins:List (Addr × Obj)} {σ:St} {H:Hp} {s:Shared}
theorem Yt {x y:Str} {c0 c:Addr} {cl:List (Str × Addr)} (h:List.lookup y ((x,c0)::cl)=some c):(y=x∧c=c0)∨(y≠x∧cl.lookup y=some c):=by
  rw [List.lookup_cons] at h
  cases hb:y == x with
  | true=>rw [hb] at h; cases h; exact .inl ⟨beq_iff_eq.mp hb,rfl⟩
  | false=>rw [hb] at h; exact .inr ⟨by simpa using hb,h⟩
theorem Asg {x:Str} {c0:Addr} {cl:List (Str × Addr)}:List.lookup x ((x,c0)::cl)=some c0:=by simp [List.lookup_cons]
theorem AnB {x y:Str} {c0:Addr} {cl:List (Str × Addr)} (h:y≠x):List.lookup y ((x,c0)::cl)=cl.lookup y:=by
  have:(y == x)=false:=by simpa using h
  simp [List.lookup_cons,this]
theorem Ash {x:Str} {Nc:List Str} {Bl:List Nat} {scope:Scope} {cl:List (Str × Addr)} {C c0:Addr} {fp:List Addr} (I:Inv X pins σ H s) (O:Ys X x Nc Bl scope)
    (hcl:∀ x c,cl.lookup x=some c→X.env.cells.lookup x=some c∧(x,NameKind.free)∈scope.names) (Xk:∀ x,(x,NameKind.free)∈scope.names→cl.lookup x=X.env.cells.lookup x)
    (hC:s.heap.objs.size≤C) (hc0:s.heap.objs.size≤c0) (hfp:∀ b∈fp,Rj X pins H b) (hfo:∀ b∈fp,b < s.heap.objs.size):(TJ X x Nc scope ((x,c0)::cl) C fp s H).Ok where
  mod:=I.ok.mod
  kind:=O.kind
  glob:=I.ok.glob
  blt:=I.ok.blt
  above:=hC
  inj:=fun a b c e1 e2=>by
    have no:∀ {y},cl.lookup y=some c0→False:=fun {y} e=>by
      obtain ⟨v,q⟩:=I.cell y c0 (hcl y c0 e).1
      exact Nat.lt_irrefl _ (Nat.lt_of_lt_of_le q.lt hc0)
    rcases Yt e1 with ⟨a1,a2⟩ | ⟨a1,a2⟩ <;> rcases Yt e2 with ⟨b1,b2⟩ | ⟨b1,b2⟩
    · rw [a1,b1]
    · subst a2; exact (no b2).elim
    · subst b2; exact (no a2).elim
    · exact I.ok.inj a b c (hcl a c a2).1 (hcl b c b2).1
  has:=fun y hy=>by
    by_cases hyx:y=x
    · exact ⟨c0,by rw [hyx]; exact Asg⟩
    have mem:(y,NameKind.free)∈scope.names:=by
      have hy':((relabel scope X.env).names.lookup y=some .cell)∨((relabel scope X.env).names.lookup y=some .free):=hy
      have hm:∃ k,(y,k)∈(relabel scope X.env).names∧(k=.cell∨k=.free):=by
        rcases hy' with h | h
        · exact ⟨_,PySem.mem_of_lookup h,.inl rfl⟩
        · exact ⟨_,PySem.mem_of_lookup h,.inr rfl⟩
      obtain ⟨k,hm,hk⟩:=hm
      obtain ⟨⟨n,k'⟩,hm',e⟩:=List.mem_map.mp hm
      dsimp only at e
      by_cases hc:(k' == NameKind.free && X.env.scope.kind == .function && X.env.kindOf n == some .cell)=true
      · rw [if_pos hc] at e
        injection e with e1 _
        subst e1
        have:k'=.free:=by
          have:=(Bool.and_eq_true _ _ ▸ (Bool.and_eq_true _ _ ▸ hc).1).1
          simpa using this
        subst this
        exact hm'
      · rw [if_neg hc] at e
        injection e with e1 e2
        subst e1 e2
        rcases hk with hk | hk
        · subst hk; exact absurd (O.cell hm') hyx
        · subst hk; exact hm'
    obtain ⟨c,e⟩:=I.ok.has y (.inl (O.fr _ mem rfl).1)
    exact ⟨c,(AnB hyx).trans ((Xk y mem).trans e)⟩
  cab:=fun y c z e=>by
    have:y=x:=beq_iff_eq.mp z
    rcases Yt e with ⟨_,a2⟩ | ⟨a1,_⟩
    · rw [a2]; exact hc0
    · exact absurd this a1
  hd:=I.ok.hd
  frames:=I.ok.frames
  stk:=.inl rfl
  exf:=fun b hb=>⟨Nat.ne_of_lt (Nat.lt_of_lt_of_le (hfo b hb) hC),fun y c e=>by
    rcases Yt e with ⟨_,a2⟩ | ⟨_,a2⟩
    · rw [a2]; exact Nat.ne_of_gt (Nat.lt_of_lt_of_le (hfo b hb) hc0)
    · exact (hfp b hb).2.2.2.2.1 y c (hcl y c a2).1⟩
  bs:=I.bs
  bsz:=Nat.le_trans I.ok.bsz I.sz
  Ak1:=fun b o e hb=>by
    rcases (hfp b hb).2.2.2.1 with z | z
    · exact I.ok.Ak1 b o e z
    · exact absurd (Nat.lt_of_lt_of_le (Heap.lt_size e) (Nat.le_trans I.ok.bsz z)) (Nat.lt_irrefl _)
  Ak2:=fun b hb z=>by
    rcases List.mem_cons.mp (I.Aio b z) with e | e
    · exact (hfp b hb).2.1 e
    · exact (hfp b hb).2.2.1 e
  Adh:=I.stack
  frf:=I.Aia
theorem AnC {x:Str} {Nc:List Str} {Bl:List Nat} {scope:Scope} {cl:List (Str × Addr)} {C c0:Addr} {fp:List Addr} {h':Heap} {tk:Nat} {m0:Str→Option Value} (I:Inv X pins σ H s) (O:Ys X x Nc Bl scope)
    (hcl:∀ x c,cl.lookup x=some c→X.env.cells.lookup x=some c∧(x,NameKind.free)∈scope.names) (Xk:∀ x,(x,NameKind.free)∈scope.names→cl.lookup x=X.env.cells.lookup x)
    (hC:s.heap.objs.size≤C) (hc0:s.heap.objs.size≤c0) (hfp:∀ b∈fp,Rj X pins H b) (hfo:∀ b∈fp,b < s.heap.objs.size)
    (old:∀ b o,s.heap.get? b=some o→h'.get? b=some o) (hns:h'.Ns C m0) (hce:h'.IsCell c0 none) :
    Inv (TJ X x Nc scope ((x,c0)::cl) C fp s H) [] (none::J2 σ Bl) H { s with heap:=h',toks:=tk } where
  ok:=Ash I O hcl Xk hC hc0 hfp hfo
  os:=rfl
  bare:=I.bare
  base:=Un.kept old
  loc:=by
    refine ⟨m0,hns,fun i y v hN hσ hv=>?_⟩
    cases i with
    | zero=>simp at hσ
    | succ k =>
      rw [List.getElem?_cons_succ] at hσ
      obtain ⟨j,hj,hs⟩:=Ai0 hσ
      obtain ⟨z,hz1,hz2,hz3⟩:=O.cap k j hj
      have hN':Nc[k+1]?=some y:=hN
      rw [hz1] at hN'
      cases hN'
      have mem:(y,NameKind.free)∈scope.names:=PySem.mem_of_lookup hz3
      have hyx:y≠x:=fun e=>by rw [e,O.loc] at hz3; cases hz3
      have hk:=(O.fr _ mem rfl).1
      obtain ⟨m,hn,hl⟩:=I.loc
      obtain ⟨u,r,l⟩:=hl j y v hz2 hs (.inr (.inl hk))
      refine ⟨u,r,?_⟩
      rcases l with ⟨k',_⟩ | ⟨_,c,hc,z⟩
      · have k'':X.env.scope.names.lookup y=some .local:=k'
        rw [hk] at k''; cases k''
      · obtain ⟨o,ho,hd⟩:=z
        exact .inr ⟨.inl (HB I.ok.kind hz3 hk),c,(AnB hyx).trans ((Xk y mem).trans hc),o,old _ _ ho,hd⟩
  cell:=fun y c e=>by
    rcases Yt e with ⟨_,a2⟩ | ⟨_,a2⟩
    · rw [a2]; exact ⟨none,hce⟩
    · obtain ⟨v,o,ho,hd⟩:=I.cell y c (hcl y c a2).1
      exact ⟨v,o,old _ _ ho,hd⟩
  free:=I.hok.fresh hC
  Ra:=fun y c e=>by
    rcases Yt e with ⟨_,a2⟩ | ⟨_,a2⟩
    · rw [a2]; exact I.hok.fresh hc0
    · exact I.Ra y c (hcl y c a2).1
  pin:=fun p hp=>absurd (show p∈([]:List (Addr × Obj)) from hp) (by simp)
  hok:=I.hok.kept old
  len:=by
    show (none::J2 σ Bl).length=Nc.length
    rw [List.length_cons,Aiz,O.len]
theorem AnD {x:Str} {px:Pos} {Nc:List Str} {Bl:List Nat} {scope:Scope} {cl:List (Str × Addr)} {iter elt:Expr} {ifs:List Expr} {pos:Pos} {tc:TT} {te:TE} {Q:VK} {it:Addr} {fp:List Addr} {tn:Nat→Heap→Prop} {J:It}
    {RR:Value→Addr→Result→Shared→Prop} {E:Value→Shared→Prop}
    (O:Ys X x Nc Bl scope) (hc:X.calm=true)
    (hcl:∀ x c,cl.lookup x=some c→X.env.cells.lookup x=some c∧(x,NameKind.free)∈scope.names) (Xk:∀ x,(x,NameKind.free)∈scope.names→cl.lookup x=X.env.cells.lookup x)
    (hte:∀ cs C fp s H,PE (TJ X x Nc scope cs C fp s H) elt te) (htc:∀ cs C fp s H,PIf (TJ X x Nc scope cs C fp s H) ifs tc)
    (I:Inv X pins σ H s) (T:Turn X.prog X.w X.K (.Name x px) J fp it tn) (st:tn 0 s.heap) (hfp:∀ b∈fp,Rj X pins H b) (h:Aiy Bl tc te J σ H Q)
    (hRR:∀ (D C:Addr) (s':Shared) (m:Str→Option Value),s'.heap.Ns C m→(∀ h',Heap.SameBut C s'.heap h'→∃ H',Inv X pins σ H' { s' with heap:=h' }∧H' C=none∧Q (.ref D) H') →
      s.heap.objs.size≤C→RR (.ref D) C (.ok .next) s') :
    wpAny (model X.prog X.w) X.A (newList []) (fun acc s₃=>wpAny (model X.prog X.w) X.A (newFunctionEnv scope X.env.globals cl [] X.env.qual none .none (some X.env)) (fun cenv s₄ =>
      codeAny (model X.prog X.w) X.A (.compStart (.ListComp elt [⟨.Name x px,iter,ifs,0⟩] scope pos) 0 (.ref it) acc { cenv with scope:=relabel scope X.env }) (RR acc cenv.locals) s₄) E s₃) E s:=by
  refine wpAny_newObj_type (AnA O.one ?_)
  dsimp only
  generalize hH2:s.heap.push { cls:=.type "list", dict:=none,data:=.seq ([]:List Value).toArray }=H2 at ⊢
  have hC:H2.objs.size=s.heap.objs.size+1:=by rw [← hH2,Heap.size_push]
  have hCle:s.heap.objs.size≤H2.objs.size:=by rw [hC]; exact Nat.le_succ _
  have hc0:s.heap.objs.size≤H2.objs.size+1:=Nat.le_succ_of_le hCle
  have hDC:s.heap.objs.size≠H2.objs.size:=by rw [hC]; exact Nat.ne_of_lt (Nat.lt_succ_self _)
  generalize hh1:(H2.push ApW).push AuI=h₁ at ⊢
  have old:∀ b o,s.heap.get? b=some o→h₁.get? b=some o:=fun b o e=>by rw [← hh1]; exact Heap.get?_push_of_some _ (Heap.get?_push_of_some _ (hH2 ▸ Heap.get?_push_of_some _ e))
  have hacc:h₁.get? s.heap.objs.size=some (N6 [] 0):=by rw [← hh1]; exact Heap.get?_push_of_some _ (Heap.get?_push_of_some _ (hH2 ▸ Heap.get?_push_size _ rfl))
  have hns₁:h₁.Ns H2.objs.size (fun _=>none):=by rw [← hh1]; exact (Heap.Ns.new H2 (.type "dict")).keeps fun b o e=>Heap.get?_push_of_some _ e
  have hce:h₁.IsCell (H2.objs.size+1) none:=by
    rw [← hh1,show H2.objs.size+1=(H2.push ApW).objs.size from (Heap.size_push ..).symm]
    exact ⟨_,Heap.get?_push_size _ rfl,rfl⟩
  have hfo:∀ b∈fp,b < s.heap.objs.size:=fun b hb=>by
    obtain ⟨o,e,_⟩:=T.obj _ _ st b hb
    exact Heap.lt_size e
  have st1:tn 0 h₁:=T.keep _ _ _ st fun b _ o e=>old b o e
  generalize hDD:s.heap.objs.size=D at *
  generalize hCC:H2.objs.size=C at *
  have AqA:D≤C:=hCle
  let Y:Cx:=TJ X x Nc scope ((x,C+1)::cl) C fp s H
  have I0:Inv Y [] (none::J2 σ Bl) H { s with heap:=h₁ }:=AnC (tk:=s.toks) I O hcl Xk (by rw [hDD]; exact hCle) (by rw [hDD]; exact hc0) hfp (fun b hb=>by rw [hDD]; exact hfo b hb) old hns₁ hce
  have Anr:H D=none:=by rw [← hDD]; exact I.hok.fresh (Nat.le_refl _)
  have AdW:D≠C:=hDC
  have Dfs:D∉Y.fs:=fun z=>by
    have:=I.stack.mem (show D∈frs X.stack from z)
    obtain ⟨_,o,e,_⟩:=this
    have:=Heap.lt_size e
    rw [hDD] at this
    exact Nat.lt_irrefl _ this
  have Ans:∀ y c,Y.env.cells.lookup y=some c→c≠D:=fun y c e z=>by
    rcases Yt e with ⟨_,a2⟩ | ⟨_,a2⟩
    · exact absurd (z.symm.trans a2) (Nat.ne_of_lt (Nat.lt_succ_of_le AqA))
    obtain ⟨v,q⟩:=I.cell y c (hcl y c a2).1
    have:=q.lt
    rw [z,hDD] at this
    exact Nat.lt_irrefl _ this
  have Dfp:∀ b∈fp,b≠D:=fun b hb=>Nat.ne_of_lt (hfo b hb)
  have fpY:∀ {H':Hp},(∀ b∈fp,H' b=none)→∀ b∈fp,Rj Y [] H' b:=fun hn b hb =>
    ⟨hn b hb,Nat.ne_of_lt (Nat.lt_of_lt_of_le (hfo b hb) AqA),fun z=>I0.ok.Ak2 b hb z,.inl hb,fun y c e=>(I0.ok.exf b hb).2 y c e,fun p hp=>absurd (show p∈([]:List (Addr × Obj)) from hp) (by simp)⟩
  obtain ⟨W,⟨m0,w0⟩,turn⟩:=h
  have loop:∀ s₃:Shared,s₃={ s with heap:=h₁ } →
      codeAny (model X.prog X.w) X.A (.compLoop (.ListComp elt [⟨.Name x px,iter,ifs,0⟩] scope pos) 0 (.ref it) (.ref D) (compEnvC scope ((x,C+1)::cl) C X.env)) (RR (.ref D) C) s₃:=by
    rintro s₃ rfl
    refine Yp (fun n s'=>∃ (i:Nat) (o:Option V) (H':Hp) (ys:List V) (us:List Value) (k:Nat),Inv Y [] (o::J2 σ Bl) H' s'∧tn i s'.heap∧(∀ b∈fp,H' b=none)∧s'.heap.get? D=some (N6 us k)∧H' D=none∧Vals ys us∧W i n ys H')
      ?_ m0 ⟨0,none,H,[],[],0,I0,st1,fun b hb=>(hfp b hb).1,hacc,Anr,.nil,w0⟩
    rintro n s3 ⟨i,o3,H3,ys,us,k,I3,st3,fr3,hD3,nD3,rv,w3⟩
    have fpP:∀ {H':Hp} {ob:Obj},(∀ b∈fp,H' b=none)→∀ b∈fp,Rj Y [(D,ob)] H' b:=fun hn b hb=>by
      obtain ⟨g0,g1,g2,g3,g4,_⟩:=fpY hn b hb
      refine ⟨g0,g1,g2,g3,g4,fun p hp=>?_⟩
      have e:p=(D,_):=List.mem_singleton.mp (show p∈[(D,_)] from hp)
      rw [e]
      exact Ne.symm (Dfp b hb)
    have IP:Inv Y [(D,N6 us k)] (o3::J2 σ Bl) H3 s3:=I3.Ma fun p hp=>by
      have e:p=(D,N6 us k):=List.mem_singleton.mp hp
      subst e
      exact ⟨hD3,nD3,AdW,Dfs,fun v z=>by cases z⟩
    have Ai2:∀ {σ':St} {H':Hp} {s':Shared} {pl:List (Addr × Obj)},Inv Y ([(D,N6 us k)]++pl) σ' H' s'→s'.heap.get? D=some (N6 us k)∧H' D=none:=fun I'=>by
      have z:=I'.pin (D,N6 us k) (List.mem_append_right _ (List.mem_append_left _ List.mem_cons_self))
      exact ⟨z.1,z.2.1⟩
    rcases turn i n ys H3 w3 with ⟨stop,hlen,fin⟩ | ⟨go,hlen,step⟩
    ·
      refine wpAny_mono (T.done Y rfl rfl rfl hc i _ s3 _ H3 (fun _ _=>False) IP (fpP fr3) st3 stop) (fun r s4 hr=>?_) fun _ _ z=>z.elim
      obtain ⟨hr,I4⟩:=hr
      subst hr
      obtain ⟨gD,nD⟩:=Ai2 (pl:=[]) (by simpa using I4)
      obtain ⟨m,hn,_⟩:=I4.loc
      refine hRR D C s4 m hn (fun h' hs'=>⟨upd H3 D (.lst ys),?_,(Be (Ne.symm AdW)).trans I4.free,fin D nD⟩) hCle
      have nt:∀ b ob,H3 b=some ob→b≠C:=fun b ob e z=>by
        have:=I4.free
        rw [z] at e
        rw [show H3 C=none from this] at e
        cases e
      have u1:Un (frs X.stack) fp H H3 s.heap h':=Un.but I4.base hs' (show s.heap.objs.size≤C by rw [hDD]; exact hCle)
      have ok1:HOk X.prog X.w H3 h':=fun b ob e=>(I4.hok b ob e).stay (fun c v hc q=>(hs'.2 c (by
        rcases hc with z | z
        · rw [z]; exact nt b ob e
        · exact nt c _ z)).trans q) (fun _ q=>q) fun _ _ q=>q
      have gD':h'.get? D=some (N6 us k):=(hs'.2 D AdW).trans gD
      exact I.call' (s':={ s4 with heap:=h' }) (ch:=fp) I4.os (u1.track (Nat.le_of_eq hDD) nD) (ok1.track nD ⟨hlen,us,k,rv,gD'⟩) I4.bare fun b hb=>by
        obtain ⟨_,g1,_,g3,g4,g5⟩:=hfp b hb
        exact ⟨g3,g1,g4,g5⟩
    ·
      refine wpAny_mono (T.item Y rfl rfl rfl hc i _ s3 _ H3 (fun _ _=>False) IP (fpP fr3) st3 go) (fun r s4 hr=>?_) fun _ _ z=>z.elim
      obtain ⟨u0,hr,h4⟩:=hr
      subst hr
      refine wpAny_mono h4 (fun _ s5 h5=>?_) fun _ _ z=>z.elim
      obtain ⟨x5,H5,I5,r5,y5,st5,fr5⟩:=h5
      have I5':=I5.pinned (fpP fr5) (T.obj _ _ st5)
      have tgt:PG Y (.Name x px) (Aah 0):=Cg (i:=0) O.nd O.hd (.inr (Fq I.ok.kind O.loc (by intro z; cases z))) (.inl (beq_self_eq_true x))
      refine wpAny_mono (tgt _ s5 _ H5 x5 u0 (fun σ2 H2=>σ2=some x5::J2 σ Bl∧H2=H5) I5' r5 ⟨rfl,rfl⟩) (fun _ s6 h6=>?_) fun _ _ z=>z.elim
      obtain ⟨_,_,I6,rfl,rfl⟩:=h6
      refine wpAny_mono ((htc _ C fp s H).run I6 (step x5 _ y5)) (fun b s7 h7=>?_) fun _ _ z=>z.elim
      obtain ⟨H7,I7,q7⟩:=h7
      have Ahk:∀ {σ':St} {H':Hp} {s':Shared},Inv Y ([(D,N6 us k)]++Adi fp s5.heap) σ' H' s'→tn (i+1) s'.heap∧∀ b∈fp,H' b=none:=fun I' =>
        ⟨T.keep _ _ _ st5 fun b hb o e=>(I'.pin (b,o) (List.mem_append_right _ (List.mem_append_right _ (J1 hb e)))).1,fun b hb=>by
          obtain ⟨o,e,d⟩:=T.obj _ _ st5 b hb
          exact (I'.pin (b,o) (List.mem_append_right _ (List.mem_append_right _ (J1 hb e)))).2.1⟩
      cases b with
      | false =>
        rw [if_neg Bool.false_ne_true] at q7
        rw [if_neg Bool.false_ne_true]
        obtain ⟨m',hm,w7⟩:=q7
        obtain ⟨gD,nD⟩:=Ai2 I7
        obtain ⟨k1,k2⟩:=Ahk I7
        exact ⟨m',hm,i+1,some x5,H7,ys,us,k,I7.Ma (fun p hp=>nomatch hp),k1,k2,gD,nD,rv,w7⟩
      | true =>
        rw [if_pos rfl] at q7
        rw [if_pos rfl]
        refine wpAny_mono (hte _ C fp s H _ s7 _ H7 _ I7 q7) (fun u8 s8 h8=>?_) fun _ _ z=>z.elim
        obtain ⟨y8,H8,I8,r8,m',hm,w8⟩:=h8
        obtain ⟨gD,nD⟩:=Ai2 I8
        obtain ⟨k1,k2⟩:=Ahk I8
        refine call_meets F.slot_list_append ⟨_,gD,rfl⟩ F.entry_list_append (F.args_list_append_2 _ _) (PySem.list_append D us.toArray k u8 (by rw [List.size_toArray,← rv.length]; omega)) ⟨gD,?_⟩
        have q:=PySem.IsL.update gD (·.push u8)
        have e1:us.toArray.push u8=(us++[u8]).toArray:=by simp
        rw [e1] at q
        have I8':Inv Y [] (some x5::J2 σ Bl) H8 s8:=I8.Ma (fun p hp=>nomatch hp)
        have I9:Inv Y [] (some x5::J2 σ Bl) H8 { s8 with heap:=s8.heap.update D (Obj.mapSeq (·.push u8)),toks:=s8.toks } :=
          I8'.turned (it:=D) (fun b o hb e=>(Heap.get?_update_other s8.heap (Obj.mapSeq (·.push u8)) (Ne.symm hb)).trans e) nD AdW (.inr (Nat.le_of_eq hDD)) Ans (fun p hp=>nomatch hp)
        refine ⟨m',hm,i+1,some x5,H8,ys++[y8],us++[u8],_,I9,T.keep _ _ _ k1 fun b hb o e=>(Heap.get?_update_other s8.heap (Obj.mapSeq (·.push u8)) (Ne.symm (Dfp b hb))).trans e,k2,q,nD,rv.append (.cons r8 .nil),w8⟩
  exact codeAny_compStart_list (loop _ rfl) (T.self X.A 0 _ _ _ st1 (loop _ rfl))
theorem Asi {i:Nat} {y x:Str} {px py pos spos:Pos} {Nc:List Str} {Bl:List Nat} {scope:Scope} {iter elt:Expr} {ifs:List Expr} {wi:TI} {tc:TT} {te:TE} (O:Ys X x Nc Bl scope) (hc:X.calm=true)
    (hN:X.N.Nodup) (hy:X.N[i]?=some y) (hx:X.env.scope.names.lookup y=some .local) (hi:PI X (.Name x px) iter wi)
    (htc:∀ cl C fp s H,PIf (TJ X x Nc scope cl C fp s H) ifs tc) (hte:∀ cl C fp s H,PE (TJ X x Nc scope cl C fp s H) elt te)
    (hsw:swapsWith (.ListComp elt [⟨.Name x px,iter,ifs,0⟩] scope pos) (some (.Name y py)) spos.line X.env=pure true) (hs:∀ x,foldedSetIterable iter X.env x=pure x:=by intro _; rfl) :
    PS X (.Assign [.Name y py] (.ListComp elt [⟨.Name x px,iter,ifs,0⟩] scope pos) spos) (At3 (ArC wi Bl tc te) (Aah i)):=by
  intro pins s σ H Dn I h
  rw [exec_Assign_Name_used _ _ _ _ hsw]
  refine wpAny_bind (wpAny_standAt (wpAny_bind ?_))
  obtain ⟨cl,e1,e2,e3⟩:=Yo (scope:=scope) (env:=X.env) fun y hy hf=>I.ok.has y.1 (.inl (O.fr y hy hf).1)
  show wpAny _ X.A (do let _ ← comprehension (.ListComp elt [⟨.Name x px,iter,ifs,0⟩] scope pos) scope X.env _ (newList []) false (eval iter X.env) (some (assign (.Name y py) X.env))) _ _ s
  refine wpAny_bind (wpAny_mono (wpAny_comprehension_free (use:=some (assign (.Name y py) X.env)) (Q:=fun _ s'=>SP X pins Dn .next s') rfl hs e1 O.kind O.names
    (thn (hi pins s σ H _ I h) fun v s1 h1=>thn h1 fun itv s2 h2=>?_)) (fun _ s' hq=>wpAny_pure (wpAny_pure hq)) fun _ _ e=>e)
  obtain ⟨it,fp,tn,J,H2,e,I2,T,st2,f2,w2⟩:=h2
  subst e
  refine AnD (RR:=fun acc C=>compPost (model X.prog X.w) X.A X.xe (some (assign (.Name y py) X.env)) (fun _ s'=>SP X pins Dn .next s') acc C) O hc e2 e3 hte htc I2 T st2 f2 w2 ?_
  intro D C s' m hn hq hC
  show wpAny _ X.A (assign (.Name y py) X.env (.ref D)) _ _ _
  obtain ⟨H',I',nC,q⟩:=hq s'.heap (.refl ..)
  have I'':Inv X pins σ H' s':=I'
  have CL:C≠X.env.locals:=Nat.ne_of_gt (Nat.lt_of_lt_of_le I2.lt hC)
  have Ant:∀ y c,X.env.cells.lookup y=some c→c≠C:=fun y c e z=>by
    obtain ⟨v,q⟩:=I2.cell y c e
    have:=Nat.lt_of_lt_of_le q.lt hC
    rw [z] at this
    exact Nat.lt_irrefl _ this
  refine wpAny_assign_Name (AfZ I'' hN hy (.inl hx) (show RelV (.ref D) (.ref D) from rfl) (fun s3 I3 hsb=>?_) (.inr hx))
  obtain ⟨a,hsb,ha⟩:=hsb
  have aC:C≠a:=by
    rcases ha with z | z
    · rw [z]; exact CL
    · exact Ne.symm (Ant _ _ z)
  refine ⟨m,hn.sameBut hsb aC,fun h4 hs4=>?_⟩
  refine ⟨_,H',I3.turned (it:=C) (t':=s3.toks) (fun b o hb e=>(hs4.2 b hb).trans e) nC CL (.inr (Nat.le_trans I2.sz hC)) Ant (fun p hp z=>?_),q⟩
  · have:=Nat.lt_of_lt_of_le (Heap.lt_size (I2.pin p hp).1) hC
    rw [z] at this
    exact Nat.lt_irrefl _ this
def Ayh (scope sc:Scope):Scope:={ scope with names:=scope.names.map fun (n,k)=>if (k == .free && sc.kind == .function && sc.names.lookup n == some .cell) then (n,.cell) else (n,k) }
theorem Asj {X:Cx} {sc0 sc1 scope:Scope} {x:Str} {Nc:List Str} {cs:List (Str × Addr)} {C:Addr} {fp:List Addr} {s:Shared} {H:Hp} (h:X.env.scope=sc0) (hd:∀ y∈scope.names,y.2=.free→(Ayh sc1 sc0).names.lookup y.1=some .cell∧scope.names.lookup y.1=some .free) :
    ∀ y∈scope.names,y.2=.free→(TJ X x Nc sc1 cs C fp s H).env.scope.names.lookup y.1=some .cell∧scope.names.lookup y.1=some .free:=by
  subst h
  exact hd
end
open PySem PySem.Spec PyProof.Rows
inductive Aco (K:PySem.W.Frag) (H:Hp):V→V→Bool→Prop
  | tup {a b:Addr} {xs ys:List V}:SqT K H a xs→SqT K H b ys→xs.all GQ=true→ys.all GQ=true→Aco K H (.ref a) (.ref b) (eqL xs ys)
  | lst {a b:Addr} {xs ys:List V}:SqL K H a xs→SqL K H b ys→xs.all GQ=true→ys.all GQ=true→Aco K H (.ref a) (.ref b) (eqL xs ys)
  | flat {x y:V}:GQ x=true→GQ y=true→Aco K H x y (eqV x y)
section
variable {X:Cx} {K:PySem.W.Frag} {pins:List (Addr × Obj)} {σ:St} {H:Hp} {s:Shared}
theorem AnE {x:V} {a:Addr} (h:GQ x=true) (r:RelV x (.ref a)):False:=by
  cases x with
  | non=>cases r
  | bl b=>cases r
  | int i=>obtain ⟨t,e⟩:=r; cases e
  | str z=>obtain ⟨t,e⟩:=r; cases e
  | ref a=>cases h
  | byt b=>cases h
  | flt b=>cases h
  | ty n=>cases h
theorem Aco.uniq (I:Inv X pins σ H s) {x y:V} {b c:Bool} (h:Aco X.K H x y b) (h':Aco X.K H x y c):b=c:=by
  cases h with
  | tup h1 h2 f1 f2 =>
    cases h' with
    | tup g1 g2 _ _=>rw [I.Aga h1 g1,I.Aga h2 g2]
    | lst g1 g2 _ _ =>
      obtain ⟨_,_,⟨o,e,c,_⟩,_⟩:=I.tuple h1
      obtain ⟨_,_,⟨o',_,e',c',_⟩,_⟩:=I.list g1
      rw [e] at e'
      cases e'
      rw [c] at c'
      exact absurd c' (by decide)
    | flat g1 _=>cases g1
  | lst h1 h2 f1 f2 =>
    cases h' with
    | lst g1 g2 _ _=>rw [I.RP h1 g1,I.RP h2 g2]
    | tup g1 g2 _ _ =>
      obtain ⟨_,_,⟨o,e,c,_⟩,_⟩:=I.tuple g1
      obtain ⟨_,_,⟨o',_,e',c',_⟩,_⟩:=I.list h1
      rw [e] at e'
      cases e'
      rw [c] at c'
      exact absurd c' (by decide)
    | flat g1 _=>cases g1
  | flat f1 f2 =>
    cases h' with
    | tup _ _ _ _=>cases f1
    | lst _ _ _ _=>cases f1
    | flat _ _=>rfl
theorem AnF {A:Around} {xs ys:List V} {its its2:List Value} (r:Vals xs its) (r2:Vals ys its2) (fx:xs.all GQ=true) (fy:ys.all GQ=true) (j:Nat) (h1:j < its.toArray.size) (h2:j < its2.toArray.size) :
    SeqAt.EqAt A s its.toArray[j] its2.toArray[j] (eqV (xs.getD j .non) (ys.getD j .non)):=by
  have l1:=r.length
  have l2:=r2.length
  have j1:j < xs.length:=by simp only [List.size_toArray] at h1; omega
  have j2:j < ys.length:=by simp only [List.size_toArray] at h2; omega
  obtain ⟨w1,e1,q1⟩:=r.get (i:=j) (x:=xs[j]) (by simp [j1])
  obtain ⟨w2,e2,q2⟩:=r2.get (i:=j) (x:=ys[j]) (by simp [j2])
  have g1:its.toArray[j]=w1:=by
    have:its.toArray[j]?=some w1:=by simpa using e1
    exact Option.some.inj ((Array.getElem?_eq_getElem h1).symm.trans this)
  have g2:its2.toArray[j]=w2:=by
    have:its2.toArray[j]?=some w2:=by simpa using e2
    exact Option.some.inj ((Array.getElem?_eq_getElem h2).symm.trans this)
  rw [g1,g2]
  have d1:xs.getD j .non=xs[j]:=by simp [List.getD,j1]
  have d2:ys.getD j .non=ys[j]:=by simp [List.getD,j2]
  rw [d1,d2]
  exact AlI q1 q2 (List.all_eq_true.mp fx _ (List.getElem_mem j1)) (List.all_eq_true.mp fy _ (List.getElem_mem j2))
theorem Asl {A:Around} (I:Inv X pins σ H s) {x y:V} {b:Bool} {v u:Value} (c:Aco X.K H x y b) (rx:RelV x v) (ry:RelV y u) (hu:A.units < cLine):SeqAt.EqAt A s v u b:=by
  cases c with
  | flat f1 f2=>exact AlI rx ry f1 f2
  | @tup a b xs ys h1 h2 f1 f2 =>
    cases rx
    cases ry
    by_cases e:a=b
    · subst e
      rw [I.Aga h1 h2,AdX f2]
      exact SeqAt.EqAt.same _
    · refine SeqAt.EqAt.of_refs e ?_
      obtain ⟨its,r,pl,_⟩:=I.tuple h1
      obtain ⟨its2,r2,pl2,_⟩:=I.tuple h2
      have l1:=r.length
      have l2:=r2.length
      have key:=SeqAt.RcAt.tuples (A:=A) (s:=s) (e:=fun j=>eqV (xs.getD j .non) (ys.getD j .non)) pl pl2 hu (fun j h1 h2=>AnF r r2 f1 f2 j h1 h2)
      have e1:((List.range (min its.toArray.size its2.toArray.size)).all (fun j=>eqV (xs.getD j .non) (ys.getD j .non)) && its.toArray.size == its2.toArray.size)=eqL xs ys:=by
        simp only [List.size_toArray]
        rw [← l1,← l2]
        by_cases hl:xs.length=ys.length
        · rw [← hl,Nat.min_self,AbU hl]
          simp
        · have:(xs.length == ys.length)=false:=by simp [hl]
          rw [this,Bool.and_false,Aid hl]
      rw [e1] at key
      exact key
  | @lst a b xs ys h1 h2 f1 f2 =>
    cases rx
    cases ry
    by_cases e:a=b
    · subst e
      rw [I.RP h1 h2,AdX f2]
      exact SeqAt.EqAt.same _
    · refine SeqAt.EqAt.of_refs e ?_
      obtain ⟨its,r,pl,_⟩:=I.list h1
      obtain ⟨its2,r2,pl2,_⟩:=I.list h2
      have l1:=r.length
      have l2:=r2.length
      by_cases hl:xs.length=ys.length
      · have key:=SeqAt.RcAt.lists (A:=A) (s:=s) (e:=fun j=>eqV (xs.getD j .non) (ys.getD j .non)) pl.isList pl2.isList (by simp only [List.size_toArray]; omega) hu (fun j h1 h2=>AnF r r2 f1 f2 j h1 h2)
        rw [List.size_toArray,← l1,AbU hl] at key
        exact key
      · have key:=SeqAt.RcAt.lists_lengths (A:=A) (s:=s) pl.isList pl2.isList (by simp only [List.size_toArray,bne_iff_ne]; omega) hu
        rw [Aid hl]
        exact key
theorem Aui {x y:V} {u:Value} (h:RelV x u) (h':RelV y u) (fx:GQ x=true∨∃ a,x=.ref a) (fy:GQ y=true∨∃ a,y=.ref a):x=y:=by
  rcases fx with fx | ⟨a,rfl⟩
  · rcases fy with fy | ⟨b,rfl⟩
    · cases x with
      | non =>
        cases h
        cases y with
        | non=>rfl
        | bl b=>cases h'
        | int i=>obtain ⟨t,e⟩:=h'; cases e
        | str z=>obtain ⟨t,e⟩:=h'; cases e
        | _=>cases fy
      | bl b =>
        cases h
        cases y with
        | non=>cases h'
        | bl c=>cases h'; rfl
        | int i=>obtain ⟨t,e⟩:=h'; cases e
        | str z=>obtain ⟨t,e⟩:=h'; cases e
        | _=>cases fy
      | int i =>
        obtain ⟨t,rfl⟩:=h
        cases y with
        | non=>cases h'
        | bl c=>cases h'
        | int j=>obtain ⟨t,e⟩:=h'; cases e; rfl
        | str z=>obtain ⟨t,e⟩:=h'; cases e
        | _=>cases fy
      | str z =>
        obtain ⟨t,rfl⟩:=h
        cases y with
        | non=>cases h'
        | bl c=>cases h'
        | int j=>obtain ⟨t,e⟩:=h'; cases e
        | str z=>obtain ⟨t,e⟩:=h'; cases e; rfl
        | _=>cases fy
      | _=>cases fx
    · cases h'
      exact absurd (AnE fx h) id
  · rcases fy with fy | ⟨b,rfl⟩
    · cases h
      exact absurd (AnE fy h') id
    · cases h
      cases h'
      rfl
theorem Aco.left {K:PySem.W.Frag} {H:Hp} {x y:V} {b:Bool} (h:Aco K H x y b):GQ x=true∨∃ a,x=.ref a:=by
  cases h with
  | tup _ _ _ _=>exact .inr ⟨_,rfl⟩
  | lst _ _ _ _=>exact .inr ⟨_,rfl⟩
  | flat h _=>exact .inl h
theorem Auj {xs:List V} {us:List Value} (r:Vals xs us) {j:Nat} {u:Value} (h:us[j]?=some u):∃ x,xs[j]?=some x∧RelV x u:=by
  have hj:=(List.getElem?_eq_some_iff.mp h).1
  have l:=r.length
  have hx:j < xs.length:=by omega
  obtain ⟨u',e,q⟩:=r.get (List.getElem?_eq_getElem hx)
  rw [h] at e
  cases e
  exact ⟨xs[j],List.getElem?_eq_getElem hx,q⟩
def Azn (K:PySem.W.Frag) (no:Bool):R2:=fun x y H Q=>∃ (q:Addr) (xs:List V),y=.ref q∧SqL K H q xs ∧
  (((∀ (i:Nat) (z:V),xs[i]?=some z→∃ b,Aco K H z x b)∧(∃ (i:Nat) (z:V),xs[i]?=some z∧Aco K H z x true)∧Q (.bl (!no)) H)∨((∀ (i:Nat) (z:V),xs[i]?=some z→Aco K H z x false)∧Q (.bl no) H))
def Axa (K:PySem.W.Frag):V→List V→Hp→VK→Prop:=fun x vs H Q=>∃ (l:Addr) (xs:List V) (v:V) (j:Nat),x=.ref l∧vs=[v]∧H l=some (.lst xs)∧j < xs.length∧xs.length≤1000 ∧
  (∀ (i:Nat) (z:V),xs[i]?=some z→∃ b,Aco K H z v b∧(i < j→b=false)∧(i=j→b=true))∧Q (.int (j:Int)) H
open Classical in
theorem Auk (hu:X.A.units+100 < cLine) (hK:X.K=K:=by rfl):MtR X "list.index" (Axa K):=by
  subst hK
  intro pins s σ H x vs v us Q I rx rv h
  obtain ⟨l,xs,a,j,rfl,rfl,hH,hj,hz,hall,q⟩:=h
  cases rx
  obtain ⟨u,rfl,ru⟩:=rv.one
  obtain ⟨zz,its,n,r,hl,e⟩:=I.Aq7 hH
  have jl:j < its.length:=by omega
  have ja:j < its.toArray.size:=by rw [List.size_toArray]; exact jl
  have hu1:X.A.in1.units < cLine:=by show X.A.units+1 < cLine; omega
  let ee:Value→Bool:=fun w=>decide (∃ (i:Nat) (z:V),xs[i]?=some z∧RelV z w∧Aco X.K H z a true)
  have key:∀ (i:Nat) (z:V) (w:Value) (b:Bool),xs[i]?=some z→RelV z w→Aco X.K H z a b→ee w=b:=fun i z w b hz rz cz=>by
    cases b with
    | true=>exact decide_eq_true ⟨i,z,hz,rz,cz⟩
    | false =>
      refine decide_eq_false fun ⟨i',z',_,rz',cz'⟩=>?_
      have:=Aui rz rz' cz.left cz'.left
      subst this
      exact absurd (cz.uniq I cz') Bool.false_ne_true
  have atI:∀ (i:Nat) (hi:i < its.toArray.size),∃ z b,xs[i]?=some z∧RelV z its.toArray[i]∧Aco X.K H z a b∧(i < j→b=false)∧(i=j→b=true):=fun i hi=>by
    have il:i < its.length:=by rw [List.size_toArray] at hi; exact hi
    obtain ⟨z,hz,rz⟩:=Auj r (List.getElem?_eq_getElem il)
    obtain ⟨b,cb,b1,b2⟩:=hall i z hz
    exact ⟨z,b,hz,by rw [List.getElem_toArray]; exact rz,cb,b1,b2⟩
  have hit:ee its.toArray[j]=true:=by
    obtain ⟨z,b,hz,rz,cz,_,b2⟩:=atI j ja
    rw [key j z _ b hz rz cz,b2 rfl]
  have hn:∀ m (hm:m < its.toArray.size),m < j→ee its.toArray[m]=false:=fun m hm hmj=>by
    obtain ⟨z,b,hz,rz,cz,b1,_⟩:=atI m hm
    rw [key m z _ b hz rz cz,b1 hmj]
  have he:∀ y,y∈its.toArray→SeqAt.EqAt X.A.in1 s y u (ee y):=fun y hy=>by
    obtain ⟨m,hm,em⟩:=Array.getElem_of_mem hy
    obtain ⟨z,b,hz,rz,cz,_,_⟩:=atI m hm
    rw [em] at rz
    rw [key m z y b hz rz cz]
    exact Asl I cz rz ru hu1
  refine call_meets F.slot_list_index ⟨_,e,rfl⟩ F.entry_list_index (F.args_list_index_2 _ _)
    (SeqAt.list_indexAt l its.toArray n none #[] u ee j ja (by omega) hit hn) ⟨e,he,?_⟩
  exact ⟨.int _,H,I.tok _,⟨_,rfl⟩,q⟩
end
end L2
set_option maxHeartbeats 4000000
namespace Mine
open PySem L2
def top (i:Nat):Stmt:=PySem.Challenge.pw_heddle_k12_whole_least.main.body.getD i (.Pass ⟨0,0,0,0⟩)
abbrev Hr:Stmt:=top 8
theorem AnG:Aw ["cloth"] ["cloth"] (Ab Hr):=⟨rfl,rfl,rfl,by decide +kernel,rfl,by decide +kernel,by decide +kernel⟩
abbrev Ck:Stmt:=top 9
theorem Mp:Aw ["texts", "least", "signs", "ends", "text"] ["texts", "least", "signs"] (Ab Ck):=⟨rfl,rfl,rfl,by decide +kernel,rfl,by decide +kernel,by decide +kernel⟩
abbrev Ey:Stmt:=top 10
theorem Acz:Aw ["text", "ends", "signs", "sign"] ["text", "ends", "signs"] (Ab Ey):=⟨rfl,rfl,rfl,by decide +kernel,rfl,by decide +kernel,by decide +kernel⟩
abbrev Fy:Stmt:=top 11
theorem AlX:Aw ["cloth", "end"] ["cloth", "end"] (Ab Fy):=⟨rfl,rfl,rfl,by decide +kernel,rfl,by decide +kernel,by decide +kernel⟩
abbrev Mq:Stmt:=top 15
theorem Asm:Aw ["draft"] ["draft"] (Ab Mq):=⟨rfl,rfl,rfl,by decide +kernel,rfl,by decide +kernel,by decide +kernel⟩
abbrev BW:Stmt:=top 16
theorem G6:Aw ["cloth", "size", "ends", "unlike_ends", "unlike_picks", "threading", "treading"] ["cloth"] (Ab BW):=⟨rfl,rfl,rfl,by decide +kernel,rfl,by decide +kernel,by decide +kernel⟩
abbrev CK:Stmt:=top 17
theorem N7:Aw ["threading", "ties", "shaft", "tie"] ["threading", "ties"] (Ab CK):=⟨rfl,rfl,rfl,by decide +kernel,rfl,by decide +kernel,by decide +kernel⟩
abbrev DW:Stmt:=top 18
theorem AiM:Aw ["count"] ["count"] (Ab DW):=⟨rfl,rfl,rfl,by decide +kernel,rfl,by decide +kernel,by decide +kernel⟩
abbrev DX:Stmt:=top 19
theorem AiN:Aw ["shaft"] ["shaft"] (Ab DX):=⟨rfl,rfl,rfl,by decide +kernel,rfl,by decide +kernel,by decide +kernel⟩
abbrev Gj:Stmt:=top 20
theorem Aec:Aw ["tie", "k"] ["tie"] (Ab Gj):=⟨rfl,rfl,rfl,by decide +kernel,rfl,by decide +kernel,by decide +kernel⟩
abbrev Cm:Stmt:=top 21
theorem TQ:Aw ["treading", "treadles", "treadle"] ["treading", "treadles"] (Ab Cm):=⟨rfl,rfl,rfl,by decide +kernel,rfl,by decide +kernel,by decide +kernel⟩
abbrev Fz:Stmt:=top 22
theorem AlY:Aw ["threading", "lifted"] ["threading", "lifted"] (Ab Fz):=⟨rfl,rfl,rfl,by decide +kernel,rfl,by decide +kernel,by decide +kernel⟩
abbrev Dm:Stmt:=top 23
theorem AiO:Aw ["threading", "text"] ["threading", "text"] (Ab Dm):=⟨rfl,rfl,rfl,by decide +kernel,rfl,by decide +kernel,by decide +kernel⟩
abbrev Ky:Stmt:=top 24
theorem Agj:Aw ["things", "found", "thing"] ["things"] (Ab Ky):=⟨rfl,rfl,rfl,by decide +kernel,rfl,by decide +kernel,by decide +kernel⟩
abbrev Gk:Stmt:=top 28
theorem AlZ:Aw ["figures"] ["figures"] (Ab Gk):=⟨rfl,rfl,rfl,by decide +kernel,rfl,by decide +kernel,by decide +kernel⟩
abbrev Hs:Stmt:=top 34
theorem Ahl:Aw ["text", "row_items"] ["text"] (Ab Hs):=⟨rfl,rfl,rfl,by decide +kernel,rfl,by decide +kernel,by decide +kernel⟩
abbrev Mr:Stmt:=top 35
theorem Asn:Aw ["row"] ["row"] (Ab Mr):=⟨rfl,rfl,rfl,by decide +kernel,rfl,by decide +kernel,by decide +kernel⟩
abbrev Ei:Stmt:=top 36
theorem Ak5:Aw ["row_items"] ["row_items"] (Ab Ei):=⟨rfl,rfl,rfl,by decide +kernel,rfl,by decide +kernel,by decide +kernel⟩
abbrev DY:Stmt:=top 37
theorem RW:Aw ["row_items", "written", "item"] ["row_items"] (Ab DY):=⟨rfl,rfl,rfl,by decide +kernel,rfl,by decide +kernel,by decide +kernel⟩
abbrev CP:Stmt:=top 38
theorem Agk:Aw ["start", "stop"] ["start", "stop"] (Ab CP):=⟨rfl,rfl,rfl,by decide +kernel,rfl,by decide +kernel,by decide +kernel⟩
abbrev Ht:Stmt:=top 39
theorem Aak:Aw ["text", "reader", "row_items"] ["text"] (Ab Ht):=⟨rfl,rfl,rfl,by decide +kernel,rfl,by decide +kernel,by decide +kernel⟩
abbrev Ez:Stmt:=top 40
theorem Ac0:Aw ["reader", "depth", "row_items"] ["reader", "depth"] (Ab Ez):=⟨rfl,rfl,rfl,by decide +kernel,rfl,by decide +kernel,by decide +kernel⟩
abbrev Gm:Stmt:=top 41
theorem Aed:Aw ["reader", "depth", "first"] ["reader", "depth"] (Ab Gm):=⟨rfl,rfl,rfl,by decide +kernel,rfl,by decide +kernel,by decide +kernel⟩
abbrev EY:Stmt:=top 42
theorem Wh:Aw ["reader", "count", "depth", "inner"] ["reader", "count", "depth"] (Ab EY):=⟨rfl,rfl,rfl,by decide +kernel,rfl,by decide +kernel,by decide +kernel⟩
abbrev Gn:Stmt:=top 43
theorem Aee:Aw ["reader", "first", "stops"] ["reader", "first"] (Ab Gn):=⟨rfl,rfl,rfl,by decide +kernel,rfl,by decide +kernel,by decide +kernel⟩
abbrev Ea:Stmt:=top 44
theorem Aal:Aw ["reader", "number"] ["reader"] (Ab Ea):=⟨rfl,rfl,rfl,by decide +kernel,rfl,by decide +kernel,by decide +kernel⟩
abbrev Kz:Stmt:=top 45
theorem Agl:Aw ["row", "paths", "number"] ["row"] (Ab Kz):=⟨rfl,rfl,rfl,by decide +kernel,rfl,by decide +kernel,by decide +kernel⟩
abbrev CG:Stmt:=top 46
theorem Ah6:Aw ["path"] ["path"] (Ab CG):=⟨rfl,rfl,rfl,by decide +kernel,rfl,by decide +kernel,by decide +kernel⟩
abbrev Jf:Stmt:=top 47
theorem Apg:Aw ["path", "k"] ["path", "k"] (Ab Jf):=⟨rfl,rfl,rfl,by decide +kernel,rfl,by decide +kernel,by decide +kernel⟩
abbrev Ci:Stmt:=top 51
theorem Xp:Aw ["draft", "ties"] ["draft"] (Ab Ci):=⟨rfl,rfl,rfl,by decide +kernel,rfl,by decide +kernel,by decide +kernel⟩
abbrev Ej:Stmt:=top 52
theorem O8:Aw ["text", "parts", "threading", "ties"] ["text"] (Ab Ej):=⟨rfl,rfl,rfl,by decide +kernel,rfl,by decide +kernel,by decide +kernel⟩
abbrev Eb:Stmt:=top 54
theorem G7:Aw ["script", "many", "mixed", "found", "k"] ["script", "many"] (Ab Eb):=⟨rfl,rfl,rfl,by decide +kernel,rfl,by decide +kernel,by decide +kernel⟩
abbrev Fb:Stmt:=top 55
theorem K1:Aw ["number", "found", "shaft"] ["number"] (Ab Fb):=⟨rfl,rfl,rfl,by decide +kernel,rfl,by decide +kernel,by decide +kernel⟩
abbrev BP:Stmt:=top 56
theorem CQ:Aw ["numbers", "ends", "treadles", "picks", "high", "threading", "ties", "at", "treading"] ["numbers"] (Ab BP):=⟨rfl,rfl,rfl,by decide +kernel,rfl,by decide +kernel,by decide +kernel⟩
abbrev Dp:Stmt:=top 57
theorem Gb:Aw ["threading", "ties", "treading", "cloth", "treadle", "text", "shaft"] ["threading", "ties", "treading"] (Ab Dp):=⟨rfl,rfl,rfl,by decide +kernel,rfl,by decide +kernel,by decide +kernel⟩
abbrev By:Stmt:=top 58
theorem Rb:Aw ["found", "due", "k"] ["found", "due"] (Ab By):=⟨rfl,rfl,rfl,by decide +kernel,rfl,by decide +kernel,by decide +kernel⟩
abbrev Cp:Stmt:=top 59
theorem TV:Aw ["draft", "threading", "ties", "treading", "k"] ["draft", "threading", "ties", "treading"] (Ab Cp):=⟨rfl,rfl,rfl,by decide +kernel,rfl,by decide +kernel,by decide +kernel⟩
abbrev Cq:Stmt:=top 60
theorem TX:Aw ["found", "due", "k"] ["found", "due"] (Ab Cq):=⟨rfl,rfl,rfl,by decide +kernel,rfl,by decide +kernel,by decide +kernel⟩
abbrev HH:Stmt:=top 61
theorem Aph:Aw ["numbers"] ["numbers"] (Ab HH):=⟨rfl,rfl,rfl,by decide +kernel,rfl,by decide +kernel,by decide +kernel⟩
abbrev Dq:Stmt:=top 62
theorem Aam:Aw ["built", "ties"] ["built"] (Ab Dq):=⟨rfl,rfl,rfl,by decide +kernel,rfl,by decide +kernel,by decide +kernel⟩
abbrev Ec:Stmt:=top 63
theorem Ms:Aw ["row", "most", "number"] ["row"] (Ab Ec):=⟨rfl,rfl,rfl,by decide +kernel,rfl,by decide +kernel,by decide +kernel⟩
abbrev Gp:Stmt:=top 64
theorem Yu:Aw ["row", "kinds", "number"] ["row"] (Ab Gp):=⟨rfl,rfl,rfl,by decide +kernel,rfl,by decide +kernel,by decide +kernel⟩
abbrev BR:Stmt:=top 65
theorem Hc:Aw ["row", "texts", "count", "firsts", "k", "other"] ["row", "texts", "count"] (Ab BR):=⟨rfl,rfl,rfl,by decide +kernel,rfl,by decide +kernel,by decide +kernel⟩
abbrev Gq:Stmt:=top 66
theorem Aef:Aw ["part", "number"] ["part"] (Ab Gq):=⟨rfl,rfl,rfl,by decide +kernel,rfl,by decide +kernel,by decide +kernel⟩
abbrev Gr:Stmt:=top 67
theorem Mt:Aw ["found", "cloth", "columns", "shafts", "treadles", "tie", "k"] ["found", "cloth", "columns"] (Ab Gr):=⟨rfl,rfl,rfl,by decide +kernel,rfl,by decide +kernel,by decide +kernel⟩
abbrev Xq:Stmt:=top 68
theorem Wi:Aw ["script", "built", "due", "columns", "writing", "draft", "handed", "found", "again"] ["script"] (Ab Xq):=⟨rfl,rfl,rfl,by decide +kernel,rfl,by decide +kernel,by decide +kernel⟩
abbrev BK:Stmt:=(Hb (top 1)).getD 0 (.Pass ⟨0,0,0,0⟩)
abbrev Ek:Stmt:=(Hb (top 2)).getD 0 (.Pass ⟨0,0,0,0⟩)
abbrev Cy:Stmt:=(Hb (top 3)).getD 0 (.Pass ⟨0,0,0,0⟩)
abbrev De:Stmt:=(Hb (top 4)).getD 0 (.Pass ⟨0,0,0,0⟩)
abbrev Dg:Stmt:=(Hb (top 5)).getD 0 (.Pass ⟨0,0,0,0⟩)
abbrev BV:Stmt:=(Hb (top 14)).getD 0 (.Pass ⟨0,0,0,0⟩)
theorem Aeg:Aw ["self", "threading", "ties", "treading"] ["self", "threading", "ties", "treading"] (Ab BV):=⟨rfl,rfl,rfl,by decide +kernel,rfl,by decide +kernel,by decide +kernel⟩
abbrev BX:Stmt:=(Hb (top 27)).getD 0 (.Pass ⟨0,0,0,0⟩)
theorem Ado:Aw ["self", "text"] ["self", "text"] (Ab BX):=⟨rfl,rfl,rfl,by decide +kernel,rfl,by decide +kernel,by decide +kernel⟩
abbrev Dr:Stmt:=(Hb (top 27)).getD 1 (.Pass ⟨0,0,0,0⟩)
theorem Ah7:Aw ["self"] ["self"] (Ab Dr):=⟨rfl,rfl,rfl,by decide +kernel,rfl,by decide +kernel,by decide +kernel⟩
abbrev Ed:Stmt:=(Hb (top 27)).getD 2 (.Pass ⟨0,0,0,0⟩)
theorem Aan:Aw ["self", "wanted", "behind"] ["self", "wanted"] (Ab Ed):=⟨rfl,rfl,rfl,by decide +kernel,rfl,by decide +kernel,by decide +kernel⟩
abbrev Cr:Stmt:=(Hb (top 27)).getD 3 (.Pass ⟨0,0,0,0⟩)
theorem TY:Aw ["self", "signs", "begin"] ["self", "signs"] (Ab Cr):=⟨rfl,rfl,rfl,by decide +kernel,rfl,by decide +kernel,by decide +kernel⟩
abbrev CT:Stmt:=(Hb (top 27)).getD 4 (.Pass ⟨0,0,0,0⟩)
theorem Agm:Aw ["self"] ["self"] (Ab CT):=⟨rfl,rfl,rfl,by decide +kernel,rfl,by decide +kernel,by decide +kernel⟩
abbrev CV:Stmt:=(Hb (top 32)).getD 0 (.Pass ⟨0,0,0,0⟩)
theorem Agn:Aw ["self", "stops"] ["self", "stops"] (Ab CV):=⟨rfl,rfl,rfl,by decide +kernel,rfl,by decide +kernel,by decide +kernel⟩
abbrev Gs:Stmt:=(Hb (top 32)).getD 1 (.Pass ⟨0,0,0,0⟩)
theorem Rm:Aw ["self", "total", "k"] ["self"] (Ab Gs):=⟨rfl,rfl,rfl,by decide +kernel,rfl,by decide +kernel,by decide +kernel⟩
abbrev Dt:Stmt:=(Hb (top 32)).getD 2 (.Pass ⟨0,0,0,0⟩)
theorem Q7:Aw ["self", "written", "stop"] ["self"] (Ab Dt):=⟨rfl,rfl,rfl,by decide +kernel,rfl,by decide +kernel,by decide +kernel⟩
abbrev Cu:Stmt:=(Hb (top 33)).getD 0 (.Pass ⟨0,0,0,0⟩)
theorem Aeh:Aw ["self", "count", "inner"] ["self", "count", "inner"] (Ab Cu):=⟨rfl,rfl,rfl,by decide +kernel,rfl,by decide +kernel,by decide +kernel⟩
abbrev Fd:Stmt:=(Hb (top 33)).getD 1 (.Pass ⟨0,0,0,0⟩)
theorem Ac1:Aw ["self"] ["self"] (Ab Fd):=⟨rfl,rfl,rfl,by decide +kernel,rfl,by decide +kernel,by decide +kernel⟩
abbrev CW:Stmt:=(Hb (top 33)).getD 2 (.Pass ⟨0,0,0,0⟩)
theorem Xr:Aw ["self"] ["self"] (Ab CW):=⟨rfl,rfl,rfl,by decide +kernel,rfl,by decide +kernel,by decide +kernel⟩
set_option genInjectivity false in
structure Adr where
  BZ:Addr
  Al:Addr
  Eu:Addr
  Bx:Addr
  Bw:Addr
  HJ:FuncData
  Ca:Addr
  Mu:FuncData
  Du:Addr
  Mv:FuncData
  CZ:Addr
  Jg:FuncData
  Dh:Addr
  NB:FuncData
  Dy:Addr
  Q8:FuncData
  Dc:Addr
  Q9:FuncData
  Hd:Addr
  Aao:FuncData
  El:Addr
  RX:FuncData
  Cv:Addr
  NK:FuncData
  Fe:Addr
  Ro:FuncData
  Dd:Addr
  K9:FuncData
  J4:Addr
  Adp:FuncData
  Dz:Addr
  NP:FuncData
  Hf:Addr
  Yv:FuncData
  HW:Addr
  Aap:FuncData
  Ua:Addr
  Ama:FuncData
  Gu:Addr
  Wj:FuncData
  Eo:Addr
  QB:FuncData
  Ff:Addr
  O9:FuncData
  Fg:Addr
  OD:FuncData
  HX:Addr
  Aaq:FuncData
  DG:Addr
  NQ:FuncData
  HY:Addr
  Aar:FuncData
  Gv:Addr
  Wl:FuncData
  Qv:Addr
  AiP:FuncData
  Ia:Addr
  Aas:FuncData
  Ik:Addr
  Yw:FuncData
  OJ:Addr
  Aei:FuncData
  Fi:Addr
  Mw:FuncData
  Ef:Addr
  K3:FuncData
  Ep:Addr
  QC:FuncData
  J5:Addr
  Adq:FuncData
  Fj:Addr
  Mx:FuncData
  Ib:Addr
  Aat:FuncData
  Gh:Addr
  Rp:FuncData
  Ie:Addr
  Aau:FuncData
  Fl:Addr
  Pa:FuncData
  Qw:Addr
  AiQ:FuncData
  FJ:Addr
  RZ:FuncData
  LQ:Addr
  Ago:FuncData
  Er:Addr
  QD:FuncData
  Hg:Addr
  Yx:FuncData
  Gw:Addr
  Wm:FuncData
  Hh:Addr
  Yy:FuncData
  FN:Addr
  Sh:FuncData
  FP:Addr
  Sq:FuncData
  CJ:Addr
  Lp:FuncData
  DK:Addr
  NT:FuncData
  DN:Addr
  NZ:FuncData
  LR:Addr
  Agp:FuncData
  Gx:Addr
  Wn:FuncData
  Fo:Addr
  Pb:FuncData
  Ig:Addr
  Aav:FuncData
  DP:Addr
  Oa:FuncData
  Ih:Addr
  Aaw:FuncData
  Ii:Addr
  Aax:FuncData
  AiR:Addr
  AuJ:FuncData
  Am:Addr
  Dj:Addr
  Acp:FuncData
  Bv:Addr
  G8:Addr
  AiS:FuncData
  Ay:Addr
  Em:Addr
  Aej:FuncData
  Bg:Addr
  Ew:Addr
  Agq:FuncData
  Bh:Addr
  Ex:Addr
  Agr:FuncData
structure Txt (K:PySem.W.Frag) (mg:Str→Option Value) (t:Adr):Prop where
  measured:Df K mg "measured" Hr ["cloth"] t.J4 t.Adp
  My:Df K mg "measured_texts" Ck ["texts", "least", "signs"] t.Dz t.NP
  Yz:Df K mg "check_pick" Ey ["text", "ends", "signs"] t.Hf t.Yv
  AbZ:Df K mg "end_signs" Fy ["cloth", "end"] t.HW t.Aap
  AiT:Df K mg "woven" Mq ["draft"] t.Ua t.Ama
  J6:Df K mg "least_draft" BW ["cloth"] t.Gu t.Wj
  Pg:Df K mg "check_setting" CK ["threading", "ties"] t.Eo t.QB
  Gy:Df K mg "check_count" DW ["count"] t.Ff t.O9
  J7:Df K mg "check_shaft" DX ["shaft"] t.Fg t.OD
  Aca:Df K mg "check_tie" Gj ["tie"] t.HX t.Aaq
  Mz:Df K mg "check_treading" Cm ["treading", "treadles"] t.DG t.NQ
  Acb:Df K mg "shed_over" Fz ["threading", "lifted"] t.HY t.Aar
  Ub:Df K mg "shafts_over" Dm ["threading", "text"] t.Gv t.Wl
  unlike:Df K mg "unlike" Ky ["things"] t.Qv t.AiP
  Acd:Df K mg "number_of" Gk ["figures"] t.Ia t.Aas
  K4:Df K mg "unfolded" Hs ["text"] t.Ik t.Yw
  shown:Df K mg "shown" Mr ["row"] t.OJ t.Aei
  Lq:Df K mg "whole_size" Ei ["row_items"] t.Fi t.Mw
  J8:Df K mg "all_numbers" DY ["row_items"] t.Ef t.K3
  Ph:Df K mg "steps_between" CP ["start", "stop"] t.Ep t.QC
  Aek:Df K mg "read_row" Ht ["text"] t.J5 t.Adq
  Lr:Df K mg "read_items" Ez ["reader", "depth"] t.Fj t.Mx
  Ob:Df K mg "read_item" Gm ["reader", "depth"] t.Ib t.Aat
  Ss:Df K mg "read_times" EY ["reader", "count", "depth"] t.Gh t.Rp
  Ace:Df K mg "read_path" Gn ["reader", "first"] t.Ie t.Aau
  J9:Df K mg "read_number" Ea ["reader"] t.Fl t.Pa
  parted:Df K mg "parted" Kz ["row"] t.Qw t.AiQ
  Rq:Df K mg "written_path" CG ["path"] t.FJ t.RZ
  Aif:Df K mg "is_stop" Jf ["path", "k"] t.LQ t.Ago
  Hu:Df K mg "written_draft" Ci ["draft"] t.Er t.QD
  Ls:Df K mg "read_draft" Ej ["text"] t.Hg t.Yx
  Uc:Df K mg "_law_numbers" Eb ["script", "many"] t.Gw t.Wm
  Y0:Df K mg "_law_subset" Fb ["number"] t.Hh t.Yy
  Rr:Df K mg "_law_draft_by" BP ["numbers"] t.FN t.Sh
  Il:Df K mg "_law_woven_by" Dp ["threading", "ties", "treading"] t.FP t.Sq
  Cw:Df K mg "_law_numbers_same" By ["found", "due"] t.CJ t.Lp
  M3:Df K mg "_law_draft_same" Cp ["draft", "threading", "ties", "treading"] t.DK t.NT
  Dv:Df K mg "_law_texts_same" Cq ["found", "due"] t.DN t.NZ
  Pj:Df K mg "_law_row" HH ["numbers"] t.LR t.Agp
  Ud:Df K mg "_law_written" Dq ["built"] t.Gx t.Wn
  DQ:Df K mg "_law_counted" Ec ["row"] t.Fo t.Pb
  Oc:Df K mg "_law_kinds" Gp ["row"] t.Ig t.Aav
  G9:Df K mg "_law_told_apart" BR ["row", "texts", "count"] t.DP t.Oa
  Jh:Df K mg "_law_lists" Gq ["part"] t.Ih t.Aaw
  Acf:Df K mg "_law_least" Gr ["found", "cloth", "columns"] t.Ii t.Aax
  law:Df K mg "law" Xq ["script"] t.AiR t.AuJ
  AuK:mg "abs" = none
  Aso:mg "bool" = none
  Asp:mg "int" = none
  En:mg "isinstance" = none
  DR:mg "len" = none
  M4:mg "list" = none
  Axb:mg "max" = none
  GJ:mg "range" = none
  Axc:mg "set" = none
  Asq:mg "sorted" = none
  Asr:mg "str" = none
  Axd:mg "sum" = none
  Axe:mg "zip" = none
  Su:∃ tk,mg "MOST_STRANDS" = some (.int 40 tk)
  Ak6:∃ tk,mg "MOST_SHAFTS" = some (.int 40 tk)
  AqV:∃ tk,mg "FIGURES" = some (.str "0123456789" tk)
  AiU:∃ tk,mg "MOST_NUMBERS" = some (.int 400 tk)
  AnH:∃ tk,mg "MOST_DEEP" = some (.int 8 tk)
  Zx:∃ tk,mg "BETWEEN_PARTS" = some (.str " / " tk)
  Aay:∃ tk,mg "BETWEEN_TIES" = some (.str ", " tk)
  Aul:mg "WeaveError" = some (.ref t.Am)
  Aum:Exn K t.Am
  Aun:Mf K "called" "WeaveError.called" BK ["self"] t.Am t.Dj t.Acp
  FZ:PySem.W.mroIn K t.Am (.ref t.Am)=some true
  Im:PySem.W.mroIn K t.Am (.ref t.Bv)=some false
  GK:PySem.W.mroIn K t.Am (.ref t.Ay)=some false
  Hi:PySem.W.mroIn K t.Am (.ref t.Bg)=some false
  Hj:PySem.W.mroIn K t.Am (.ref t.Bh)=some false
  Axv:mg "NoRow" = some (.ref t.Bv)
  Axw:Exn K t.Bv
  Axx:Mf K "called" "NoRow.called" Ek ["self"] t.Bv t.G8 t.AiS
  Io:PySem.W.mroIn K t.Bv (.ref t.Am)=some true
  Pk:PySem.W.mroIn K t.Bv (.ref t.Bv)=some true
  JG:PySem.W.mroIn K t.Bv (.ref t.Ay)=some false
  KC:PySem.W.mroIn K t.Bv (.ref t.Bg)=some false
  KD:PySem.W.mroIn K t.Bv (.ref t.Bh)=some false
  AvE:mg "TooLarge" = some (.ref t.Ay)
  AvF:Exn K t.Ay
  AvG:Mf K "called" "TooLarge.called" Cy ["self"] t.Ay t.Em t.Aej
  GP:PySem.W.mroIn K t.Ay (.ref t.Am)=some true
  JH:PySem.W.mroIn K t.Ay (.ref t.Bv)=some false
  HD:PySem.W.mroIn K t.Ay (.ref t.Ay)=some true
  Ip:PySem.W.mroIn K t.Ay (.ref t.Bg)=some false
  Ir:PySem.W.mroIn K t.Ay (.ref t.Bh)=some false
  Awn:mg "NoCloth" = some (.ref t.Bg)
  Awo:Exn K t.Bg
  Awp:Mf K "called" "NoCloth.called" De ["self"] t.Bg t.Ew t.Agq
  Hk:PySem.W.mroIn K t.Bg (.ref t.Am)=some true
  KH:PySem.W.mroIn K t.Bg (.ref t.Bv)=some false
  Iu:PySem.W.mroIn K t.Bg (.ref t.Ay)=some false
  Jl:PySem.W.mroIn K t.Bg (.ref t.Bg)=some true
  Jm:PySem.W.mroIn K t.Bg (.ref t.Bh)=some false
  Awq:mg "NoDraft" = some (.ref t.Bh)
  Awr:Exn K t.Bh
  Aws:Mf K "called" "NoDraft.called" Dg ["self"] t.Bh t.Ex t.Agr
  Hl:PySem.W.mroIn K t.Bh (.ref t.Am)=some true
  KJ:PySem.W.mroIn K t.Bh (.ref t.Bv)=some false
  Iv:PySem.W.mroIn K t.Bh (.ref t.Ay)=some false
  Jo:PySem.W.mroIn K t.Bh (.ref t.Bg)=some false
  Jp:PySem.W.mroIn K t.Bh (.ref t.Bh)=some true
  Aig:mg "Draft" = some (.ref t.BZ)
  Bq:Own K t.BZ t.Bw
  Bb:Ln K t.BZ "threading"
  BJ:Ln K t.BZ "ties"
  Bj:Ln K t.BZ "treading"
  Ass:Isa K t.BZ
  Ast:mg "Reader" = some (.ref t.Al)
  Cj:Own K t.Al t.Ca
  Dw:Ln K t.Al "text"
  Bs:Ln K t.Al "place"
  AvH:mg "Path" = some (.ref t.Eu)
  Y4:Own K t.Eu t.Dc
  Eg:Ln K t.Eu "stops"
  Auo:mg "Times" = some (.ref t.Bx)
  Rt:Own K t.Bx t.Cv
  GC:Ln K t.Bx "count"
  GD:Ln K t.Bx "inner"
  JK:Mf K "__init__" "Draft.__init__" BV ["self", "threading", "ties", "treading"] t.BZ t.Bw t.HJ
  Ga:Mf K "__init__" "Reader.__init__" BX ["self", "text"] t.Al t.Ca t.Mu
  JB:Mf K "ended" "Reader.ended" Dr ["self"] t.Al t.Du t.Mv
  Fp:Mf K "took" "Reader.took" Ed ["self", "wanted"] t.Al t.CZ t.Jg
  Od:Mf K "stretch" "Reader.stretch" Cr ["self", "signs"] t.Al t.Dh t.NB
  QF:Mf K "number" "Reader.number" CT ["self"] t.Al t.Dy t.Q8
  KN:Mf K "__init__" "Path.__init__" CV ["self", "stops"] t.Eu t.Dc t.Q9
  Aaz:Mf K "size" "Path.size" Gs ["self"] t.Eu t.Hd t.Aao
  Sv:Mf K "numbers" "Path.numbers" Dt ["self"] t.Eu t.El t.RX
  JL:Mf K "__init__" "Times.__init__" Cu ["self", "count", "inner"] t.Bx t.Cv t.NK
  Ru:Mf K "size" "Times.size" Fd ["self"] t.Bx t.Fe t.Ro
  KQ:Mf K "numbers" "Times.numbers" CW ["self"] t.Bx t.Dd t.K9
theorem bl1 {fd:FuncData} {ps:List Str} (h:∀ a0:Value,bindArgs fd ⟨[a0],[]⟩=pure (ps.zip [a0])) (us:List Value) (hl:us.length=1):bindArgs fd ⟨us,[]⟩=pure (ps.zip us):=by
  rcases us with _ | ⟨a0,us⟩
  · cases hl
  rcases us with _ | ⟨b,us⟩
  · exact h a0
  · cases hl
theorem bl2 {fd:FuncData} {ps:List Str} (h:∀ a0 a1:Value,bindArgs fd ⟨[a0,a1],[]⟩=pure (ps.zip [a0,a1])) (us:List Value) (hl:us.length=2):bindArgs fd ⟨us,[]⟩=pure (ps.zip us):=by
  rcases us with _ | ⟨a0,us⟩
  · cases hl
  rcases us with _ | ⟨a1,us⟩
  · cases hl
  rcases us with _ | ⟨b,us⟩
  · exact h a0 a1
  · cases hl
theorem bl3 {fd:FuncData} {ps:List Str} (h:∀ a0 a1 a2:Value,bindArgs fd ⟨[a0,a1,a2],[]⟩=pure (ps.zip [a0,a1,a2])) (us:List Value) (hl:us.length=3):bindArgs fd ⟨us,[]⟩=pure (ps.zip us):=by
  rcases us with _ | ⟨a0,us⟩
  · cases hl
  rcases us with _ | ⟨a1,us⟩
  · cases hl
  rcases us with _ | ⟨a2,us⟩
  · cases hl
  rcases us with _ | ⟨b,us⟩
  · exact h a0 a1 a2
  · cases hl
theorem bl4 {fd:FuncData} {ps:List Str} (h:∀ a0 a1 a2 a3:Value,bindArgs fd ⟨[a0,a1,a2,a3],[]⟩=pure (ps.zip [a0,a1,a2,a3])) (us:List Value) (hl:us.length=4):bindArgs fd ⟨us,[]⟩=pure (ps.zip us):=by
  rcases us with _ | ⟨a0,us⟩
  · cases hl
  rcases us with _ | ⟨a1,us⟩
  · cases hl
  rcases us with _ | ⟨a2,us⟩
  · cases hl
  rcases us with _ | ⟨a3,us⟩
  · cases hl
  rcases us with _ | ⟨b,us⟩
  · exact h a0 a1 a2 a3
  · cases hl
section
variable {P:Program} {w:World} {K:PySem.W.Frag} {mg:Str→Option Value} {base:Heap} {t:Adr}
def Awt (z:Str):Sp:=fun vs H Q _=>∃ v,vs=[v]∧Q (.str z) H
end
section
variable {P:Program} {w:World} {K:PySem.W.Frag} {mg:Str→Option Value} {base:Heap} {t:Adr}
theorem z0 (i:Nat):(0+(i:Int)).toNat=i:=by omega
theorem Qx (K:PySem.W.Frag) (n:String):PySem.W.kitOne K (.type n) (.type n)=some true:=if_pos (beq_self_eq_true _)
theorem AuL {c d:Nat}:(V.str ⟨#[c]⟩:V)=V.str ⟨#[d]⟩↔c=d :=
  ⟨fun z=>by injection z with z; exact (List.cons.inj (Adl (a:=[c]) (b:=[d]) z)).1,fun z=>by rw [z]⟩
theorem e35:(V.str ⟨#[35]⟩:V)=V.str "#" := congrArg V.str (by decide +kernel)
theorem e46:(V.str ⟨#[46]⟩:V)=V.str "." := congrArg V.str (by decide +kernel)
theorem JM {n:Nat} (h:n≤40):n≤sizeLine:=Nat.le_trans h (by decide)
theorem occ {c:Nat} (h:Sg c):(!(!(Builtin.Str.occurrences "#." ⟨#[c]⟩ 0 (Str.length "#.") 1).isEmpty))=false:=by
  rcases h with h | h <;> subst h <;> decide +kernel
def Ak7:Sp:=fun vs H Q _=>∃ (t:List Nat),vs=[.str (tx t),.int (t.length:Int),.str "#."]∧(∀ c∈t,Sg c)∧t.length≤40∧Q .non H
theorem Ak8 (T:Txt K mg t):Ar P w K mg base CX0 1 t.Hf t.Yv ["text", "ends", "signs"] Ak7:=by
  refine T.Yz.F.ok Acz (fun vs H Q E h=>?_) (fun cdv A outer s H vs Q E hr h=>?_)
  · obtain ⟨t,rfl,_⟩:=h
    rfl
  · obtain ⟨t,rfl,hsg,hl,k⟩:=h
    refine ⟨_,(Ad (BL (Av Zw (Ao Gf rfl T.DR Cd (Aa (pv 0) Ac)) (pv 1) (Bm _))
        (Ae G5)
        Bc)
      (Ae (Et PassesOwn.never rfl (Avt (pv 0)) (Cg (i:=3) Acz.nd rfl (Or.inl rfl))
        (Ae (BL (Av AlB (pv 3) (pv 2) rfl)
          (Ae G5)
          Bc))))),?_⟩
    refine ⟨_,rfl,_,rfl,(by rw [Bt]; exact JM hl),_,rfl,rfl,_,rfl,?_⟩
    refine TF (by rw [Bt]) ?_
    refine ⟨_,rfl,_,rfl,AtK (z:=tx t) (fun i σ H2=>∃ v,σ=[some (.str (tx t)),some (.int (t.length:Int)),some (.str "#."),v]∧H2=H) ⟨none,rfl,rfl⟩ ?_ ?_⟩
    · rintro i c σ H2 hc ⟨v,rfl,rfl⟩
      rw [AoN] at hc
      refine ⟨_,rfl,_,rfl,_,_,rfl,rfl,_,rfl,?_⟩
      rw [occ (hsg c (List.mem_of_getElem? hc))]
      exact Jc ⟨_,rfl,rfl⟩
    · rintro σ H2 ⟨v,rfl,rfl⟩
      exact k
def Ael (K:PySem.W.Frag):Sp:=fun vs H Q _=>∃ (a:Addr) (cl:List (List Nat)) (m n:Nat),vs=[.ref a,.int 1,.str "#."]∧SqL K H a (vS cl)∧Cl cl m n∧∀ p,H p=none→Q (.ref p) (upd H p (.tup [.int (m:Int),.int (n:Int)]))
theorem Aem (T:Txt K mg t):Ar P w K mg base CX0 2 t.Dz t.NP ["texts", "least", "signs"] (Ael K):=by
  have Amb:Ar P w K mg base CX0 1 t.Hf t.Yv _ _:=Ak8 T
  refine T.My.F.ok Mp (fun vs H Q E h=>?_) (fun cdv A outer s H vs Q E hr h=>?_)
  · obtain ⟨a,cl,m,n,rfl,_⟩:=h
    rfl
  · obtain ⟨a,cl,m,n,rfl,hS,C,k⟩:=h
    have hlen:(vS cl).length=n:=by rw [Cz,C.hn]
    have h0:0 < cl.length:=by rw [C.hn]; exact C.n1
    have hm0:=C.hm cl[0] (List.getElem_mem h0)
    have c1:=C.n1
    have c2:=C.n40
    have c3:=C.m1
    have c4:=C.m40
    refine ⟨_,(Ad (BL (PW.pt (pw_or (Av RQ (Ao (An (K:=K)) rfl T.DR Cd (Aa (pv 0) Ac)) (pv 1) (Bm _)) (pw_or1 (Av Acw (Ao (An (K:=K)) rfl T.DR Cd (Aa (pv 0) Ac)) (K8 (v:=.int 40) rfl T.Su.choose_spec ⟨_,rfl⟩) (Bm _)))))
        (Ae G5)
        Bc)
      (Ad (Bo (i:=3) Mp.nd rfl (Or.inl rfl) (Ao Gf rfl T.DR Cd (Aa (Bu (Az (K:=K)) (pv 0) Aj (fun _ _=>rfl)) Ac)))
      (Ad (BL (PW.pt (pw_or (Av RQ (pv 3) (pv 1) (Bm _)) (pw_or1 (Av Acw (pv 3) (K8 (v:=.int 40) rfl T.Su.choose_spec ⟨_,rfl⟩) (Bm _)))))
        (Ae G5)
        Bc)
      (Ad (Et PassesOwn.never rfl (Br (K:=K) (pv 0)) (Cg (i:=4) Mp.nd rfl (Or.inl rfl))
        (Ae (Ge (Ak (Amb.mono (by decide)) hr rfl T.Yz.m T.Yz.F.kp T.Yz.b .nil Ba (Aa (pv 4) (Aa (pv 3) (Aa (pv 2) Ac)))))))
      (Ae (Aq (Ar4 (Aa (pv 3) (Aa (Ao (An (K:=K)) rfl T.DR Cd (Aa (pv 0) Ac)) Ac))))))))),?_⟩
    refine ⟨_,rfl,_,_,rfl,.inl hS,_,rfl,_,_,rfl,rfl,_,rfl,?_⟩
    refine Gi (by rw [hlen]; omega) ?_
    refine ⟨_,rfl,_,_,rfl,.inl hS,_,_,rfl,rfl,_,rfl,?_⟩
    refine Gi (by rw [hlen]; omega) ?_
    refine ⟨_,rfl,_,_,_,_,rfl,rfl,hS,Fw (by decide) (ArG (List.getElem?_eq_getElem h0)),_,rfl,(by rw [Bt,hm0]; exact JM c4),?_⟩
    rw [Bt,hm0]
    refine ⟨_,rfl,_,rfl,_,_,rfl,rfl,_,rfl,?_⟩
    refine Gi (by omega) ?_
    refine ⟨_,rfl,_,_,rfl,rfl,_,rfl,?_⟩
    refine Gi (by omega) ?_
    refine ⟨_,rfl,_,rfl,⟨_,hS⟩,Ha (K:=K) (a:=a) (xs:=vS cl) (fun i σ H2=>∃ v,σ=[some (.ref a),some (.int 1),some (.str "#."),some (.int (m:Int)),v]∧H2=H) ⟨none,rfl,rfl⟩ (fun i σ H2 _ ⟨_,_,e⟩=>e ▸ hS) ?_ ?_⟩
    · rintro i x σ H2 hx ⟨v,rfl,rfl⟩
      obtain ⟨t,ht,rfl⟩:=Aaj hx
      have htm:=List.mem_of_getElem? ht
      refine ⟨_,rfl,_,rfl,_,rfl,t,?_,C.sg t htm,?_,⟨_,rfl,rfl⟩⟩
      · rw [C.hm t htm]; rfl
      · rw [C.hm t htm]; exact c4
    · rintro σ H2 ⟨v,rfl,rfl⟩
      refine ⟨_,rfl,_,rfl,_,_,rfl,.inl hS,(by show 2≤sizeLine; decide),fun p hp=>?_⟩
      rw [hlen]
      exact k p hp
def AnI (K:PySem.W.Frag):Sp:=fun vs H Q _=>∃ (a:Addr) (cl:List (List Nat)) (m n:Nat),vs=[.ref a]∧SqL K H a (vS cl)∧Cl cl m n∧∀ p,H p=none→Q (.ref p) (upd H p (.tup [.int (m:Int),.int (n:Int)]))
theorem AnJ (T:Txt K mg t):Ar P w K mg base CX0 3 t.J4 t.Adp ["cloth"] (AnI K):=by
  have Ags:Ar P w K mg base CX0 2 t.Dz t.NP _ _:=Aem T
  refine T.measured.F.ok AnG (fun vs H Q E h=>?_) (fun cdv A outer s H vs Q E hr h=>?_)
  · obtain ⟨a,cl,m,n,rfl,_⟩:=h
    rfl
  · obtain ⟨a,cl,m,n,rfl,hS,C,k⟩:=h
    exact ⟨_,(Ae (Aq (Ak (Ags.mono (by decide)) hr rfl T.My.m T.My.F.kp T.My.b .nil Ba (Aa (pv 0) (Aa Aj (Aa GR Ac)))))),_,rfl,a,cl,m,n,rfl,hS,C,k⟩
def Amc (K:PySem.W.Frag):Sp:=fun vs H Q _=>∃ (a:Addr) (cl:List (List Nat)) (m n e:Nat),vs=[.ref a,.int (e:Int)]∧SqL K H a (vS cl)∧Cl cl m n∧e < m∧∀ H',Ax H H'→Q (.str (tx (col cl e))) H'
theorem Amd (T:Txt K mg t):Ar P w K mg base CX0 1 t.HW t.Aap ["cloth", "end"] (Amc K):=by
  refine T.AbZ.F.ok AlX (fun vs H Q E h=>?_) (fun cdv A outer s H vs Q E hr h=>?_)
  · obtain ⟨a,cl,m,n,e,rfl,_⟩:=h
    rfl
  · obtain ⟨a,cl,m,n,e,rfl,hS,C,he,k⟩:=h
    have c2:=C.n40
    have c4:=C.m40
    refine ⟨_,(Ae (Aq (Gg (K:=K) PySem.F.plainAttrs_str PySem.F.slot_str_join PySem.F.type_str_join (Mm (K:=K)) GR (Aa (Jj (Fv.mk (Bl:=[1]) (Nc:=["text", "end"]) rfl (by decide +kernel) (by decide +kernel) (Es (sc0:=Ab Fy) rfl (by decide +kernel)) rfl rfl rfl (by decide +kernel) (fun k j h=>match k,h with | 0,h=>by obtain rfl:=Option.some.inj h; exact ⟨_,rfl,rfl,rfl⟩ | _+1,h=>by simp at h)) rfl (Br (K:=K) (pv 0)) (fun _ _ _ _ _=>.nil) (fun _ _ _ _ _=>(Bu AlG (pv 0) (pv 1) (fun _ _=>rfl)))) Ac)))),?_⟩
    refine ⟨rfl,_,rfl,_,rfl,⟨_,hS⟩,Dk (K:=K) (a:=a) (xs:=vS cl) (fun i ys H2=>H2=H∧ys=vS ((cl.take i).map fun t=>[t.getD e 0])) ⟨rfl,rfl⟩ ?_ ?_ ?_ ?_⟩
    · rintro i ys H2 hi ⟨rfl,rfl⟩
      refine ⟨hS,?_⟩
      rw [Cz,List.length_map,List.length_take]
      omega
    · rw [Cz,C.hn]; exact JM c2
    · rintro i x ys H2 hi hx ⟨rfl,rfl⟩
      obtain ⟨t,ht,rfl⟩:=Aaj hx
      have htm:=List.mem_of_getElem? ht
      have htl:=C.hm t htm
      have hel:e < t.length:=by omega
      refine Hy.no ?_
      refine ⟨_,rfl,_,rfl,_,_,t[e],rfl,rfl,(by rw [Bt,htl]; exact JM c4),(by rw [O4]; exact AlF (List.getElem?_eq_getElem hel)),?_⟩
      refine CN.of hi ⟨rfl,?_⟩
      rw [AlN,Ml,List.take_add_one,ht,List.map_append]
      simp [List.getD,hel]
    · rintro ys H2 p ⟨rfl,rfl⟩ hp
      rw [Cz,List.take_length]
      refine ⟨_,_,((cl.map fun t=>[t.getD e 0]).map tx),rfl,rfl,SqL.of (by rw [Ah,Wf]),?_,?_⟩
      · have e1:=AtM (fun t:List Nat=>t.getD e 0) cl
        rw [e1,List.length_map,List.length_map,C.hn]
        have:n * (Str.length "")=0:=by rw [show Str.length "" = 0 from by decide +kernel]; omega
        omega
      · rw [show (("" : Str))=tx [] from by decide +kernel,AlO]
        have e2:(cl.map fun t=>[t.getD e 0]).flatten=col cl e:=Alm (fun t:List Nat=>t.getD e 0) cl
        rw [e2]
        exact k _ (.upd hp)
def rf (u:List Nat) (p:Nat):List (Str × V):=[("text", .str (tx u)),("place", .int (p:Int))]
def Rd (t:Adr) (H:Hp) (r dx:Addr) (u:List Nat) (p:Nat):Prop:=H r=some (.ins t.Al dx (rf u p))∧p≤u.length∧u.length≤1000000
theorem Aen (u:List Nat) (p:Nat):(rf u p).lookup ("text" : Str)=some (V.str (tx u)):=rfl
theorem Qy (u:List Nat) (p:Nat):(rf u p).lookup ("place" : Str)=some (V.int (p:Int)):=rfl
theorem AvI (u:List Nat) (p q:Nat):We "place" (.int (q:Int)) (rf u p)=rf u q:=rfl
theorem big {n:Nat} (h:n≤1000000):n≤sizeLine:=Nat.le_trans h (by decide)
def Asu (t:Adr):Sp:=fun vs H Q _=>∃ r dx u p,vs=[.ref r]∧Rd t H r dx u p∧Q (.bl (decide (p=u.length))) H
theorem Zy (T:Txt K mg t):Ar P w K mg base CX0 1 t.Du t.Mv ["self"] (Asu t):=by
  refine T.JB.F.ok Ah7 (fun vs H Q E h=>?_) (fun cdv A outer s H vs Q E hr h=>?_)
  · obtain ⟨r,dx,u,p,rfl,_⟩:=h
    rfl
  · obtain ⟨r,dx,u,p,rfl,⟨hr1,hp,hu⟩,k⟩:=h
    refine ⟨_,(Ae (Aq (ApE T9 (Bf (K:=K) (pv 0) rfl) (Ao Gf rfl T.DR Cd (Aa (Bf (K:=K) (pv 0) rfl) Ac)) (Bm _)))),?_⟩
    refine ⟨_,rfl,_,_,_,_,_,rfl,hr1,T.Cj.c,T.Bs,Qy u p,?_⟩
    refine ⟨_,rfl,_,_,_,_,_,rfl,hr1,T.Cj.c,T.Dw,Aen u p,?_⟩
    refine ⟨_,rfl,(by rw [Bt]; exact big hu),rfl,?_⟩
    have e:decide (V.int (p:Int)=V.int ((tx u).length:Int))=decide (p=u.length):=by
      rw [Bt]
      apply decide_eq_decide.mpr
      constructor
      · intro z; injection z with z; omega
      · intro z; rw [z]
    rw [e]
    exact k
def Aup (t:Adr):Sp:=fun vs H Q _=>∃ r dx u p v,vs=[.ref r,.str (tx v)]∧Rd t H r dx u p∧v.length≤100 ∧
  ((u.drop p).take v.length=v→Q (.bl true) (upd H r (.ins t.Al dx (rf u (p+v.length)))))∧((u.drop p).take v.length≠v→Q (.bl false) H)
theorem ApX {u:List Nat} {p n:Nat} (h:p≤u.length):AoS u (some (p:Int)) (some ((p:Int)+(n:Int)))=(u.drop p).take n:=by
  unfold AoS
  rw [show ((p:Int)+(n:Int))=((p+n:Nat):Int) by omega,HT.AlC,HT.AlC,Nat.min_eq_left h]
  by_cases h2:p+n≤u.length
  · rw [Nat.min_eq_left h2,Nat.add_sub_cancel_left]
  · rw [Nat.min_eq_right (by omega),List.take_of_length_le (by rw [List.length_drop]; omega),List.take_of_length_le (by rw [List.length_drop]; omega)]
theorem M5 (T:Txt K mg t):Ar P w K mg base CX0 1 t.CZ t.Jg ["self", "wanted"] (Aup t):=by
  refine T.Fp.F.ok Aan (fun vs H Q E h=>?_) (fun cdv A outer s H vs Q E hr h=>?_)
  · obtain ⟨r,dx,u,p,v,rfl,_⟩:=h
    rfl
  · obtain ⟨r,dx,u,p,v,rfl,⟨hr1,hp,hu⟩,hv,k1,k2⟩:=h
    refine ⟨_,(Ad (Bo (i:=2) Aan.nd rfl (Or.inl rfl) (Bp GX (Bf (K:=K) (pv 0) rfl) (Ao Gf rfl T.DR Cd (Aa (pv 1) Ac))))
      (Ad (BL (Av Zw (Xi ArK (Bf (K:=K) (pv 0) rfl) (Mj (Bf (K:=K) (pv 0) rfl)) (Mj (pv 2))) (pv 1) (Bm _))
        (Ae (Aq G3))
        Bc)
      (Ad (Rk (K:=K) (pv 0) (pv 2))
      (Ae (Aq G3))))),?_⟩
    refine ⟨_,rfl,_,_,_,_,_,rfl,hr1,T.Cj.c,T.Bs,Qy u p,_,rfl,_,rfl,(by rw [Bt]; exact big (by omega)),_,_,rfl,rfl,?_⟩
    rw [Bt]
    refine ⟨_,rfl,_,_,_,_,_,rfl,hr1,T.Cj.c,T.Dw,Aen u p,?_⟩
    refine ⟨_,rfl,_,_,_,_,_,rfl,hr1,T.Cj.c,T.Bs,Qy u p,_,rfl,_,rfl,_,rfl,u,rfl,big hu,_,rfl,rfl,_,rfl,?_⟩
    rw [ApX hp]
    by_cases hc:(u.drop p).take v.length=v
    · refine TF (by rw [hc]) ?_
      refine ⟨_,rfl,_,rfl,_,_,_,_,rfl,hr1,T.Cj.c,T.Bs,(by show 2 < 1000; decide),?_⟩
      show Q (.bl true) (upd H r (.ins t.Al dx (We ("place" : Str) (.int ((p:Int)+(v.length:Int))) (rf u p))))
      rw [show ((p:Int)+(v.length:Int))=((p+v.length:Nat):Int) by omega,AvI]
      exact k1 hc
    · refine ArE (fun z=>hc (by injection z with z; exact Adl z)) ?_
      exact k2 hc
def dg (c:Nat):Bool:=decide (48≤c∧c≤57)
def Ads (l:List Nat):List Nat:=l.takeWhile dg
def Asv (v:List Nat):V:=if (1≤v.length∧v.length≤2)∧¬ (v.length=2∧v[0]?=some 48) then .int ((PySem.NumText.digitsVal v:Nat):Int) else .non
theorem Ame:∀ (l:List Nat) (n:Nat),n≤l.length→(∀ c∈l.take n,dg c=true)→(∀ c,l[n]?=some c→dg c=false)→Ads l=l.take n
  | [],n,h,_,_=>by simp [Ads]
  | c::l,0,_,_,h2=>by
    unfold Ads
    rw [List.takeWhile_cons,h2 c rfl]
    rfl
  | c::l,n+1,h,h1,h2=>by
    have hc:dg c=true:=h1 c (by simp)
    have:=Ame l n (by simpa using h) (fun d hd=>h1 d (by rw [List.take_succ_cons]; exact List.mem_cons_of_mem _ hd)) (fun d hd=>h2 d (by simpa using hd))
    unfold Ads at this ⊢
    rw [List.takeWhile_cons,if_pos hc,this,List.take_succ_cons]
theorem Asw {H:Hp} {r:Addr} {o:HO} (h:H r=some o):upd H r o=H:=by
  funext b
  unfold upd
  split
  next e=>rw [e,h]
  next=>rfl
theorem z48 (c:Nat):(V.str ⟨#[c]⟩:V)=V.str "0" ↔ c=48:=by
  have e:(("0" : Str))=tx [48]:=by decide +kernel
  rw [e]
  exact ⟨fun z=>by injection z with z; exact (List.cons.inj (Adl (a:=[c]) (b:=[48]) z)).1,fun z=>by rw [z]; rfl⟩
def Asx:Sp:=fun vs H Q _=>∃ v:List Nat,vs=[.str (tx v)]∧(∀ c∈v,48≤c∧c≤57)∧v.length≤1000000∧Q (Asv v) H
theorem Amf (T:Txt K mg t):Ar P w K mg base CX0 1 t.Ia t.Aas ["figures"] Asx:=by
  refine T.Acd.F.ok AlZ (fun vs H Q E h=>?_) (fun cdv A outer s H vs Q E hr h=>?_)
  · obtain ⟨v,rfl,_⟩:=h
    rfl
  · obtain ⟨v,rfl,hd,hl,k⟩:=h
    have sz:(tx v).length≤sizeLine:=by rw [Bt]; exact big hl
    refine ⟨_,(Ad (BL (PW.pt (pw_or (Av RQ (Ao Gf rfl T.DR Cd (Aa (pv 0) Ac)) Aj (Bm _)) (pw_or1 (Av Acw (Ao Gf rfl T.DR Cd (Aa (pv 0) Ac)) Aj (Bm _)))))
        (Ae (Aq AoC))
        Bc)
      (Ad (BL (PW.pt (pw_and (Av T9 (Ao Gf rfl T.DR Cd (Aa (pv 0) Ac)) Aj (Bm _)) (pw_and1 (Av T9 (Bu AlG (pv 0) Aj (fun _ _=>rfl)) GR (Bm _)))))
        (Ae (Aq AoC))
        Bc)
      (Ae (Aq (FW AqH rfl T.Asp AoQ (Aa (pv 0) Ac)))))),?_⟩
    unfold Asv at k
    refine ⟨_,rfl,_,rfl,sz,_,_,rfl,rfl,_,rfl,?_⟩
    rw [Bt]
    refine Qu (fun c1=>?_) (fun c1=>?_)
    · refine Ak4 ?_
      rw [if_neg (by omega)] at k
      exact k
    · refine ⟨_,rfl,_,rfl,sz,_,_,rfl,rfl,_,rfl,?_⟩
      rw [Bt]
      refine Qu (fun c2=>?_) (fun c2=>?_)
      · rw [if_neg (by omega)] at k
        exact k
      · refine ⟨_,rfl,_,rfl,sz,rfl,_,rfl,?_⟩
        rw [Bt]
        have fin:¬ (v.length=2∧v[0]?=some 48)→∃ z n,[V.str (tx v)]=[V.str z]∧PySem.intText? z=some n∧z.length≤640∧Q (.int n) H:=fun c3=>by
          rw [if_pos ⟨by omega,c3⟩] at k
          refine ⟨tx v,_,rfl,PySem.intText_digits (x:=tx v) (by rw [O4]; exact hd) (by rw [O4]; intro z; rw [z] at c1; simp at c1) (by rw [Bt]; omega),by rw [Bt]; omega,?_⟩
          rw [O4]
          exact k
        refine Qu (fun c3=>?_) (fun c3=>?_)
        · have l2:v.length=2:=by injection c3 with c3; omega
          have h0:0 < v.length:=by omega
          refine ⟨_,rfl,_,_,v[0],rfl,rfl,sz,Fw (by decide) (by rw [O4]; exact List.getElem?_eq_getElem h0),rfl,_,rfl,?_⟩
          refine Qu (fun c4=>?_) (fun c4=>?_)
          · rw [if_neg (fun z=>z.2 ⟨l2,by rw [List.getElem?_eq_getElem h0,(z48 _).mp c4]⟩)] at k
            exact k
          · exact ⟨_,rfl,fin fun z=>c4 ((z48 _).mpr (by have:=z.2; rw [List.getElem?_eq_getElem h0] at this; exact Option.some.inj this))⟩
        · exact Jc ⟨_,rfl,fin fun z=>c3 (by rw [z.1]; rfl)⟩
theorem Rw (u:List Nat) (p:Nat):(rf u p).lookup ("ended" : Str)=none∧(rf u p).lookup ("took" : Str)=none∧(rf u p).lookup ("number" : Str)=none∧(rf u p).lookup ("stretch" : Str)=none:=⟨rfl,rfl,rfl,rfl⟩
def Axy:Sp:=fun vs H Q _=>∃ (C r dx:Addr) (u:List Nat),vs=[.ref r,.str (tx u)]∧H r=some (.ins C dx [])∧Q .non (upd H r (.ins C dx (rf u 0)))
theorem Adt (T:Txt K mg t):Ar P w K mg base CX0 1 t.Ca t.Mu ["self", "text"] (fun vs H Q E=>∃ (r dx:Addr) (u:List Nat),vs=[.ref r,.str (tx u)]∧H r=some (.ins t.Al dx [])∧Q .non (upd H r (.ins t.Al dx (rf u 0)))):=by
  refine T.Ga.F.ok Ado (fun vs H Q E h=>?_) (fun cdv A outer s H vs Q E hr h=>?_)
  · obtain ⟨r,dx,u,rfl,_⟩:=h
    rfl
  · obtain ⟨r,dx,u,rfl,h1,k⟩:=h
    refine ⟨_,(Ad (Rk (K:=K) (pv 0) (pv 1))
      (Ae (Rk (K:=K) (pv 0) Aj))),?_⟩
    refine ⟨_,rfl,_,rfl,_,_,_,_,rfl,h1,T.Cj.c,T.Dw,(by decide),?_⟩
    refine ⟨_,rfl,_,_,_,_,rfl,Ah,T.Cj.c,T.Bs,(by show 1 < 1000; decide),?_⟩
    rw [T8]
    exact k
def Api (t:Adr):Sp:=fun vs H Q _=>∃ r dx u p,vs=[.ref r,.str "0123456789"]∧Rd t H r dx u p∧Q (.str (tx (Ads (u.drop p)))) (upd H r (.ins t.Al dx (rf u (p+(Ads (u.drop p)).length))))
theorem Aeo (T:Txt K mg t):Ar P w K mg base CX0 2 t.Dh t.NB ["self", "signs"] (Api t):=by
  have Sx:Ar P w K mg base CX0 1 t.Du t.Mv _ _:=Zy T
  refine T.Od.F.ok TY (fun vs H Q E h=>?_) (fun cdv A outer s H vs Q E hr h=>?_)
  · obtain ⟨r,dx,u,p,rfl,_⟩:=h
    rfl
  · obtain ⟨r,dx,u,p,rfl,⟨hr1,hp,hu⟩,k⟩:=h
    refine ⟨_,(Ad (Bo (i:=2) TY.nd rfl (Or.inl rfl) (Bf (K:=K) (pv 0) rfl))
      (Ad (Aiq PassesOwn.never (PW.pt (pw_and (G4 (Eh (Aix (pv 0) T.Cj.c T.JB.m (Sx.mono (by decide)) hr T.JB.b .nil Ba))) (pw_and1 (Av Aq0 (Bu AlG (Bf (K:=K) (pv 0) rfl) (Bf (K:=K) (pv 0) rfl) (fun _ _=>rfl)) (pv 1) rfl))))
        (Ae (AoT (K:=K) (pv 0) Aj Avk)))
      (Ae (Aq (Xi ArK (Bf (K:=K) (pv 0) rfl) (Mj (pv 2)) (Mj (Bf (K:=K) (pv 0) rfl))))))),?_⟩
    refine ⟨_,rfl,_,_,_,_,_,rfl,hr1,T.Cj.c,T.Bs,Qy u p,?_⟩
    refine ⟨fun m σ H2=>∃ n,σ=[some (.ref r),some (.str "0123456789"),some (.int (p:Int))]∧H2=upd H r (.ins t.Al dx (rf u (p+n)))∧p+n≤u.length∧(∀ c∈(u.drop p).take n,dg c=true)∧m=u.length - (p+n),
      ⟨_,0,rfl,(Asw hr1).symm,hp,(fun c hc=>by simp at hc),rfl⟩,?_⟩
    rintro m σ H2 ⟨n,rfl,rfl,hn,ha,rfl⟩
    have hS:(upd H r (.ins t.Al dx (rf u (p+n)))) r=some (.ins t.Al dx (rf u (p+n))):=Ah
    have done:(∀ c,(u.drop p)[n]?=some c→dg c=false)→(u.drop p).take n=Ads (u.drop p):=fun hs=>(Ame _ n (by rw [List.length_drop]; omega) ha hs).symm
    have ln:((u.drop p).take n).length=n:=by rw [List.length_take,List.length_drop]; omega
    have e3:AoS u (some (p:Int)) (some ((p+n:Nat):Int))=(u.drop p).take n:=by rw [Int.natCast_add]; exact ApX hp
    have fin:(u.drop p).take n=Ads (u.drop p)→Q (.str (tx (AoS u (some (p:Int)) (some ((p+n:Nat):Int))))) (upd H r (.ins t.Al dx (rf u (p+n)))):=fun e2=>by
      have e1:(Ads (u.drop p)).length=n:=by rw [← e2,ln]
      rw [e3,e2]; rw [e1] at k; exact k
    refine ⟨_,rfl,r,dx,rf u (p+n),rfl,hS,(Rw u _).1,r,dx,u,p+n,rfl,⟨hS,hn,hu⟩,_,rfl,?_⟩
    by_cases c1:p+n=u.length
    · rw [decide_eq_true c1]
      refine Jc ?_
      refine Jc ?_
      exact ⟨_,rfl,_,_,_,_,_,rfl,hS,T.Cj.c,T.Dw,Aen u _,_,rfl,_,rfl,_,rfl,_,_,_,_,_,rfl,hS,T.Cj.c,T.Bs,Qy u _,_,rfl,u,rfl,big hu,
        fin (done fun c hc=>by rw [List.getElem?_eq_none (by rw [List.length_drop]; omega)] at hc; cases hc)⟩
    · rw [decide_eq_false c1]
      refine Ak4 ?_
      have hlt:p+n < u.length:=by omega
      refine ⟨_,rfl,_,_,_,_,_,rfl,hS,T.Cj.c,T.Dw,Aen u _,_,rfl,_,_,_,_,_,rfl,hS,T.Cj.c,T.Bs,Qy u _,_,_,u[p+n],rfl,rfl,(by rw [Bt]; exact big hu),
        Fw (by omega) (by rw [Int.toNat_natCast,O4]; exact List.getElem?_eq_getElem hlt),_,rfl,_,_,rfl,rfl,_,rfl,?_⟩
      rw [AtN]
      refine Qu (fun c2=>?_) (fun c2=>?_)
      · refine ⟨_,fun σ' H' h=>h,?_⟩
        refine ⟨_,rfl,_,_,_,_,_,rfl,hS,T.Cj.c,T.Bs,Qy u _,_,_,rfl,rfl,dx,rf u (p+n),hS,(by show 2 < 1000; decide),?_⟩
        refine ⟨u.length - (p+(n+1)),by omega,n+1,rfl,?_,by omega,fun c hc=>?_,rfl⟩
        · rw [T8]
          rfl
        · rw [List.take_add_one,List.getElem?_drop,List.getElem?_eq_getElem hlt] at hc
          rcases List.mem_append.mp hc with h | h
          · exact ha c h
          · rw [show c=u[p+n] by simpa using h]
            exact decide_eq_true c2
      · exact ⟨_,rfl,_,_,_,_,_,rfl,hS,T.Cj.c,T.Dw,Aen u _,_,rfl,_,rfl,_,rfl,_,_,_,_,_,rfl,hS,T.Cj.c,T.Bs,Qy u _,_,rfl,u,rfl,big hu,
          fin (done fun c hc=>by rw [List.getElem?_drop,List.getElem?_eq_getElem hlt] at hc; cases hc; exact decide_eq_false c2)⟩
theorem AnK:∀ (l:List Nat),(∀ c∈Ads l,dg c=true)∧(Ads l).length≤l.length
  | []=>⟨fun c hc=>(by cases hc),Nat.le_refl _⟩
  | a::l=>by
    have ih:=AnK l
    unfold Ads at ih ⊢
    rw [List.takeWhile_cons]
    by_cases h:dg a=true
    · rw [if_pos h]
      refine ⟨fun c hc=>?_,by simp only [List.length_cons]; omega⟩
      rcases List.mem_cons.mp hc with e | e
      · rw [e]; exact h
      · exact ih.1 c e
    · rw [if_neg h]
      exact ⟨fun c hc=>(by cases hc),Nat.zero_le _⟩
def AqW (t:Adr):Sp:=fun vs H Q _=>∃ r dx u p,vs=[.ref r]∧Rd t H r dx u p∧Q (Asv (Ads (u.drop p))) (upd H r (.ins t.Al dx (rf u (p+(Ads (u.drop p)).length))))
theorem Agt (T:Txt K mg t):Ar P w K mg base CX0 3 t.Dy t.Q8 ["self"] (AqW t):=by
  have Agu:Ar P w K mg base CX0 2 t.Dh t.NB _ _:=Aeo T
  have AnL:Ar P w K mg base CX0 1 t.Ia t.Aas _ _:=Amf T
  refine T.QF.F.ok Agm (fun vs H Q E h=>?_) (fun cdv A outer s H vs Q E hr h=>?_)
  · obtain ⟨r,dx,u,p,rfl,_⟩:=h
    rfl
  · obtain ⟨r,dx,u,p,rfl,hR,k⟩:=h
    refine ⟨_,(Ae (Aq (Ak (AnL.mono (by decide)) hr rfl T.Acd.m T.Acd.F.kp T.Acd.b .nil Ba (Aa (AdU (pv 0) T.Cj.c T.Od.m (Agu.mono (by decide)) hr T.Od.b .nil Ba (Aa (K8 (v:=.str "0123456789") rfl T.AqV.choose_spec ⟨_,rfl⟩) Ac)) Ac)))),?_⟩
    have hf:=AnK (u.drop p)
    refine ⟨_,rfl,r,dx,rf u p,rfl,hR.1,(Rw u p).2.2.2,r,dx,u,p,rfl,hR,?_⟩
    exact ⟨_,rfl,fun c hc=>of_decide_eq_true (hf.1 c hc),by have:=hR.2.2; have:=hf.2; rw [List.length_drop] at this; omega,k⟩
end
def Wo (a b:Int):List Int:=if a < b then Agf (a+1) 1 (b - a).toNat else Agf (a - 1) (-1) (a - b).toNat
def AiV (z:Int):Int:=if z < 0 then -z else z
def go (a:Int):List Int→List Int
  | []=>[]
  | b::r=>Wo a b++go b r
def Xu:List Int→List Int
  | []=>[]
  | s::r=>s::go s r
def lst (a:Int):List Int→Int
  | []=>a
  | b::r=>lst b r
theorem Aep:∀ (a:Int) (r:List Int) (b:Int),go a (r++[b])=go a r++Wo (lst a r) b
  | a,[],b=>by simp [go,lst]
  | a,c::r,b=>by rw [List.cons_append,go,Aep c r b,go,lst,List.append_assoc]
theorem lst_snoc:∀ (a:Int) (r:List Int) (b:Int),lst a (r++[b])=b
  | a,[],b=>rfl
  | a,c::r,b=>by rw [List.cons_append,lst,lst_snoc c r b]
theorem AnM (a c:Int) (n:Nat):(Agf a c n).length=n:=by unfold Agf; rw [List.length_map,List.length_range]
theorem Aeq (a b:Int):((Wo a b).length:Int)=AiV (b - a):=by
  unfold Wo AiV
  split
  · rw [AnM,if_neg (by omega)]; omega
  · rw [AnM]
    split <;> omega
theorem AnN {a c:Int} {n i:Nat} (h:i < n):(Agf a c n)[i]?=some (a+(i:Int) * c):=by
  unfold Agf
  rw [List.getElem?_map,List.getElem?_range h]
  rfl
theorem AnO {a b:Int} {q:Nat} (h1:1≤q) (h2:(q:Int)≤AiV (b - a)):(Wo a b)[q - 1]?=some (a+(if b - a < 0 then -1 else 1) * (q:Int)):=by
  unfold Wo
  unfold AiV at h2
  by_cases c:a < b
  · rw [if_pos c,AnN (by rw [if_neg (by omega)] at h2; omega),if_neg (by omega)]
    congr 1
    omega
  · rw [if_neg c]
    by_cases d:b - a < 0
    · rw [if_pos d] at h2 ⊢
      rw [AnN (by omega)]
      congr 1
      omega
    · rw [if_neg d] at h2
      omega
theorem AiW {l r:List Int} (h:r≠[]):(l++r).getLast?=r.getLast?:=by
  rw [List.getLast?_append]
  cases e:r.getLast? with
  | none=>exact absurd (List.getLast?_eq_none_iff.mp e) h
  | some z=>rfl
theorem Als {a b:Int} (h:a≠b):(Wo a b).getLast?=some b:=by
  have hl:=Aeq a b
  have pos:0 < (Wo a b).length:=by unfold AiV at hl; split at hl <;> omega
  rw [List.getLast?_eq_getElem?]
  have e:=AnO (a:=a) (b:=b) (q:=(Wo a b).length) pos (by omega)
  rw [e]
  congr 1
  rw [hl]
  unfold AiV
  split <;> omega
theorem Asy (a:Int):Wo a a=[]:=by
  have:=Aeq a a
  unfold AiV at this
  have h:(Wo a a).length=0:=by split at this <;> omega
  exact List.eq_nil_of_length_eq_zero h
theorem ApY:∀ (l:List Int) (a:Int) (r:List Int),l.getLast?=some a→(l++go a r).getLast?=some (lst a r)
  | l,a,[],h=>by simpa [go,lst] using h
  | l,a,b::r,h=>by
    rw [go,lst,← List.append_assoc]
    refine ApY _ b r ?_
    by_cases e:a=b
    · rw [e,Asy,List.append_nil,← e]; exact h
    · rw [AiW (fun z=>by have:=Als e; rw [z] at this; cases this)]
      exact Als e
theorem AqX (s:Int) (r:List Int):(s::go s r).getLast?=some (lst s r):=ApY [s] s r rfl
section
variable {P:Program} {w:World} {K:PySem.W.Frag} {mg:Str→Option Value} {base:Heap} {t:Adr}
theorem fits {z:Int} (h:z.natAbs≤1000000):Builtin.Range.rangeFitsLong z=true:=by
  unfold Builtin.Range.rangeFitsLong
  simp only [Bool.and_eq_true,decide_eq_true_eq]
  omega
def Asz:Sp:=fun vs H Q _=>∃ (a b:Int),vs=[.int a,.int b]∧a.natAbs≤400∧b.natAbs≤400∧∀ l H',Ax H H'→H l=none→H' l=some (.lst (vI (Wo a b)))→Q (.ref l) H'
theorem Agv (T:Txt K mg t):Ar P w K mg base CX0 1 t.Ep t.QC ["start", "stop"] Asz:=by
  refine T.Ph.F.ok Agk (fun vs H Q E h=>?_) (fun cdv A outer s H vs Q E hr h=>?_)
  · obtain ⟨a,b,rfl,_⟩:=h
    rfl
  · obtain ⟨a,b,rfl,ha,hb,k⟩:=h
    refine ⟨_,(Ad (BL (Av RQ (pv 0) (pv 1) (Bm _))
        (Ae (Aq (FW Ai7 rfl T.M4 Jk (Aa (FW AqF rfl T.GJ Anu (Aa (Bp GX (pv 0) Aj) (Aa (Bp GX (pv 1) Aj) Ac))) Ac))))
        Bc)
      (Ae (Aq (FW Ai7 rfl T.M4 Jk (Aa (FW AqG rfl T.GJ Anu (Aa (Bp Ym (pv 0) Aj) (Aa (Bp Ym (pv 1) Aj) (Aa (Ais Adj Aj) Ac)))) Ac))))),?_⟩
    refine ⟨_,rfl,_,rfl,_,_,rfl,rfl,_,rfl,?_⟩
    refine Qu (fun c1=>?_) (fun c1=>?_)
    · refine ⟨_,rfl,_,_,rfl,rfl,_,rfl,_,_,rfl,rfl,_,_,rfl,fun p hp=>?_⟩
      have rs:Builtin.Range.rangeSize (a+1) (b+1) 1=((b - a).toNat:Int):=by
        unfold Builtin.Range.rangeSize
        rw [if_pos (by decide),if_pos (by omega),Int.ediv_one]
        omega
      refine ⟨p,a+1,b+1,1,(b - a).toNat,rfl,Ah,?_,rs,by omega,fun l hl=>?_⟩
      · unfold Builtin.Range.small
        rw [rs,fits (by omega),fits (by omega),fits (by omega),fits (by omega)]
        simp only [show (1:Int) > 0 by decide,if_true,Bool.true_and,Bool.or_eq_true]
        exact .inr (fits (by omega))
      · have:Wo a b=Agf (a+1) 1 (b - a).toNat:=if_pos c1
        rw [← this]
        exact k l _ ((Ax.upd hp).new hl) ((Ax.upd hp).free hl) Ah
    · refine ⟨_,rfl,_,_,rfl,rfl,_,rfl,_,_,rfl,rfl,_,rfl,_,_,_,rfl,(by decide),(by decide),fun p hp=>?_⟩
      have rs:Builtin.Range.rangeSize (a - 1) (b - 1) (-1)=((a - b).toNat:Int):=by
        unfold Builtin.Range.rangeSize
        rw [if_neg (by decide)]
        by_cases c2:a - 1 > b - 1
        · rw [if_pos c2,show -(-1:Int)=1 by decide,Int.ediv_one]
          omega
        · rw [if_neg c2]
          omega
      refine ⟨p,a - 1,b - 1,-1,(a - b).toNat,rfl,Ah,?_,rs,by omega,fun l hl=>?_⟩
      · unfold Builtin.Range.small
        rw [rs,fits (by omega),fits (by omega),fits (by decide),fits (by omega)]
        simp only [show ¬ ((-1:Int) > 0) by decide,if_false,Bool.true_and,Bool.or_eq_true]
        exact .inr (fits (by omega))
      · have:Wo a b=Agf (a - 1) (-1) (a - b).toNat:=if_neg c1
        rw [← this]
        exact k l _ ((Ax.upd hp).new hl) ((Ax.upd hp).free hl) Ah
def pf (l:Addr):List (Str × V):=[("stops", .ref l)]
theorem AnP (l:Addr):(pf l).lookup ("stops" : Str)=some (V.ref l):=rfl
theorem Agw (T:Txt K mg t):Ar P w K mg base CX0 1 t.Dc t.Q9 ["self", "stops"] (fun vs H Q E=>∃ (r dx l:Addr),vs=[.ref r,.ref l]∧H r=some (.ins t.Eu dx [])∧Q .non (upd H r (.ins t.Eu dx (pf l)))):=by
  refine T.KN.F.ok Agn (fun vs H Q E h=>?_) (fun cdv A outer s H vs Q E hr h=>?_)
  · obtain ⟨r,dx,l,rfl,_⟩:=h
    rfl
  · obtain ⟨r,dx,l,rfl,h1,k⟩:=h
    refine ⟨_,(Ae (Rk (K:=K) (pv 0) (pv 1))),?_⟩
    exact ⟨_,rfl,_,rfl,_,_,_,_,rfl,h1,T.Y4.c,T.Eg,(by decide),k⟩
def dst (ss:List Int) (k:Nat):Int:=AiV (ss.getD (k+1) 0 - ss.getD k 0)
def Agx (ss:List Int) (k:Nat):Int:=1+((List.range k).map (dst ss)).sum
theorem Agy (ss:List Int) (k:Nat):Agx ss (k+1)=Agx ss k+dst ss k:=by
  unfold Agx
  rw [List.range_succ,List.map_append,List.sum_append]
  simp
  omega
theorem AuM {ks:List Int} {i:Int} (h0:0≤i) (h:i.toNat < ks.length):atI (vI ks) i=some (.int (ks.getD i.toNat 0)):=Fw h0 (by
  rw [RT (List.getElem?_eq_getElem h)]
  simp [List.getD,h])
structure IsP (t:Adr) (H:Hp) (a dx l:Addr) (ss:List Int):Prop where
  o:H a=some (.ins t.Eu dx (pf l))
  l:H l=some (.lst (vI ss))
  ne:1≤ss.length
  le:ss.length≤1000
def As0 (t:Adr):Sp:=fun vs H Q _=>∃ (a dx l:Addr) (ss:List Int),vs=[.ref a]∧IsP t H a dx l ss∧Q (.int (Agx ss (ss.length - 1))) H
theorem Amg (T:Txt K mg t):Ar P w K mg base CX0 1 t.Hd t.Aao ["self"] (As0 t):=by
  refine T.Aaz.F.ok Rm (fun vs H Q E h=>?_) (fun cdv A outer s H vs Q E hr h=>?_)
  · obtain ⟨a,dx,l,ss,rfl,_⟩:=h
    rfl
  · obtain ⟨a,dx,l,ss,rfl,hP,k⟩:=h
    have ne:=hP.ne
    have le:=hP.le
    refine ⟨_,(Ad (Bo (i:=1) Rm.nd rfl (Or.inl rfl) Aj)
      (Ad (Et PassesOwn.never rfl (Alc rfl T.GJ (Aa Aj (Aa (Ao (An (K:=K)) rfl T.DR Cd (Aa (Bf (K:=K) (pv 0) rfl) Ac)) Ac))) (Cg (i:=2) Rm.nd rfl (Or.inl rfl))
        (Ae (AuZ (i:=1) Rm.nd rfl (Or.inl rfl) (Ao Ank rfl T.AuK ArF (Aa (Bp Ym (Bu (Az (K:=K)) (Bf (K:=K) (pv 0) rfl) (pv 2) (fun _ _=>rfl)) (Bu (Az (K:=K)) (Bf (K:=K) (pv 0) rfl) (Bp Ym (pv 2) Aj) (fun _ _=>rfl))) Ac)) Ava)))
      (Ae (Aq (pv 1))))),?_⟩
    refine ⟨_,rfl,_,_,_,_,_,rfl,hP.o,T.Y4.c,T.Eg,AnP l,_,_,rfl,.inl (SqL.of hP.l),_,_,rfl,⟨by decide,by decide,by rw [Bd]; omega,by rw [Bd]; omega⟩,?_⟩
    rw [Bd]
    refine Gz (lo:=1) (n:=((ss.length:Int) - 1).toNat) (fun i σ H2=>∃ v,σ=[some (.ref a),some (.int (Agx ss i)),v]∧H2=H) ⟨none,rfl,rfl⟩ ?_ ?_
    · rintro i σ H2 hi ⟨v,rfl,rfl⟩
      have e1:=AuM (ks:=ss) (i:=1+(i:Int)) (by omega) (by omega)
      have e2:=AuM (ks:=ss) (i:=1+(i:Int) - 1) (by omega) (by omega)
      rw [show (1+(i:Int)).toNat=i+1 by omega] at e1
      rw [show (1+(i:Int) - 1).toNat=i by omega] at e2
      refine ⟨_,rfl,_,rfl,_,_,_,_,_,rfl,hP.o,T.Y4.c,T.Eg,AnP l,_,rfl,_,_,_,_,rfl,rfl,SqL.of hP.l,e1,?_⟩
      refine ⟨_,rfl,_,_,_,_,_,rfl,hP.o,T.Y4.c,T.Eg,AnP l,_,rfl,_,_,rfl,rfl,_,_,_,_,rfl,rfl,SqL.of hP.l,e2,_,_,rfl,rfl,_,rfl,_,_,rfl,rfl,?_⟩
      exact ⟨some (.int (1+(i:Int))),by rw [Agy]; rfl,rfl⟩
    · rintro σ H2 ⟨v,rfl,rfl⟩
      refine ⟨_,rfl,?_⟩
      rw [show ((ss.length:Int) - 1).toNat=ss.length - 1 by omega]
      exact k
theorem Ano {ks:List Int} {z:Int} (h:ks.getLast?=some z):atI (vI ks) (-1)=some (.int z):=by
  have hne:0 < ks.length:=by
    cases ks with
    | nil=>cases h
    | cons a l=>exact Nat.succ_pos _
  rw [List.getLast?_eq_getElem?] at h
  unfold atI ixN
  rw [if_neg (by decide),Bd]
  rw [if_pos (by omega)]
  have:((ks.length:Int)+-1).toNat=ks.length - 1:=by omega
  show (some _).bind _=_
  rw [Option.bind_some]
  first
    | (rw [this]; exact RT h)
    | (rw [show (-1+(ks.length:Int)).toNat=ks.length - 1 by omega]; exact RT h)
theorem As1:∀ (ss:List Int) (i:Nat),i+1≤ss.length→((Xu (ss.take (i+1))).length:Int)=Agx ss i:=by
  intro ss i
  induction i with
  | zero =>
    intro h
    cases ss with
    | nil=>simp at h
    | cons s r=>simp [Xu,go,Agx]
  | succ i ih =>
    intro h
    have hlt:i+1 < ss.length:=by omega
    have e:=ih (by omega)
    rw [Agy,← e]
    cases ss with
    | nil=>simp at h
    | cons s r =>
      have hr:i < r.length:=by simpa using hlt
      rw [List.take_succ_cons,List.take_succ_cons,List.take_add_one,List.getElem?_eq_getElem hr]
      show ((Xu (s::(r.take i++[r[i]]))).length:Int)=_
      rw [Xu,Aep,Xu,List.length_cons,List.length_append,List.length_cons]
      have d:((Wo (lst s (r.take i)) r[i]).length:Int)=dst (s::r) i:=by
        rw [Aeq]
        unfold dst
        have e1:(s::r).getD (i+1) 0=r[i]:=by simp [List.getD,hr]
        have e2:(s::r).getD i 0=lst s (r.take i):=by
          cases i with
          | zero=>simp [lst]
          | succ j =>
            have hj:j < r.length:=by omega
            rw [List.take_add_one,List.getElem?_eq_getElem hj]
            show _=lst s (r.take j++[r[j]])
            rw [lst_snoc]
            simp [List.getD,hj]
        rw [e1,e2]
      omega
theorem AqY (ss:List Int):∀ {i j:Nat},i≤j→Agx ss i≤Agx ss j:=by
  intro i j h
  induction h with
  | refl=>exact Int.le_refl _
  | @step m _ ih =>
    have:0≤dst ss m:=by unfold dst AiV; split <;> omega
    have e:=Agy ss m
    show Agx ss i≤Agx ss (m+1)
    omega
def Auq (t:Adr):Sp:=fun vs H Q _=>∃ (a dx l:Addr) (ss:List Int),vs=[.ref a]∧IsP t H a dx l ss∧Agx ss (ss.length - 1)≤400∧(∀ s∈ss,s.natAbs≤400)∧∀ q H',Ax H H'→H q=none→H' q=some (.lst (vI (Xu ss)))→Q (.ref q) H'
theorem Ah8 (T:Txt K mg t):Ar P w K mg base CX0 2 t.El t.RX ["self"] (Auq t):=by
  have Ah9:Ar P w K mg base CX0 1 t.Ep t.QC _ _:=Agv T
  refine T.Sv.F.ok Q7 (fun vs H Q E h=>?_) (fun cdv A outer s H vs Q E hr h=>?_)
  · obtain ⟨a,dx,l,ss,rfl,_⟩:=h
    rfl
  · obtain ⟨a,dx,l,ss,rfl,hP,Azo,hb,k⟩:=h
    have ne:=hP.ne
    have le:=hP.le
    have hsz:sizeLine=16777216:=sizeLine_eq
    refine ⟨_,(Ad (Bo (i:=1) Q7.nd rfl (Or.inl rfl) (Mi (Aa (Bu (Az (K:=K)) (Bf (K:=K) (pv 0) rfl) Aj (fun _ _=>rfl)) Ac)))
      (Ad (Et PassesOwn.never rfl (Br (K:=K) (Xi (AdY (K:=K)) (Bf (K:=K) (pv 0) rfl) (Mj Aj) AtA)) (Cg (i:=2) Q7.nd rfl (Or.inl rfl))
        (Ae (Ge (Gg (K:=K) PySem.F.plainAttrs_list PySem.F.slot_list_extend PySem.F.type_list_extend Alj (pv 1) (Aa (Ak (Ah9.mono (by decide)) hr rfl T.Ph.m T.Ph.F.kp T.Ph.b .nil Ba (Aa (Bu (Az (K:=K)) (pv 1) (Ais Adj Aj) (fun _ _=>rfl)) (Aa (pv 2) Ac))) Ac)))))
      (Ae (Aq (pv 1))))),?_⟩
    obtain ⟨s0,r,rfl⟩:∃ s0 r,ss=s0::r:=by
      cases ss with
      | nil=>simp at ne
      | cons s0 r=>exact ⟨s0,r,rfl⟩
    refine ⟨_,rfl,_,_,_,_,_,rfl,hP.o,T.Y4.c,T.Eg,AnP l,_,_,_,_,rfl,rfl,SqL.of hP.l,Fw (by decide) rfl,(by show 1≤sizeLine; decide),fun q hq=>?_⟩
    have s1:Ax H (upd H q (.lst [.int s0])):=.upd hq
    refine ⟨_,rfl,_,_,_,_,_,rfl,s1 _ _ hP.o,T.Y4.c,T.Eg,AnP l,_,rfl,_,_,rfl,SqL.of (s1 _ _ hP.l),fun p hp=>?_⟩
    have e1:AlD (vI (s0::r)) (some 1) none=vI r:=by
      unfold AlD
      have e0:HT.sIx (vI (s0::r)).length 0 (some 1)=1:=by
        show HT.sIx (vI (s0::r)).length 0 (some ((1:Nat):Int))=1
        rw [HT.AlC,Bd,List.length_cons]
        omega
      rw [e0,HT.Ar6,Bd,List.length_cons]
      show (vI r).take _=vI r
      rw [List.take_of_length_le (by rw [Bd]; omega)]
    rw [e1]
    have s2:Ax H (upd (upd H q (.lst [.int s0])) p (.lst (vI r))):=s1.new hp
    have nqp:q≠p:=Ce (Ah (H:=H)) hp
    refine ⟨_,rfl,⟨_,SqL.of Ah⟩,?_⟩
    refine Ha (K:=K) (a:=p) (xs:=vI r) (fun i σ H2=>∃ v,σ=[some (.ref a),some (.ref q),v]∧Ax H H2∧H2 p=some (.lst (vI r))∧H2 q=some (.lst (vI (s0::go s0 (r.take i)))))
      ⟨none,rfl,s2,Ah,by rw [Be nqp,Ah]; rfl⟩ (fun i σ H2 _ ⟨_,_,_,e,_⟩=>SqL.of e) ?_ ?_
    · rintro i xv σ H2 hx ⟨v,rfl,s3,hp3,hq3⟩
      obtain ⟨z,hz,rfl⟩:=Ku hx
      have hir:i < r.length:=(List.getElem?_eq_some_iff.mp hz).1
      have bz:z.natAbs≤400:=hb z (List.mem_cons_of_mem _ (List.mem_of_getElem? hz))
      have bl:(lst s0 (r.take i)).natAbs≤400:=by
        cases i with
        | zero=>exact hb s0 List.mem_cons_self
        | succ j =>
          have hj:j < r.length:=by omega
          rw [List.take_add_one,List.getElem?_eq_getElem hj]
          show (lst s0 (r.take j++[r[j]])).natAbs≤400
          rw [lst_snoc]
          exact hb _ (List.mem_cons_of_mem _ (List.getElem_mem hj))
      have hlen:=As1 (s0::r) (i+1) (by rw [List.length_cons]; omega)
      have AyD:=AqY (s0::r) (i:=i+1) (j:=(s0::r).length - 1) (by simp; omega)
      have e5:(s0::r).take (i+1+1)=s0::(r.take i++[z]):=by rw [List.take_succ_cons,List.take_add_one,hz]; rfl
      rw [e5,Xu,Aep,List.length_cons,List.length_append] at hlen
      refine ⟨_,rfl,.inl ⟨rfl,_,SqL.of hq3⟩,_,rfl,_,rfl,_,_,_,_,rfl,rfl,SqL.of hq3,Ano (AqX s0 (r.take i)),_,rfl,lst s0 (r.take i),z,rfl,bl,bz,fun l2 H3 s4 nl2 hl2=>?_⟩
      refine ⟨q,l2,_,_,rfl,rfl,s4 _ _ hq3,hl2,(by rw [Bd,Bd,List.length_cons]; omega),?_⟩
      have n2:l2≠q:=(Ce hq3 nl2).symm
      have np:p≠q:=nqp.symm
      refine ⟨_,rfl,(s3.trans s4).over hq,by rw [Be np]; exact s4 _ _ hp3,?_⟩
      rw [Ah,List.take_add_one,hz]
      show some (HO.lst (vI (s0::go s0 (r.take i))++vI (Wo (lst s0 (r.take i)) z)))=some (HO.lst (vI (s0::go s0 (r.take i++[z]))))
      rw [Aep]
      unfold vI
      rw [← List.map_append]
      rfl
    · rintro σ H2 ⟨v,rfl,s3,hp3,hq3⟩
      refine ⟨_,rfl,k q H2 s3 hq ?_⟩
      rw [hq3,Bd,List.take_length]
      rfl
end
inductive It where
  | pth (ss:List Int)
  | tms (n:Nat) (xs:List It)
def psz (ss:List Int):Int:=Agx ss (ss.length - 1)
mutual
def It.sz:It→Int
  | .pth ss=>psz ss
  | .tms n xs=>(n:Int) * szs xs
def szs:List It→Int
  | []=>0
  | x::xs=>x.sz+szs xs
end
theorem Y5:∀ xs:List It,szs xs=(xs.map It.sz).sum
  | []=>by simp [szs]
  | x::xs=>by simp only [szs,List.map_cons,List.sum_cons]; rw [Y5 xs]
mutual
def It.nu:It→List Int
  | .pth ss=>Xu ss
  | .tms n xs=>(List.replicate n (nus xs)).flatten
def nus:List It→List Int
  | []=>[]
  | x::xs=>x.nu++nus xs
end
theorem Aer:∀ xs:List It,nus xs=(xs.map It.nu).flatten
  | []=>by simp [nus]
  | x::xs=>by simp only [nus,List.map_cons,List.flatten_cons]; rw [Aer xs]
section
variable {P:Program} {w:World} {K:PySem.W.Frag} {mg:Str→Option Value} {base:Heap} {t:Adr}
def AtP (t:Adr) (H:Hp) (a:Addr) (ss:List Int):Prop:=∃ dx l,IsP t H a dx l ss
theorem AtP.same {H H':Hp} {a:Addr} {ss:List Int} (h:AtP t H a ss) (s:Ax H H'):AtP t H' a ss :=
  let ⟨dx,l,p⟩:=h
  ⟨dx,l,s _ _ p.o,s _ _ p.l,p.ne,p.le⟩
def tf (n:Nat) (l:Addr):List (Str × V):=[("count", .int (n:Int)),("inner", .ref l)]
theorem AnQ (n:Nat) (l:Addr):(tf n l).lookup ("count" : Str)=some (V.int (n:Int)):=rfl
theorem AnR (n:Nat) (l:Addr):(tf n l).lookup ("inner" : Str)=some (V.ref l):=rfl
def AtI (t:Adr) (H:Hp):Nat→Addr→It→Prop
  | _,a,.pth ss=>AtP t H a ss
  | 0,_,.tms _ _=>False
  | d+1,a,.tms n xs=>∃ (dx li:Addr) (rs:List Addr),H a=some (.ins t.Bx dx (tf n li))∧H li=some (.lst (rs.map V.ref))∧n≤99∧rs.length=xs.length∧rs.length≤1000 ∧
      ∀ (i:Nat) r x,rs[i]?=some r→xs[i]?=some x→AtI t H d r x
theorem AtI.same {H H':Hp} (s:Ax H H'):∀ (d:Nat) (a:Addr) (x:It),AtI t H d a x→AtI t H' d a x
  | 0,_,.pth _,h=>AtP.same h s
  | 0,_,.tms _ _,h=>h.elim
  | d+1,_,.pth _,h=>AtP.same h s
  | d+1,_,.tms n xs,h=>by
    obtain ⟨dx,li,rs,h1,h2,h0,h3,h4,h5⟩:=h
    exact ⟨dx,li,rs,s _ _ h1,s _ _ h2,h0,h3,h4,fun i r x e1 e2=>AtI.same s d r x (h5 i r x e1 e2)⟩
structure AnS (t:Adr) (H:Hp) (d:Nat) (rs:List Addr) (xs:List It):Prop where
  len:rs.length=xs.length
  le:rs.length≤1000
  at_:∀ (i:Nat) r x,rs[i]?=some r→xs[i]?=some x→AtI t H d r x
theorem AnS.same {H H':Hp} {d:Nat} {rs:List Addr} {xs:List It} (h:AnS t H d rs xs) (s:Ax H H'):AnS t H' d rs xs:=⟨h.len,h.le,fun i r x e1 e2=>AtI.same s d r x (h.at_ i r x e1 e2)⟩
def Apj (t:Adr) (d:Nat):Sp:=fun vs H Q _=>∃ (li:Addr) (rs:List Addr) (xs:List It),vs=[.ref li]∧H li=some (.lst (rs.map V.ref))∧AnS t H d rs xs∧∀ H',Ax H H'→Q (.int (szs xs)) H'
def Apk (t:Adr):Nat→Sp
  | 0=>fun _ _ _ _=>False
  | d+1=>fun vs H Q _=>∃ (a dx li:Addr) (n:Nat) (rs:List Addr) (xs:List It),vs=[.ref a]∧H a=some (.ins t.Bx dx (tf n li))∧H li=some (.lst (rs.map V.ref))∧n≤99∧AnS t H d rs xs∧∀ H',Ax H H'→Q (.int ((n:Int) * szs xs)) H'
theorem AiX (T:Txt K mg t):Ar P w K mg base CX0 1 t.Fe t.Ro ["self"] (Apk t 0) :=
  T.Ru.F.ok Ac1 (fun vs H Q E h=>h.elim) (fun cdv A outer s H vs Q E hr h=>h.elim)
theorem Ak9 {k d:Nat} (T:Txt K mg t) (Y6:Ar P w K mg base CX0 k t.Fi t.Mw ["row_items"] (Apj t d)) :
    Ar P w K mg base CX0 (k+1) t.Fe t.Ro ["self"] (Apk t (d+1)):=by
  refine T.Ru.F.ok Ac1 (fun vs H Q E h=>?_) (fun cdv A outer s H vs Q E hr h=>?_)
  · obtain ⟨a,dx,li,n,rs,xs,rfl,_⟩:=h
    rfl
  · obtain ⟨a,dx,li,n,rs,xs,rfl,ho,hl,hn,hA,k⟩:=h
    refine ⟨_,(Ae (Aq (Bp Agb (Bf (K:=K) (pv 0) rfl) (Ak (Y6.mono (by omega)) hr rfl T.Lq.m T.Lq.F.kp T.Lq.b .nil Ba (Aa (Bf (K:=K) (pv 0) rfl) Ac))))),?_⟩
    refine ⟨_,rfl,_,_,_,_,_,rfl,ho,T.Rt.c,T.GC,AnQ n li,?_⟩
    refine ⟨_,rfl,_,_,_,_,_,rfl,ho,T.Rt.c,T.GD,AnR n li,?_⟩
    refine ⟨li,rs,xs,rfl,hl,hA,fun H1 s1=>?_⟩
    exact ⟨_,_,rfl,rfl,.inl ⟨by omega,by omega⟩,k H1 s1⟩
theorem Ac2 {k d:Nat} (hk:1≤k) (T:Txt K mg t) (Amh:Ar P w K mg base CX0 k t.Fe t.Ro ["self"] (Apk t d)) :
    Ar P w K mg base CX0 (k+1) t.Fi t.Mw ["row_items"] (Apj t d):=by
  have AnT:Ar P w K mg base CX0 1 t.Hd t.Aao _ _:=Amg T
  refine T.Lq.F.ok Ak5 (fun vs H Q E h=>?_) (fun cdv A outer s H vs Q E hr h=>?_)
  · obtain ⟨li,rs,xs,rfl,_⟩:=h
    rfl
  · obtain ⟨li,rs,xs,rfl,hl,hA,kk⟩:=h
    have ln:=hA.len
    have le:=hA.le
    have hsz:sizeLine=16777216:=sizeLine_eq
    refine ⟨_,(Ae (Aq (Ao (AqI (K:=K)) rfl T.Axd Avw (Aa (Jj (Fv.mk (Bl:=[]) (Nc:=["item"]) rfl (by decide +kernel) (by decide +kernel) (Es (sc0:=Ab Ei) rfl (by decide +kernel)) rfl rfl rfl (by decide +kernel) (fun _ _ h=>by simp at h)) rfl (Br (K:=K) (pv 0)) (fun _ _ _ _ _=>.nil) (fun _ _ _ _ _=>(Anx (pv 0) T.Y4.c T.Aaz.m (AnT.mono (by omega)) hr T.Aaz.b Ba T.Rt.c T.Ru.m (Amh.mono (by omega)) hr T.Ru.b Ba))) Ac)))),?_⟩
    refine ⟨_,rfl,_,rfl,⟨_,SqL.of hl⟩,Dk (K:=K) (a:=li) (xs:=rs.map V.ref) (fun i ys H2=>Ax H H2∧ys=vI ((xs.take i).map It.sz)) ⟨.refl _,rfl⟩ ?_ ?_ ?_ ?_⟩
    · rintro i ys H2 hi ⟨s2,rfl⟩
      refine ⟨SqL.of (s2 _ _ hl),?_⟩
      rw [Bd,List.length_map,List.length_take]
      omega
    · rw [List.length_map]; omega
    · rintro i x ys H2 hi hx ⟨s2,rfl⟩
      rw [List.length_map] at hi
      have hi':i < xs.length:=by omega
      rw [List.getElem?_map,List.getElem?_eq_getElem hi] at hx
      cases hx
      have hI:=AtI.same s2 d _ _ (hA.at_ i _ _ (List.getElem?_eq_getElem hi) (List.getElem?_eq_getElem hi'))
      refine Hy.no ?_
      have fin:∀ H3,Ax H2 H3→∀ z:Int,z=(xs[i]).sz→CN (rs.map V.ref).length (fun i ys H2=>Ax H H2∧ys=vI ((xs.take i).map It.sz)) i (vI ((xs.take i).map It.sz)++[.int z]) H3:=fun H3 s3 z hz=>by
        refine CN.of (by rw [List.length_map]; exact hi) ⟨s2.trans s3,?_⟩
        rw [hz,Wg,List.take_add_one,List.getElem?_eq_getElem hi',List.map_append]
        rfl
      generalize hx':xs[i]=x at hI
      cases x with
      | pth ss =>
        have hP0:AtP t H2 rs[i] ss:=by cases d <;> exact hI
        obtain ⟨dx,l,hP⟩:=hP0
        refine ⟨_,rfl,_,dx,pf l,rfl,rfl,.inl ⟨hP.o,_,dx,l,_,rfl,hP,?_⟩⟩
        exact fin H2 (.refl _) _ (by rw [hx']; simp only [It.sz]; rfl)
      | tms n ys =>
        cases d with
        | zero=>exact hI.elim
        | succ d =>
          obtain ⟨dx,l2,rs2,h1,h2,h0,h3,h4,h5⟩:=hI
          refine ⟨_,rfl,_,dx,tf n l2,rfl,rfl,.inr ⟨h1,_,dx,l2,n,rs2,ys,rfl,h1,h2,h0,⟨h3,h4,h5⟩,fun H3 s3=>?_⟩⟩
          exact fin H3 s3 _ (by rw [hx']; simp only [It.sz])
    · rintro ys H2 p ⟨s2,rfl⟩ hp
      rw [List.length_map,ln,List.take_length]
      refine ⟨_,_,rfl,SqL.of Ah,?_⟩
      rw [← Y5]
      exact kk _ (s2.new hp)
theorem As2 (T:Txt K mg t):∀ d:Nat,Ar P w K mg base CX0 (2 * d+2) t.Fi t.Mw ["row_items"] (Apj t d)
  | 0=>Ac2 (Nat.le_refl 1) T (AiX T)
  | d+1=>Ac2 (k:=2 * d+3) (by omega) T (Ak9 T (As2 T d))
end
mutual
def It.Sm:It→Prop
  | .pth ss=>1≤ss.length∧∀ s∈ss,s.natAbs≤400
  | .tms n xs=>1≤n∧Sms xs
def Sms:List It→Prop
  | []=>True
  | x::xs=>x.Sm∧Sms xs
end
theorem Sms.of_get:∀ {xs:List It} {i:Nat} {x:It},Sms xs→xs[i]?=some x→x.Sm
  | [],i,x,_,e=>by simp at e
  | y::xs,0,x,h,e=>by
    simp only [Sms] at h
    simp at e
    rw [← e]; exact h.1
  | y::xs,i+1,x,h,e=>by
    simp only [Sms] at h
    exact Sms.of_get h.2 (by simpa using e)
mutual
theorem It.Apl:∀ x:It,x.Sm→(x.nu.length:Int)=x.sz
  | .pth ss,h=>by
    simp only [It.Sm] at h
    simp only [It.nu,It.sz]
    have:=As1 ss (ss.length - 1) (by omega)
    rw [show ss.length - 1+1=ss.length by omega,List.take_length] at this
    exact this
  | .tms n xs,h=>by
    simp only [It.Sm] at h
    simp only [It.nu,It.sz]
    rw [len_rep,Int.natCast_mul,Y7 xs h.2]
theorem Y7:∀ xs:List It,Sms xs→((nus xs).length:Int)=szs xs
  | [],_=>by simp [nus,szs]
  | x::xs,h=>by
    simp only [Sms] at h
    simp only [nus,szs]
    rw [List.length_append,Int.natCast_add,It.Apl x h.1,Y7 xs h.2]
end
theorem Sms.nn {xs:List It} (h:Sms xs):0≤szs xs:=by rw [← Y7 xs h]; omega
theorem It.Sm.nn {x:It} (h:x.Sm):0≤x.sz:=by rw [← x.Apl h]; omega
theorem As3 (xs:List It) (x:It):nus (xs++[x])=nus xs++x.nu:=by
  rw [Aer,Aer,List.map_append,List.flatten_append]
  simp
theorem As4 (xs:List It) (x:It):szs (xs++[x])=szs xs+x.sz:=by
  rw [Y5,Y5,List.map_append,List.sum_append]
  simp
theorem Aur (xs ys:List It):szs (xs++ys)=szs xs+szs ys:=by
  rw [Y5,Y5,Y5,List.map_append,List.sum_append]
theorem Sms.app:∀ {xs ys:List It},Sms (xs++ys)→Sms xs∧Sms ys
  | [],ys,h=>⟨by simp only [Sms],h⟩
  | x::xs,ys,h=>by
    rw [List.cons_append] at h
    simp only [Sms] at h
    have:=Sms.app h.2
    exact ⟨by simp only [Sms]; exact ⟨h.1,this.1⟩,this.2⟩
theorem ApZ {xs:List It} (h:Sms xs) (i:Nat):szs (xs.take i)≤szs xs∧0≤szs (xs.take i):=by
  have e:xs=xs.take i++xs.drop i:=(List.take_append_drop i xs).symm
  have h':=h
  rw [e] at h'
  have a:=Sms.app h'
  have e2:szs xs=szs (xs.take i)+szs (xs.drop i):=by rw [← Aur,List.take_append_drop]
  have n1:=a.1.nn
  have n2:=a.2.nn
  omega
section
variable {P:Program} {w:World} {K:PySem.W.Frag} {mg:Str→Option Value} {base:Heap} {t:Adr}
def Apm (t:Adr) (d:Nat):Sp:=fun vs H Q _=>∃ (li:Addr) (rs:List Addr) (xs:List It),vs=[.ref li]∧H li=some (.lst (rs.map V.ref))∧AnS t H d rs xs∧Sms xs∧szs xs≤400 ∧
  ∀ q H',Ax H H'→H q=none→H' q=some (.lst (vI (nus xs)))→Q (.ref q) H'
def Apn (t:Adr):Nat→Sp
  | 0=>fun _ _ _ _=>False
  | d+1=>fun vs H Q _=>∃ (a dx li:Addr) (n:Nat) (rs:List Addr) (xs:List It),vs=[.ref a]∧H a=some (.ins t.Bx dx (tf n li))∧H li=some (.lst (rs.map V.ref))∧n≤99∧AnS t H d rs xs∧(It.tms n xs).Sm∧(It.tms n xs).sz≤400 ∧
      ∀ q H',Ax H H'→H q=none→H' q=some (.lst (vI (It.tms n xs).nu))→Q (.ref q) H'
theorem AvJ (n:Nat) (l:List Int):(List.replicate n (vI l)).flatten=vI (List.replicate n l).flatten:=by
  induction n with
  | zero=>rfl
  | succ n ih =>
    rw [List.replicate_succ,List.replicate_succ,List.flatten_cons,List.flatten_cons,ih]
    unfold vI
    rw [List.map_append]
theorem Aes (T:Txt K mg t):Ar P w K mg base CX0 1 t.Dd t.K9 ["self"] (Apn t 0) :=
  T.KQ.F.ok Xr (fun vs H Q E h=>h.elim) (fun cdv A outer s H vs Q E hr h=>h.elim)
theorem Agz {k d:Nat} (T:Txt K mg t) (Wq:Ar P w K mg base CX0 k t.Ef t.K3 ["row_items"] (Apm t d)) :
    Ar P w K mg base CX0 (k+1) t.Dd t.K9 ["self"] (Apn t (d+1)):=by
  refine T.KQ.F.ok Xr (fun vs H Q E h=>?_) (fun cdv A outer s H vs Q E hr h=>?_)
  · obtain ⟨a,dx,li,n,rs,xs,rfl,_⟩:=h
    rfl
  · obtain ⟨a,dx,li,n,rs,xs,rfl,ho,hl,hn,hA,hS,h4,k⟩:=h
    have hsz:sizeLine=16777216:=sizeLine_eq
    simp only [It.Sm] at hS
    simp only [It.sz] at h4
    have nn:=hS.2.nn
    have z4:szs xs≤400:=by
      have:szs xs≤(n:Int) * szs xs:=by
        have h1:=Int.mul_le_mul_of_nonneg_right (show (1:Int)≤(n:Int) by omega) nn
        omega
      omega
    have len:=Y7 xs hS.2
    refine ⟨_,(Ae (Aq (Bp Ar9 (Ak (Wq.mono (by omega)) hr rfl T.J8.m T.J8.F.kp T.J8.b .nil Ba (Aa (Bf (K:=K) (pv 0) rfl) Ac)) (Bf (K:=K) (pv 0) rfl)))),?_⟩
    refine ⟨_,rfl,_,_,_,_,_,rfl,ho,T.Rt.c,T.GD,AnR n li,?_⟩
    refine ⟨li,rs,xs,rfl,hl,hA,hS.2,z4,fun q H1 s1 nq hq=>?_⟩
    refine ⟨_,rfl,_,_,_,_,_,rfl,s1 _ _ ho,T.Rt.c,T.GC,AnQ n li,?_⟩
    refine ⟨q,(n:Int),vI (nus xs),rfl,rfl,hq,by omega,by omega,?_,fun p hp=>?_⟩
    · rw [Bd,Int.toNat_natCast]
      have:(nus xs).length≤400:=by omega
      have:(nus xs).length * n≤400 * 99:=Nat.mul_le_mul this hn
      omega
    · refine k p _ (s1.new hp) (s1.free hp) ?_
      rw [Ah,Int.toNat_natCast,AvJ]
      simp only [It.nu]
theorem Aa0 {k d:Nat} (hk:2≤k) (T:Txt K mg t) (AhA:Ar P w K mg base CX0 k t.Dd t.K9 ["self"] (Apn t d)) :
    Ar P w K mg base CX0 (k+1) t.Ef t.K3 ["row_items"] (Apm t d):=by
  have AiY:Ar P w K mg base CX0 2 t.El t.RX _ _:=Ah8 T
  refine T.J8.F.ok RW (fun vs H Q E h=>?_) (fun cdv A outer s H vs Q E hr h=>?_)
  · obtain ⟨li,rs,xs,rfl,_⟩:=h
    rfl
  · obtain ⟨li,rs,xs,rfl,hl,hA,hS,h4,kk⟩:=h
    have ln:=hA.len
    have hsz:sizeLine=16777216:=sizeLine_eq
    refine ⟨_,(Ad (Bo (i:=1) RW.nd rfl (Or.inl rfl) (Mi Ac))
      (Ad (Et PassesOwn.never rfl (Br (K:=K) (pv 0)) (Cg (i:=2) RW.nd rfl (Or.inl rfl))
        (Ae (Ge (Gg (K:=K) PySem.F.plainAttrs_list PySem.F.slot_list_extend PySem.F.type_list_extend Alj (pv 1) (Aa (Anx (pv 2) T.Y4.c T.Sv.m (AiY.mono (by omega)) hr T.Sv.b Ba T.Rt.c T.KQ.m (AhA.mono (by omega)) hr T.KQ.b Ba) Ac)))))
      (Ae (Aq (pv 1))))),?_⟩
    refine ⟨Nat.zero_le _,fun q hq=>?_⟩
    have s1:Ax H (upd H q (.lst [])):=.upd hq
    refine ⟨_,rfl,_,rfl,⟨_,SqL.of (s1 _ _ hl)⟩,?_⟩
    refine Ha (K:=K) (a:=li) (xs:=rs.map V.ref) (fun i σ H2=>∃ v,σ=[some (.ref li),some (.ref q),v]∧Ax H H2∧H2 q=some (.lst (vI (nus (xs.take i)))))
      ⟨none,rfl,s1,by rw [Ah]; simp [nus,vI]⟩ (fun i σ H2 _ ⟨_,_,s2,_⟩=>SqL.of (s2 _ _ hl)) ?_ ?_
    · rintro i x σ H2 hx ⟨v,rfl,s2,hq2⟩
      have hi:i < rs.length:=by
        have:=(List.getElem?_eq_some_iff.mp hx).1
        rwa [List.length_map] at this
      have hi':i < xs.length:=by omega
      rw [List.getElem?_map,List.getElem?_eq_getElem hi] at hx
      cases hx
      have hm:(xs[i]).Sm:=hS.of_get (List.getElem?_eq_getElem hi')
      have hI:=AtI.same s2 d _ _ (hA.at_ i _ _ (List.getElem?_eq_getElem hi) (List.getElem?_eq_getElem hi'))
      have e6:(xs.take (i+1))=xs.take i++[xs[i]]:=by rw [List.take_add_one,List.getElem?_eq_getElem hi']; rfl
      have p1:=ApZ hS (i+1)
      have p0:=ApZ hS i
      have e7:szs (xs.take (i+1))=szs (xs.take i)+(xs[i]).sz:=by rw [e6,As4]
      have m0:=hm.nn
      have x4:(xs[i]).sz≤400:=by omega
      have l1:=(xs[i]).Apl hm
      have sm:Sms (xs.take i):=by
        have h':=hS
        rw [← List.take_append_drop i xs] at h'
        exact h'.app.1
      have l0:=Y7 _ sm
      have fin:∀ l2 H3,Ax H2 H3→H2 l2=none→H3 l2=some (.lst (vI (xs[i]).nu))→∀ (nz:(vI (nus (xs.take i))).length+(vI (xs[i]).nu).length≤sizeLine),
          ∃ v,[some (V.ref li),some (.ref q),some (.ref rs[i])]=[some (.ref li),some (.ref q),v]∧Ax H (upd H3 q (.lst (vI (nus (xs.take i))++vI (xs[i]).nu)))∧(upd H3 q (.lst (vI (nus (xs.take i))++vI (xs[i]).nu))) q=some (.lst (vI (nus (xs.take (i+1))))):=fun l2 H3 s3 n3 h3 _=>by
        refine ⟨_,rfl,(s2.trans s3).over hq,?_⟩
        rw [Ah,e6,As3]
        unfold vI
        rw [List.map_append]
      have nz:(vI (nus (xs.take i))).length+(vI (xs[i]).nu).length≤sizeLine:=by rw [Bd,Bd]; omega
      generalize hx':xs[i]=x at hI hm x4 fin nz
      refine ⟨_,rfl,.inl ⟨rfl,_,SqL.of hq2⟩,_,rfl,?_⟩
      cases x with
      | pth ss =>
        have hP0:AtP t H2 rs[i] ss:=by cases d <;> exact hI
        obtain ⟨dx,l,hP⟩:=hP0
        simp only [It.Sm] at hm
        simp only [It.sz] at x4
        refine ⟨_,dx,pf l,rfl,rfl,.inl ⟨hP.o,_,dx,l,_,rfl,hP,x4,hm.2,fun l2 H3 s3 nl2 hl2=>?_⟩⟩
        exact ⟨q,l2,_,_,rfl,rfl,s3 _ _ hq2,by rw [hl2]; simp only [It.nu],nz,fin l2 H3 s3 nl2 (by rw [hl2]; simp only [It.nu]) nz⟩
      | tms n ys =>
        cases d with
        | zero=>exact hI.elim
        | succ d =>
          obtain ⟨dx,l2,rs2,h1,h2,h0,h3,h4',h5⟩:=hI
          refine ⟨_,dx,tf n l2,rfl,rfl,.inr ⟨h1,_,dx,l2,n,rs2,ys,rfl,h1,h2,h0,⟨h3,h4',h5⟩,hm,x4,fun l3 H3 s3 nl3 hl3=>?_⟩⟩
          exact ⟨q,l3,_,_,rfl,rfl,s3 _ _ hq2,hl3,nz,fin l3 H3 s3 nl3 hl3 nz⟩
    · rintro σ H2 ⟨v,rfl,s2,hq2⟩
      refine ⟨_,rfl,kk q H2 s2 hq ?_⟩
      rw [hq2,List.length_map,ln,List.take_length]
theorem As5 (T:Txt K mg t):∀ d:Nat,Ar P w K mg base CX0 (2 * d+3) t.Ef t.K3 ["row_items"] (Apm t d)
  | 0=>Aa0 (Nat.le_refl 2) T ((Aes T).mono (by decide))
  | d+1=>Aa0 (k:=2 * d+4) (by omega) T (Agz T (As5 T d))
end
def dec (n:Nat):List Nat:=(Str.ofString (toString (n:Int))).cps.toList
theorem As6 (n:Nat):Str.ofString (toString (n:Int))=tx (dec n):=(AwO _).symm
def AuN (n:Nat):Bool:=(dec n).all (fun c=>decide (48≤c∧c≤57)) && decide (1≤(dec n).length∧(dec n).length≤2) && decide (¬ ((dec n).length=2∧(dec n)[0]?=some 48)) && decide (PySem.NumText.digitsVal (dec n)=n)
theorem AvK:∀ n,n < 100→AuN n=true:=by decide +kernel
structure Dec (n:Nat):Prop where
  dg:∀ c∈dec n,48≤c∧c≤57
  l1:1≤(dec n).length
  l2:(dec n).length≤2
  z:¬ ((dec n).length=2∧(dec n)[0]?=some 48)
  v:PySem.NumText.digitsVal (dec n)=n
theorem dec_is {n:Nat} (h:n < 100):Dec n:=by
  have:=AvK n h
  unfold AuN at this
  simp only [Bool.and_eq_true,decide_eq_true_eq,List.all_eq_true] at this
  obtain ⟨⟨⟨h1,h2⟩,h3⟩,h4⟩:=this
  exact ⟨h1,h2.1,h2.2,h3,h4⟩
def tails:List Nat→List Nat
  | []=>[]
  | n::r=>45::(dec n++tails r)
def M6:List Nat→List Nat
  | []=>[]
  | n::r=>dec n++tails r
def Stop (rest:List Nat):Prop:=∀ c,rest[0]?=some c→¬ (48≤c∧c≤57)∧c≠45
section
variable {P:Program} {w:World} {K:PySem.W.Frag} {mg:Str→Option Value} {base:Heap} {t:Adr}
theorem As7 {n:Nat} (h:n < 100):Asv (dec n)=.int (n:Int):=by
  have d:=dec_is h
  unfold Asv
  rw [if_pos ⟨⟨d.l1,d.l2⟩,d.z⟩,d.v]
theorem As8 {n:Nat} (h:n < 100) {rest:List Nat} (hs:∀ c,rest[0]?=some c→¬ (48≤c∧c≤57)):Ads (dec n++rest)=dec n:=by
  have d:=dec_is h
  rw [Ame (dec n++rest) (dec n).length (by rw [List.length_append]; omega)]
  · exact List.take_left
  · rw [List.take_left]
    exact fun c hc=>decide_eq_true (d.dg c hc)
  · intro c hc
    rw [List.getElem?_append_right (Nat.le_refl _),Nat.sub_self] at hc
    exact decide_eq_false (hs c hc)
def Hz (r:Addr) (H H':Hp):Prop:=∀ b o,b≠r→H b=some o→H' b=some o
theorem Hz.trans {r:Addr} {H H1 H2:Hp} (a:Hz r H H1) (b:Hz r H1 H2):Hz r H H2:=fun c o n e=>b c o n (a c o n e)
theorem Hz.upd {r:Addr} {H:Hp} {o:HO}:Hz r H (L2.upd H r o):=fun b o' n e=>by rw [Be n]; exact e
theorem As9 {r:Addr} {H H':Hp} (s:Ax H H'):Hz r H H':=fun b o _ e=>s b o e
def Aus (t:Adr):Sp:=fun vs H Q _=>∃ r dx u p n rest,vs=[.ref r]∧Rd t H r dx u p∧n < 100∧u.drop p=dec n++rest∧(∀ c,rest[0]?=some c→¬ (48≤c∧c≤57))∧Q (.int (n:Int)) (upd H r (.ins t.Al dx (rf u (p+(dec n).length))))
theorem Aa1 (T:Txt K mg t):Ar P w K mg base CX0 4 t.Fl t.Pa ["reader"] (Aus t):=by
  have AhB:Ar P w K mg base CX0 3 t.Dy t.Q8 _ _:=Agt T
  refine T.J9.F.ok Aal (fun vs H Q E h=>?_) (fun cdv A outer s H vs Q E hr h=>?_)
  · obtain ⟨r,dx,u,p,n,rest,rfl,_⟩:=h
    rfl
  · obtain ⟨r,dx,u,p,n,rest,rfl,hR,hn,hd,hs,k⟩:=h
    refine ⟨_,(Ad (Bo (i:=1) Aal.nd rfl (Or.inl rfl) (Aix (pv 0) T.Cj.c T.QF.m (AhB.mono (by decide)) hr T.QF.b .nil Ba))
      (Ad (BL (Av Ave (pv 1) AoC (Bm _))
        (Ae G5)
        Bc)
      (Ae (Aq (pv 1))))),?_⟩
    refine ⟨_,rfl,r,dx,rf u p,rfl,hR.1,(Rw u p).2.2.1,r,dx,u,p,rfl,hR,?_⟩
    rw [hd,As8 hn hs,As7 hn]
    refine ⟨_,rfl,rfl,_,rfl,?_⟩
    refine Gi (fun z=>nomatch z) ?_
    exact ⟨_,rfl,k⟩
theorem AsA:(("-" : Str))=tx [45]:=by decide +kernel
def AsB (t:Adr):Sp:=fun vs H Q _=>∃ r dx u p n0 ns rest,vs=[.ref r,.int ((n0:Nat):Int)]∧Rd t H r dx u p∧(∀ n∈ns,n < 100)∧ns.length≤900∧u.drop p=tails ns++rest∧Stop rest ∧
  ∀ a H',Hz r H H'→Rd t H' r dx u (p+(tails ns).length)→H a=none→AtP t H' a ((n0::ns).map Int.ofNat)→Q (.ref a) H'
theorem Ami (T:Txt K mg t):Ar P w K mg base CX0 5 t.Ie t.Aau ["reader", "first"] (AsB t):=by
  have Hv:Ar P w K mg base CX0 1 t.CZ t.Jg _ _:=M5 T
  have Wu:Ar P w K mg base CX0 4 t.Fl t.Pa _ _:=Aa1 T
  have AhC:Ar P w K mg base CX0 1 t.Dc t.Q9 _ _:=Agw T
  refine T.Ace.F.ok Aee (fun vs H Q E h=>?_) (fun cdv A outer s H vs Q E hr h=>?_)
  · obtain ⟨r,dx,u,p,n0,ns,rest,rfl,_⟩:=h
    rfl
  · obtain ⟨r,dx,u,p,n0,ns,rest,rfl,hR,hn,hl,hd,hs,k⟩:=h
    refine ⟨_,(Ad (Bo (i:=2) Aee.nd rfl (Or.inl rfl) (Mi (Aa (pv 1) Ac)))
      (Ad (Aiq PassesOwn.never (Eh (AdU (pv 0) T.Cj.c T.Fp.m (Hv.mono (by decide)) hr T.Fp.b .nil Ba (Aa GR Ac)))
        (Ae (Ge (Gg (K:=K) PySem.F.plainAttrs_list PySem.F.slot_list_append PySem.F.type_list_append LK (pv 2) (Aa (Ak (Wu.mono (by decide)) hr rfl T.J9.m T.J9.F.kp T.J9.b .nil Ba (Aa (pv 0) Ac)) Ac)))))
      (Ae (Aq (AbT T.Y4.m (AhC.mono (by decide)) hr rfl T.AvH T.KN.b .nil Ba (Aa (pv 2) Ac)))))),?_⟩
    refine ⟨_,rfl,(by show 1≤sizeLine; decide),fun q hq=>?_⟩
    have nqr:q≠r:=fun z=>by rw [z,hR.1] at hq; cases hq
    refine ⟨fun m σ H2=>∃ done todo,σ=[some (.ref r),some (.int (n0:Int)),some (.ref q)]∧ns=done++todo∧Hz r H H2∧H2 q=some (.lst (vI ((n0::done).map Int.ofNat)))∧Rd t H2 r dx u (p+(tails done).length)∧u.drop (p+(tails done).length)=tails todo++rest∧m=todo.length,
      ⟨_,[],ns,rfl,rfl,As9 (Ax.upd hq),Ah,⟨by rw [Be nqr.symm]; exact hR.1,hR.2⟩,hd,rfl⟩,?_⟩
    rintro m σ H2 ⟨done,todo,rfl,rfl,s2,hq2,hR2,hd2,rfl⟩
    refine ⟨_,rfl,r,dx,rf u (p+(tails done).length),rfl,hR2.1,(Rw u _).2.1,r,dx,u,p+(tails done).length,[45],(by rw [AsA]; rfl),hR2,(by decide),fun Aet=>?_,fun hno=>?_⟩
    · refine ⟨_,rfl,?_⟩
      refine Ak4 ?_
      rw [hd2] at Aet
      cases todo with
      | nil =>
        exfalso
        cases rest with
        | nil=>simp [tails] at Aet
        | cons c rest =>
          have:c=45:=by simpa [tails] using Aet
          exact (hs c rfl).2 this
      | cons n td =>
        have hn2:n < 100:=hn n (by simp)
        have hdr:u.drop (p+(tails done).length+1)=dec n++(tails td++rest):=by
          rw [← List.drop_drop,hd2]
          simp [tails]
        have hlen:p+(tails done).length+1≤u.length:=by
          have:=congrArg List.length hd2
          rw [List.length_drop] at this
          simp [tails] at this
          omega
        have nx:∀ c,(tails td++rest)[0]?=some c→¬ (48≤c∧c≤57):=fun c hc=>by
          cases td with
          | nil=>exact (hs c (by simpa [tails] using hc)).1
          | cons m td =>
            have:45=c:=by simpa [tails] using hc
            omega
        have hq3:(upd H2 r (.ins t.Al dx (rf u (p+(tails done).length+[45].length)))) q=some (.lst (vI ((n0::done).map Int.ofNat))):=by rw [Be nqr]; exact hq2
        refine ⟨_,fun σ' H' h=>h,?_⟩
        refine ⟨_,rfl,.inl ⟨rfl,_,SqL.of hq3⟩,_,rfl,r,dx,u,p+(tails done).length+1,n,tails td++rest,rfl,⟨Ah,hlen,hR2.2.2⟩,hn2,hdr,nx,?_⟩
        rw [T8]
        have hq4:(upd H2 r (.ins t.Al dx (rf u (p+(tails done).length+1+(dec n).length)))) q=some (.lst (vI ((n0::done).map Int.ofNat))):=by rw [Be nqr]; exact hq2
        have ld:done.length≤900:=by
          rw [List.length_append] at hl
          omega
        refine ⟨_,_,_,rfl,rfl,hq4,(by rw [Bd,List.length_map,List.length_cons]; exact Xj (by omega)),?_⟩
        have et:(tails (done++[n])).length=(tails done).length+1+(dec n).length:=by
          have:∀ (d:List Nat),tails (d++[n])=tails d++45::dec n:=by
            intro d
            induction d with
            | nil=>simp [tails]
            | cons a d ih=>simp [tails,ih]
          rw [this,List.length_append,List.length_cons]
          omega
        have hfin:p+(tails done).length+1+(dec n).length≤u.length:=by
          have:=congrArg List.length hdr
          rw [List.length_drop,List.length_append] at this
          omega
        refine ⟨td.length,by simp,done++[n],td,rfl,by simp,?_,?_,?_,?_,rfl⟩
        · intro b o hb e
          rw [Be (Ce e hq),Be hb]
          exact s2 b o hb e
        · rw [Ah]
          show some (HO.lst (vI ((n0::done).map Int.ofNat)++[V.int (Int.ofNat n)]))=_
          rw [Wg,← List.cons_append,List.map_append]
          rfl
        · refine ⟨?_,by rw [et]; omega,hR2.2.2⟩
          rw [Be nqr.symm,Ah,et]
          rw [show p+((tails done).length+1+(dec n).length)=p+(tails done).length+1+(dec n).length by omega]
        · rw [et,show p+((tails done).length+1+(dec n).length)=p+(tails done).length+1+(dec n).length by omega,← List.drop_drop,hdr]
          exact List.drop_left
    · refine ⟨_,rfl,?_⟩
      refine Jc ?_
      cases todo with
      | cons n td =>
        exfalso
        rw [hd2] at hno
        exact hno (by simp [tails])
      | nil =>
        rw [List.append_nil] at hl k
        refine ⟨_,rfl,fun x dx' hx hdx hne=>⟨x,dx',q,rfl,Ah,rfl,?_⟩⟩
        rw [T8]
        have nx:∀ b o,H2 b=some o→b≠x∧b≠dx':=fun b o e=>⟨Ce e hx,Ce e hdx⟩
        have keep:∀ b o,H2 b=some o→(upd (upd H2 dx' (.own x)) x (.ins t.Eu dx' (pf q))) b=some o:=fun b o e=>by rw [Be (nx b o e).1,Be (nx b o e).2]; exact e
        refine k x _ (fun b o hb e=>keep b o (s2 b o hb e)) ⟨keep _ _ hR2.1,hR2.2⟩ ?_ ⟨dx',q,Ah,keep _ _ hq2,by simp,by rw [List.length_map,List.length_cons]; omega⟩
        cases e:H x with
        | none=>rfl
        | some o =>
          by_cases hxr:x=r
          · rw [hxr,hR2.1] at hx; cases hx
          · rw [s2 x o hxr e] at hx; cases hx
end
def ofN (ns:List Nat):List Int:=ns.map Int.ofNat
mutual
def It.tx:It→List Nat
  | .pth ss=>M6 (ss.map Int.toNat)
  | .tms n xs=>dec n++42::40::(Oe xs++[41])
def Oe:List It→List Nat
  | []=>[]
  | x::xs=>x.tx++Sy xs
def Sy:List It→List Nat
  | []=>[]
  | x::xs=>32::(x.tx++Sy xs)
end
def Gd:Nat→It→Prop
  | _,.pth ss=>∃ n0 ns,ss=ofN (n0::ns)∧(∀ n∈n0::ns,n < 100)∧ns.length≤900
  | 0,.tms _ _=>False
  | d+1,.tms n xs=>1≤n∧n≤99∧xs≠[]∧xs.length≤900∧∀ x∈xs,Gd d x
theorem Aeu (ns:List Nat):(ofN ns).map Int.toNat=ns:=by
  unfold ofN
  rw [List.map_map]
  induction ns with
  | nil=>rfl
  | cons a l ih=>rw [List.map_cons,ih]; rfl
def Aft (rest:List Nat):Prop:=∀ c,rest[0]?=some c→c=32∨c=41
theorem Aft.stop {rest:List Nat} (h:Aft rest):Stop rest:=fun c e=>by
  rcases h c e with rfl | rfl <;> exact ⟨by decide,by decide⟩
theorem Aft.star {rest:List Nat} (h:Aft rest):rest.take 2≠[42,40]:=fun e=>by
  cases rest with
  | nil=>cases e
  | cons c r =>
    have:=h c rfl
    simp at e
    omega
theorem Aqa (xs:List It) {rest:List Nat} (h:∀ c,rest[0]?=some c→c=41):Aft (Sy xs++rest):=fun c e=>by
  cases xs with
  | nil =>
    simp only [Sy,List.nil_append] at e
    exact .inr (h c e)
  | cons x xs =>
    simp only [Sy,List.cons_append] at e
    simp at e
    exact .inl e.symm
section
variable {P:Program} {w:World} {K:PySem.W.Frag} {mg:Str→Option Value} {base:Heap} {t:Adr}
def AtJ (t:Adr) (H:Hp) (F:Addr→Prop):Nat→Addr→It→Prop
  | _,a,.pth ss=>AtP t H a ss
  | 0,_,.tms _ _=>False
  | d+1,a,.tms n xs=>∃ (dx li:Addr) (rs:List Addr),H a=some (.ins t.Bx dx (tf n li))∧H li=some (.lst (rs.map V.ref))∧F li∧n≤99∧rs.length=xs.length∧rs.length≤1000 ∧
      ∀ (i:Nat) r x,rs[i]?=some r→xs[i]?=some x→AtJ t H F d r x
structure Kp (t:Adr) (H H':Hp) (F:Addr→Prop):Prop where
  kp:∀ (b dx l:Addr),H b=some (.ins t.Eu dx (pf l))→H' b=some (.ins t.Eu dx (pf l))
  ks:∀ (b:Addr) (ss:List Int),1≤ss.length→H b=some (.lst (vI ss))→H' b=some (.lst (vI ss))
  kt:∀ (b dx:Addr) (n:Nat) (l:Addr),H b=some (.ins t.Bx dx (tf n l))→H' b=some (.ins t.Bx dx (tf n l))
  kl:∀ (b:Addr) (rs:List Addr),F b→H b=some (.lst (rs.map V.ref))→H' b=some (.lst (rs.map V.ref))
theorem AtJ.keep {H H':Hp} {F:Addr→Prop} (k:Kp t H H' F):∀ (d:Nat) (a:Addr) (x:It),AtJ t H F d a x→AtJ t H' F d a x
  | 0,_,.pth _,⟨dx,l,h⟩=>⟨dx,l,k.kp _ _ _ h.o,k.ks _ _ h.ne h.l,h.ne,h.le⟩
  | 0,_,.tms _ _,h=>h.elim
  | d+1,_,.pth _,⟨dx,l,h⟩=>⟨dx,l,k.kp _ _ _ h.o,k.ks _ _ h.ne h.l,h.ne,h.le⟩
  | d+1,_,.tms n xs,⟨dx,li,rs,h1,h2,h0,h3,h4,h5,h6⟩=>⟨dx,li,rs,k.kt _ _ _ _ h1,k.kl _ _ h0 h2,h0,h3,h4,h5,fun i r x e1 e2=>AtJ.keep k d r x (h6 i r x e1 e2)⟩
theorem AtJ.imp {H:Hp} {F F':Addr→Prop} (k:∀ b,F b→(∃ o,H b=some o)→F' b):∀ (d:Nat) (a:Addr) (x:It),AtJ t H F d a x→AtJ t H F' d a x
  | 0,_,.pth _,h=>h
  | 0,_,.tms _ _,h=>h.elim
  | d+1,_,.pth _,h=>h
  | d+1,_,.tms n xs,⟨dx,li,rs,h1,h2,h0,h3,h4,h5,h6⟩=>⟨dx,li,rs,h1,h2,k _ h0 ⟨_,h2⟩,h3,h4,h5,fun i r x e1 e2=>AtJ.imp k d r x (h6 i r x e1 e2)⟩
theorem AtJ.to {H:Hp} {F:Addr→Prop}:∀ (d:Nat) (a:Addr) (x:It),AtJ t H F d a x→AtI t H d a x
  | 0,_,.pth _,h=>h
  | 0,_,.tms _ _,h=>h.elim
  | d+1,_,.pth _,h=>h
  | d+1,_,.tms n xs,⟨dx,li,rs,h1,h2,h0,h3,h4,h5,h6⟩=>⟨dx,li,rs,h1,h2,h3,h4,h5,fun i r x e1 e2=>AtJ.to d r x (h6 i r x e1 e2)⟩
structure Amj (t:Adr) (H:Hp) (F:Addr→Prop) (d:Nat) (rs:List Addr) (xs:List It):Prop where
  len:rs.length=xs.length
  le:rs.length≤1000
  at_:∀ (i:Nat) r x,rs[i]?=some r→xs[i]?=some x→AtJ t H F d r x
theorem Amj.snoc {H:Hp} {F:Addr→Prop} {d:Nat} {rs:List Addr} {xs:List It} {a:Addr} {x:It} (h:Amj t H F d rs xs) (hx:AtJ t H F d a x) (hl:rs.length < 1000):Amj t H F d (rs++[a]) (xs++[x]):=by
  have ln:=h.len
  refine ⟨by rw [List.length_append,List.length_append,ln]; rfl,by rw [List.length_append,List.length_singleton]; omega,fun i r y e1 e2=>?_⟩
  by_cases hi:i < rs.length
  · rw [List.getElem?_append_left hi] at e1
    rw [List.getElem?_append_left (by omega)] at e2
    exact h.at_ i r y e1 e2
  · rw [List.getElem?_append_right (by omega)] at e1
    rw [List.getElem?_append_right (by omega)] at e2
    rw [ln] at e1
    cases hj:i - xs.length with
    | zero =>
      rw [hj] at e1 e2
      cases e1; cases e2
      exact hx
    | succ j=>rw [hj] at e1; simp at e1
theorem Amj.keep {H H':Hp} {F:Addr→Prop} {d:Nat} {rs:List Addr} {xs:List It} (h:Amj t H F d rs xs) (k:Kp t H H' F):Amj t H' F d rs xs:=⟨h.len,h.le,fun i r x e1 e2=>AtJ.keep k d r x (h.at_ i r x e1 e2)⟩
theorem Kp.same {H H':Hp} {F:Addr→Prop} (s:Ax H H'):Kp t H H' F:=⟨fun b dx l e=>s _ _ e,fun b ss _ e=>s _ _ e,fun b dx n l e=>s _ _ e,fun b rs _ e=>s _ _ e⟩
theorem Kp.but {H H':Hp} {F:Addr→Prop} {r dr:Addr} {fs:List (Str × V)} (s:Hz r H H') (er:H r=some (.ins t.Al dr fs)) (nc:t.Al≠t.Eu) (nt:t.Al≠t.Bx):Kp t H H' F:=by
  refine ⟨fun b dx l e=>s _ _ (fun z=>?_) e,fun b ss _ e=>s _ _ (fun z=>?_) e,fun b dx n l e=>s _ _ (fun z=>?_) e,fun b rs _ e=>s _ _ (fun z=>?_) e⟩
  · rw [z,er] at e
    injection e with e
    injection e with e
    exact nc e
  · rw [z,er] at e; cases e
  · rw [z,er] at e
    injection e with e
    injection e with e
    exact nt e
  · rw [z,er] at e; cases e
theorem Kp.app {H:Hp} {F:Addr→Prop} {li:Addr} {rs:List Addr} {o:HO} (hl:H li=some (.lst (rs.map V.ref))) (nF:¬ F li):Kp t H (upd H li o) F:=by
  refine ⟨fun b dx l e=>?_,fun b ss n e=>?_,fun b dx n l e=>?_,fun b rs' f e=>?_⟩
  · rw [Be (fun z=>by rw [z,hl] at e; cases e)]; exact e
  · rw [Be (fun z=>by
      rw [z,hl] at e
      injection e with e
      injection e with e
      cases ss with
      | nil=>simp at n
      | cons x y =>
        cases rs with
        | nil=>simp [vI] at e
        | cons c d =>
          unfold vI at e
          rw [List.map_cons,List.map_cons] at e
          injection e with e
          cases e)]
    exact e
  · rw [Be (fun z=>by rw [z,hl] at e; cases e)]; exact e
  · rw [Be (fun z=>by rw [z] at f; exact nF f)]; exact e
theorem AuO (T:Txt K mg t):t.Al≠t.Eu:=fun e=>by
  have h1:=T.Ga.m.at_
  have h2:=T.KN.m.at_
  rw [e,h2] at h1
  injection h1 with h1
  injection h1 with h1
  injection h1 with h1
  obtain ⟨_,_,_,_,_,_,_,_,_,e1,l1,_⟩:=T.Ga.F.ex
  obtain ⟨_,_,_,_,_,_,_,_,_,e2,l2,_⟩:=T.KN.F.ex
  rw [h1,l1,e1,e2] at l2
  injection l2 with l2
  injection l2 with _ _ l2 _
  injection l2 with l2
  have q:(("Reader.__init__" : Str))=("Path.__init__" : Str):=congrArg FuncData.qualname l2
  exact absurd q (by decide +kernel)
theorem AuP (T:Txt K mg t):t.Al≠t.Bx:=fun e=>by
  have h1:=T.Ga.m.at_
  have h2:=T.JL.m.at_
  rw [e,h2] at h1
  injection h1 with h1
  injection h1 with h1
  injection h1 with h1
  obtain ⟨_,_,_,_,_,_,_,_,_,e1,l1,_⟩:=T.Ga.F.ex
  obtain ⟨_,_,_,_,_,_,_,_,_,e2,l2,_⟩:=T.JL.F.ex
  rw [h1,l1,e1,e2] at l2
  injection l2 with l2
  injection l2 with _ _ l2 _
  injection l2 with l2
  have q:(("Reader.__init__" : Str))=("Times.__init__" : Str):=congrArg FuncData.qualname l2
  exact absurd q (by decide +kernel)
theorem Aev (T:Txt K mg t):Ar P w K mg base CX0 1 t.Cv t.NK ["self", "count", "inner"] (fun vs H Q E=>∃ (r dx l:Addr) (n:Nat),vs=[.ref r,.int (n:Int),.ref l]∧H r=some (.ins t.Bx dx [])∧Q .non (upd H r (.ins t.Bx dx (tf n l)))):=by
  refine T.JL.F.ok Aeh (fun vs H Q E h=>?_) (fun cdv A outer s H vs Q E hr h=>?_)
  · obtain ⟨r,dx,l,n,rfl,_⟩:=h
    rfl
  · obtain ⟨r,dx,l,n,rfl,h1,k⟩:=h
    refine ⟨_,(Ad (Rk (K:=K) (pv 0) (pv 1))
      (Ae (Rk (K:=K) (pv 0) (pv 2)))),?_⟩
    refine ⟨_,rfl,_,rfl,_,_,_,_,rfl,h1,T.Rt.c,T.GC,(by decide),?_⟩
    refine ⟨_,rfl,_,rfl,_,_,_,_,rfl,Ah,T.Rt.c,T.GD,(by show 1 < 1000; decide),?_⟩
    rw [T8]
    exact k
theorem Alu:(("*(" : Str))=tx [42,40]:=by decide +kernel
theorem AvL:((")" : Str))=tx [41]:=by decide +kernel
theorem AvM:((" " : Str))=tx [32]:=by decide +kernel
theorem Ahm {u:List Nat} {q:Nat} {x y:List Nat} (hq:q≤u.length) (e:u.drop q=x++y):u.drop (q+x.length)=y∧q+x.length≤u.length:=by
  refine ⟨by rw [← List.drop_drop,e]; exact List.drop_left,?_⟩
  have:=congrArg List.length e
  rw [List.length_drop,List.length_append] at this
  omega
theorem Hz.none {r b:Addr} {H H':Hp} (s:Hz r H H') (n:H' b=none) (h:b≠r):H b=none:=by
  cases e:H b with
  | none=>rfl
  | some o=>rw [s b o h e] at n; cases n
def Ag0 (t:Adr) (d:Nat):Sp:=fun vs H Q _=>∃ (r dx:Addr) (u:List Nat) (p:Nat) (xs:List It) (rest:List Nat) (e:Nat),vs=[.ref r,.int (e:Int)]∧e+d≤8∧Rd t H r dx u p∧xs≠[]∧xs.length≤900∧(∀ x∈xs,Gd d x)∧u.drop p=Oe xs++rest∧(∀ c,rest[0]?=some c→c=41) ∧
  ∀ (li:Addr) (rs:List Addr) (H':Hp),Hz r H H'→Rd t H' r dx u (p+(Oe xs).length)→H li=none→H' li=some (.lst (rs.map V.ref))→Amj t H' (fun b=>H b=none) d rs xs→Q (.ref li) H'
def AnU (t:Adr) (d:Nat):Sp:=fun vs H Q _=>∃ (r dx:Addr) (u:List Nat) (p:Nat) (x:It) (rest:List Nat) (e:Nat),vs=[.ref r,.int (e:Int)]∧e+d≤8∧Rd t H r dx u p∧Gd d x∧u.drop p=x.tx++rest∧Aft rest ∧
  ∀ (a:Addr) (H':Hp),Hz r H H'→Rd t H' r dx u (p+x.tx.length)→H a=none→AtJ t H' (fun b=>H b=none) d a x→Q (.ref a) H'
def Ag1 (t:Adr):Nat→Sp
  | 0=>fun _ _ _ _=>False
  | d+1=>fun vs H Q _=>∃ (r dx:Addr) (u:List Nat) (p n:Nat) (xs:List It) (rest:List Nat) (e:Nat),vs=[.ref r,.int (n:Int),.int (e:Int)]∧e+d≤8∧Rd t H r dx u p∧1≤n∧n≤99∧xs≠[]∧xs.length≤900∧(∀ x∈xs,Gd d x)∧u.drop p=Oe xs++41::rest ∧
      ∀ (a:Addr) (H':Hp),Hz r H H'→Rd t H' r dx u (p+(Oe xs).length+1)→H a=none→AtJ t H' (fun b=>H b=none) (d+1) a (.tms n xs)→Q (.ref a) H'
theorem AiZ (T:Txt K mg t):Ar P w K mg base CX0 1 t.Gh t.Rp ["reader", "count", "depth"] (Ag1 t 0) :=
  T.Ss.F.ok Wh (fun vs H Q E h=>h.elim) (fun cdv A outer s H vs Q E hr h=>h.elim)
theorem AkA {k d:Nat} (hk:1≤k) (T:Txt K mg t) (Y8:Ar P w K mg base CX0 k t.Fj t.Mx ["reader", "depth"] (Ag0 t d)) :
    Ar P w K mg base CX0 (k+2) t.Gh t.Rp ["reader", "count", "depth"] (Ag1 t (d+1)):=by
  have Hv:Ar P w K mg base CX0 1 t.CZ t.Jg _ _:=M5 T
  have Ag2:Ar P w K mg base CX0 1 t.Cv t.NK _ _:=Aev T
  refine T.Ss.F.ok Wh (fun vs H Q E h=>?_) (fun cdv A outer s H vs Q E hr h=>?_)
  · obtain ⟨r,dx,u,p,n,xs,rest,e,rfl,_⟩:=h
    rfl
  · obtain ⟨r,dx,u,p,n,xs,rest,e,rfl,he,hR,n1,n9,hne,hl,hG,hd,k⟩:=h
    refine ⟨_,(Ad (BL (Av T9 (pv 1) Aj (Bm _))
        (Ae G5)
        Bc)
      (Ad (BL (Av Acw (pv 2) (K8 (v:=.int 8) rfl T.AnH.choose_spec ⟨_,rfl⟩) (Bm _))
        (Ae G5)
        Bc)
      (Ad (Bo (i:=3) Wh.nd rfl (Or.inl rfl) (Ak (Y8.mono (by omega)) hr rfl T.Lr.m T.Lr.F.kp T.Lr.b .nil Ba (Aa (pv 0) (Aa (pv 2) Ac))))
      (Ad (BL (G4 (Eh (AdU (pv 0) T.Cj.c T.Fp.m (Hv.mono (by omega)) hr T.Fp.b .nil Ba (Aa GR Ac))))
        (Ae G5)
        Bc)
      (Ae (Aq (AbT T.Rt.m (Ag2.mono (by omega)) hr rfl T.Auo T.JL.b .nil Ba (Aa (pv 1) (Aa (pv 3) Ac))))))))),?_⟩
    refine ⟨_,rfl,rfl,_,rfl,?_⟩
    refine Gi (fun z=>by injection z with z; omega) ?_
    refine ⟨_,rfl,_,_,rfl,rfl,_,rfl,?_⟩
    refine Gi (fun z=>by omega) ?_
    refine ⟨_,rfl,_,rfl,r,dx,u,p,xs,41::rest,e,rfl,he,hR,hne,hl,hG,hd,fun c hc=>by simpa using hc.symm,fun li rs H1 s1 hR1 nli hli hA=>?_⟩
    obtain ⟨hd1,hp1⟩:=Ahm hR.2.1 hd
    refine ⟨_,rfl,r,dx,rf u _,rfl,hR1.1,(Rw u _).2.1,r,dx,u,p+(Oe xs).length,[41],(by rw [AvL]; rfl),hR1,(by decide),fun Aet=>?_,fun hno=>?_⟩
    · refine ⟨_,rfl,?_⟩
      refine Jc ?_
      have hS:(upd H1 r (.ins t.Al dx (rf u (p+(Oe xs).length+[41].length)))) r=some (.ins t.Al dx (rf u (p+(Oe xs).length+[41].length))):=Ah
      have sB:Hz r H1 (upd H1 r (.ins t.Al dx (rf u (p+(Oe xs).length+[41].length)))):=Hz.upd
      generalize upd H1 r (.ins t.Al dx (rf u (p+(Oe xs).length+[41].length)))=H2 at hS sB ⊢
      have nlr:li≠r:=fun z=>by rw [z,hR.1] at nli; cases nli
      have Ayi:=sB _ _ nlr hli
      have hA2:=hA.keep (Kp.but sB hR1.1 (AuO T) (AuP T))
      refine ⟨_,rfl,_,rfl,fun x dx' hx hdx hnx=>⟨x,dx',li,n,rfl,Ah,rfl,?_⟩⟩
      rw [T8]
      have s3:Ax H2 (upd (upd H2 dx' (.own x)) x (.ins t.Bx dx' (tf n li))):=(Ax.upd hdx).over hx
      have hx2:(upd (upd H2 dx' (.own x)) x (.ins t.Bx dx' (tf n li))) x=some (.ins t.Bx dx' (tf n li)):=Ah
      generalize upd (upd H2 dx' (.own x)) x (.ins t.Bx dx' (tf n li))=H3 at s3 hx2 ⊢
      have nxr:x≠r:=fun z=>by rw [z,hS] at hx; cases hx
      have sH:Hz r H H2:=s1.trans sB
      have l9:=hA2.len
      refine k x H3 (sH.trans (As9 s3)) ⟨s3 _ _ hS,?_,hR.2.2⟩ (sH.none hx nxr) ⟨dx',li,rs,hx2,s3 _ _ Ayi,nli,n9,l9,hA2.le,(hA2.keep (Kp.same s3)).at_⟩
      have:=(Ahm hp1 (x:=[41]) (y:=rest) hd1).2
      exact this
    · exfalso
      rw [hd1] at hno
      exact hno (by simp)
theorem Aew {k d:Nat} (hk:5≤k) (T:Txt K mg t) (Amk:Ar P w K mg base CX0 k t.Gh t.Rp ["reader", "count", "depth"] (Ag1 t d)) :
    Ar P w K mg base CX0 (k+1) t.Ib t.Aat ["reader", "depth"] (AnU t d):=by
  have Hv:Ar P w K mg base CX0 1 t.CZ t.Jg _ _:=M5 T
  have Wu:Ar P w K mg base CX0 4 t.Fl t.Pa _ _:=Aa1 T
  have AnV:Ar P w K mg base CX0 5 t.Ie t.Aau _ _:=Ami T
  refine T.Ob.F.ok Aed (fun vs H Q E h=>?_) (fun cdv A outer s H vs Q E hr h=>?_)
  · obtain ⟨r,dx,u,p,x,rest,e,rfl,_⟩:=h
    rfl
  · obtain ⟨r,dx,u,p,x,rest,e,rfl,he,hR,hG,hd,hst,k⟩:=h
    refine ⟨_,(Ad (Bo (i:=2) Aed.nd rfl (Or.inl rfl) (Ak (Wu.mono (by omega)) hr rfl T.J9.m T.J9.F.kp T.J9.b .nil Ba (Aa (pv 0) Ac)))
      (Ad (BL (Eh (AdU (pv 0) T.Cj.c T.Fp.m (Hv.mono (by omega)) hr T.Fp.b .nil Ba (Aa GR Ac)))
        (Ae (Aq (Ak (Amk.mono (by omega)) hr rfl T.Ss.m T.Ss.F.kp T.Ss.b .nil Ba (Aa (pv 0) (Aa (pv 2) (Aa (Bp GX (pv 1) Aj) Ac))))))
        Bc)
      (Ae (Aq (Ak (AnV.mono (by omega)) hr rfl T.Ace.m T.Ace.F.kp T.Ace.b .nil Ba (Aa (pv 0) (Aa (pv 2) Ac))))))),?_⟩
    cases x with
    | pth ss =>
      have hG0:∃ n0 ns,ss=ofN (n0::ns)∧(∀ n∈n0::ns,n < 100)∧ns.length≤900:=by cases d <;> exact hG
      obtain ⟨n0,ns,rfl,hn,hl⟩:=hG0
      have ex:(It.pth (ofN (n0::ns))).tx=dec n0++tails ns:=by simp only [It.tx]; rw [Aeu]; rfl
      rw [ex] at hd k
      have h0:n0 < 100:=hn n0 List.mem_cons_self
      have hd':u.drop p=dec n0++(tails ns++rest):=by rw [hd,List.append_assoc]
      obtain ⟨hdr,hle⟩:=Ahm hR.2.1 hd'
      have nx:∀ c,(tails ns++rest)[0]?=some c→¬ (48≤c∧c≤57):=fun c hc=>by
        cases ns with
        | nil=>exact (hst.stop c (by simpa [tails] using hc)).1
        | cons m td =>
          have:45=c:=by simpa [tails] using hc
          omega
      refine ⟨_,rfl,r,dx,u,p,n0,tails ns++rest,rfl,hR,h0,hd',nx,?_⟩
      have hS:(upd H r (.ins t.Al dx (rf u (p+(dec n0).length)))) r=some (.ins t.Al dx (rf u (p+(dec n0).length))):=Ah
      refine ⟨_,rfl,r,dx,rf u (p+(dec n0).length),rfl,hS,(Rw u _).2.1,r,dx,u,p+(dec n0).length,[42,40],(by rw [Alu]; rfl),⟨hS,hle,hR.2.2⟩,(by decide),fun Aet=>?_,fun hno=>?_⟩
      · exfalso
        rw [hdr] at Aet
        cases ns with
        | nil=>exact hst.star (by simpa [tails] using Aet)
        | cons m td=>simp [tails] at Aet
      · refine ⟨_,rfl,?_⟩
        refine Jc ?_
        refine ⟨_,rfl,_,rfl,r,dx,u,p+(dec n0).length,n0,ns,rest,rfl,⟨hS,hle,hR.2.2⟩,fun n h=>hn n (List.mem_cons_of_mem _ h),hl,hdr,hst.stop,fun a H' s1 hR1 na hA=>?_⟩
        have na':H a=none:=by
          by_cases har:a=r
          · rw [har,hS] at na; cases na
          · rw [Be har] at na; exact na
        refine k a H' (Hz.upd.trans s1) ?_ na' (by cases d <;> exact hA)
        rw [List.length_append,← Nat.add_assoc]
        exact hR1
    | tms n xs =>
      cases d with
      | zero=>exact hG.elim
      | succ d =>
        obtain ⟨n1,n9,hne,hl,hGs⟩:=hG
        have ex:(It.tms n xs).tx=dec n++42::40::(Oe xs++[41]):=by simp only [It.tx]
        rw [ex] at hd k
        have h0:n < 100:=by omega
        have hd':u.drop p=dec n++(42::40::(Oe xs++41::rest)):=by rw [hd]; simp
        obtain ⟨hdr,hle⟩:=Ahm hR.2.1 hd'
        have nx:∀ c,(42::40::(Oe xs++41::rest):List Nat)[0]?=some c→¬ (48≤c∧c≤57):=fun c hc=>by
          have:42=c:=by simpa using hc
          omega
        refine ⟨_,rfl,r,dx,u,p,n,_,rfl,hR,h0,hd',nx,?_⟩
        have hS:(upd H r (.ins t.Al dx (rf u (p+(dec n).length)))) r=some (.ins t.Al dx (rf u (p+(dec n).length))):=Ah
        refine ⟨_,rfl,r,dx,rf u (p+(dec n).length),rfl,hS,(Rw u _).2.1,r,dx,u,p+(dec n).length,[42,40],(by rw [Alu]; rfl),⟨hS,hle,hR.2.2⟩,(by decide),fun Aet=>?_,fun hno=>?_⟩
        · refine ⟨_,rfl,?_⟩
          refine Ak4 ?_
          rw [T8]
          obtain ⟨Ayj,Ayk⟩:=Ahm hle (x:=[42,40]) (y:=Oe xs++41::rest) hdr
          have hS2:(upd H r (.ins t.Al dx (rf u (p+(dec n).length+[42,40].length)))) r=some (.ins t.Al dx (rf u (p+(dec n).length+[42,40].length))):=Ah
          refine ⟨_,rfl,_,rfl,_,rfl,_,_,rfl,rfl,r,dx,u,p+(dec n).length+[42,40].length,n,xs,rest,e+1,rfl,by omega,⟨hS2,Ayk,hR.2.2⟩,n1,n9,hne,hl,hGs,Ayj,fun a H' s1 hR1 na hA=>?_⟩
          have back:∀ b,(upd H r (.ins t.Al dx (rf u (p+(dec n).length+[42,40].length)))) b=none→H b=none:=fun b hb=>by
            by_cases hbr:b=r
            · rw [hbr,hS2] at hb; cases hb
            · rw [Be hbr] at hb; exact hb
          refine k a H' (Hz.upd.trans s1) ?_ (back a na) (AtJ.imp (fun b hb _=>back b hb) _ _ _ hA)
          have e9:p+(dec n++42::40::(Oe xs++[41])).length=p+(dec n).length+[42,40].length+(Oe xs).length+1:=by
            simp only [List.length_append,List.length_cons,List.length_nil]
            omega
          rw [e9]
          exact hR1
        · exfalso
          rw [hdr] at hno
          exact hno (by simp)
theorem Ac3 {k d:Nat} (hk:1≤k) (T:Txt K mg t) (Ahn:Ar P w K mg base CX0 k t.Ib t.Aat ["reader", "depth"] (AnU t d)) :
    Ar P w K mg base CX0 (k+1) t.Fj t.Mx ["reader", "depth"] (Ag0 t d):=by
  have Hv:Ar P w K mg base CX0 1 t.CZ t.Jg _ _:=M5 T
  refine T.Lr.F.ok Ac0 (fun vs H Q E h=>?_) (fun cdv A outer s H vs Q E hr h=>?_)
  · obtain ⟨r,dx,u,p,xs,rest,e,rfl,_⟩:=h
    rfl
  · obtain ⟨r,dx,u,p,xs,rest,e,rfl,he,hR,hne,hl,hG,hd,hrest,k⟩:=h
    obtain ⟨x0,xs,rfl⟩:∃ y ys,xs=y::ys:=by
      cases xs with
      | nil=>exact absurd rfl hne
      | cons a b=>exact ⟨a,b,rfl⟩
    simp only [Oe] at hd k
    have hd':u.drop p=x0.tx++(Sy xs++rest):=by rw [hd,List.append_assoc]
    refine ⟨_,(Ad (Bo (i:=2) Ac0.nd rfl (Or.inl rfl) (Mi (Aa (Ak (Ahn.mono (by omega)) hr rfl T.Ob.m T.Ob.F.kp T.Ob.b .nil Ba (Aa (pv 0) (Aa (pv 1) Ac))) Ac)))
      (Ad (Aiq PassesOwn.never (Eh (AdU (pv 0) T.Cj.c T.Fp.m (Hv.mono (by omega)) hr T.Fp.b .nil Ba (Aa GR Ac)))
        (Ae (Ge (Gg (K:=K) PySem.F.plainAttrs_list PySem.F.slot_list_append PySem.F.type_list_append LK (pv 2) (Aa (Ak (Ahn.mono (by omega)) hr rfl T.Ob.m T.Ob.F.kp T.Ob.b .nil Ba (Aa (pv 0) (Aa (pv 1) Ac))) Ac)))))
      (Ae (Aq (pv 2))))),?_⟩
    refine ⟨_,rfl,_,rfl,r,dx,u,p,x0,Sy xs++rest,e,rfl,he,hR,hG _ List.mem_cons_self,hd',Aqa xs hrest,fun a H1 s1 hR1 na hA=>?_⟩
    obtain ⟨hd1,hp1⟩:=Ahm hR.2.1 hd'
    refine ⟨(by show 1≤sizeLine; decide),fun li hli=>?_⟩
    have s2:Ax H1 (upd H1 li (.lst [.ref a])):=.upd hli
    have hl2:(upd H1 li (.lst [.ref a])) li=some (.lst ([a].map V.ref)):=Ah
    have nlr:li≠r:=fun z=>by rw [z,hR1.1] at hli; cases hli
    have nli:H li=none:=s1.none hli nlr
    have a1:Amj t (upd H1 li (.lst [.ref a])) (fun b=>H b=none∧b≠li) d [a] [x0]:=⟨rfl,by simp,fun i b x e1 e2=>by
      cases i with
      | zero =>
        cases e1; cases e2
        exact AtJ.keep (Kp.same s2) d _ _ (AtJ.imp (fun b hb ⟨o,ho⟩=>⟨hb,fun z=>by rw [z,hli] at ho; cases ho⟩) d _ _ hA)
      | succ i=>simp at e1⟩
    generalize upd H1 li (.lst [.ref a])=H1' at s2 hl2 a1 ⊢
    refine ⟨fun m σ H2=>∃ (q:Nat) (rs:List Addr) (done todo:List It),σ=[some (.ref r),some (.int (e:Int)),some (.ref li)]∧xs=done++todo∧Hz r H H2∧Rd t H2 r dx u q∧q+(Sy todo).length=p+(x0.tx++Sy xs).length∧u.drop q=Sy todo++rest∧H2 li=some (.lst (rs.map V.ref))∧Amj t H2 (fun b=>H b=none∧b≠li) d rs (x0::done)∧m=todo.length,
      ⟨_,p+x0.tx.length,[a],[],xs,rfl,rfl,s1.trans (As9 s2),⟨s2 _ _ hR1.1,hR1.2⟩,by rw [List.length_append]; omega,hd1,hl2,a1,rfl⟩,?_⟩
    rintro m σ H2 ⟨q,rs,done,todo,rfl,exs,s3,hR3,hq3,hd3,hl3,hA3,rfl⟩
    refine ⟨_,rfl,r,dx,rf u q,rfl,hR3.1,(Rw u _).2.1,r,dx,u,q,[32],(by rw [AvM]; rfl),hR3,(by decide),fun Aet=>?_,fun hno=>?_⟩
    · refine ⟨_,rfl,?_⟩
      refine Ak4 ?_
      rw [hd3] at Aet
      cases todo with
      | nil =>
        exfalso
        simp only [Sy,List.nil_append] at Aet
        cases rest with
        | nil=>simp at Aet
        | cons c rr =>
          have:=hrest c rfl
          simp at Aet
          omega
      | cons y td =>
        have hGy:Gd d y:=hG y (by rw [exs]; simp)
        simp only [Sy] at hd3 hq3
        have Ayl:u.drop q=[32]++(y.tx++(Sy td++rest)):=by rw [hd3]; simp
        obtain ⟨hd4,hq4⟩:=Ahm hR3.2.1 Ayl
        have hS4:(upd H2 r (.ins t.Al dx (rf u (q+[32].length)))) r=some (.ins t.Al dx (rf u (q+[32].length))):=Ah
        have hl4:(upd H2 r (.ins t.Al dx (rf u (q+[32].length)))) li=some (.lst (rs.map V.ref)):=by rw [Be nlr]; exact hl3
        have s4:Hz r H2 (upd H2 r (.ins t.Al dx (rf u (q+[32].length)))):=Hz.upd
        generalize upd H2 r (.ins t.Al dx (rf u (q+[32].length)))=H4 at hS4 hl4 s4 ⊢
        refine ⟨_,fun σ' H' h=>h,?_⟩
        refine ⟨_,rfl,.inl ⟨rfl,_,SqL.of hl4⟩,_,rfl,_,rfl,r,dx,u,q+[32].length,y,Sy td++rest,e,rfl,he,⟨hS4,hq4,hR3.2.2⟩,hGy,hd4,Aqa td hrest,fun b H5 s5 hR5 nb hB=>?_⟩
        obtain ⟨hd5,_⟩:=Ahm hq4 hd4
        have hl5:=s5 _ _ nlr hl4
        have lrs:rs.length≤901:=by
          have:=hA3.len
          have l2:=congrArg List.length exs
          rw [List.length_append] at l2
          rw [List.length_cons] at this hl
          omega
        refine ⟨_,_,_,rfl,rfl,hl5,(by rw [List.length_map]; exact Xj (by omega)),?_⟩
        have sB:Hz r H2 H5:=s4.trans s5
        have hA5:=hA3.keep (Kp.but sB hR3.1 (AuO T) (AuP T))
        have hB5:AtJ t H5 (fun b=>H b=none∧b≠li) d b y:=AtJ.imp (fun c hc _=>⟨(s3.trans s4).none hc (fun z=>by rw [z,hS4] at hc; cases hc),fun z=>by rw [z,hl4] at hc; cases hc⟩) d _ _ hB
        have nF:¬ (H li=none∧li≠li):=fun z=>z.2 rfl
        have hA6:=(hA5.snoc hB5 (by omega)).keep (Kp.app (o:=.lst (rs.map V.ref++[V.ref b])) hl5 nF)
        refine ⟨td.length,by simp,q+[32].length+y.tx.length,rs++[b],done++[y],td,rfl,by rw [exs]; simp,?_,⟨?_,hR5.2⟩,?_,hd5,?_,?_,rfl⟩
        · intro c o hc ec
          rw [Be (Ce ec nli)]
          exact sB c o hc (s3 c o hc ec)
        · rw [Be nlr.symm]; exact hR5.1
        · rw [List.length_cons,List.length_append] at hq3
          simp only [List.length_cons,List.length_nil]
          omega
        · rw [Ah,List.map_append]; rfl
        · rw [← List.cons_append]
          exact hA6
    · refine ⟨_,rfl,?_⟩
      refine Jc ?_
      cases todo with
      | cons y td =>
        exfalso
        rw [hd3] at hno
        exact hno (by simp [Sy])
      | nil =>
        rw [List.append_nil] at exs
        subst exs
        simp only [Sy,List.length_nil,Nat.add_zero] at hq3
        rw [hq3] at hR3
        refine ⟨_,rfl,k li rs H2 s3 hR3 nli hl3 ⟨hA3.len,hA3.le,fun i r x e1 e2=>AtJ.imp (fun b hb _=>hb.1) d _ _ (hA3.at_ i r x e1 e2)⟩⟩
theorem AnW (T:Txt K mg t):∀ d:Nat,Ar P w K mg base CX0 (4 * d+7) t.Fj t.Mx ["reader", "depth"] (Ag0 t d)
  | 0=>Ac3 (k:=6) (by decide) T (Aew (k:=5) (by decide) T ((AiZ T).mono (by decide)))
  | d+1=>Ac3 (k:=4 * d+10) (by omega) T (Aew (k:=4 * d+9) (by omega) T (AkA (k:=4 * d+7) (by omega) T (AnW T d)))
theorem It.AvN:∀ (d:Nat) (x:It),Gd d x→1≤x.tx.length
  | d,.pth ss,h=>by
    have hG0:∃ n0 ns,ss=ofN (n0::ns)∧(∀ n∈n0::ns,n < 100)∧ns.length≤900:=by cases d <;> exact h
    obtain ⟨n0,ns,rfl,hn,_⟩:=hG0
    have ex:(It.pth (ofN (n0::ns))).tx=dec n0++tails ns:=by simp only [It.tx]; rw [Aeu]; rfl
    rw [ex,List.length_append]
    have:=(dec_is (hn n0 List.mem_cons_self)).l1
    omega
  | d,.tms n xs,h=>by
    simp only [It.tx,List.length_append,List.length_cons]
    omega
structure Row (u:List Nat) (xs:List It):Prop where
  le:xs.length≤900
  gd:∀ x∈xs,Gd 8 x
  tx:u=Oe xs
  ul:u.length≤1000000
def Aut (t:Adr):Sp:=fun vs H Q _=>∃ (u:List Nat) (xs:List It),vs=[.str (tx u)]∧Row u xs ∧
  ∀ (li:Addr) (rs:List Addr) (H':Hp),Ax H H'→H li=none→H' li=some (.lst (rs.map V.ref))→AnS t H' 8 rs xs→Q (.ref li) H'
theorem AnX (T:Txt K mg t):Ar P w K mg base CX0 40 t.J5 t.Adq ["text"] (Aut t):=by
  have Sx:Ar P w K mg base CX0 1 t.Du t.Mv _ _:=Zy T
  have Aex:Ar P w K mg base CX0 1 t.Ca t.Mu _ _:=Adt T
  have Y8:Ar P w K mg base CX0 39 t.Fj t.Mx _ _:=AnW T 8
  refine T.Aek.F.ok Aak (fun vs H Q E h=>?_) (fun cdv A outer s H vs Q E hr h=>?_)
  · obtain ⟨u,xs,rfl,_⟩:=h
    rfl
  · obtain ⟨u,xs,rfl,hW,k⟩:=h
    refine ⟨_,(Ad (BL (Av T9 (pv 0) GR (Bm _))
        (Ae (Aq (Mi Ac)))
        Bc)
      (Ad (Bo (i:=1) Aak.nd rfl (Or.inl rfl) (AbT T.Cj.m (Aex.mono (by decide)) hr rfl T.Ast T.Ga.b .nil Ba (Aa (pv 0) Ac)))
      (Ad (Bo (i:=2) Aak.nd rfl (Or.inl rfl) (Ak (Y8.mono (by decide)) hr rfl T.Lr.m T.Lr.F.kp T.Lr.b .nil Ba (Aa (pv 1) (Aa Aj Ac))))
      (Ad (BL (G4 (Eh (Aix (pv 1) T.Cj.c T.JB.m (Sx.mono (by decide)) hr T.JB.b .nil Ba)))
        (Ae G5)
        Bc)
      (Ae (Aq (pv 2))))))),?_⟩
    refine ⟨_,rfl,rfl,_,rfl,?_⟩
    cases xs with
    | nil =>
      have eu:u=[]:=by rw [hW.tx]; simp only [Oe]
      refine Ai4 (by rw [eu]; exact congrArg V.str (by decide +kernel)) ?_
      refine ⟨Nat.zero_le _,fun li hli=>?_⟩
      exact k li [] _ (.upd hli) hli Ah ⟨rfl,by simp,fun i r x e1 _=>by simp at e1⟩
    | cons x0 xs =>
      have u1:1≤u.length:=by
        have:=It.AvN 8 x0 (hW.gd _ List.mem_cons_self)
        rw [hW.tx]
        simp only [Oe,List.length_append]
        omega
      refine Gi (fun z=>?_) ?_
      · injection z with z
        have:u=[]:=Adl (z.trans (by decide +kernel))
        rw [this] at u1
        simp at u1
      refine ⟨_,rfl,fun r dx hr1 hdx hne=>⟨r,dx,u,rfl,Ah,rfl,?_⟩⟩
      rw [T8]
      have hR:Rd t (upd (upd H dx (.own r)) r (.ins t.Al dx (rf u 0))) r dx u 0:=⟨Ah,Nat.zero_le _,hW.ul⟩
      have s1:Ax H (upd (upd H dx (.own r)) r (.ins t.Al dx (rf u 0))):=(Ax.upd hdx).over hr1
      generalize upd (upd H dx (.own r)) r (.ins t.Al dx (rf u 0))=H1 at hR s1 ⊢
      refine ⟨_,rfl,r,dx,u,0,x0::xs,[],0,rfl,by decide,hR,by simp,hW.le,hW.gd,by rw [List.append_nil]; exact hW.tx,fun c hc=>by simp at hc,fun li rs H' s2 hR' nli hli hA=>?_⟩
      rw [Nat.zero_add,← hW.tx] at hR'
      refine ⟨_,rfl,r,dx,rf u u.length,rfl,hR'.1,(Rw u _).1,r,dx,u,u.length,rfl,hR',_,rfl,?_⟩
      rw [decide_eq_true rfl]
      refine Jc ?_
      have s3:Ax H H':=fun b o e=>s2 b o (Ce e hr1) (s1 b o e)
      exact ⟨_,rfl,k li rs H' s3 (s1.free nli) hli ⟨hA.len,hA.le,fun i r x e1 e2=>AtJ.to 8 _ _ (hA.at_ i r x e1 e2)⟩⟩
end
theorem Sms.Aja:∀ {xs:List It},(∀ x∈xs,x.Sm)→Sms xs
  | [],_=>by simp only [Sms]
  | x::xs,h=>by
    simp only [Sms]
    exact ⟨h x List.mem_cons_self,Sms.Aja fun y hy=>h y (List.mem_cons_of_mem _ hy)⟩
theorem Gd.sm:∀ (d:Nat) (x:It),Gd d x→x.Sm
  | d,.pth ss,h=>by
    have hG0:∃ n0 ns,ss=ofN (n0::ns)∧(∀ n∈n0::ns,n < 100)∧ns.length≤900:=by cases d <;> exact h
    obtain ⟨n0,ns,rfl,hn,_⟩:=hG0
    simp only [It.Sm]
    refine ⟨by simp [ofN],fun s hs=>?_⟩
    obtain ⟨n,hn',rfl⟩:=List.mem_map.mp hs
    have:=hn n hn'
    show n≤400
    omega
  | 0,.tms n xs,h=>h.elim
  | d+1,.tms n xs,h=>by
    obtain ⟨h1,_,_,_,h5⟩:=h
    simp only [It.Sm]
    exact ⟨h1,Sms.Aja fun y hy=>Gd.sm d y (h5 y hy)⟩
section
variable {P:Program} {w:World} {K:PySem.W.Frag} {mg:Str→Option Value} {base:Heap} {t:Adr}
def AvO:Sp:=fun vs H Q _=>∃ (u:List Nat) (xs:List It),vs=[.str (tx u)]∧Row u xs∧szs xs≤400∧∀ q H',Ax H H'→H q=none→H' q=some (.lst (vI (nus xs)))→Q (.ref q) H'
theorem AnY (T:Txt K mg t):Ar P w K mg base CX0 41 t.Ik t.Yw ["text"] AvO:=by
  have Apo:Ar P w K mg base CX0 40 t.J5 t.Adq _ _:=AnX T
  have Y6:Ar P w K mg base CX0 18 t.Fi t.Mw _ _:=As2 T 8
  have Wq:Ar P w K mg base CX0 19 t.Ef t.K3 _ _:=As5 T 8
  refine T.K4.F.ok Ahl (fun vs H Q E h=>?_) (fun cdv A outer s H vs Q E hr h=>?_)
  · obtain ⟨u,xs,rfl,_⟩:=h
    rfl
  · obtain ⟨u,xs,rfl,hW,c',k1⟩:=h
    refine ⟨_,(Ad (Bo (i:=1) Ahl.nd rfl (Or.inl rfl) (Ak (Apo.mono (by decide)) hr rfl T.Aek.m T.Aek.F.kp T.Aek.b .nil Ba (Aa (pv 0) Ac)))
      (Ad (BL (Av Acw (Ak (Y6.mono (by decide)) hr rfl T.Lq.m T.Lq.F.kp T.Lq.b .nil Ba (Aa (pv 1) Ac)) (K8 (v:=.int 400) rfl T.AiU.choose_spec ⟨_,rfl⟩) (Bm _))
        (Ae G5)
        Bc)
      (Ae (Aq (Ak (Wq.mono (by decide)) hr rfl T.J8.m T.J8.F.kp T.J8.b .nil Ba (Aa (pv 1) Ac)))))),?_⟩
    refine ⟨_,rfl,u,xs,rfl,hW,fun li rs H1 s1 nli hli hA=>?_⟩
    refine ⟨_,rfl,li,rs,_,rfl,hli,hA,fun H2 s2=>?_⟩
    refine ⟨_,_,rfl,rfl,_,rfl,?_⟩
    refine Gi (by omega) ?_
    exact ⟨_,rfl,li,rs,xs,rfl,s2 _ _ hli,hA.same s2,Sms.Aja fun x hx=>Gd.sm 8 x (hW.gd x hx),c',fun q H3 s3 nq hq=>k1 q H3 ((s1.trans s2).trans s3) ((s1.trans s2).free nq) hq⟩
end
theorem AnZ (z:List Nat):∀ (ys:List (List Nat)) (acc:Array Nat),(ys.map tx).foldl (fun acc p=>acc++(tx z).cps++p.cps) acc=acc++((ys.map fun y=>z++y).flatten).toArray
  | [],acc=>by simp
  | y::ys,acc=>by
    rw [List.map_cons,List.foldl_cons,AnZ z ys]
    simp [tx]
theorem Ajb (z y:List Nat) (ys:List (List Nat)):Txt.join (tx z) ((y::ys).map tx)=tx (y++(ys.map fun y=>z++y).flatten):=by
  show Str.mk _=_
  simp only [List.map_cons,List.drop_one,List.tail_cons,List.headD_cons]
  rw [AnZ]
  simp [tx]
theorem Ajc:∀ (ns:List Nat),((ns.map dec).map fun y=>[45]++y).flatten=tails ns
  | []=>rfl
  | n::r=>by
    rw [List.map_cons,List.map_cons,List.flatten_cons,Ajc r,tails]
    rfl
theorem AqZ (n0:Nat) (ns:List Nat):Txt.join (tx [45]) (((n0::ns).map dec).map tx)=tx (M6 (n0::ns)):=by
  rw [List.map_cons,Ajb,Ajc,M6]
def more:List (List Nat)→List Nat
  | []=>[]
  | ps::r=>32::(M6 ps++more r)
structure Okp (ps:List Nat):Prop where
  ne:1≤ps.length
  le:ps.length≤900
  bd:∀ n∈ps,n < 100
def AvP (ps:List Nat) (pss:List (List Nat)):List Nat:=M6 ps++more pss
def rT:List (List Nat)→List Nat
  | []=>[]
  | p::r=>AvP p r
def nT (pss:List (List Nat)):List Int:=((pss.map ofN).map Xu).flatten
theorem Aqb (pss:List (List Nat)) (p:List Nat):nT (pss++[p])=nT pss++Xu (ofN p):=by
  unfold nT
  simp
theorem Ara {z:List Int} {a:Int} (b:Int):Xu ((z++[a])++[b])=Xu (z++[a])++Wo a b:=by
  cases z with
  | nil=>simp [Xu,go]
  | cons s r=>rw [List.cons_append,List.cons_append,Xu,Aep,lst_snoc,Xu,List.cons_append]
theorem Acg (a b:List Nat):ofN (a++b)=ofN a++ofN b:=by unfold ofN; rw [List.map_append]
theorem AvQ (pss:List (List Nat)) (q:List Nat) (a n:Nat):nT (pss++[(q++[a])++[n]])=nT (pss++[q++[a]])++Wo (a:Int) (n:Int):=by
  rw [Aqb,Aqb,Acg (q++[a]) [n],Acg q [a]]
  show nT pss++Xu ((ofN q++[(a:Int)])++[(n:Int)])=nT pss++Xu (ofN q++[(a:Int)])++Wo (a:Int) (n:Int)
  rw [Ara,List.append_assoc]
def gt (row:List Nat) (i:Nat):Nat:=row.getD i 0
def un (row:List Nat) (i:Nat):Prop:=gt row (i+1)=gt row i+1∨gt row i=gt row (i+1)+1
instance (row:List Nat) (i:Nat):Decidable (un row i):=inferInstanceAs (Decidable (_∨_))
def Leg (row:List Nat) (j k:Nat):Prop:=∃ d:Int,(d=1∨d=-1)∧∀ i,j≤i→i < k→(gt row (i+1):Int)=(gt row i:Int)+d
theorem AsC {row:List Nat} {j:Nat} {d:Int}:∀ {q:Nat},(∀ i,j≤i→i < j+q→(gt row (i+1):Int)=(gt row i:Int)+d)→(gt row (j+q):Int)=(gt row j:Int)+d * (q:Int)
  | 0,_=>by simp
  | q+1,h=>by
    have h1:=AsC (q:=q) fun i h1 h2=>h i h1 (by omega)
    have h2:=h (j+q) (by omega) (by omega)
    rw [show j+(q+1)=j+q+1 by omega,h2,h1]
    have:d * ((q+1:Nat):Int)=d * (q:Int)+d:=by rw [show ((q+1:Nat):Int)=(q:Int)+1 by omega,Int.mul_add,Int.mul_one]
    omega
theorem AsD {row:List Nat} {j k:Nat} (hj:j≤k) (hk:k < row.length) (L:Leg row j k):Wo (gt row j:Int) (gt row k:Int)=ofN ((row.drop (j+1)).take (k - j)):=by
  obtain ⟨d,hd,hL⟩:=L
  have at':∀ q,q≤k - j→(gt row (j+q):Int)=(gt row j:Int)+d * (q:Int):=fun q hq=>AsC fun i h1 h2=>hL i h1 (by omega)
  have e:=at' (k - j) (Nat.le_refl _)
  rw [show j+(k - j)=k by omega] at e
  have ab:AiV ((gt row k:Int) - (gt row j:Int))=((k - j:Nat):Int):=by
    unfold AiV
    rcases hd with h | h <;> subst h
    · split <;> omega
    · split <;> omega
  have sg:∀ q:Nat,1≤q→q≤k - j→(if (gt row k:Int) - (gt row j:Int) < 0 then (-1:Int) else 1) * (q:Int)=d * (q:Int):=fun q h1 h2=>by
    rcases hd with h | h <;> subst h
    · rw [if_neg (by omega)]
    · rw [if_pos (by omega)]
  refine List.ext_getElem? fun i=>?_
  by_cases hi:i < k - j
  · have h1:=AnO (a:=(gt row j:Int)) (b:=(gt row k:Int)) (q:=i+1) (by omega) (by rw [ab]; omega)
    rw [show i+1 - 1=i by omega] at h1
    rw [h1,sg (i+1) (by omega) (by omega),← at' (i+1) (by omega)]
    have hl:j+(i+1) < row.length:=by omega
    unfold ofN
    rw [List.getElem?_map,List.getElem?_take_of_lt hi,List.getElem?_drop,show j+1+i=j+(i+1) by omega,List.getElem?_eq_getElem hl]
    show some _=some _
    congr 1
    unfold gt
    rw [List.getD_eq_getElem?_getD,List.getElem?_eq_getElem hl]
    rfl
  · have l1:=Aeq (gt row j:Int) (gt row k:Int)
    rw [ab] at l1
    rw [List.getElem?_eq_none (by omega),List.getElem?_eq_none (by unfold ofN; rw [List.length_map,List.length_take,List.length_drop]; omega)]
theorem AsE {row:List Nat} {j k:Nat} (hj:j≤k) (hk:k < row.length) (L:Leg row j k):ofN (row.take (j+1))++Wo (gt row j:Int) (gt row k:Int)=ofN (row.take (k+1)):=by
  rw [AsD hj hk L,← Acg]
  congr 1
  have e:k+1=(j+1)+(k - j):=by omega
  rw [e,show row.take ((j+1)+(k - j))=row.take (j+1)++(row.drop (j+1)).take (k - j) from List.take_add]
theorem Leg.one (row:List Nat) (j:Nat):Leg row j j:=⟨1,.inl rfl,fun i h1 h2=>by omega⟩
theorem Leg.step {row:List Nat} {j k:Nat} (hj:j≤k) (L:Leg row j k) (u:un row k) (same:j < k→(gt row (k+1):Int) - gt row k=(gt row k:Int) - gt row (k - 1)):Leg row j (k+1):=by
  by_cases h:j=k
  · subst h
    rcases u with u | u
    · exact ⟨1,.inl rfl,fun i h1 h2=>by have:i=j:=(by omega); subst this; omega⟩
    · exact ⟨-1,.inr rfl,fun i h1 h2=>by have:i=j:=(by omega); subst this; omega⟩
  · obtain ⟨d,hd,hL⟩:=L
    refine ⟨d,hd,fun i h1 h2=>?_⟩
    by_cases q:i < k
    · exact hL i h1 q
    · have:i=k:=by omega
      subst this
      have s:=same (by omega)
      have e:=hL (i - 1) (by omega) (by omega)
      rw [show i - 1+1=i by omega] at e
      omega
def cs (n:Nat):Nat:=(dec n).length+1
def cP (p:List Nat):Nat:=(p.map cs).sum
def cT (pss:List (List Nat)):Nat:=(pss.map cP).sum
theorem Auu (p:List Nat) (n:Nat):cP (p++[n])=cP p+cs n:=by unfold cP; simp
theorem Aqc (pss:List (List Nat)) (p:List Nat):cT (pss++[p])=cT pss+cP p:=by unfold cT; simp
theorem Ajd:∀ r,(tails r).length=cP r
  | []=>rfl
  | n::r=>by
    rw [tails,List.length_cons,List.length_append,Ajd r]
    show _=(dec n).length+1+cP r
    omega
theorem Y9 {p:List Nat} (h:p≠[]):(M6 p).length+1=cP p:=by
  cases p with
  | nil=>exact absurd rfl h
  | cons n r =>
    rw [M6,List.length_append,Ajd]
    show _=(dec n).length+1+cP r
    omega
theorem Aoa:∀ r,(∀ p∈r,p≠[])→(more r).length=cT r
  | [],_=>rfl
  | p::r,h=>by
    have h1:=Y9 (h p List.mem_cons_self)
    rw [more,List.length_cons,List.length_append,Aoa r fun q hq=>h q (List.mem_cons_of_mem _ hq)]
    show _=cP p+cT r
    omega
theorem AvR {pss:List (List Nat)} (h:pss≠[]) (hp:∀ p∈pss,p≠[]):(rT pss).length+1=cT pss:=by
  cases pss with
  | nil=>exact absurd rfl h
  | cons p r =>
    have h1:=Y9 (hp p List.mem_cons_self)
    show (AvP p r).length+1=cP p+cT r
    unfold AvP
    rw [List.length_append,Aoa r fun q hq=>hp q (List.mem_cons_of_mem _ hq)]
    omega
def must (row:List Nat) (P:Nat→Bool) (i:Nat):Prop:=i=0∨i+1=row.length∨P i=true∨P (i+1)=true∨(gt row (i+1):Int) - gt row i≠(gt row i:Int) - gt row (i - 1)
def gs (row:List Nat) (i:Nat):Prop:=i=0∨¬ un row (i - 1)∨i+1=row.length∨¬ un row i∨gt row (i - 1)=gt row (i+1)
instance (row:List Nat) (i:Nat):Decidable (gs row i):=inferInstanceAs (Decidable (_∨_))
def AsF (row:List Nat) (k:Nat):Nat:=((List.range k).map fun i=>if gs row i then cs (gt row i) else 0).sum
def nb (row:List Nat) (k:Nat):Nat:=((List.range k).map fun i=>if 0 < i∧¬ un row (i - 1) then 1 else 0).sum
theorem Ag3 (row:List Nat) (k:Nat):AsF row (k+1)=AsF row k+(if gs row k then cs (gt row k) else 0):=by
  unfold AsF
  rw [List.range_succ,List.map_append,List.sum_append]
  simp
theorem Aml (row:List Nat) (k:Nat):nb row (k+1)=nb row k+(if 0 < k∧¬ un row (k - 1) then 1 else 0):=by
  unfold nb
  rw [List.range_succ,List.map_append,List.sum_append]
  simp
structure Prt (row:List Nat) (P:Nat→Bool):Prop where
  z:P 0=false
  u:∀ i,i < row.length→P i=false→0 < i→un row (i - 1)
theorem Auv {row:List Nat} {P:Nat→Bool} (hP:Prt row P) {i:Nat} (hi:i < row.length) (h:gs row i):must row P i:=by
  by_cases i0:i=0
  · exact .inl i0
  by_cases il:i+1=row.length
  · exact .inr (.inl il)
  by_cases p0:P i=true
  · exact .inr (.inr (.inl p0))
  by_cases p1:P (i+1)=true
  · exact .inr (.inr (.inr (.inl p1)))
  refine .inr (.inr (.inr (.inr ?_)))
  have u0:=hP.u i hi (by simpa using p0) (by omega)
  have u1:=hP.u (i+1) (by omega) (by simpa using p1) (by omega)
  rw [show i+1 - 1=i by omega] at u1
  rcases h with h | h | h | h | h
  · exact absurd h i0
  · exact absurd u0 h
  · exact absurd h il
  · exact absurd u1 h
  · unfold un at u0 u1
    rw [show i - 1+1=i by omega] at u0
    omega
structure Wt (row:List Nat) (P:Nat→Bool) (k:Nat) (pss:List (List Nat)) (p:List Nat) (j:Nat):Prop where
  q:∃ q,p=q++[gt row j]
  jk:j < k
  num:nT (pss++[p])=ofN (row.take (j+1))
  leg:Leg row j (k - 1)
  skip:∀ i,j < i→i < k→¬ must row P i
  bd:∀ q∈pss++[p],q≠[]∧∀ n∈q,n < 100
  cost:AsF row k≤cT (pss++[p])
  cnt:nb row k+1≤(pss++[p]).length
  len:pss.length≤k∧∀ q∈pss++[p],q.length≤2 * k
section
variable {row:List Nat} {P:Nat→Bool} {k:Nat} {pss:List (List Nat)} {p:List Nat} {j:Nat}
theorem Aqd (hb:∀ n∈row,n < 100) (hk:k < row.length):gt row k < 100:=by
  unfold gt
  rw [List.getD_eq_getElem?_getD,List.getElem?_eq_getElem hk]
  exact hb _ (List.getElem_mem hk)
theorem Aqe (hk:k < row.length):row.take (k+1)=row.take k++[gt row k]:=by
  unfold gt
  rw [List.take_add_one,List.getElem?_eq_getElem hk,List.getD_eq_getElem?_getD,List.getElem?_eq_getElem hk]
  rfl
theorem AsG (hb:∀ n∈row,n < 100) (h0:0 < row.length):Wt row P 1 [] [gt row 0] 0:=by
  refine ⟨⟨[],rfl⟩,by omega,?_,Leg.one row 0,fun i h1 h2=>by omega,fun q hq=>?_,?_,?_,Nat.zero_le _,fun q hq=>?_⟩
  · rw [Aqe h0]
    simp [nT,ofN,Xu,go]
  · rw [List.mem_singleton.mp hq]
    exact ⟨by simp,fun n hn=>by rw [List.mem_singleton.mp hn]; exact Aqd hb h0⟩
  · rw [Ag3]
    have:gs row 0:=.inl rfl
    rw [if_pos this]
    simp [AsF,cT,cP]
  · rw [Aml,if_neg (by omega)]
    simp [nb]
  · rw [List.mem_singleton.mp hq]
    simp
theorem Wt.Axf (W:Wt row P k pss p j) (hP:Prt row P) (hk:k < row.length) (hp:P k=false):Leg row j k:=by
  have jk:=W.jk
  have u:=hP.u k hk hp (by omega)
  have:=Leg.step (k:=k - 1) (by omega) W.leg u fun h=>?_
  · rwa [show k - 1+1=k by omega] at this
  · have nm:=W.skip (k - 1) h (by omega)
    refine Classical.byContradiction fun z=>nm (.inr (.inr (.inr (.inr ?_))))
    exact z
theorem Wt.Axg (W:Wt row P k pss p j) (hP:Prt row P) (hk:k < row.length) (nm:¬ must row P k):Wt row P (k+1) pss p j:=by
  have jk:=W.jk
  have hp:P k=false:=by
    cases e:P k with
    | false=>rfl
    | true=>exact absurd (.inr (.inr (.inl e))) nm
  refine ⟨W.q,by omega,W.num,by rw [Nat.add_sub_cancel]; exact W.Axf hP hk hp,fun i h1 h2=>?_,W.bd,?_,?_,by have:=W.len.1; omega,fun q hq=>by have:=W.len.2 q hq; omega⟩
  · by_cases q:i=k
    · rw [q]; exact nm
    · exact W.skip i h1 (by omega)
  · rw [Ag3,if_neg fun z=>nm (Auv hP hk z)]
    exact W.cost
  · rw [Aml,if_neg fun z=>z.2 (hP.u k hk hp z.1)]
    exact W.cnt
theorem Axh (row:List Nat) (k:Nat):(if gs row k then cs (gt row k) else 0)≤cs (gt row k):=by split <;> omega
theorem Wt.ext (W:Wt row P k pss p j) (hP:Prt row P) (hb:∀ n∈row,n < 100) (hk:k < row.length) (hp:P k=false):Wt row P (k+1) pss (p++[gt row k]) k:=by
  have jk:=W.jk
  obtain ⟨q,eq⟩:=W.q
  refine ⟨⟨p,rfl⟩,by omega,?_,by rw [Nat.add_sub_cancel]; exact Leg.one row k,fun i h1 h2=>by omega,fun r hr=>?_,?_,?_,by have:=W.len.1; omega,fun r hr=>?_⟩
  · have n:=W.num
    rw [eq] at n ⊢
    rw [AvQ,n]
    exact AsE (by omega) hk (W.Axf hP hk hp)
  · rcases List.mem_append.mp hr with h | h
    · exact W.bd r (List.mem_append_left _ h)
    · rw [List.mem_singleton.mp h]
      refine ⟨by simp,fun n hn=>?_⟩
      rcases List.mem_append.mp hn with h | h
      · exact (W.bd p (List.mem_append_right _ List.mem_cons_self)).2 n h
      · rw [List.mem_singleton.mp h]; exact Aqd hb hk
  · have c1:=W.cost
    have c2:=Axh row k
    rw [Aqc] at c1
    rw [Ag3,Aqc,Auu]
    omega
  · have c1:=W.cnt
    rw [Aml,if_neg fun z=>z.2 (hP.u k hk hp z.1)]
    rw [List.length_append] at c1 ⊢
    exact c1
  · rcases List.mem_append.mp hr with h | h
    · have:=W.len.2 r (List.mem_append_left _ h); omega
    · have:=W.len.2 p (List.mem_append_right _ List.mem_cons_self)
      rw [List.mem_singleton.mp h,List.length_append]
      simp only [List.length_singleton]
      omega
theorem Wt.done (W:Wt row P row.length pss p j):nT (pss++[p])=ofN row:=by
  have jk:=W.jk
  have ej:j+1=row.length:=Classical.byContradiction fun z=>W.skip (row.length - 1) (by omega) (by omega) (.inr (.inl (by omega)))
  rw [W.num,ej,List.take_length]
end
def Adu (v:List Nat) (i:Nat):Prop:=i=0∨i+1=v.length∨gt v (i - 1)=gt v (i+1)
instance (v:List Nat) (i:Nat):Decidable (Adu v i):=inferInstanceAs (Decidable (_∨_))
def Xv (v:List Nat) (k:Nat):List Nat:=((List.range k).filter fun i=>decide (Adu v i)).map (gt v)
def stp (v:List Nat):List Nat:=Xv v v.length
def cv (v:List Nat):Nat:=((List.range v.length).map fun i=>if Adu v i then cs (gt v i) else 0).sum
structure Run (v:List Nat):Prop where
  ne:v≠[]
  u:∀ i,i+1 < v.length→un v i
  bd:∀ n∈v,n < 100
theorem Adv (v:List Nat) (k:Nat):Xv v (k+1)=Xv v k++(if Adu v k then [gt v k] else []):=by
  unfold Xv
  rw [List.range_succ,List.filter_append,List.map_append]
  congr 1
  by_cases h:Adu v k
  · rw [if_pos h,List.filter_cons_of_pos (p:=fun i=>decide (Adu v i)) (decide_eq_true h)]; rfl
  · rw [if_neg h,List.filter_cons_of_neg (p:=fun i=>decide (Adu v i)) (by rw [decide_eq_false h]; simp)]; rfl
theorem Aqf {v:List Nat} (R:Run v):Prt v fun _=>false:=⟨rfl,fun i hi _ h0=>R.u (i - 1) (by omega)⟩
theorem Arb {v:List Nat} (R:Run v) {i:Nat} (hi:i < v.length):Adu v i↔must v (fun _=>false) i:=by
  constructor
  · rintro (h | h | h)
    · exact .inl h
    · exact .inr (.inl h)
    · by_cases i0:i=0
      · exact .inl i0
      by_cases il:i+1=v.length
      · exact .inr (.inl il)
      have u0:=R.u (i - 1) (by omega)
      have u1:=R.u i (by omega)
      unfold un at u0 u1
      rw [show i - 1+1=i by omega] at u0
      exact .inr (.inr (.inr (.inr (by omega))))
  · rintro (h | h | h | h | h)
    · exact .inl h
    · exact .inr (.inl h)
    · cases h
    · cases h
    · by_cases i0:i=0
      · exact .inl i0
      by_cases il:i+1=v.length
      · exact .inr (.inl il)
      have u0:=R.u (i - 1) (by omega)
      have u1:=R.u i (by omega)
      unfold un at u0 u1
      rw [show i - 1+1=i by omega] at u0
      exact .inr (.inr (by omega))
theorem AsH {v:List Nat} (R:Run v):∀ k,k+1≤v.length→∃ j,Wt v (fun _=>false) (k+1) [] (Xv v (k+1)) j
  | 0,h=>by
    have:Xv v 1=[gt v 0]:=by
      rw [Adv]
      have:Adu v 0:=.inl rfl
      rw [if_pos this]
      rfl
    exact ⟨0,by rw [this]; exact AsG R.bd h⟩
  | k+1,h=>by
    obtain ⟨j,W⟩:=AsH R k (by omega)
    rw [Adv]
    by_cases q:Adu v (k+1)
    · rw [if_pos q]
      exact ⟨k+1,W.ext (Aqf R) R.bd (by omega) rfl⟩
    · rw [if_neg q,List.append_nil]
      exact ⟨j,W.Axg (Aqf R) (by omega) fun z=>q ((Arb R (by omega)).mpr z)⟩
theorem Aey {v:List Nat} (R:Run v):Xu (ofN (stp v))=ofN v∧stp v≠[]∧(∀ n∈stp v,n < 100)∧(stp v).length≤2 * v.length:=by
  have l:0 < v.length:=List.length_pos_iff.mpr R.ne
  obtain ⟨j,W⟩:=AsH R (v.length - 1) (by omega)
  rw [show v.length - 1+1=v.length by omega] at W
  have:=W.done
  have b:=W.bd (stp v) (by show stp v∈[]++[Xv v v.length]; exact List.mem_cons_self)
  have c:=W.len.2 (stp v) (by show stp v∈[]++[Xv v v.length]; exact List.mem_cons_self)
  refine ⟨?_,b.1,b.2,c⟩
  rw [show nT ([]++[Xv v v.length])=Xu (ofN (stp v)) by simp [nT,stp]] at this
  exact this
theorem Ach {v r:List Nat} {i:Nat} (h:i < v.length):gt (v++r) i=gt v i:=by
  unfold gt
  rw [List.getD_eq_getElem?_getD,List.getElem?_append_left h,← List.getD_eq_getElem?_getD]
theorem Aje (v r:List Nat) (i:Nat):gt (v++r) (v.length+i)=gt r i:=by
  unfold gt
  rw [List.getD_eq_getElem?_getD,List.getElem?_append_right (by omega),show v.length+i - v.length=i by omega,← List.getD_eq_getElem?_getD]
theorem Aqg {v r:List Nat} {i:Nat} (h:i+1 < v.length):un (v++r) i↔un v i:=by
  unfold un
  rw [Ach h,Ach (by omega)]
section
variable {v r:List Nat}
end
def Rns:List (List Nat)→Prop
  | []=>True
  | [v]=>Run v
  | v::v'::r=>Run v∧¬ (gt v' 0=gt v (v.length - 1)+1∨gt v (v.length - 1)=gt v' 0+1)∧Rns (v'::r)
theorem Jq:∀ {vss:List (List Nat)},Rns vss→∀ v∈vss,Run v
  | [],_,v,h=>by cases h
  | [v'],h,v,hv=>by rw [List.mem_singleton.mp hv]; exact h
  | v'::v2::r,h,v,hv=>by
    rcases List.mem_cons.mp hv with z | z
    · rw [z]; exact h.1
    · exact Jq h.2.2 v z
theorem Ajf:∀ {vss:List (List Nat)} {v w:List Nat},Rns (vss++[v])→Run w→¬ (gt w 0=gt v (v.length - 1)+1∨gt v (v.length - 1)=gt w 0+1)→Rns (vss++[v]++[w])
  | [],v,w,h,R,b=>⟨h,b,R⟩
  | [u],v,w,h,R,b=>⟨h.1,h.2.1,Ajf (vss:=[]) h.2.2 R b⟩
  | u::u'::r,v,w,h,R,b=>⟨h.1,h.2.1,Ajf (vss:=u'::r) h.2.2 R b⟩
theorem Aqh:∀ {vss:List (List Nat)} {v w:List Nat},Rns (vss++[v])→Run w→gt w 0=gt v 0→Rns (vss++[w])
  | [],v,w,h,R,b=>R
  | [u],v,w,h,R,b=>⟨h.1,by rw [b]; exact h.2.1,R⟩
  | u::u'::r,v,w,h,R,b=>⟨h.1,h.2.1,Aqh (vss:=u'::r) h.2.2 R b⟩
theorem Auw {v:List Nat} {n:Nat} (R:Run v) (hn:n < 100) (u:n=gt v (v.length - 1)+1∨gt v (v.length - 1)=n+1):Run (v++[n]):=by
  have vl:0 < v.length:=List.length_pos_iff.mpr R.ne
  refine ⟨by simp,fun i hi=>?_,fun m hm=>?_⟩
  · rw [List.length_append] at hi
    simp only [List.length_singleton] at hi
    by_cases q:i+1 < v.length
    · exact (Aqg q).mpr (R.u i q)
    · have e:i=v.length - 1:=by omega
      unfold un
      rw [e,show v.length - 1+1=v.length+0 by omega,Aje,Ach (by omega)]
      exact u
  · rcases List.mem_append.mp hm with h | h
    · exact R.bd m h
    · rw [List.mem_singleton.mp h]; exact hn
theorem AvS {vss:List (List Nat)} (h:Rns vss):nT (vss.map stp)=ofN vss.flatten:=by
  have:∀ v∈vss,Run v:=Jq h
  clear h
  induction vss with
  | nil=>rfl
  | cons v r ih =>
    have h1:=(Aey (this v List.mem_cons_self)).1
    have h2:=ih fun u hu=>this u (List.mem_cons_of_mem _ hu)
    unfold nT at h2 ⊢
    rw [List.map_cons,List.map_cons,List.map_cons,List.flatten_cons,h1,h2,List.flatten_cons,Acg]
section
variable {P:Program} {w:World} {K:PySem.W.Frag} {mg:Str→Option Value} {base:Heap} {t:Adr}
theorem Aqi {v:List Nat} {k:Nat} (h:k < v.length):atI (vI (ofN v)) (k:Int)=some (.int (gt v k:Int)):=Fw (by omega) (by
  rw [Int.toNat_natCast]
  unfold ofN gt
  refine RT ?_
  rw [List.getElem?_map,List.getElem?_eq_getElem h,List.getD_eq_getElem?_getD,List.getElem?_eq_getElem h]
  rfl)
theorem Adw (v:List Nat):(vI (ofN v)).length=v.length:=by rw [Bd]; unfold ofN; rw [List.length_map]
def Aux (K:PySem.W.Frag):Sp:=fun vs H Q _=>∃ (l:Addr) (v:List Nat) (k:Nat),vs=[.ref l,.int (k:Int)]∧SqL K H l (vI (ofN v))∧k < v.length∧Q (.bl (decide (Adu v k))) H
theorem Apq (T:Txt K mg t):Ar P w K mg base CX0 1 t.LQ t.Ago ["path", "k"] (Aux K):=by
  refine T.Aif.F.ok Apg (fun vs H Q E h=>?_) (fun cdv A outer s H vs Q E hr h=>?_)
  · obtain ⟨l,v,k,rfl,_⟩:=h
    rfl
  · obtain ⟨l,v,k,rfl,hS,hk,kk⟩:=h
    refine ⟨_,(Ad (BL (PW.pt (pw_or (Av T9 (pv 1) Aj (Bm _)) (pw_or1 (Av T9 (pv 1) (Bp Ym (Ao (An (K:=K)) rfl T.DR Cd (Aa (pv 0) Ac)) Aj) (Bm _)))))
        (Ae (Aq G3))
        Bc)
      (Ae (Aq (ApE T9 (Bu (Az (K:=K)) (pv 0) (Bp Ym (pv 1) Aj) (fun _ _=>rfl)) (Bu (Az (K:=K)) (pv 0) (Bp GX (pv 1) Aj) (fun _ _=>rfl)) (Bm _))))),?_⟩
    refine ⟨_,rfl,rfl,_,rfl,?_⟩
    by_cases h0:k=0
    · have:Adu v k:=.inl h0
      rw [decide_eq_true this] at kk
      exact Ai4 (by rw [h0]; rfl) (Ak4 kk)
    refine Gi (fun z=>h0 (by have:=V.int.inj z; omega)) ?_
    refine ⟨_,rfl,_,rfl,_,_,rfl,.inl hS,_,_,rfl,rfl,rfl,_,rfl,?_⟩
    rw [Adw]
    by_cases h1:k+1=v.length
    · have:Adu v k:=.inr (.inl h1)
      rw [decide_eq_true this] at kk
      exact Ai4 (congrArg V.int (by omega)) kk
    refine Gi (fun z=>h1 (by have:=V.int.inj z; omega)) ?_
    have e1:atI (vI (ofN v)) ((k:Int) - 1)=some (.int (gt v (k - 1):Int)):=by rw [show (k:Int) - 1=((k - 1:Nat):Int) by omega]; exact Aqi (by omega)
    have e2:atI (vI (ofN v)) ((k:Int)+1)=some (.int (gt v (k+1):Int)):=by rw [show (k:Int)+1=((k+1:Nat):Int) by omega]; exact Aqi (by omega)
    refine ⟨_,rfl,_,rfl,_,_,rfl,rfl,_,_,_,_,rfl,rfl,hS,e1,_,rfl,_,rfl,_,_,rfl,rfl,_,_,_,_,rfl,rfl,hS,e2,rfl,?_⟩
    have:decide ((V.int (gt v (k - 1):Int):V)=V.int (gt v (k+1):Int))=decide (Adu v k):=decide_eq_decide.mpr ⟨fun z=>.inr (.inr (by have:=V.int.inj z; omega)),fun z=>by
      rcases z with z | z | z
      · exact absurd z h0
      · exact absurd z h1
      · rw [z]⟩
    rw [this]
    exact kk
theorem Auy (ns:List Nat) (h:∀ n∈ns,n < 100):(((ns.map dec).map tx).map (·.length)).sum≤2 * ns.length:=by
  induction ns with
  | nil=>exact Nat.le_refl _
  | cons n r ih =>
    have h1:=(dec_is (h n List.mem_cons_self)).l2
    have h2:=ih fun m hm=>h m (List.mem_cons_of_mem _ hm)
    rw [List.map_cons,List.map_cons,List.map_cons,List.sum_cons,Bt,List.length_cons]
    omega
def Axi (K:PySem.W.Frag):Sp:=fun vs H Q _=>∃ (l:Addr) (v:List Nat),vs=[.ref l]∧SqL K H l (vI (ofN v))∧Run v∧v.length≤400∧∀ H',Ax H H'→Q (.str (tx (M6 (stp v)))) H'
theorem AhD (T:Txt K mg t):Ar P w K mg base CX0 2 t.FJ t.RZ ["path"] (Axi K):=by
  have Arc:Ar P w K mg base CX0 1 t.LQ t.Ago _ _:=Apq T
  refine T.Rq.F.ok Ah6 (fun vs H Q E h=>?_) (fun cdv A outer s H vs Q E hr h=>?_)
  · obtain ⟨l,v,rfl,_⟩:=h
    rfl
  · obtain ⟨l,v,rfl,hS,R,Azp,k⟩:=h
    have hsz:sizeLine=16777216:=sizeLine_eq
    obtain ⟨sn,sne,sbd,sl⟩:=Aey R
    refine ⟨_,(Ae (Aq (Gg (K:=K) PySem.F.plainAttrs_str PySem.F.slot_str_join PySem.F.type_str_join (Mm (K:=K)) GR (Aa (Jj (Fv.mk (Bl:=[0]) (Nc:=["k", "path"]) rfl (by decide +kernel) (by decide +kernel) (Es (sc0:=Ab CG) rfl (by decide +kernel)) rfl rfl rfl (by decide +kernel) (fun k j h=>match k,h with | 0,h=>by obtain rfl:=Option.some.inj h; exact ⟨_,rfl,rfl,rfl⟩ | _+1,h=>by simp at h)) rfl (FQ rfl T.GJ (Aa (Ao (An (K:=K)) rfl T.DR Cd (Aa (pv 0) Ac)) Ac)) (fun _ _ _ _ _=>.one (Eh (Ak (Arc.mono (by decide)) hr rfl T.Aif.m T.Aif.F.kp T.Aif.b .nil Ba (Aa (pv 1) (Aa (pv 0) Ac))))) (fun _ _ _ _ _=>(FW AdS rfl T.Asr AoP (Aa (Bu (Az (K:=K)) (pv 1) (pv 0) (fun _ _=>rfl)) Ac)))) Ac)))),?_⟩
    refine ⟨rfl,_,rfl,_,_,rfl,.inl hS,_,rfl,(by omega),(by rw [Adw]; omega),?_⟩
    rw [Int.toNat_natCast,Adw]
    refine Yr (lo:=0) (n:=v.length) (fun i ys H2=>H2=H∧ys=vS ((Xv v i).map dec)) ⟨rfl,rfl⟩ ?_ ?_ ?_ ?_
    · rintro i ys H2 hi ⟨rfl,rfl⟩
      rw [Cz,List.length_map]
      unfold Xv
      rw [List.length_map]
      have:=List.length_filter_le (fun i=>decide (Adu v i)) (List.range i)
      rwa [List.length_range] at this
    · omega
    · rintro i ys H2 hi ⟨rfl,rfl⟩
      refine ⟨_,rfl,_,rfl,l,v,i,(by rw [Int.zero_add]; rfl),hS,hi,?_⟩
      refine ⟨_,rfl,?_⟩
      have st:=Adv v i
      refine Qu (fun q=>?_) (fun q=>?_)
      · rw [if_pos q] at st
        have e1:atI (vI (ofN v)) (0+(i:Int))=some (.int (gt v i:Int)):=by rw [Int.zero_add]; exact Aqi hi
        have AvT:=Aqd R.bd hi
        refine ⟨_,rfl,_,rfl,_,_,_,_,rfl,rfl,hS,e1,_,rfl,?_,?_⟩
        · show (gt v i).log2 < 1920
          exact Nat.lt_of_le_of_lt (Nat.log2_le_self _) (by omega)
        · show CN v.length _ i (vS ((Xv v i).map dec)++[.str (Str.ofString (toString ((gt v i:Nat):Int)))]) H2
          rw [As6,Ml]
          refine CN.of hi ⟨rfl,?_⟩
          rw [st,List.map_append]
          rfl
      · rw [if_neg q,List.append_nil] at st
        exact CN.of hi ⟨rfl,by rw [st]⟩
    · rintro ys H2 q ⟨rfl,rfl⟩ hq
      refine ⟨_,_,((stp v).map dec).map tx,rfl,rfl,SqL.of (by rw [Ah,Wf]; rfl),?_,?_⟩
      · have:=Auy (stp v) sbd
        have d1:Str.length "-" = 1:=by decide +kernel
        rw [List.length_map,List.length_map,d1]
        omega
      · rw [show (("-" : Str))=tx [45] from by decide +kernel]
        obtain ⟨a,r,e⟩:∃ a r,stp v=a::r:=by
          cases e:stp v with
          | nil=>exact absurd e sne
          | cons a r=>exact ⟨a,r,rfl⟩
        have k':=k _ (.upd (o:=.lst (vS ((Xv v v.length).map dec))) hq)
        rw [e] at k' ⊢
        rw [AqZ]
        exact k'
structure NL (H:Hp) (y:Addr) (rs:List Addr) (tss:List (List Int)):Prop where
  h:H y=some (.lst (rs.map V.ref))
  l:rs.length=tss.length
  r:∀ (i:Nat) (a:Addr) (ks:List Int),rs[i]?=some a→tss[i]?=some ks→H a=some (.lst (vI ks))
theorem NL.same {H H':Hp} {y:Addr} {rs:List Addr} {tss:List (List Int)} (N:NL H y rs tss) (s:Ax H H'):NL H' y rs tss:=⟨s _ _ N.h,N.l,fun i a ks h1 h2=>s _ _ (N.r i a ks h1 h2)⟩
theorem NL.at {H:Hp} {y:Addr} {rs:List Addr} {tss:List (List Int)} (N:NL H y rs tss) {i:Nat} {a:V} (h:(rs.map V.ref)[i]?=some a):∃ r ks,a=.ref r∧rs[i]?=some r∧tss[i]?=some ks∧H r=some (.lst (vI ks)):=by
  rw [List.getElem?_map] at h
  cases e:rs[i]? with
  | none=>rw [e] at h; cases h
  | some r =>
    rw [e] at h
    cases h
    have hi:i < tss.length:=by rw [← N.l]; exact (List.getElem?_eq_some_iff.mp e).1
    exact ⟨r,tss[i],rfl,rfl,List.getElem?_eq_getElem hi,N.r i r _ e (List.getElem?_eq_getElem hi)⟩
theorem Aqj {α:Type} (xs:List α) (x:α):atI (xs++[x]) (-1)=some x:=by
  unfold atI ixN
  rw [if_neg (by decide),if_pos (by rw [List.length_append]; simp; omega)]
  have:(-1+((xs++[x]).length:Int)).toNat=xs.length:=by rw [List.length_append]; simp; omega
  rw [this]
  show (xs++[x])[xs.length]?=some x
  rw [List.getElem?_append_right (Nat.le_refl _),Nat.sub_self]
  rfl
theorem Ue {α:Type}:∀ (l:List α),l=[]∨∃ a b,l=a++[b]
  | []=>.inl rfl
  | x::l=>by
    rcases Ue l with h | ⟨a,b,h⟩
    · exact .inr ⟨[],x,by rw [h]; rfl⟩
    · exact .inr ⟨x::a,b,by rw [h]; rfl⟩
theorem NL.Auz {H:Hp} {y r:Addr} {rs:List Addr} {tss:List (List Int)} {z z':List Int} (N:NL H y (rs++[r]) (tss++[z])) (hy:y∉rs++[r]) (nd:(rs++[r]).Nodup):NL (upd H r (.lst (vI z'))) y (rs++[r]) (tss++[z']):=by
  have l:=N.l
  rw [List.length_append,List.length_append] at l
  simp only [List.length_singleton] at l
  refine ⟨by rw [Be fun e=>hy (by rw [e]; exact List.mem_append_right _ List.mem_cons_self)]; exact N.h,by rw [List.length_append,List.length_append]; simp only [List.length_singleton]; omega,fun i a ks h1 h2=>?_⟩
  by_cases hi:i < rs.length
  · rw [List.getElem?_append_left hi] at h1
    rw [List.getElem?_append_left (by omega)] at h2
    have ne:a≠r:=fun e=>by
      have:=(List.nodup_append.mp nd).2.2 a (List.mem_of_getElem? h1) r List.mem_cons_self
      exact this e
    rw [Be ne]
    exact N.r i a ks (by rw [List.getElem?_append_left hi]; exact h1) (by rw [List.getElem?_append_left (by omega)]; exact h2)
  · have il:=(List.getElem?_eq_some_iff.mp h1).1
    rw [List.length_append] at il
    simp only [List.length_singleton] at il
    have e:i=rs.length:=by omega
    subst e
    rw [List.getElem?_append_right (Nat.le_refl _),Nat.sub_self] at h1
    rw [List.getElem?_append_right (by omega),show rs.length - tss.length=0 by omega] at h2
    cases h1
    cases h2
    exact Ah
theorem NL.more {H:Hp} {y r:Addr} {rs:List Addr} {tss:List (List Int)} {z:List Int} (N:NL H y rs tss) (hr:H r=some (.lst (vI z))) (hy:y∉rs) (ry:r≠y):NL (upd H y (.lst ((rs++[r]).map V.ref))) y (rs++[r]) (tss++[z]):=by
  have l:=N.l
  refine ⟨Ah,by rw [List.length_append,List.length_append,l]; rfl,fun i a ks h1 h2=>?_⟩
  by_cases hi:i < rs.length
  · rw [List.getElem?_append_left hi] at h1
    rw [List.getElem?_append_left (by omega)] at h2
    rw [Be fun e=>hy (by rw [← e]; exact List.mem_of_getElem? h1)]
    exact N.r i a ks h1 h2
  · have il:=(List.getElem?_eq_some_iff.mp h1).1
    rw [List.length_append] at il
    simp only [List.length_singleton] at il
    have e:i=rs.length:=by omega
    subst e
    rw [List.getElem?_append_right (Nat.le_refl _),Nat.sub_self] at h1
    rw [List.getElem?_append_right (by omega),show rs.length - tss.length=0 by omega] at h2
    cases h1
    cases h2
    rw [Be ry]
    exact hr
def Ard (K:PySem.W.Frag):Sp:=fun vs H Q _=>∃ (l:Addr) (row:List Nat),vs=[.ref l]∧SqL K H l (vI (ofN row))∧(∀ n∈row,n < 100)∧row.length≤400∧∀ (y:Addr) (rs:List Addr) (vss:List (List Nat)) (H':Hp),Ax H H'→NL H' y rs (vss.map ofN)→Rns vss→vss.flatten=row→Q (.ref y) H'
theorem Ag4 {vss:List (List Nat)} (h:∀ v∈vss,v≠[]):vss.length≤vss.flatten.length:=by
  induction vss with
  | nil=>exact Nat.le_refl _
  | cons v r ih =>
    have h1:=List.length_pos_iff.mpr (h v List.mem_cons_self)
    have h2:=ih fun u hu=>h u (List.mem_cons_of_mem _ hu)
    rw [List.flatten_cons,List.length_append,List.length_cons]
    omega
theorem Are (T:Txt K mg t):Ar P w K mg base CX0 1 t.Qw t.AiQ ["row"] (Ard K):=by
  refine T.parted.F.ok Agl (fun vs H Q E h=>?_) (fun cdv A outer s H vs Q E hr h=>?_)
  · obtain ⟨l,row,rfl,_⟩:=h
    rfl
  · obtain ⟨l,row,rfl,hS,hb,r400,k⟩:=h
    have hsz:sizeLine=16777216:=sizeLine_eq
    refine ⟨_,(Ad (Bo (i:=1) Agl.nd rfl (Or.inl rfl) (Mi Ac))
      (Ad (Et PassesOwn.never rfl (Br (K:=K) (pv 0)) (Cg (i:=2) Agl.nd rfl (Or.inl rfl))
        (Ae (BL (PW.pt (pw_and (AqE (K:=K) (pv 1) (fun _=>rfl)) (pw_and1 (Av T9 (Ao Ank rfl T.AuK ArF (Aa (Bp Ym (pv 2) (Bu (Az (K:=K)) (Bu (Az (K:=K)) (pv 1) (Ais Adj Aj) (fun _ _=>rfl)) (Ais Adj Aj) (fun _ _=>rfl))) Ac)) Aj (Bm _)))))
          (Ae (Ge (Gg (K:=K) PySem.F.plainAttrs_list PySem.F.slot_list_append PySem.F.type_list_append LK (Bu (Az (K:=K)) (pv 1) (Ais Adj Aj) (fun _ _=>rfl)) (Aa (pv 2) Ac))))
          (Ae (Ge (Gg (K:=K) PySem.F.plainAttrs_list PySem.F.slot_list_append PySem.F.type_list_append LK (pv 1) (Aa (Mi (Aa (pv 2) Ac)) Ac)))))))
      (Ae (Aq (pv 1))))),?_⟩
    refine ⟨Nat.zero_le _,fun y ny=>?_⟩
    have s1:Ax H (upd H y (.lst [])):=.upd ny
    have hy1:(upd H y (.lst [])) y=some (.lst (([]:List Addr).map V.ref)):=Ah
    generalize upd H y (.lst [])=H1 at s1 hy1 ⊢
    refine ⟨_,rfl,_,rfl,⟨_,s1.seq hS⟩,Ha (K:=K) (a:=l) (xs:=vI (ofN row)) (fun i σ H2=>∃ (vss:List (List Nat)) (rs:List Addr) (v2:Option V),σ=[some (.ref l),some (.ref y),v2]∧Ax H H2∧NL H2 y rs (vss.map ofN)∧(∀ r∈rs,H r=none)∧y∉rs∧rs.Nodup∧Rns vss∧vss.flatten=row.take i)
      ⟨[],[],none,rfl,s1,⟨hy1,rfl,fun i a ks h=>by simp at h⟩,fun r h=>(by cases h),(by simp),List.nodup_nil,trivial,rfl⟩ (fun i σ H2 _ ⟨_,_,_,_,g,_⟩=>g.seq hS) ?_ ?_⟩
    · rintro i x σ H2 hx ⟨vss,rs,v2,rfl,s2,N,fr,yr,nd,R,fl⟩
      have il:i < row.length:=by have:=(List.getElem?_eq_some_iff.mp hx).1; rwa [Adw] at this
      obtain rfl:x=.int (gt row i:Int):=by
        have e:=Aqi (v:=row) il
        unfold atI at e
        have:ixN (vI (ofN row)).length (i:Int)=some i:=by
          have:=AoR (n:=(vI (ofN row)).length) (i:=(i:Int)) (by omega) (by rw [Adw]; omega)
          rwa [Int.toNat_natCast] at this
        rw [this] at e
        have e:(vI (ofN row))[i]?=some (.int (gt row i:Int)):=e
        rw [hx] at e
        exact Option.some.inj e
      have AvT:=Aqd hb il
      have tk:=Aqe il
      have vl:vss.length≤400:=by
        have:=Ag4 fun v hv=>(Jq R v hv).ne
        rw [fl,List.length_take] at this
        omega
      have rl:rs.length=vss.length:=by have:=N.l; rwa [List.length_map] at this
      have AsI:Run [gt row i]:=⟨by simp,fun i hi=>by simp at hi,fun n hn=>by rw [List.mem_singleton.mp hn]; exact AvT⟩
      refine ⟨_,rfl,_,.inl ⟨_,SqL.of N.h,rfl⟩,?_⟩
      have Axj:∀ r,H2 r=none→Rns (vss++[[gt row i]])→(fun (i:Nat) (σ:St) (H2:Hp)=>∃ (vss:List (List Nat)) (rs:List Addr) (v2:Option V),σ=[some (.ref l),some (.ref y),v2]∧Ax H H2∧NL H2 y rs (vss.map ofN)∧(∀ r∈rs,H r=none)∧y∉rs∧rs.Nodup∧Rns vss∧vss.flatten=row.take i) (i+1) [some (.ref l),some (.ref y),some (.int (gt row i:Int))] (upd (upd H2 r (.lst [.int (gt row i:Int)])) y (.lst (rs.map V.ref++[.ref r]))):=fun r nr R'=>by
        have s3:Ax H2 (upd H2 r (.lst [.int (gt row i:Int)])):=.upd nr
        have ry:r≠y:=fun e=>by have:=N.h; rw [← e,nr] at this; cases this
        have rn:r∉rs:=fun z=>by
          obtain ⟨j,hj,e⟩:=List.getElem_of_mem z
          have:=N.r j r _ (by rw [List.getElem?_eq_getElem hj,e]) (List.getElem?_eq_getElem (by rw [← N.l]; exact hj))
          rw [nr] at this
          cases this
        have N3:=(N.same s3).more (r:=r) (z:=ofN [gt row i]) (by rw [Ah]; rfl) yr ry
        refine ⟨vss++[[gt row i]],rs++[r],_,rfl,(s2.trans s3).over ny,?_,fun r' hr'=>?_,fun z=>?_,List.nodup_append.mpr ⟨nd,by simp,fun a ha b hb e=>?_⟩,R',?_⟩
        · have e1:rs.map V.ref++[V.ref r]=(rs++[r]).map V.ref:=by rw [List.map_append]; rfl
          have e2:(vss++[[gt row i]]).map ofN=vss.map ofN++[ofN [gt row i]]:=by rw [List.map_append]; rfl
          rw [e1,e2]
          exact N3
        · rcases List.mem_append.mp hr' with h | h
          · exact fr r' h
          · rw [List.mem_singleton.mp h]; exact s2.free nr
        · rcases List.mem_append.mp z with h | h
          · exact yr h
          · exact ry (List.mem_singleton.mp h).symm
        · rw [List.mem_singleton.mp hb] at e
          rw [e] at ha
          exact rn ha
        · rw [List.flatten_append,fl,tk]
          simp
      rcases Ue vss with e | ⟨ws,v,e⟩
      · have er:rs=[]:=List.length_eq_zero_iff.mp (by rw [rl,e]; rfl)
        have ee:(rs.map V.ref).isEmpty=true:=by rw [er]; rfl
        rw [ee]
        refine Jc ?_
        refine Jc ?_
        refine ⟨_,rfl,.inl ⟨rfl,_,SqL.of N.h⟩,_,rfl,(by show 1≤sizeLine; decide),fun r nr=>?_⟩
        refine ⟨_,_,_,rfl,rfl,(Ax.upd nr) _ _ N.h,(by rw [List.length_map]; omega),?_⟩
        exact Axj r nr (by rw [e]; exact AsI)
      · obtain ⟨rs0,r,er⟩:∃ rs0 r,rs=rs0++[r]:=by
          rcases Ue rs with z | ⟨a,b,z⟩
          · rw [z,e,List.length_append] at rl
            simp at rl
          · exact ⟨a,b,z⟩
        have Rv:=Jq R v (by rw [e]; exact List.mem_append_right _ List.mem_cons_self)
        have v0:=List.length_pos_iff.mpr Rv.ne
        have Azq:v.length≤row.length:=by
          have h1:v.length≤vss.flatten.length:=by
            rw [e,List.flatten_append,List.length_append]
            simp
          rw [fl,List.length_take] at h1
          omega
        have ee:(rs.map V.ref).isEmpty=false:=by rw [er,List.map_append]; simp
        rw [ee]
        refine Ak4 ?_
        have N':NL H2 y (rs0++[r]) (ws.map ofN++[ofN v]):=by
          have:(ws++[v]).map ofN=ws.map ofN++[ofN v]:=by rw [List.map_append]; rfl
          rw [← er,← this,← e]
          exact N
        have rl0:rs0.length=ws.length:=by
          have:=N'.l
          rw [List.length_append,List.length_append,List.length_map] at this
          simpa using this
        have hr2:H2 r=some (.lst (vI (ofN v))):=N'.r rs0.length r (ofN v) (by rw [List.getElem?_append_right (Nat.le_refl _),Nat.sub_self]; rfl) (by rw [List.getElem?_append_right (by rw [List.length_map]; omega),List.length_map,rl0,Nat.sub_self]; rfl)
        have aL:atI (rs.map V.ref) (-1)=some (.ref r):=by rw [er,List.map_append]; exact Aqj _ _
        have bL:atI (vI (ofN v)) (-1)=some (.int (gt v (v.length - 1):Int)):=by
          rcases Ue v with z | ⟨v1,m,z⟩
          · exact absurd z Rv.ne
          · have:vI (ofN v)=vI (ofN v1)++[.int (m:Int)]:=by rw [z,Acg]; unfold vI; rw [List.map_append]; rfl
            rw [this,Aqj]
            have:gt v (v.length - 1)=m:=by
              rw [z,show (v1++[m]).length - 1=v1.length+0 by rw [List.length_append]; simp,Aje]
              rfl
            rw [this]
        refine ⟨_,rfl,_,rfl,_,rfl,_,_,_,_,rfl,rfl,SqL.of N.h,aL,_,rfl,_,_,_,_,rfl,rfl,SqL.of hr2,bL,_,_,rfl,rfl,_,rfl,rfl,_,rfl,?_⟩
        by_cases u:gt row i=gt v (v.length - 1)+1∨gt v (v.length - 1)=gt row i+1
        · refine Ai4 (congrArg V.int (by show (if (gt row i:Int) - (gt v (v.length - 1):Int) < 0 then -((gt row i:Int) - (gt v (v.length - 1):Int)) else (gt row i:Int) - (gt v (v.length - 1):Int))=1; split <;> omega)) ?_
          refine ⟨_,rfl,_,rfl,_,_,_,_,rfl,rfl,SqL.of N.h,aL,.inl ⟨rfl,_,SqL.of hr2⟩,_,rfl,_,_,_,rfl,rfl,hr2,(by rw [Adw]; omega),?_⟩
          have ea:vI (ofN v)++[.int (gt row i:Int)]=vI (ofN (v++[gt row i])):=by rw [Acg]; unfold vI; rw [List.map_append]; rfl
          rw [ea]
          have Rn:=Auw Rv AvT u
          refine ⟨ws++[v++[gt row i]],rs,_,rfl,s2.over (fr r (by rw [er]; exact List.mem_append_right _ List.mem_cons_self)),?_,fr,yr,nd,?_,?_⟩
          · have e2:(ws++[v++[gt row i]]).map ofN=ws.map ofN++[ofN (v++[gt row i])]:=by rw [List.map_append]; rfl
            rw [e2,er]
            exact N'.Auz (by rw [← er]; exact yr) (by rw [← er]; exact nd)
          · rw [e] at R
            exact Aqh R Rn (Ach v0)
          · rw [e] at fl
            rw [List.flatten_append] at fl ⊢
            rw [tk,← fl]
            simp
        · refine Gi (fun z=>u (by
            have z:(if (gt row i:Int) - (gt v (v.length - 1):Int) < 0 then -((gt row i:Int) - (gt v (v.length - 1):Int)) else (gt row i:Int) - (gt v (v.length - 1):Int))=1:=V.int.inj z
            split at z <;> omega)) ?_
          refine ⟨_,rfl,.inl ⟨rfl,_,SqL.of N.h⟩,_,rfl,(by show 1≤sizeLine; decide),fun r' nr'=>?_⟩
          refine ⟨_,_,_,rfl,rfl,(Ax.upd nr') _ _ N.h,(by rw [List.length_map]; omega),?_⟩
          refine Axj r' nr' ?_
          rw [e] at R ⊢
          exact Ajf R AsI u
    · rintro σ H2 ⟨vss,rs,v2,rfl,s2,N,fr,yr,nd,R,fl⟩
      rw [Adw,List.take_length] at fl
      exact ⟨_,rfl,k y rs vss H2 s2 N R fl⟩
theorem Alv:∀ (r:List (List Nat)),((r.map M6).map fun y=>[32]++y).flatten=more r
  | []=>rfl
  | p::r=>by
    rw [List.map_cons,List.map_cons,List.flatten_cons,Alv r,more]
    rfl
theorem join_rows (pss:List (List Nat)):Txt.join (tx [32]) ((pss.map M6).map tx)=tx (rT pss):=by
  cases pss with
  | nil=>simp [Txt.join,Builtin.Str.glued,tx,Str.empty,rT]
  | cons p r =>
    rw [List.map_cons,Ajb,Alv]
    rfl
theorem AsJ {p:List Nat} (h:∀ n∈p,n < 100):cP p≤3 * p.length:=by
  induction p with
  | nil=>exact Nat.le_refl _
  | cons n r ih =>
    have h1:=(dec_is (h n List.mem_cons_self)).l2
    have h2:=ih fun m hm=>h m (List.mem_cons_of_mem _ hm)
    show (dec n).length+1+cP r≤3 * (r.length+1)
    omega
theorem Arf {vss:List (List Nat)} (h:∀ v∈vss,Run v):((((vss.map stp).map M6).map tx).map (·.length)).sum≤6 * vss.flatten.length:=by
  induction vss with
  | nil=>exact Nat.le_refl _
  | cons v r ih =>
    have R:=h v List.mem_cons_self
    obtain ⟨_,ne,bd,le⟩:=Aey R
    have h1:=Y9 ne
    have h2:=AsJ bd
    have h3:=ih fun u hu=>h u (List.mem_cons_of_mem _ hu)
    rw [List.map_cons,List.map_cons,List.map_cons,List.map_cons,List.sum_cons,Bt,List.flatten_cons,List.length_append]
    omega
def AsK (K:PySem.W.Frag):Sp:=fun vs H Q _=>∃ (l:Addr) (row:List Nat),vs=[.ref l]∧SqL K H l (vI (ofN row))∧(∀ n∈row,n < 100)∧row.length≤400∧∀ (vss:List (List Nat)) (H':Hp),Ax H H'→Rns vss→vss.flatten=row→Q (.str (tx (rT (vss.map stp)))) H'
theorem AsL (T:Txt K mg t):Ar P w K mg base CX0 3 t.OJ t.Aei ["row"] (AsK K):=by
  have AsM:Ar P w K mg base CX0 1 t.Qw t.AiQ _ _:=Are T
  have Ajg:Ar P w K mg base CX0 2 t.FJ t.RZ _ _:=AhD T
  refine T.shown.F.ok Asn (fun vs H Q E h=>?_) (fun cdv A outer s H vs Q E hr h=>?_)
  · obtain ⟨l,row,rfl,_⟩:=h
    rfl
  · obtain ⟨l,row,rfl,hS,hb,r400,k⟩:=h
    have hsz:sizeLine=16777216:=sizeLine_eq
    refine ⟨_,(Ae (Aq (Gg (K:=K) PySem.F.plainAttrs_str PySem.F.slot_str_join PySem.F.type_str_join (Mm (K:=K)) GR (Aa (Jj (Fv.mk (Bl:=[]) (Nc:=["path"]) rfl (by decide +kernel) (by decide +kernel) (Es (sc0:=Ab Mr) rfl (by decide +kernel)) rfl rfl rfl (by decide +kernel) (fun _ _ h=>by simp at h)) rfl (Br (K:=K) (Ak (AsM.mono (by decide)) hr rfl T.parted.m T.parted.F.kp T.parted.b .nil Ba (Aa (pv 0) Ac))) (fun _ _ _ _ _=>.nil) (fun _ _ _ _ _=>(Ak (Ajg.mono (by decide)) hr rfl T.Rq.m T.Rq.F.kp T.Rq.b .nil Ba (Aa (pv 0) Ac)))) Ac)))),?_⟩
    refine ⟨rfl,_,rfl,l,row,rfl,hS,hb,r400,fun y rs vss H1 s1 N R fl=>?_⟩
    have all:=Jq R
    have vl:vss.length≤400:=by
      have:=Ag4 fun v hv=>(all v hv).ne
      rw [fl] at this
      omega
    have rl:rs.length=vss.length:=by have:=N.l; rwa [List.length_map] at this
    have vle:∀ v∈vss,v.length≤400:=fun v hv=>by
      have:v.length≤vss.flatten.length:=by
        obtain ⟨a,b,e⟩:=List.append_of_mem hv
        rw [e,List.flatten_append,List.flatten_cons,List.length_append,List.length_append]
        omega
      rw [fl] at this
      omega
    refine ⟨_,rfl,⟨_,SqL.of N.h⟩,Dk (K:=K) (a:=y) (xs:=rs.map V.ref) (fun i ys H2=>Ax H1 H2∧ys=vS (((vss.take i).map stp).map M6)) ⟨.refl _,rfl⟩ ?_ ?_ ?_ ?_⟩
    · rintro i ys H2 hi ⟨s2,rfl⟩
      refine ⟨SqL.of (s2 _ _ N.h),?_⟩
      rw [Cz,List.length_map,List.length_map,List.length_take]
      omega
    · rw [List.length_map]; omega
    · rintro i x ys H2 hi hx ⟨s2,rfl⟩
      obtain ⟨r,ks,rfl,h1,h2,h3⟩:=(N.same s2).at hx
      rw [List.getElem?_map] at h2
      cases hv:vss[i]? with
      | none=>rw [hv] at h2; cases h2
      | some v =>
        rw [hv] at h2
        obtain rfl:ofN v=ks:=Option.some.inj h2
        have vm:=List.mem_of_getElem? hv
        refine Hy.no ?_
        refine ⟨_,rfl,r,v,rfl,SqL.of h3,all v vm,vle v vm,fun H3 s3=>?_⟩
        dsimp only
        rw [Ml]
        refine CN.of hi ⟨s2.trans s3,?_⟩
        rw [List.take_add_one,hv,List.map_append,List.map_append]
        rfl
    · rintro ys H2 q ⟨s2,rfl⟩ hq
      rw [List.length_map,rl,List.take_length]
      refine ⟨_,_,((vss.map stp).map M6).map tx,rfl,rfl,SqL.of (by rw [Ah,Wf]),?_,?_⟩
      · have:=Arf all
        have d1:Str.length " " = 1:=by decide +kernel
        rw [fl] at this
        rw [List.length_map,List.length_map,List.length_map,d1]
        omega
      · rw [show ((" " : Str))=tx [32] from by decide +kernel,join_rows]
        exact k vss _ ((s1.trans s2).new hq) R fl
theorem Aob:∀ {vss wss:List (List Nat)},Rns vss→Rns wss→vss.flatten=wss.flatten→vss=wss
  | [],[],_,_,_=>rfl
  | [],w::r,_,R,e=>by
    have:=(Jq R w List.mem_cons_self).ne
    rw [List.flatten_nil,List.flatten_cons] at e
    exact absurd (List.append_eq_nil_iff.mp e.symm).1 this
  | v::r,[],R,_,e=>by
    have:=(Jq R v List.mem_cons_self).ne
    rw [List.flatten_nil,List.flatten_cons] at e
    exact absurd (List.append_eq_nil_iff.mp e).1 this
  | v::r,w::q,R,S,e=>by
    have Rv:=Jq R v List.mem_cons_self
    have Sw:=Jq S w List.mem_cons_self
    rw [List.flatten_cons,List.flatten_cons] at e
    have key:∀ {v w:List Nat} {r q:List (List Nat)},Rns (v::r)→Rns (w::q)→v++r.flatten=w++q.flatten→¬ v.length < w.length:=fun {v w r q} R S e lt=>by
      have Rv:=Jq R v List.mem_cons_self
      have Sw:=Jq S w List.mem_cons_self
      have vp:0 < v.length:=List.length_pos_iff.mpr Rv.ne
      match r,R with
      | [],R =>
        have:=congrArg List.length e
        rw [List.flatten_nil,List.append_nil,List.length_append] at this
        omega
      | v2::r2,R =>
        have V2:=Jq R v2 (by simp)
        have p2:0 < v2.length:=List.length_pos_iff.mpr V2.ne
        have h:=Sw.u (v.length - 1) (by omega)
        rw [← Aqg (r:=q.flatten) (by omega),← e] at h
        unfold un at h
        have a1:gt (v++(v2::r2).flatten) (v.length - 1)=gt v (v.length - 1):=Ach (by omega)
        have a2:gt (v++(v2::r2).flatten) (v.length - 1+1)=gt v2 0:=by rw [show v.length - 1+1=v.length+0 by omega,Aje,List.flatten_cons,Ach p2]
        rw [a1,a2] at h
        exact R.2.1 h
    have n1:=key R S e
    have n2:=key S R e.symm
    have hv:=List.append_inj e (by omega)
    have R':Rns r:=match r,R with
      | [],_=>trivial
      | _::_,R=>R.2.2
    have S':Rns q:=match q,S with
      | [],_=>trivial
      | _::_,S=>S.2.2
    rw [hv.1,Aob R' S' hv.2]
open Classical in
noncomputable def prt (row:List Nat):List (List Nat):=if h:∃ vss,Rns vss∧vss.flatten=row then h.choose else []
theorem AvU {row:List Nat} {vss:List (List Nat)} (R:Rns vss) (e:vss.flatten=row):prt row=vss:=by
  have h:∃ vss,Rns vss∧vss.flatten=row:=⟨vss,R,e⟩
  unfold prt
  rw [dif_pos h]
  exact Aob h.choose_spec.1 R (h.choose_spec.2.trans e.symm)
noncomputable def shT (row:List Nat):List Nat:=rT ((prt row).map stp)
structure Shn (row:List Nat):Prop where
  r:Rns (prt row)
  e:(prt row).flatten=row
def AvV (K:PySem.W.Frag):Sp:=fun vs H Q _=>∃ (l:Addr) (row:List Nat),vs=[.ref l]∧SqL K H l (vI (ofN row))∧(∀ n∈row,n < 100)∧row.length≤400∧∀ H',Ax H H'→Shn row→Q (.str (tx (shT row))) H'
theorem AvW (T:Txt K mg t):Ar P w K mg base CX0 3 t.OJ t.Aei ["row"] (AvV K):=(AsL T).imp fun vs H Q E ⟨l,row,e,hS,hb,hl,k⟩=>⟨l,row,e,hS,hb,hl,fun vss H' s R fl=>by
  have p:=AvU R fl
  have:=k H' s ⟨by rw [p]; exact R,by rw [p]; exact fl⟩
  unfold shT at this
  rwa [p] at this⟩
theorem Ag5 {n:Nat} (h:n < 100):∀ c∈dec n,c≠47∧c≠44:=fun c hc=>by have:=(dec_is h).dg c hc; omega
theorem Aho:∀ {r:List Nat},(∀ n∈r,n < 100)→∀ c∈tails r,c≠47∧c≠44
  | [],_,c,hc=>by cases hc
  | n::r,h,c,hc=>by
    rw [tails] at hc
    rcases List.mem_cons.mp hc with z | z
    · omega
    · rcases List.mem_append.mp z with z | z
      · exact Ag5 (h n List.mem_cons_self) c z
      · exact Aho (fun m hm=>h m (List.mem_cons_of_mem _ hm)) c z
theorem Aps {p:List Nat} (h:∀ n∈p,n < 100):∀ c∈M6 p,c≠47∧c≠44:=fun c hc=>by
  cases p with
  | nil=>cases hc
  | cons n r =>
    rcases List.mem_append.mp hc with z | z
    · exact Ag5 (h n List.mem_cons_self) c z
    · exact Aho (fun m hm=>h m (List.mem_cons_of_mem _ hm)) c z
theorem Alw {p:It→Prop} (k:∀ x,p x→∀ c∈x.tx,c≠47∧c≠44):∀ {xs:List It},(∀ x∈xs,p x)→∀ c∈Sy xs,c≠47∧c≠44
  | [],_,c,hc=>by rw [Sy] at hc; cases hc
  | x::xs,h,c,hc=>by
    rw [Sy] at hc
    rcases List.mem_cons.mp hc with z | z
    · omega
    · rcases List.mem_append.mp z with z | z
      · exact k x (h x List.mem_cons_self) c z
      · exact Alw k (fun y hy=>h y (List.mem_cons_of_mem _ hy)) c z
theorem Alx {p:It→Prop} (k:∀ x,p x→∀ c∈x.tx,c≠47∧c≠44) {xs:List It} (h:∀ x∈xs,p x):∀ c∈Oe xs,c≠47∧c≠44:=fun c hc=>by
  cases xs with
  | nil=>rw [Oe] at hc; cases hc
  | cons x xs =>
    rw [Oe] at hc
    rcases List.mem_append.mp hc with z | z
    · exact k x (h x List.mem_cons_self) c z
    · exact Alw k (fun y hy=>h y (List.mem_cons_of_mem _ hy)) c z
theorem Aoc:∀ (d:Nat) (x:It),Gd d x→∀ c∈x.tx,c≠47∧c≠44
  | d,.pth ss,h,c,hc=>by
    rw [Gd] at h
    obtain ⟨n0,ns,rfl,hb,_⟩:=h
    rw [It.tx,Aeu] at hc
    exact Aps hb c hc
  | 0,.tms _ _,h,c,hc=>by rw [Gd] at h; exact h.elim
  | d+1,.tms n xs,h,c,hc=>by
    rw [Gd] at h
    obtain ⟨h1,h2,h3,h4,h5⟩:=h
    rw [It.tx] at hc
    rcases List.mem_append.mp hc with z | z
    · exact Ag5 (by omega) c z
    · rcases List.mem_cons.mp z with z | z
      · omega
      · rcases List.mem_cons.mp z with z | z
        · omega
        · rcases List.mem_append.mp z with z | z
          · exact Alx (Aoc d) h5 c z
          · have:=List.mem_singleton.mp z; omega
def Wr (u:List Nat) (ks:List Int):Prop:=∃ xs,Row u xs∧szs xs≤400∧nus xs=ks
theorem Wr.signs {u:List Nat} {ks:List Int} (h:Wr u ks):∀ c∈u,c≠47∧c≠44:=by
  obtain ⟨xs,R,_,_⟩:=h
  rw [R.tx]
  exact Alx (Aoc 8) R.gd
def AvX:Sp:=fun vs H Q _=>∃ (u:List Nat) (ks:List Int),vs=[.str (tx u)]∧Wr u ks∧∀ q H',Ax H H'→H q=none→H' q=some (.lst (vI ks))→Q (.ref q) H'
theorem AvY (T:Txt K mg t):Ar P w K mg base CX0 41 t.Ik t.Yw ["text"] AvX:=(AnY T).imp fun vs H Q E ⟨u,ks,e,⟨xs,R,hs,en⟩,k⟩=>⟨u,xs,e,R,hs,fun q H' s nq hq=>k q H' s nq (en ▸ hq)⟩
def pIt (p:List Nat):It:=.pth (ofN p)
theorem Aqk:∀ pss:List (List Nat),Sy (pss.map pIt)=more pss
  | []=>by rw [List.map_nil,Sy]; rfl
  | p::r=>by
    rw [List.map_cons,Sy,Aqk r,more]
    unfold pIt
    rw [It.tx,Aeu]
theorem Aql (pss:List (List Nat)):Oe (pss.map pIt)=rT pss:=by
  cases pss with
  | nil=>rw [List.map_nil,Oe]; rfl
  | cons p r =>
    rw [List.map_cons,Oe,Aqk]
    unfold pIt
    rw [It.tx,Aeu]
    rfl
theorem Amm (pss:List (List Nat)):nus (pss.map pIt)=nT pss:=by
  rw [Aer,List.map_map]
  unfold nT
  rw [List.map_map]
  congr 1
theorem AsN {d:Nat} {p:List Nat} (h:Okp p):Gd d (pIt p):=by
  unfold pIt
  cases p with
  | nil=>exact absurd h.ne (by decide)
  | cons n r =>
    cases d with
    | zero=>rw [Gd]; exact ⟨n,r,rfl,h.bd,by have:=h.le; simp at this; omega⟩
    | succ d=>rw [Gd]; exact ⟨n,r,rfl,h.bd,by have:=h.le; simp at this; omega⟩
theorem Aod {pss:List (List Nat)} (h:∀ p∈pss,Okp p) (hl:pss.length≤900) (hu:(rT pss).length≤1000000) (hn:(nT pss).length≤400):Wr (rT pss) (nT pss):=by
  have gd:∀ x∈pss.map pIt,Gd 8 x:=fun x hx=>by
    obtain ⟨p,hp,rfl⟩:=List.mem_map.mp hx
    exact AsN (h p hp)
  refine ⟨pss.map pIt,⟨by rw [List.length_map]; exact hl,gd,(Aql pss).symm,hu⟩,?_,Amm pss⟩
  have:=Y7 (pss.map pIt) (Sms.Aja fun x hx=>Gd.sm 8 x (gd x hx))
  rw [Amm] at this
  omega
theorem Shn.okp {row:List Nat} (S:Shn row) (hl:row.length≤400):(∀ p∈(prt row).map stp,Okp p)∧(prt row).length≤400:=by
  have all:=Jq S.r
  have vl:(prt row).length≤400:=by
    have:=Ag4 fun v hv=>(all v hv).ne
    rw [S.e] at this
    omega
  refine ⟨fun p hp=>?_,vl⟩
  obtain ⟨v,hv,rfl⟩:=List.mem_map.mp hp
  obtain ⟨_,ne,bd,le⟩:=Aey (all v hv)
  have:v.length≤(prt row).flatten.length:=by
    obtain ⟨a,b,e⟩:=List.append_of_mem hv
    rw [e,List.flatten_append,List.flatten_cons,List.length_append,List.length_append]
    omega
  rw [S.e] at this
  exact ⟨List.length_pos_iff.mpr ne,by omega,bd⟩
theorem Aoe:∀ {pss:List (List Nat)},(∀ p∈pss,Okp p)→(rT pss).length≤3 * pss.flatten.length:=fun {pss} h=>by
  have key:∀ {r:List (List Nat)},(∀ p∈r,Okp p)→cT r≤3 * r.flatten.length:=fun {r} h=>by
    induction r with
    | nil=>exact Nat.le_refl _
    | cons p r ih =>
      have h1:=AsJ (h p List.mem_cons_self).bd
      have h2:=ih fun q hq=>h q (List.mem_cons_of_mem _ hq)
      unfold cT at h2 ⊢
      rw [List.map_cons,List.sum_cons,List.flatten_cons,List.length_append]
      omega
  by_cases c:pss=[]
  · rw [c]; exact Nat.zero_le _
  · have:=AvR c fun p hp=>List.length_pos_iff.mp (h p hp).ne
    have:=key h
    omega
theorem Au0 {vss:List (List Nat)} (h:∀ v∈vss,Run v):(vss.map stp).flatten.length≤2 * vss.flatten.length:=by
  induction vss with
  | nil=>exact Nat.le_refl _
  | cons v r ih =>
    have h1:=(Aey (h v List.mem_cons_self)).2.2.2
    have h2:=ih fun u hu=>h u (List.mem_cons_of_mem _ hu)
    rw [List.map_cons,List.flatten_cons,List.flatten_cons,List.length_append,List.length_append]
    omega
theorem Shn.len {row:List Nat} (S:Shn row) (hl:row.length≤400):(shT row).length≤6 * row.length:=by
  have h1:=Aoe (S.okp hl).1
  have h2:=Au0 (Jq S.r)
  rw [S.e] at h2
  unfold shT
  omega
theorem Shn.num {row:List Nat} (S:Shn row):nT ((prt row).map stp)=ofN row:=by rw [AvS S.r,S.e]
theorem Aqm (l:List Nat):(ofN l).length=l.length:=by unfold ofN; rw [List.length_map]
theorem Shn.wr {row:List Nat} (S:Shn row) (hl:row.length≤400):Wr (shT row) (ofN row):=by
  have h1:=S.okp hl
  have h2:=S.len hl
  have h3:=S.num
  have:=Aod h1.1 (by rw [List.length_map]; omega) (by unfold shT at h2; omega) (by rw [h3,Aqm]; exact hl)
  rw [h3] at this
  exact this
theorem Shn.times {row:List Nat} (S:Shn row) (hl:row.length≤400) (ne:row≠[]):Wr ([49,42,40]++shT row++[41]) (ofN row):=by
  have h1:=S.okp hl
  have h2:=S.len hl
  have h3:=S.num
  have gd:∀ x∈((prt row).map stp).map pIt,Gd 7 x:=fun x hx=>by
    obtain ⟨p,hp,rfl⟩:=List.mem_map.mp hx
    exact AsN (h1.1 p hp)
  have gx:Gd 8 (.tms 1 (((prt row).map stp).map pIt)):=by
    rw [Gd]
    refine ⟨by decide,by decide,fun z=>?_,by rw [List.length_map,List.length_map]; omega,gd⟩
    have:(prt row)=[]:=by
      have:=congrArg List.length z
      rw [List.length_map,List.length_map] at this
      exact List.length_eq_zero_iff.mp this
    have e:=S.e
    rw [this] at e
    exact ne e.symm
  have nu:nus [It.tms 1 (((prt row).map stp).map pIt)]=ofN row:=by
    rw [Aer,List.map_cons,List.map_nil,List.flatten_cons,List.flatten_nil,List.append_nil,It.nu,Amm,h3]
    simp
  have gx':∀ x∈[It.tms 1 (((prt row).map stp).map pIt)],Gd 8 x:=fun x hx=>by rw [List.mem_singleton.mp hx]; exact gx
  refine ⟨[.tms 1 (((prt row).map stp).map pIt)],⟨by simp,gx',?_,?_⟩,?_,nu⟩
  · rw [Oe,Sy,It.tx,Aql,List.append_nil,show dec 1=[49] from by decide +kernel]
    unfold shT
    simp
  · simp only [List.length_append,List.length_cons,List.length_nil]
    omega
  · have:=Y7 _ (Sms.Aja fun x hx=>Gd.sm 8 x (gx' x hx))
    rw [nu,Aqm] at this
    omega
def Arh:Sp:=fun vs H Q _=>∃ c:Nat,vs=[.int (c:Int)]∧1≤c∧c≤40∧Q .non H
theorem Aa2 (T:Txt K mg t):Ar P w K mg base CX0 1 t.Ff t.O9 ["count"] Arh:=by
  refine T.Gy.F.ok AiM (fun vs H Q E h=>?_) (fun cdv A outer s H vs Q E hr h=>?_)
  · obtain ⟨c,rfl,_⟩:=h
    rfl
  · obtain ⟨c,rfl,h1,h2,k⟩:=h
    refine ⟨_,(Ae (BL (PW.pt (pw_or (Av RQ (pv 0) Aj (Bm _)) (pw_or1 (Av Acw (pv 0) (K8 (v:=.int 40) rfl T.Su.choose_spec ⟨_,rfl⟩) (Bm _)))))
        (Ae G5)
        Bc)),?_⟩
    refine ⟨_,rfl,_,_,rfl,rfl,_,rfl,?_⟩
    refine Gi (by omega) ?_
    refine ⟨_,rfl,_,_,rfl,rfl,_,rfl,?_⟩
    exact Gi (by omega) k
def Ari:Sp:=fun vs H Q _=>∃ v:Int,vs=[.int v]∧0≤v∧v < 40∧Q .non H
theorem Aa3 (T:Txt K mg t):Ar P w K mg base CX0 1 t.Fg t.OD ["shaft"] Ari:=by
  refine T.J7.F.ok AiN (fun vs H Q E h=>?_) (fun cdv A outer s H vs Q E hr h=>?_)
  · obtain ⟨v,rfl,_⟩:=h
    rfl
  · obtain ⟨v,rfl,h1,h2,k⟩:=h
    refine ⟨_,(Ae (BL (PW.pt (pw_or (Av RQ (pv 0) Aj (Bm _)) (pw_or1 (Av ApD (pv 0) (K8 (v:=.int 40) rfl T.Ak6.choose_spec ⟨_,rfl⟩) (Bm _)))))
        (Ae G5)
        Bc)),?_⟩
    refine ⟨_,rfl,_,_,rfl,rfl,_,rfl,?_⟩
    refine Gi (by omega) ?_
    refine ⟨_,rfl,_,_,rfl,rfl,_,rfl,?_⟩
    exact Gi (by omega) k
def Au1:Sp:=fun vs H Q _=>∃ (a:Addr) (ks:List Int),vs=[.ref a]∧H a=some (.lst (vI ks))∧Rs ks∧ks.length≤1000∧Q .non H
theorem Amn (T:Txt K mg t):Ar P w K mg base CX0 2 t.HX t.Aaq ["tie"] Au1:=by
  have Wv:Ar P w K mg base CX0 1 t.Fg t.OD _ _:=Aa3 T
  refine T.Aca.F.ok Aec (fun vs H Q E h=>?_) (fun cdv A outer s H vs Q E hr h=>?_)
  · obtain ⟨a,ks,rfl,_⟩:=h
    rfl
  · obtain ⟨a,ks,rfl,ha,R,hl,k⟩:=h
    refine ⟨_,(Ae (Et PassesOwn.never rfl (FQ rfl T.GJ (Aa (Ao (An (K:=K)) rfl T.DR Cd (Aa (pv 0) Ac)) Ac)) (Cg (i:=1) Aec.nd rfl (Or.inl rfl))
        (Ad (Ge (Ak (Wv.mono (by decide)) hr rfl T.J7.m T.J7.F.kp T.J7.b .nil Ba (Aa (Bu (Az (K:=K)) (pv 0) (pv 1) (fun _ _=>rfl)) Ac)))
        (Ae (BL (PW.pt (pw_and (Av Acw (pv 1) Aj (Bm _)) (pw_and1 (Av Aw6 (Bu (Az (K:=K)) (pv 0) (pv 1) (fun _ _=>rfl)) (Bu (Az (K:=K)) (pv 0) (Bp Ym (pv 1) Aj) (fun _ _=>rfl)) (Bm _)))))
          (Ae G5)
          Bc))))),?_⟩
    refine ⟨_,rfl,_,_,rfl,.inl (SqL.of ha),_,rfl,(by omega),(by rw [Bd]; omega),?_⟩
    rw [Int.toNat_natCast,Bd]
    refine Gz (lo:=0) (n:=ks.length) (fun i σ H2=>∃ v,σ=[some (.ref a),v]∧H2=H) ⟨none,rfl,rfl⟩ ?_ ?_
    · rintro i σ H2 hi ⟨v,rfl,rfl⟩
      have e1:atI (vI ks) (0+(i:Int))=some (.int ks[i]):=Fw (by omega) (by rw [z0]; exact RT (List.getElem?_eq_getElem hi))
      have b:=R.2 _ (List.getElem_mem hi)
      refine ⟨_,rfl,_,rfl,_,_,_,_,rfl,rfl,SqL.of ha,e1,_,rfl,b.1,b.2,?_⟩
      refine ⟨_,rfl,_,_,rfl,rfl,_,rfl,?_⟩
      by_cases h0:i=0
      · subst h0
        refine Gi (by omega) ?_
        exact Jc ⟨_,rfl,rfl⟩
      · have hi1:i - 1 < ks.length:=by omega
        have e2:atI (vI ks) (0+(i:Int) - 1)=some (.int ks[i - 1]):=Fw (by omega) (by rw [show (0+(i:Int) - 1).toNat=i - 1 by omega]; exact RT (List.getElem?_eq_getElem hi1))
        have lt:=R.1 (i - 1) ks[i - 1] ks[i] (List.getElem?_eq_getElem hi1) (by rw [show i - 1+1=i by omega]; exact List.getElem?_eq_getElem hi)
        refine Ai4 (by omega) ?_
        refine ⟨_,rfl,_,rfl,_,_,_,_,rfl,rfl,SqL.of ha,e1,_,rfl,_,rfl,_,_,rfl,rfl,_,_,_,_,rfl,rfl,SqL.of ha,e2,_,_,rfl,rfl,_,rfl,?_⟩
        refine Gi (by omega) ?_
        exact ⟨_,rfl,rfl⟩
    · rintro σ H2 ⟨v,rfl,rfl⟩
      exact k
theorem Au2 {ks:List Int} (R:Rs ks):ks.length≤40:=by
  have step:∀ (i:Nat) (a:Int),ks[i]?=some a→(i:Int)≤a:=by
    intro i
    induction i with
    | zero=>exact fun a h=>(R.2 a (List.mem_of_getElem? h)).1
    | succ i ih =>
      intro a h
      have hi:i < ks.length:=by have:=(List.getElem?_eq_some_iff.mp h).1; omega
      have:=ih ks[i] (List.getElem?_eq_getElem hi)
      have:=R.1 i ks[i] a (List.getElem?_eq_getElem hi) h
      omega
  by_cases h:ks.length=0
  · omega
  · have hi:ks.length - 1 < ks.length:=by omega
    have h1:=step (ks.length - 1) _ (List.getElem?_eq_getElem hi)
    have h2:=R.2 _ (List.getElem_mem hi)
    omega
theorem Aof {ks:List Int} (R:Rs ks):ks.length≤1000:=Nat.le_trans (Au2 R) (by decide)
def Aog:Sp:=fun vs H Q _=>∃ (x y:Addr) (rs:List Addr) (th:List Int) (tss:List (List Int)) (tr:List Int),vs=[.ref x,.ref y]∧H x=some (.lst (vI th))∧NL H y rs tss∧Ft th tss tr∧Q .non H
theorem Ag6 (T:Txt K mg t):Ar P w K mg base CX0 3 t.Eo t.QB ["threading", "ties"] Aog:=by
  have Pn:Ar P w K mg base CX0 1 t.Ff t.O9 _ _:=Aa2 T
  have Wv:Ar P w K mg base CX0 1 t.Fg t.OD _ _:=Aa3 T
  have Aoh:Ar P w K mg base CX0 2 t.HX t.Aaq _ _:=Amn T
  refine T.Pg.F.ok N7 (fun vs H Q E h=>?_) (fun cdv A outer s H vs Q E hr h=>?_)
  · obtain ⟨x,y,rs,th,tss,tr,rfl,_⟩:=h
    rfl
  · obtain ⟨x,y,rs,th,tss,tr,rfl,hx,N,F,k⟩:=h
    refine ⟨_,(Ad (Ge (Ak (Pn.mono (by decide)) hr rfl T.Gy.m T.Gy.F.kp T.Gy.b .nil Ba (Aa (Ao (An (K:=K)) rfl T.DR Cd (Aa (pv 0) Ac)) Ac)))
      (Ad (Ge (Ak (Pn.mono (by decide)) hr rfl T.Gy.m T.Gy.F.kp T.Gy.b .nil Ba (Aa (Ao (An (K:=K)) rfl T.DR Cd (Aa (pv 1) Ac)) Ac)))
      (Ad (Et PassesOwn.never rfl (Br (K:=K) (pv 0)) (Cg (i:=2) N7.nd rfl (Or.inl rfl))
        (Ae (Ge (Ak (Wv.mono (by decide)) hr rfl T.J7.m T.J7.F.kp T.J7.b .nil Ba (Aa (pv 2) Ac)))))
      (Ae (Et PassesOwn.never rfl (Br (K:=K) (pv 1)) (Cg (i:=3) N7.nd rfl (Or.inl rfl))
        (Ae (Ge (Ak (Aoh.mono (by decide)) hr rfl T.Aca.m T.Aca.F.kp T.Aca.b .nil Ba (Aa (pv 3) Ac))))))))),?_⟩
    refine ⟨_,rfl,_,_,rfl,.inl (SqL.of hx),th.length,(by rw [Bd] <;> rfl),F.m1,F.m40,?_⟩
    refine ⟨_,rfl,_,_,rfl,.inl (SqL.of N.h),tss.length,(by rw [List.length_map,N.l] <;> rfl),F.t1,F.t40,?_⟩
    refine ⟨_,rfl,_,rfl,⟨_,SqL.of hx⟩,Ha (K:=K) (a:=x) (xs:=vI th) (fun i σ H2=>∃ v1 v2,σ=[some (.ref x),some (.ref y),v1,v2]∧H2=H) ⟨none,none,rfl,rfl⟩ (fun i σ H2 _ ⟨_,_,_,e⟩=>e ▸ SqL.of hx) ?_ ?_⟩
    · rintro i xv σ H2 hxv ⟨v1,v2,rfl,rfl⟩
      obtain ⟨z,hz,rfl⟩:=Ku hxv
      have b:=F.hth z (List.mem_of_getElem? hz)
      exact ⟨_,rfl,z,rfl,b.1,b.2,_,_,rfl,rfl⟩
    · rintro σ H2 ⟨v1,v2,rfl,rfl⟩
      refine ⟨_,rfl,_,rfl,⟨_,SqL.of N.h⟩,Ha (K:=K) (a:=y) (xs:=rs.map V.ref) (fun i σ H3=>∃ v1 v2,σ=[some (.ref x),some (.ref y),v1,v2]∧H3=H2) ⟨v1,v2,rfl,rfl⟩ (fun i σ H3 _ ⟨_,_,_,e⟩=>e ▸ SqL.of N.h) ?_ ?_⟩
      · rintro i xv σ H3 hxv ⟨v1,v2,rfl,rfl⟩
        obtain ⟨r,ks,rfl,_,hks,hr'⟩:=N.at hxv
        have R:=F.hti ks (List.mem_of_getElem? hks)
        exact ⟨_,rfl,r,ks,rfl,hr',R,Aof R,_,_,rfl,rfl⟩
      · rintro σ H3 ⟨v1,v2,rfl,rfl⟩
        exact k
def Amo:Sp:=fun vs H Q _=>∃ (z:Addr) (th:List Int) (tss:List (List Int)) (tr:List Int),vs=[.ref z,.int (tss.length:Int)]∧H z=some (.lst (vI tr))∧Ft th tss tr∧Q .non H
theorem Aez (T:Txt K mg t):Ar P w K mg base CX0 2 t.DG t.NQ ["treading", "treadles"] Amo:=by
  have Pn:Ar P w K mg base CX0 1 t.Ff t.O9 _ _:=Aa2 T
  refine T.Mz.F.ok TQ (fun vs H Q E h=>?_) (fun cdv A outer s H vs Q E hr h=>?_)
  · obtain ⟨z,th,tss,tr,rfl,_⟩:=h
    rfl
  · obtain ⟨z,th,tss,tr,rfl,hz,F,k⟩:=h
    refine ⟨_,(Ad (Ge (Ak (Pn.mono (by decide)) hr rfl T.Gy.m T.Gy.F.kp T.Gy.b .nil Ba (Aa (Ao (An (K:=K)) rfl T.DR Cd (Aa (pv 0) Ac)) Ac)))
      (Ae (Et PassesOwn.never rfl (Br (K:=K) (pv 0)) (Cg (i:=2) TQ.nd rfl (Or.inl rfl))
        (Ae (BL (PW.pt (pw_or (Av RQ (pv 2) Aj (Bm _)) (pw_or1 (Av ApD (pv 2) (pv 1) (Bm _)))))
          (Ae G5)
          Bc))))),?_⟩
    refine ⟨_,rfl,_,_,rfl,.inl (SqL.of hz),tr.length,(by rw [Bd] <;> rfl),F.n1,F.n40,?_⟩
    refine ⟨_,rfl,_,rfl,⟨_,SqL.of hz⟩,Ha (K:=K) (a:=z) (xs:=vI tr) (fun i σ H2=>∃ v1,σ=[some (.ref z),some (.int (tss.length:Int)),v1]∧H2=H) ⟨none,rfl,rfl⟩ (fun i σ H2 _ ⟨_,_,e⟩=>e ▸ SqL.of hz) ?_ ?_⟩
    · rintro i xv σ H2 hxv ⟨v1,rfl,rfl⟩
      obtain ⟨v,hv,rfl⟩:=Ku hxv
      have b:=F.htr v (List.mem_of_getElem? hv)
      refine ⟨_,rfl,_,_,rfl,rfl,_,rfl,?_⟩
      refine Gi (by omega) ?_
      refine ⟨_,rfl,_,rfl,_,_,rfl,rfl,_,rfl,?_⟩
      refine Gi (by omega) ?_
      exact ⟨_,rfl,rfl⟩
    · rintro σ H2 ⟨v1,rfl,rfl⟩
      exact k
def df (a b c:Addr):List (Str × V):=[("threading", .ref a),("ties", .ref b),("treading", .ref c)]
theorem Aa4 (a b c:Addr):(df a b c).lookup ("threading" : Str)=some (V.ref a):=rfl
theorem Ac4 (a b c:Addr):(df a b c).lookup ("ties" : Str)=some (V.ref b):=rfl
theorem Aa5 (a b c:Addr):(df a b c).lookup ("treading" : Str)=some (V.ref c):=rfl
theorem NL.other {H H':Hp} {r C dx y:Addr} {fs:List (Str × V)} {rs:List Addr} {tss:List (List Int)} (N:NL H y rs tss) (b:Hz r H H') (hr:H r=some (.ins C dx fs)):NL H' y rs tss :=
  ⟨b _ _ (fun e=>by have:=N.h; rw [e,hr] at this; cases this) N.h,N.l,fun i a ks h1 h2=>b _ _ (fun e=>by have:=N.r i a ks h1 h2; rw [e,hr] at this; cases this) (N.r i a ks h1 h2)⟩
structure IsD (t:Adr) (H:Hp) (d dx a b c:Addr) (qs:List Addr) (th:List Int) (tss:List (List Int)) (tr:List Int):Prop where
  o:H d=some (.ins t.BZ dx (df a b c))
  ha:H a=some (.lst (vI th))
  hb:NL H b qs tss
  hc:H c=some (.lst (vI tr))
theorem IsD.same {H H':Hp} {d dx a b c:Addr} {qs:List Addr} {th:List Int} {tss:List (List Int)} {tr:List Int} (D:IsD t H d dx a b c qs th tss tr) (s:Ax H H'):IsD t H' d dx a b c qs th tss tr:=⟨s _ _ D.o,s _ _ D.ha,D.hb.same s,s _ _ D.hc⟩
def AsO (t:Adr):Sp:=fun vs H Q _=>∃ (r dx x y z:Addr) (rs:List Addr) (th:List Int) (tss:List (List Int)) (tr:List Int),vs=[.ref r,.ref x,.ref y,.ref z]∧H r=some (.ins t.BZ dx [])∧H x=some (.lst (vI th))∧NL H y rs tss∧H z=some (.lst (vI tr))∧Ft th tss tr ∧
  ∀ a b c qs H',Hz r H H'→H a=none→H b=none→H c=none→(∀ q∈qs,H q=none)→IsD t H' r dx a b c qs th tss tr→Q .non H'
theorem M7 (T:Txt K mg t):Ar P w K mg base CX0 4 t.Bw t.HJ ["self", "threading", "ties", "treading"] (AsO t):=by
  have AhE:Ar P w K mg base CX0 3 t.Eo t.QB _ _:=Ag6 T
  have Ag7:Ar P w K mg base CX0 2 t.DG t.NQ _ _:=Aez T
  refine T.JK.F.ok Aeg (fun vs H Q E h=>?_) (fun cdv A outer s H vs Q E hr h=>?_)
  · obtain ⟨r,dx,x,y,z,rs,th,tss,tr,rfl,_⟩:=h
    rfl
  · obtain ⟨r,dx,x,y,z,rs,th,tss,tr,rfl,hr1,hx,N,hz,F,k⟩:=h
    have hsz:sizeLine=16777216:=sizeLine_eq
    refine ⟨_,(Ad (Ge (Ak (AhE.mono (by decide)) hr rfl T.Pg.m T.Pg.F.kp T.Pg.b .nil Ba (Aa (pv 1) (Aa (pv 2) Ac))))
      (Ad (Ge (Ak (Ag7.mono (by decide)) hr rfl T.Mz.m T.Mz.F.kp T.Mz.b .nil Ba (Aa (pv 3) (Aa (Ao (An (K:=K)) rfl T.DR Cd (Aa (pv 2) Ac)) Ac))))
      (Ad (Rk (K:=K) (pv 0) (FW (Hq (K:=K)) rfl T.M4 Jk (Aa (pv 1) Ac)))
      (Ad (Rk (K:=K) (pv 0) (Jj (Fv.mk (Bl:=[]) (Nc:=["tie"]) rfl (by decide +kernel) (by decide +kernel) (Es (sc0:=Ab BV) rfl (by decide +kernel)) rfl rfl rfl (by decide +kernel) (fun _ _ h=>by simp at h)) rfl (Br (K:=K) (pv 2)) (fun _ _ _ _ _=>.nil) (fun _ _ _ _ _=>(FW (Hq (K:=K)) rfl T.M4 Jk (Aa (pv 0) Ac)))))
      (Ae (Rk (K:=K) (pv 0) (FW (Hq (K:=K)) rfl T.M4 Jk (Aa (pv 3) Ac)))))))),?_⟩
    refine ⟨_,rfl,_,rfl,x,y,rs,th,tss,tr,rfl,hx,N,F,?_⟩
    refine ⟨_,rfl,_,rfl,_,_,rfl,.inl (SqL.of N.h),z,th,tss,tr,(by rw [List.length_map,N.l] <;> rfl),hz,F,?_⟩
    refine ⟨_,rfl,_,_,rfl,.inl (SqL.of hx),fun a na=>?_⟩
    have s1:Ax H (upd H a (.lst (vI th))):=.upd na
    have nra:a≠r:=fun e=>by rw [e,hr1] at na; cases na
    refine ⟨_,rfl,_,_,_,_,rfl,s1 _ _ hr1,T.Bq.c,T.Bb,(by decide),?_⟩
    generalize hH2:upd (upd H a (.lst (vI th))) r (.ins t.BZ dx (We "threading" (.ref a) []))=H2
    have b2:Hz r H H2:=fun b o nb e=>by rw [← hH2,Be nb]; exact s1 _ _ e
    have hr2:H2 r=some (.ins t.BZ dx [("threading", .ref a)]):=by rw [← hH2]; exact Ah
    have ha2:H2 a=some (.lst (vI th)):=by rw [← hH2,Be nra]; exact Ah
    have fre:∀ q,H2 q=none→H q=none:=fun q hq=>by
      have nq:q≠r:=fun e=>by rw [e,hr2] at hq; cases hq
      cases e:H q with
      | none=>rfl
      | some o=>rw [b2 q o nq e] at hq; cases hq
    clear hH2
    have N2:=N.other b2 hr1
    refine ⟨_,rfl,_,rfl,⟨_,SqL.of N2.h⟩,Dk (K:=K) (a:=y) (xs:=rs.map V.ref) (fun i ys H3=>Ax H2 H3∧∃ qs:List Addr,ys=qs.map V.ref∧qs.length=i∧(∀ q∈qs,H2 q=none)∧∀ (j:Nat) (q:Addr) (ks:List Int),qs[j]?=some q→tss[j]?=some ks→H3 q=some (.lst (vI ks)))
      ⟨.refl _,[],rfl,rfl,fun q hq=>(by cases hq),fun j q ks h=>(by simp at h)⟩ ?_ ?_ ?_ ?_⟩
    · rintro i ys H3 hi ⟨s3,qs,rfl,hq,_⟩
      exact ⟨SqL.of (s3 _ _ N2.h),by rw [List.length_map]; omega⟩
    · rw [List.length_map,N.l]; have:=F.t40; omega
    · rintro i xv ys H3 hi hxv ⟨s3,qs,rfl,hq,nq,hqs⟩
      obtain ⟨r',ks',rfl,_,hks,hr'⟩:=N2.at hxv
      refine Hy.no ?_
      refine ⟨_,rfl,_,_,rfl,.inl (SqL.of (s3 _ _ hr')),fun l nl=>?_⟩
      refine CN.of hi ⟨s3.new nl,qs++[l],by rw [List.map_append]; rfl,by rw [List.length_append,hq]; rfl,fun q h=>?_,fun j q ks h1 h2=>?_⟩
      · rcases List.mem_append.mp h with h | h
        · exact nq q h
        · rw [List.mem_singleton.mp h]; exact s3.free nl
      · by_cases hj:j < qs.length
        · rw [List.getElem?_append_left hj] at h1
          exact (Ax.upd nl) _ _ (hqs j q ks h1 h2)
        · rw [List.getElem?_append_right (by omega)] at h1
          have e0:j=i:=by
            have:=(List.getElem?_eq_some_iff.mp h1).1
            simp at this
            omega
          rw [show j - qs.length=0 by omega] at h1
          have e1:l=q:=by simpa using h1
          rw [e0,hks] at h2
          cases h2
          rw [← e1]
          exact Ah
    · rintro ys H3 b ⟨s3,qs,rfl,hq,nq,hqs⟩ nb
      rw [List.length_map,N.l] at hq
      have s4:Ax H2 (upd H3 b (.lst (qs.map V.ref))):=s3.new nb
      have nbr:b≠r:=fun e=>by rw [e,s3 _ _ hr2] at nb; cases nb
      refine ⟨_,rfl,_,_,_,_,rfl,s4 _ _ hr2,T.Bq.c,T.BJ,(by show 1 < 1000; decide),?_⟩
      generalize hH5:upd (upd H3 b (.lst (qs.map V.ref))) r (.ins t.BZ dx (We "ties" (.ref b) [("threading", .ref a)]))=H5
      have b5:Hz r H2 H5:=fun b' o nb e=>by rw [← hH5,Be nb]; exact s4 _ _ e
      have hr5:H5 r=some (.ins t.BZ dx [("threading", .ref a),("ties", .ref b)]):=by rw [← hH5]; exact Ah
      have hb5:H5 b=some (.lst (qs.map V.ref)):=by rw [← hH5,Be nbr]; exact Ah
      have hq5:∀ (j:Nat) (q:Addr) (ks:List Int),qs[j]?=some q→tss[j]?=some ks→H5 q=some (.lst (vI ks)):=fun j q ks h1 h2=>by
        have nqr:q≠r:=fun e=>by have:=nq q (List.mem_of_getElem? h1); rw [e,hr2] at this; cases this
        rw [← hH5,Be nqr]
        exact (Ax.upd nb) _ _ (hqs j q ks h1 h2)
      clear hH5
      have nzr:z≠r:=fun e=>by rw [e,hr1] at hz; cases hz
      have hz5:H5 z=some (.lst (vI tr)):=b5 _ _ nzr (b2 _ _ nzr hz)
      refine ⟨_,rfl,_,_,rfl,.inl (SqL.of hz5),fun c nc=>?_⟩
      have s6:Ax H5 (upd H5 c (.lst (vI tr))):=.upd nc
      have ncr:c≠r:=fun e=>by rw [e,hr5] at nc; cases nc
      refine ⟨_,rfl,_,_,_,_,rfl,s6 _ _ hr5,T.Bq.c,T.Bj,(by show 2 < 1000; decide),?_⟩
      have f5:∀ q,H5 q=none→H q=none:=fun q h=>fre q (by
        have nqr:q≠r:=fun e=>by rw [e,hr5] at h; cases h
        cases e:H2 q with
        | none=>rfl
        | some o=>rw [b5 q o nqr e] at h; cases h)
      refine k a b c qs _ (fun b' o nb' e=>by rw [Be nb']; exact s6 _ _ (b5 _ _ nb' (b2 _ _ nb' e))) na (fre b (s3.free nb)) (f5 c nc) (fun q h=>fre q (nq q h)) ⟨Ah,?_,⟨?_,hq,fun j q ks h1 h2=>?_⟩,?_⟩
      · rw [Be nra]; exact s6 _ _ (b5 _ _ nra ha2)
      · rw [Be nbr]; exact s6 _ _ hb5
      · have nqr:q≠r:=fun e=>by have:=nq q (List.mem_of_getElem? h1); rw [e,hr2] at this; cases this
        rw [Be nqr]; exact s6 _ _ (hq5 j q ks h1 h2)
      · rw [Be ncr]; exact Ah
theorem AvZ (m:Nat) (z:Int):(List.replicate m [V.int z]).flatten=vI (List.replicate m z):=by
  induction m with
  | zero=>rfl
  | succ m ih=>rw [List.replicate_succ,List.flatten_cons,ih,List.replicate_succ]; rfl
theorem Ajh {ks:List Int} {j:Nat} {z:Int} (h:∀ k∈ks,0≤k) (hz:0≤z):∀ k∈ks.set j z,0≤k:=fun k hk=>by
  rcases List.mem_or_eq_of_mem_set hk with h1 | h1
  · exact h k h1
  · subst h1; exact hz
def Apt (K:PySem.W.Frag):Sp:=fun vs H Q _=>∃ (a:Addr) (ns:List Int) (m:Nat),vs=[.ref a,.int (m:Int)]∧SqL K H a (vI ns)∧ns.length≤63∧63≤m∧m≤1000 ∧
  ∀ (l:Addr) (ks:List Int) (H':Hp),Ax H H'→H l=none→H' l=some (.lst (vI ks))→ks.length=m→(∀ k∈ks,0≤k)→Q (.ref l) H'
theorem Aji (T:Txt K mg t):Ar P w K mg base CX0 1 t.Gw t.Wm ["script", "many"] (Apt K):=by
  refine T.Uc.F.ok G7 (fun vs H Q E h=>?_) (fun cdv A outer s H vs Q E hr h=>?_)
  · obtain ⟨a,ns,m,rfl,_⟩:=h
    rfl
  · obtain ⟨a,ns,m,rfl,hS,hl,hm,hm2,k⟩:=h
    have hsz:sizeLine=16777216:=sizeLine_eq
    refine ⟨_,(Ad (Bo (i:=2) G7.nd rfl (Or.inl rfl) Aj)
      (Ad (Bo (i:=3) G7.nd rfl (Or.inl rfl) (Bp Ar9 (Mi (Aa Aj Ac)) (pv 1)))
      (Ad (Et PassesOwn.never rfl (FQ rfl T.GJ (Aa (Ao (An (K:=K)) rfl T.DR Cd (Aa (pv 0) Ac)) Ac)) (Cg (i:=4) G7.nd rfl (Or.inl rfl))
        (Ad (Arz (Bp Mg (Bp GX (Bp Agb (Bu (Az (K:=K)) (pv 3) (Bp Mg (pv 4) (pv 1)) (fun _ _=>rfl)) Aj) (Bu (Az (K:=K)) (pv 0) (pv 4) (fun _ _=>rfl))) (Bp AoE Aj Aj)) (Ary (pv 3) (Bp Mg (pv 4) (pv 1)) set_list))
        (Ae (Bo (i:=2) G7.nd rfl (Or.inl rfl) (Bp Mg (Bp GX (Bp Agb (pv 2) Aj) (Bu (Az (K:=K)) (pv 0) (pv 4) (fun _ _=>rfl))) Aj)))))
      (Ad (Et PassesOwn.never rfl (Alc rfl T.GJ (Aa (Ao (An (K:=K)) rfl T.DR Cd (Aa (pv 0) Ac)) (Aa (pv 1) Ac))) (Cg (i:=4) G7.nd rfl (Or.inl rfl))
        (Ad (Bo (i:=2) G7.nd rfl (Or.inl rfl) (Bp Mg (Bp GX (Bp Agb (pv 2) Aj) (pv 4)) Aj))
        (Ae (Arz (Bp Aib (pv 2) Aj) (Ary (pv 3) (pv 4) set_list)))))
      (Ae (Aq (pv 3))))))),?_⟩
    refine ⟨(by show 1≤sizeLine; decide),fun p hp=>?_⟩
    refine ⟨_,rfl,_,_,_,rfl,rfl,Ah,(by omega),(by omega),(by show 1 * ((m:Int).toNat)≤sizeLine; omega),fun q hq=>?_⟩
    rw [Int.toNat_natCast,AvZ]
    have s1:Ax H (upd H p (.lst [.int 0])):=.upd hp
    have nq:H q=none:=s1.free hq
    have s2:Ax H (upd (upd H p (.lst [.int 0])) q (.lst (vI (List.replicate m 0)))):=s1.new hq
    refine ⟨_,rfl,_,_,rfl,.inl (s2.seq hS),_,rfl,(by omega),(by rw [Bd]; omega),?_⟩
    rw [Int.toNat_natCast,Bd]
    refine Gz (lo:=0) (n:=ns.length) (fun i σ H2=>∃ (mx:Int) (ks:List Int) (v:Option V),σ=[some (.ref a),some (.int (m:Int)),some (.int mx),some (.ref q),v]∧Ax H H2∧H2 q=some (.lst (vI ks))∧ks.length=m∧(∀ k∈ks,0≤k)∧0≤mx)
      ⟨7,_,none,rfl,s2,Ah,by rw [List.length_replicate],fun k hk=>by rw [List.eq_of_mem_replicate hk]; exact Int.le_refl _,by decide⟩ ?_ ?_
    · rintro i σ H2 hi ⟨mx,ks,v,rfl,s3,hq2,hkl,hkn,hmx⟩
      have hix:(0+(i:Int)) % (m:Int)=((i % m:Nat):Int):=by rw [Int.zero_add]; omega
      have hlt:i % m < ks.length:=by rw [hkl]; exact Nat.mod_lt _ (by omega)
      have e1:(vI ks)[((0+(i:Int)) % (m:Int)).toNat]?=some (.int ks[i % m]):=by
        rw [hix,Int.toNat_natCast]
        exact RT (List.getElem?_eq_getElem hlt)
      have e2:(vI ns)[(0+(i:Int)).toNat]?=some (.int ns[i]):=by
        rw [Int.zero_add,Int.toNat_natCast]
        exact RT (List.getElem?_eq_getElem hi)
      have n1:0≤(0+(i:Int)) % (m:Int):=by rw [hix]; omega
      refine ⟨_,rfl,_,rfl,_,rfl,_,_,rfl,rfl,(by show (0:Int) < m; omega),?_⟩
      refine ⟨_,_,_,_,rfl,rfl,SqL.of hq2,Fw n1 e1,?_⟩
      refine ⟨_,_,rfl,rfl,.inr ⟨by decide,by decide⟩,?_⟩
      refine ⟨_,rfl,_,rfl,_,_,_,_,rfl,rfl,s3.seq hS,Fw (by omega) e2,?_⟩
      refine ⟨_,_,rfl,rfl,?_⟩
      refine ⟨_,_,rfl,rfl,⟨by decide,by decide,by decide⟩,?_⟩
      refine ⟨_,_,rfl,rfl,(by show (0:Int) < 10 ^ 60; decide),?_⟩
      refine ⟨_,rfl,_,rfl,_,rfl,_,_,rfl,rfl,(by show (0:Int) < m; omega),?_⟩
      refine ⟨_,_,_,_,rfl,rfl,hq2,AoR n1 (by rw [Bd,hkl]; rw [hix]; omega),?_⟩
      rw [ArH]
      refine ⟨_,rfl,_,_,rfl,rfl,.inr ⟨by decide,by decide⟩,?_⟩
      have s4:Ax H (upd H2 q (.lst (vI (ks.set ((0+(i:Int)) % (m:Int)).toNat ((ks[i % m] * 31+ns[i]) % 10 ^ (60:Int).toNat))))):=s3.over nq
      refine ⟨_,rfl,_,rfl,_,_,_,_,rfl,rfl,s4.seq hS,Fw (by omega) e2,?_⟩
      refine ⟨_,_,rfl,rfl,?_⟩
      refine ⟨_,_,rfl,rfl,(by show (0:Int) < 2147483647; decide),?_⟩
      exact ⟨_,_,_,rfl,s4,Ah,by rw [List.length_set]; exact hkl,Ajh hkn (Int.emod_nonneg _ (by decide)),Int.emod_nonneg _ (by decide)⟩
    · rintro σ H2 ⟨mx,ks,v,rfl,s3,hq2,hkl,hkn,hmx⟩
      refine ⟨_,rfl,_,_,rfl,.inl (s3.seq hS),_,rfl,_,_,rfl,⟨by omega,by rw [Bd]; omega,by omega,by omega⟩,?_⟩
      rw [Bd]
      refine Gz (lo:=(ns.length:Int)) (n:=((m:Int) - (ns.length:Int)).toNat) (fun i σ H2=>∃ (mx:Int) (ks:List Int) (v:Option V),σ=[some (.ref a),some (.int (m:Int)),some (.int mx),some (.ref q),v]∧Ax H H2∧H2 q=some (.lst (vI ks))∧ks.length=m∧(∀ k∈ks,0≤k)∧0≤mx)
        ⟨mx,ks,v,rfl,s3,hq2,hkl,hkn,hmx⟩ ?_ ?_
      · rintro i σ H3 hi ⟨mx,ks,v,rfl,s3,hq2,hkl,hkn,hmx⟩
        refine ⟨_,rfl,_,_,rfl,rfl,.inr ⟨by decide,by decide⟩,?_⟩
        refine ⟨_,rfl,_,_,rfl,rfl,?_⟩
        refine ⟨_,_,rfl,rfl,(by show (0:Int) < 2147483647; decide),?_⟩
        have hnn:0≤(mx * 16807+((ns.length:Int)+(i:Int))) % 2147483647:=Int.emod_nonneg _ (by decide)
        refine ⟨_,rfl,_,_,rfl,rfl,⟨by decide,by decide⟩,?_⟩
        refine ⟨_,rfl,_,rfl,_,_,_,_,rfl,rfl,hq2,AoR (by omega) (by rw [Bd,hkl]; omega),?_⟩
        rw [ArH]
        exact ⟨_,_,_,rfl,s3.over nq,Ah,by rw [List.length_set]; exact hkl,Ajh hkn (Int.ediv_nonneg hnn (by decide)),hnn⟩
      · rintro σ H3 ⟨mx,ks,v,rfl,s3,hq2,hkl,hkn,hmx⟩
        exact ⟨_,rfl,k q ks H3 s3 nq hq2 hkl hkn⟩
theorem below {ks:List Int} {i:Nat} (h:∀ k∈ks,k < (i:Int)):∀ k∈ks++[0+(i:Int)],k < ((i+1:Nat):Int):=fun k hk=>by
  rcases List.mem_append.mp hk with h1 | h1
  · have:=h k h1; omega
  · rw [List.mem_singleton.mp h1]; omega
theorem Au3 {zs:List Int} {z:Int} {p:Int→Prop} (h:∀ v∈zs,p v) (hz:p z):∀ v∈zs++[z],p v:=fun v hv=>by
  rcases List.mem_append.mp hv with h1 | h1
  · exact h v h1
  · rw [List.mem_singleton.mp h1]; exact hz
def Arj:Sp:=fun vs H Q _=>∃ (n:Int),vs=[.int n]∧0≤n∧∀ (l:Addr) (ks:List Int) (H':Hp),Ax H H'→H l=none→H' l=some (.lst (vI ks))→Rs ks→Q (.ref l) H'
theorem AkB (T:Txt K mg t):Ar P w K mg base CX0 1 t.Hh t.Yy ["number"] Arj:=by
  refine T.Y0.F.ok K1 (fun vs H Q E h=>?_) (fun cdv A outer s H vs Q E hr h=>?_)
  · obtain ⟨n,rfl,_⟩:=h
    rfl
  · obtain ⟨n,rfl,hn,k⟩:=h
    refine ⟨_,(Ad (BL (PW.pt (pw_and (Av RQ (pv 0) (Bp AoE Aj Aj) (Bm _)) (pw_and1 (Av T9 (Bp Mg (pv 0) Aj) Aj (Bm _)))))
        (Ae (Aq (Mi Ac)))
        Bc)
      (Ad (BL (Av RQ (pv 0) (Bp AoE Aj Aj) (Bm _))
        (Ae (Bo (i:=0) K1.nd rfl (Or.inl rfl) (Bp GX (Bp Agb (Bp Agb (pv 0) (pv 0)) Aj) (pv 0))))
        Bc)
      (Ad (Bo (i:=1) K1.nd rfl (Or.inl rfl) (Mi Ac))
      (Ad (Et PassesOwn.never rfl (FQ rfl T.GJ (Aa Aj Ac)) (Cg (i:=2) K1.nd rfl (Or.inl rfl))
        (Ad (BL (Av T9 (Bp Mg (pv 0) Aj) Aj (Bm _))
          (Ae (Ge (Gg (K:=K) PySem.F.plainAttrs_list PySem.F.slot_list_append PySem.F.type_list_append LK (pv 1) (Aa (pv 2) Ac))))
          Bc)
        (Ae (Bo (i:=0) K1.nd rfl (Or.inl rfl) (Bp Aib (pv 0) Aj)))))
      (Ae (Aq (pv 1))))))),?_⟩
    have e6:(10:Int) ^ (6:Int).toNat=1000000:=by decide
    refine ⟨_,rfl,_,_,rfl,rfl,⟨by decide,by decide,by decide⟩,_,_,rfl,rfl,_,rfl,?_⟩
    rw [e6]
    refine Qu (fun h6=>?_) (fun h6=>?_)
    · refine ⟨_,rfl,_,_,rfl,rfl,(by show (0:Int) < 8; decide),rfl,_,rfl,?_⟩
      refine Qu (fun _=>?_) (fun _=>?_)
      · exact ⟨Nat.zero_le _,fun p hp=>k p [] _ (.upd hp) hp Ah Apc⟩
      · refine ⟨_,rfl,_,_,rfl,rfl,⟨by decide,by decide,by decide⟩,_,_,rfl,rfl,_,rfl,?_⟩
        rw [e6]
        refine Ai4 h6 ?_
        refine ⟨_,rfl,_,rfl,_,_,rfl,rfl,.inl ⟨by omega,by omega⟩,?_⟩
        refine ⟨_,_,rfl,rfl,.inr ⟨by decide,by decide⟩,?_⟩
        refine ⟨_,rfl,_,_,rfl,rfl,?_⟩
        refine ⟨Nat.zero_le _,fun p hp=>?_⟩
        refine ⟨_,rfl,by decide,by decide,?_⟩
        refine Gz (lo:=0) (n:=40) (fun i σ H2=>∃ (z:Int) (ks:List Int) (v:Option V),σ=[some (.int z),some (.ref p),v]∧Ax H H2∧H2 p=some (.lst (vI ks))∧ks.length≤i∧Rs ks∧∀ k∈ks,k < (i:Int))
          ⟨_,[],none,rfl,.upd hp,Ah,Nat.le_refl _,Apc,fun k h=>(by cases h)⟩ ?_ ?_
        · rintro i σ H2 hi ⟨z,ks,v,rfl,s2,hp2,hkl,R,lt⟩
          refine ⟨_,rfl,_,_,rfl,rfl,(by show (0:Int) < 2; decide),rfl,_,rfl,?_⟩
          refine Qu (fun _=>?_) (fun _=>?_)
          · refine ⟨_,rfl,.inl ⟨rfl,_,SqL.of hp2⟩,_,rfl,_,_,_,rfl,rfl,hp2,(by rw [Bd]; exact Xj (by omega)),?_⟩
            rw [Wg]
            refine ⟨_,rfl,_,_,rfl,rfl,⟨by decide,by decide⟩,?_⟩
            exact ⟨_,_,_,rfl,s2.over hp,Ah,by rw [List.length_append,List.length_singleton]; omega,Asb R (fun k h=>by have:=lt k h; omega) (by omega) (by omega),below lt⟩
          · refine ⟨_,rfl,_,_,rfl,rfl,⟨by decide,by decide⟩,?_⟩
            exact ⟨_,_,_,rfl,s2,hp2,by omega,R,fun k h=>by have:=lt k h; omega⟩
        · rintro σ H2 ⟨z,ks,v,rfl,s2,hp2,hkl,R,lt⟩
          exact ⟨_,rfl,k p ks H2 s2 hp hp2 R⟩
    · refine Jc ?_
      refine ⟨_,rfl,_,_,rfl,rfl,⟨by decide,by decide,by decide⟩,_,_,rfl,rfl,_,rfl,?_⟩
      rw [e6]
      refine Gi h6 ?_
      refine ⟨Nat.zero_le _,fun p hp=>?_⟩
      refine ⟨_,rfl,by decide,by decide,?_⟩
      refine Gz (lo:=0) (n:=40) (fun i σ H2=>∃ (z:Int) (ks:List Int) (v:Option V),σ=[some (.int z),some (.ref p),v]∧Ax H H2∧H2 p=some (.lst (vI ks))∧ks.length≤i∧Rs ks∧∀ k∈ks,k < (i:Int))
        ⟨_,[],none,rfl,.upd hp,Ah,Nat.le_refl _,Apc,fun k h=>(by cases h)⟩ ?_ ?_
      · rintro i σ H2 hi ⟨z,ks,v,rfl,s2,hp2,hkl,R,lt⟩
        refine ⟨_,rfl,_,_,rfl,rfl,(by show (0:Int) < 2; decide),rfl,_,rfl,?_⟩
        refine Qu (fun _=>?_) (fun _=>?_)
        · refine ⟨_,rfl,.inl ⟨rfl,_,SqL.of hp2⟩,_,rfl,_,_,_,rfl,rfl,hp2,(by rw [Bd]; exact Xj (by omega)),?_⟩
          rw [Wg]
          refine ⟨_,rfl,_,_,rfl,rfl,⟨by decide,by decide⟩,?_⟩
          exact ⟨_,_,_,rfl,s2.over hp,Ah,by rw [List.length_append,List.length_singleton]; omega,Asb R (fun k h=>by have:=lt k h; omega) (by omega) (by omega),below lt⟩
        · refine ⟨_,rfl,_,_,rfl,rfl,⟨by decide,by decide⟩,?_⟩
          exact ⟨_,_,_,rfl,s2,hp2,by omega,R,fun k h=>by have:=lt k h; omega⟩
      · rintro σ H2 ⟨z,ks,v,rfl,s2,hp2,hkl,R,lt⟩
        exact ⟨_,rfl,k p ks H2 s2 hp hp2 R⟩
theorem Apu {ks:List Int} {i j:Int} (h0:0≤i) (h1:i≤j) (h2:j≤ks.length):AlD (vI ks) (some i) (some j)=vI ((ks.drop i.toNat).take (j.toNat - i.toNat)):=by
  unfold AlD
  have e1:HT.sIx (vI ks).length 0 (some i)=i.toNat:=by
    show (if i < 0 then _ else _)=_
    rw [if_neg (by omega),Bd]; omega
  have e2:HT.sIx (vI ks).length (vI ks).length (some j)=j.toNat:=by
    show (if j < 0 then _ else _)=_
    rw [if_neg (by omega),Bd]; omega
  rw [e1,e2]
  unfold vI
  rw [← List.map_drop,← List.map_take]
theorem Au4 {ks:List Int} {a b:Nat} {x:Int} (h:x∈(ks.drop a).take b):x∈ks:=List.mem_of_mem_drop (List.mem_of_mem_take h)
def AsP (K:PySem.W.Frag):Sp:=fun vs H Q _=>∃ (a:Addr) (ks:List Int),vs=[.ref a]∧SqL K H a (vI ks)∧123≤ks.length∧ks.length≤1000∧(∀ k∈ks,0≤k) ∧
  ∀ (p:Addr) (H':Hp) (x y z:Addr) (rs:List Addr) (th:List Int) (tss:List (List Int)) (tr:List Int),Ax H H'→H' p=some (.tup [.ref x,.ref y,.ref z])→H' x=some (.lst (vI th))→NL H' y rs tss→H' z=some (.lst (vI tr))→Ft th tss tr→Q (.ref p) H'
theorem AhF (T:Txt K mg t):Ar P w K mg base CX0 2 t.FN t.Sh ["numbers"] (AsP K):=by
  have Amp:Ar P w K mg base CX0 1 t.Hh t.Yy _ _:=AkB T
  refine T.Rr.F.ok CQ (fun vs H Q E h=>?_) (fun cdv A outer s H vs Q E hr h=>?_)
  · obtain ⟨a,ks,rfl,_⟩:=h
    rfl
  · obtain ⟨a,ks,rfl,hS,hl1,hl2,hnn,k⟩:=h
    have hsz:sizeLine=16777216:=sizeLine_eq
    have g:∀ (i:Int),0≤i→i < 3→atI (vI ks) i=some (.int (ks.getD i.toNat 0)):=fun i h0 h3=>Fw h0 (by
      have:i.toNat < ks.length:=by omega
      rw [RT (List.getElem?_eq_getElem this)]
      simp [List.getD,this])
    have p3:∀ z:Int,0≤z % 3:=fun z=>Int.emod_nonneg z (by decide)
    have r40:∀ z:Int,0≤z % 40∧z % 40 < 40:=fun z=>⟨Int.emod_nonneg z (by decide),Int.emod_lt_of_pos z (by decide)⟩
    refine ⟨_,(Ad (Bo (i:=1) CQ.nd rfl (Or.inl rfl) (Bp GX Aj (Bp Mg (Bu (Az (K:=K)) (pv 0) Aj (fun _ _=>rfl)) Aj)))
      (Ad (Bo (i:=2) CQ.nd rfl (Or.inr rfl) (Bp GX Aj (Bp Mg (Bu (Az (K:=K)) (pv 0) Aj (fun _ _=>rfl)) Aj)))
      (Ad (Bo (i:=3) CQ.nd rfl (Or.inl rfl) (Bp GX Aj (Bp Mg (Bu (Az (K:=K)) (pv 0) Aj (fun _ _=>rfl)) Aj)))
      (Ad (Bo (i:=4) CQ.nd rfl (Or.inr rfl) (Bp GX Aj (Bp Mg (Bp Aib (Bu (Az (K:=K)) (pv 0) Aj (fun _ _=>rfl)) Aj) Aj)))
      (Ad (BL (Av T9 (Bp Mg (Bp Aib (Bu (Az (K:=K)) (pv 0) Aj (fun _ _=>rfl)) Aj) Aj) Aj (Bm _))
        (Ae (Bo (i:=4) CQ.nd rfl (Or.inr rfl) Aj))
        Bc)
      (Ad (Yq (i:=5) (Fv.mk (Bl:=[4]) (Nc:=["number", "high"]) rfl (by decide +kernel) (by decide +kernel) (Es (sc0:=Ab BP) rfl (by decide +kernel)) rfl rfl rfl (by decide +kernel) (fun k j h=>match k,h with | 0,h=>by obtain rfl:=Option.some.inj h; exact ⟨_,rfl,rfl,rfl⟩ | _+1,h=>by simp at h)) rfl CQ.nd rfl rfl (Br (K:=K) (Xi (AdY (K:=K)) (pv 0) (Mj Aj) (Mj (Bp GX Aj (pv 1))))) (fun _ _ _ _ _=>.nil) (fun _ _ _ _ _=>(Bp Mg (pv 0) (pv 1))) rfl)
      (Ad (Yq (i:=6) (Fv.mk (Bl:=[]) (Nc:=["number"]) rfl (by decide +kernel) (by decide +kernel) (Es (sc0:=Ab BP) rfl (by decide +kernel)) rfl rfl rfl (by decide +kernel) (fun _ _ h=>by simp at h)) rfl CQ.nd rfl rfl (Br (K:=K) (Xi (AdY (K:=K)) (pv 0) (Mj (Bp GX Aj (pv 1))) (Mj (Bp GX (Bp GX Aj (pv 1)) (pv 2))))) (fun _ _ _ _ _=>.nil) (fun _ _ _ _ _=>(Ak (Amp.mono (by decide)) hr rfl T.Y0.m T.Y0.F.kp T.Y0.b .nil Ba (Aa (pv 0) Ac))) rfl)
      (Ad (Bo (i:=7) CQ.nd rfl (Or.inl rfl) (Bp GX (Bp GX Aj (pv 1)) (pv 2)))
      (Ad (Yq (i:=8) (Fv.mk (Bl:=[2]) (Nc:=["number", "treadles"]) rfl (by decide +kernel) (by decide +kernel) (Es (sc0:=Ab BP) rfl (by decide +kernel)) rfl rfl rfl (by decide +kernel) (fun k j h=>match k,h with | 0,h=>by obtain rfl:=Option.some.inj h; exact ⟨_,rfl,rfl,rfl⟩ | _+1,h=>by simp at h)) rfl CQ.nd rfl rfl (Br (K:=K) (Xi (AdY (K:=K)) (pv 0) (Mj (pv 7)) (Mj (Bp GX (pv 7) (pv 3))))) (fun _ _ _ _ _=>.nil) (fun _ _ _ _ _=>(Bp Mg (pv 0) (pv 1))) rfl)
      (Ae (Aq (Ar4 (Aa (pv 5) (Aa (pv 6) (Aa (pv 8) Ac))))))))))))))),?_⟩
    refine ⟨_,rfl,_,_,_,_,rfl,rfl,hS,g 0 (by decide) (by decide),_,_,rfl,rfl,(by show (0:Int) < 40; decide),_,_,rfl,rfl,?_⟩
    refine ⟨_,rfl,_,_,_,_,rfl,rfl,hS,g 1 (by decide) (by decide),_,_,rfl,rfl,(by show (0:Int) < 40; decide),_,_,rfl,rfl,?_⟩
    refine ⟨_,rfl,_,_,_,_,rfl,rfl,hS,g 2 (by decide) (by decide),_,_,rfl,rfl,(by show (0:Int) < 40; decide),_,_,rfl,rfl,?_⟩
    refine ⟨_,rfl,_,_,_,_,rfl,rfl,hS,g 0 (by decide) (by decide),_,_,rfl,rfl,⟨by decide,by decide⟩,_,_,rfl,rfl,(by show (0:Int) < 40; decide),_,_,rfl,rfl,?_⟩
    refine ⟨_,rfl,_,_,_,_,rfl,rfl,hS,g 1 (by decide) (by decide),_,_,rfl,rfl,⟨by decide,by decide⟩,_,_,rfl,rfl,(by show (0:Int) < 3; decide),rfl,_,rfl,?_⟩
    obtain ⟨en,hen⟩:∃ z:Int,z=1+ks.getD (0:Int).toNat 0 % 40:=⟨_,rfl⟩
    obtain ⟨tl,htl⟩:∃ z:Int,z=1+ks.getD (1:Int).toNat 0 % 40:=⟨_,rfl⟩
    obtain ⟨pk,hpk⟩:∃ z:Int,z=1+ks.getD (2:Int).toNat 0 % 40:=⟨_,rfl⟩
    obtain ⟨hg,hhg⟩:∃ z:Int,z=1+ks.getD (0:Int).toNat 0 / 40 % 40:=⟨_,rfl⟩
    dsimp only
    rw [← hen,← htl,← hpk,← hhg]
    have b1:=r40 (ks.getD (0:Int).toNat 0)
    have b2:=r40 (ks.getD (1:Int).toNat 0)
    have b3:=r40 (ks.getD (2:Int).toNat 0)
    have b4:=r40 (ks.getD (0:Int).toNat 0 / 40)
    have en1:1≤en∧en≤40:=by omega
    have tl1:1≤tl∧tl≤40:=by omega
    have pk1:1≤pk∧pk≤40:=by omega
    have hg1:0 < hg:=by omega
    refine Qu (fun _=>?_) (fun _=>?_)
    all_goals
      refine ⟨_,rfl,_,rfl,_,rfl,_,_,rfl,rfl,_,rfl,_,_,rfl,hS,fun p1 hp1=>?_⟩
      rw [Apu (by decide) (by omega) (by omega)]
      have s1:Ax H (upd H p1 (.lst (vI ((ks.drop (3:Int).toNat).take ((3+en).toNat - (3:Int).toNat))))):=.upd hp1
      have l1:((ks.drop (3:Int).toNat).take ((3+en).toNat - (3:Int).toNat)).length=en.toNat:=by rw [List.length_take,List.length_drop]; omega
      refine ⟨_,rfl,⟨_,SqL.of Ah⟩,?_⟩
      refine Dk (K:=K) (a:=p1) (xs:=vI ((ks.drop (3:Int).toNat).take ((3+en).toNat - (3:Int).toNat))) (fun i ys H2=>Ax H H2∧H2 p1=some (.lst (vI ((ks.drop (3:Int).toNat).take ((3+en).toNat - (3:Int).toNat))))∧∃ zs:List Int,ys=vI zs∧zs.length=i∧∀ v∈zs,0≤v∧v < 40)
        ⟨s1,Ah,[],rfl,rfl,fun v h=>(by cases h)⟩ ?_ ?_ ?_ ?_
      · rintro i ys H2 hi ⟨s2,h2,zs,rfl,hz,hv⟩
        exact ⟨SqL.of h2,by rw [Bd]; omega⟩
      · rw [Bd,l1]; omega
      · rintro i x ys H2 hi hx ⟨s2,h2,zs,rfl,hz,hv⟩
        obtain ⟨z,_,rfl⟩:=Ku hx
        refine Hy.no ⟨_,rfl,_,rfl,_,_,rfl,rfl,(by first | (show (0:Int) < 40; decide) | exact hg1),CN.of hi ⟨s2,h2,zs++[_],Wg _ _,by rw [List.length_append,hz]; rfl,Au3 hv (by first | exact ⟨Int.emod_nonneg _ (by decide),Int.emod_lt_of_pos _ (by decide)⟩ | exact ⟨Int.emod_nonneg _ (by omega),Int.lt_of_lt_of_le (Int.emod_lt_of_pos _ hg1) (by omega)⟩)⟩⟩
      · rintro ys H2 q1 ⟨s2,_,th,rfl,hth,Aym⟩ hq1
        rw [Bd,l1] at hth
        have s3:Ax H (upd H2 q1 (.lst (vI th))):=s2.new hq1
        refine ⟨_,rfl,_,rfl,_,_,rfl,rfl,_,rfl,_,rfl,_,_,rfl,rfl,_,rfl,_,_,rfl,rfl,_,rfl,_,_,rfl,s3.seq hS,fun p2 hp2=>?_⟩
        rw [Apu (by omega) (by omega) (by omega)]
        obtain ⟨c2,hc2⟩:∃ c,c=(ks.drop (3+en).toNat).take ((3+en+tl).toNat - (3+en).toNat):=⟨_,rfl⟩
        rw [← hc2]
        have l2:c2.length=tl.toNat:=by rw [hc2,List.length_take,List.length_drop]; omega
        have n2:∀ x∈c2,0≤x:=fun x hx=>hnn x (Au4 (hc2 ▸ hx))
        have s4:Ax (upd H2 q1 (.lst (vI th))) (upd (upd H2 q1 (.lst (vI th))) p2 (.lst (vI c2))):=.upd hp2
        refine ⟨_,rfl,⟨_,SqL.of Ah⟩,?_⟩
        refine Dk (K:=K) (a:=p2) (xs:=vI c2) (fun i ys H3=>Ax (upd (upd H2 q1 (.lst (vI th))) p2 (.lst (vI c2))) H3∧∃ (rs:List Addr) (tss:List (List Int)),ys=rs.map V.ref∧rs.length=i∧tss.length=i∧(∀ ks∈tss,Rs ks)∧∀ (j:Nat) (a:Addr) (ks:List Int),rs[j]?=some a→tss[j]?=some ks→H3 a=some (.lst (vI ks)))
          ⟨.refl _,[],[],rfl,rfl,rfl,fun ks h=>(by cases h),fun j a ks h=>(by simp at h)⟩ ?_ ?_ ?_ ?_
        · rintro i ys H3 hi ⟨s5,rs,tss,rfl,hz,_⟩
          exact ⟨SqL.of (s5 _ _ Ah),by rw [List.length_map]; omega⟩
        · rw [Bd,l2]; omega
        · rintro i x ys H3 hi hx ⟨s5,rs,tss,rfl,hz,Ayn,hRs,hr3⟩
          obtain ⟨z,hz2,rfl⟩:=Ku hx
          refine Hy.no ⟨_,rfl,z,rfl,n2 z (List.mem_of_getElem? hz2),fun l ks' H4 s6 nl hl4 R'=>CN.of hi ⟨s5.trans s6,rs++[l],tss++[ks'],(by rw [List.map_append]; rfl),by rw [List.length_append,hz]; rfl,by rw [List.length_append,Ayn]; rfl,fun ks hk=>?_,fun j a ks h1 h2=>?_⟩⟩
          · rcases List.mem_append.mp hk with h | h
            · exact hRs ks h
            · rw [List.mem_singleton.mp h]; exact R'
          · by_cases hj:j < i
            · rw [List.getElem?_append_left (by omega)] at h1 h2
              exact s6 _ _ (hr3 j a ks h1 h2)
            · rw [List.getElem?_append_right (by omega)] at h1 h2
              have e0:j=i:=by
                have:=(List.getElem?_eq_some_iff.mp h1).1
                simp at this
                omega
              rw [show j - rs.length=0 by omega] at h1
              rw [show j - tss.length=0 by omega] at h2
              have e1:l=a:=by simpa using h1
              have e2:ks'=ks:=by simpa using h2
              rw [← e1,← e2]
              exact hl4
        · rintro ys H3 q2 ⟨s5,rs,tss,rfl,hrl,Awa,hRs,hr3⟩ hq2
          rw [Bd,l2] at hrl Awa
          have s6:Ax (upd H2 q1 (.lst (vI th))) (upd H3 q2 (.lst (rs.map V.ref))):=(s4.trans s5).new hq2
          refine ⟨_,rfl,_,_,rfl,rfl,_,rfl,_,_,rfl,rfl,?_⟩
          refine ⟨_,rfl,_,rfl,_,rfl,_,rfl,_,rfl,_,_,rfl,rfl,_,rfl,_,_,rfl,(s3.trans s6).seq hS,fun p3 hp3=>?_⟩
          rw [Apu (by omega) (by omega) (by omega)]
          obtain ⟨c3,hc3⟩:∃ c,c=(ks.drop (3+en+tl).toNat).take ((3+en+tl+pk).toNat - (3+en+tl).toNat):=⟨_,rfl⟩
          rw [← hc3]
          have l3:c3.length=pk.toNat:=by rw [hc3,List.length_take,List.length_drop]; omega
          refine ⟨_,rfl,⟨_,SqL.of Ah⟩,?_⟩
          refine Dk (K:=K) (a:=p3) (xs:=vI c3) (fun i ys H4=>Ax (upd (upd H3 q2 (.lst (rs.map V.ref))) p3 (.lst (vI c3))) H4∧∃ zs:List Int,ys=vI zs∧zs.length=i∧∀ x∈zs,0≤x∧x < tl)
            ⟨.refl _,[],rfl,rfl,fun _ h=>absurd h (by simp)⟩ ?_ ?_ ?_ ?_
          · rintro i ys H4 hi ⟨s7,zs,rfl,hz,_⟩
            exact ⟨SqL.of (s7 _ _ Ah),by rw [Bd]; omega⟩
          · rw [Bd,l3]; omega
          · rintro i x ys H4 hi hx ⟨s7,zs,rfl,hz,hb⟩
            obtain ⟨z,_,rfl⟩:=Ku hx
            refine Hy.no ⟨_,rfl,_,rfl,_,_,rfl,rfl,(by show (0:Int) < tl; omega),CN.of hi ⟨s7,zs++[_],Wg _ _,by rw [List.length_append,hz]; rfl,fun x hx'=>?_⟩⟩
            rcases List.mem_append.mp hx' with h | h
            · exact hb x h
            · rw [List.mem_singleton.mp h]
              exact ⟨Int.emod_nonneg _ (by omega),Int.emod_lt_of_pos _ (by omega)⟩
          · rintro ys H4 q3 ⟨s7,tr,rfl,htr,hb⟩ hq3
            rw [Bd,l3] at htr
            refine ⟨_,rfl,_,rfl,_,rfl,(by show 3≤sizeLine; decide),fun p hp=>?_⟩
            have s8:Ax (upd H3 q2 (.lst (rs.map V.ref))) (upd (upd H4 q3 (.lst (vI tr))) p (.tup [.ref q1,.ref q2,.ref q3])):=(((Ax.upd hp3).trans s7).new hq3).new hp
            refine k p _ q1 q2 q3 rs th tss tr ((s3.trans s6).trans s8) Ah (s8 _ _ (s6 _ _ Ah)) ⟨s8 _ _ Ah,by rw [hrl,Awa],fun j a ks h1 h2=>s8 _ _ ((Ax.upd hq2) _ _ (hr3 j a ks h1 h2))⟩ ((Ax.upd hp) _ _ Ah)
              ⟨by omega,by omega,by omega,by omega,by omega,by omega,Aym,hRs,fun x hx=>?_⟩
            have:=hb x hx
            rw [Awa]
            omega
def AsQ:Sp:=fun vs H Q _=>∃ (a b:Addr) (ks:List Int),vs=[.ref a,.ref b]∧H a=some (.lst (vI ks))∧H b=some (.lst (vI ks))∧ks.length≤1000∧Q (.bl true) H
theorem Acq (T:Txt K mg t):Ar P w K mg base CX0 1 t.CJ t.Lp ["found", "due"] AsQ:=by
  refine T.Cw.F.ok Rb (fun vs H Q E h=>?_) (fun cdv A outer s H vs Q E hr h=>?_)
  · obtain ⟨a,b,ks,rfl,_⟩:=h
    rfl
  · obtain ⟨a,b,ks,rfl,ha,hb,hl,k⟩:=h
    refine ⟨_,(Ad (BL (PW.pt (pw_or (G4 (Eh (Ao (HF (K:=K)) rfl T.En Dl (Aa (pv 0) (Aa (O3 (v:=.ty "list") rfl T.M4 Jk rfl) Ac))))) (pw_or1 (Av Zw (Ao (An (K:=K)) rfl T.DR Cd (Aa (pv 0) Ac)) (Ao (An (K:=K)) rfl T.DR Cd (Aa (pv 1) Ac)) (Bm _)))))
        (Ae (Aq G3))
        Bc)
      (Ad (Et PassesOwn.never rfl (FQ rfl T.GJ (Aa (Ao (An (K:=K)) rfl T.DR Cd (Aa (pv 1) Ac)) Ac)) (Cg (i:=2) Rb.nd rfl (Or.inl rfl))
        (Ae (BL (PW.pt (pw_or (G4 (Eh (Ao (HF (K:=K)) rfl T.En Dl (Aa (Bu (Az (K:=K)) (pv 0) (pv 2) (fun _ _=>rfl)) (Aa (O3 (v:=.ty "int") rfl T.Asp AoQ rfl) Ac))))) (pw_or (Eh (Ao (HF (K:=K)) rfl T.En Dl (Aa (Bu (Az (K:=K)) (pv 0) (pv 2) (fun _ _=>rfl)) (Aa (O3 (v:=.ty "bool") rfl T.Aso ApI rfl) Ac)))) (pw_or1 (Av Zw (Bu (Az (K:=K)) (pv 0) (pv 2) (fun _ _=>rfl)) (Bu (Az (K:=K)) (pv 1) (pv 2) (fun _ _=>rfl)) (Bm _))))))
          (Ae (Aq G3))
          Bc)))
      (Ae (Aq G3)))),?_⟩
    refine ⟨_,rfl,_,_,true,.lst ha,.inl ⟨_,rfl,Qx K _⟩,_,rfl,?_⟩
    refine Jc ?_
    refine ⟨_,rfl,_,_,rfl,.inl (SqL.of ha),_,rfl,_,_,rfl,.inl (SqL.of hb),rfl,_,rfl,?_⟩
    refine TF rfl ?_
    refine ⟨_,rfl,_,_,rfl,.inl (SqL.of hb),_,rfl,(by omega),(by rw [Bd]; omega),?_⟩
    rw [Int.toNat_natCast,Bd]
    refine Gz (lo:=0) (n:=ks.length) (fun i σ H2=>∃ v,σ=[some (.ref a),some (.ref b),v]∧H2=H) ⟨none,rfl,rfl⟩ ?_ ?_
    · rintro i σ H2 hi ⟨v,rfl,rfl⟩
      have e:atI (vI ks) (0+(i:Int))=some (.int ks[i]):=Fw (by omega) (by rw [z0]; exact RT (List.getElem?_eq_getElem hi))
      refine ⟨_,rfl,_,rfl,_,_,_,_,rfl,rfl,SqL.of ha,e,_,_,true,.int _,.inl ⟨_,rfl,Qx K _⟩,_,rfl,?_⟩
      refine Jc ?_
      refine ⟨_,rfl,_,rfl,_,_,_,_,rfl,rfl,SqL.of ha,e,_,_,false,.int _,.inl ⟨_,rfl,ArI K⟩,_,rfl,?_⟩
      refine Jc ?_
      refine ⟨_,rfl,_,rfl,_,_,_,_,rfl,rfl,SqL.of ha,e,_,rfl,_,rfl,_,_,_,_,rfl,rfl,SqL.of hb,e,rfl,_,rfl,?_⟩
      refine TF rfl ?_
      exact ⟨_,rfl,rfl⟩
    · rintro σ H2 ⟨v,rfl,rfl⟩
      exact k
def AsR (t:Adr):Sp:=fun vs H Q _=>∃ (d dx a b c x y z:Addr) (qs rs:List Addr) (th:List Int) (tss:List (List Int)) (tr:List Int),vs=[.ref d,.ref x,.ref y,.ref z]∧IsD t H d dx a b c qs th tss tr∧H x=some (.lst (vI th))∧NL H y rs tss∧H z=some (.lst (vI tr))∧Ft th tss tr∧Q (.bl true) H
theorem Ae0 (T:Txt K mg t):Ar P w K mg base CX0 2 t.DK t.NT ["draft", "threading", "ties", "treading"] (AsR t):=by
  have Lw:Ar P w K mg base CX0 1 t.CJ t.Lp _ _:=Acq T
  refine T.M3.F.ok TV (fun vs H Q E h=>?_) (fun cdv A outer s H vs Q E hr h=>?_)
  · obtain ⟨d,dx,a,b,c,x,y,z,qs,rs,th,tss,tr,rfl,_⟩:=h
    rfl
  · obtain ⟨d,dx,a,b,c,x,y,z,qs,rs,th,tss,tr,rfl,D,hx,N,hz,F,k⟩:=h
    have m40:=F.m40
    have n40:=F.n40
    have t40:=F.t40
    refine ⟨_,(Ad (BL (PW.pt (pw_or (G4 (Eh (Ak (Lw.mono (by decide)) hr rfl T.Cw.m T.Cw.F.kp T.Cw.b .nil Ba (Aa (Bf (K:=K) (pv 0) rfl) (Aa (pv 1) Ac))))) (pw_or1 (G4 (Eh (Ak (Lw.mono (by decide)) hr rfl T.Cw.m T.Cw.F.kp T.Cw.b .nil Ba (Aa (Bf (K:=K) (pv 0) rfl) (Aa (pv 3) Ac))))))))
        (Ae (Aq G3))
        Bc)
      (Ad (BL (PW.pt (pw_or (G4 (Eh (Ao (HF (K:=K)) rfl T.En Dl (Aa (Bf (K:=K) (pv 0) rfl) (Aa (O3 (v:=.ty "list") rfl T.M4 Jk rfl) Ac))))) (pw_or1 (Av Zw (Ao (An (K:=K)) rfl T.DR Cd (Aa (Bf (K:=K) (pv 0) rfl) Ac)) (Ao (An (K:=K)) rfl T.DR Cd (Aa (pv 2) Ac)) (Bm _)))))
        (Ae (Aq G3))
        Bc)
      (Ad (Et PassesOwn.never rfl (FQ rfl T.GJ (Aa (Ao (An (K:=K)) rfl T.DR Cd (Aa (pv 2) Ac)) Ac)) (Cg (i:=4) TV.nd rfl (Or.inl rfl))
        (Ae (BL (G4 (Eh (Ak (Lw.mono (by decide)) hr rfl T.Cw.m T.Cw.F.kp T.Cw.b .nil Ba (Aa (Bu (Az (K:=K)) (Bf (K:=K) (pv 0) rfl) (pv 4) (fun _ _=>rfl)) (Aa (Bu (Az (K:=K)) (pv 2) (pv 4) (fun _ _=>rfl)) Ac)))))
          (Ae (Aq G3))
          Bc)))
      (Ae (Aq G3))))),?_⟩
    refine ⟨_,rfl,_,_,_,_,_,rfl,D.o,T.Bq.c,T.Bb,Aa4 a b c,_,rfl,a,x,th,rfl,D.ha,hx,by omega,_,rfl,?_⟩
    refine Jc ?_
    refine ⟨_,rfl,_,_,_,_,_,rfl,D.o,T.Bq.c,T.Bj,Aa5 a b c,_,rfl,c,z,tr,rfl,D.hc,hz,by omega,_,rfl,?_⟩
    refine Jc ?_
    refine ⟨_,rfl,_,_,_,_,_,rfl,D.o,T.Bq.c,T.BJ,Ac4 a b c,_,_,true,.lst D.hb.h,.inl ⟨_,rfl,Qx K _⟩,_,rfl,?_⟩
    refine Jc ?_
    refine ⟨_,rfl,_,_,_,_,_,rfl,D.o,T.Bq.c,T.BJ,Ac4 a b c,_,_,rfl,.inl (SqL.of D.hb.h),_,rfl,_,_,rfl,.inl (SqL.of N.h),rfl,_,rfl,?_⟩
    refine TF (by rw [List.length_map,List.length_map,D.hb.l,N.l]) ?_
    refine ⟨_,rfl,_,_,rfl,.inl (SqL.of N.h),_,rfl,(by omega),(by rw [List.length_map,N.l]; omega),?_⟩
    rw [Int.toNat_natCast,List.length_map,N.l]
    refine Gz (lo:=0) (n:=tss.length) (fun i σ H2=>∃ v,σ=[some (.ref d),some (.ref x),some (.ref y),some (.ref z),v]∧H2=H) ⟨none,rfl,rfl⟩ ?_ ?_
    · rintro i σ H2 hi ⟨v,rfl,rfl⟩
      have hiq:i < qs.length:=by rw [D.hb.l]; exact hi
      have hir:i < rs.length:=by rw [N.l]; exact hi
      have e1:atI (qs.map V.ref) (0+(i:Int))=some (.ref qs[i]):=Fw (by omega) (by rw [z0,List.getElem?_map,List.getElem?_eq_getElem hiq]; rfl)
      have e2:atI (rs.map V.ref) (0+(i:Int))=some (.ref rs[i]):=Fw (by omega) (by rw [z0,List.getElem?_map,List.getElem?_eq_getElem hir]; rfl)
      have r1:=D.hb.r i _ _ (List.getElem?_eq_getElem hiq) (List.getElem?_eq_getElem hi)
      have r2:=N.r i _ _ (List.getElem?_eq_getElem hir) (List.getElem?_eq_getElem hi)
      have sh:=Aof (F.hti _ (List.getElem_mem hi))
      refine ⟨_,rfl,_,_,_,_,_,rfl,D.o,T.Bq.c,T.BJ,Ac4 a b c,_,rfl,_,_,_,_,rfl,rfl,SqL.of D.hb.h,e1,_,rfl,_,rfl,_,_,_,_,rfl,rfl,SqL.of N.h,e2,qs[i],rs[i],tss[i],rfl,r1,r2,sh,_,rfl,?_⟩
      refine Jc ?_
      exact ⟨_,rfl,rfl⟩
    · rintro σ H2 ⟨v,rfl,rfl⟩
      exact k
def nn (l:List Int):List Nat:=l.map Int.toNat
theorem Awb {l:List Int} (h:∀ z∈l,0≤z):ofN (nn l)=l:=by
  unfold ofN nn
  rw [List.map_map]
  refine (List.map_congr_left fun z hz=>?_).trans (List.map_id l)
  exact Int.toNat_of_nonneg (h z hz)
noncomputable def shI (ks:List Int):List Nat:=shT (nn ks)
structure Sw (ks:List Int):Prop where
  w:Wr (shI ks) ks
  l:(shI ks).length≤240
  t:ks≠[]→Wr ([49,42,40]++shI ks++[41]) ks
def Awc (K:PySem.W.Frag):Sp:=fun vs H Q _=>∃ (l:Addr) (ks:List Int),vs=[.ref l]∧SqL K H l (vI ks)∧(∀ z∈ks,0≤z∧z < 40)∧ks.length≤40∧∀ H',Ax H H'→Sw ks→Q (.str (tx (shI ks))) H'
theorem Awd (T:Txt K mg t):Ar P w K mg base CX0 3 t.OJ t.Aei ["row"] (Awc K):=(AvW T).imp fun vs H Q E ⟨l,ks,e,hS,hb,hl,k⟩=>by
  have en:=Awb fun z hz=>(hb z hz).1
  have ln:(nn ks).length=ks.length:=by unfold nn; rw [List.length_map]
  refine ⟨l,nn ks,e,by rw [en]; exact hS,fun n hn=>?_,by omega,fun H' s S=>k H' s ⟨?_,?_,fun ne=>?_⟩⟩
  · unfold nn at hn
    obtain ⟨z,hz,rfl⟩:=List.mem_map.mp hn
    have:=hb z hz
    omega
  · have:=S.wr (by omega)
    rw [en] at this
    exact this
  · have:=S.len (by omega)
    unfold shI
    omega
  · have:=S.times (by omega) (fun z=>ne (List.length_eq_zero_iff.mp (by rw [← ln,z]; rfl)))
    rw [en] at this
    exact this
theorem Ajj (sp:List Nat):∀ us:List (List Nat),Txt.join (tx sp) (us.map tx)=tx (jnS sp us)
  | []=>by simp [Txt.join,Builtin.Str.glued,tx,Str.empty,jnS]
  | u::us=>by
    have key:∀ (us:List (List Nat)) (u:List Nat),u++(us.map fun y=>sp++y).flatten=jnS sp (u::us):=fun us=>by
      induction us with
      | nil=>intro u; simp [jnS]
      | cons v r ih =>
        intro u
        rw [List.map_cons,List.flatten_cons,List.append_assoc,ih v]
        rfl
    rw [Ajb,key]
theorem Aih (sp:List Nat) {B:Nat}:∀ us:List (List Nat),(∀ u∈us,u.length≤B)→(jnS sp us).length≤us.length * (B+sp.length)
  | [],_=>Nat.zero_le _
  | [u],h=>by
    have:=h u List.mem_cons_self
    show u.length≤1 * (B+sp.length)
    omega
  | u::v::r,h=>by
    have h1:=h u List.mem_cons_self
    have h2:=Aih sp (v::r) fun x hx=>h x (List.mem_cons_of_mem _ hx)
    show (u++(sp++jnS sp (v::r))).length≤((v::r).length+1) * (B+sp.length)
    rw [List.length_append,List.length_append,Nat.add_mul]
    omega
theorem Ae1 {B:Nat}:∀ us:List (List Nat),(∀ u∈us,u.length≤B)→((us.map tx).map (·.length)).sum≤us.length * B
  | [],_=>Nat.zero_le _
  | u::r,h=>by
    have h1:=h u List.mem_cons_self
    have h2:=Ae1 r fun x hx=>h x (List.mem_cons_of_mem _ hx)
    rw [List.map_cons,List.map_cons,List.sum_cons,Bt,List.length_cons,Nat.add_mul]
    omega
def drT (a:List Nat) (bs:List (List Nat)) (c:List Nat):List Nat:=jnS [32,47,32] [a,jnS [44,32] bs,c]
theorem Aa6:((" / " : Str))=tx [32,47,32]:=by decide +kernel
theorem Ae2:((", " : Str))=tx [44,32]:=by decide +kernel
def Axk (t:Adr):Sp:=fun vs H Q _=>∃ (d dx a b c:Addr) (qs:List Addr) (th:List Int) (tss:List (List Int)) (tr:List Int),vs=[.ref d]∧IsD t H d dx a b c qs th tss tr∧Ft th tss tr∧∀ H',Ax H H'→Sw th→(∀ ks∈tss,Sw ks)→Sw tr→Q (.str (tx (drT (shI th) (tss.map shI) (shI tr)))) H'
theorem Ag8 (T:Txt K mg t):Ar P w K mg base CX0 4 t.Er t.QD ["draft"] (Axk t):=by
  have Amq:Ar P w K mg base CX0 3 t.OJ t.Aei _ _:=Awd T
  refine T.Hu.F.ok Xp (fun vs H Q E h=>?_) (fun cdv A outer s H vs Q E hr h=>?_)
  · obtain ⟨d,dx,a,b,c,qs,th,tss,tr,rfl,_⟩:=h
    rfl
  · obtain ⟨d,dx,a,b,c,qs,th,tss,tr,rfl,D,F,k⟩:=h
    have m40:=F.m40
    have n40:=F.n40
    have t40:=F.t40
    have ql:=D.hb.l
    have hsz:sizeLine=16777216:=sizeLine_eq
    refine ⟨_,(Ad (Bo (i:=1) Xp.nd rfl (Or.inl rfl) (Gg (K:=K) PySem.F.plainAttrs_str PySem.F.slot_str_join PySem.F.type_str_join (Mm (K:=K)) (K8 (v:=.str ", ") rfl T.Aay.choose_spec ⟨_,rfl⟩) (Aa (Jj (Fv.mk (Bl:=[]) (Nc:=["tie"]) rfl (by decide +kernel) (by decide +kernel) (Es (sc0:=Ab Ci) rfl (by decide +kernel)) rfl rfl rfl (by decide +kernel) (fun _ _ h=>by simp at h)) rfl (Br (K:=K) (Bf (K:=K) (pv 0) rfl)) (fun _ _ _ _ _=>.nil) (fun _ _ _ _ _=>(Ak (Amq.mono (by decide)) hr rfl T.shown.m T.shown.F.kp T.shown.b .nil Ba (Aa (pv 0) Ac)))) Ac)))
      (Ae (Aq (Gg (K:=K) PySem.F.plainAttrs_str PySem.F.slot_str_join PySem.F.type_str_join (Mm (K:=K)) (K8 (v:=.str " / ") rfl T.Zx.choose_spec ⟨_,rfl⟩) (Aa (Mi (Aa (Ak (Amq.mono (by decide)) hr rfl T.shown.m T.shown.F.kp T.shown.b .nil Ba (Aa (Bf (K:=K) (pv 0) rfl) Ac)) (Aa (pv 1) (Aa (Ak (Amq.mono (by decide)) hr rfl T.shown.m T.shown.F.kp T.shown.b .nil Ba (Aa (Bf (K:=K) (pv 0) rfl) Ac)) Ac)))) Ac))))),?_⟩
    refine ⟨rfl,_,rfl,_,_,_,_,_,rfl,D.o,T.Bq.c,T.BJ,Ac4 a b c,_,rfl,⟨_,SqL.of D.hb.h⟩,Dk (K:=K) (a:=b) (xs:=qs.map V.ref) (fun i ys H2=>Ax H H2∧ys=vS ((tss.take i).map shI)∧∀ ks∈tss.take i,Sw ks) ⟨.refl _,rfl,fun ks h=>(by simp at h)⟩ ?_ ?_ ?_ ?_⟩
    · rintro i ys H2 hi ⟨s2,rfl,_⟩
      refine ⟨SqL.of (s2 _ _ D.hb.h),?_⟩
      rw [Cz,List.length_map,List.length_take]
      omega
    · rw [List.length_map]; omega
    · rintro i x ys H2 hi hx ⟨s2,rfl,sw⟩
      obtain ⟨r,ks,rfl,h1,h2,h3⟩:=(D.hb.same s2).at hx
      have R:=F.hti ks (List.mem_of_getElem? h2)
      refine Hy.no ?_
      refine ⟨_,rfl,r,ks,rfl,SqL.of h3,R.2,Au2 R,fun H3 s3 S=>?_⟩
      dsimp only
      rw [Ml]
      refine CN.of hi ⟨s2.trans s3,?_,fun ks' h=>?_⟩
      · rw [List.take_add_one,h2,List.map_append]
        rfl
      · rw [List.take_add_one,h2] at h
        rcases List.mem_append.mp h with h | h
        · exact sw ks' h
        · rw [List.mem_singleton.mp h]; exact S
    rintro ys H2 q ⟨s2,rfl,sw⟩ hq
    rw [List.length_map,ql,List.take_length] at sw ⊢
    have lb:∀ u∈tss.map shI,u.length≤240:=fun u hu=>by
      obtain ⟨ks,hk,rfl⟩:=List.mem_map.mp hu
      exact (sw ks hk).l
    have jb:=Aih [44,32] (tss.map shI) lb
    rw [List.length_map] at jb
    simp only [List.length_cons,List.length_nil] at jb
    refine ⟨_,_,(tss.map shI).map tx,rfl,rfl,SqL.of (by rw [Ah,Wf]),?_,?_⟩
    · have:=Ae1 (tss.map shI) lb
      rw [List.length_map] at this
      rw [List.length_map,List.length_map,Ae2,Bt]
      simp only [List.length_cons,List.length_nil]
      omega
    rw [Ae2,Ajj]
    have s3:Ax H (upd H2 q (.lst (vS (tss.map shI)))):=s2.new hq
    generalize upd H2 q (.lst (vS (tss.map shI)))=H3 at s3 ⊢
    have D3:=D.same s3
    refine ⟨rfl,_,rfl,_,_,_,_,_,rfl,D3.o,T.Bq.c,T.Bb,Aa4 a b c,a,th,rfl,SqL.of D3.ha,F.hth,m40,fun H4 s4 S1=>?_⟩
    have D4:=D3.same s4
    refine ⟨_,rfl,_,rfl,_,_,_,_,_,rfl,D4.o,T.Bq.c,T.Bj,Aa5 a b c,c,tr,rfl,SqL.of D4.hc,fun z hz=>?_,n40,fun H5 s5 S2=>?_⟩
    · have:=F.htr z hz
      omega
    refine ⟨(by show 3≤sizeLine; decide),fun l nl=>?_⟩
    refine ⟨_,_,[shI th,jnS [44,32] (tss.map shI),shI tr].map tx,rfl,rfl,SqL.of Ah,?_,?_⟩
    · have l1:=S1.l
      have l2:=S2.l
      rw [Aa6]
      simp only [List.map_cons,List.map_nil,List.sum_cons,List.sum_nil,List.length_cons,List.length_nil,Bt]
      omega
    rw [Aa6,Ajj]
    exact k _ (((s3.trans s4).trans s5).new nl) S1 sw S2
def Cps (H0 H:Hp) (qs:List Addr) (tss:List (List Int)) (i:Nat):Prop:=qs.length=i∧(∀ q∈qs,H0 q=none)∧∀ (j:Nat) (q:Addr) (ks:List Int),qs[j]?=some q→tss[j]?=some ks→H q=some (.lst (vI ks))
theorem Cps.nil (H0 H:Hp) (tss:List (List Int)):Cps H0 H [] tss 0:=⟨rfl,fun q hq=>(by cases hq),fun j q ks h=>(by simp at h)⟩
theorem Cps.add {H0 H:Hp} {qs:List Addr} {tss:List (List Int)} {i:Nat} (C:Cps H0 H qs tss i) {l:Addr} {ks':List Int} (nl:H l=none) (n0:H0 l=none) (hk:tss[i]?=some ks'):Cps H0 (upd H l (.lst (vI ks'))) (qs++[l]) tss (i+1):=by
  obtain ⟨hq,nq,hqs⟩:=C
  refine ⟨by rw [List.length_append,hq]; rfl,fun q h=>?_,fun j q ks h1 h2=>?_⟩
  · rcases List.mem_append.mp h with h | h
    · exact nq q h
    · rw [List.mem_singleton.mp h]; exact n0
  · by_cases hj:j < qs.length
    · rw [List.getElem?_append_left hj] at h1
      exact (Ax.upd nl) _ _ (hqs j q ks h1 h2)
    · rw [List.getElem?_append_right (by omega)] at h1
      have e0:j=i:=by
        have:=(List.getElem?_eq_some_iff.mp h1).1
        simp at this
        omega
      rw [show j - qs.length=0 by omega] at h1
      have e1:l=q:=by simpa using h1
      rw [e0,hk] at h2
      cases h2
      rw [← e1]
      exact Ah
theorem Cps.Ayo {H0 H H':Hp} {qs:List Addr} {tss:List (List Int)} {i:Nat} (C:Cps H0 H qs tss i) {l:Addr} {ks':List Int} (s:Ax H H') (hl:H' l=some (.lst (vI ks'))) (n0:H0 l=none) (hk:tss[i]?=some ks'):Cps H0 H' (qs++[l]) tss (i+1):=by
  refine ⟨by rw [List.length_append,C.1]; rfl,fun q h=>?_,fun j q ks h1 h2=>?_⟩
  · rcases List.mem_append.mp h with h | h
    · exact C.2.1 q h
    · rw [List.mem_singleton.mp h]; exact n0
  · have ql:=C.1
    by_cases hj:j < qs.length
    · rw [List.getElem?_append_left hj] at h1
      exact s _ _ (C.2.2 j q ks h1 h2)
    · rw [List.getElem?_append_right (by omega)] at h1
      have e0:j=i:=by
        have:=(List.getElem?_eq_some_iff.mp h1).1
        simp at this
        omega
      rw [show j - qs.length=0 by omega] at h1
      have e1:l=q:=by simpa using h1
      rw [e0,hk] at h2
      cases h2
      rw [← e1]
      exact hl
def Axl (t:Adr):Sp:=fun vs H Q _=>∃ (u0:List Nat) (us:List (List Nat)) (u2:List Nat) (th:List Int) (tss:List (List Int)) (tr:List Int),vs=[.str (tx (drT u0 us u2))]∧Wr u0 th∧us.length=tss.length∧(∀ (i:Nat) (u:List Nat) (ks:List Int),us[i]?=some u→tss[i]?=some ks→Wr u ks)∧Wr u2 tr∧Ft th tss tr∧(drT u0 us u2).length≤1000000 ∧
  ∀ (d dx a b c:Addr) (qs:List Addr) (H':Hp),Ax H H'→IsD t H' d dx a b c qs th tss tr→Q (.ref d) H'
theorem AkC (T:Txt K mg t):Ar P w K mg base CX0 42 t.Hg t.Yx ["text"] (Axl t):=by
  have Adx:Ar P w K mg base CX0 41 t.Ik t.Yw _ _:=AvY T
  have HN:Ar P w K mg base CX0 4 t.Bw t.HJ _ _:=M7 T
  refine T.Ls.F.ok O8 (fun vs H Q E h=>?_) (fun cdv A outer s H vs Q E hr h=>?_)
  · obtain ⟨u0,us,u2,th,tss,tr,rfl,_⟩:=h
    rfl
  · obtain ⟨u0,us,u2,th,tss,tr,rfl,W0,ul,Ws,W2,F,dl,k⟩:=h
    have t1:=F.t1
    have t40:=F.t40
    have hsz:sizeLine=16777216:=sizeLine_eq
    have une:us≠[]:=fun z=>by rw [z] at ul; simp at ul; omega
    have Axm:∀ u∈us,∀ c∈u,c≠47∧c≠44:=fun u hu=>by
      obtain ⟨i,hi,e⟩:=List.getElem_of_mem hu
      have hit:i < tss.length:=by omega
      exact (Ws i u tss[i] (by rw [← e]; exact List.getElem?_eq_getElem hi) (List.getElem?_eq_getElem hit)).signs
    have Ayp:∀ (us:List (List Nat)),(∀ u∈us,∀ c∈u,c≠47∧c≠44)→47∉jnS [44,32] us:=fun us=>by
      induction us with
      | nil=>intro _ h; cases h
      | cons u r ih =>
        intro h z
        cases r with
        | nil=>exact (h u List.mem_cons_self 47 z).1 rfl
        | cons v r =>
          rcases List.mem_append.mp (show 47∈u++([44,32]++jnS [44,32] (v::r)) from z) with z | z
          · exact (h u List.mem_cons_self 47 z).1 rfl
          · rcases List.mem_append.mp z with z | z
            · simp at z
            · exact ih (fun x hx=>h x (List.mem_cons_of_mem _ hx)) z
    have jl:(jnS [44,32] us).length≤1000000:=by
      have:(drT u0 us u2).length=u0.length+(3+((jnS [44,32] us).length+(3+u2.length))):=by
        unfold drT
        simp [jnS]
        omega
      omega
    refine ⟨_,(Ad (Bo (i:=1) O8.nd rfl (Or.inl rfl) (Gg (K:=K) PySem.F.plainAttrs_str PySem.F.slot_str_split PySem.F.type_str_split Alp (pv 0) (Aa (K8 (v:=.str " / ") rfl T.Zx.choose_spec ⟨_,rfl⟩) Ac)))
      (Ad (BL (Av Zw (Ao (An (K:=K)) rfl T.DR Cd (Aa (pv 1) Ac)) Aj (Bm _))
        (Ae G5)
        Bc)
      (Ad (Bo (i:=2) O8.nd rfl (Or.inl rfl) (Ak (Adx.mono (by decide)) hr rfl T.K4.m T.K4.F.kp T.K4.b .nil Ba (Aa (Bu (Az (K:=K)) (pv 1) Aj (fun _ _=>rfl)) Ac)))
      (Ad (Yq (i:=3) (Fv.mk (Bl:=[]) (Nc:=["tie"]) rfl (by decide +kernel) (by decide +kernel) (Es (sc0:=Ab Ej) rfl (by decide +kernel)) rfl rfl rfl (by decide +kernel) (fun _ _ h=>by simp at h)) rfl O8.nd rfl rfl (Br (K:=K) (Gg (K:=K) PySem.F.plainAttrs_str PySem.F.slot_str_split PySem.F.type_str_split Alp (Bu (Az (K:=K)) (pv 1) Aj (fun _ _=>rfl)) (Aa (K8 (v:=.str ", ") rfl T.Aay.choose_spec ⟨_,rfl⟩) Ac))) (fun _ _ _ _ _=>.nil) (fun _ _ _ _ _=>(Ak (Adx.mono (by decide)) hr rfl T.K4.m T.K4.F.kp T.K4.b .nil Ba (Aa (pv 0) Ac))) rfl)
      (Ae (Aq (AbT T.Bq.m (HN.mono (by decide)) hr rfl T.Aig T.JK.b .nil Ba (Aa (pv 2) (Aa (pv 3) (Aa (Ak (Adx.mono (by decide)) hr rfl T.K4.m T.K4.F.kp T.K4.b .nil Ba (Aa (Bu (Az (K:=K)) (pv 1) Aj (fun _ _=>rfl)) Ac)) Ac)))))))))),?_⟩
    refine ⟨_,rfl,rfl,[32,47,32],47,1,[u0,jnS [44,32] us,u2],rfl,congrArg (fun z=>[V.str z]) Aa6,AqR,(by unfold drT at dl; omega),by simp,fun w hw=>?_,fun lp nlp=>?_⟩
    · simp only [List.mem_cons,List.not_mem_nil,or_false] at hw
      rcases hw with z | z | z <;> rw [z]
      · exact fun h=>(W0.signs _ h).1 rfl
      · exact Ayp us Axm
      · exact fun h=>(W2.signs _ h).1 rfl
    have s1:Ax H (upd H lp (.lst (vS [u0,jnS [44,32] us,u2]))):=.upd nlp
    have hp:(upd H lp (.lst (vS [u0,jnS [44,32] us,u2]))) lp=some (.lst (vS [u0,jnS [44,32] us,u2])):=Ah
    generalize upd H lp (.lst (vS [u0,jnS [44,32] us,u2]))=H1 at s1 hp ⊢
    refine ⟨_,rfl,_,_,rfl,.inl (SqL.of hp),rfl,_,rfl,?_⟩
    refine TF rfl ?_
    refine ⟨_,rfl,_,_,_,_,rfl,rfl,SqL.of hp,rfl,u0,th,rfl,W0,fun q0 H2 s2 nq0 hq0=>?_⟩
    have hp2:=s2 _ _ hp
    refine ⟨_,rfl,_,_,_,_,rfl,rfl,SqL.of hp2,rfl,rfl,[44,32],44,0,us,rfl,congrArg (fun z=>[V.str z]) Ae2,ArW,by omega,une,fun w hw h=>(Axm w hw _ h).2 rfl,fun lt nlt=>?_⟩
    have s3:Ax H2 (upd H2 lt (.lst (vS us))):=.upd nlt
    have ht:(upd H2 lt (.lst (vS us))) lt=some (.lst (vS us)):=Ah
    generalize upd H2 lt (.lst (vS us))=H3 at s3 ht ⊢
    refine ⟨_,rfl,⟨_,SqL.of ht⟩,Dk (K:=K) (a:=lt) (xs:=vS us) (fun i ys H4=>Ax H3 H4∧∃ qs:List Addr,ys=qs.map V.ref∧Cps H3 H4 qs tss i) ⟨.refl _,[],rfl,Cps.nil _ _ _⟩ ?_ ?_ ?_ ?_⟩
    · rintro i ys H4 hi ⟨s4,qs,rfl,C⟩
      exact ⟨SqL.of (s4 _ _ ht),by rw [List.length_map,C.1]; exact Nat.le_refl _⟩
    · rw [Cz]; omega
    · rintro i xv ys H4 hi hxv ⟨s4,qs,rfl,C⟩
      obtain ⟨u,hu,rfl⟩:=Aaj hxv
      have hit:i < tss.length:=by have:=(List.getElem?_eq_some_iff.mp hu).1; omega
      have hk:tss[i]?=some tss[i]:=List.getElem?_eq_getElem hit
      refine Hy.no ?_
      refine ⟨_,rfl,u,tss[i],rfl,Ws i u _ hu hk,fun q H5 s5 nq hq=>?_⟩
      exact CN.of hi ⟨s4.trans s5,qs++[q],by rw [List.map_append]; rfl,C.Ayo s5 hq (s4.free nq) hk⟩
    rintro ys H4 lz ⟨s4,qs0,rfl,C4⟩ nlz
    rw [Cz,ul] at C4
    have s5:Ax H4 (upd H4 lz (.lst (qs0.map V.ref))):=.upd nlz
    have hlz:(upd H4 lz (.lst (qs0.map V.ref))) lz=some (.lst (qs0.map V.ref)):=Ah
    generalize upd H4 lz (.lst (qs0.map V.ref))=H5 at s5 hlz ⊢
    have Z5:NL H5 lz qs0 tss:=⟨hlz,C4.1,fun j q ks h1 h2=>s5 _ _ (C4.2.2 j q ks h1 h2)⟩
    have u35:=(s3.trans s4).trans s5
    refine ⟨_,rfl,_,rfl,_,rfl,_,_,_,_,rfl,rfl,SqL.of (u35 _ _ hp2),rfl,u2,tr,rfl,W2,fun q2 H6 s6 nq2 hq2=>?_⟩
    refine fun d dx nd ndx ndd=>?_
    have sd:Ax H6 (upd (upd H6 dx (.own d)) d (.ins t.BZ dx [])):=(Ax.upd ndx).over nd
    refine ⟨d,dx,q0,lz,q2,qs0,th,tss,tr,rfl,Ah,sd _ _ (s6 _ _ (u35 _ _ hq0)),(Z5.same s6).same sd,sd _ _ hq2,F,fun a b c qs H7 b7 _ _ _ _ D=>⟨rfl,?_⟩⟩
    have s7:Ax H6 H7:=fun b o e=>b7 b o (fun z=>by rw [z,nd] at e; cases e) (sd _ _ e)
    exact k d dx a b c qs H7 (((s1.trans s2).trans u35).trans (s6.trans s7)) D
theorem AsS (u:List Nat):∀ f:List (List Nat),inV (.str (tx u)) (vS f)=decide (u∈f)
  | []=>by simp [inV,vS]
  | k::f=>by
    have ih:=AsS u f
    unfold inV vS at ih ⊢
    rw [List.map_cons,List.any_cons,ih]
    by_cases h:k=u
    · subst h
      have:eqV (V.str (tx k)) (V.str (tx k))=true:=Ai3 rfl
      rw [this]
      simp
    · have:eqV (V.str (tx k)) (V.str (tx u))=false:=by
        show (tx k == tx u)=false
        rw [beq_eq_false_iff_ne]
        exact fun z=>h (Adl z)
      rw [this,Bool.false_or,decide_eq_decide]
      exact ⟨List.mem_cons_of_mem _,fun z=>by
        rcases List.mem_cons.mp z with e | e
        · exact absurd e.symm h
        · exact e⟩
def Ark (K:PySem.W.Frag):Sp:=fun vs H Q _=>∃ (a:Addr) (us:List (List Nat)),vs=[.ref a]∧SqL K H a (vS us)∧us.length≤40∧∀ l H',Ax H H'→H l=none→H' l=some (.lst (vS (unl us)))→Q (.ref l) H'
theorem Arl (T:Txt K mg t):Ar P w K mg base CX0 1 t.Qv t.AiP ["things"] (Ark K):=by
  refine T.unlike.F.ok Agj (fun vs H Q E h=>?_) (fun cdv A outer s H vs Q E hr h=>?_)
  · obtain ⟨a,us,rfl,_⟩:=h
    rfl
  · obtain ⟨a,us,rfl,hS,hl,k⟩:=h
    refine ⟨_,(Ad (Bo (i:=1) Agj.nd rfl (Or.inl rfl) (Mi Ac))
      (Ad (Et PassesOwn.never rfl (Br (K:=K) (pv 0)) (Cg (i:=2) Agj.nd rfl (Or.inl rfl))
        (Ae (BL (Av (Acx (K:=K)) (pv 2) (pv 1) rfl)
          (Ae (Ge (Gg (K:=K) PySem.F.plainAttrs_list PySem.F.slot_list_append PySem.F.type_list_append LK (pv 1) (Aa (pv 2) Ac))))
          Bc)))
      (Ae (Aq (pv 1))))),?_⟩
    refine ⟨Nat.zero_le _,fun q nq=>?_⟩
    have s1:Ax H (upd H q (.lst [])):=.upd nq
    refine ⟨_,rfl,_,rfl,⟨_,s1.seq hS⟩,?_⟩
    refine Ha (K:=K) (a:=a) (xs:=vS us) (fun i σ H2=>∃ (v:Option V),σ=[some (.ref a),some (.ref q),v]∧Ax H H2∧H2 q=some (.lst (vS (unl (us.take i)))))
      ⟨none,rfl,s1,Ah⟩ (fun i σ H2 _ ⟨_,_,s2,_⟩=>s2.seq hS) ?_ ?_
    · rintro i xv σ H2 hx ⟨v,rfl,s2,h2⟩
      have hil:i < us.length:=by
        have:=(List.getElem?_eq_some_iff.mp hx).1
        rwa [Cz] at this
      obtain ⟨u,hu,rfl⟩:=Aaj hx
      have et:us.take (i+1)=us.take i++[u]:=by rw [List.take_add_one,hu]; rfl
      have lf:(unl (us.take i)).length≤i:=Nat.le_trans (Adn _) (by rw [List.length_take]; omega)
      refine ⟨_,rfl,_,rfl,_,_,rfl,.inl (SqL.of h2),rfl,Aie _,_,rfl,?_⟩
      show if (!inV (.str (tx u)) (vS (unl (us.take i))))=true then _ else _
      rw [AsS]
      by_cases hm:u∈unl (us.take i)
      · refine TF hm ?_
        exact ⟨_,rfl,s2,by rw [et,J3,if_pos hm]; exact h2⟩
      · refine ArE hm ?_
        refine ⟨_,rfl,.inl ⟨rfl,_,SqL.of h2⟩,_,rfl,_,_,_,rfl,rfl,h2,(by rw [Cz]; exact JM (by omega)),?_⟩
        rw [Ml]
        exact ⟨_,rfl,s2.over nq,by rw [et,J3,if_neg hm]; exact Ah⟩
    · rintro σ H2 ⟨v,rfl,s2,h2⟩
      rw [Cz,List.take_length] at h2
      exact ⟨_,rfl,k q H2 s2 nq h2⟩
theorem Aoi:∀ (m:Nat) (l:List Nat),l.Nodup→(∀ x∈l,x < m)→l.length≤m
  | 0,l,_,h=>by
    cases l with
    | nil=>exact Nat.le_refl _
    | cons a r=>exact absurd (h a List.mem_cons_self) (by omega)
  | m+1,l,n,h=>by
    have:=Aoi m (l.erase m) (n.erase m) fun x hx=>by
      have g:=n.mem_erase_iff.mp hx
      have:=h x g.2
      omega
    have e:=List.length_erase (a:=m) (l:=l)
    split at e <;> omega
theorem Au5 {ds:List Int} (n:ds.Nodup) (h:∀ z∈ds,0≤z∧z < 40):ds.length < 64:=by
  have:=Aoi 40 (ds.map Int.toNat) (by
    rw [List.Nodup,List.pairwise_map]
    refine n.imp_of_mem fun {a b} ha hb ne e=>ne ?_
    have:=h a ha
    have:=h b hb
    omega) fun x hx=>by
      obtain ⟨z,hz,rfl⟩:=List.mem_map.mp hx
      have:=h z hz
      omega
  rw [List.length_map] at this
  omega
def AsT (th:List Int) (u:List Nat) (ks:List Int):Prop:=∀ z:Int,z∈ks↔∃ e:Nat,th[e]?=some z∧u[e]?=some 35
def Au6:Sp:=fun vs H Q _=>∃ (x:Addr) (th:List Int) (u:List Nat),vs=[.ref x,.str (tx u)]∧H x=some (.lst (vI th))∧th.length=u.length∧u.length≤40∧(∀ z∈th,0≤z∧z < 40)∧∀ l ks H',Ax H H'→H l=none→H' l=some (.lst (vI ks))→Rs ks→AsT th u ks→Q (.ref l) H'
theorem Ajk (T:Txt K mg t):Ar P w K mg base CX0 1 t.Gv t.Wl ["threading", "text"] Au6:=by
  refine T.Ub.F.ok AiO (fun vs H Q E h=>?_) (fun cdv A outer s H vs Q E hr h=>?_)
  · obtain ⟨x,th,u,rfl,_⟩:=h
    rfl
  · obtain ⟨x,th,u,rfl,hx,hlu,h40,hth,k⟩:=h
    have hsz:sizeLine=16777216:=sizeLine_eq
    refine ⟨_,(Ae (Aq (Apb (K:=K) rfl T.Asq rfl T.Axc (AqM (K:=K) (AbY.mk (Bl:=[]) (Nc:=["shaft", "sign"]) rfl (by decide +kernel) (by decide +kernel) (Es (sc0:=Ab Dm) rfl (by decide +kernel)) rfl rfl rfl rfl rfl (by decide +kernel) (fun _ _ h=>by simp at h)) rfl (AtR (K:=K) rfl T.Axe (Aa (pv 0) (Aa (pv 1) Ac))) (fun _ _ _ _ _=>.one (Av T9 (pv 1) GR (Bm _))) (fun _ _ _ _ _=>(pv 0)))))),?_⟩
    refine ⟨_,rfl,_,rfl,.l x,.s (tx u),rfl,trivial,⟨_,SqL.of hx⟩,trivial,?_⟩
    refine ArT (n:=u.length) (fun i=>(vI th).getD i .non) (fun i=>.str ⟨#[u.getD i 0]⟩) (fun i ys H2=>Ax H H2∧∃ ns:List Int,ys=vI ns∧ns.length≤i∧∀ z:Int,z∈ns↔∃ e:Nat,e < i∧th[e]?=some z∧u[e]?=some 35) ⟨.refl _,[],rfl,Nat.le_refl _,fun z=>⟨fun h=>(by cases h),fun ⟨e,h,_⟩=>absurd h (Nat.not_lt_zero _)⟩⟩ ?_ ?_ ?_ ?_ ?_ ?_ ?_
    · rintro i ys H2 hi ⟨s2,ns,rfl,hn,_⟩
      rw [Bd]
      exact hn
    · omega
    · rintro i ys H2 hi ⟨s2,_⟩
      exact AtS (SqL.of (s2 _ _ hx)) (by rw [Bd]; omega)
    · rintro i ys H2 hi _
      exact Av2 hi
    · rintro ys H2 ⟨s2,_⟩
      exact ⟨⟨_,SqL.of (s2 _ _ hx)⟩,trivial,.inl ⟨_,SqL.of (s2 _ _ hx),by rw [Bd]; exact hlu⟩⟩
    · rintro i ys H2 T2 hi ⟨s2,ns,rfl,hn,hm⟩ nT
      have hit:i < th.length:=by omega
      have ev:(vI th).getD i .non=.int th[i]:=by
        rw [List.getD_eq_getElem?_getD,RT (List.getElem?_eq_getElem hit)]
        rfl
      have eu:u.getD i 0=u[i]:=by
        rw [List.getD_eq_getElem?_getD,List.getElem?_eq_getElem hi]
        rfl
      rw [ev,eu]
      have s3:Ax H (upd H2 T2 (.tup [.int th[i],.str ⟨#[u[i]]⟩])):=s2.new nT
      unfold Hy
      refine ⟨_,rfl,rfl,_,rfl,?_⟩
      have hh:("#" : Str)=⟨#[35]⟩:=by decide +kernel
      rw [hh]
      refine Qu (fun h=>?_) (fun h=>?_)
      · have h35:u[i]=35:=AuL.mp h
        refine ⟨_,rfl,?_⟩
        refine CN.of hi ⟨s3,ns++[th[i]],Wg _ _,by rw [List.length_append]; show ns.length+1≤i+1; omega,fun z=>?_⟩
        rw [List.mem_append,List.mem_singleton,hm z]
        constructor
        · rintro (⟨e,h1,h2⟩ | rfl)
          · exact ⟨e,by omega,h2⟩
          · exact ⟨i,by omega,List.getElem?_eq_getElem hit,by rw [List.getElem?_eq_getElem hi,h35]⟩
        · rintro ⟨e,h1,h2,h3⟩
          by_cases q:e=i
          · subst q
            rw [List.getElem?_eq_getElem hit] at h2
            exact .inr (Option.some.inj h2).symm
          · exact .inl ⟨e,by omega,h2,h3⟩
      · refine CN.of hi ⟨s3,ns,rfl,by omega,fun z=>?_⟩
        rw [hm z]
        constructor
        · rintro ⟨e,h1,h2⟩
          exact ⟨e,by omega,h2⟩
        · rintro ⟨e,h1,h2,h3⟩
          by_cases q:e=i
          · subst q
            rw [List.getElem?_eq_getElem hi] at h3
            exact absurd (AuL.mpr (Option.some.inj h3)) h
          · exact ⟨e,by omega,h2,h3⟩
    · rintro ys H2 p ⟨s2,ns,rfl,hn,hm⟩ np
      have Axn:∀ z∈ns,z∈th:=fun z hz=>by
        obtain ⟨e,_,h2,_⟩:=(hm z).mp hz
        exact List.mem_of_getElem? h2
      refine ⟨_,_,rfl,SqL.of Ah,by omega,fun ds nd hs=>Au5 nd fun z hz=>hth z (Axn z (hs z hz)),fun l ks hk hp nl=>?_⟩
      have s3:Ax H (upd H2 p (.lst (vI ns))):=s2.new np
      refine k l ks _ (s3.new nl) (s3.free nl) Ah ⟨fun i a b e1 e2=>?_,fun a ha=>hth a (Axn a ((hk a).mp ha))⟩ fun z=>?_
      · obtain ⟨i1,rfl⟩:=List.getElem?_eq_some_iff.mp e1
        obtain ⟨i2,rfl⟩:=List.getElem?_eq_some_iff.mp e2
        exact List.pairwise_iff_getElem.mp hp i (i+1) i1 i2 (by omega)
      · rw [hk z,hm z]
        exact ⟨fun ⟨e,_,h⟩=>⟨e,h⟩,fun ⟨e,h1,h2⟩=>⟨e,(List.getElem?_eq_some_iff.mp h2).1,h1,h2⟩⟩
theorem Aqn {f:List (List Nat)} {u:List Nat} (h:u∈f):(f.map tx)[ix f u]?=some (tx u)∧(∀ i,i < ix f u→(f.map tx)[i]?≠some (tx u))∧ix f u < f.length:=by
  refine ⟨by rw [List.getElem?_map,ApV h]; rfl,fun i hi z=>?_,AiJ h⟩
  rw [List.getElem?_map] at z
  obtain ⟨y,hy,e⟩:=Option.map_eq_some_iff.mp z
  rw [Adl e] at hy
  exact Asd hi hy
theorem Aqo (l:List Nat) (z:Nat):nts l++[(z:Int)]=nts (l++[z]):=by unfold nts; rw [List.map_append]; rfl
def Amr {α:Type} [DecidableEq α] (l:List α) (i:Nat):List Nat:=(l.take i).map fun x=>ix (unl l) x
theorem Aoj {α:Type} [DecidableEq α] (l:List α):Amr l l.length=num l:=by unfold Amr num; rw [List.take_length]
theorem Aok {α:Type} [DecidableEq α] {l:List α} {i:Nat} {x:α} (h:l[i]?=some x):Amr l (i+1)=Amr l i++[ix (unl l) x]:=by
  unfold Amr
  rw [List.take_add_one,h,List.map_append]
  rfl
theorem Aol {α:Type} [DecidableEq α] {l:List α} {i:Nat} (h:i≤l.length):(Amr l i).length=i:=by
  unfold Amr
  rw [List.length_map,List.length_take]
  omega
theorem Ams {α:Type} [DecidableEq α] {l:List α} {z:Int} (h:z∈nts (num l)):0≤z∧z < ((unl l).length:Int):=by
  obtain ⟨y,hy,rfl⟩:=Auf.mp h
  have:=AvD hy
  omega
structure Lts (cl:List (List Nat)) (m:Nat) (tss:List (List Int)):Prop where
  l:tss.length=(unl cl).length
  r:∀ (j:Nat) (u:List Nat) (ks:List Int),(unl cl)[j]?=some u→tss[j]?=some ks→Rs ks∧AsT (nts (num (cols cl m))) u ks
def AsU (K:PySem.W.Frag) (t:Adr):Sp:=fun vs H Q _=>∃ (a:Addr) (cl:List (List Nat)) (m n:Nat),vs=[.ref a]∧SqL K H a (vS cl)∧Cl cl m n ∧
  ∀ d dx a' b' c' qs tss H',Ax H H'→H d=none→Lts cl m tss→Ft (nts (num (cols cl m))) tss (nts (num cl))→IsD t H' d dx a' b' c' qs (nts (num (cols cl m))) tss (nts (num cl))→Q (.ref d) H'
theorem Ajl (T:Txt K mg t):Ar P w K mg base CX0 6 t.Gu t.Wj ["cloth"] (AsU K t):=by
  have Apv:Ar P w K mg base CX0 3 t.J4 t.Adp _ _:=AnJ T
  have Aom:Ar P w K mg base CX0 1 t.HW t.Aap _ _:=Amd T
  have Aon:Ar P w K mg base CX0 1 t.Qv t.AiP _ _:=Arl T
  have AkD:Ar P w K mg base CX0 1 t.Gv t.Wl _ _:=Ajk T
  have HN:Ar P w K mg base CX0 4 t.Bw t.HJ _ _:=M7 T
  refine T.J6.F.ok G6 (fun vs H Q E h=>?_) (fun cdv A outer s H vs Q E hr h=>?_)
  · obtain ⟨a,cl,m,n,rfl,_⟩:=h
    rfl
  · obtain ⟨a,cl,m,n,rfl,hS,C,k⟩:=h
    refine ⟨_,(Ad (Bo (i:=1) G6.nd rfl (Or.inl rfl) (Ak (Apv.mono (by decide)) hr rfl T.measured.m T.measured.F.kp T.measured.b .nil Ba (Aa (pv 0) Ac)))
      (Ad (Yq (i:=2) (Fv.mk (Bl:=[0]) (Nc:=["end", "cloth"]) rfl (by decide +kernel) (by decide +kernel) (Es (sc0:=Ab BW) rfl (by decide +kernel)) rfl rfl rfl (by decide +kernel) (fun k j h=>match k,h with | 0,h=>by obtain rfl:=Option.some.inj h; exact ⟨_,rfl,rfl,rfl⟩ | _+1,h=>by simp at h)) rfl G6.nd rfl rfl (FQ rfl T.GJ (Aa (Bu (O5 (K:=K)) (pv 1) Aj (fun _ _=>rfl)) Ac)) (fun _ _ _ _ _=>.nil) (fun _ _ _ _ _=>(Ak (Aom.mono (by decide)) hr rfl T.AbZ.m T.AbZ.F.kp T.AbZ.b .nil Ba (Aa (pv 1) (Aa (pv 0) Ac)))) rfl)
      (Ad (Bo (i:=3) G6.nd rfl (Or.inr rfl) (Ak (Aon.mono (by decide)) hr rfl T.unlike.m T.unlike.F.kp T.unlike.b .nil Ba (Aa (pv 2) Ac)))
      (Ad (Bo (i:=4) G6.nd rfl (Or.inr rfl) (Ak (Aon.mono (by decide)) hr rfl T.unlike.m T.unlike.F.kp T.unlike.b .nil Ba (Aa (pv 0) Ac)))
      (Ad (Bo (i:=5) G6.nd rfl (Or.inr rfl) (Jj (Fv.mk (Bl:=[3]) (Nc:=["signs", "unlike_ends"]) rfl (by decide +kernel) (by decide +kernel) (Es (sc0:=Ab BW) rfl (by decide +kernel)) rfl rfl rfl (by decide +kernel) (fun k j h=>match k,h with | 0,h=>by obtain rfl:=Option.some.inj h; exact ⟨_,rfl,rfl,rfl⟩ | _+1,h=>by simp at h)) rfl (Br (K:=K) (pv 2)) (fun _ _ _ _ _=>.nil) (fun _ _ _ _ _=>(Gg (K:=K) PySem.F.plainAttrs_list PySem.F.slot_list_index PySem.F.type_list_index ApS (pv 1) (Aa (pv 0) Ac)))))
      (Ad (Yq (i:=6) (Fv.mk (Bl:=[4]) (Nc:=["text", "unlike_picks"]) rfl (by decide +kernel) (by decide +kernel) (Es (sc0:=Ab BW) rfl (by decide +kernel)) rfl rfl rfl (by decide +kernel) (fun k j h=>match k,h with | 0,h=>by obtain rfl:=Option.some.inj h; exact ⟨_,rfl,rfl,rfl⟩ | _+1,h=>by simp at h)) rfl G6.nd rfl rfl (Br (K:=K) (pv 0)) (fun _ _ _ _ _=>.nil) (fun _ _ _ _ _=>(Gg (K:=K) PySem.F.plainAttrs_list PySem.F.slot_list_index PySem.F.type_list_index ApS (pv 1) (Aa (pv 0) Ac))) rfl)
      (Ae (Aq (AbT T.Bq.m (HN.mono (by decide)) hr rfl T.Aig T.JK.b .nil Ba (Aa (pv 5) (Aa (Jj (Fv.mk (Bl:=[5]) (Nc:=["text", "threading"]) rfl (by decide +kernel) (by decide +kernel) (Es (sc0:=Ab BW) rfl (by decide +kernel)) rfl rfl rfl (by decide +kernel) (fun k j h=>match k,h with | 0,h=>by obtain rfl:=Option.some.inj h; exact ⟨_,rfl,rfl,rfl⟩ | _+1,h=>by simp at h)) rfl (Br (K:=K) (pv 4)) (fun _ _ _ _ _=>.nil) (fun _ _ _ _ _=>(Ak (AkD.mono (by decide)) hr rfl T.Ub.m T.Ub.F.kp T.Ub.b .nil Ba (Aa (pv 1) (Aa (pv 0) Ac))))) (Aa (pv 6) Ac)))))))))))),?_⟩
    refine ⟨_,rfl,a,cl,m,n,rfl,hS,C,fun p hp=>?_⟩
    have hsz:sizeLine=16777216:=sizeLine_eq
    have m1:=C.m1
    have m40:=C.m40
    have n1:=C.n1
    have n40:=C.n40
    have hn:=C.hn
    have s1:Ax H (upd H p (.tup [.int (m:Int),.int (n:Int)])):=.upd hp
    refine ⟨_,rfl,_,_,_,_,rfl,rfl,SqT.of Ah,Fw (by decide) rfl,(m:Int),rfl,(by omega),(by omega),?_⟩
    rw [Int.toNat_natCast]
    refine Yr (lo:=0) (n:=m) (fun i ys H2=>Ax H H2∧ys=vS ((List.range i).map (col cl))) ⟨s1,rfl⟩ ?_ ?_ ?_ ?_
    · rintro i ys H2 hi ⟨s2,rfl⟩
      rw [Cz,List.length_map,List.length_range]
      omega
    · exact JM m40
    · rintro i ys H2 hi ⟨s2,rfl⟩
      refine Hy.no ?_
      refine ⟨_,rfl,_,rfl,a,cl,m,n,i,(by rw [Int.zero_add]; rfl),s2.seq hS,C,hi,fun H3 s3=>?_⟩
      refine CN.of hi ⟨s2.trans s3,?_⟩
      rw [Ml,List.range_succ,List.map_append]
      rfl
    rintro ys H2 p2 ⟨s2,rfl⟩ np2
    obtain ⟨es,hes⟩:∃ es,es=cols cl m:=⟨_,rfl⟩
    have les:es.length=m:=by rw [hes,Xo]
    rw [show (List.range m).map (col cl)=es from hes.symm]
    rw [← hes] at k
    have s3:Ax H (upd H2 p2 (.lst (vS es))):=s2.new np2
    generalize hH3:upd H2 p2 (.lst (vS es))=H3 at s3 ⊢
    have h3:H3 p2=some (.lst (vS es)):=by rw [← hH3]; exact Ah
    clear hH3
    refine ⟨_,rfl,p2,es,rfl,SqL.of h3,by omega,fun q1 H4 s4 nq1 h4=>?_⟩
    have lf1:=Adn es
    have mf1:∀ u∈es,u∈unl es:=fun u hu=>(O6 u es).mpr hu
    have s14:=s3.trans s4
    refine ⟨_,rfl,a,cl,rfl,s14.seq hS,by omega,fun q2 H5 s5 nq2 h5=>?_⟩
    have lf2:=Adn cl
    have mf2:∀ u∈cl,u∈unl cl:=fun u hu=>(O6 u cl).mpr hu
    have mg2:∀ u∈unl cl,u∈cl:=fun u hu=>(O6 u cl).mp hu
    have s15:=s14.trans s5
    have hp2:=s5 _ _ (s4 _ _ h3)
    have hq1:=s5 _ _ h4
    have g1:0 < (unl cl).length:=AlU fun z=>by rw [z] at hn; simp at hn; omega
    refine ⟨_,rfl,_,rfl,⟨_,SqL.of hp2⟩,Dk (K:=K) (a:=p2) (xs:=vS es) (fun i ys H6=>H6=H5∧ys=vI (nts (Amr es i))) ⟨rfl,rfl⟩ ?_ ?_ ?_ ?_⟩
    · rintro i ys H6 hi ⟨rfl,rfl⟩
      rw [Cz] at hi
      exact ⟨SqL.of hp2,by rw [Bd,O7,Aol hi]; exact Nat.le_refl _⟩
    · rw [Cz]; omega
    · rintro i xv ys H6 hi hxv ⟨rfl,rfl⟩
      obtain ⟨u,hu,rfl⟩:=Aaj hxv
      obtain ⟨j1,j2,j3⟩:=Aqn (mf1 u (List.mem_of_getElem? hu))
      refine Hy.no ?_
      refine ⟨_,rfl,.inl ⟨rfl,_,SqL.of hq1⟩,_,rfl,q1,(unl es).map tx,tx u,_,rfl,rfl,(by rw [← Wf]; exact hq1),j1,j2,(by rw [List.length_map]; omega),?_⟩
      refine CN.of hi ⟨rfl,?_⟩
      rw [Wg,Aqo,Aok hu]
    rintro ys H6 p3 ⟨rfl,rfl⟩ np3
    rw [Cz,Aoj]
    obtain ⟨th,eth⟩:∃ th,th=nts (num es):=⟨_,rfl⟩
    rw [← eth] at k ⊢
    have lth:th.length=m:=by rw [eth,O7,Ij,les]
    have hth:∀ z∈th,0≤z∧z < 40:=fun z hz=>by rw [eth] at hz; have:=Ams hz; omega
    have s6:Ax H6 (upd H6 p3 (.lst (vI th))):=.upd np3
    generalize hH7:upd H6 p3 (.lst (vI th))=H7 at s6 ⊢
    have h7:H7 p3=some (.lst (vI th)):=by rw [← hH7]; exact Ah
    clear hH7
    have s17:=s15.trans s6
    have h5':=s6 _ _ h5
    refine ⟨_,rfl,_,rfl,⟨_,s17.seq hS⟩,Dk (K:=K) (a:=a) (xs:=vS cl) (fun i ys H8=>H8=H7∧ys=vI (nts (Amr cl i))) ⟨rfl,rfl⟩ ?_ ?_ ?_ ?_⟩
    · rintro i ys H8 hi ⟨rfl,rfl⟩
      rw [Cz] at hi
      exact ⟨s17.seq hS,by rw [Bd,O7,Aol hi]; exact Nat.le_refl _⟩
    · rw [Cz]; omega
    · rintro i xv ys H8 hi hxv ⟨rfl,rfl⟩
      obtain ⟨u,hu,rfl⟩:=Aaj hxv
      obtain ⟨j1,j2,j3⟩:=Aqn (mf2 u (List.mem_of_getElem? hu))
      refine Hy.no ?_
      refine ⟨_,rfl,.inl ⟨rfl,_,SqL.of h5'⟩,_,rfl,q2,(unl cl).map tx,tx u,_,rfl,rfl,(by rw [← Wf]; exact h5'),j1,j2,(by rw [List.length_map]; omega),?_⟩
      refine CN.of hi ⟨rfl,?_⟩
      rw [Wg,Aqo,Aok hu]
    rintro ys H8 p4 ⟨rfl,rfl⟩ np4
    rw [Cz,Aoj]
    obtain ⟨tr,etr⟩:∃ tr,tr=nts (num cl):=⟨_,rfl⟩
    rw [← etr] at k ⊢
    have ltr:tr.length=n:=by rw [etr,O7,Ij,hn]
    have htr:∀ z∈tr,0≤z∧z < ((unl cl).length:Int):=fun z hz=>by rw [etr] at hz; exact Ams hz
    have s8:Ax H8 (upd H8 p4 (.lst (vI tr))):=.upd np4
    generalize hH9:upd H8 p4 (.lst (vI tr))=H9 at s8 ⊢
    have h9:H9 p4=some (.lst (vI tr)):=by rw [← hH9]; exact Ah
    clear hH9
    have s19:=s17.trans s8
    have h9t:=s8 _ _ h7
    have h9u:=s8 _ _ h5'
    refine ⟨_,rfl,_,rfl,_,rfl,⟨_,SqL.of h9u⟩,Dk (K:=K) (a:=q2) (xs:=vS (unl cl)) (fun i ys H10=>Ax H9 H10∧∃ (rs:List Addr) (tss:List (List Int)),ys=rs.map V.ref∧rs.length=i∧tss.length=i∧(∀ ks∈tss,Rs ks)∧(∀ (j:Nat) (u:List Nat) (ks:List Int),(unl cl)[j]?=some u→tss[j]?=some ks→AsT th u ks)∧∀ (j:Nat) (r:Addr) (ks:List Int),rs[j]?=some r→tss[j]?=some ks→H10 r=some (.lst (vI ks)))
      ⟨.refl _,[],[],rfl,rfl,rfl,fun _ h=>absurd h (by simp),fun j u ks _ h=>(by simp at h),fun j r ks h=>(by simp at h)⟩ ?_ ?_ ?_ ?_⟩
    · rintro i ys H10 hi ⟨s10,rs,tss,rfl,e,_⟩
      exact ⟨SqL.of (s10 _ _ h9u),by rw [List.length_map]; omega⟩
    · rw [Cz]; omega
    · rintro i xv ys H10 hi hxv ⟨s10,rs,tss,rfl,e,e2,hR,hT,hrs⟩
      obtain ⟨u,hu,rfl⟩:=Aaj hxv
      refine Hy.no ?_
      refine ⟨_,rfl,_,rfl,p3,th,u,rfl,s10 _ _ h9t,?_,?_,hth,fun l ks H11 s11 nl hl R TO=>?_⟩
      · rw [C.hm u (mg2 u (List.mem_of_getElem? hu))]; exact lth
      · rw [C.hm u (mg2 u (List.mem_of_getElem? hu))]; exact m40
      refine CN.of hi ⟨s10.trans s11,rs++[l],tss++[ks],by rw [List.map_append]; rfl,by rw [List.length_append,e]; rfl,by rw [List.length_append,e2]; rfl,fun x hx=>?_,fun j u' x h1 h2=>?_,fun j r x h1 h2=>?_⟩
      · rcases List.mem_append.mp hx with h | h
        · exact hR x h
        · rw [List.mem_singleton.mp h]; exact R
      · by_cases hj:j < tss.length
        · rw [List.getElem?_append_left hj] at h2
          exact hT j u' x h1 h2
        · have hj2:j=i:=by
            have:=(List.getElem?_eq_some_iff.mp h2).1
            rw [List.length_append] at this
            simp at this
            omega
          rw [List.getElem?_append_right (by omega),hj2,e2,Nat.sub_self] at h2
          cases h2
          rw [hj2,hu] at h1
          cases h1
          exact TO
      · by_cases hj:j < rs.length
        · rw [List.getElem?_append_left hj] at h1
          rw [List.getElem?_append_left (by omega)] at h2
          exact s11 _ _ (hrs j r x h1 h2)
        · have hj2:j=i:=by
            have:=(List.getElem?_eq_some_iff.mp h1).1
            rw [List.length_append] at this
            simp at this
            omega
          subst hj2
          rw [List.getElem?_append_right (by omega),e,Nat.sub_self] at h1
          rw [List.getElem?_append_right (by omega),e2,Nat.sub_self] at h2
          cases h1
          cases h2
          exact hl
    rintro ys H10 p5 ⟨s10,rs,tss,rfl,lrs,Axo,hR,hT,hrs⟩ np5
    rw [Cz] at lrs Axo
    have s11:Ax H9 (upd H10 p5 (.lst (rs.map V.ref))):=s10.new np5
    have sn:Ax H10 (upd H10 p5 (.lst (rs.map V.ref))):=.upd np5
    generalize Axp:upd H10 p5 (.lst (rs.map V.ref))=H11 at s11 sn ⊢
    have h11:H11 p5=some (.lst (rs.map V.ref)):=by rw [← Axp]; exact Ah
    clear Axp
    have FT:Ft th tss tr:={ m1:=by omega,m40:=by omega,t1:=by omega,t40:=by omega,n1:=by omega,n40:=by omega,hth:=hth,hti:=hR,htr:=fun v hv=>by have:=htr v hv; omega }
    refine ⟨_,rfl,fun x dx nx ndx hne=>?_⟩
    have sz:Ax H11 (upd (upd H11 dx (.own x)) x (.ins t.BZ dx [])):=(Ax.upd ndx).new (by rw [Be (fun z=>hne z.symm)]; exact nx)
    refine ⟨x,dx,p3,p5,p4,rs,th,tss,tr,rfl,Ah,sz _ _ (s11 _ _ h9t),⟨sz _ _ h11,by omega,fun j r ks e1 e2=>sz _ _ (sn _ _ (hrs j r ks e1 e2))⟩,sz _ _ (s11 _ _ h9),?_,fun a' b' c' qs H' sb _ _ _ _ D=>⟨rfl,?_⟩⟩
    · exact FT
    · have nx0:H x=none:=by
        cases e:H x with
        | none=>rfl
        | some o=>rw [s11 _ _ (s19 _ _ e)] at nx; cases nx
      refine k x dx a' b' c' qs tss H' (fun b o e=>?_) nx0 ⟨Axo,fun j u ks h1 h2=>⟨hR ks (List.mem_of_getElem? h2),by rw [← hes,← eth]; exact hT j u ks h1 h2⟩⟩ FT D
      have e11:=s11 _ _ (s19 _ _ e)
      exact sb b o (fun z=>by rw [z,nx] at e11; cases e11) (sz _ _ e11)
def Au7:Sp:=fun vs H Q _=>∃ (x l:Addr) (th ks:List Int),vs=[.ref x,.ref l]∧H x=some (.lst (vI th))∧H l=some (.lst (vI ks))∧th.length≤40∧∀ H',Ax H H'→Q (.str (tx (shd th ks))) H'
theorem Amt (T:Txt K mg t):Ar P w K mg base CX0 1 t.HY t.Aar ["threading", "lifted"] Au7:=by
  refine T.Acb.F.ok AlY (fun vs H Q E h=>?_) (fun cdv A outer s H vs Q E hr h=>?_)
  · obtain ⟨x,l,th,ks,rfl,_⟩:=h
    rfl
  · obtain ⟨x,l,th,ks,rfl,hx,hl,h40,k⟩:=h
    refine ⟨_,(Ae (Aq (Gg (K:=K) PySem.F.plainAttrs_str PySem.F.slot_str_join PySem.F.type_str_join (Mm (K:=K)) GR (Aa (Jj (Fv.mk (Bl:=[1]) (Nc:=["shaft", "lifted"]) rfl (by decide +kernel) (by decide +kernel) (Es (sc0:=Ab Fz) rfl (by decide +kernel)) rfl rfl rfl (by decide +kernel) (fun k j h=>match k,h with | 0,h=>by obtain rfl:=Option.some.inj h; exact ⟨_,rfl,rfl,rfl⟩ | _+1,h=>by simp at h)) rfl (Br (K:=K) (pv 0)) (fun _ _ _ _ _=>.nil) (fun _ _ _ _ _=>(Arw (Av (Ai5 (K:=K)) (pv 0) (pv 1) rfl) GR GR))) Ac)))),?_⟩
    refine ⟨rfl,_,rfl,_,rfl,⟨_,SqL.of hx⟩,Dk (K:=K) (a:=x) (xs:=vI th) (fun i ys H2=>H2=H∧ys=vS ((th.take i).map fun s=>[if s∈ks then 35 else 46])) ⟨rfl,rfl⟩ ?_ ?_ ?_ ?_⟩
    · rintro i ys H2 hi ⟨rfl,rfl⟩
      refine ⟨SqL.of hx,?_⟩
      rw [Cz,List.length_map,List.length_take]
      omega
    · rw [Bd]; exact JM h40
    · rintro i xv ys H2 hi hxv ⟨rfl,rfl⟩
      obtain ⟨z,hz,rfl⟩:=Ku hxv
      refine Hy.no ?_
      have fin:∀ d,d=(if z∈ks then 35 else 46)→CN (vI th).length (fun i ys H2'=>H2'=H2∧ys=vS ((th.take i).map fun s=>[if s∈ks then 35 else 46])) i (vS ((th.take i).map fun s=>[if s∈ks then 35 else 46])++[.str (tx [d])]) H2:=fun d hd=>by
        subst hd
        refine CN.of hi ⟨rfl,?_⟩
        rw [Ml,List.take_add_one,hz,List.map_append]
        rfl
      refine ⟨_,rfl,_,rfl,_,_,rfl,.inl (SqL.of hl),rfl,AlP _,_,rfl,?_⟩
      show if (inV (.int z) (vI ks))=true then _ else _
      rw [AlQ]
      refine Qu (fun h=>?_) (fun h=>?_)
      · have:=fin 35 (by rw [if_pos h])
        rw [← AlN,e35] at this
        exact this
      · have:=fin 46 (by rw [if_neg h])
        rw [← AlN,e46] at this
        exact this
    · rintro ys H2 p ⟨rfl,rfl⟩ hp
      rw [Bd,List.take_length]
      refine ⟨_,_,((th.map fun s=>[if s∈ks then 35 else 46]).map tx),rfl,rfl,SqL.of (by rw [Ah,Wf]),?_,?_⟩
      · have e1:=AtM (fun s:Int=>if s∈ks then 35 else 46) th
        rw [e1,List.length_map,List.length_map]
        have:th.length * (Str.length "")=0:=by rw [show Str.length "" = 0 from by decide +kernel]; omega
        omega
      · rw [show (("" : Str))=tx [] from by decide +kernel,AlO]
        have e2:=Alm (fun s:Int=>if s∈ks then 35 else 46) th
        rw [e2]
        exact k _ (.upd hp)
def AsV (t:Adr):Sp:=fun vs H Q _=>∃ (d dx a b c:Addr) (qs:List Addr) (th:List Int) (tss:List (List Int)) (tr:List Int),vs=[.ref d]∧IsD t H d dx a b c qs th tss tr∧Ft th tss tr∧∀ l H',Ax H H'→H l=none→H' l=some (.lst (vS (wv th tss tr)))→Q (.ref l) H'
theorem AsW (T:Txt K mg t):Ar P w K mg base CX0 2 t.Ua t.Ama ["draft"] (AsV t):=by
  have Aoo:Ar P w K mg base CX0 1 t.HY t.Aar _ _:=Amt T
  refine T.AiT.F.ok Asm (fun vs H Q E h=>?_) (fun cdv A outer s H vs Q E hr h=>?_)
  · obtain ⟨d,dx,a,b,c,qs,th,tss,tr,rfl,_⟩:=h
    rfl
  · obtain ⟨d,dx,a,b,c,qs,th,tss,tr,rfl,D,F,k⟩:=h
    have n40:=F.n40
    refine ⟨_,(Ae (Aq (Jj (Fv.mk (Bl:=[0]) (Nc:=["treadle", "draft"]) rfl (by decide +kernel) (by decide +kernel) (Es (sc0:=Ab Mq) rfl (by decide +kernel)) rfl rfl rfl (by decide +kernel) (fun k j h=>match k,h with | 0,h=>by obtain rfl:=Option.some.inj h; exact ⟨_,rfl,rfl,rfl⟩ | _+1,h=>by simp at h)) rfl (Br (K:=K) (Bf (K:=K) (pv 0) rfl)) (fun _ _ _ _ _=>.nil) (fun _ _ _ _ _=>(Ak (Aoo.mono (by decide)) hr rfl T.Acb.m T.Acb.F.kp T.Acb.b .nil Ba (Aa (Bf (K:=K) (pv 1) rfl) (Aa (Bu (Az (K:=K)) (Bf (K:=K) (pv 1) rfl) (pv 0) (fun _ _=>rfl)) Ac))))))),?_⟩
    refine ⟨_,rfl,_,_,_,_,_,rfl,D.o,T.Bq.c,T.Bj,Aa5 a b c,_,rfl,⟨_,SqL.of D.hc⟩,Dk (K:=K) (a:=c) (xs:=vI tr) (fun i ys H2=>Ax H H2∧ys=vS (wv th tss (tr.take i))) ⟨.refl _,rfl⟩ ?_ ?_ ?_ ?_⟩
    · rintro i ys H2 hi ⟨s2,rfl⟩
      refine ⟨SqL.of (s2 _ _ D.hc),?_⟩
      rw [Cz,Apd,List.length_take]
      omega
    · rw [Bd]; exact JM n40
    · rintro i xv ys H2 hi hxv ⟨s2,rfl⟩
      obtain ⟨v,hv,rfl⟩:=Ku hxv
      have bv:=F.htr v (List.mem_of_getElem? hv)
      have D2:=D.same s2
      have hvq:v.toNat < qs.length:=by rw [D2.hb.l]; omega
      have hrow:=D2.hb.r v.toNat qs[v.toNat] _ (List.getElem?_eq_getElem hvq) (ApU bv)
      refine Hy.no ?_
      refine ⟨_,rfl,_,_,_,_,_,rfl,D2.o,T.Bq.c,T.Bb,Aa4 a b c,_,rfl,_,_,_,_,_,rfl,D2.o,T.Bq.c,T.BJ,Ac4 a b c,_,rfl,_,_,_,_,rfl,rfl,SqL.of D2.hb.h,Fw bv.1 (by rw [List.getElem?_map,List.getElem?_eq_getElem hvq]; rfl),
        a,qs[v.toNat],th,_,rfl,D2.ha,hrow,F.m40,fun H3 s3=>?_⟩
      refine CN.of hi ⟨s2.trans s3,?_⟩
      rw [Ml]
      unfold wv
      rw [List.take_add_one,hv,List.map_append]
      rfl
    · rintro ys H2 l ⟨s2,rfl⟩ nl
      rw [Bd,List.take_length]
      exact k l _ (s2.new nl) (s2.free nl) Ah
def Apw:Sp:=fun vs H Q _=>∃ (x y z:Addr) (rs:List Addr) (th:List Int) (tss:List (List Int)) (tr:List Int),vs=[.ref x,.ref y,.ref z]∧H x=some (.lst (vI th))∧NL H y rs tss∧H z=some (.lst (vI tr))∧Ft th tss tr ∧
  ∀ (l:Addr) (H':Hp),Ax H H'→H l=none→H' l=some (.lst (vS (wv th tss tr)))→Q (.ref l) H'
theorem AhG (T:Txt K mg t):Ar P w K mg base CX0 1 t.FP t.Sq ["threading", "ties", "treading"] Apw:=by
  refine T.Il.F.ok Gb (fun vs H Q E h=>?_) (fun cdv A outer s H vs Q E hr h=>?_)
  · obtain ⟨x,y,z,rs,th,tss,tr,rfl,_⟩:=h
    rfl
  · obtain ⟨x,y,z,rs,th,tss,tr,rfl,hth,N,htr,F,k⟩:=h
    have hsz:sizeLine=16777216:=sizeLine_eq
    have m40:=F.m40
    have n40:=F.n40
    refine ⟨_,(Ad (Bo (i:=3) Gb.nd rfl (Or.inl rfl) (Mi Ac))
      (Ad (Et PassesOwn.never rfl (Br (K:=K) (pv 2)) (Cg (i:=4) Gb.nd rfl (Or.inl rfl))
        (Ad (Bo (i:=5) Gb.nd rfl (Or.inl rfl) GR)
        (Ad (Et PassesOwn.never rfl (Br (K:=K) (pv 0)) (Cg (i:=6) Gb.nd rfl (Or.inl rfl))
          (Ae (BL (Av (Ai5 (K:=K)) (pv 6) (Bu (Az (K:=K)) (pv 1) (pv 4) (fun _ _=>rfl)) rfl)
            (Ae (Bo (i:=5) Gb.nd rfl (Or.inl rfl) (Bp N5 (pv 5) GR)))
            (Ae (Bo (i:=5) Gb.nd rfl (Or.inl rfl) (Bp N5 (pv 5) GR))))))
        (Ae (Ge (Gg (K:=K) PySem.F.plainAttrs_list PySem.F.slot_list_append PySem.F.type_list_append LK (pv 3) (Aa (pv 5) Ac)))))))
      (Ae (Aq (pv 3))))),?_⟩
    refine ⟨Nat.zero_le _,fun q hq=>?_⟩
    have s1:Ax H (upd H q (.lst [])):=.upd hq
    refine ⟨_,rfl,_,rfl,⟨_,SqL.of (s1 _ _ htr)⟩,?_⟩
    refine Ha (K:=K) (a:=z) (xs:=vI tr) (fun i σ H2=>∃ (v1 v2 v3:Option V),σ=[some (.ref x),some (.ref y),some (.ref z),some (.ref q),v1,v2,v3]∧Ax H H2∧H2 q=some (.lst (vS (wv th tss (tr.take i)))))
      ⟨none,none,none,rfl,s1,Ah⟩ (fun i σ H2 _ ⟨_,_,_,_,s2,_⟩=>SqL.of (s2 _ _ htr)) ?_ ?_
    · rintro i xv σ H2 hx ⟨v1,v2,v3,rfl,s2,h2⟩
      have hil:i < tr.length:=by
        have:=(List.getElem?_eq_some_iff.mp hx).1
        rwa [Bd] at this
      obtain ⟨tv,htv,rfl⟩:=Ku hx
      have bv:=F.htr tv (List.mem_of_getElem? htv)
      have N2:=N.same s2
      have hrt:tv.toNat < rs.length:=by rw [N.l]; omega
      have hkt:=N2.r tv.toNat rs[tv.toNat] _ (List.getElem?_eq_getElem hrt) (ApU bv)
      refine ⟨_,rfl,_,rfl,⟨_,SqL.of (s2 _ _ hth)⟩,?_⟩
      refine Ha (K:=K) (a:=x) (xs:=vI th) (fun j σ H3=>∃ (v3:Option V),σ=[some (.ref x),some (.ref y),some (.ref z),some (.ref q),some (.int tv),some (.str (tx (shd (th.take j) (tss.getD tv.toNat [])))),v3]∧H3=H2)
        ⟨v3,by rw [show (("" : Str))=tx [] from by decide +kernel]; rfl,rfl⟩ (fun j σ H3 _ ⟨_,_,e⟩=>e ▸ SqL.of (s2 _ _ hth)) ?_ ?_
      · rintro j xw σ H3 hx2 ⟨v3,rfl,rfl⟩
        have hjl:j < th.length:=by
          have:=(List.getElem?_eq_some_iff.mp hx2).1
          rwa [Bd] at this
        obtain ⟨tw,htw,rfl⟩:=Ku hx2
        have stp:∀ d,d=(if tw∈tss.getD tv.toNat [] then 35 else 46)→shd (th.take j) (tss.getD tv.toNat [])++[d]=shd (th.take (j+1)) (tss.getD tv.toNat []):=fun d hd=>by
          subst hd
          unfold shd
          rw [List.take_add_one,htw,List.map_append]
          rfl
        have sm:∀ z:Str,z.length=1→(tx (shd (th.take j) (tss.getD tv.toNat []))).length+z.length≤sizeLine:=fun z hz=>by
          rw [Bt,hz,ApT,List.length_take]
          omega
        refine ⟨_,rfl,_,rfl,_,rfl,_,_,_,_,rfl,rfl,SqL.of N2.h,Fw bv.1 (by rw [List.getElem?_map,List.getElem?_eq_getElem hrt]; rfl),_,_,rfl,.inl (SqL.of hkt),rfl,AlP _,_,rfl,?_⟩
        show if (inV (.int tw) (vI (tss.getD tv.toNat [])))=true then _ else _
        rw [AlQ]
        refine Qu (fun h=>?_) (fun h=>?_)
        · refine ⟨_,rfl,_,_,rfl,rfl,sm _ (by decide +kernel),?_⟩
          rw [show (("#" : Str))=tx [35] from by decide +kernel,Age,stp 35 (by rw [if_pos h])]
          exact ⟨_,rfl,rfl⟩
        · refine ⟨_,rfl,_,_,rfl,rfl,sm _ (by decide +kernel),?_⟩
          rw [show (("." : Str))=tx [46] from by decide +kernel,Age,stp 46 (by rw [if_neg h])]
          exact ⟨_,rfl,rfl⟩
      · rintro σ H3 ⟨v3,rfl,rfl⟩
        rw [Bd,List.take_length]
        refine ⟨_,rfl,.inl ⟨rfl,_,SqL.of h2⟩,_,rfl,_,_,_,rfl,rfl,h2,(by rw [Cz,Apd,List.length_take]; omega),?_⟩
        rw [Ml]
        refine ⟨_,_,_,rfl,s2.over hq,?_⟩
        rw [Ah]
        unfold wv
        rw [List.take_add_one,htv,List.map_append]
        rfl
    · rintro σ H2 ⟨v1,v2,v3,rfl,s2,h2⟩
      rw [Bd,List.take_length] at h2
      exact ⟨_,rfl,k q H2 s2 hq h2⟩
def Au8 (K:PySem.W.Frag):Sp:=fun vs H Q _=>∃ (a b:Addr) (cl:List (List Nat)),vs=[.ref a,.ref b]∧H a=some (.lst (vS cl))∧SqL K H b (vS cl)∧cl.length≤40∧Q (.bl true) H
theorem Ae3 (T:Txt K mg t):Ar P w K mg base CX0 1 t.DN t.NZ ["found", "due"] (Au8 K):=by
  refine T.Dv.F.ok TX (fun vs H Q E h=>?_) (fun cdv A outer s H vs Q E hr h=>?_)
  · obtain ⟨a,b,cl,rfl,_⟩:=h
    rfl
  · obtain ⟨a,b,cl,rfl,ha,hb,hl,k⟩:=h
    refine ⟨_,(Ad (BL (PW.pt (pw_or (G4 (Eh (Ao (HF (K:=K)) rfl T.En Dl (Aa (pv 0) (Aa (O3 (v:=.ty "list") rfl T.M4 Jk rfl) Ac))))) (pw_or1 (Av Zw (Ao (An (K:=K)) rfl T.DR Cd (Aa (pv 0) Ac)) (Ao (An (K:=K)) rfl T.DR Cd (Aa (pv 1) Ac)) (Bm _)))))
        (Ae (Aq G3))
        Bc)
      (Ad (Et PassesOwn.never rfl (FQ rfl T.GJ (Aa (Ao (An (K:=K)) rfl T.DR Cd (Aa (pv 1) Ac)) Ac)) (Cg (i:=2) TX.nd rfl (Or.inl rfl))
        (Ae (BL (PW.pt (pw_or (G4 (Eh (Ao (HF (K:=K)) rfl T.En Dl (Aa (Bu (Az (K:=K)) (pv 0) (pv 2) (fun _ _=>rfl)) (Aa (O3 (v:=.ty "str") rfl T.Asr AoP rfl) Ac))))) (pw_or1 (Av Zw (Bu (Az (K:=K)) (pv 0) (pv 2) (fun _ _=>rfl)) (Bu (Az (K:=K)) (pv 1) (pv 2) (fun _ _=>rfl)) (Bm _)))))
          (Ae (Aq G3))
          Bc)))
      (Ae (Aq G3)))),?_⟩
    refine ⟨_,rfl,_,_,true,.lst ha,.inl ⟨_,rfl,Qx K _⟩,_,rfl,?_⟩
    refine Jc ?_
    refine ⟨_,rfl,_,_,rfl,.inl (SqL.of ha),_,rfl,_,_,rfl,.inl hb,rfl,_,rfl,?_⟩
    refine TF rfl ?_
    refine ⟨_,rfl,_,_,rfl,.inl hb,_,rfl,(by omega),(by rw [Cz]; omega),?_⟩
    rw [Int.toNat_natCast,Cz]
    refine Gz (lo:=0) (n:=cl.length) (fun i σ H2=>∃ v,σ=[some (.ref a),some (.ref b),v]∧H2=H) ⟨none,rfl,rfl⟩ ?_ ?_
    · rintro i σ H2 hi ⟨v,rfl,rfl⟩
      have e:atI (vS cl) (0+(i:Int))=some (.str (tx cl[i])):=Fw (by omega) (by rw [z0]; exact ArG (List.getElem?_eq_getElem hi))
      refine ⟨_,rfl,_,rfl,_,_,_,_,rfl,rfl,SqL.of ha,e,_,_,true,.str _,.inl ⟨_,rfl,Qx K _⟩,_,rfl,?_⟩
      refine Jc ?_
      refine ⟨_,rfl,_,rfl,_,_,_,_,rfl,rfl,SqL.of ha,e,_,rfl,_,rfl,_,_,_,_,rfl,rfl,hb,e,rfl,_,rfl,?_⟩
      refine TF rfl ?_
      exact ⟨_,rfl,rfl⟩
    · rintro σ H2 ⟨v,rfl,rfl⟩
      exact k
theorem JC {i:Nat} {v:V} {σ σ':St} {H:Hp} {Kt:St→Hp→Prop} (h:σ.set i (some v)=σ') (k:Kt σ' H):Aah i v σ H Kt:=by subst h; exact k
theorem AsX {G:Prop} {R:List Nat→Hp→Prop} (C:List Nat→Hp→Prop) (main:(∀ u H,C u H→R u H)→G) (rest:∀ u H,C u H→R u H):G:=main rest
def Acr (ks:List Int):List (List Nat):=ks.map fun z=>[z.toNat]
theorem AsY {ks:List Int} (h:∀ z∈ks,0≤z):nT (Acr ks)=ks:=by
  induction ks with
  | nil=>rfl
  | cons z r ih =>
    have h1:=h z List.mem_cons_self
    have h2:=ih fun y hy=>h y (List.mem_cons_of_mem _ hy)
    show ofN [z.toNat]++nT (Acr r)=_
    rw [h2]
    show ((z.toNat:Nat):Int)::r=_
    rw [Int.toNat_of_nonneg h1]
theorem AsZ {ks:List Int} (h:∀ z∈ks,0≤z∧z < 40):∀ p∈Acr ks,Okp p:=fun p hp=>by
  unfold Acr at hp
  obtain ⟨z,hz,rfl⟩:=List.mem_map.mp hp
  have:=h z hz
  exact ⟨by simp,by simp,fun n hn=>by rw [List.mem_singleton.mp hn]; omega⟩
theorem Arm (ks:List Int):(Acr ks).flatten.length=ks.length:=by
  induction ks with
  | nil=>rfl
  | cons z r ih =>
    show ([z.toNat]++(Acr r).flatten).length=_
    rw [List.length_append,ih,List.length_cons]
    simp
    omega
def Awe:Sp:=fun vs H Q _=>∃ (l:Addr) (ks:List Int),vs=[.ref l]∧H l=some (.lst (vI ks))∧(∀ z∈ks,0≤z∧z < 40)∧ks.length≤40∧∀ (u:List Nat) (H':Hp),Ax H H'→Wr u ks→u.length≤240→Q (.str (tx u)) H'
theorem Apx (T:Txt K mg t):Ar P w K mg base CX0 1 t.LR t.Agp ["numbers"] Awe:=by
  refine T.Pj.F.ok Aph (fun vs H Q E h=>?_) (fun cdv A outer s H vs Q E hr h=>?_)
  · obtain ⟨l,ks,rfl,_⟩:=h
    rfl
  · obtain ⟨l,ks,rfl,hl,hb,h40,k⟩:=h
    refine ⟨_,(Ae (Aq (Gg (K:=K) PySem.F.plainAttrs_str PySem.F.slot_str_join PySem.F.type_str_join (Mm (K:=K)) GR (Aa (Jj (Fv.mk (Bl:=[]) (Nc:=["number"]) rfl (by decide +kernel) (by decide +kernel) (Es (sc0:=Ab HH) rfl (by decide +kernel)) rfl rfl rfl (by decide +kernel) (fun _ _ h=>by simp at h)) rfl (Br (K:=K) (pv 0)) (fun _ _ _ _ _=>.nil) (fun _ _ _ _ _=>(FW AdS rfl T.Asr AoP (Aa (pv 0) Ac)))) Ac)))),?_⟩
    refine ⟨rfl,_,rfl,_,rfl,⟨_,SqL.of hl⟩,Dk (K:=K) (a:=l) (xs:=vI ks) (fun i ys H2=>H2=H∧ys=vS ((Acr (ks.take i)).map M6)) ⟨rfl,rfl⟩ ?_ ?_ ?_ ?_⟩
    · rintro i ys H2 hi ⟨rfl,rfl⟩
      refine ⟨SqL.of hl,?_⟩
      rw [Cz,List.length_map]
      unfold Acr
      rw [List.length_map,List.length_take]
      omega
    · rw [Bd]; exact JM h40
    · rintro i xv ys H2 hi hxv ⟨rfl,rfl⟩
      obtain ⟨z,hz,rfl⟩:=Ku hxv
      have bz:=hb z (List.mem_of_getElem? hz)
      obtain ⟨n,rfl⟩:∃ n:Nat,z=(n:Int):=⟨z.toNat,by omega⟩
      have Ayq:n < 100:=by omega
      refine Hy.no ?_
      refine ⟨_,rfl,_,rfl,?_,?_⟩
      · show (n:Int).natAbs.log2 < 1920
        rw [Int.natAbs_natCast]
        by_cases c:n=0
        · rw [c]; decide
        · have:n.log2 < 7:=(Nat.log2_lt c).mpr (Nat.lt_of_lt_of_le Ayq (by decide))
          omega
      · show CN (vI ks).length _ i (vS ((Acr (ks.take i)).map M6)++[.str (Str.ofString (toString ((n:Nat):Int)))]) H2
        rw [As6,Ml]
        refine CN.of hi ⟨rfl,?_⟩
        unfold Acr
        rw [List.take_add_one,hz,List.map_append,List.map_append]
        show vS (_++[dec n])=vS (_++[dec n++[]])
        rw [List.append_nil]
    · rintro ys H2 q ⟨rfl,rfl⟩ nq
      rw [Bd,List.take_length]
      have okp:=AsZ hb
      have nt:=AsY fun z hz=>(hb z hz).1
      have rl:=Aoe okp
      rw [Arm] at rl
      have ol:(Acr ks).length=ks.length:=by unfold Acr; rw [List.length_map]
      have wr:=Aod okp (by omega) (by omega) (by rw [nt]; omega)
      rw [nt] at wr
      have pb:∀ u∈(Acr ks).map M6,u.length≤6:=fun u hu=>by
        obtain ⟨p,hp,rfl⟩:=List.mem_map.mp hu
        have h1:=Y9 (List.length_pos_iff.mp (okp p hp).ne)
        have h2:=AsJ (okp p hp).bd
        have h3:p.length≤1:=by
          unfold Acr at hp
          obtain ⟨z,_,rfl⟩:=List.mem_map.mp hp
          simp
        omega
      refine ⟨_,_,((Acr ks).map M6).map tx,rfl,rfl,SqL.of (by rw [Ah,Wf]),?_,?_⟩
      · have:=Ae1 ((Acr ks).map M6) pb
        have d1:Str.length " " = 1:=by decide +kernel
        rw [List.length_map] at this
        rw [List.length_map,List.length_map,d1]
        omega
      · rw [show ((" " : Str))=tx [32] from by decide +kernel,join_rows]
        exact k _ _ (.upd nq) wr (by omega)
def Apy:Sp:=fun vs H Q _=>∃ (p x y z:Addr) (rs:List Addr) (th:List Int) (tss:List (List Int)) (tr:List Int),vs=[.ref p]∧H p=some (.tup [.ref x,.ref y,.ref z])∧H x=some (.lst (vI th))∧NL H y rs tss∧H z=some (.lst (vI tr))∧Ft th tss tr ∧
  ∀ (u0:List Nat) (us:List (List Nat)) (u2:List Nat) (H':Hp),Ax H H'→Wr u0 th→us.length=tss.length→(∀ (i:Nat) (u:List Nat) (ks:List Int),us[i]?=some u→tss[i]?=some ks→Wr u ks)→Wr u2 tr→(drT u0 us u2).length≤1000000→Q (.str (tx (drT u0 us u2))) H'
theorem Ajm (T:Txt K mg t):Ar P w K mg base CX0 2 t.Gx t.Wn ["built"] Apy:=by
  have Ag9:Ar P w K mg base CX0 1 t.LR t.Agp _ _:=Apx T
  refine T.Ud.F.ok Aam (fun vs H Q E h=>?_) (fun cdv A outer s H vs Q E hr h=>?_)
  · obtain ⟨p,x,y,z,rs,th,tss,tr,rfl,_⟩:=h
    rfl
  · obtain ⟨p,x,y,z,rs,th,tss,tr,rfl,hp,hx,N,hz,F,k⟩:=h
    have hsz:sizeLine=16777216:=sizeLine_eq
    have m40:=F.m40
    have n40:=F.n40
    have t40:=F.t40
    refine ⟨_,(Ad (Bo (i:=1) Aam.nd rfl (Or.inl rfl) (Gg (K:=K) PySem.F.plainAttrs_str PySem.F.slot_str_join PySem.F.type_str_join (Mm (K:=K)) GR (Aa (Jj (Fv.mk (Bl:=[]) (Nc:=["tie"]) rfl (by decide +kernel) (by decide +kernel) (Es (sc0:=Ab Dq) rfl (by decide +kernel)) rfl rfl rfl (by decide +kernel) (fun _ _ h=>by simp at h)) rfl (Br (K:=K) (Bu (O5 (K:=K)) (pv 0) Aj (fun _ _=>rfl))) (fun _ _ _ _ _=>.nil) (fun _ _ _ _ _=>(Ak (Ag9.mono (by decide)) hr rfl T.Pj.m T.Pj.F.kp T.Pj.b .nil Ba (Aa (pv 0) Ac)))) Ac)))
      (Ae (Aq (Bp N5 (Bp N5 (Bp N5 (Bp N5 (Ak (Ag9.mono (by decide)) hr rfl T.Pj.m T.Pj.F.kp T.Pj.b .nil Ba (Aa (Bu (O5 (K:=K)) (pv 0) Aj (fun _ _=>rfl)) Ac)) GR) (pv 1)) GR) (Ak (Ag9.mono (by decide)) hr rfl T.Pj.m T.Pj.F.kp T.Pj.b .nil Ba (Aa (Bu (O5 (K:=K)) (pv 0) Aj (fun _ _=>rfl)) Ac)))))),?_⟩
    refine ⟨rfl,_,rfl,_,_,_,_,rfl,rfl,SqT.of hp,rfl,_,rfl,⟨_,SqL.of N.h⟩,Dk (K:=K) (a:=y) (xs:=rs.map V.ref) (fun i ys H2=>Ax H H2∧∃ us:List (List Nat),ys=vS us∧us.length=i∧(∀ (j:Nat) (u:List Nat) (ks:List Int),us[j]?=some u→tss[j]?=some ks→Wr u ks)∧∀ u∈us,u.length≤240) ⟨.refl _,[],rfl,rfl,fun j u ks h=>(by simp at h),fun u h=>(by cases h)⟩ ?_ ?_ ?_ ?_⟩
    · rintro i ys H2 hi ⟨s2,us,rfl,ul,_⟩
      exact ⟨SqL.of (s2 _ _ N.h),by rw [Cz]; omega⟩
    · rw [List.length_map,N.l]; omega
    · rintro i xv ys H2 hi hxv ⟨s2,us,rfl,ul,uw,ub⟩
      obtain ⟨r,ks,rfl,h1,h2,h3⟩:=(N.same s2).at hxv
      have R:=F.hti ks (List.mem_of_getElem? h2)
      refine Hy.no ?_
      refine ⟨_,rfl,r,ks,rfl,h3,R.2,Au2 R,fun u H3 s3 W wl=>?_⟩
      dsimp only
      rw [Ml]
      refine CN.of hi ⟨s2.trans s3,us++[u],rfl,by rw [List.length_append,ul]; rfl,fun j u' ks' g1 g2=>?_,fun u' h=>?_⟩
      · by_cases hj:j < us.length
        · rw [List.getElem?_append_left hj] at g1
          exact uw j u' ks' g1 g2
        · rw [List.getElem?_append_right (by omega)] at g1
          have e0:j=i:=by
            have:=(List.getElem?_eq_some_iff.mp g1).1
            simp at this
            omega
          rw [show j - us.length=0 by omega] at g1
          have e1:u=u':=by simpa using g1
          rw [e0,h2] at g2
          cases g2
          rw [← e1]
          exact W
      · rcases List.mem_append.mp h with h | h
        · exact ub u' h
        · rw [List.mem_singleton.mp h]; exact wl
    rintro ys H2 q ⟨s2,us,rfl,ul,uw,ub⟩ nq
    rw [List.length_map,N.l] at ul
    have jb:=Aih [44,32] us ub
    simp only [List.length_cons,List.length_nil] at jb
    have ls:=Ae1 us ub
    refine ⟨_,_,us.map tx,rfl,rfl,SqL.of (by rw [Ah,Wf]),?_,?_⟩
    · rw [List.length_map,Ae2,Bt]
      simp only [List.length_cons,List.length_nil]
      omega
    rw [Ae2,Ajj]
    have s3:Ax H (upd H2 q (.lst (vS us))):=s2.new nq
    generalize upd H2 q (.lst (vS us))=H3 at s3 ⊢
    refine ⟨_,rfl,_,_,_,_,rfl,rfl,SqT.of (s3 _ _ hp),rfl,x,th,rfl,s3 _ _ hx,F.hth,m40,fun a H4 s4 Wa la=>?_⟩
    have u4:=s3.trans s4
    refine ⟨_,_,rfl,rfl,(by rw [Aa6,Bt,Bt]; simp only [List.length_cons,List.length_nil]; omega),?_⟩
    rw [Aa6,Age]
    refine ⟨_,rfl,_,_,rfl,rfl,(by rw [Bt,Bt,List.length_append]; simp only [List.length_cons,List.length_nil]; omega),?_⟩
    rw [Age]
    refine ⟨_,_,rfl,rfl,(by rw [Bt,Bt,List.length_append,List.length_append]; simp only [List.length_cons,List.length_nil]; omega),?_⟩
    rw [Age]
    refine ⟨_,rfl,_,_,_,_,rfl,rfl,SqT.of (u4 _ _ hp),rfl,z,tr,rfl,u4 _ _ hz,fun v hv=>(by have:=F.htr v hv; omega),n40,fun c H5 s5 Wc lc=>?_⟩
    refine ⟨_,_,rfl,rfl,(by rw [Bt,Bt,List.length_append,List.length_append,List.length_append]; simp only [List.length_cons,List.length_nil]; omega),?_⟩
    rw [Age]
    have e:a++[32,47,32]++jnS [44,32] us++[32,47,32]++c=drT a us c:=by
      unfold drT
      simp [jnS]
    rw [e]
    refine k a us c H5 (u4.trans s5) Wa ul uw Wc ?_
    rw [← e]
    simp only [List.length_append,List.length_cons,List.length_nil]
    omega
def Awf (K:PySem.W.Frag):Sp:=fun vs H Q _=>∃ (a:Addr) (l:List (List Nat)),vs=[.ref a]∧SqL K H a (vI (nts (num l)))∧Q (.int ((unl l).length:Int)) H
theorem Aa7 (T:Txt K mg t):Ar P w K mg base CX0 1 t.Fo t.Pb ["row"] (Awf K):=by
  refine T.DQ.F.ok Ms (fun vs H Q E h=>?_) (fun cdv A outer s H vs Q E hr h=>?_)
  · obtain ⟨a,l,rfl,_⟩:=h
    rfl
  · obtain ⟨a,l,rfl,hS,k⟩:=h
    refine ⟨_,(Ad (Bo (i:=1) Ms.nd rfl (Or.inl rfl) (Ais Adj Aj))
      (Ad (Et PassesOwn.never rfl (Br (K:=K) (pv 0)) (Cg (i:=2) Ms.nd rfl (Or.inl rfl))
        (Ad (BL (PW.pt (pw_or (Av Acw (pv 2) (Bp GX (pv 1) Aj) (Bm _)) (pw_or1 (Av RQ (pv 2) Aj (Bm _)))))
          (Ae (Aq (Ais Adj Aj)))
          Bc)
        (Ae (Bo (i:=1) Ms.nd rfl (Or.inl rfl) (Ao AoO rfl T.Axb Avv (Aa (pv 1) (Aa (pv 2) Ac)))))))
      (Ae (Aq (Bp GX (pv 1) Aj))))),?_⟩
    refine ⟨_,rfl,?_⟩
    refine ⟨_,rfl,_,rfl,⟨_,hS⟩,Ha (K:=K) (a:=a) (xs:=vI (nts (num l))) (fun i σ H2=>∃ v,σ=[some (.ref a),some (.int (((unl (l.take i)).length:Int) - 1)),v]∧H2=H) ⟨none,rfl,rfl⟩ (fun i σ H2 _ ⟨_,_,q⟩=>q ▸ hS) ?_ ?_⟩
    · rintro i xv σ H2 hx ⟨v,rfl,rfl⟩
      obtain ⟨z,hz,rfl⟩:=Ku hx
      obtain ⟨y,hy,rfl⟩:=Ape hz
      have hi:i < l.length:=by have:=(List.getElem?_eq_some_iff.mp hy).1; rwa [Ij] at this
      have hl:=List.getElem?_eq_getElem hi
      have ey:=Asc hl
      rw [hy] at ey
      have ey:=Option.some.inj ey
      have st:=Asf hl
      rw [← ey] at st
      refine ⟨_,rfl,_,rfl,_,_,rfl,rfl,_,_,rfl,rfl,_,rfl,?_⟩
      refine Gi (by omega) ?_
      refine ⟨_,rfl,_,_,rfl,rfl,_,rfl,?_⟩
      refine Gi (by omega) ?_
      refine ⟨_,rfl,_,rfl,_,_,rfl,?_⟩
      refine JC (σ':=[some (.ref a),some (.int (((unl (l.take (i+1))).length:Int) - 1)),some (.int (y:Int))]) ?_ ⟨_,rfl,rfl⟩
      have:(if (y:Int) > ((unl (l.take i)).length:Int) - 1 then (y:Int) else ((unl (l.take i)).length:Int) - 1)=((unl (l.take (i+1))).length:Int) - 1:=by split <;> omega
      show [some (V.ref a),some (V.int (if (y:Int) > ((unl (l.take i)).length:Int) - 1 then (y:Int) else ((unl (l.take i)).length:Int) - 1)),some (V.int (y:Int))]=_
      rw [this]
    · rintro σ H2 ⟨v,rfl,rfl⟩
      rw [Bd,O7,Ij,List.take_length]
      refine ⟨_,rfl,_,_,rfl,rfl,?_⟩
      dsimp only
      rw [show ((unl l).length:Int) - 1+1=((unl l).length:Int) by omega]
      exact k
def Ata (K:PySem.W.Frag):Sp:=fun vs H Q _=>∃ (a:Addr) (ks:List Int),vs=[.ref a]∧SqL K H a (vI ks)∧ks.length≤40∧∀ H',Ax H H'→Q (.int ((unl ks).length:Int)) H'
theorem Amu (T:Txt K mg t):Ar P w K mg base CX0 1 t.Ig t.Aav ["row"] (Ata K):=by
  refine T.Oc.F.ok Yu (fun vs H Q E h=>?_) (fun cdv A outer s H vs Q E hr h=>?_)
  · obtain ⟨a,ks,rfl,_⟩:=h
    rfl
  · obtain ⟨a,ks,rfl,hS,h40,k⟩:=h
    refine ⟨_,(Ad (Bo (i:=1) Yu.nd rfl (Or.inl rfl) (Mi Ac))
      (Ad (Et PassesOwn.never rfl (Br (K:=K) (pv 0)) (Cg (i:=2) Yu.nd rfl (Or.inl rfl))
        (Ae (BL (Av (Acx (K:=K)) (pv 2) (pv 1) rfl)
          (Ae (Ge (Gg (K:=K) PySem.F.plainAttrs_list PySem.F.slot_list_append PySem.F.type_list_append LK (pv 1) (Aa (pv 2) Ac))))
          Bc)))
      (Ae (Aq (Ao (An (K:=K)) rfl T.DR Cd (Aa (pv 1) Ac)))))),?_⟩
    refine ⟨Nat.zero_le _,fun q nq=>?_⟩
    have s1:Ax H (upd H q (.lst [])):=.upd nq
    refine ⟨_,rfl,_,rfl,⟨_,s1.seq hS⟩,Ha (K:=K) (a:=a) (xs:=vI ks) (fun i σ H2=>∃ v,σ=[some (.ref a),some (.ref q),v]∧Ax H H2∧H2 q=some (.lst (vI (unl (ks.take i))))) ⟨none,rfl,s1,Ah⟩ (fun i σ H2 _ ⟨_,_,s2,_⟩=>s2.seq hS) ?_ ?_⟩
    · rintro i xv σ H2 hx ⟨v,rfl,s2,h2⟩
      obtain ⟨z,hz,rfl⟩:=Ku hx
      have e1:ks.take (i+1)=ks.take i++[z]:=by rw [List.take_add_one,hz]; rfl
      refine ⟨_,rfl,_,rfl,_,_,rfl,.inl (SqL.of h2),rfl,AlP _,_,rfl,?_⟩
      show if (!inV (.int z) (vI (unl (ks.take i))))=true then _ else _
      rw [AlQ]
      by_cases hm:z∈unl (ks.take i)
      · refine TF hm ?_
        exact ⟨_,rfl,s2,by rw [e1,J3,if_pos hm]; exact h2⟩
      · refine ArE hm ?_
        have ul:=Adn (ks.take i)
        rw [List.length_take] at ul
        refine ⟨_,rfl,.inl ⟨rfl,_,SqL.of h2⟩,_,rfl,_,_,_,rfl,rfl,h2,(by rw [Bd]; exact Nat.lt_of_le_of_lt (show _≤40 by omega) (by decide)),?_⟩
        rw [Wg]
        exact ⟨_,rfl,s2.over nq,by rw [e1,J3,if_neg hm]; exact Ah⟩
    · rintro σ H2 ⟨v,rfl,s2,h2⟩
      rw [Bd,List.take_length] at h2
      refine ⟨_,rfl,_,_,rfl,.inl (SqL.of h2),?_⟩
      rw [Bd]
      exact k H2 s2
def Atb:Sp:=fun vs H Q _=>∃ (a:Addr) (ks:List Int),vs=[.ref a]∧H a=some (.lst (vI ks))∧Q (.bl true) H
theorem Amv (T:Txt K mg t):Ar P w K mg base CX0 1 t.Ih t.Aaw ["part"] Atb:=by
  refine T.Jh.F.ok Aef (fun vs H Q E h=>?_) (fun cdv A outer s H vs Q E hr h=>?_)
  · obtain ⟨a,ks,rfl,_⟩:=h
    rfl
  · obtain ⟨a,ks,rfl,ha,k⟩:=h
    refine ⟨_,(Ad (BL (G4 (Eh (Ao (HF (K:=K)) rfl T.En Dl (Aa (pv 0) (Aa (O3 (v:=.ty "list") rfl T.M4 Jk rfl) Ac)))))
        (Ae (Aq G3))
        Bc)
      (Ad (Et PassesOwn.never rfl (Br (K:=K) (pv 0)) (Cg (i:=1) Aef.nd rfl (Or.inl rfl))
        (Ae (BL (PW.pt (pw_or (G4 (Eh (Ao (HF (K:=K)) rfl T.En Dl (Aa (pv 1) (Aa (O3 (v:=.ty "int") rfl T.Asp AoQ rfl) Ac))))) (pw_or1 (Eh (Ao (HF (K:=K)) rfl T.En Dl (Aa (pv 1) (Aa (O3 (v:=.ty "bool") rfl T.Aso ApI rfl) Ac)))))))
          (Ae (Aq G3))
          Bc)))
      (Ae (Aq G3)))),?_⟩
    refine ⟨_,rfl,_,_,true,.lst ha,.inl ⟨_,rfl,Qx K _⟩,_,rfl,?_⟩
    refine Jc ?_
    refine ⟨_,rfl,_,rfl,⟨_,SqL.of ha⟩,Ha (K:=K) (a:=a) (xs:=vI ks) (fun i σ H2=>∃ v,σ=[some (.ref a),v]∧H2=H) ⟨none,rfl,rfl⟩ (fun i σ H2 _ ⟨_,_,q⟩=>q ▸ SqL.of ha) ?_ ?_⟩
    · rintro i xv σ H2 hx ⟨v,rfl,rfl⟩
      obtain ⟨z,hz,rfl⟩:=Ku hx
      refine ⟨_,rfl,_,_,true,.int _,.inl ⟨_,rfl,Qx K _⟩,_,rfl,?_⟩
      refine Jc ?_
      refine ⟨_,rfl,_,_,false,.int _,.inl ⟨_,rfl,ArI K⟩,_,rfl,?_⟩
      exact Jc ⟨_,rfl,rfl⟩
    · rintro σ H2 ⟨v,rfl,rfl⟩
      exact k
theorem Aqp (a b:Int):eqV (.int a) (.int b)=decide (a=b):=rfl
def Atc (K:PySem.W.Frag):Sp:=fun vs H Q _=>∃ (a b:Addr) (l:List (List Nat)),vs=[.ref a,.ref b,.int ((unl l).length:Int)]∧H a=some (.lst (vI (nts (num l))))∧SqL K H b (vS l)∧l.length≤40∧∀ H',Ax H H'→Q (.bl true) H'
theorem Ae4 (T:Txt K mg t):Ar P w K mg base CX0 1 t.DP t.Oa ["row", "texts", "count"] (Atc K):=by
  refine T.G9.F.ok Hc (fun vs H Q E h=>?_) (fun cdv A outer s H vs Q E hr h=>?_)
  · obtain ⟨a,b,l,rfl,_⟩:=h
    rfl
  · obtain ⟨a,b,l,rfl,ha,hb,h40,k⟩:=h
    have hsz:sizeLine=16777216:=sizeLine_eq
    have ul:=Adn l
    have nl:(vI (nts (num l))).length=l.length:=by rw [Bd,O7,Ij]
    refine ⟨_,(Ad (Yq (i:=3) (Fv.mk (Bl:=[0,1]) (Nc:=["number", "row", "texts"]) rfl (by decide +kernel) (by decide +kernel) (Es (sc0:=Ab BR) rfl (by decide +kernel)) rfl rfl rfl (by decide +kernel) (fun k j h=>match k,h with | 0,h=>by obtain rfl:=Option.some.inj h; exact ⟨_,rfl,rfl,rfl⟩ | 1,h=>by obtain rfl:=Option.some.inj h; exact ⟨_,rfl,rfl,rfl⟩ | _+2,h=>by simp at h)) rfl Hc.nd rfl rfl (FQ rfl T.GJ (Aa (pv 2) Ac)) (fun _ _ _ _ _=>.nil) (fun _ _ _ _ _=>(Bu (Az (K:=K)) (pv 2) (Gg (K:=K) PySem.F.plainAttrs_list PySem.F.slot_list_index PySem.F.type_list_index (Auk (K:=K) hr.ArM) (pv 1) (Aa (pv 0) Ac)) (fun _ _=>rfl))) rfl)
      (Ad (Et PassesOwn.never rfl (FQ rfl T.GJ (Aa (Ao (An (K:=K)) rfl T.DR Cd (Aa (pv 0) Ac)) Ac)) (Cg (i:=4) Hc.nd rfl (Or.inl rfl))
        (Ae (BL (Av Zw (Bu (Az (K:=K)) (pv 1) (pv 4) (fun _ _=>rfl)) (Bu (Az (K:=K)) (pv 3) (Bu (Az (K:=K)) (pv 0) (pv 4) (fun _ _=>rfl)) (fun _ _=>rfl)) (Bm _))
          (Ae (Aq G3))
          Bc)))
      (Ad (Et PassesOwn.never rfl (FQ rfl T.GJ (Aa (pv 2) Ac)) (Cg (i:=4) Hc.nd rfl (Or.inl rfl))
        (Ae (Et PassesOwn.never rfl (FQ rfl T.GJ (Aa (pv 4) Ac)) (Cg (i:=5) Hc.nd rfl (Or.inl rfl))
          (Ae (BL (Av T9 (Bu (Az (K:=K)) (pv 3) (pv 4) (fun _ _=>rfl)) (Bu (Az (K:=K)) (pv 3) (pv 5) (fun _ _=>rfl)) (Bm _))
            (Ae (Aq G3))
            Bc)))))
      (Ae (Aq G3))))),?_⟩
    refine ⟨_,rfl,((unl l).length:Int),rfl,by omega,by omega,?_⟩
    rw [Int.toNat_natCast]
    refine Yr (lo:=0) (n:=(unl l).length) (fun i ys H2=>H2=H∧ys=vS ((unl l).take i)) ⟨rfl,rfl⟩ ?_ ?_ ?_ ?_
    · rintro i ys H2 hi ⟨rfl,rfl⟩
      rw [Cz,List.length_take]
      omega
    · omega
    · rintro i ys H2 hi ⟨rfl,rfl⟩
      have hm:i∈num l:=Aud hi
      have j1:=ApV hm
      have j2:=AiJ hm
      obtain ⟨g1,_⟩:=Aeb j1
      have hu:=List.getElem?_eq_getElem hi
      rw [hu] at g1
      refine Hy.no ?_
      refine ⟨_,rfl,_,rfl,.inl ⟨rfl,_,SqL.of ha⟩,_,rfl,a,vI (nts (num l)),.int (0+(i:Int)),ix (num l) i,rfl,rfl,ha,(by rw [nl]; rw [Ij] at j2; exact j2),(by omega),fun i' z hz'=>?_,?_⟩
      · obtain ⟨z',hz'',rfl⟩:=Ku hz'
        obtain ⟨y,hy,rfl⟩:=Ape hz''
        refine ⟨_,.flat rfl rfl,fun lt=>?_,fun e=>?_⟩
        · rw [Aqp]
          refine decide_eq_false fun e=>Asd lt ?_
          rw [hy,show y=i by omega]
        · rw [Aqp]
          refine decide_eq_true ?_
          rw [e,j1] at hy
          have:=Option.some.inj hy
          omega
      · refine ⟨_,_,_,_,rfl,rfl,hb,Fw (by omega) (by rw [Int.toNat_natCast]; unfold vS; rw [List.getElem?_map,g1]; rfl),?_⟩
        dsimp only
        rw [Ml]
        refine CN.of hi ⟨rfl,?_⟩
        rw [List.take_add_one,hu]
        rfl
    rintro ys H2 q ⟨rfl,rfl⟩ nq
    rw [List.take_length]
    have s1:Ax H2 (upd H2 q (.lst (vS (unl l)))):=.upd nq
    have hq:(upd H2 q (.lst (vS (unl l)))) q=some (.lst (vS (unl l))):=Ah
    generalize upd H2 q (.lst (vS (unl l)))=H3 at s1 hq ⊢
    have ha3:=s1 _ _ ha
    have hb3:=s1.seq hb
    have atT:∀ (i:Nat) (h:i < l.length),atI (vS l) (i:Int)=some (.str (tx l[i])):=fun i h=>Fw (by omega) (by rw [Int.toNat_natCast]; unfold vS; rw [List.getElem?_map,List.getElem?_eq_getElem h]; rfl)
    have atF:∀ (i:Nat) (h:i < (unl l).length),atI (vS (unl l)) (i:Int)=some (.str (tx (unl l)[i])):=fun i h=>Fw (by omega) (by rw [Int.toNat_natCast]; unfold vS; rw [List.getElem?_map,List.getElem?_eq_getElem h]; rfl)
    refine ⟨_,rfl,_,_,rfl,.inl (SqL.of ha3),_,rfl,(by omega),(by omega),?_⟩
    rw [Int.toNat_natCast,nl]
    refine Gz (lo:=0) (n:=l.length) (fun i σ H4=>∃ v4 v5,σ=[some (.ref a),some (.ref b),some (.int ((unl l).length:Int)),some (.ref q),v4,v5]∧H4=H3) ⟨none,none,rfl,rfl⟩ ?_ ?_
    · rintro i σ H4 hi ⟨v4,v5,rfl,rfl⟩
      refine JC (σ':=[some (.ref a),some (.ref b),some (.int ((unl l).length:Int)),some (.ref q),some (.int (i:Int)),v5]) (by rw [Int.zero_add]; rfl) ?_
      have hn:i < (num l).length:=by rw [Ij]; exact hi
      obtain ⟨g1,g2⟩:=Aeb (List.getElem?_eq_getElem hn)
      rw [List.getElem?_eq_getElem hi,List.getElem?_eq_getElem g2] at g1
      have g1:=Option.some.inj g1
      refine ⟨_,rfl,_,rfl,_,_,_,_,rfl,rfl,hb3,atT i hi,_,rfl,_,rfl,_,rfl,_,_,_,_,rfl,rfl,SqL.of ha3,Fw (by omega) (by rw [Int.toNat_natCast]; unfold vI; rw [List.getElem?_map,AlW (List.getElem?_eq_getElem hn)]; rfl),_,_,_,_,rfl,rfl,SqL.of hq,atF _ g2,rfl,_,rfl,?_⟩
      refine TF (by rw [g1]) ?_
      exact ⟨_,_,rfl,rfl⟩
    rintro σ H4 ⟨v4,v5,rfl,rfl⟩
    refine ⟨_,rfl,((unl l).length:Int),rfl,by omega,by omega,?_⟩
    rw [Int.toNat_natCast]
    refine Gz (lo:=0) (n:=(unl l).length) (fun i σ H5=>∃ v4 v5,σ=[some (.ref a),some (.ref b),some (.int ((unl l).length:Int)),some (.ref q),v4,v5]∧H5=H4) ⟨v4,v5,rfl,rfl⟩ ?_ ?_
    · rintro i σ H5 hi ⟨v4,v5,rfl,rfl⟩
      refine JC (σ':=[some (.ref a),some (.ref b),some (.int ((unl l).length:Int)),some (.ref q),some (.int (i:Int)),v5]) (by rw [Int.zero_add]; rfl) ?_
      refine ⟨_,rfl,(i:Int),rfl,by omega,by omega,?_⟩
      rw [Int.toNat_natCast]
      refine Gz (lo:=0) (n:=i) (fun j σ H6=>∃ v5,σ=[some (.ref a),some (.ref b),some (.int ((unl l).length:Int)),some (.ref q),some (.int (i:Int)),v5]∧H6=H5) ⟨v5,rfl,rfl⟩ ?_ ?_
      · rintro j σ H6 hj ⟨v5,rfl,rfl⟩
        refine JC (σ':=[some (.ref a),some (.ref b),some (.int ((unl l).length:Int)),some (.ref q),some (.int (i:Int)),some (.int (j:Int))]) (by rw [Int.zero_add]; rfl) ?_
        refine ⟨_,rfl,_,rfl,_,_,_,_,rfl,rfl,SqL.of hq,atF i hi,_,rfl,_,rfl,_,_,_,_,rfl,rfl,SqL.of hq,atF j (by omega),rfl,_,rfl,?_⟩
        refine Gi (fun e=>?_) ⟨_,rfl,rfl⟩
        have e':=Adl (V.str.inj e)
        have nd:=Alq l
        exact absurd e'.symm (List.pairwise_iff_getElem.mp nd j i (by omega) hi hj)
      · rintro σ H6 ⟨v5,rfl,rfl⟩
        exact ⟨_,_,rfl,rfl⟩
    · rintro σ H5 ⟨v4,v5,rfl,rfl⟩
      exact k _ s1
def Awg (K:PySem.W.Frag) (t:Adr):Sp:=fun vs H Q _=>∃ (d dx a b c y z:Addr) (qs:List Addr) (cl:List (List Nat)) (m n:Nat) (tss:List (List Int)),vs=[.ref d,.ref y,.ref z]∧IsD t H d dx a b c qs (nts (num (cols cl m))) tss (nts (num cl))∧SqL K H y (vS cl)∧SqL K H z (vS (cols cl m))∧Cl cl m n∧Lts cl m tss∧∀ H',Ax H H'→Q (.bl true) H'
theorem Amw (T:Txt K mg t):Ar P w K mg base CX0 2 t.Ii t.Aax ["found", "cloth", "columns"] (Awg K t):=by
  have Aa8:Ar P w K mg base CX0 1 t.Ih t.Aaw _ _:=Amv T
  have K5:Ar P w K mg base CX0 1 t.Fo t.Pb _ _:=Aa7 T
  have Xw:Ar P w K mg base CX0 1 t.DP t.Oa _ _:=Ae4 T
  refine T.Acf.F.ok Mt (fun vs H Q E h=>?_) (fun cdv A outer s H vs Q E hr h=>?_)
  · obtain ⟨d,dx,a,b,c,y,z,qs,cl,m,n,tss,rfl,_⟩:=h
    rfl
  · obtain ⟨d,dx,a,b,c,y,z,qs,cl,m,n,tss,rfl,D,hy,hz,C,L,k⟩:=h
    have hsz:sizeLine=16777216:=sizeLine_eq
    have m1:=C.m1
    have m40:=C.m40
    have n1:=C.n1
    have n40:=C.n40
    have hn:=C.hn
    have el:=Xo cl m
    have ue:=Adn (cols cl m)
    have uc:=Adn cl
    have pe:0 < (unl (cols cl m)).length:=AlU fun q=>by rw [q] at el; simp at el; omega
    have pc:0 < (unl cl).length:=AlU fun q=>by rw [q] at hn; simp at hn; omega
    refine ⟨_,(Ad (BL (PW.pt (pw_or (G4 (Eh (Ak (Aa8.mono (by decide)) hr rfl T.Jh.m T.Jh.F.kp T.Jh.b .nil Ba (Aa (Bf (K:=K) (pv 0) rfl) Ac)))) (pw_or (G4 (Eh (Ak (Aa8.mono (by decide)) hr rfl T.Jh.m T.Jh.F.kp T.Jh.b .nil Ba (Aa (Bf (K:=K) (pv 0) rfl) Ac)))) (pw_or1 (G4 (Eh (Ao (HF (K:=K)) rfl T.En Dl (Aa (Bf (K:=K) (pv 0) rfl) (Aa (O3 (v:=.ty "list") rfl T.M4 Jk rfl) Ac)))))))))
        (Ae (Aq G3))
        Bc)
      (Ad (BL (PW.pt (pw_or (Av Zw (Ao (An (K:=K)) rfl T.DR Cd (Aa (Bf (K:=K) (pv 0) rfl) Ac)) (Ao (An (K:=K)) rfl T.DR Cd (Aa (pv 2) Ac)) (Bm _)) (pw_or1 (Av Zw (Ao (An (K:=K)) rfl T.DR Cd (Aa (Bf (K:=K) (pv 0) rfl) Ac)) (Ao (An (K:=K)) rfl T.DR Cd (Aa (pv 1) Ac)) (Bm _)))))
        (Ae (Aq G3))
        Bc)
      (Ad (Bo (i:=3) Mt.nd rfl (Or.inl rfl) (Ak (K5.mono (by decide)) hr rfl T.DQ.m T.DQ.F.kp T.DQ.b .nil Ba (Aa (Bf (K:=K) (pv 0) rfl) Ac)))
      (Ad (Bo (i:=4) Mt.nd rfl (Or.inl rfl) (Ak (K5.mono (by decide)) hr rfl T.DQ.m T.DQ.F.kp T.DQ.b .nil Ba (Aa (Bf (K:=K) (pv 0) rfl) Ac)))
      (Ad (BL (PW.pt (pw_or (Av RQ (pv 3) Aj (Bm _)) (pw_or (Av RQ (pv 4) Aj (Bm _)) (pw_or1 (Av Zw (Ao (An (K:=K)) rfl T.DR Cd (Aa (Bf (K:=K) (pv 0) rfl) Ac)) (pv 4) (Bm _))))))
        (Ae (Aq G3))
        Bc)
      (Ad (Et PassesOwn.never rfl (Br (K:=K) (Bf (K:=K) (pv 0) rfl)) (Cg (i:=5) Mt.nd rfl (Or.inl rfl))
        (Ad (BL (G4 (Eh (Ak (Aa8.mono (by decide)) hr rfl T.Jh.m T.Jh.F.kp T.Jh.b .nil Ba (Aa (pv 5) Ac))))
          (Ae (Aq G3))
          Bc)
        (Ae (Et PassesOwn.never rfl (FQ rfl T.GJ (Aa (Ao (An (K:=K)) rfl T.DR Cd (Aa (pv 5) Ac)) Ac)) (Cg (i:=6) Mt.nd rfl (Or.inl rfl))
          (Ae (BL (PW.pt (pw_or (Av RQ (Bu (Az (K:=K)) (pv 5) (pv 6) (fun _ _=>rfl)) Aj (Bm _)) (pw_or (Av ApD (Bu (Az (K:=K)) (pv 5) (pv 6) (fun _ _=>rfl)) (pv 3) (Bm _)) (pw_or1 (PW.pt (pw_and (Av Acw (pv 6) Aj (Bm _)) (pw_and1 (Av ApD (Bu (Az (K:=K)) (pv 5) (Bp Ym (pv 6) Aj) (fun _ _=>rfl)) (Bu (Az (K:=K)) (pv 5) (pv 6) (fun _ _=>rfl)) (Bm _)))))))))
            (Ae (Aq G3))
            Bc))))))
      (Ad (BL (G4 (Eh (Ak (Xw.mono (by decide)) hr rfl T.G9.m T.G9.F.kp T.G9.b .nil Ba (Aa (Bf (K:=K) (pv 0) rfl) (Aa (pv 2) (Aa (pv 3) Ac))))))
        (Ae (Aq G3))
        Bc)
      (Ae (Aq (Ak (Xw.mono (by decide)) hr rfl T.G9.m T.G9.F.kp T.G9.b .nil Ba (Aa (Bf (K:=K) (pv 0) rfl) (Aa (pv 1) (Aa (pv 4) Ac))))))))))))),?_⟩
    refine ⟨_,rfl,_,_,_,_,_,rfl,D.o,T.Bq.c,T.Bb,Aa4 a b c,a,_,rfl,D.ha,_,rfl,?_⟩
    refine Jc ?_
    refine ⟨_,rfl,_,_,_,_,_,rfl,D.o,T.Bq.c,T.Bj,Aa5 a b c,c,_,rfl,D.hc,_,rfl,?_⟩
    refine Jc ?_
    refine ⟨_,rfl,_,_,_,_,_,rfl,D.o,T.Bq.c,T.BJ,Ac4 a b c,_,_,true,.lst D.hb.h,.inl ⟨_,rfl,Qx K _⟩,_,rfl,?_⟩
    refine Jc ?_
    refine ⟨_,rfl,_,_,_,_,_,rfl,D.o,T.Bq.c,T.Bb,Aa4 a b c,_,_,rfl,.inl (SqL.of D.ha),_,rfl,_,_,rfl,.inl hz,rfl,_,rfl,?_⟩
    refine TF (by rw [Bd,O7,Ij,Cz]) ?_
    refine ⟨_,rfl,_,_,_,_,_,rfl,D.o,T.Bq.c,T.Bj,Aa5 a b c,_,_,rfl,.inl (SqL.of D.hc),_,rfl,_,_,rfl,.inl hy,rfl,_,rfl,?_⟩
    refine TF (by rw [Bd,O7,Ij,Cz]) ?_
    refine ⟨_,rfl,_,_,_,_,_,rfl,D.o,T.Bq.c,T.Bb,Aa4 a b c,a,cols cl m,rfl,SqL.of D.ha,?_⟩
    refine JC (σ':=[some (.ref d),some (.ref y),some (.ref z),some (.int ((unl (cols cl m)).length:Int)),none,none,none]) rfl ?_
    refine ⟨_,rfl,_,_,_,_,_,rfl,D.o,T.Bq.c,T.Bj,Aa5 a b c,c,cl,rfl,SqL.of D.hc,?_⟩
    refine JC (σ':=[some (.ref d),some (.ref y),some (.ref z),some (.int ((unl (cols cl m)).length:Int)),some (.int ((unl cl).length:Int)),none,none]) rfl ?_
    refine ⟨_,rfl,_,_,rfl,rfl,_,rfl,?_⟩
    refine Gi (by omega) ?_
    refine ⟨_,rfl,_,_,rfl,rfl,_,rfl,?_⟩
    refine Gi (by omega) ?_
    refine ⟨_,rfl,_,_,_,_,_,rfl,D.o,T.Bq.c,T.BJ,Ac4 a b c,_,_,rfl,.inl (SqL.of D.hb.h),_,rfl,rfl,_,rfl,?_⟩
    refine TF (by rw [List.length_map,D.hb.l,L.l]) ?_
    refine ⟨_,rfl,_,_,_,_,_,rfl,D.o,T.Bq.c,T.BJ,Ac4 a b c,_,rfl,⟨_,SqL.of D.hb.h⟩,Ha (K:=K) (a:=b) (xs:=qs.map V.ref) (fun i σ H2=>∃ v5 v6,σ=[some (.ref d),some (.ref y),some (.ref z),some (.int ((unl (cols cl m)).length:Int)),some (.int ((unl cl).length:Int)),v5,v6]∧H2=H) ⟨none,none,rfl,rfl⟩ (fun i σ H2 _ ⟨_,_,_,q⟩=>q ▸ SqL.of D.hb.h) ?_ ?_⟩
    · rintro i xv σ H2 hx ⟨v5,v6,rfl,rfl⟩
      obtain ⟨r,ks,rfl,h1,h2,h3⟩:=D.hb.at hx
      have hi:i < (unl cl).length:=by rw [← L.l]; exact (List.getElem?_eq_some_iff.mp h2).1
      obtain ⟨R,TO⟩:=L.r i _ ks (List.getElem?_eq_getElem hi) h2
      have k40:=Au2 R
      have kb:∀ v∈ks,0≤v∧v < ((unl (cols cl m)).length:Int):=fun v hv=>by
        obtain ⟨e,he,_⟩:=(TO v).mp hv
        exact Ams (List.mem_of_getElem? he)
      refine JC (σ':=[some (.ref d),some (.ref y),some (.ref z),some (.int ((unl (cols cl m)).length:Int)),some (.int ((unl cl).length:Int)),some (.ref r),v6]) rfl ?_
      refine ⟨_,rfl,r,ks,rfl,h3,_,rfl,?_⟩
      refine Jc ?_
      refine ⟨_,rfl,_,_,rfl,.inl (SqL.of h3),_,rfl,(by omega),(by rw [Bd]; omega),?_⟩
      rw [Int.toNat_natCast,Bd]
      refine Gz (lo:=0) (n:=ks.length) (fun j σ H3=>∃ v6,σ=[some (.ref d),some (.ref y),some (.ref z),some (.int ((unl (cols cl m)).length:Int)),some (.int ((unl cl).length:Int)),some (.ref r),v6]∧H3=H2) ⟨v6,rfl,rfl⟩ ?_ ?_
      · rintro j σ H3 hj ⟨v6,rfl,rfl⟩
        refine JC (σ':=[some (.ref d),some (.ref y),some (.ref z),some (.int ((unl (cols cl m)).length:Int)),some (.int ((unl cl).length:Int)),some (.ref r),some (.int (j:Int))]) (by rw [Int.zero_add]; rfl) ?_
        have e1:atI (vI ks) (j:Int)=some (.int ks[j]):=Fw (by omega) (by rw [Int.toNat_natCast]; unfold vI; rw [List.getElem?_map,List.getElem?_eq_getElem hj]; rfl)
        have b1:=kb _ (List.getElem_mem hj)
        refine ⟨_,rfl,_,rfl,_,_,_,_,rfl,rfl,SqL.of h3,e1,_,_,rfl,rfl,_,rfl,?_⟩
        refine Gi (by omega) ?_
        refine ⟨_,rfl,_,rfl,_,_,_,_,rfl,rfl,SqL.of h3,e1,_,rfl,_,_,rfl,rfl,_,rfl,?_⟩
        refine Gi (by omega) ?_
        refine ⟨_,rfl,_,_,rfl,rfl,_,rfl,?_⟩
        refine Qu (fun j0=>?_) (fun _=>⟨_,rfl,rfl⟩)
        have j1:j - 1 < ks.length:=by omega
        have e2:atI (vI ks) ((j:Int) - 1)=some (.int ks[j - 1]):=Fw (by omega) (by rw [show ((j:Int) - 1).toNat=j - 1 by omega]; unfold vI; rw [List.getElem?_map,List.getElem?_eq_getElem j1]; rfl)
        have up:=R.1 (j - 1) ks[j - 1] ks[j] (List.getElem?_eq_getElem j1) (by rw [show j - 1+1=j by omega]; exact List.getElem?_eq_getElem hj)
        refine ⟨_,rfl,_,rfl,_,_,rfl,rfl,_,_,_,_,rfl,rfl,SqL.of h3,e2,_,rfl,_,rfl,_,_,_,_,rfl,rfl,SqL.of h3,e1,_,_,rfl,rfl,_,rfl,?_⟩
        exact Gi (by omega) ⟨_,rfl,rfl⟩
      · rintro σ H3 ⟨v6,rfl,rfl⟩
        exact ⟨_,_,rfl,rfl⟩
    rintro σ H2 ⟨v5,v6,rfl,rfl⟩
    refine ⟨_,rfl,_,_,_,_,_,rfl,D.o,T.Bq.c,T.Bb,Aa4 a b c,_,rfl,_,rfl,a,z,cols cl m,rfl,D.ha,hz,by omega,fun H3 s3=>?_⟩
    refine ⟨_,rfl,?_⟩
    refine Jc ?_
    exact ⟨_,rfl,_,_,_,_,_,rfl,s3 _ _ D.o,T.Bq.c,T.Bj,Aa5 a b c,_,rfl,_,rfl,c,y,cl,rfl,s3 _ _ D.hc,s3.seq hy,by omega,fun H4 s4=>k H4 (s3.trans s4)⟩
theorem Alm {α:Type} (f:α→Nat):∀ l:List α,(l.map fun x=>[f x]).flatten=l.map f
  | []=>rfl
  | x::r=>by rw [List.map_cons,List.flatten_cons,Alm f r]; rfl
theorem Atd {tss:List (List Int)} (h:∀ ks∈tss,Sw ks):∀ (i:Nat) (u:List Nat) (ks:List Int),(tss.map shI)[i]?=some u→tss[i]?=some ks→Wr u ks:=fun i u ks h1 h2=>by
  rw [List.getElem?_map,h2] at h1
  cases h1
  exact (h ks (List.mem_of_getElem? h2)).w
theorem Aqq {a c:List Nat} {bs:List (List Nat)} (ha:a.length≤400) (hc:c.length≤400) (hl:bs.length≤40) (hb:∀ u∈bs,u.length≤400):(drT a bs c).length≤1000000:=by
  have jb:=Aih [44,32] bs hb
  simp only [List.length_cons,List.length_nil] at jb
  unfold drT
  simp only [jnS,List.length_append,List.length_cons,List.length_nil]
  omega
theorem Aop:∀ {a b:List Int},a.Pairwise (· < ·)→b.Pairwise (· < ·)→(∀ z,z∈a↔z∈b)→a=b
  | [],[],_,_,_=>rfl
  | [],y::b,_,_,h=>absurd ((h y).mpr List.mem_cons_self) (by simp)
  | x::a,[],_,_,h=>absurd ((h x).mp List.mem_cons_self) (by simp)
  | x::a,y::b,ha,hb,h=>by
    have ha':=List.pairwise_cons.mp ha
    have hb':=List.pairwise_cons.mp hb
    have e:x=y:=by
      rcases List.mem_cons.mp ((h x).mp List.mem_cons_self) with e | hx
      · exact e
      · rcases List.mem_cons.mp ((h y).mpr List.mem_cons_self) with e | hy
        · exact e.symm
        · have:=ha'.1 y hy
          have:=hb'.1 x hx
          omega
    subst e
    refine congrArg (x::·) (Aop ha'.2 hb'.2 fun z=>⟨fun hz=>?_,fun hz=>?_⟩)
    · rcases List.mem_cons.mp ((h z).mp (List.mem_cons_of_mem _ hz)) with e | q
      · have:=ha'.1 z hz; omega
      · exact q
    · rcases List.mem_cons.mp ((h z).mpr (List.mem_cons_of_mem _ hz)) with e | q
      · have:=hb'.1 z hz; omega
      · exact q
theorem Amx:∀ {ks:List Int},(∀ (i:Nat) (a b:Int),ks[i]?=some a→ks[i+1]?=some b→a < b)→ks.Pairwise (· < ·)
  | [],_=>.nil
  | [x],_=>List.pairwise_singleton _ _
  | x::y::r,h=>by
    have ih:=Amx (ks:=y::r) fun i a b h1 h2=>h (i+1) a b (by simpa using h1) (by simpa using h2)
    have xy:x < y:=h 0 x y rfl rfl
    refine List.pairwise_cons.mpr ⟨fun z hz=>?_,ih⟩
    rcases List.mem_cons.mp hz with e | q
    · omega
    · have:=(List.pairwise_cons.mp ih).1 z q
      omega
theorem Lts.uniq {cl:List (List Nat)} {m:Nat} {t1 t2:List (List Int)} (A:Lts cl m t1) (B:Lts cl m t2):t1=t2:=by
  refine List.ext_getElem (A.l.trans B.l.symm) fun j h1 h2=>?_
  have hj:j < (unl cl).length:=by rw [← A.l]; exact h1
  obtain ⟨R1,T1⟩:=A.r j _ _ (List.getElem?_eq_getElem hj) (List.getElem?_eq_getElem h1)
  obtain ⟨R2,T2⟩:=B.r j _ _ (List.getElem?_eq_getElem hj) (List.getElem?_eq_getElem h2)
  exact Aop (Amx R1.1) (Amx R2.1) fun z=>by rw [T1 z,T2 z]
def Amy (K:PySem.W.Frag):Sp:=fun vs H Q _=>∃ (a:Addr) (ns:List Int),vs=[.ref a]∧SqL K H a (vI ns)∧ns.length≤63∧∀ H',Q (.bl true) H'
theorem Amz {K:PySem.W.Frag} {H:Hp} {a:Addr} {ns:List Int} (hl:ns.length≤63) (hS:SqL K H a (ns.map V.int)):Amy K [.ref a] H (fun v _=>v=.bl true) fun _ _ _=>False:=⟨a,ns,rfl,hS,hl,fun _=>rfl⟩
theorem Awh (T:Txt K mg t):Ar P w K mg base CX0 43 t.AiR t.AuJ ["script"] (Amy K):=by
  have AkE:Ar P w K mg base CX0 1 t.Gw t.Wm _ _:=Aji T
  have Ajn:Ar P w K mg base CX0 2 t.FN t.Sh _ _:=AhF T
  have Aa9:Ar P w K mg base CX0 1 t.FP t.Sq _ _:=AhG T
  have AkF:Ar P w K mg base CX0 2 t.Gx t.Wn _ _:=Ajm T
  have HN:Ar P w K mg base CX0 4 t.Bw t.HJ _ _:=M7 T
  have Zz:Ar P w K mg base CX0 4 t.Er t.QD _ _:=Ag8 T
  have Ae5:Ar P w K mg base CX0 42 t.Hg t.Yx _ _:=AkC T
  have Aqr:Ar P w K mg base CX0 2 t.Ua t.Ama _ _:=AsW T
  have Og:Ar P w K mg base CX0 1 t.DN t.NZ _ _:=Ae3 T
  have Ac5:Ar P w K mg base CX0 6 t.Gu t.Wj _ _:=Ajl T
  have Aoq:Ar P w K mg base CX0 2 t.Ii t.Aax _ _:=Amw T
  have Ahp:Ar P w K mg base CX0 1 t.Ig t.Aav _ _:=Amu T
  have K5:Ar P w K mg base CX0 1 t.Fo t.Pb _ _:=Aa7 T
  have AgA:Ar P w K mg base CX0 2 t.DK t.NT _ _:=Ae0 T
  refine T.law.F.ok Wi (fun vs H Q E h=>?_) (fun cdv A outer s H vs Q E hr h=>?_)
  · obtain ⟨a,ns,rfl,_⟩:=h
    rfl
  · obtain ⟨sc,ns,rfl,hS,hl,k⟩:=h
    have hsz:sizeLine=16777216:=sizeLine_eq
    refine ⟨_,(Ad (Bo (i:=1) Wi.nd rfl (Or.inl rfl) (Ak (Ajn.mono (by decide)) hr rfl T.Rr.m T.Rr.F.kp T.Rr.b .nil Ba (Aa (Ak (AkE.mono (by decide)) hr rfl T.Uc.m T.Uc.F.kp T.Uc.b .nil Ba (Aa (pv 0) (Aa Aj Ac))) Ac)))
      (Ad (Bo (i:=2) Wi.nd rfl (Or.inr rfl) (Ak (Aa9.mono (by decide)) hr rfl T.Il.m T.Il.F.kp T.Il.b .nil Ba (Aa (Bu (O5 (K:=K)) (pv 1) Aj (fun _ _=>rfl)) (Aa (Bu (O5 (K:=K)) (pv 1) Aj (fun _ _=>rfl)) (Aa (Bu (O5 (K:=K)) (pv 1) Aj (fun _ _=>rfl)) Ac)))))
      (Ad (Asi (i:=3) (Ys.mk (Bl:=[2]) (Nc:=["end", "due"]) rfl rfl (by decide +kernel) (Es (sc0:=Ab Xq) rfl (by decide +kernel)) rfl rfl rfl (by decide +kernel) (fun k j h=>match k,h with | 0,h=>by obtain rfl:=Option.some.inj h; exact ⟨_,rfl,rfl,rfl⟩ | _+1,h=>by simp at h)) rfl Wi.nd rfl rfl (FQ rfl T.GJ (Aa (Ao Gf rfl T.DR Cd (Aa (Bu (Az (K:=K)) (pv 2) Aj (fun _ _=>rfl)) Ac)) Ac)) (fun _ _ _ _ _=>.nil) (fun _ _ _ _ _=>(Gg (K:=K) PySem.F.plainAttrs_str PySem.F.slot_str_join PySem.F.type_str_join (Mm (K:=K)) GR (Aa (Jj (Fv.mk (Bl:=[0]) (Nc:=["text", "end"]) rfl (by decide +kernel) (by decide +kernel) (Asj (sc0:=Ab Xq) rfl (by decide +kernel)) rfl rfl rfl (by decide +kernel) (fun k j h=>match k,h with | 0,h=>by obtain rfl:=Option.some.inj h; exact ⟨_,rfl,rfl,rfl⟩ | _+1,h=>by simp at h)) rfl (Br (K:=K) (pv 1)) (fun _ _ _ _ _=>.nil) (fun _ _ _ _ _=>(Bu AlG (pv 0) (pv 1) (fun _ _=>rfl)))) Ac))) rfl)
      (Ad (Bo (i:=4) Wi.nd rfl (Or.inl rfl) (Ak (AkF.mono (by decide)) hr rfl T.Ud.m T.Ud.F.kp T.Ud.b .nil Ba (Aa (pv 1) Ac)))
      (Ad (BL (Av Acw (Ao Gf rfl T.DR Cd (Aa (pv 4) Ac)) Aj (Bm _))
        (Ae (Bo (i:=4) Wi.nd rfl (Or.inl rfl) (Ak (Zz.mono (by decide)) hr rfl T.Hu.m T.Hu.F.kp T.Hu.b .nil Ba (Aa (AbT T.Bq.m (HN.mono (by decide)) hr rfl T.Aig T.JK.b .nil Ba (Aa (FW (Hq (K:=K)) rfl T.M4 Jk (Aa (Bu (O5 (K:=K)) (pv 1) Aj (fun _ _=>rfl)) Ac)) (Aa (Jj (Fv.mk (Bl:=[]) (Nc:=["tie"]) rfl (by decide +kernel) (by decide +kernel) (Es (sc0:=Ab Xq) rfl (by decide +kernel)) rfl rfl rfl (by decide +kernel) (fun _ _ h=>by simp at h)) rfl (Br (K:=K) (Bu (O5 (K:=K)) (pv 1) Aj (fun _ _=>rfl))) (fun _ _ _ _ _=>.nil) (fun _ _ _ _ _=>(FW (Hq (K:=K)) rfl T.M4 Jk (Aa (pv 0) Ac)))) (Aa (FW (Hq (K:=K)) rfl T.M4 Jk (Aa (Bu (O5 (K:=K)) (pv 1) Aj (fun _ _=>rfl)) Ac)) Ac)))) Ac))))
        Bc)
      (Ad (Bo (i:=5) Wi.nd rfl (Or.inl rfl) (Ak (Ae5.mono (by decide)) hr rfl T.Ls.m T.Ls.F.kp T.Ls.b .nil Ba (Aa (pv 4) Ac)))
      (Ad (BL (G4 (Eh (Ak (Og.mono (by decide)) hr rfl T.Dv.m T.Dv.F.kp T.Dv.b .nil Ba (Aa (Ak (Aqr.mono (by decide)) hr rfl T.AiT.m T.AiT.F.kp T.AiT.b .nil Ba (Aa (pv 5) Ac)) (Aa (pv 2) Ac)))))
        (Ae (Aq G3))
        Bc)
      (Ad (Bo (i:=6) Wi.nd rfl (Or.inl rfl) (FW (Hq (K:=K)) rfl T.M4 Jk (Aa (pv 2) Ac)))
      (Ad (Bo (i:=7) Wi.nd rfl (Or.inl rfl) (Ak (Ac5.mono (by decide)) hr rfl T.J6.m T.J6.F.kp T.J6.b .nil Ba (Aa (pv 6) Ac)))
      (Ad (BL (PW.pt (pw_or (Av (AtO (K:=K) (hr.Avl)) (pv 6) (pv 2) (Bm _)) (pw_or (G4 (Eh (Ao (HF (K:=K)) rfl T.En Dl (Aa (pv 7) (Aa (K8 (v:=.ref t.BZ) rfl T.Aig rfl) Ac))))) (pw_or1 (G4 (Eh (Ak (Aoq.mono (by decide)) hr rfl T.Acf.m T.Acf.F.kp T.Acf.b .nil Ba (Aa (pv 7) (Aa (pv 2) (Aa (pv 3) Ac))))))))))
        (Ae (Aq G3))
        Bc)
      (Ad (BL (G4 (Eh (Ak (Og.mono (by decide)) hr rfl T.Dv.m T.Dv.F.kp T.Dv.b .nil Ba (Aa (Ak (Aa9.mono (by decide)) hr rfl T.Il.m T.Il.F.kp T.Il.b .nil Ba (Aa (Bf (K:=K) (pv 7) rfl) (Aa (Bf (K:=K) (pv 7) rfl) (Aa (Bf (K:=K) (pv 7) rfl) Ac)))) (Aa (pv 2) Ac)))))
        (Ae (Aq G3))
        Bc)
      (Ad (BL (Av RQ (Ak (Ahp.mono (by decide)) hr rfl T.Oc.m T.Oc.F.kp T.Oc.b .nil Ba (Aa (Bf (K:=K) (pv 5) rfl) Ac)) (Ak (K5.mono (by decide)) hr rfl T.DQ.m T.DQ.F.kp T.DQ.b .nil Ba (Aa (Bf (K:=K) (pv 7) rfl) Ac)) (Bm _))
        (Ae (Aq G3))
        Bc)
      (Ad (BL (Av RQ (Ak (Ahp.mono (by decide)) hr rfl T.Oc.m T.Oc.F.kp T.Oc.b .nil Ba (Aa (Bf (K:=K) (pv 5) rfl) Ac)) (Ak (K5.mono (by decide)) hr rfl T.DQ.m T.DQ.F.kp T.DQ.b .nil Ba (Aa (Bf (K:=K) (pv 7) rfl) Ac)) (Bm _))
        (Ae (Aq G3))
        Bc)
      (Ad (Bo (i:=8) Wi.nd rfl (Or.inl rfl) (Ak (Ae5.mono (by decide)) hr rfl T.Ls.m T.Ls.F.kp T.Ls.b .nil Ba (Aa (Ak (Zz.mono (by decide)) hr rfl T.Hu.m T.Hu.F.kp T.Hu.b .nil Ba (Aa (pv 7) Ac)) Ac)))
      (Ad (BL (G4 (Eh (Ak (Og.mono (by decide)) hr rfl T.Dv.m T.Dv.F.kp T.Dv.b .nil Ba (Aa (Ak (Aqr.mono (by decide)) hr rfl T.AiT.m T.AiT.F.kp T.AiT.b .nil Ba (Aa (pv 8) Ac)) (Aa (pv 2) Ac)))))
        (Ae (Aq G3))
        Bc)
      (Ae (Aq (Ak (AgA.mono (by decide)) hr rfl T.M3.m T.M3.F.kp T.M3.b .nil Ba (Aa (Ak (Ac5.mono (by decide)) hr rfl T.J6.m T.J6.F.kp T.J6.b .nil Ba (Aa (pv 6) Ac)) (Aa (Bf (K:=K) (pv 7) rfl) (Aa (Bf (K:=K) (pv 7) rfl) (Aa (Bf (K:=K) (pv 7) rfl) Ac)))))))))))))))))))))),?_⟩
    refine ⟨_,rfl,sc,ns,123,rfl,hS,hl,by decide,by decide,fun l ks H1 s1 nl hl1 hkl hkn=>?_⟩
    refine ⟨l,ks,rfl,SqL.of hl1,by omega,by omega,hkn,fun p H2 x y z rs th tss tr s2 hp hx N hz F=>?_⟩
    refine JC (σ':=[some (.ref sc),some (.ref p),none,none,none,none,none,none,none]) rfl ?_
    clear s1 s2 hl1 nl
    have m1:=F.m1
    have m40:=F.m40
    have t1:=F.t1
    have t40:=F.t40
    have n1:=F.n1
    have n40:=F.n40
    have htr:∀ z∈tr,0≤z∧z < 40:=fun z hz=>by have:=F.htr z hz; omega
    refine ⟨_,rfl,_,_,_,_,rfl,rfl,SqT.of hp,rfl,_,rfl,_,_,_,_,rfl,rfl,SqT.of hp,rfl,_,rfl,_,_,_,_,rfl,rfl,SqT.of hp,rfl,x,y,z,rs,th,tss,tr,rfl,hx,N,hz,F,fun ld H3 s3 nld hld=>?_⟩
    refine JC (σ':=[some (.ref sc),some (.ref p),some (.ref ld),none,none,none,none,none,none]) rfl ?_
    have C:=AwZ F
    have ke:=Apf th tss tr
    have kp:=An8 th tss tr
    obtain ⟨cl,ecl⟩:∃ cl,cl=wv th tss tr:=⟨_,rfl⟩
    rw [← ecl] at hld C ke kp
    have hn:=C.hn
    have c0:0 < cl.length:=by omega
    have lu0:=C.hm _ (List.getElem_mem c0)
    refine ⟨_,rfl,_,_,_,_,rfl,rfl,SqL.of hld,Fw (by decide) (by unfold vS; rw [List.getElem?_map]; show (cl[0]?).map _=_; rw [List.getElem?_eq_getElem c0]; rfl),_,rfl,(by rw [Bt,lu0]; exact JM m40),(th.length:Int),(by rw [Bt,lu0]),by omega,by omega,?_⟩
    rw [Int.toNat_natCast]
    refine Yr (lo:=0) (n:=th.length) (fun i ys H4=>Ax H3 H4∧ys=vS ((List.range i).map (col cl))) ⟨.refl _,rfl⟩ ?_ ?_ ?_ ?_
    · rintro i ys H4 hi ⟨s4,rfl⟩
      rw [Cz,List.length_map,List.length_range]
      omega
    · exact JM m40
    · rintro e ys H4 hi ⟨s4,rfl⟩
      refine Hy.no ?_
      have hS4:=SqL.of (K:=K) (s4 _ _ hld)
      refine ⟨rfl,_,rfl,_,rfl,⟨_,hS4⟩,Dk (K:=K) (a:=ld) (xs:=vS cl) (fun i ys H5=>H5=H4∧ys=vS ((cl.take i).map fun t=>[t.getD e 0])) ⟨rfl,rfl⟩ ?_ ?_ ?_ ?_⟩
      · rintro i ys H5 hi ⟨rfl,rfl⟩
        refine ⟨hS4,?_⟩
        rw [Cz,List.length_map,List.length_take]
        omega
      · rw [Cz,hn]; exact JM n40
      · rintro i x ys H5 hi' hx' ⟨rfl,rfl⟩
        obtain ⟨t',ht,rfl⟩:=Aaj hx'
        have htl:=C.hm t' (List.mem_of_getElem? ht)
        have hel:e < t'.length:=by omega
        refine Hy.no ?_
        refine ⟨_,rfl,_,rfl,_,_,t'[e],rfl,rfl,(by rw [Bt,htl]; exact JM m40),(by rw [O4,Int.zero_add]; exact AlF (List.getElem?_eq_getElem hel)),?_⟩
        refine CN.of hi' ⟨rfl,?_⟩
        rw [AlN,Ml,List.take_add_one,ht,List.map_append]
        simp [List.getD,hel]
      · rintro ys H5 q ⟨rfl,rfl⟩ nq
        rw [Cz,List.take_length]
        refine ⟨_,_,((cl.map fun t=>[t.getD e 0]).map tx),rfl,rfl,SqL.of (by rw [Ah,Wf]),?_,?_⟩
        · have e1:=AtM (fun t:List Nat=>t.getD e 0) cl
          rw [e1,List.length_map,List.length_map,hn]
          have d0:Str.length "" = 0:=by decide +kernel
          rw [d0]
          omega
        · rw [show (("" : Str))=tx [] from by decide +kernel,AlO]
          have fl:(cl.map fun t=>[t.getD e 0]).flatten=col cl e:=by
            unfold col
            clear hn c0 lu0
            exact Alm (fun t:List Nat=>t.getD e 0) cl
          rw [fl]
          dsimp only
          rw [Ml]
          refine CN.of hi ⟨s4.new nq,?_⟩
          rw [List.range_succ,List.map_append]
          rfl
    rintro ys H4 lc ⟨s4,rfl⟩ nlc
    have s5:Ax H3 (upd H4 lc (.lst (vS (cols cl th.length)))):=s4.new nlc
    have hlc:(upd H4 lc (.lst (vS (cols cl th.length)))) lc=some (.lst (vS (cols cl th.length))):=Ah
    have ec:(List.range th.length).map (col cl)=cols cl th.length:=rfl
    rw [ec]
    generalize upd H4 lc (.lst (vS (cols cl th.length)))=H5 at s5 hlc ⊢
    refine JC (σ':=[some (.ref sc),some (.ref p),some (.ref ld),some (.ref lc),none,none,none,none,none]) rfl ?_
    have u5:=s3.trans s5
    have Ayr:=s5 _ _ hld
    clear s3 s4 s5 nlc nld hld
    refine ⟨_,rfl,p,x,y,z,rs,th,tss,tr,rfl,u5 _ _ hp,u5 _ _ hx,N.same u5,u5 _ _ hz,F,fun u0 us u2 H6 s6 W0 ul Ws W2 dl=>?_⟩
    obtain ⟨uw,euw⟩:∃ uw,uw=drT u0 us u2:=⟨_,rfl⟩
    rw [← euw]
    refine JC (σ':=[some (.ref sc),some (.ref p),some (.ref ld),some (.ref lc),some (.str (tx uw)),none,none,none,none]) rfl ?_
    have u6:=u5.trans s6
    apply AsX (fun u H'=>Ax H6 H'∧∃ (v0:List Nat) (vs:List (List Nat)) (v2:List Nat),u=drT v0 vs v2∧Wr v0 th∧vs.length=tss.length∧(∀ (i:Nat) (u:List Nat) (ks:List Int),vs[i]?=some u→tss[i]?=some ks→Wr u ks)∧Wr v2 tr∧(drT v0 vs v2).length≤1000000)
    · intro rest
      refine ⟨_,rfl,_,rfl,(by rw [Bt,euw]; omega),_,_,rfl,rfl,_,rfl,?_⟩
      refine Qu ?tt ?ff
      case tt =>
        intro _
        refine ⟨_,rfl,_,_,_,_,rfl,rfl,SqT.of (u6 _ _ hp),rfl,_,_,rfl,.inl (SqL.of (u6 _ _ hx)),fun lx nlx=>?_⟩
        have s8:Ax H6 (upd H6 lx (.lst (vI th))):=.upd nlx
        have hlx:(upd H6 lx (.lst (vI th))) lx=some (.lst (vI th)):=Ah
        generalize upd H6 lx (.lst (vI th))=H8 at s8 hlx ⊢
        have u8:=u6.trans s8
        have N8:=N.same u8
        refine ⟨_,rfl,_,_,_,_,rfl,rfl,SqT.of (u8 _ _ hp),rfl,_,rfl,⟨_,SqL.of N8.h⟩,Dk (K:=K) (a:=y) (xs:=rs.map V.ref) (fun i ys H5=>Ax H8 H5∧∃ qs:List Addr,ys=qs.map V.ref∧Cps H8 H5 qs tss i) ⟨.refl _,[],rfl,Cps.nil _ _ _⟩ ?_ ?_ ?_ ?_⟩
        · rintro i ys H5 hi ⟨s5,qs,rfl,C⟩
          exact ⟨SqL.of (s5 _ _ N8.h),by rw [List.length_map,C.1]; exact Nat.le_refl _⟩
        · rw [List.length_map,N.l]; omega
        · rintro i xv ys H5 hi hxv ⟨s5,qs,rfl,C⟩
          obtain ⟨r',ks',rfl,_,hks,hr'⟩:=N8.at hxv
          refine Hy.no ?_
          refine ⟨_,rfl,_,_,rfl,.inl (SqL.of (s5 _ _ hr')),fun l nl=>?_⟩
          exact CN.of hi ⟨s5.new nl,qs++[l],by rw [List.map_append]; rfl,C.add nl (s5.free nl) hks⟩
        rintro ys H9 lz ⟨s9,qs0,rfl,C9⟩ nlz
        rw [List.length_map,N.l] at C9
        have s10:Ax H9 (upd H9 lz (.lst (qs0.map V.ref))):=.upd nlz
        have hlz:(upd H9 lz (.lst (qs0.map V.ref))) lz=some (.lst (qs0.map V.ref)):=Ah
        generalize upd H9 lz (.lst (qs0.map V.ref))=H10 at s10 hlz ⊢
        have Z10:NL H10 lz qs0 tss:=⟨hlz,C9.1,fun j q ks h1 h2=>s10 _ _ (C9.2.2 j q ks h1 h2)⟩
        have u10:=(u8.trans s9).trans s10
        refine ⟨_,rfl,_,_,_,_,rfl,rfl,SqT.of (u10 _ _ hp),rfl,_,_,rfl,.inl (SqL.of (u10 _ _ hz)),fun lr nlr=>?_⟩
        have s11:Ax H10 (upd H10 lr (.lst (vI tr))):=.upd nlr
        have hlr:(upd H10 lr (.lst (vI tr))) lr=some (.lst (vI tr)):=Ah
        generalize upd H10 lr (.lst (vI tr))=H11 at s11 hlr ⊢
        refine fun d dx nd ndx ndd=>?_
        have sd:Ax H11 (upd (upd H11 dx (.own d)) d (.ins t.BZ dx [])):=(Ax.upd ndx).over nd
        refine ⟨d,dx,lx,lz,lr,qs0,th,tss,tr,rfl,Ah,sd _ _ (s11 _ _ (s10 _ _ (s9 _ _ hlx))),(Z10.same s11).same sd,sd _ _ hlr,F,fun a b c qs H12 b12 _ _ _ _ D=>⟨rfl,?_⟩⟩
        have s12:Ax H11 H12:=fun b o e=>b12 b o (fun z=>by rw [z,nd] at e; cases e) (sd _ _ e)
        refine ⟨d,dx,a,b,c,qs,th,tss,tr,rfl,D,F,fun H13 s13 S1 sw S2=>?_⟩
        have swl:∀ u∈tss.map shI,u.length≤400:=fun u hu=>by
          obtain ⟨ks',hk,rfl⟩:=List.mem_map.mp hu
          have:=(sw ks' hk).l
          omega
        have l1:=S1.l
        have l2:=S2.l
        have dl2:=Aqq (a:=shI th) (c:=shI tr) (bs:=tss.map shI) (by omega) (by omega) (by rw [List.length_map]; exact t40) swl
        obtain ⟨ud,eud⟩:∃ ud,ud=drT (shI th) (tss.map shI) (shI tr):=⟨_,rfl⟩
        rw [← eud]
        refine JC (σ':=[some (.ref sc),some (.ref p),some (.ref ld),some (.ref lc),some (.str (tx ud)),none,none,none,none]) rfl ?_
        exact rest ud H13 ⟨((((s8.trans s9).trans s10).trans s11).trans s12).trans s13,_,_,_,eud,S1.w,List.length_map _,Atd sw,S2.w,dl2⟩
      case ff=>exact fun _=>rest uw H6 ⟨.refl _,u0,us,u2,euw,W0,ul,Ws,W2,dl⟩
    rintro uw' H7 ⟨s7,v0,vs,v2,Axq,V0,vl,Vs,V2,vdl⟩
    have u7:=u6.trans s7
    have Ays:=(s6.trans s7) _ _ Ayr
    have Ayt:=(s6.trans s7) _ _ hlc
    clear W0 ul Ws W2 dl euw
    rw [Axq]
    refine ⟨_,rfl,v0,vs,v2,th,tss,tr,rfl,V0,vl,Vs,V2,F,vdl,fun d dx a b c qs H8 s8 D=>?_⟩
    rw [← Axq]
    refine JC (σ':=[some (.ref sc),some (.ref p),some (.ref ld),some (.ref lc),some (.str (tx uw')),some (.ref d),none,none,none]) rfl ?_
    have Ayu:=s8 _ _ Ays
    have Ayv:=s8 _ _ Ayt
    refine ⟨_,rfl,d,dx,a,b,c,qs,th,tss,tr,rfl,D,F,fun lw H9 s9 nlw hlw=>?_⟩
    rw [← ecl] at hlw
    have Awi:=s9 _ _ Ayu
    refine ⟨_,rfl,lw,ld,cl,rfl,hlw,SqL.of Awi,by omega,_,rfl,?_⟩
    refine Jc ?_
    refine ⟨_,rfl,_,_,rfl,.inl (SqL.of Awi),fun lh nlh=>?_⟩
    have s10:Ax H9 (upd H9 lh (.lst (vS cl))):=.upd nlh
    have hlh:(upd H9 lh (.lst (vS cl))) lh=some (.lst (vS cl)):=Ah
    generalize upd H9 lh (.lst (vS cl))=H10 at s10 hlh ⊢
    refine JC (σ':=[some (.ref sc),some (.ref p),some (.ref ld),some (.ref lc),some (.str (tx uw')),some (.ref d),some (.ref lh),none,none]) rfl ?_
    refine ⟨_,rfl,lh,cl,th.length,tr.length,rfl,SqL.of hlh,C,fun d2 dx2 a2 b2 c2 qs2 Aor H11 s11 _ L2 F2 D2=>?_⟩
    refine JC (σ':=[some (.ref sc),some (.ref p),some (.ref ld),some (.ref lc),some (.str (tx uw')),some (.ref d),some (.ref lh),some (.ref d2),none]) rfl ?_
    have wl:=An9 C L2.l fun j u ks h1 h2=>(L2.r j u ks h1 h2).2
    have AuQ:=s11 _ _ hlh
    have Ate:=s11 _ _ (s10 _ _ Awi)
    have Axr:=s11 _ _ (s10 _ _ (s9 _ _ Ayv))
    have D11:=D.same ((s9.trans s10).trans s11)
    refine ⟨_,rfl,_,rfl,_,_,_,_,rfl,rfl,SqL.of AuQ,SqL.of Ate,Aie _,Aie _,_,rfl,?_⟩
    rw [AdX (Aie _)]
    refine Jc ?_
    refine ⟨_,rfl,_,_,true,T.Ass.ty T.Bq.c D2.o,.inr ⟨_,rfl,if_pos (beq_self_eq_true _)⟩,_,rfl,?_⟩
    refine Jc ?_
    refine ⟨_,rfl,_,rfl,_,rfl,d2,dx2,a2,b2,c2,ld,lc,qs2,cl,th.length,tr.length,Aor,rfl,D2,SqL.of Ate,SqL.of Axr,C,L2,fun H12 s12=>?_⟩
    refine ⟨_,rfl,?_⟩
    refine Jc ?_
    have E2:=D2.same s12
    refine ⟨_,rfl,_,_,_,_,_,rfl,E2.o,T.Bq.c,T.Bb,Aa4 a2 b2 c2,_,rfl,_,_,_,_,_,rfl,E2.o,T.Bq.c,T.BJ,Ac4 a2 b2 c2,_,rfl,_,_,_,_,_,rfl,E2.o,T.Bq.c,T.Bj,Aa5 a2 b2 c2,a2,b2,c2,qs2,_,Aor,_,rfl,E2.ha,E2.hb,E2.hc,F2,fun lv H13 s13 nlv hlv=>?_⟩
    rw [wl] at hlv
    have AuR:=s13 _ _ (s12 _ _ Ate)
    refine ⟨_,rfl,lv,ld,cl,rfl,hlv,SqL.of AuR,by omega,_,rfl,?_⟩
    refine Jc ?_
    have D13:=D11.same (s12.trans s13)
    have E13:=E2.same s13
    refine ⟨_,rfl,_,_,_,_,_,rfl,D13.o,T.Bq.c,T.Bb,Aa4 a b c,a,th,rfl,SqL.of D13.ha,m40,fun H14 s14=>?_⟩
    have E14:=E13.same s14
    refine ⟨_,rfl,_,_,_,_,_,rfl,E14.o,T.Bq.c,T.Bb,Aa4 a2 b2 c2,a2,cols cl th.length,rfl,SqL.of E14.ha,_,_,rfl,rfl,_,rfl,?_⟩
    refine Gi (by omega) ?_
    have D14:=D13.same s14
    refine ⟨_,rfl,_,_,_,_,_,rfl,D14.o,T.Bq.c,T.Bj,Aa5 a b c,c,tr,rfl,SqL.of D14.hc,n40,fun H15 s15=>?_⟩
    have E15:=E14.same s15
    refine ⟨_,rfl,_,_,_,_,_,rfl,E15.o,T.Bq.c,T.Bj,Aa5 a2 b2 c2,c2,cl,rfl,SqL.of E15.hc,_,_,rfl,rfl,_,rfl,?_⟩
    refine Gi (by omega) ?_
    refine ⟨_,rfl,d2,dx2,a2,b2,c2,qs2,_,Aor,_,rfl,E15,F2,fun H16 s16 S1 sw S2=>?_⟩
    have swl:∀ u∈Aor.map shI,u.length≤400:=fun u hu=>by
      obtain ⟨ks',hk,rfl⟩:=List.mem_map.mp hu
      have:=(sw ks' hk).l
      omega
    have l1:=S1.l
    have l2:=S2.l
    have f40:=F2.t40
    have dl2:=Aqq (a:=shI (nts (num (cols cl th.length)))) (c:=shI (nts (num cl))) (bs:=Aor.map shI) (by omega) (by omega) (by rw [List.length_map]; exact f40) swl
    refine ⟨_,Aor.map shI,_,_,Aor,_,rfl,S1.w,List.length_map _,Atd sw,S2.w,F2,dl2,fun d3 dx3 a3 b3 c3 qs3 H17 s17 D3=>?_⟩
    refine JC (σ':=[some (.ref sc),some (.ref p),some (.ref ld),some (.ref lc),some (.str (tx uw')),some (.ref d),some (.ref lh),some (.ref d2),some (.ref d3)]) rfl ?_
    refine ⟨_,rfl,d3,dx3,a3,b3,c3,qs3,_,Aor,_,rfl,D3,F2,fun lq H18 s18 nlq hlq=>?_⟩
    rw [wl] at hlq
    have u18:=((s14.trans s15).trans (s16.trans s17)).trans s18
    have Axs:=u18 _ _ AuR
    refine ⟨_,rfl,lq,ld,cl,rfl,hlq,SqL.of Axs,by omega,_,rfl,?_⟩
    refine Jc ?_
    have Axt:=u18 _ _ (s13 _ _ (s12 _ _ AuQ))
    refine ⟨_,rfl,lh,cl,th.length,tr.length,rfl,SqL.of Axt,C,fun d4 dx4 a4 b4 c4 qs4 Ayw H19 s19 _ L4 F4 D4=>?_⟩
    have et:=L4.uniq L2
    subst et
    have E19:=(E13.same u18).same s19
    exact ⟨_,rfl,_,_,_,_,_,rfl,E19.o,T.Bq.c,T.Bb,Aa4 a2 b2 c2,_,rfl,_,_,_,_,_,rfl,E19.o,T.Bq.c,T.BJ,Ac4 a2 b2 c2,_,rfl,_,_,_,_,_,rfl,E19.o,T.Bq.c,T.Bj,Aa5 a2 b2 c2,d4,dx4,a4,b4,c4,a2,b2,c2,qs4,qs2,_,Ayw,_,rfl,D4,E19.ha,E19.hb,E19.hc,F4,k _⟩
end
theorem Awj {P:Program} {w:World} {K:PySem.W.Frag} {h:Heap} {mg:Str→Option Value} {fa:Addr} {J4:Addr} {Aos Ahq:Option Addr} {Aot:Array (Option Value)} {Aou Ahr Ahs Aht AaA Ahu:Value}
    {Dz:Addr} {Ae6 Ug:Option Addr} {Ae7:Array (Option Value)} {Ae8 Uh Ui Uj M8 Uk:Value}
    {Hf:Addr} {AkG Ac6:Option Addr} {AkH:Array (Option Value)} {AkI Ac7 Ac8 Ac9 Ww AcA:Value}
    {HW:Addr} {Am0 Ae9:Option Addr} {Am1:Array (Option Value)} {Am2 AeA AeB AeC YB AeD:Value}
    {Ua:Addr} {Atf Aov:Option Addr} {Atg:Array (Option Value)} {Ath Aow Aox Aoy Ajo Aoz:Value}
    {Gu:Addr} {Ajp AaB:Option Addr} {Ajq:Array (Option Value)} {Ajr AaC AaD AaE S5 AaF:Value}
    {Eo:Addr} {AgB Xx:Option Addr} {AgC:Array (Option Value)} {AgD Xy Xz X3 Oh X4:Value}
    {Ff:Addr} {Ajs AaG:Option Addr} {Ajt:Array (Option Value)} {Aju AaH AaI AaJ S6 AaK:Value}
    {Fg:Addr} {Ajv AaL:Option Addr} {Ajw:Array (Option Value)} {Ajx AaM AaN AaO S7 AaP:Value}
    {HX:Addr} {Am3 AeE:Option Addr} {Am4:Array (Option Value)} {Am5 AeF AeG AeH YC AeI:Value}
    {DG:Addr} {AeJ Ul:Option Addr} {AeK:Array (Option Value)} {AeL Um Uo Up M9 Uq:Value}
    {HY:Addr} {Am6 AeM:Option Addr} {Am7:Array (Option Value)} {Am8 AeN AeO AeP YD AeQ:Value}
    {Gv:Addr} {Ajy AaQ:Option Addr} {Ajz:Array (Option Value)} {Aj0 AaR AaS AaT S8 AaU:Value}
    {Qv:Addr} {Arn Aly:Option Addr} {Aro:Array (Option Value)} {Arp Alz Al0 Al1 AgE Al2:Value}
    {Ia:Addr} {Am9 AeR:Option Addr} {AmA:Array (Option Value)} {AmB AeS AeT AeU YF AeV:Value}
    {Ik:Addr} {Ao0 Ahv:Option Addr} {Ao1:Array (Option Value)} {Ao2 Ahw Ahx Ahy AaV Ahz:Value}
    {OJ:Addr} {Ati Ao3:Option Addr} {Atj:Array (Option Value)} {Atk Ao4 Ao5 Ao6 Aj1 Ao7:Value}
    {Fi:Addr} {AkJ AcB:Option Addr} {AkK:Array (Option Value)} {AkL AcC AcD AcE Wx AcF:Value}
    {Ef:Addr} {Aj2 AaW:Option Addr} {Aj3:Array (Option Value)} {Aj4 AaX AaY AaZ S9 Aba:Value}
    {Ep:Addr} {AgF X5:Option Addr} {AgG:Array (Option Value)} {AgH X6 X7 X8 Oi XC:Value}
    {J5:Addr} {Ao8 Ah0:Option Addr} {Ao9:Array (Option Value)} {AoA Ah1 Ah2 Ah3 Abb Ah4:Value}
    {Fj:Addr} {AkM AcG:Option Addr} {AkN:Array (Option Value)} {AkO AcH AcI AcJ Wy AcK:Value}
    {Ib:Addr} {AmC AeW:Option Addr} {AmD:Array (Option Value)} {AmE AeX AeY AeZ YG Afa:Value}
    {Gh:Addr} {AkP AcL:Option Addr} {AkQ:Array (Option Value)} {AkR AcM AcN AcO Wz AcP:Value}
    {Ie:Addr} {AmF Afb:Option Addr} {AmG:Array (Option Value)} {AmH Afc Afd Afe YH Afg:Value}
    {Fl:Addr} {Aj5 Abd:Option Addr} {Aj6:Array (Option Value)} {Aj7 Abe Abf Abg SJ Abh:Value}
    {Qw:Addr} {Arq Al3:Option Addr} {Ars:Array (Option Value)} {Art Al4 Al5 Al6 AgI Al7:Value}
    {FJ:Addr} {AhH Z0:Option Addr} {AhI:Array (Option Value)} {AhJ Z1 Z2 Z3 QG Z4:Value}
    {LQ:Addr} {Apz Aj8:Option Addr} {Ap0:Array (Option Value)} {Ap1 Aj9 AjA AjB Ady AjC:Value}
    {Er:Addr} {AgJ XD:Option Addr} {AgK:Array (Option Value)} {AgL XF XH XJ Oj XM:Value}
    {Hg:Addr} {AkS AcQ:Option Addr} {AkT:Array (Option Value)} {AkU AcR AcS AcT W3 AcU:Value}
    {Gw:Addr} {AjD Abi:Option Addr} {AjE:Array (Option Value)} {AjF Abj Abk Abl SM Abm:Value}
    {Hh:Addr} {AkV AcV:Option Addr} {AkW:Array (Option Value)} {AkX AcW AcX AcY W4 AcZ:Value}
    {FN:Addr} {AhK Z6:Option Addr} {AhL:Array (Option Value)} {AhM Z7 Z8 Z9 QH ZC:Value}
    {FP:Addr} {AhN ZD:Option Addr} {AhO:Array (Option Value)} {AhP ZF ZG ZJ QJ ZK:Value}
    {CJ:Addr} {Acs Rc:Option Addr} {Acu:Array (Option Value)} {Acv Rf Rg Rh Kv Ri:Value}
    {DK:Addr} {Afh Ur:Option Addr} {Afi:Array (Option Value)} {Afj Us Ut Uu MF Uv:Value}
    {DN:Addr} {Afk Uw:Option Addr} {Afl:Array (Option Value)} {Afm Ux Uy Uz MJ U0:Value}
    {LR:Addr} {Ap2 AjG:Option Addr} {Ap3:Array (Option Value)} {Ap4 AjH AjI AjJ Adz AjK:Value}
    {Gx:Addr} {AjL Abn:Option Addr} {AjM:Array (Option Value)} {AjN Abo Abp Abq SN Abr:Value}
    {Fo:Addr} {AjO Abs:Option Addr} {AjP:Array (Option Value)} {AjQ Abt Abu Abv SQ Abw:Value}
    {Ig:Addr} {AmI Afn:Option Addr} {AmJ:Array (Option Value)} {AmK Afo Afp Afq YJ Afr:Value}
    {DP:Addr} {Afs U3:Option Addr} {Afu:Array (Option Value)} {Afv U4 U5 U6 MK U7:Value}
    {Ih:Addr} {AmL Afw:Option Addr} {AmM:Array (Option Value)} {AmN Afx Afy Afz YK Af0:Value}
    {Ii:Addr} {AmO Af1:Option Addr} {AmP:Array (Option Value)} {AmQ Af2 Af3 Af4 YL Af5:Value}
    {AiR:Addr} {Awk Atl:Option Addr} {Awl:Array (Option Value)} {Awm Atm Atn Ato Ap5 Atp:Value}
    {AjR:Tok}
    {AkY:Tok}
    {Aru:Tok}
    {AjS:Tok}
    {AoB:Tok}
    {AhQ:Tok}
    {AjT:Tok}
    {Am:Addr}
    {Bv:Addr}
    {Ay:Addr}
    {Bg:Addr}
    {Bh:Addr}
    {Dj:Addr} {Abx Qz:Option Addr} {Aby:Array (Option Value)} {Abz Q0 Q3 Q4 JD Q5:Value}
    {G8:Addr} {AhR ZL:Option Addr} {AhS:Array (Option Value)} {AhT ZM ZP ZQ QK ZR:Value}
    {Em:Addr} {Ad0 SX:Option Addr} {Ad1:Array (Option Value)} {Ad2 Tc Td Te Lx Tf:Value}
    {Ew:Addr} {Af6 U8:Option Addr} {Af7:Array (Option Value)} {Af8 U9 UG UJ MN UL:Value}
    {Ex:Addr} {Af9 UT:Option Addr} {AfA:Array (Option Value)} {AfB UW Va Vb MP Vc:Value}
    {BZ:Addr}
    {Al:Addr}
    {Eu:Addr}
    {Bx:Addr}
    {Bw:Addr} {AfC Vd:Option Addr} {AfD:Array (Option Value)} {AfE Ve Vf Vg MT Vh:Value}
    {Ca:Addr} {Ad3 Tg:Option Addr} {Ad4:Array (Option Value)} {Ad5 Th Ti Tj Lz Tn:Value}
    {Du:Addr} {AhU ZS:Option Addr} {AhV:Array (Option Value)} {AhW ZV ZW ZX QL ZZ:Value}
    {CZ:Addr} {AjU Ab0:Option Addr} {AjV:Array (Option Value)} {AjW Ab1 Ab2 Ab3 Tp Ab4:Value}
    {Dh:Addr} {AfF Vi:Option Addr} {AfG:Array (Option Value)} {AfH Vj Vk Vl Nb Vm:Value}
    {Dy:Addr} {AgM XN:Option Addr} {AgN:Array (Option Value)} {AgO XQ XR XS Ol XX:Value}
    {Dc:Addr} {AgP Yb:Option Addr} {AgQ:Array (Option Value)} {AgR Yc Yd Ye Om Yg:Value}
    {Hd:Addr} {AmR AfI:Option Addr} {AmS:Array (Option Value)} {AmT AfJ AfK AfL YM AfM:Value}
    {El:Addr} {AhX Aaa:Option Addr} {AhY:Array (Option Value)} {AhZ Aab Aac Aad QM Aae:Value}
    {Cv:Addr} {AfN Vn:Option Addr} {AfO:Array (Option Value)} {AfP Vo Vp Vq Nf Vr:Value}
    {Fe:Addr} {AkZ Ada:Option Addr} {Ala:Array (Option Value)} {Alb Adb Adc Ade W5 Adf:Value}
    {Dd:Addr} {AgS Yh:Option Addr} {AgT:Array (Option Value)} {AgU Yi Yj Yk Oo Yl:Value}
    (X:K.In h) (G:h.Ns mainGlobals mg) (hfa:mg "law" = some (.ref fa))
    (Ad6:PySem.W.nsIn K mainGlobals "measured" = some (some (.ref J4)))
    (YQ:K.lookup J4=some ⟨Aou,Aos,.func (PySem.W.fnOf "measured" "measured" (Ag Hr) (Af Hr) (Ab Hr) .none Ahr Ahs Aht Ahq AaA Ahu),Aot⟩)
    (YS:PySem.W.codeIn K AaA "measured" = true)
    (YT:PySem.W.keepIn K (.ref J4)=true)
    (Oq:PySem.W.nsIn K mainGlobals "measured_texts" = some (some (.ref Dz)))
    (JN:K.lookup Dz=some ⟨Ae8,Ae6,.func (PySem.W.fnOf "measured_texts" "measured_texts" (Ag Ck) (Af Ck) (Ab Ck) .none Uh Ui Uj Ug M8 Uk),Ae7⟩)
    (JP:PySem.W.codeIn K M8 "measured_texts" = true)
    (JQ:PySem.W.keepIn K (.ref Dz)=true)
    (YW:PySem.W.nsIn K mainGlobals "check_pick" = some (some (.ref Hf)))
    (Rx:K.lookup Hf=some ⟨AkI,AkG,.func (PySem.W.fnOf "check_pick" "check_pick" (Ag Ey) (Af Ey) (Ab Ey) .none Ac7 Ac8 Ac9 Ac6 Ww AcA),AkH⟩)
    (Ry:PySem.W.codeIn K Ww "check_pick" = true)
    (Rz:PySem.W.keepIn K (.ref Hf)=true)
    (Ab5:PySem.W.nsIn K mainGlobals "end_signs" = some (some (.ref HW)))
    (Vt:K.lookup HW=some ⟨Am2,Am0,.func (PySem.W.fnOf "end_signs" "end_signs" (Ag Fy) (Af Fy) (Ab Fy) .none AeA AeB AeC Ae9 YB AeD),Am1⟩)
    (Vu:PySem.W.codeIn K YB "end_signs" = true)
    (Vv:PySem.W.keepIn K (.ref HW)=true)
    (AmU:PySem.W.nsIn K mainGlobals "woven" = some (some (.ref Ua)))
    (Aii:K.lookup Ua=some ⟨Ath,Atf,.func (PySem.W.fnOf "woven" "woven" (Ag Mq) (Af Mq) (Ab Mq) .none Aow Aox Aoy Aov Ajo Aoz),Atg⟩)
    (Aij:PySem.W.codeIn K Ajo "woven" = true)
    (Aik:PySem.W.keepIn K (.ref Ua)=true)
    (W6:PySem.W.nsIn K mainGlobals "least_draft" = some (some (.ref Gu)))
    (Pq:K.lookup Gu=some ⟨Ajr,Ajp,.func (PySem.W.fnOf "least_draft" "least_draft" (Ag BW) (Af BW) (Ab BW) .none AaC AaD AaE AaB S5 AaF),Ajq⟩)
    (Pr:PySem.W.codeIn K S5 "least_draft" = true)
    (Pu:PySem.W.keepIn K (.ref Gu)=true)
    (QQ:PySem.W.nsIn K mainGlobals "check_setting" = some (some (.ref Eo)))
    (KR:K.lookup Eo=some ⟨AgD,AgB,.func (PySem.W.fnOf "check_setting" "check_setting" (Ag CK) (Af CK) (Ab CK) .none Xy Xz X3 Xx Oh X4),AgC⟩)
    (KY:PySem.W.codeIn K Oh "check_setting" = true)
    (KZ:PySem.W.keepIn K (.ref Eo)=true)
    (W7:PySem.W.nsIn K mainGlobals "check_count" = some (some (.ref Ff)))
    (Px:K.lookup Ff=some ⟨Aju,Ajs,.func (PySem.W.fnOf "check_count" "check_count" (Ag DW) (Af DW) (Ab DW) .none AaH AaI AaJ AaG S6 AaK),Ajt⟩)
    (Py:PySem.W.codeIn K S6 "check_count" = true)
    (Pz:PySem.W.keepIn K (.ref Ff)=true)
    (W8:PySem.W.nsIn K mainGlobals "check_shaft" = some (some (.ref Fg)))
    (P0:K.lookup Fg=some ⟨Ajx,Ajv,.func (PySem.W.fnOf "check_shaft" "check_shaft" (Ag DX) (Af DX) (Ab DX) .none AaM AaN AaO AaL S7 AaP),Ajw⟩)
    (PB:PySem.W.codeIn K S7 "check_shaft" = true)
    (PJ:PySem.W.keepIn K (.ref Fg)=true)
    (Ab6:PySem.W.nsIn K mainGlobals "check_tie" = some (some (.ref HX)))
    (Vw:K.lookup HX=some ⟨Am5,Am3,.func (PySem.W.fnOf "check_tie" "check_tie" (Ag Gj) (Af Gj) (Ab Gj) .none AeF AeG AeH AeE YC AeI),Am4⟩)
    (Vx:PySem.W.codeIn K YC "check_tie" = true)
    (Vy:PySem.W.keepIn K (.ref HX)=true)
    (Ot:PySem.W.nsIn K mainGlobals "check_treading" = some (some (.ref DG)))
    (JR:K.lookup DG=some ⟨AeL,AeJ,.func (PySem.W.fnOf "check_treading" "check_treading" (Ag Cm) (Af Cm) (Ab Cm) .none Um Uo Up Ul M9 Uq),AeK⟩)
    (JS:PySem.W.codeIn K M9 "check_treading" = true)
    (JT:PySem.W.keepIn K (.ref DG)=true)
    (Ab7:PySem.W.nsIn K mainGlobals "shed_over" = some (some (.ref HY)))
    (Vz:K.lookup HY=some ⟨Am8,Am6,.func (PySem.W.fnOf "shed_over" "shed_over" (Ag Fz) (Af Fz) (Ab Fz) .none AeN AeO AeP AeM YD AeQ),Am7⟩)
    (V1:PySem.W.codeIn K YD "shed_over" = true)
    (V3:PySem.W.keepIn K (.ref HY)=true)
    (W9:PySem.W.nsIn K mainGlobals "shafts_over" = some (some (.ref Gv)))
    (PL:K.lookup Gv=some ⟨Aj0,Ajy,.func (PySem.W.fnOf "shafts_over" "shafts_over" (Ag Dm) (Af Dm) (Ab Dm) .none AaR AaS AaT AaQ S8 AaU),Ajz⟩)
    (PN:PySem.W.codeIn K S8 "shafts_over" = true)
    (PQ:PySem.W.keepIn K (.ref Gv)=true)
    (AjX:PySem.W.nsIn K mainGlobals "unlike" = some (some (.ref Qv)))
    (AfQ:K.lookup Qv=some ⟨Arp,Arn,.func (PySem.W.fnOf "unlike" "unlike" (Ag Ky) (Af Ky) (Ab Ky) .none Alz Al0 Al1 Aly AgE Al2),Aro⟩)
    (AfR:PySem.W.codeIn K AgE "unlike" = true)
    (AfS:PySem.W.keepIn K (.ref Qv)=true)
    (Ab8:PySem.W.nsIn K mainGlobals "number_of" = some (some (.ref Ia)))
    (V4:K.lookup Ia=some ⟨AmB,Am9,.func (PySem.W.fnOf "number_of" "number_of" (Ag Gk) (Af Gk) (Ab Gk) .none AeS AeT AeU AeR YF AeV),AmA⟩)
    (V5:PySem.W.codeIn K YF "number_of" = true)
    (V6:PySem.W.keepIn K (.ref Ia)=true)
    (Ad7:PySem.W.nsIn K mainGlobals "unfolded" = some (some (.ref Ik)))
    (YX:K.lookup Ik=some ⟨Ao2,Ao0,.func (PySem.W.fnOf "unfolded" "unfolded" (Ag Hs) (Af Hs) (Ab Hs) .none Ahw Ahx Ahy Ahv AaV Ahz),Ao1⟩)
    (YZ:PySem.W.codeIn K AaV "unfolded" = true)
    (Za:PySem.W.keepIn K (.ref Ik)=true)
    (AmV:PySem.W.nsIn K mainGlobals "shown" = some (some (.ref OJ)))
    (Ail:K.lookup OJ=some ⟨Atk,Ati,.func (PySem.W.fnOf "shown" "shown" (Ag Mr) (Af Mr) (Ab Mr) .none Ao4 Ao5 Ao6 Ao3 Aj1 Ao7),Atj⟩)
    (Aim:PySem.W.codeIn K Aj1 "shown" = true)
    (Ain:PySem.W.keepIn K (.ref OJ)=true)
    (Zb:PySem.W.nsIn K mainGlobals "whole_size" = some (some (.ref Fi)))
    (R0:K.lookup Fi=some ⟨AkL,AkJ,.func (PySem.W.fnOf "whole_size" "whole_size" (Ag Ei) (Af Ei) (Ab Ei) .none AcC AcD AcE AcB Wx AcF),AkK⟩)
    (R3:PySem.W.codeIn K Wx "whole_size" = true)
    (R4:PySem.W.keepIn K (.ref Fi)=true)
    (WD:PySem.W.nsIn K mainGlobals "all_numbers" = some (some (.ref Ef)))
    (PX:K.lookup Ef=some ⟨Aj4,Aj2,.func (PySem.W.fnOf "all_numbers" "all_numbers" (Ag DY) (Af DY) (Ab DY) .none AaX AaY AaZ AaW S9 Aba),Aj3⟩)
    (Qa:PySem.W.codeIn K S9 "all_numbers" = true)
    (Qc:PySem.W.keepIn K (.ref Ef)=true)
    (QR:PySem.W.nsIn K mainGlobals "steps_between" = some (some (.ref Ep)))
    (La:K.lookup Ep=some ⟨AgH,AgF,.func (PySem.W.fnOf "steps_between" "steps_between" (Ag CP) (Af CP) (Ab CP) .none X6 X7 X8 X5 Oi XC),AgG⟩)
    (Lb:PySem.W.codeIn K Oi "steps_between" = true)
    (Ld:PySem.W.keepIn K (.ref Ep)=true)
    (Ad8:PySem.W.nsIn K mainGlobals "read_row" = some (some (.ref J5)))
    (Zc:K.lookup J5=some ⟨AoA,Ao8,.func (PySem.W.fnOf "read_row" "read_row" (Ag Ht) (Af Ht) (Ab Ht) .none Ah1 Ah2 Ah3 Ah0 Abb Ah4),Ao9⟩)
    (Zd:PySem.W.codeIn K Abb "read_row" = true)
    (Ze:PySem.W.keepIn K (.ref J5)=true)
    (Zf:PySem.W.nsIn K mainGlobals "read_items" = some (some (.ref Fj)))
    (R5:K.lookup Fj=some ⟨AkO,AkM,.func (PySem.W.fnOf "read_items" "read_items" (Ag Ez) (Af Ez) (Ab Ez) .none AcH AcI AcJ AcG Wy AcK),AkN⟩)
    (R6:PySem.W.codeIn K Wy "read_items" = true)
    (R7:PySem.W.keepIn K (.ref Fj)=true)
    (Ab9:PySem.W.nsIn K mainGlobals "read_item" = some (some (.ref Ib)))
    (V7:K.lookup Ib=some ⟨AmE,AmC,.func (PySem.W.fnOf "read_item" "read_item" (Ag Gm) (Af Gm) (Ab Gm) .none AeX AeY AeZ AeW YG Afa),AmD⟩)
    (V8:PySem.W.codeIn K YG "read_item" = true)
    (V9:PySem.W.keepIn K (.ref Ib)=true)
    (Zg:PySem.W.nsIn K mainGlobals "read_times" = some (some (.ref Gh)))
    (R8:K.lookup Gh=some ⟨AkR,AkP,.func (PySem.W.fnOf "read_times" "read_times" (Ag EY) (Af EY) (Ab EY) .none AcM AcN AcO AcL Wz AcP),AkQ⟩)
    (R9:PySem.W.codeIn K Wz "read_times" = true)
    (RB:PySem.W.keepIn K (.ref Gh)=true)
    (AbA:PySem.W.nsIn K mainGlobals "read_path" = some (some (.ref Ie)))
    (VB:K.lookup Ie=some ⟨AmH,AmF,.func (PySem.W.fnOf "read_path" "read_path" (Ag Gn) (Af Gn) (Ab Gn) .none Afc Afd Afe Afb YH Afg),AmG⟩)
    (VD:PySem.W.codeIn K YH "read_path" = true)
    (VF:PySem.W.keepIn K (.ref Ie)=true)
    (WL:PySem.W.nsIn K mainGlobals "read_number" = some (some (.ref Fl)))
    (Qd:K.lookup Fl=some ⟨Aj7,Aj5,.func (PySem.W.fnOf "read_number" "read_number" (Ag Ea) (Af Ea) (Ab Ea) .none Abe Abf Abg Abd SJ Abh),Aj6⟩)
    (Qe:PySem.W.codeIn K SJ "read_number" = true)
    (Qf:PySem.W.keepIn K (.ref Fl)=true)
    (AjY:PySem.W.nsIn K mainGlobals "parted" = some (some (.ref Qw)))
    (AfT:K.lookup Qw=some ⟨Art,Arq,.func (PySem.W.fnOf "parted" "parted" (Ag Kz) (Af Kz) (Ab Kz) .none Al4 Al5 Al6 Al3 AgI Al7),Ars⟩)
    (AfU:PySem.W.codeIn K AgI "parted" = true)
    (AfV:PySem.W.keepIn K (.ref Qw)=true)
    (Tq:PySem.W.nsIn K mainGlobals "written_path" = some (some (.ref FJ)))
    (Ng:K.lookup FJ=some ⟨AhJ,AhH,.func (PySem.W.fnOf "written_path" "written_path" (Ag CG) (Af CG) (Ab CG) .none Z1 Z2 Z3 Z0 QG Z4),AhI⟩)
    (Nh:PySem.W.codeIn K QG "written_path" = true)
    (Ni:PySem.W.keepIn K (.ref FJ)=true)
    (AgV:PySem.W.nsIn K mainGlobals "is_stop" = some (some (.ref LQ)))
    (Aci:K.lookup LQ=some ⟨Ap1,Apz,.func (PySem.W.fnOf "is_stop" "is_stop" (Ag Jf) (Af Jf) (Ab Jf) .none Aj9 AjA AjB Aj8 Ady AjC),Ap0⟩)
    (Acj:PySem.W.codeIn K Ady "is_stop" = true)
    (Ack:PySem.W.keepIn K (.ref LQ)=true)
    (QS:PySem.W.nsIn K mainGlobals "written_draft" = some (some (.ref Er)))
    (Le:K.lookup Er=some ⟨AgL,AgJ,.func (PySem.W.fnOf "written_draft" "written_draft" (Ag Ci) (Af Ci) (Ab Ci) .none XF XH XJ XD Oj XM),AgK⟩)
    (Lf:PySem.W.codeIn K Oj "written_draft" = true)
    (Lg:PySem.W.keepIn K (.ref Er)=true)
    (Zh:PySem.W.nsIn K mainGlobals "read_draft" = some (some (.ref Hg)))
    (RC:K.lookup Hg=some ⟨AkU,AkS,.func (PySem.W.fnOf "read_draft" "read_draft" (Ag Ej) (Af Ej) (Ab Ej) .none AcR AcS AcT AcQ W3 AcU),AkT⟩)
    (RD:PySem.W.codeIn K W3 "read_draft" = true)
    (RG:PySem.W.keepIn K (.ref Hg)=true)
    (WM:PySem.W.nsIn K mainGlobals "_law_numbers" = some (some (.ref Gw)))
    (Qg:K.lookup Gw=some ⟨AjF,AjD,.func (PySem.W.fnOf "_law_numbers" "_law_numbers" (Ag Eb) (Af Eb) (Ab Eb) .none Abj Abk Abl Abi SM Abm),AjE⟩)
    (Qh:PySem.W.codeIn K SM "_law_numbers" = true)
    (Qi:PySem.W.keepIn K (.ref Gw)=true)
    (Zi:PySem.W.nsIn K mainGlobals "_law_subset" = some (some (.ref Hh)))
    (RJ:K.lookup Hh=some ⟨AkX,AkV,.func (PySem.W.fnOf "_law_subset" "_law_subset" (Ag Fb) (Af Fb) (Ab Fb) .none AcW AcX AcY AcV W4 AcZ),AkW⟩)
    (RK:PySem.W.codeIn K W4 "_law_subset" = true)
    (RL:PySem.W.keepIn K (.ref Hh)=true)
    (Tr:PySem.W.nsIn K mainGlobals "_law_draft_by" = some (some (.ref FN)))
    (Nj:K.lookup FN=some ⟨AhM,AhK,.func (PySem.W.fnOf "_law_draft_by" "_law_draft_by" (Ag BP) (Af BP) (Ab BP) .none Z7 Z8 Z9 Z6 QH ZC),AhL⟩)
    (Nk:PySem.W.codeIn K QH "_law_draft_by" = true)
    (Nm:PySem.W.keepIn K (.ref FN)=true)
    (Tt:PySem.W.nsIn K mainGlobals "_law_woven_by" = some (some (.ref FP)))
    (Np:K.lookup FP=some ⟨AhP,AhN,.func (PySem.W.fnOf "_law_woven_by" "_law_woven_by" (Ag Dp) (Af Dp) (Ab Dp) .none ZF ZG ZJ ZD QJ ZK),AhO⟩)
    (Nq:PySem.W.codeIn K QJ "_law_woven_by" = true)
    (Nr:PySem.W.keepIn K (.ref FP)=true)
    (LC:PySem.W.nsIn K mainGlobals "_law_numbers_same" = some (some (.ref CJ)))
    (Iw:K.lookup CJ=some ⟨Acv,Acs,.func (PySem.W.fnOf "_law_numbers_same" "_law_numbers_same" (Ag By) (Af By) (Ab By) .none Rf Rg Rh Rc Kv Ri),Acu⟩)
    (Iz:PySem.W.codeIn K Kv "_law_numbers_same" = true)
    (IK:PySem.W.keepIn K (.ref CJ)=true)
    (Ou:PySem.W.nsIn K mainGlobals "_law_draft_same" = some (some (.ref DK)))
    (JV:K.lookup DK=some ⟨Afj,Afh,.func (PySem.W.fnOf "_law_draft_same" "_law_draft_same" (Ag Cp) (Af Cp) (Ab Cp) .none Us Ut Uu Ur MF Uv),Afi⟩)
    (JW:PySem.W.codeIn K MF "_law_draft_same" = true)
    (JX:PySem.W.keepIn K (.ref DK)=true)
    (Ov:PySem.W.nsIn K mainGlobals "_law_texts_same" = some (some (.ref DN)))
    (JZ:K.lookup DN=some ⟨Afm,Afk,.func (PySem.W.fnOf "_law_texts_same" "_law_texts_same" (Ag Cq) (Af Cq) (Ab Cq) .none Ux Uy Uz Uw MJ U0),Afl⟩)
    (Ka:PySem.W.codeIn K MJ "_law_texts_same" = true)
    (Kc:PySem.W.keepIn K (.ref DN)=true)
    (AgW:PySem.W.nsIn K mainGlobals "_law_row" = some (some (.ref LR)))
    (Acl:K.lookup LR=some ⟨Ap4,Ap2,.func (PySem.W.fnOf "_law_row" "_law_row" (Ag HH) (Af HH) (Ab HH) .none AjH AjI AjJ AjG Adz AjK),Ap3⟩)
    (Acm:PySem.W.codeIn K Adz "_law_row" = true)
    (Acn:PySem.W.keepIn K (.ref LR)=true)
    (WN:PySem.W.nsIn K mainGlobals "_law_written" = some (some (.ref Gx)))
    (Qj:K.lookup Gx=some ⟨AjN,AjL,.func (PySem.W.fnOf "_law_written" "_law_written" (Ag Dq) (Af Dq) (Ab Dq) .none Abo Abp Abq Abn SN Abr),AjM⟩)
    (Qk:PySem.W.codeIn K SN "_law_written" = true)
    (Ql:PySem.W.keepIn K (.ref Gx)=true)
    (WQ:PySem.W.nsIn K mainGlobals "_law_counted" = some (some (.ref Fo)))
    (Qm:K.lookup Fo=some ⟨AjQ,AjO,.func (PySem.W.fnOf "_law_counted" "_law_counted" (Ag Ec) (Af Ec) (Ab Ec) .none Abt Abu Abv Abs SQ Abw),AjP⟩)
    (Qn:PySem.W.codeIn K SQ "_law_counted" = true)
    (Qo:PySem.W.keepIn K (.ref Fo)=true)
    (AbB:PySem.W.nsIn K mainGlobals "_law_kinds" = some (some (.ref Ig)))
    (VG:K.lookup Ig=some ⟨AmK,AmI,.func (PySem.W.fnOf "_law_kinds" "_law_kinds" (Ag Gp) (Af Gp) (Ab Gp) .none Afo Afp Afq Afn YJ Afr),AmJ⟩)
    (VH:PySem.W.codeIn K YJ "_law_kinds" = true)
    (VJ:PySem.W.keepIn K (.ref Ig)=true)
    (Ow:PySem.W.nsIn K mainGlobals "_law_told_apart" = some (some (.ref DP)))
    (Kd:K.lookup DP=some ⟨Afv,Afs,.func (PySem.W.fnOf "_law_told_apart" "_law_told_apart" (Ag BR) (Af BR) (Ab BR) .none U4 U5 U6 U3 MK U7),Afu⟩)
    (Ke:PySem.W.codeIn K MK "_law_told_apart" = true)
    (Kf:PySem.W.keepIn K (.ref DP)=true)
    (AbC:PySem.W.nsIn K mainGlobals "_law_lists" = some (some (.ref Ih)))
    (VL:K.lookup Ih=some ⟨AmN,AmL,.func (PySem.W.fnOf "_law_lists" "_law_lists" (Ag Gq) (Af Gq) (Ab Gq) .none Afx Afy Afz Afw YK Af0),AmM⟩)
    (VM:PySem.W.codeIn K YK "_law_lists" = true)
    (VN:PySem.W.keepIn K (.ref Ih)=true)
    (AbD:PySem.W.nsIn K mainGlobals "_law_least" = some (some (.ref Ii)))
    (VP:K.lookup Ii=some ⟨AmQ,AmO,.func (PySem.W.fnOf "_law_least" "_law_least" (Ag Gr) (Af Gr) (Ab Gr) .none Af2 Af3 Af4 Af1 YL Af5),AmP⟩)
    (VR:PySem.W.codeIn K YL "_law_least" = true)
    (VV:PySem.W.keepIn K (.ref Ii)=true)
    (Aqs:PySem.W.nsIn K mainGlobals "law" = some (some (.ref AiR)))
    (Aqt:K.lookup AiR=some ⟨Awm,Awk,.func (PySem.W.fnOf "law" "law" (Ag Xq) (Af Xq) (Ab Xq) .none Atm Atn Ato Atl Ap5 Atp),Awl⟩)
    (Aqu:PySem.W.codeIn K Ap5 "law" = true)
    (Aqv:PySem.W.keepIn K (.ref AiR)=true)
    (Atq:PySem.W.nsIn K mainGlobals "abs" = some none)
    (Ap6:PySem.W.nsIn K mainGlobals "bool" = some none)
    (Atr:PySem.W.nsIn K mainGlobals "int" = some none)
    (Zj:PySem.W.nsIn K mainGlobals "isinstance" = some none)
    (Ats:PySem.W.nsIn K mainGlobals "len" = some none)
    (Ap7:PySem.W.nsIn K mainGlobals "list" = some none)
    (Atu:PySem.W.nsIn K mainGlobals "max" = some none)
    (AmW:PySem.W.nsIn K mainGlobals "range" = some none)
    (Atv:PySem.W.nsIn K mainGlobals "set" = some none)
    (AjZ:PySem.W.nsIn K mainGlobals "sorted" = some none)
    (Atw:PySem.W.nsIn K mainGlobals "str" = some none)
    (Atx:PySem.W.nsIn K mainGlobals "sum" = some none)
    (Aty:PySem.W.nsIn K mainGlobals "zip" = some none)
    (Tu:PySem.W.nsIn K mainGlobals "MOST_STRANDS" = some (some (.int 40 AjR)))
    (WR:PySem.W.nsIn K mainGlobals "MOST_SHAFTS" = some (some (.int 40 AkY)))
    (AgX:PySem.W.nsIn K mainGlobals "FIGURES" = some (some (.str "0123456789" Aru)))
    (Tv:PySem.W.nsIn K mainGlobals "MOST_NUMBERS" = some (some (.int 400 AjS)))
    (AbE:PySem.W.nsIn K mainGlobals "MOST_DEEP" = some (some (.int 8 AoB)))
    (QT:PySem.W.nsIn K mainGlobals "BETWEEN_PARTS" = some (some (.str " / " AhQ)))
    (Tw:PySem.W.nsIn K mainGlobals "BETWEEN_TIES" = some (some (.str ", " AjT)))
    (Zk:PySem.W.nsIn K mainGlobals "WeaveError" = some (some (.ref Am)))
    (AmX:PySem.W.nsIn K mainGlobals "NoRow" = some (some (.ref Bv)))
    (Ad9:PySem.W.nsIn K mainGlobals "TooLarge" = some (some (.ref Ay)))
    (AgY:PySem.W.nsIn K mainGlobals "NoCloth" = some (some (.ref Bg)))
    (AgZ:PySem.W.nsIn K mainGlobals "NoDraft" = some (some (.ref Bh)))
    (WT:PySem.W.excIn K Am vE vN=true)
    (WW:PySem.W.findIn K (.ref Am) "__getattribute__" = some (some (.builtin "BaseException.__getattribute__")))
    (WY:PySem.W.findIn K (.ref Am) "__getattr__" = some none)
    (Xa:PySem.W.findIn K (.ref Am) "__class__" = some (some (.builtin "object.__class__")))
    (Hw:PySem.W.specialIn K (.builtin "object.__class__") "__get__" = some (some (.builtin "getset_descriptor.__get__")))
    (Hx:PySem.W.takesIn K (.builtin "object.__class__")=some true)
    (Xb:PySem.W.mroIn K Am (.type "object")=some true)
    (Xc:PySem.W.mroIn K Am (.type "BaseException")=some true)
    (Xd:PySem.W.isClsIn K Am=true)
    (Tz:PySem.W.typeIn K (.ref Am)=some (.type "type"))
    (T3:PySem.W.mroIn K Am (.type "ValueError")=some true)
    (FZ:PySem.W.mroIn K Am (.ref Am)=some true)
    (Im:PySem.W.mroIn K Am (.ref Bv)=some false)
    (GK:PySem.W.mroIn K Am (.ref Ay)=some false)
    (Hi:PySem.W.mroIn K Am (.ref Bg)=some false)
    (Hj:PySem.W.mroIn K Am (.ref Bh)=some false)
    (Aka:PySem.W.excIn K Bv vE vN=true)
    (Akb:PySem.W.findIn K (.ref Bv) "__getattribute__" = some (some (.builtin "BaseException.__getattribute__")))
    (Akc:PySem.W.findIn K (.ref Bv) "__getattr__" = some none)
    (Akd:PySem.W.findIn K (.ref Bv) "__class__" = some (some (.builtin "object.__class__")))
    (Ake:PySem.W.mroIn K Bv (.type "object")=some true)
    (Akf:PySem.W.mroIn K Bv (.type "BaseException")=some true)
    (Akg:PySem.W.isClsIn K Bv=true)
    (Aha:PySem.W.typeIn K (.ref Bv)=some (.type "type"))
    (Ahb:PySem.W.mroIn K Bv (.type "ValueError")=some true)
    (Io:PySem.W.mroIn K Bv (.ref Am)=some true)
    (Pk:PySem.W.mroIn K Bv (.ref Bv)=some true)
    (JG:PySem.W.mroIn K Bv (.ref Ay)=some false)
    (KC:PySem.W.mroIn K Bv (.ref Bg)=some false)
    (KD:PySem.W.mroIn K Bv (.ref Bh)=some false)
    (AbF:PySem.W.excIn K Ay vE vN=true)
    (AbG:PySem.W.findIn K (.ref Ay) "__getattribute__" = some (some (.builtin "BaseException.__getattribute__")))
    (AbH:PySem.W.findIn K (.ref Ay) "__getattr__" = some none)
    (AbI:PySem.W.findIn K (.ref Ay) "__class__" = some (some (.builtin "object.__class__")))
    (AbJ:PySem.W.mroIn K Ay (.type "object")=some true)
    (AbK:PySem.W.mroIn K Ay (.type "BaseException")=some true)
    (AbL:PySem.W.isClsIn K Ay=true)
    (Zm:PySem.W.typeIn K (.ref Ay)=some (.type "type"))
    (Zn:PySem.W.mroIn K Ay (.type "ValueError")=some true)
    (GP:PySem.W.mroIn K Ay (.ref Am)=some true)
    (JH:PySem.W.mroIn K Ay (.ref Bv)=some false)
    (HD:PySem.W.mroIn K Ay (.ref Ay)=some true)
    (Ip:PySem.W.mroIn K Ay (.ref Bg)=some false)
    (Ir:PySem.W.mroIn K Ay (.ref Bh)=some false)
    (AdA:PySem.W.excIn K Bg vE vN=true)
    (AdB:PySem.W.findIn K (.ref Bg) "__getattribute__" = some (some (.builtin "BaseException.__getattribute__")))
    (AdC:PySem.W.findIn K (.ref Bg) "__getattr__" = some none)
    (AdD:PySem.W.findIn K (.ref Bg) "__class__" = some (some (.builtin "object.__class__")))
    (AdE:PySem.W.mroIn K Bg (.type "object")=some true)
    (AdF:PySem.W.mroIn K Bg (.type "BaseException")=some true)
    (AdG:PySem.W.isClsIn K Bg=true)
    (AbM:PySem.W.typeIn K (.ref Bg)=some (.type "type"))
    (AbN:PySem.W.mroIn K Bg (.type "ValueError")=some true)
    (Hk:PySem.W.mroIn K Bg (.ref Am)=some true)
    (KH:PySem.W.mroIn K Bg (.ref Bv)=some false)
    (Iu:PySem.W.mroIn K Bg (.ref Ay)=some false)
    (Jl:PySem.W.mroIn K Bg (.ref Bg)=some true)
    (Jm:PySem.W.mroIn K Bg (.ref Bh)=some false)
    (AdH:PySem.W.excIn K Bh vE vN=true)
    (AdI:PySem.W.findIn K (.ref Bh) "__getattribute__" = some (some (.builtin "BaseException.__getattribute__")))
    (AdJ:PySem.W.findIn K (.ref Bh) "__getattr__" = some none)
    (AdK:PySem.W.findIn K (.ref Bh) "__class__" = some (some (.builtin "object.__class__")))
    (AdL:PySem.W.mroIn K Bh (.type "object")=some true)
    (AdM:PySem.W.mroIn K Bh (.type "BaseException")=some true)
    (AdN:PySem.W.isClsIn K Bh=true)
    (AbO:PySem.W.typeIn K (.ref Bh)=some (.type "type"))
    (AbP:PySem.W.mroIn K Bh (.type "ValueError")=some true)
    (Hl:PySem.W.mroIn K Bh (.ref Am)=some true)
    (KJ:PySem.W.mroIn K Bh (.ref Bv)=some false)
    (Iv:PySem.W.mroIn K Bh (.ref Ay)=some false)
    (Jo:PySem.W.mroIn K Bh (.ref Bg)=some false)
    (Jp:PySem.W.mroIn K Bh (.ref Bh)=some true)
    (Xe:PySem.W.findIn K (.ref Am) "called" = some (some (.ref Dj)))
    (Xf:PySem.W.isFn K (.ref Dj)=true)
    (Qp:K.lookup Dj=some ⟨Abz,Abx,.func (PySem.W.fnOf "called" "WeaveError.called" (Ag BK) (Af BK) (Ab BK) .none Q0 Q3 Q4 Qz JD Q5),Aby⟩)
    (Qq:PySem.W.codeIn K JD "WeaveError.called" = true)
    (K6:PySem.W.keepIn K (.ref Dj)=true)
    (Akh:PySem.W.findIn K (.ref Bv) "called" = some (some (.ref G8)))
    (Aki:PySem.W.isFn K (.ref G8)=true)
    (AfW:K.lookup G8=some ⟨AhT,AhR,.func (PySem.W.fnOf "called" "NoRow.called" (Ag Ek) (Af Ek) (Ab Ek) .none ZM ZP ZQ ZL QK ZR),AhS⟩)
    (AfX:PySem.W.codeIn K QK "NoRow.called" = true)
    (AbQ:PySem.W.keepIn K (.ref G8)=true)
    (AbR:PySem.W.findIn K (.ref Ay) "called" = some (some (.ref Em)))
    (AbS:PySem.W.isFn K (.ref Em)=true)
    (Wb:K.lookup Em=some ⟨Ad2,Ad0,.func (PySem.W.fnOf "called" "TooLarge.called" (Ag Cy) (Af Cy) (Ab Cy) .none Tc Td Te SX Lx Tf),Ad1⟩)
    (Wd:PySem.W.codeIn K Lx "TooLarge.called" = true)
    (Q6:PySem.W.keepIn K (.ref Em)=true)
    (AdO:PySem.W.findIn K (.ref Bg) "called" = some (some (.ref Ew)))
    (AdP:PySem.W.isFn K (.ref Ew)=true)
    (Zo:K.lookup Ew=some ⟨Af8,Af6,.func (PySem.W.fnOf "called" "NoCloth.called" (Ag De) (Af De) (Ab De) .none U9 UG UJ U8 MN UL),Af7⟩)
    (Zq:PySem.W.codeIn K MN "NoCloth.called" = true)
    (T4:PySem.W.keepIn K (.ref Ew)=true)
    (AdQ:PySem.W.findIn K (.ref Bh) "called" = some (some (.ref Ex)))
    (AdR:PySem.W.isFn K (.ref Ex)=true)
    (Zr:K.lookup Ex=some ⟨AfB,Af9,.func (PySem.W.fnOf "called" "NoDraft.called" (Ag Dg) (Af Dg) (Ab Dg) .none UW Va Vb UT MP Vc),AfA⟩)
    (Zt:PySem.W.codeIn K MP "NoDraft.called" = true)
    (T5:PySem.W.keepIn K (.ref Ex)=true)
    (AmY:PySem.W.nsIn K mainGlobals "Draft" = some (some (.ref BZ)))
    (Akj:PySem.W.nsIn K mainGlobals "Reader" = some (some (.ref Al)))
    (Ap8:PySem.W.nsIn K mainGlobals "Path" = some (some (.ref Eu)))
    (AmZ:PySem.W.nsIn K mainGlobals "Times" = some (some (.ref Bx)))
    (Jr:PySem.W.findIn K (.ref BZ) "__init__" = some (some (.ref Bw)))
    (Js:PySem.W.isFn K (.ref Bw)=true)
    (Jt:K.lookup Bw=some ⟨AfE,AfC,.func (PySem.W.fnOf "__init__" "Draft.__init__" (Ag BV) (Af BV) (Ab BV) .none Ve Vf Vg Vd MT Vh),AfD⟩)
    (Ju:PySem.W.codeIn K MT "Draft.__init__" = true)
    (Hm:PySem.W.keepIn K (.ref Bw)=true)
    (IV:PySem.W.findIn K (.ref Al) "__init__" = some (some (.ref Ca)))
    (IW:PySem.W.isFn K (.ref Ca)=true)
    (Ja:K.lookup Ca=some ⟨Ad5,Ad3,.func (PySem.W.fnOf "__init__" "Reader.__init__" (Ag BX) (Af BX) (Ab BX) .none Th Ti Tj Tg Lz Tn),Ad4⟩)
    (Jb:PySem.W.codeIn K Lz "Reader.__init__" = true)
    (GF:PySem.W.keepIn K (.ref Ca)=true)
    (QV:PySem.W.findIn K (.ref Al) "ended" = some (some (.ref Du)))
    (QW:PySem.W.isFn K (.ref Du)=true)
    (Lh:K.lookup Du=some ⟨AhW,AhU,.func (PySem.W.fnOf "ended" "Reader.ended" (Ag Dr) (Af Dr) (Ab Dr) .none ZV ZW ZX ZS QL ZZ),AhV⟩)
    (Li:PySem.W.codeIn K QL "Reader.ended" = true)
    (Jd:PySem.W.keepIn K (.ref Du)=true)
    (T6:PySem.W.findIn K (.ref Al) "took" = some (some (.ref CZ)))
    (T7:PySem.W.isFn K (.ref CZ)=true)
    (Nt:K.lookup CZ=some ⟨AjW,AjU,.func (PySem.W.fnOf "took" "Reader.took" (Ag Ed) (Af Ed) (Ab Ed) .none Ab1 Ab2 Ab3 Ab0 Tp Ab4),AjV⟩)
    (Nu:PySem.W.codeIn K Tp "Reader.took" = true)
    (JF:PySem.W.keepIn K (.ref CZ)=true)
    (Nv:PySem.W.findIn K (.ref Al) "stretch" = some (some (.ref Dh)))
    (Nx:PySem.W.isFn K (.ref Dh)=true)
    (Jv:K.lookup Dh=some ⟨AfH,AfF,.func (PySem.W.fnOf "stretch" "Reader.stretch" (Ag Cr) (Af Cr) (Ab Cr) .none Vj Vk Vl Vi Nb Vm),AfG⟩)
    (Jw:PySem.W.codeIn K Nb "Reader.stretch" = true)
    (Hn:PySem.W.keepIn K (.ref Dh)=true)
    (Ox:PySem.W.findIn K (.ref Al) "number" = some (some (.ref Dy)))
    (Oz:PySem.W.isFn K (.ref Dy)=true)
    (Kg:K.lookup Dy=some ⟨AgO,AgM,.func (PySem.W.fnOf "number" "Reader.number" (Ag CT) (Af CT) (Ab CT) .none XQ XR XS XN Ol XX),AgN⟩)
    (Kh:PySem.W.codeIn K Ol "Reader.number" = true)
    (HQ:PySem.W.keepIn K (.ref Dy)=true)
    (Kl:PySem.W.findIn K (.ref Eu) "__init__" = some (some (.ref Dc)))
    (Km:PySem.W.isFn K (.ref Dc)=true)
    (Ko:K.lookup Dc=some ⟨AgR,AgP,.func (PySem.W.fnOf "__init__" "Path.__init__" (Ag CV) (Af CV) (Ab CV) .none Yc Yd Ye Yb Om Yg),AgQ⟩)
    (Kq:PySem.W.codeIn K Om "Path.__init__" = true)
    (HR:PySem.W.keepIn K (.ref Dc)=true)
    (Zu:PySem.W.findIn K (.ref Eu) "size" = some (some (.ref Hd)))
    (Zv:PySem.W.isFn K (.ref Hd)=true)
    (RM:K.lookup Hd=some ⟨AmT,AmR,.func (PySem.W.fnOf "size" "Path.size" (Ag Gs) (Af Gs) (Ab Gs) .none AfJ AfK AfL AfI YM AfM),AmS⟩)
    (RN:PySem.W.codeIn K YM "Path.size" = true)
    (Ny:PySem.W.keepIn K (.ref Hd)=true)
    (QX:PySem.W.findIn K (.ref Eu) "numbers" = some (some (.ref El)))
    (QZ:PySem.W.isFn K (.ref El)=true)
    (Lj:K.lookup El=some ⟨AhZ,AhX,.func (PySem.W.fnOf "numbers" "Path.numbers" (Ag Dt) (Af Dt) (Ab Dt) .none Aab Aac Aad Aaa QM Aae),AhY⟩)
    (Lk:PySem.W.codeIn K QM "Path.numbers" = true)
    (Je:PySem.W.keepIn K (.ref El)=true)
    (Jx:PySem.W.findIn K (.ref Bx) "__init__" = some (some (.ref Cv)))
    (Jy:PySem.W.isFn K (.ref Cv)=true)
    (Jz:K.lookup Cv=some ⟨AfP,AfN,.func (PySem.W.fnOf "__init__" "Times.__init__" (Ag Cu) (Af Cu) (Ab Cu) .none Vo Vp Vq Vn Nf Vr),AfO⟩)
    (J0:PySem.W.codeIn K Nf "Times.__init__" = true)
    (Ho:PySem.W.keepIn K (.ref Cv)=true)
    (Xg:PySem.W.findIn K (.ref Bx) "size" = some (some (.ref Fe)))
    (Xh:PySem.W.isFn K (.ref Fe)=true)
    (Qs:K.lookup Fe=some ⟨Alb,AkZ,.func (PySem.W.fnOf "size" "Times.size" (Ag Fd) (Af Fd) (Ab Fd) .none Adb Adc Ade Ada W5 Adf),Ala⟩)
    (Qt:PySem.W.codeIn K W5 "Times.size" = true)
    (K7:PySem.W.keepIn K (.ref Fe)=true)
    (O1:PySem.W.findIn K (.ref Bx) "numbers" = some (some (.ref Dd)))
    (O2:PySem.W.isFn K (.ref Dd)=true)
    (Kr:K.lookup Dd=some ⟨AgU,AgS,.func (PySem.W.fnOf "numbers" "Times.numbers" (Ag CW) (Af CW) (Ab CW) .none Yi Yj Yk Yh Oo Yl),AgT⟩)
    (Ks:PySem.W.codeIn K Oo "Times.numbers" = true)
    (HS:PySem.W.keepIn K (.ref Dd)=true)
    (Akk:PySem.W.plainGet K BZ Str.empty=true)
    (Akl:PySem.W.hasDictIn K BZ=true)
    (Akm:PySem.W.plainOver K BZ=true)
    (Akn:PySem.W.findIn K (.ref BZ) "__setattr__" = some (some (.builtin "object.__setattr__")))
    (Ako:PySem.W.makesIn K BZ=true)
    (Akp:PySem.W.keepIn K (.ref BZ)=true)
    (Bb:PySem.W.findIn K (.ref BZ) "threading" = some none)
    (BJ:PySem.W.findIn K (.ref BZ) "ties" = some none)
    (Bj:PySem.W.findIn K (.ref BZ) "treading" = some none)
    (Ahc:PySem.W.plainGet K Al Str.empty=true)
    (Ahd:PySem.W.hasDictIn K Al=true)
    (Ahe:PySem.W.plainOver K Al=true)
    (Ahf:PySem.W.findIn K (.ref Al) "__setattr__" = some (some (.builtin "object.__setattr__")))
    (Ahg:PySem.W.makesIn K Al=true)
    (Ahh:PySem.W.keepIn K (.ref Al)=true)
    (Dw:PySem.W.findIn K (.ref Al) "text" = some none)
    (Bs:PySem.W.findIn K (.ref Al) "place" = some none)
    (Ana:PySem.W.plainGet K Eu Str.empty=true)
    (Anb:PySem.W.hasDictIn K Eu=true)
    (Anc:PySem.W.plainOver K Eu=true)
    (Ane:PySem.W.findIn K (.ref Eu) "__setattr__" = some (some (.builtin "object.__setattr__")))
    (Anf:PySem.W.makesIn K Eu=true)
    (Ang:PySem.W.keepIn K (.ref Eu)=true)
    (Eg:PySem.W.findIn K (.ref Eu) "stops" = some none)
    (Akq:PySem.W.plainGet K Bx Str.empty=true)
    (Akr:PySem.W.hasDictIn K Bx=true)
    (Aks:PySem.W.plainOver K Bx=true)
    (Akt:PySem.W.findIn K (.ref Bx) "__setattr__" = some (some (.builtin "object.__setattr__")))
    (Aku:PySem.W.makesIn K Bx=true)
    (Akv:PySem.W.keepIn K (.ref Bx)=true)
    (GC:PySem.W.findIn K (.ref Bx) "count" = some none)
    (GD:PySem.W.findIn K (.ref Bx) "inner" = some none)
    (Akw:PySem.W.findIn K (.ref BZ) "__class__" = some (some (.builtin "object.__class__")))
    (Akx:PySem.W.specialIn K (.builtin "object.__class__") "__get__" = some (some (.builtin "getset_descriptor.__get__")))
    (Aky:PySem.W.takesIn K (.builtin "object.__class__")=some true)
    (Akz:PySem.W.mroIn K BZ (.type "object")=some true) :
    ∃ fd:FuncData,(∀ (s:Shared) (v:Value),BindsTo s fd ⟨[v],[]⟩ [("script", v)])∧∀ base:Heap,K.In base→base.Ns mainGlobals mg→Ar P w K mg base CX0 43 fa fd ["script"] (Amy K):=by
  have T:Txt K mg ⟨BZ,Al,Eu,Bx,Bw,PySem.W.fnOf "__init__" "Draft.__init__" (Ag BV) (Af BV) (Ab BV) .none Ve Vf Vg Vd MT Vh,Ca,PySem.W.fnOf "__init__" "Reader.__init__" (Ag BX) (Af BX) (Ab BX) .none Th Ti Tj Tg Lz Tn,Du,PySem.W.fnOf "ended" "Reader.ended" (Ag Dr) (Af Dr) (Ab Dr) .none ZV ZW ZX ZS QL ZZ,CZ,PySem.W.fnOf "took" "Reader.took" (Ag Ed) (Af Ed) (Ab Ed) .none Ab1 Ab2 Ab3 Ab0 Tp Ab4,Dh,PySem.W.fnOf "stretch" "Reader.stretch" (Ag Cr) (Af Cr) (Ab Cr) .none Vj Vk Vl Vi Nb Vm,Dy,PySem.W.fnOf "number" "Reader.number" (Ag CT) (Af CT) (Ab CT) .none XQ XR XS XN Ol XX,Dc,PySem.W.fnOf "__init__" "Path.__init__" (Ag CV) (Af CV) (Ab CV) .none Yc Yd Ye Yb Om Yg,Hd,PySem.W.fnOf "size" "Path.size" (Ag Gs) (Af Gs) (Ab Gs) .none AfJ AfK AfL AfI YM AfM,El,PySem.W.fnOf "numbers" "Path.numbers" (Ag Dt) (Af Dt) (Ab Dt) .none Aab Aac Aad Aaa QM Aae,Cv,PySem.W.fnOf "__init__" "Times.__init__" (Ag Cu) (Af Cu) (Ab Cu) .none Vo Vp Vq Vn Nf Vr,Fe,PySem.W.fnOf "size" "Times.size" (Ag Fd) (Af Fd) (Ab Fd) .none Adb Adc Ade Ada W5 Adf,Dd,PySem.W.fnOf "numbers" "Times.numbers" (Ag CW) (Af CW) (Ab CW) .none Yi Yj Yk Yh Oo Yl,J4,PySem.W.fnOf "measured" "measured" (Ag Hr) (Af Hr) (Ab Hr) .none Ahr Ahs Aht Ahq AaA Ahu,Dz,PySem.W.fnOf "measured_texts" "measured_texts" (Ag Ck) (Af Ck) (Ab Ck) .none Uh Ui Uj Ug M8 Uk,Hf,PySem.W.fnOf "check_pick" "check_pick" (Ag Ey) (Af Ey) (Ab Ey) .none Ac7 Ac8 Ac9 Ac6 Ww AcA,HW,PySem.W.fnOf "end_signs" "end_signs" (Ag Fy) (Af Fy) (Ab Fy) .none AeA AeB AeC Ae9 YB AeD,Ua,PySem.W.fnOf "woven" "woven" (Ag Mq) (Af Mq) (Ab Mq) .none Aow Aox Aoy Aov Ajo Aoz,Gu,PySem.W.fnOf "least_draft" "least_draft" (Ag BW) (Af BW) (Ab BW) .none AaC AaD AaE AaB S5 AaF,Eo,PySem.W.fnOf "check_setting" "check_setting" (Ag CK) (Af CK) (Ab CK) .none Xy Xz X3 Xx Oh X4,Ff,PySem.W.fnOf "check_count" "check_count" (Ag DW) (Af DW) (Ab DW) .none AaH AaI AaJ AaG S6 AaK,Fg,PySem.W.fnOf "check_shaft" "check_shaft" (Ag DX) (Af DX) (Ab DX) .none AaM AaN AaO AaL S7 AaP,HX,PySem.W.fnOf "check_tie" "check_tie" (Ag Gj) (Af Gj) (Ab Gj) .none AeF AeG AeH AeE YC AeI,DG,PySem.W.fnOf "check_treading" "check_treading" (Ag Cm) (Af Cm) (Ab Cm) .none Um Uo Up Ul M9 Uq,HY,PySem.W.fnOf "shed_over" "shed_over" (Ag Fz) (Af Fz) (Ab Fz) .none AeN AeO AeP AeM YD AeQ,Gv,PySem.W.fnOf "shafts_over" "shafts_over" (Ag Dm) (Af Dm) (Ab Dm) .none AaR AaS AaT AaQ S8 AaU,Qv,PySem.W.fnOf "unlike" "unlike" (Ag Ky) (Af Ky) (Ab Ky) .none Alz Al0 Al1 Aly AgE Al2,Ia,PySem.W.fnOf "number_of" "number_of" (Ag Gk) (Af Gk) (Ab Gk) .none AeS AeT AeU AeR YF AeV,Ik,PySem.W.fnOf "unfolded" "unfolded" (Ag Hs) (Af Hs) (Ab Hs) .none Ahw Ahx Ahy Ahv AaV Ahz,OJ,PySem.W.fnOf "shown" "shown" (Ag Mr) (Af Mr) (Ab Mr) .none Ao4 Ao5 Ao6 Ao3 Aj1 Ao7,Fi,PySem.W.fnOf "whole_size" "whole_size" (Ag Ei) (Af Ei) (Ab Ei) .none AcC AcD AcE AcB Wx AcF,Ef,PySem.W.fnOf "all_numbers" "all_numbers" (Ag DY) (Af DY) (Ab DY) .none AaX AaY AaZ AaW S9 Aba,Ep,PySem.W.fnOf "steps_between" "steps_between" (Ag CP) (Af CP) (Ab CP) .none X6 X7 X8 X5 Oi XC,J5,PySem.W.fnOf "read_row" "read_row" (Ag Ht) (Af Ht) (Ab Ht) .none Ah1 Ah2 Ah3 Ah0 Abb Ah4,Fj,PySem.W.fnOf "read_items" "read_items" (Ag Ez) (Af Ez) (Ab Ez) .none AcH AcI AcJ AcG Wy AcK,Ib,PySem.W.fnOf "read_item" "read_item" (Ag Gm) (Af Gm) (Ab Gm) .none AeX AeY AeZ AeW YG Afa,Gh,PySem.W.fnOf "read_times" "read_times" (Ag EY) (Af EY) (Ab EY) .none AcM AcN AcO AcL Wz AcP,Ie,PySem.W.fnOf "read_path" "read_path" (Ag Gn) (Af Gn) (Ab Gn) .none Afc Afd Afe Afb YH Afg,Fl,PySem.W.fnOf "read_number" "read_number" (Ag Ea) (Af Ea) (Ab Ea) .none Abe Abf Abg Abd SJ Abh,Qw,PySem.W.fnOf "parted" "parted" (Ag Kz) (Af Kz) (Ab Kz) .none Al4 Al5 Al6 Al3 AgI Al7,FJ,PySem.W.fnOf "written_path" "written_path" (Ag CG) (Af CG) (Ab CG) .none Z1 Z2 Z3 Z0 QG Z4,LQ,PySem.W.fnOf "is_stop" "is_stop" (Ag Jf) (Af Jf) (Ab Jf) .none Aj9 AjA AjB Aj8 Ady AjC,Er,PySem.W.fnOf "written_draft" "written_draft" (Ag Ci) (Af Ci) (Ab Ci) .none XF XH XJ XD Oj XM,Hg,PySem.W.fnOf "read_draft" "read_draft" (Ag Ej) (Af Ej) (Ab Ej) .none AcR AcS AcT AcQ W3 AcU,Gw,PySem.W.fnOf "_law_numbers" "_law_numbers" (Ag Eb) (Af Eb) (Ab Eb) .none Abj Abk Abl Abi SM Abm,Hh,PySem.W.fnOf "_law_subset" "_law_subset" (Ag Fb) (Af Fb) (Ab Fb) .none AcW AcX AcY AcV W4 AcZ,FN,PySem.W.fnOf "_law_draft_by" "_law_draft_by" (Ag BP) (Af BP) (Ab BP) .none Z7 Z8 Z9 Z6 QH ZC,FP,PySem.W.fnOf "_law_woven_by" "_law_woven_by" (Ag Dp) (Af Dp) (Ab Dp) .none ZF ZG ZJ ZD QJ ZK,CJ,PySem.W.fnOf "_law_numbers_same" "_law_numbers_same" (Ag By) (Af By) (Ab By) .none Rf Rg Rh Rc Kv Ri,DK,PySem.W.fnOf "_law_draft_same" "_law_draft_same" (Ag Cp) (Af Cp) (Ab Cp) .none Us Ut Uu Ur MF Uv,DN,PySem.W.fnOf "_law_texts_same" "_law_texts_same" (Ag Cq) (Af Cq) (Ab Cq) .none Ux Uy Uz Uw MJ U0,LR,PySem.W.fnOf "_law_row" "_law_row" (Ag HH) (Af HH) (Ab HH) .none AjH AjI AjJ AjG Adz AjK,Gx,PySem.W.fnOf "_law_written" "_law_written" (Ag Dq) (Af Dq) (Ab Dq) .none Abo Abp Abq Abn SN Abr,Fo,PySem.W.fnOf "_law_counted" "_law_counted" (Ag Ec) (Af Ec) (Ab Ec) .none Abt Abu Abv Abs SQ Abw,Ig,PySem.W.fnOf "_law_kinds" "_law_kinds" (Ag Gp) (Af Gp) (Ab Gp) .none Afo Afp Afq Afn YJ Afr,DP,PySem.W.fnOf "_law_told_apart" "_law_told_apart" (Ag BR) (Af BR) (Ab BR) .none U4 U5 U6 U3 MK U7,Ih,PySem.W.fnOf "_law_lists" "_law_lists" (Ag Gq) (Af Gq) (Ab Gq) .none Afx Afy Afz Afw YK Af0,Ii,PySem.W.fnOf "_law_least" "_law_least" (Ag Gr) (Af Gr) (Ab Gr) .none Af2 Af3 Af4 Af1 YL Af5,AiR,PySem.W.fnOf "law" "law" (Ag Xq) (Af Xq) (Ab Xq) .none Atm Atn Ato Atl Ap5 Atp,Am,Dj,PySem.W.fnOf "called" "WeaveError.called" (Ag BK) (Af BK) (Ab BK) .none Q0 Q3 Q4 Qz JD Q5,Bv,G8,PySem.W.fnOf "called" "NoRow.called" (Ag Ek) (Af Ek) (Ab Ek) .none ZM ZP ZQ ZL QK ZR,Ay,Em,PySem.W.fnOf "called" "TooLarge.called" (Ag Cy) (Af Cy) (Ab Cy) .none Tc Td Te SX Lx Tf,Bg,Ew,PySem.W.fnOf "called" "NoCloth.called" (Ag De) (Af De) (Ab De) .none U9 UG UJ U8 MN UL,Bh,Ex,PySem.W.fnOf "called" "NoDraft.called" (Ag Dg) (Af Dg) (Ab Dg) .none UW Va Vb UT MP Vc⟩ :=
  ⟨⟨Ai (st:=Hr) YQ YS YT,PySem.W.mg_of X G Ad6,(Ai (st:=Hr) YQ YS YT).binds (ps:=["cloth"]) fun _ _ _ _ _ _ us hl=>bl1 (fun _=>rfl) us hl⟩,
   ⟨Ai (st:=Ck) JN JP JQ,PySem.W.mg_of X G Oq,(Ai (st:=Ck) JN JP JQ).binds (ps:=["texts", "least", "signs"]) fun _ _ _ _ _ _ us hl=>bl3 (fun _ _ _=>rfl) us hl⟩,
   ⟨Ai (st:=Ey) Rx Ry Rz,PySem.W.mg_of X G YW,(Ai (st:=Ey) Rx Ry Rz).binds (ps:=["text", "ends", "signs"]) fun _ _ _ _ _ _ us hl=>bl3 (fun _ _ _=>rfl) us hl⟩,
   ⟨Ai (st:=Fy) Vt Vu Vv,PySem.W.mg_of X G Ab5,(Ai (st:=Fy) Vt Vu Vv).binds (ps:=["cloth", "end"]) fun _ _ _ _ _ _ us hl=>bl2 (fun _ _=>rfl) us hl⟩,
   ⟨Ai (st:=Mq) Aii Aij Aik,PySem.W.mg_of X G AmU,(Ai (st:=Mq) Aii Aij Aik).binds (ps:=["draft"]) fun _ _ _ _ _ _ us hl=>bl1 (fun _=>rfl) us hl⟩,
   ⟨Ai (st:=BW) Pq Pr Pu,PySem.W.mg_of X G W6,(Ai (st:=BW) Pq Pr Pu).binds (ps:=["cloth"]) fun _ _ _ _ _ _ us hl=>bl1 (fun _=>rfl) us hl⟩,
   ⟨Ai (st:=CK) KR KY KZ,PySem.W.mg_of X G QQ,(Ai (st:=CK) KR KY KZ).binds (ps:=["threading", "ties"]) fun _ _ _ _ _ _ us hl=>bl2 (fun _ _=>rfl) us hl⟩,
   ⟨Ai (st:=DW) Px Py Pz,PySem.W.mg_of X G W7,(Ai (st:=DW) Px Py Pz).binds (ps:=["count"]) fun _ _ _ _ _ _ us hl=>bl1 (fun _=>rfl) us hl⟩,
   ⟨Ai (st:=DX) P0 PB PJ,PySem.W.mg_of X G W8,(Ai (st:=DX) P0 PB PJ).binds (ps:=["shaft"]) fun _ _ _ _ _ _ us hl=>bl1 (fun _=>rfl) us hl⟩,
   ⟨Ai (st:=Gj) Vw Vx Vy,PySem.W.mg_of X G Ab6,(Ai (st:=Gj) Vw Vx Vy).binds (ps:=["tie"]) fun _ _ _ _ _ _ us hl=>bl1 (fun _=>rfl) us hl⟩,
   ⟨Ai (st:=Cm) JR JS JT,PySem.W.mg_of X G Ot,(Ai (st:=Cm) JR JS JT).binds (ps:=["treading", "treadles"]) fun _ _ _ _ _ _ us hl=>bl2 (fun _ _=>rfl) us hl⟩,
   ⟨Ai (st:=Fz) Vz V1 V3,PySem.W.mg_of X G Ab7,(Ai (st:=Fz) Vz V1 V3).binds (ps:=["threading", "lifted"]) fun _ _ _ _ _ _ us hl=>bl2 (fun _ _=>rfl) us hl⟩,
   ⟨Ai (st:=Dm) PL PN PQ,PySem.W.mg_of X G W9,(Ai (st:=Dm) PL PN PQ).binds (ps:=["threading", "text"]) fun _ _ _ _ _ _ us hl=>bl2 (fun _ _=>rfl) us hl⟩,
   ⟨Ai (st:=Ky) AfQ AfR AfS,PySem.W.mg_of X G AjX,(Ai (st:=Ky) AfQ AfR AfS).binds (ps:=["things"]) fun _ _ _ _ _ _ us hl=>bl1 (fun _=>rfl) us hl⟩,
   ⟨Ai (st:=Gk) V4 V5 V6,PySem.W.mg_of X G Ab8,(Ai (st:=Gk) V4 V5 V6).binds (ps:=["figures"]) fun _ _ _ _ _ _ us hl=>bl1 (fun _=>rfl) us hl⟩,
   ⟨Ai (st:=Hs) YX YZ Za,PySem.W.mg_of X G Ad7,(Ai (st:=Hs) YX YZ Za).binds (ps:=["text"]) fun _ _ _ _ _ _ us hl=>bl1 (fun _=>rfl) us hl⟩,
   ⟨Ai (st:=Mr) Ail Aim Ain,PySem.W.mg_of X G AmV,(Ai (st:=Mr) Ail Aim Ain).binds (ps:=["row"]) fun _ _ _ _ _ _ us hl=>bl1 (fun _=>rfl) us hl⟩,
   ⟨Ai (st:=Ei) R0 R3 R4,PySem.W.mg_of X G Zb,(Ai (st:=Ei) R0 R3 R4).binds (ps:=["row_items"]) fun _ _ _ _ _ _ us hl=>bl1 (fun _=>rfl) us hl⟩,
   ⟨Ai (st:=DY) PX Qa Qc,PySem.W.mg_of X G WD,(Ai (st:=DY) PX Qa Qc).binds (ps:=["row_items"]) fun _ _ _ _ _ _ us hl=>bl1 (fun _=>rfl) us hl⟩,
   ⟨Ai (st:=CP) La Lb Ld,PySem.W.mg_of X G QR,(Ai (st:=CP) La Lb Ld).binds (ps:=["start", "stop"]) fun _ _ _ _ _ _ us hl=>bl2 (fun _ _=>rfl) us hl⟩,
   ⟨Ai (st:=Ht) Zc Zd Ze,PySem.W.mg_of X G Ad8,(Ai (st:=Ht) Zc Zd Ze).binds (ps:=["text"]) fun _ _ _ _ _ _ us hl=>bl1 (fun _=>rfl) us hl⟩,
   ⟨Ai (st:=Ez) R5 R6 R7,PySem.W.mg_of X G Zf,(Ai (st:=Ez) R5 R6 R7).binds (ps:=["reader", "depth"]) fun _ _ _ _ _ _ us hl=>bl2 (fun _ _=>rfl) us hl⟩,
   ⟨Ai (st:=Gm) V7 V8 V9,PySem.W.mg_of X G Ab9,(Ai (st:=Gm) V7 V8 V9).binds (ps:=["reader", "depth"]) fun _ _ _ _ _ _ us hl=>bl2 (fun _ _=>rfl) us hl⟩,
   ⟨Ai (st:=EY) R8 R9 RB,PySem.W.mg_of X G Zg,(Ai (st:=EY) R8 R9 RB).binds (ps:=["reader", "count", "depth"]) fun _ _ _ _ _ _ us hl=>bl3 (fun _ _ _=>rfl) us hl⟩,
   ⟨Ai (st:=Gn) VB VD VF,PySem.W.mg_of X G AbA,(Ai (st:=Gn) VB VD VF).binds (ps:=["reader", "first"]) fun _ _ _ _ _ _ us hl=>bl2 (fun _ _=>rfl) us hl⟩,
   ⟨Ai (st:=Ea) Qd Qe Qf,PySem.W.mg_of X G WL,(Ai (st:=Ea) Qd Qe Qf).binds (ps:=["reader"]) fun _ _ _ _ _ _ us hl=>bl1 (fun _=>rfl) us hl⟩,
   ⟨Ai (st:=Kz) AfT AfU AfV,PySem.W.mg_of X G AjY,(Ai (st:=Kz) AfT AfU AfV).binds (ps:=["row"]) fun _ _ _ _ _ _ us hl=>bl1 (fun _=>rfl) us hl⟩,
   ⟨Ai (st:=CG) Ng Nh Ni,PySem.W.mg_of X G Tq,(Ai (st:=CG) Ng Nh Ni).binds (ps:=["path"]) fun _ _ _ _ _ _ us hl=>bl1 (fun _=>rfl) us hl⟩,
   ⟨Ai (st:=Jf) Aci Acj Ack,PySem.W.mg_of X G AgV,(Ai (st:=Jf) Aci Acj Ack).binds (ps:=["path", "k"]) fun _ _ _ _ _ _ us hl=>bl2 (fun _ _=>rfl) us hl⟩,
   ⟨Ai (st:=Ci) Le Lf Lg,PySem.W.mg_of X G QS,(Ai (st:=Ci) Le Lf Lg).binds (ps:=["draft"]) fun _ _ _ _ _ _ us hl=>bl1 (fun _=>rfl) us hl⟩,
   ⟨Ai (st:=Ej) RC RD RG,PySem.W.mg_of X G Zh,(Ai (st:=Ej) RC RD RG).binds (ps:=["text"]) fun _ _ _ _ _ _ us hl=>bl1 (fun _=>rfl) us hl⟩,
   ⟨Ai (st:=Eb) Qg Qh Qi,PySem.W.mg_of X G WM,(Ai (st:=Eb) Qg Qh Qi).binds (ps:=["script", "many"]) fun _ _ _ _ _ _ us hl=>bl2 (fun _ _=>rfl) us hl⟩,
   ⟨Ai (st:=Fb) RJ RK RL,PySem.W.mg_of X G Zi,(Ai (st:=Fb) RJ RK RL).binds (ps:=["number"]) fun _ _ _ _ _ _ us hl=>bl1 (fun _=>rfl) us hl⟩,
   ⟨Ai (st:=BP) Nj Nk Nm,PySem.W.mg_of X G Tr,(Ai (st:=BP) Nj Nk Nm).binds (ps:=["numbers"]) fun _ _ _ _ _ _ us hl=>bl1 (fun _=>rfl) us hl⟩,
   ⟨Ai (st:=Dp) Np Nq Nr,PySem.W.mg_of X G Tt,(Ai (st:=Dp) Np Nq Nr).binds (ps:=["threading", "ties", "treading"]) fun _ _ _ _ _ _ us hl=>bl3 (fun _ _ _=>rfl) us hl⟩,
   ⟨Ai (st:=By) Iw Iz IK,PySem.W.mg_of X G LC,(Ai (st:=By) Iw Iz IK).binds (ps:=["found", "due"]) fun _ _ _ _ _ _ us hl=>bl2 (fun _ _=>rfl) us hl⟩,
   ⟨Ai (st:=Cp) JV JW JX,PySem.W.mg_of X G Ou,(Ai (st:=Cp) JV JW JX).binds (ps:=["draft", "threading", "ties", "treading"]) fun _ _ _ _ _ _ us hl=>bl4 (fun _ _ _ _=>rfl) us hl⟩,
   ⟨Ai (st:=Cq) JZ Ka Kc,PySem.W.mg_of X G Ov,(Ai (st:=Cq) JZ Ka Kc).binds (ps:=["found", "due"]) fun _ _ _ _ _ _ us hl=>bl2 (fun _ _=>rfl) us hl⟩,
   ⟨Ai (st:=HH) Acl Acm Acn,PySem.W.mg_of X G AgW,(Ai (st:=HH) Acl Acm Acn).binds (ps:=["numbers"]) fun _ _ _ _ _ _ us hl=>bl1 (fun _=>rfl) us hl⟩,
   ⟨Ai (st:=Dq) Qj Qk Ql,PySem.W.mg_of X G WN,(Ai (st:=Dq) Qj Qk Ql).binds (ps:=["built"]) fun _ _ _ _ _ _ us hl=>bl1 (fun _=>rfl) us hl⟩,
   ⟨Ai (st:=Ec) Qm Qn Qo,PySem.W.mg_of X G WQ,(Ai (st:=Ec) Qm Qn Qo).binds (ps:=["row"]) fun _ _ _ _ _ _ us hl=>bl1 (fun _=>rfl) us hl⟩,
   ⟨Ai (st:=Gp) VG VH VJ,PySem.W.mg_of X G AbB,(Ai (st:=Gp) VG VH VJ).binds (ps:=["row"]) fun _ _ _ _ _ _ us hl=>bl1 (fun _=>rfl) us hl⟩,
   ⟨Ai (st:=BR) Kd Ke Kf,PySem.W.mg_of X G Ow,(Ai (st:=BR) Kd Ke Kf).binds (ps:=["row", "texts", "count"]) fun _ _ _ _ _ _ us hl=>bl3 (fun _ _ _=>rfl) us hl⟩,
   ⟨Ai (st:=Gq) VL VM VN,PySem.W.mg_of X G AbC,(Ai (st:=Gq) VL VM VN).binds (ps:=["part"]) fun _ _ _ _ _ _ us hl=>bl1 (fun _=>rfl) us hl⟩,
   ⟨Ai (st:=Gr) VP VR VV,PySem.W.mg_of X G AbD,(Ai (st:=Gr) VP VR VV).binds (ps:=["found", "cloth", "columns"]) fun _ _ _ _ _ _ us hl=>bl3 (fun _ _ _=>rfl) us hl⟩,
   ⟨Ai (st:=Xq) Aqt Aqu Aqv,PySem.W.mg_of X G Aqs,(Ai (st:=Xq) Aqt Aqu Aqv).binds (ps:=["script"]) fun _ _ _ _ _ _ us hl=>bl1 (fun _=>rfl) us hl⟩,
   PySem.W.mg_none_of X G Atq,
   PySem.W.mg_none_of X G Ap6,
   PySem.W.mg_none_of X G Atr,
   PySem.W.mg_none_of X G Zj,
   PySem.W.mg_none_of X G Ats,
   PySem.W.mg_none_of X G Ap7,
   PySem.W.mg_none_of X G Atu,
   PySem.W.mg_none_of X G AmW,
   PySem.W.mg_none_of X G Atv,
   PySem.W.mg_none_of X G AjZ,
   PySem.W.mg_none_of X G Atw,
   PySem.W.mg_none_of X G Atx,
   PySem.W.mg_none_of X G Aty,
   ⟨_,PySem.W.mg_of X G Tu⟩,
   ⟨_,PySem.W.mg_of X G WR⟩,
   ⟨_,PySem.W.mg_of X G AgX⟩,
   ⟨_,PySem.W.mg_of X G Tv⟩,
   ⟨_,PySem.W.mg_of X G AbE⟩,
   ⟨_,PySem.W.mg_of X G QT⟩,
   ⟨_,PySem.W.mg_of X G Tw⟩,
   PySem.W.mg_of X G Zk,
   Ai6 WT WW WY Xa Hw Hx Xb Xc Xd Tz T3,
   ⟨Ai (st:=BK) Qp Qq K6,⟨Xe,Xf,K6⟩,(Ai (st:=BK) Qp Qq K6).binds (ps:=["self"]) fun _ _ _ _ _ _ us hl=>match us,hl with | [_],_=>rfl⟩,
   FZ,
   Im,
   GK,
   Hi,
   Hj,
   PySem.W.mg_of X G AmX,
   Ai6 Aka Akb Akc Akd Hw Hx Ake Akf Akg Aha Ahb,
   ⟨Ai (st:=Ek) AfW AfX AbQ,⟨Akh,Aki,AbQ⟩,(Ai (st:=Ek) AfW AfX AbQ).binds (ps:=["self"]) fun _ _ _ _ _ _ us hl=>match us,hl with | [_],_=>rfl⟩,
   Io,
   Pk,
   JG,
   KC,
   KD,
   PySem.W.mg_of X G Ad9,
   Ai6 AbF AbG AbH AbI Hw Hx AbJ AbK AbL Zm Zn,
   ⟨Ai (st:=Cy) Wb Wd Q6,⟨AbR,AbS,Q6⟩,(Ai (st:=Cy) Wb Wd Q6).binds (ps:=["self"]) fun _ _ _ _ _ _ us hl=>match us,hl with | [_],_=>rfl⟩,
   GP,
   JH,
   HD,
   Ip,
   Ir,
   PySem.W.mg_of X G AgY,
   Ai6 AdA AdB AdC AdD Hw Hx AdE AdF AdG AbM AbN,
   ⟨Ai (st:=De) Zo Zq T4,⟨AdO,AdP,T4⟩,(Ai (st:=De) Zo Zq T4).binds (ps:=["self"]) fun _ _ _ _ _ _ us hl=>match us,hl with | [_],_=>rfl⟩,
   Hk,
   KH,
   Iu,
   Jl,
   Jm,
   PySem.W.mg_of X G AgZ,
   Ai6 AdH AdI AdJ AdK Hw Hx AdL AdM AdN AbO AbP,
   ⟨Ai (st:=Dg) Zr Zt T5,⟨AdQ,AdR,T5⟩,(Ai (st:=Dg) Zr Zt T5).binds (ps:=["self"]) fun _ _ _ _ _ _ us hl=>match us,hl with | [_],_=>rfl⟩,
   Hl,
   KJ,
   Iv,
   Jo,
   Jp,
   PySem.W.mg_of X G AmY,
   AlR Akk Akl Akm Akn Ako Jr Js Akp,
   Bb,
   BJ,
   Bj,
   ⟨Akw,Akx,Aky,Akz⟩,
   PySem.W.mg_of X G Akj,
   AlR Ahc Ahd Ahe Ahf Ahg IV IW Ahh,
   Dw,
   Bs,
   PySem.W.mg_of X G Ap8,
   AlR Ana Anb Anc Ane Anf Kl Km Ang,
   Eg,
   PySem.W.mg_of X G AmZ,
   AlR Akq Akr Aks Akt Aku Jx Jy Akv,
   GC,
   GD,
   ⟨Ai (st:=BV) Jt Ju Hm,⟨Jr,Js,Hm⟩,(Ai (st:=BV) Jt Ju Hm).binds (ps:=["self", "threading", "ties", "treading"]) fun _ _ _ _ _ _ us hl=>bl4 (fun _ _ _ _=>rfl) us hl⟩,
   ⟨Ai (st:=BX) Ja Jb GF,⟨IV,IW,GF⟩,(Ai (st:=BX) Ja Jb GF).binds (ps:=["self", "text"]) fun _ _ _ _ _ _ us hl=>bl2 (fun _ _=>rfl) us hl⟩,
   ⟨Ai (st:=Dr) Lh Li Jd,⟨QV,QW,Jd⟩,(Ai (st:=Dr) Lh Li Jd).binds (ps:=["self"]) fun _ _ _ _ _ _ us hl=>bl1 (fun _=>rfl) us hl⟩,
   ⟨Ai (st:=Ed) Nt Nu JF,⟨T6,T7,JF⟩,(Ai (st:=Ed) Nt Nu JF).binds (ps:=["self", "wanted"]) fun _ _ _ _ _ _ us hl=>bl2 (fun _ _=>rfl) us hl⟩,
   ⟨Ai (st:=Cr) Jv Jw Hn,⟨Nv,Nx,Hn⟩,(Ai (st:=Cr) Jv Jw Hn).binds (ps:=["self", "signs"]) fun _ _ _ _ _ _ us hl=>bl2 (fun _ _=>rfl) us hl⟩,
   ⟨Ai (st:=CT) Kg Kh HQ,⟨Ox,Oz,HQ⟩,(Ai (st:=CT) Kg Kh HQ).binds (ps:=["self"]) fun _ _ _ _ _ _ us hl=>bl1 (fun _=>rfl) us hl⟩,
   ⟨Ai (st:=CV) Ko Kq HR,⟨Kl,Km,HR⟩,(Ai (st:=CV) Ko Kq HR).binds (ps:=["self", "stops"]) fun _ _ _ _ _ _ us hl=>bl2 (fun _ _=>rfl) us hl⟩,
   ⟨Ai (st:=Gs) RM RN Ny,⟨Zu,Zv,Ny⟩,(Ai (st:=Gs) RM RN Ny).binds (ps:=["self"]) fun _ _ _ _ _ _ us hl=>bl1 (fun _=>rfl) us hl⟩,
   ⟨Ai (st:=Dt) Lj Lk Je,⟨QX,QZ,Je⟩,(Ai (st:=Dt) Lj Lk Je).binds (ps:=["self"]) fun _ _ _ _ _ _ us hl=>bl1 (fun _=>rfl) us hl⟩,
   ⟨Ai (st:=Cu) Jz J0 Ho,⟨Jx,Jy,Ho⟩,(Ai (st:=Cu) Jz J0 Ho).binds (ps:=["self", "count", "inner"]) fun _ _ _ _ _ _ us hl=>bl3 (fun _ _ _=>rfl) us hl⟩,
   ⟨Ai (st:=Fd) Qs Qt K7,⟨Xg,Xh,K7⟩,(Ai (st:=Fd) Qs Qt K7).binds (ps:=["self"]) fun _ _ _ _ _ _ us hl=>bl1 (fun _=>rfl) us hl⟩,
   ⟨Ai (st:=CW) Kr Ks HS,⟨O1,O2,HS⟩,(Ai (st:=CW) Kr Ks HS).binds (ps:=["self"]) fun _ _ _ _ _ _ us hl=>bl1 (fun _=>rfl) us hl⟩⟩
  have e:=hfa.symm.trans (PySem.W.mg_of X G Aqs)
  cases e
  exact ⟨_,fun s v=>.of_eq rfl,fun base _ _=>Awh T⟩
end Mine
open PySem PySem.W PyProof.Rows
def PySem.W.Fast.tw2496727784158693456:=()
def PySem.W.Fast.tw11245901805878869493:=()
def PySem.W.Fast.tw13484431558055944224:=()
def PySem.W.Fast.tw3721115024974734349:=()
def PySem.W.Fast.tw540309299504984846:=()
def PySem.W.Fast.tw4807610579340179146:=()
def PySem.W.Fast.tw1123377677397783410:=()
def PySem.W.Fast.tw5360143324871218550:=()
def PySem.W.Fast.tw9821860601220295200:=()
def PySem.W.Fast.tw4483815230431592921:=()
def PySem.W.Fast.tw6592939632918584850:=()
def PySem.W.Fast.tw4885835548560609465:=()
def PySem.W.Fast.tw16203474919764538012:=()
def PySem.W.Fast.tw15274993144351735811:=()
def PySem.W.Fast.tw5666849542378367675:=()
def PySem.W.Fast.tw7815500521799654809:=()
def PySem.W.Fast.tw6895871970696862571:=()
def PySem.W.Fast.tw6277945861739999853:=()
def PySem.W.Fast.tw12944407014710096215:=()
def PySem.W.Fast.tw17794662756499456594:=()
def PySem.W.Fast.tw2838107599787564199:=()
def PySem.W.Fast.tw12743609154218484205:=()
def PySem.W.Fast.tw15142206442909078655:=()
def PySem.W.Fast.tw12267969359092500032:=()
def PySem.W.Fast.tw9546517759166372694:=()
def PySem.W.Fast.tw2591107503215681486:=()
def PySem.W.Fast.tw4588299885276849948:=()
def PySem.W.Fast.tw9636233286525855543:=()
def PySem.W.Fast.tw6532716798358074308:=()
def PySem.W.Fast.tw18270345946775509702:=()
def PySem.W.Fast.tw15142306084481854758:=()
def PySem.W.Fast.tw12488268780355902085:=()
def PySem.W.Fast.tw16174984573817068505:=()
def PySem.W.Fast.tw16547599981502254350:=()
def PySem.W.Fast.tw15001188354697525766:=()
def PySem.W.Fast.tw10455075010280468551:=()
def PySem.W.Fast.tw10361692593707547836:=()
def PySem.W.Fast.tw18112498031569471940:=()
def PySem.W.Fast.tw15655712091933259047:=()
def PySem.W.Fast.tw6129945537626497811:=()
def PySem.W.Fast.tw4800407555689803763:=()
def PySem.W.Fast.tw3372556866256683678:=()
def PySem.W.Fast.tw13296297766452951355:=()
def PySem.W.Fast.tw8852286482482794290:=()
def PySem.W.Fast.tw15030677825441499252:=()
def PySem.W.Fast.tw17904970575001577366:=()
def PySem.W.Fast.tw4398022072906634792:=()
def PySem.W.Fast.tw13059434783529500159:=()
def PySem.W.Fast.tw18290684946350507835:=()
def PySem.W.Fast.tw17482619289114929041:=()
def PySem.W.Fast.tw3609603014235545391:=()
def PySem.W.Fast.tw8805051153270151794:=()
def PySem.W.Fast.tw1617853977401061853:=()
def PySem.W.Fast.tw8693488235394163895:=()
def PySem.W.Fast.tw1622150924072123303:=()
def PySem.W.Fast.tw339678125235476948:=()
def PySem.W.Fast.tw9163651315016003981:=()
def PySem.W.Fast.tw6183776958426437516:=()
def PySem.W.Fast.tw4087557493875166054:=()
def PySem.W.Fast.tw7146779148188003462:=()
def PySem.W.Fast.tw13070794863553639581:=()
def PySem.W.Fast.tw11900817959007790154:=()
def PySem.W.Fast.tw8084415322920580017:=()
def PySem.W.Fast.tw8685290913484401973:=()
def PySem.W.Fast.tw18028589827683948977:=()
def PySem.W.Fast.tw8663375440261878785:=()
def PySem.W.Fast.tw2957874946995998980:=()
def PySem.W.Fast.tw13905162874082428459:=()
def PySem.W.Fast.tw4242333707208266777:=()
def PySem.W.Fast.tw4104934161681176701:=()
def PySem.W.Fast.tw18051386949120010318:=()
def PySem.W.Fast.tw2113264115301104130:=()
def PySem.W.Fast.tw10308083304268119205:=()
def PySem.W.Fast.tw8385744157349005360:=()
def PySem.W.Fast.tw2903338987671952685:=()
def PySem.W.Fast.tw11622424188758995698:=()
def PySem.W.Fast.tw12182787786851440006:=()
def PySem.W.Fast.tw6949346731015988610:=()
def PySem.W.Fast.tw5658934680229921634:=()
def PySem.W.Fast.tw14899617243456418917:=()
def PySem.W.Fast.tw5137628140618899463:=()
def PySem.W.Fast.tw3028002777676623284:=()
def PySem.W.Fast.tw4796135816573483778:=()
def PySem.W.Fast.tw11159027512472481098:=()
def PySem.W.Fast.tw3502929209506322553:=()
def PySem.W.Fast.tw8665435855159333377:=()
def PySem.W.Fast.tw899186198568222760:=()
def PySem.W.Fast.tw1628586277704586027:=()
def PySem.W.Fast.tw8330537939197088896:=()
def PySem.W.Fast.tw14886151009284873525:=()
def PySem.W.Fast.tw17816103715338923023:=()
def PySem.W.Fast.tw5359367204821151787:=()
def PySem.W.Fast.tw12859626923209936800:=()
def PySem.W.Fast.tw5136504860066575467:=()
def PySem.W.Fast.tw10247759676894297020:=()
def PySem.W.Fast.tw2618285433162632916:=()
def PySem.W.Fast.tw5828413522029136432:=()
def PySem.W.Fast.tw16648010970749996018:=()
def PySem.W.Fast.tw3108520911429075826:=()
def PySem.W.Fast.tw10955742885563143405:=()
def PySem.W.Fast.tw4567661380129172719:=()
def PySem.W.Fast.tw15628110627857783861:=()
def PySem.W.Fast.tw7695616336609060432:=()
def PySem.W.Fast.tw10253674676985426449:=()
def PySem.W.Fast.tw8634006992216827652:=()
def PySem.W.Fast.tw8202411419693271960:=()
def PySem.W.Fast.tw5271634471250798270:=()
def PySem.W.Fast.tw1142842075900826395:=()
def PySem.W.Fast.tw6355591401985803626:=()
def PySem.W.Fast.tw2327370889266148065:=()
def PySem.W.Fast.tw6434240494922977645:=()
def PySem.W.Fast.tw2092129265715263524:=()
def PySem.W.Fast.tw13405195491318303682:=()
def PySem.W.Fast.tw9646905055853355114:=()
def PySem.W.Fast.tw6241733935490038505:=()
def PySem.W.Fast.tw6867193692500913112:=()
def PySem.W.Fast.tw5350685285801289808:=()
def PySem.W.Fast.tw16113790982418726429:=()
def PySem.W.Fast.tw3818775226757125801:=()
def PySem.W.Fast.tw11485404363590011591:=()
def PySem.W.Fast.tw9836089467997892862:=()
def PySem.W.Fast.tw14296738923169780433:=()
def PySem.W.Fast.tw1040923385894402328:=()
def PySem.W.Fast.tw18331185101774966502:=()
def PySem.W.Fast.tw18062883876290043744:=()
def PySem.W.Fast.tw17886164710749956726:=()
def PySem.W.Fast.tw10995552977167694490:=()
def PySem.W.Fast.tw5286717117294651495:=()
def PySem.W.Fast.tw86751862892129816:=()
def PySem.W.Fast.tw16683173854373305712:=()
def PySem.W.Fast.tw2312734220284049839:=()
def PySem.W.Fast.tw3097052689489273499:=()
def PySem.W.Fast.tw4205380003720704137:=()
def PySem.W.Fast.tw2628138646177311021:=()
def PySem.W.Fast.tw238148945333061781:=()
def PySem.W.Fast.tw6917282078005719269:=()
def PySem.W.Fast.tw5713556846080001156:=()
def PySem.W.Fast.tw10393024921857426530:=()
def PySem.W.Fast.tw15046065248572492083:=()
def PySem.W.Fast.tw17345937283620022101:=()
def PySem.W.Fast.tw8282525773545981178:=()
def PySem.W.Fast.tw7182025587713729887:=()
def PySem.W.Fast.tw16894543747765614914:=()
def PySem.W.Fast.tw6241417799576725580:=()
def PySem.W.Fast.tw3182356170185497435:=()
def PySem.W.Fast.tw2437730206476122629:=()
def PySem.W.Fast.tw10602615152145986177:=()
def PySem.W.Fast.tw6514954371424761:=()
def PySem.W.Fast.tw8140970785434344897:=()
def PySem.W.Fast.tw16239902829990046239:=()
def PySem.W.Fast.tw16525940967823732591:=()
def PySem.W.Fast.tw15857224209475088267:=()
def PySem.W.Fast.tw5543151362454349368:=()
def PySem.W.Fast.tw63621866127941943:=()
def PySem.W.Fast.tw16408656514813592494:=()
def PySem.W.Fast.tw5957445706659183116:=()
def PySem.W.Fast.tw2668399272246757358:=()
def PySem.W.Fast.tw12810883454895985900:=()
def PySem.W.Fast.tw2726044598868375620:=()
def PySem.W.Fast.tw13647672670625089794:=()
def PySem.W.Fast.tw16758992990325735477:=()
set_option maxRecDepth 100000 in
set_option maxHeartbeats 0 in
theorem PySem.Challenge.cw_heddle_k12_whole_least_holds : PySem.Challenge.rw_heddle_k12_whole_least.Holds := by
  w_on; o_law; k_head; (case hw=>w_witness2)
  k_fill
  refine L2.ArB (l:=PySem.Challenge.rw_heddle_k12_whole_least) (n:=63) (k:=43) (x := "script") (CX:=L2.CX0) (sp:=Mine.Amy) rfl (by decide) rfl ⟨rfl,by decide,by decide⟩ (fun w h Y=>PySem.W.kIn_of Y) ?F ?S ?C
  case F =>
    intro w mg fa h KX G hmg
    refine' Mine.Awj KX G hmg ?Ad6 ?YQ ?YS ?YT ?Oq ?JN ?JP ?JQ ?YW ?Rx ?Ry ?Rz ?Ab5 ?Vt ?Vu ?Vv ?AmU ?Aii ?Aij ?Aik ?W6 ?Pq ?Pr ?Pu ?QQ ?KR ?KY ?KZ ?W7 ?Px ?Py ?Pz ?W8 ?P0 ?PB ?PJ ?Ab6 ?Vw ?Vx ?Vy ?Ot ?JR ?JS ?JT ?Ab7 ?Vz ?V1 ?V3 ?W9 ?PL ?PN ?PQ ?AjX ?AfQ ?AfR ?AfS ?Ab8 ?V4 ?V5 ?V6 ?Ad7 ?YX ?YZ ?Za ?AmV ?Ail ?Aim ?Ain ?Zb ?R0 ?R3 ?R4 ?WD ?PX ?Qa ?Qc ?QR ?La ?Lb ?Ld ?Ad8 ?Zc ?Zd ?Ze ?Zf ?R5 ?R6 ?R7 ?Ab9 ?V7 ?V8 ?V9 ?Zg ?R8 ?R9 ?RB ?AbA ?VB ?VD ?VF ?WL ?Qd ?Qe ?Qf ?AjY ?AfT ?AfU ?AfV ?Tq ?Ng ?Nh ?Ni ?AgV ?Aci ?Acj ?Ack ?QS ?Le ?Lf ?Lg ?Zh ?RC ?RD ?RG ?WM ?Qg ?Qh ?Qi ?Zi ?RJ ?RK ?RL ?Tr ?Nj ?Nk ?Nm ?Tt ?Np ?Nq ?Nr ?LC ?Iw ?Iz ?IK ?Ou ?JV ?JW ?JX ?Ov ?JZ ?Ka ?Kc ?AgW ?Acl ?Acm ?Acn ?WN ?Qj ?Qk ?Ql ?WQ ?Qm ?Qn ?Qo ?AbB ?VG ?VH ?VJ ?Ow ?Kd ?Ke ?Kf ?AbC ?VL ?VM ?VN ?AbD ?VP ?VR ?VV ?Aqs ?Aqt ?Aqu ?Aqv ?Atq ?Ap6 ?Atr ?Zj ?Ats ?Ap7 ?Atu ?AmW ?Atv ?AjZ ?Atw ?Atx ?Aty ?Tu ?WR ?AgX ?Tv ?AbE ?QT ?Tw ?Zk ?AmX ?Ad9 ?AgY ?AgZ ?WT ?WW ?WY ?Xa ?Hw ?Hx ?Xb ?Xc ?Xd ?Tz ?T3 ?FZ ?Im ?GK ?Hi ?Hj ?Aka ?Akb ?Akc ?Akd ?Ake ?Akf ?Akg ?Aha ?Ahb ?Io ?Pk ?JG ?KC ?KD ?AbF ?AbG ?AbH ?AbI ?AbJ ?AbK ?AbL ?Zm ?Zn ?GP ?JH ?HD ?Ip ?Ir ?AdA ?AdB ?AdC ?AdD ?AdE ?AdF ?AdG ?AbM ?AbN ?Hk ?KH ?Iu ?Jl ?Jm ?AdH ?AdI ?AdJ ?AdK ?AdL ?AdM ?AdN ?AbO ?AbP ?Hl ?KJ ?Iv ?Jo ?Jp ?Xe ?Xf ?Qp ?Qq ?K6 ?Akh ?Aki ?AfW ?AfX ?AbQ ?AbR ?AbS ?Wb ?Wd ?Q6 ?AdO ?AdP ?Zo ?Zq ?T4 ?AdQ ?AdR ?Zr ?Zt ?T5 ?AmY ?Akj ?Ap8 ?AmZ ?Jr ?Js ?Jt ?Ju ?Hm ?IV ?IW ?Ja ?Jb ?GF ?QV ?QW ?Lh ?Li ?Jd ?T6 ?T7 ?Nt ?Nu ?JF ?Nv ?Nx ?Jv ?Jw ?Hn ?Ox ?Oz ?Kg ?Kh ?HQ ?Kl ?Km ?Ko ?Kq ?HR ?Zu ?Zv ?RM ?RN ?Ny ?QX ?QZ ?Lj ?Lk ?Je ?Jx ?Jy ?Jz ?J0 ?Ho ?Xg ?Xh ?Qs ?Qt ?K7 ?O1 ?O2 ?Kr ?Ks ?HS ?Akk ?Akl ?Akm ?Akn ?Ako ?Akp ?Bb ?BJ ?Bj ?Ahc ?Ahd ?Ahe ?Ahf ?Ahg ?Ahh ?Dw ?Bs ?Ana ?Anb ?Anc ?Ane ?Anf ?Ang ?Eg ?Akq ?Akr ?Aks ?Akt ?Aku ?Akv ?GC ?GD ?Akw ?Akx ?Aky ?Akz
    (case Ad6=>k_is)
    (case YQ=>k_is)
    (case YS=>k_is)
    (case YT=>k_is)
    (case Oq=>k_is)
    (case JN=>k_is)
    (case JP=>k_is)
    (case JQ=>k_is)
    (case YW=>k_is)
    (case Rx=>k_is)
    (case Ry=>k_is)
    (case Rz=>k_is)
    (case Ab5=>k_is)
    (case Vt=>k_is)
    (case Vu=>k_is)
    (case Vv=>k_is)
    (case AmU=>k_is)
    (case Aii=>k_is)
    (case Aij=>k_is)
    (case Aik=>k_is)
    (case W6=>k_is)
    (case Pq=>k_is)
    (case Pr=>k_is)
    (case Pu=>k_is)
    (case QQ=>k_is)
    (case KR=>k_is)
    (case KY=>k_is)
    (case KZ=>k_is)
    (case W7=>k_is)
    (case Px=>k_is)
    (case Py=>k_is)
    (case Pz=>k_is)
    (case W8=>k_is)
    (case P0=>k_is)
    (case PB=>k_is)
    (case PJ=>k_is)
    (case Ab6=>k_is)
    (case Vw=>k_is)
    (case Vx=>k_is)
    (case Vy=>k_is)
    (case Ot=>k_is)
    (case JR=>k_is)
    (case JS=>k_is)
    (case JT=>k_is)
    (case Ab7=>k_is)
    (case Vz=>k_is)
    (case V1=>k_is)
    (case V3=>k_is)
    (case W9=>k_is)
    (case PL=>k_is)
    (case PN=>k_is)
    (case PQ=>k_is)
    (case AjX=>k_is)
    (case AfQ=>k_is)
    (case AfR=>k_is)
    (case AfS=>k_is)
    (case Ab8=>k_is)
    (case V4=>k_is)
    (case V5=>k_is)
    (case V6=>k_is)
    (case Ad7=>k_is)
    (case YX=>k_is)
    (case YZ=>k_is)
    (case Za=>k_is)
    (case AmV=>k_is)
    (case Ail=>k_is)
    (case Aim=>k_is)
    (case Ain=>k_is)
    (case Zb=>k_is)
    (case R0=>k_is)
    (case R3=>k_is)
    (case R4=>k_is)
    (case WD=>k_is)
    (case PX=>k_is)
    (case Qa=>k_is)
    (case Qc=>k_is)
    (case QR=>k_is)
    (case La=>k_is)
    (case Lb=>k_is)
    (case Ld=>k_is)
    (case Ad8=>k_is)
    (case Zc=>k_is)
    (case Zd=>k_is)
    (case Ze=>k_is)
    (case Zf=>k_is)
    (case R5=>k_is)
    (case R6=>k_is)
    (case R7=>k_is)
    (case Ab9=>k_is)
    (case V7=>k_is)
    (case V8=>k_is)
    (case V9=>k_is)
    (case Zg=>k_is)
    (case R8=>k_is)
    (case R9=>k_is)
    (case RB=>k_is)
    (case AbA=>k_is)
    (case VB=>k_is)
    (case VD=>k_is)
    (case VF=>k_is)
    (case WL=>k_is)
    (case Qd=>k_is)
    (case Qe=>k_is)
    (case Qf=>k_is)
    (case AjY=>k_is)
    (case AfT=>k_is)
    (case AfU=>k_is)
    (case AfV=>k_is)
    (case Tq=>k_is)
    (case Ng=>k_is)
    (case Nh=>k_is)
    (case Ni=>k_is)
    (case AgV=>k_is)
    (case Aci=>k_is)
    (case Acj=>k_is)
    (case Ack=>k_is)
    (case QS=>k_is)
    (case Le=>k_is)
    (case Lf=>k_is)
    (case Lg=>k_is)
    (case Zh=>k_is)
    (case RC=>k_is)
    (case RD=>k_is)
    (case RG=>k_is)
    (case WM=>k_is)
    (case Qg=>k_is)
    (case Qh=>k_is)
    (case Qi=>k_is)
    (case Zi=>k_is)
    (case RJ=>k_is)
    (case RK=>k_is)
    (case RL=>k_is)
    (case Tr=>k_is)
    (case Nj=>k_is)
    (case Nk=>k_is)
    (case Nm=>k_is)
    (case Tt=>k_is)
    (case Np=>k_is)
    (case Nq=>k_is)
    (case Nr=>k_is)
    (case LC=>k_is)
    (case Iw=>k_is)
    (case Iz=>k_is)
    (case IK=>k_is)
    (case Ou=>k_is)
    (case JV=>k_is)
    (case JW=>k_is)
    (case JX=>k_is)
    (case Ov=>k_is)
    (case JZ=>k_is)
    (case Ka=>k_is)
    (case Kc=>k_is)
    (case AgW=>k_is)
    (case Acl=>k_is)
    (case Acm=>k_is)
    (case Acn=>k_is)
    (case WN=>k_is)
    (case Qj=>k_is)
    (case Qk=>k_is)
    (case Ql=>k_is)
    (case WQ=>k_is)
    (case Qm=>k_is)
    (case Qn=>k_is)
    (case Qo=>k_is)
    (case AbB=>k_is)
    (case VG=>k_is)
    (case VH=>k_is)
    (case VJ=>k_is)
    (case Ow=>k_is)
    (case Kd=>k_is)
    (case Ke=>k_is)
    (case Kf=>k_is)
    (case AbC=>k_is)
    (case VL=>k_is)
    (case VM=>k_is)
    (case VN=>k_is)
    (case AbD=>k_is)
    (case VP=>k_is)
    (case VR=>k_is)
    (case VV=>k_is)
    (case Aqs=>k_is)
    (case Aqt=>k_is)
    (case Aqu=>k_is)
    (case Aqv=>k_is)
    (case Atq=>k_is)
    (case Ap6=>k_is)
    (case Atr=>k_is)
    (case Zj=>k_is)
    (case Ats=>k_is)
    (case Ap7=>k_is)
    (case Atu=>k_is)
    (case AmW=>k_is)
    (case Atv=>k_is)
    (case AjZ=>k_is)
    (case Atw=>k_is)
    (case Atx=>k_is)
    (case Aty=>k_is)
    (case Tu=>k_is)
    (case WR=>k_is)
    (case AgX=>k_is)
    (case Tv=>k_is)
    (case AbE=>k_is)
    (case QT=>k_is)
    (case Tw=>k_is)
    (case Zk=>k_is)
    (case AmX=>k_is)
    (case Ad9=>k_is)
    (case AgY=>k_is)
    (case AgZ=>k_is)
    (case WT=>k_exc)
    (case WW=>k_is)
    (case WY=>k_is)
    (case Xa=>k_is)
    (case Hw=>k_is)
    (case Hx=>k_is)
    (case Xb=>k_is)
    (case Xc=>k_is)
    (case Xd=>k_is)
    (case Tz=>k_is)
    (case T3=>k_is)
    (case FZ=>k_is)
    (case Im=>k_is)
    (case GK=>k_is)
    (case Hi=>k_is)
    (case Hj=>k_is)
    (case Aka=>k_exc)
    (case Akb=>k_is)
    (case Akc=>k_is)
    (case Akd=>k_is)
    (case Ake=>k_is)
    (case Akf=>k_is)
    (case Akg=>k_is)
    (case Aha=>k_is)
    (case Ahb=>k_is)
    (case Io=>k_is)
    (case Pk=>k_is)
    (case JG=>k_is)
    (case KC=>k_is)
    (case KD=>k_is)
    (case AbF=>k_exc)
    (case AbG=>k_is)
    (case AbH=>k_is)
    (case AbI=>k_is)
    (case AbJ=>k_is)
    (case AbK=>k_is)
    (case AbL=>k_is)
    (case Zm=>k_is)
    (case Zn=>k_is)
    (case GP=>k_is)
    (case JH=>k_is)
    (case HD=>k_is)
    (case Ip=>k_is)
    (case Ir=>k_is)
    (case AdA=>k_exc)
    (case AdB=>k_is)
    (case AdC=>k_is)
    (case AdD=>k_is)
    (case AdE=>k_is)
    (case AdF=>k_is)
    (case AdG=>k_is)
    (case AbM=>k_is)
    (case AbN=>k_is)
    (case Hk=>k_is)
    (case KH=>k_is)
    (case Iu=>k_is)
    (case Jl=>k_is)
    (case Jm=>k_is)
    (case AdH=>k_exc)
    (case AdI=>k_is)
    (case AdJ=>k_is)
    (case AdK=>k_is)
    (case AdL=>k_is)
    (case AdM=>k_is)
    (case AdN=>k_is)
    (case AbO=>k_is)
    (case AbP=>k_is)
    (case Hl=>k_is)
    (case KJ=>k_is)
    (case Iv=>k_is)
    (case Jo=>k_is)
    (case Jp=>k_is)
    (case Xe=>k_is)
    (case Xf=>k_is)
    (case Qp=>k_is)
    (case Qq=>k_is)
    (case K6=>k_is)
    (case Akh=>k_is)
    (case Aki=>k_is)
    (case AfW=>k_is)
    (case AfX=>k_is)
    (case AbQ=>k_is)
    (case AbR=>k_is)
    (case AbS=>k_is)
    (case Wb=>k_is)
    (case Wd=>k_is)
    (case Q6=>k_is)
    (case AdO=>k_is)
    (case AdP=>k_is)
    (case Zo=>k_is)
    (case Zq=>k_is)
    (case T4=>k_is)
    (case AdQ=>k_is)
    (case AdR=>k_is)
    (case Zr=>k_is)
    (case Zt=>k_is)
    (case T5=>k_is)
    (case AmY=>k_is)
    (case Akj=>k_is)
    (case Ap8=>k_is)
    (case AmZ=>k_is)
    (case Jr=>k_is)
    (case Js=>k_is)
    (case Jt=>k_is)
    (case Ju=>k_is)
    (case Hm=>k_is)
    (case IV=>k_is)
    (case IW=>k_is)
    (case Ja=>k_is)
    (case Jb=>k_is)
    (case GF=>k_is)
    (case QV=>k_is)
    (case QW=>k_is)
    (case Lh=>k_is)
    (case Li=>k_is)
    (case Jd=>k_is)
    (case T6=>k_is)
    (case T7=>k_is)
    (case Nt=>k_is)
    (case Nu=>k_is)
    (case JF=>k_is)
    (case Nv=>k_is)
    (case Nx=>k_is)
    (case Jv=>k_is)
    (case Jw=>k_is)
    (case Hn=>k_is)
    (case Ox=>k_is)
    (case Oz=>k_is)
    (case Kg=>k_is)
    (case Kh=>k_is)
    (case HQ=>k_is)
    (case Kl=>k_is)
    (case Km=>k_is)
    (case Ko=>k_is)
    (case Kq=>k_is)
    (case HR=>k_is)
    (case Zu=>k_is)
    (case Zv=>k_is)
    (case RM=>k_is)
    (case RN=>k_is)
    (case Ny=>k_is)
    (case QX=>k_is)
    (case QZ=>k_is)
    (case Lj=>k_is)
    (case Lk=>k_is)
    (case Je=>k_is)
    (case Jx=>k_is)
    (case Jy=>k_is)
    (case Jz=>k_is)
    (case J0=>k_is)
    (case Ho=>k_is)
    (case Xg=>k_is)
    (case Xh=>k_is)
    (case Qs=>k_is)
    (case Qt=>k_is)
    (case K7=>k_is)
    (case O1=>k_is)
    (case O2=>k_is)
    (case Kr=>k_is)
    (case Ks=>k_is)
    (case HS=>k_is)
    (case Akk=>k_is)
    (case Akl=>k_is)
    (case Akm=>k_is)
    (case Akn=>k_is)
    (case Ako=>k_is)
    (case Akp=>k_is)
    (case Bb=>k_is)
    (case BJ=>k_is)
    (case Bj=>k_is)
    (case Ahc=>k_is)
    (case Ahd=>k_is)
    (case Ahe=>k_is)
    (case Ahf=>k_is)
    (case Ahg=>k_is)
    (case Ahh=>k_is)
    (case Dw=>k_is)
    (case Bs=>k_is)
    (case Ana=>k_is)
    (case Anb=>k_is)
    (case Anc=>k_is)
    (case Ane=>k_is)
    (case Anf=>k_is)
    (case Ang=>k_is)
    (case Eg=>k_is)
    (case Akq=>k_is)
    (case Akr=>k_is)
    (case Aks=>k_is)
    (case Akt=>k_is)
    (case Aku=>k_is)
    (case Akv=>k_is)
    (case GC=>k_is)
    (case GD=>k_is)
    (case Akw=>k_is)
    (case Akx=>k_is)
    (case Aky=>k_is)
    (case Akz=>k_is)
  case S=>exact fun K H a ns hl hO hS=>Mine.Amz hl hS
  case C=>exact fun _ _ _ _ z=>z
