import PyProof.Rows.All
import Wide.FinOn
import KE.KNestM
import OpenK.KOwn
import KE.KItem
import KE.IntText
import KE.KTabLook
import KE.KFromBytes
import KE.KIntText
import KE.KTab
import KE.KIsAll
import KE.KRevIter
import KE.KDictOf
import KE.KxBytes
import OpenK.KRaise
import Lean
import PyProof.EqAt
import PyProof.EqKinds
import PyProof.TupleCall
import PyProof.StrBlockL
import PyProof.EnumMake
import PyProof.CollectIter
import PyProof.JoinWalk
import PyProof.StrOps
import PyProof.StrLawsIdx
import PyProof.StrLawsIn
import PyProof.ListRange
import PyProof.Rows.Range3
import PyProof.Rows.SumAny
import KE.LcSums
import OpenK.KCls
import PyProof.LongRange
import PyProof.StrOps2
import PyProof.FitsBits
import PyProof.Rows.ZipGen
import PyProof.NeKinds
import PyProof.Draws
import PyProof.Rows.SeqMore
import Wide.Txt
import PyProof.Rows.StrNews
import PyProof.StrLawsChain
import PyProof.ConsumeWalk
import KE.KUnpack
import PySem.Challenge.RW_heddle_k62_far_fields_asked
set_option Elab.async false
set_option linter.all false
set_option maxRecDepth 100000
namespace L2
open PySem PySem.Spec PyProof.Rows
abbrev Key := Sum Int Str
def keyIs : Key → Value → Bool
  | .inl k, v => Value.isInt k v
  | .inr x, v => Value.isStrOf x v
def keyH (w : World) : Key → Int
  | .inl k => hashInt k
  | .inr x => hashStr w x
theorem keyIs_shape : ∀ {k : Key} {v : Value}, keyIs k v = true → (∃ i t, k = Sum.inl i ∧ v = Value.int i t) ∨ (∃ x t, k = Sum.inr x ∧ v = Value.str x t)
  | .inl i, v, h => by
    obtain ⟨t, e⟩ := Value.isInt_shape (k := i) (v := v) h
    exact .inl ⟨i, t, rfl, e⟩
  | .inr x, v, h => by
    obtain ⟨t, e⟩ := Value.isStrOf_shape (x := x) (v := v) h
    exact .inr ⟨x, t, rfl, e⟩
theorem key_ll (a b : Int) : decide ((Sum.inl a : Key) = Sum.inl b) = (a == b) := by
  by_cases e : a = b
  · subst e; simp
  · have h : ¬ (Sum.inl a : Key) = Sum.inl b := fun q => e (Sum.inl.inj q)
    rw [decide_eq_false h]
    exact (beq_eq_false_iff_ne.mpr e).symm
theorem key_rr (a b : Str) : decide ((Sum.inr a : Key) = Sum.inr b) = decide (a = b) := by
  by_cases e : a = b
  · subst e; simp
  · have h : ¬ (Sum.inr a : Key) = Sum.inr b := fun q => e (Sum.inr.inj q)
    rw [decide_eq_false h, decide_eq_false e]
theorem key_lr (a : Int) (b : Str) : decide ((Sum.inl a : Key) = Sum.inr b) = false := decide_eq_false (fun q => nomatch q)
theorem key_rl (a : Str) (b : Int) : decide ((Sum.inr a : Key) = Sum.inl b) = false := decide_eq_false (fun q => nomatch q)
def mixKind (prog : Program) (w : World) : PySem.KeyKind prog w Key where
  is := keyIs
  hash := keyH w
  inj := fun v a b ha hb => by
    rcases keyIs_shape ha with ⟨i, t, rfl, rfl⟩ | ⟨x, t, rfl, rfl⟩
    · rcases keyIs_shape hb with ⟨j, u, rfl, e⟩ | ⟨y, u, rfl, e⟩
      · injection e with e1 _; rw [e1]
      · exact nomatch e
    · rcases keyIs_shape hb with ⟨j, u, rfl, e⟩ | ⟨y, u, rfl, e⟩
      · exact nomatch e
      · injection e with e1 _; rw [e1]
  byValue := fun k v h => by
    rcases keyIs_shape h with ⟨i, t, rfl, rfl⟩ | ⟨x, t, rfl, rfl⟩ <;> rfl
  pyHash := fun hv h => by
    rcases keyIs_shape hv with ⟨i, t, rfl, rfl⟩ | ⟨x, t, rfl, rfl⟩
    · exact wpAny_pyHash_int h
    · exact wpAny_pyHash_str h
  eqBool := fun hu hv h => by
    rcases keyIs_shape hu with ⟨i, t, rfl, rfl⟩ | ⟨x, t, rfl, rfl⟩
    · rcases keyIs_shape hv with ⟨j, u, rfl, rfl⟩ | ⟨y, u, rfl, rfl⟩
      · rw [key_ll] at h; exact wpAny_eqBool_int h
      · rw [key_lr] at h; exact SeqAt.EqAt.int_str i t y u _ _ _ _ h
    · rcases keyIs_shape hv with ⟨j, u, rfl, rfl⟩ | ⟨y, u, rfl, rfl⟩
      · rw [key_rl] at h; exact SeqAt.EqAt.str_int x t j u _ _ _ _ h
      · rw [key_rr] at h; exact wpAny_eqBool_str h
  «strs» := fun k x t v h => by
    rcases keyIs_shape h with ⟨i, u, rfl, e⟩ | ⟨y, u, rfl, e⟩
    · exact nomatch e
    · injection e with e1 _
      subst e1
      cases v <;> rfl
open PySem PySem.Spec PyProof.Rows
inductive V where
  | non | bl (b : Bool) | int (i : Int) | str (x : Str) | byt (b : Array UInt8) | flt (b : UInt64) | ref (a : Addr) | ty (n : String)
  deriving DecidableEq
def RelV : V → Value → Prop
  | .non, u => u = Value.none
  | .bl b, u => u = Value.bool b
  | .int i, u => ∃ t, u = Value.int i t
  | .str x, u => ∃ t, u = Value.str x t
  | .byt b, u => ∃ t, u = Value.bytes b t
  | .flt b, u => ∃ t, u = Value.float b t
  | .ref a, u => u = Value.ref a
  | .ty n, u => u = Value.type n
abbrev Vals : List V → List Value → Prop := Paired RelV
theorem Vals.length {xs : List V} {us : List Value} (r : Vals xs us) : xs.length = us.length := Paired.length r
theorem Vals.get : ∀ {xs : List V} {us : List Value} {i : Nat} {x : V}, Vals xs us → xs[i]? = some x → ∃ u, us[i]? = some u ∧ RelV x u
  | _, _, _, _, .nil, e => by simp at e
  | _, _, 0, _, .cons r _, e => by simp at e; subst e; exact ⟨_, rfl, r⟩
  | _, _, i + 1, x, .cons _ t, e => by
    obtain ⟨u, h1, h2⟩ := Vals.get (i := i) (x := x) t (by simpa using e)
    exact ⟨u, by simpa using h1, h2⟩
theorem Vals.set {x : V} {u : Value} (r : RelV x u) : ∀ {xs : List V} {us : List Value} (i : Nat), Vals xs us → Vals (xs.set i x) (us.set i u)
  | _, _, _, .nil => .nil
  | _, _, 0, .cons _ t => .cons r t
  | _, _, i + 1, .cons q t => .cons q (Vals.set r i t)
theorem Vals.append : ∀ {xs ys : List V} {us ws : List Value}, Vals xs us → Vals ys ws → Vals (xs ++ ys) (us ++ ws)
  | _, _, _, _, .nil, s => s
  | _, _, _, _, .cons r t, s => .cons r (Vals.append t s)
theorem Vals.take : ∀ {xs : List V} {us : List Value} (n : Nat), Vals xs us → Vals (xs.take n) (us.take n)
  | _, _, 0, _ => .nil
  | _, _, _ + 1, .nil => .nil
  | _, _, n + 1, .cons r t => .cons r (Vals.take n t)
theorem Vals.drop : ∀ {xs : List V} {us : List Value} (n : Nat), Vals xs us → Vals (xs.drop n) (us.drop n)
  | _, _, 0, r => r
  | _, _, _ + 1, .nil => .nil
  | _, _, n + 1, .cons _ t => Vals.drop n t
def RelO : Option V → Option Value → Prop
  | some v, some u => RelV v u
  | none, none => True
  | _, _ => False
def KV {κ : Type} : List (κ × V) → List (κ × Value) → Prop := Paired fun (p : κ × V) (q : κ × Value) => p.1 = q.1 ∧ RelV p.2 q.2
def kV : Key → V
  | .inl i => .int i
  | .inr x => .str x
inductive HO where
  | lst (xs : List V)
  | tup (xs : List V)
  | dK (kvs : List (Key × V)) | dT (kvs : List (List Key × V))
  | set (S : Int → Bool) (n : Nat)
  | ins (C dx : Addr) (fs : List (Str × V))
  | own (x : Addr)
  | xd (fs : List (Str × V))
  | met (f x : Addr)
  | rng (lo hi : Int)
  | frz (o : Obj) (u : HO)
  | tbl (ps : Array Value)
  | ext (φ : Heap → Prop)
abbrev Hp := Addr → Option HO
def upd (H : Hp) (a : Addr) (o : HO) : Hp := fun b => if b = a then some o else H b
theorem upd_same {H : Hp} {a : Addr} {o : HO} : upd H a o a = some o := by unfold upd; rw [if_pos rfl]
theorem upd_ne {H : Hp} {a b : Addr} {o : HO} (h : b ≠ a) : upd H a o b = H b := by unfold upd; rw [if_neg h]
theorem upd_upd {H : Hp} {a : Addr} {o u : HO} : upd (upd H a o) a u = upd H a u := by
  funext b; unfold upd; split <;> rfl
theorem ne_of_none {H : Hp} {a b : Addr} {o : HO} (h : H a = some o) (h' : H b = none) : a ≠ b := by
  intro e; subst e; rw [h] at h'; cases h'
section
variable (P : Program) (w : World)
def ObjOk (H : Hp) (h : Heap) (a : Addr) : HO → Prop
  | .lst xs => xs.length ≤ sizeLine ∧ ∃ (its : List Value) (n : Nat), Vals xs its ∧ h.get? a = some { cls := .type "list", data := .seq its.toArray n }
  | .tup xs => xs.length ≤ sizeLine ∧ ∃ its : List Value, Vals xs its ∧ IsTup h a its.toArray
  | .dK kvs => kvs.length ≤ sizeLine ∧ (a == sysModules) = false ∧ ∃ vs, KV kvs vs ∧ h.DictOf (mixKind P w) a vs
  | .dT kvs => kvs.length ≤ sizeLine ∧ (a == sysModules) = false ∧ ∃ xs : List (List Key × Addr × Value),
      Paired (fun (p : List Key × V) (q : List Key × Addr × Value) => p.1 = q.1 ∧ H q.2.1 = some (.tup (p.1.map kV)) ∧ RelV p.2 q.2.2) kvs xs ∧
      ∃ o es ep, h.get? a = some o ∧ o.ExactDict ∧ o.data = .dict es ep ∧ es.toList = xs.map (entryOfKey (tupleKind (mixKind P w))) ∧ (xs.map (·.1)).Nodup
  | .set S n => h.SetOf (intKind P w) a S n
  | .ins C dx fs => H dx = some (.own a) ∧ fs.length ≤ 1000 ∧ dx ≠ a ∧ h.get? a = some (PySem.W.instObj C dx) ∧
      ∃ mA, h.Ns1 dx mA ∧ (∀ f, RelO (fs.lookup f) (mA f)) ∧ PySem.Within mA (fs.map (·.1))
  | .own _ => ∃ o, h.get? a = some o
  | .xd fs => ∃ mA, h.Ns1 a mA ∧ ∀ f, RelO (fs.lookup f) (mA f)
  | .rng lo hi => ∃ t u v, h.get? a = some { cls := .type "range", data := .fields #[.int lo t, .int hi u, .int 1 v] }
  | .frz o u => h.get? a = some o ∧ ObjOk H h a u
  | .tbl ps => h.get? a = some { cls := .none, data := .fields ps }
  | .met f x => h.get? a = some (PySem.W.methodObj (.ref f) (.ref x))
  | .ext φ => φ h ∧ (∃ o, h.get? a = some o) ∧ ∀ h1 h2 : Heap, φ h1 → (∀ o, h1.get? a = some o → h2.get? a = some o) → φ h2
def HOk (H : Hp) (h : Heap) : Prop := ∀ a o, H a = some o → ObjOk P w H h a o
end
section
variable {P : Program} {w : World} {H H' : Hp} {h h' : Heap} {a : Addr} {o : HO}
theorem ObjOk.lt (x : ObjOk P w H h a o) : a < h.objs.size := by
  cases o with
  | lst xs => obtain ⟨_, _, _, _, e⟩ := x; exact Heap.lt_size e
  | tup xs => obtain ⟨_, _, _, p⟩ := x; exact p.lt
  | dK kvs => obtain ⟨_, _, _, _, o, _, _, e, _⟩ := x; exact Heap.lt_size e
  | dT kvs => obtain ⟨_, _, _, _, o, _, _, e, _⟩ := x; exact Heap.lt_size e
  | set S n => obtain ⟨o, _, _, _, e, _⟩ := x; exact Heap.lt_size e
  | ins C dx fs => obtain ⟨_, _, _, e, _⟩ := x; exact Heap.lt_size e
  | own y => obtain ⟨_, e⟩ := x; exact Heap.lt_size e
  | xd fs => obtain ⟨_, ⟨_, _, _, e, _⟩, _⟩ := x; exact Heap.lt_size e
  | rng lo hi => obtain ⟨_, _, _, e⟩ := x; exact Heap.lt_size e
  | frz ob u => obtain ⟨e, _⟩ := x; exact Heap.lt_size e
  | tbl ps => exact Heap.lt_size (show h.get? a = some _ from x)
  | met f y => exact Heap.lt_size (show h.get? a = some _ from x)
  | ext φ => obtain ⟨_, ⟨_, e⟩, _⟩ := x; exact Heap.lt_size e
theorem Paired.mapP {α β : Type} {F G : α → β → Prop} : ∀ {l₁ : List α} {l₂ : List β}, Paired F l₁ l₂ → (∀ a b, F a b → G a b) → Paired G l₁ l₂
  | _, _, .nil, _ => .nil
  | _, _, .cons r t, f => .cons (f _ _ r) (Paired.mapP t f)
theorem ObjOk.stay (x : ObjOk P w H h a o) (k : ∀ b u, (b = a ∨ H b = some (.own a)) → h.get? b = some u → h'.get? b = some u)
    (ho : ∀ b, H b = some (.own a) → H' b = some (.own a)) (ht : ∀ b xs, H b = some (.tup xs) → H' b = some (.tup xs)) : ObjOk P w H' h' a o := by
  induction o with
  | lst xs => obtain ⟨z, its, n, r, e⟩ := x; exact ⟨z, its, n, r, k _ _ (.inl rfl) e⟩
  | tup xs => obtain ⟨z, its, r, ob, e, c⟩ := x; exact ⟨z, its, r, ob, k _ _ (.inl rfl) e, c⟩
  | dK kvs => obtain ⟨z, y, vs, r, ob, es, ep, e, c⟩ := x; exact ⟨z, y, vs, r, ob, es, ep, k _ _ (.inl rfl) e, c⟩
  | dT kvs =>
    obtain ⟨z, y, xs, r, ob, es, ep, e, c⟩ := x
    exact ⟨z, y, xs, Paired.mapP r fun p q z => ⟨z.1, ht _ _ z.2.1, z.2.2⟩, ob, es, ep, k _ _ (.inl rfl) e, c⟩
  | set S n => obtain ⟨ob, es, ep, t, e, c⟩ := x; exact ⟨ob, es, ep, t, k _ _ (.inl rfl) e, c⟩
  | ins C dx fs =>
    obtain ⟨d, z, ne, e, mA, ⟨od, es, ep, e2, c⟩, r⟩ := x
    exact ⟨ho _ d, z, ne, k _ _ (.inl rfl) e, mA, ⟨od, es, ep, k _ _ (.inr d) e2, c⟩, r⟩
  | own y => obtain ⟨ob, e⟩ := x; exact ⟨ob, k _ _ (.inl rfl) e⟩
  | xd fs => obtain ⟨mA, ⟨od, es, ep, e, c⟩, r⟩ := x; exact ⟨mA, ⟨od, es, ep, k _ _ (.inl rfl) e, c⟩, r⟩
  | rng lo hi => obtain ⟨t, u, v, e⟩ := x; exact ⟨t, u, v, k _ _ (.inl rfl) e⟩
  | frz ob u ih => obtain ⟨e, q⟩ := x; exact ⟨k _ _ (.inl rfl) e, ih q⟩
  | tbl ps =>
    have e : h.get? a = some { cls := .none, data := .fields ps } := x
    show h'.get? a = some { cls := .none, data := .fields ps }
    exact k a _ (.inl rfl) e
  | met f y =>
    have e : h.get? a = some (PySem.W.methodObj (.ref f) (.ref y)) := x
    show h'.get? a = some (PySem.W.methodObj (.ref f) (.ref y))
    exact k a _ (.inl rfl) e
  | ext φ => obtain ⟨p, ⟨o, e⟩, st⟩ := x; exact ⟨st _ _ p fun o q => k _ _ (.inl rfl) q, ⟨o, k _ _ (.inl rfl) e⟩, st⟩
theorem HOk.lt (x : HOk P w H h) (e : H a = some o) : a < h.objs.size := (x a o e).lt
theorem HOk.fresh (x : HOk P w H h) (e : h.objs.size ≤ a) : H a = none := by
  cases q : H a with
  | none => rfl
  | some u => exact absurd (Nat.lt_of_lt_of_le (x.lt q) e) (Nat.lt_irrefl _)
theorem HOk.kept (x : HOk P w H h) (k : ∀ b u, h.get? b = some u → h'.get? b = some u) : HOk P w H h' := fun a o e =>
  (x a o e).stay (fun b u _ q => k b u q) (fun _ q => q) fun _ _ q => q
theorem HOk.laid (x : HOk P w H h) (k : ∀ b u, h.get? b = some u → h'.get? b = some u) (hp : h.objs.size ≤ a) (new : ObjOk P w (upd H a o) h' a o) : HOk P w (upd H a o) h' := fun b u e => by
  have hn := x.fresh hp
  by_cases hb : b = a
  · subst hb; rw [upd_same] at e; cases e; exact new
  · rw [upd_ne hb] at e
    exact (x b u e).stay (fun c v _ q => k c v q) (fun c q => by rw [upd_ne (ne_of_none q hn)]; exact q) fun c xs q => by rw [upd_ne (ne_of_none q hn)]; exact q
end
def Rd (H : Hp) (a : Addr) (u : HO) : Prop := H a = some u ∨ ∃ o, H a = some (.frz o u)
theorem Rd.ok {P : Program} {w : World} {H : Hp} {h : Heap} {a : Addr} {u : HO} (r : Rd H a u) (x : HOk P w H h) : ObjOk P w H h a u := by
  rcases r with r | ⟨o, r⟩
  · exact x a u r
  · obtain ⟨_, q⟩ := x a _ r
    exact q
def Mut : Option HO → Prop
  | some (.lst _) => True
  | some (.dK _) => True
  | some (.dT _) => True
  | some (.set _ _) => True
  | some (.ins _ _ _) => True
  | some (.ext _) => True
  | _ => False
section
variable {P : Program} {w : World} {H : Hp} {h h' : Heap} {x e : Addr} {o' : HO}
theorem HOk.write (ok : HOk P w H h) (mu : Mut (H x)) (he : e = x ∨ H e = some (.own x)) (k : ∀ b u, b ≠ e → h.get? b = some u → h'.get? b = some u) (heo : ∃ u, h'.get? e = some u)
    (new : ObjOk P w (upd H x o') h' x o') : HOk P w (upd H x o') h' := fun b u q => by
  have nown : ∀ c y, H c = some (.own y) → c ≠ x := fun c y r z => by subst z; rw [r] at mu; exact mu
  have ntup : ∀ c xs, H c = some (.tup xs) → c ≠ x := fun c xs r z => by subst z; rw [r] at mu; exact mu
  by_cases hb : b = x
  · subst hb; rw [upd_same] at q; cases q; exact new
  · rw [upd_ne hb] at q
    by_cases hbe : b = e
    · have q' : H b = some (.own x) := by
        rcases he with z | z
        · exact absurd (hbe.trans z) hb
        · rw [hbe]; exact z
      rw [q] at q'; cases q'
      obtain ⟨v, hv⟩ := heo
      exact ⟨v, by rw [hbe]; exact hv⟩
    · refine (ok b u q).stay (fun c v hc r => k c v ?_ r) (fun c r => by rw [upd_ne (nown c b r)]; exact r) fun c xs r => by rw [upd_ne (ntup c xs r)]; exact r
      rcases hc with rfl | hc
      · exact hbe
      · rintro rfl
        rcases he with z | z
        · exact nown c b hc z
        · rw [hc] at z; cases z; exact hb rfl
end
structure Un (fs ex : List Addr) (H H' : Hp) (h h' : Heap) : Prop where
  keep : ∀ b o, h.get? b = some o → H b = none → b ∉ fs → b ∉ ex → h'.get? b = some o
  slot : ∀ b o, h.get? b = some o → H b = none → b ∈ fs → b ∉ ex → ∃ sl, h'.get? b = some { o with slots := sl }
  free : ∀ b o, h.get? b = some o → H b = none → b ∉ ex → H' b = none
  there : ∀ b o, h.get? b = some o → b ∉ ex → ∃ o', h'.get? b = some o'
  tups : ∀ b xs, H b = some (.tup xs) → H' b = some (.tup xs)
  frzs : ∀ b o u, H b = some (.frz o u) → H' b = some (.frz o u)
  tbls : ∀ b ps, H b = some (.tbl ps) → ∃ more, H' b = some (.tbl (ps ++ more))
section
variable {fs fs' ex ex' : List Addr} {H H1 H2 : Hp} {h h1 h2 h' : Heap} {a x e : Addr} {o : HO}
theorem Un.any (u : Un fs ex H H1 h h1) {b : Addr} {ob : Obj} (q : h.get? b = some ob) (n : H b = none) (hx : b ∉ ex) : ∃ sl, h1.get? b = some { ob with slots := sl } := by
  by_cases hb : b ∈ fs
  · exact u.slot b ob q n hb hx
  · exact ⟨ob.slots, u.keep b ob q n hb hx⟩
theorem Un.kept (k : ∀ b u, h.get? b = some u → h'.get? b = some u) : Un fs ex H H h h' :=
  ⟨fun b ob q _ _ _ => k b ob q, fun b ob q _ _ _ => ⟨ob.slots, k b ob q⟩, fun _ _ _ n _ => n, fun b ob q _ => ⟨ob, k b ob q⟩, fun _ _ q => q, fun _ _ _ q => q, fun _ ps q => ⟨#[], by rw [q]; simp⟩⟩
theorem Un.refl : Un fs ex H H h h := Un.kept fun _ _ q => q
theorem Un.laid (k : ∀ b u, h.get? b = some u → h'.get? b = some u) (hp : h.objs.size ≤ a) (hn : H a = none) : Un fs ex H (upd H a o) h h' where
  keep := fun b u q _ _ _ => k b u q
  slot := fun b u q _ _ _ => ⟨u.slots, k b u q⟩
  free := fun b u q n _ => by rw [upd_ne (Nat.ne_of_lt (Nat.lt_of_lt_of_le (Heap.lt_size q) hp))]; exact n
  there := fun b u q _ => ⟨u, k b u q⟩
  tups := fun b xs q => by rw [upd_ne (ne_of_none q hn)]; exact q
  frzs := fun b u xs q => by rw [upd_ne (ne_of_none q hn)]; exact q
  tbls := fun b ps q => ⟨#[], by rw [upd_ne (ne_of_none q hn), q]; simp⟩
theorem Un.write (mu : Mut (H x)) (he : e = x ∨ H e = some (.own x)) (k : ∀ b u, b ≠ e → h.get? b = some u → h'.get? b = some u) (heo : ∃ u, h'.get? e = some u) : Un fs ex H (upd H x o) h h' := by
  have hx : ∀ b, H b = none → b ≠ x := fun b n z => by subst z; rw [n] at mu; exact mu
  have hb : ∀ b, H b = none → b ≠ e := fun b n z => by
    subst z
    rcases he with r | r
    · exact hx b n r
    · rw [n] at r; cases r
  have hm : ∀ b u, H b = some u → ¬ Mut (some u) → b ≠ x := fun b u q nm z => by subst z; rw [q] at mu; exact nm mu
  refine ⟨fun b u q n _ _ => k b u (hb b n) q, fun b u q n _ _ => ⟨u.slots, k b u (hb b n) q⟩, fun b u q n _ => by rw [upd_ne (hx b n)]; exact n, fun b u q _ => ?_,
    fun b xs q => by rw [upd_ne (hm b _ q fun z => z)]; exact q, fun b u xs q => by rw [upd_ne (hm b _ q fun z => z)]; exact q, fun b ps q => ⟨#[], by rw [upd_ne (hm b _ q fun z => z), q]; simp⟩⟩
  by_cases hbe : b = e
  · subst hbe; exact heo
  · exact ⟨u, k b u hbe q⟩
end
def trk (h : Heap) (H : Hp) : List Addr := (List.range h.objs.size).filter fun a => (H a).isSome
def hidT (h : Heap) (H : Hp) : Heap := PySem.W.hideAll h (trk h H)
theorem hidT_size (h : Heap) (H : Hp) : (hidT h H).objs.size = h.objs.size := PySem.W.hideAll_size _ _
theorem hidT_get {h : Heap} {H : Hp} {b : Addr} {o : Obj} (e : h.get? b = some o) (n : H b = none) : (hidT h H).get? b = some o :=
  PySem.W.hideAll_get _ e fun hm => by
    have q : (H b).isSome = true := (List.mem_filter.mp hm).2
    rw [n] at q; simp at q
theorem of_hidT {h : Heap} {H : Hp} {b : Addr} {o : Obj} (e : (hidT h H).get? b = some o) : h.get? b = some o ∧ H b = none := by
  have e' : h.get? b = some o := PySem.W.of_hideAll (trk h H) e
  refine ⟨e', ?_⟩
  cases q : H b with
  | none => rfl
  | some x =>
    have hm : b ∈ trk h H := List.mem_filter.mpr ⟨List.mem_range.mpr (Heap.lt_size e'), by simp [q]⟩
    have z : (hidT h H).get? b = none := PySem.W.hideAll_none (trk h H) hm
    rw [z] at e; cases e
def allNews (g h : Heap) (L : Addr) : List (Addr × Obj) := (List.range h.objs.size).filterMap fun a => if a = L ∨ (g.get? a).isSome = true then none else (h.get? a).map fun o => (a, o)
def rest (g h : Heap) (L d : Addr) : List (Addr × Obj) := (allNews g h L).filter fun p => decide (p.1 ≠ d)
open PySem PySem.Spec PyProof.Rows
structure Mod (K : PySem.W.Frag) (mg : Str → Option Value) (base : Heap) : Prop where
  kin : K.In base
  glob : base.Ns mainGlobals mg
  blt : ∃ mb, base.Ns builtinsNs mb ∧ ∀ x : Str, x ≠ "__name__" → mb x = bootBuiltins x
  nolimit : base.NoLimit
structure Cx where
  prog : Program
  w : World
  K : PySem.W.Frag
  mg : Str → Option Value
  base : Heap
  A : Around
  N : List Str
  s₀ : Shared
  H₀ : Hp
  env : Env
  outer : List Env
  stack : List Env
  ex : List Addr
  fn : Str → Bool
  calm : Bool
  pn : List (Addr × Obj)
  xe : Value → Shared → Prop
def frs (l : List Env) : List Addr := l.filterMap (·.frame)
abbrev Cx.fs (X : Cx) : List Addr := frs X.outer
def Vis (sc : Scope) (x : Str) : Prop := sc.names.lookup x = some .local ∨ sc.names.lookup x = some .cell ∨ sc.names.lookup x = some .free
def Loc (sc : Scope) (x : Str) : Prop := sc.names.lookup x = some .local ∨ sc.names.lookup x = some .cell
def Look (env : Env) (h : Heap) (m : Str → Option Value) (x : Str) (u : Value) : Prop :=
  (env.kindOf x = some .local ∧ m x = some u) ∨ ((env.kindOf x = some .cell ∨ env.kindOf x = some .free) ∧ ∃ c, env.cells.lookup x = some c ∧ h.IsCell c (some u))
structure Cx.Ok (X : Cx) : Prop where
  mod : Mod X.K X.mg X.base
  kind : X.env.scope.kind = .function
  glob : X.env.globals = mainGlobals
  blt : X.env.builtins = builtinsNs
  above : X.s₀.heap.objs.size ≤ X.env.locals
  inj : ∀ x y c, X.env.cells.lookup x = some c → X.env.cells.lookup y = some c → x = y
  has : ∀ x, (X.env.kindOf x = some .cell ∨ X.env.kindOf x = some .free) → ∃ c, X.env.cells.lookup x = some c
  cab : ∀ x c, X.fn x = true → X.env.cells.lookup x = some c → X.s₀.heap.objs.size ≤ c
  hd : X.calm = true → X.A.handled = none
  frames : X.A.frames = some X.stack
  stk : X.stack = X.outer ∨ (X.stack = X.env :: X.outer ∧ X.env.frame = some X.env.locals)
  exf : ∀ b ∈ X.ex, b ≠ X.env.locals ∧ ∀ x c, X.env.cells.lookup x = some c → c ≠ b
  bs : ∀ b o, X.base.get? b = some o → X.s₀.heap.get? b = some o ∧ X.H₀ b = none
  bsz : X.base.objs.size ≤ X.s₀.heap.objs.size
  noex : ∀ b o, X.base.get? b = some o → b ∉ X.ex
  exfs : ∀ b ∈ X.ex, b ∉ X.fs
  funs : X.s₀.heap.FunFrames X.base X.outer
  frf : ∀ b ∈ X.fs, X.H₀ b = none
structure Inv (X : Cx) (pins : List (Addr × Obj)) (σ : List (Option V)) (H : Hp) (s : Shared) : Prop where
  ok : X.Ok
  os : s.os = X.s₀.os
  bare : AllBare s.gens
  base : Un X.fs X.ex X.H₀ H X.s₀.heap s.heap
  loc : ∃ m, s.heap.Ns X.env.locals m ∧ ∀ (i : Nat) (x : Str) (v : V), X.N[i]? = some x → σ[i]? = some (some v) → Vis X.env.scope x → ∃ u, RelV v u ∧ Look X.env s.heap m x u
  cell : ∀ x c, X.env.cells.lookup x = some c → ∃ v, s.heap.IsCell c v
  free : H X.env.locals = none
  freeC : ∀ x c, X.env.cells.lookup x = some c → H c = none
  pin : ∀ p ∈ X.pn ++ pins, s.heap.get? p.1 = some p.2 ∧ H p.1 = none ∧ p.1 ≠ X.env.locals ∧ p.1 ∉ X.fs ∧ ∀ v, p.2.data ≠ .cell v
  hok : HOk X.prog X.w H s.heap
  len : σ.length = X.N.length
section
variable {X : Cx} {pins : List (Addr × Obj)} {σ : List (Option V)} {H H' : Hp} {s : Shared} {h' : Heap}
theorem Cx.Ok.nofr (ok : X.Ok) {b : Addr} {o : Obj} (e : X.base.get? b = some o) : b ∉ X.fs := fun hb => by
  have := (ok.funs.mem hb).1
  rw [e] at this; cases this
theorem Inv.bs (I : Inv X pins σ H s) : ∀ b o, X.base.get? b = some o → s.heap.get? b = some o ∧ H b = none := fun b o e =>
  ⟨I.base.keep b o (I.ok.bs b o e).1 (I.ok.bs b o e).2 (I.ok.nofr e) (I.ok.noex b o e), I.base.free b o (I.ok.bs b o e).1 (I.ok.bs b o e).2 (I.ok.noex b o e)⟩
theorem Inv.bk (I : Inv X pins σ H s) : ∀ b o, X.base.get? b = some o → s.heap.get? b = some o := fun b o e => (I.bs b o e).1
theorem Inv.mod (I : Inv X pins σ H s) : Mod X.K X.mg X.base := I.ok.mod
theorem Inv.kIn (I : Inv X pins σ H s) : X.K.In s.heap := I.ok.mod.kin.keeps I.bk
theorem Inv.lt (I : Inv X pins σ H s) : X.env.locals < s.heap.objs.size := let ⟨_, hn, _⟩ := I.loc; hn.lt
theorem Inv.sz (I : Inv X pins σ H s) : X.s₀.heap.objs.size ≤ s.heap.objs.size := Nat.le_trans I.ok.above (Nat.le_of_lt I.lt)
theorem Inv.nofs (I : Inv X pins σ H s) {a : Addr} (h : s.heap.objs.size ≤ a) : a ∉ X.fs := fun hb => by
  obtain ⟨_, o, ho, _⟩ := I.ok.funs.mem hb
  exact absurd (Nat.lt_of_lt_of_le (Heap.lt_size ho) (Nat.le_trans I.sz h)) (Nat.lt_irrefl _)
theorem Inv.cne (I : Inv X pins σ H s) : ∀ x c, X.env.cells.lookup x = some c → c ≠ X.env.locals := fun x c e z => by
  obtain ⟨v, o, ho, hd⟩ := I.cell x c e
  obtain ⟨m, ⟨o', es, ep, ho', hd', _⟩, _⟩ := I.loc
  rw [z, ho'] at ho; cases ho; rw [hd'] at hd; cases hd
theorem Inv.funs (I : Inv X pins σ H s) : s.heap.FunFrames X.base X.outer := by
  have all : ∀ (l : List Env), (∀ b ∈ frs l, b ∈ X.fs) → X.s₀.heap.FunFrames X.base l → s.heap.FunFrames X.base l := by
    intro l
    induction l with
    | nil => intro _ _; trivial
    | cons env r ih =>
      intro hs hl
      obtain ⟨hk, ⟨L, o, hf, hn, ho, hd⟩, hr⟩ := hl
      have hL : L ∈ X.fs := hs L (by unfold frs; rw [List.filterMap_cons, hf]; exact List.mem_cons_self)
      obtain ⟨sl, e⟩ := I.base.slot L o ho (I.ok.frf L hL) hL fun z => I.ok.exfs L z hL
      exact ⟨hk, ⟨L, _, hf, hn, e, hd⟩, ih (fun b hb => hs b (by unfold frs; rw [List.filterMap_cons, hf]; exact List.mem_cons_of_mem _ hb)) hr⟩
  exact all X.outer (fun _ hb => hb) I.ok.funs
theorem Inv.stack (I : Inv X pins σ H s) : s.heap.FunFrames X.base X.stack := by
  rcases I.ok.stk with e | ⟨e, hf⟩
  · rw [e]; exact I.funs
  · rw [e]
    obtain ⟨m, hn, _⟩ := I.loc
    refine .cons (by rw [I.ok.kind]; decide) hf hn ?_ I.funs
    exact Heap.get?_none_of_le (Nat.le_trans I.ok.bsz I.ok.above)
theorem Inv.stkSub (I : Inv X pins σ H s) : ∀ b ∈ frs X.stack, b ∈ X.env.locals :: X.fs := fun b hb => by
  rcases I.ok.stk with e | ⟨e, hf⟩
  · rw [e] at hb; exact List.mem_cons_of_mem _ hb
  · rw [e] at hb
    unfold frs at hb
    rw [List.filterMap_cons, hf] at hb
    exact hb
theorem Inv.stkFree (I : Inv X pins σ H s) : ∀ b ∈ frs X.stack, H b = none := fun b hb => by
  rcases List.mem_cons.mp (I.stkSub b hb) with e | hb
  · rw [e]; exact I.free
  · obtain ⟨_, o, ho, _⟩ := I.ok.funs.mem hb
    exact I.base.free b o ho (I.ok.frf b hb) fun z => I.ok.exfs b z hb
theorem Inv.step {g' : Array GenState} {t' : Nat} {d' : Drawn} {ch : List Addr} (I : Inv X pins σ H s)
    (hch : ∀ b ∈ ch, (b ∈ X.ex ∨ X.s₀.heap.objs.size ≤ b) ∧ b ≠ X.env.locals ∧ (∀ x c, X.env.cells.lookup x = some c → c ≠ b) ∧ ∀ p ∈ X.pn ++ pins, p.1 ≠ b)
    (keep : ∀ b o, b ≠ X.env.locals → b ∉ X.fs → b ∉ ch → s.heap.get? b = some o → H b = none → h'.get? b = some o)
    (slot : ∀ b o, b ≠ X.env.locals → b ∈ X.fs → b ∉ ch → s.heap.get? b = some o → H b = none → ∃ sl, h'.get? b = some { o with slots := sl }) (free : ∀ b o, b ∉ ch → s.heap.get? b = some o → H b = none → H' b = none)
    (there : ∀ b o, b ∉ ch → s.heap.get? b = some o → ∃ o', h'.get? b = some o')
    (tups : ∀ b xs, H b = some (.tup xs) → H' b = some (.tup xs)) (frzs : ∀ b o u, H b = some (.frz o u) → H' b = some (.frz o u)) (tbls : ∀ b ps, H b = some (.tbl ps) → ∃ more, H' b = some (.tbl (ps ++ more)))
    (ns : ∀ m, s.heap.Ns X.env.locals m → h'.Ns X.env.locals m) (hok : HOk X.prog X.w H' h') (hg : AllBare g') :
    Inv X pins σ H' { s with heap := h', gens := g', drawn := d', toks := t' } := by
  have neL : ∀ b o, X.s₀.heap.get? b = some o → b ≠ X.env.locals := fun b o e => Nat.ne_of_lt (Nat.lt_of_lt_of_le (Heap.lt_size e) I.ok.above)
  have neC : ∀ b o, X.s₀.heap.get? b = some o → b ∉ X.ex → b ∉ ch := fun b o e hx hb => by
    rcases (hch b hb).1 with z | z
    · exact hx z
    · exact absurd (Nat.lt_of_lt_of_le (Heap.lt_size e) z) (Nat.lt_irrefl _)
  have cellK : ∀ x c, X.env.cells.lookup x = some c → ∀ v, s.heap.IsCell c v → h'.IsCell c v := fun x c e v ⟨o, ho, hd⟩ => by
    have nch : c ∉ ch := fun z => (hch c z).2.2.1 x c e rfl
    by_cases hc : c ∈ X.fs
    · obtain ⟨sl, q⟩ := slot c o (I.cne x c e) hc nch ho (I.freeC x c e)
      exact ⟨_, q, hd⟩
    · exact ⟨o, keep c o (I.cne x c e) hc nch ho (I.freeC x c e), hd⟩
  refine ⟨I.ok, I.os, hg, ⟨fun b o e n hb hx => ?_, fun b o e n hb hx => ?_, fun b o e n hx => ?_, fun b o e hx => ?_, fun b xs e => tups b xs (I.base.tups b xs e), fun b o xs e => frzs b o xs (I.base.frzs b o xs e), fun b ps e => ?_⟩, ?_, fun x c e => ?_, ?_, fun x c e => ?_, fun p hp => ?_, hok, I.len⟩
  · exact keep b o (neL b o e) hb (neC b o e hx) (I.base.keep b o e n hb hx) (I.base.free b o e n hx)
  · obtain ⟨sl, e1⟩ := I.base.slot b o e n hb hx
    obtain ⟨sl', e2⟩ := slot b _ (neL b o e) hb (neC b o e hx) e1 (I.base.free b o e n hx)
    exact ⟨sl', e2⟩
  · obtain ⟨o', e1⟩ := I.base.there b o e hx
    exact free b o' (neC b o e hx) e1 (I.base.free b o e n hx)
  · obtain ⟨o', e1⟩ := I.base.there b o e hx
    exact there b o' (neC b o e hx) e1
  · obtain ⟨m1, e1⟩ := I.base.tbls b ps e
    obtain ⟨m2, e2⟩ := tbls b _ e1
    exact ⟨m1 ++ m2, by rw [e2, Array.append_assoc]⟩
  · obtain ⟨m, hn, hl⟩ := I.loc
    refine ⟨m, ns m hn, fun i x v e1 e2 e3 => ?_⟩
    obtain ⟨u, r, l⟩ := hl i x v e1 e2 e3
    refine ⟨u, r, ?_⟩
    rcases l with l | ⟨k, c, e, z⟩
    · exact .inl l
    · exact .inr ⟨k, c, e, cellK x c e _ z⟩
  · obtain ⟨v, z⟩ := I.cell x c e
    exact ⟨v, cellK x c e v z⟩
  · obtain ⟨m, ⟨o, _, _, ho, _⟩, _⟩ := I.loc
    exact free _ o (fun z => (hch _ z).2.1 rfl) ho I.free
  · obtain ⟨v, o, ho, hd⟩ := I.cell x c e
    exact free c o (fun z => (hch c z).2.2.1 x c e rfl) ho (I.freeC x c e)
  · obtain ⟨e, n, ne, nf, d⟩ := I.pin p hp
    have nch : p.1 ∉ ch := fun z => (hch p.1 z).2.2.2 p hp rfl
    exact ⟨keep p.1 p.2 ne nf nch e n, free p.1 p.2 nch e n, ne, nf, d⟩
theorem Inv.un {t' : Nat} (I : Inv X pins σ H s) (u : Un X.fs [] H H' s.heap h') (hok : HOk X.prog X.w H' h') : Inv X pins σ H' { s with heap := h', toks := t' } := by
  obtain ⟨m, ⟨o, es, ep, ho, r⟩, _⟩ := id I.loc
  obtain ⟨sl, hL⟩ := u.any ho I.free (by simp)
  exact I.step (g' := s.gens) (d' := s.drawn) (ch := []) (fun _ z => nomatch z) (fun b o _ hb _ e n => u.keep b o e n hb (by simp)) (fun b o _ hb _ e n => u.slot b o e n hb (by simp)) (fun b o _ e n => u.free b o e n (by simp)) (fun b o _ e => u.there b o e (by simp)) u.tups u.frzs u.tbls (fun m' hm => by
    obtain ⟨o', es', ep', ho', r'⟩ := hm
    rw [ho] at ho'; cases ho'
    exact ⟨_, es', ep', hL, r'⟩) hok I.bare
theorem Inv.call {g' : Array GenState} {t' : Nat} {d' : Drawn} {ch : List Addr} (I : Inv X pins σ H s) (u : Un (frs X.stack) ch H H' s.heap h') (hok : HOk X.prog X.w H' h') (hg : AllBare g')
    (hch : ∀ b ∈ ch, (b ∈ X.ex ∨ X.s₀.heap.objs.size ≤ b) ∧ b ≠ X.env.locals ∧ (∀ x c, X.env.cells.lookup x = some c → c ≠ b) ∧ ∀ p ∈ X.pn ++ pins, p.1 ≠ b) :
    Inv X pins σ H' { s with heap := h', gens := g', drawn := d', toks := t' } := by
  obtain ⟨m, ⟨o, es, ep, ho, r⟩, _⟩ := id I.loc
  obtain ⟨sl, hL⟩ := u.any ho I.free fun z => (hch _ z).2.1 rfl
  exact I.step (ch := ch) hch (fun b o hL hb hc e n => u.keep b o e n (fun z => (List.mem_cons.mp (I.stkSub b z)).elim hL hb) hc) (fun b o _ _ hc e n => u.any e n hc) (fun b o hc e n => u.free b o e n hc) (fun b o hc e => u.there b o e hc) u.tups u.frzs u.tbls (fun m' hm => by
    obtain ⟨o', es', ep', ho', r'⟩ := hm
    rw [ho] at ho'; cases ho'
    exact ⟨_, es', ep', hL, r'⟩) hok hg
theorem Inv.turned {t' : Nat} {it : Addr} (I : Inv X pins σ H s) (k : ∀ b o, b ≠ it → s.heap.get? b = some o → h'.get? b = some o) (hn : H it = none) (hL : it ≠ X.env.locals)
    (h1 : it ∈ X.ex ∨ X.s₀.heap.objs.size ≤ it) (h2 : ∀ x c, X.env.cells.lookup x = some c → c ≠ it) (h3 : ∀ p ∈ X.pn ++ pins, p.1 ≠ it) : Inv X pins σ H { s with heap := h', toks := t' } := by
  have nit : ∀ b u, H b = some u → b ≠ it := fun b u e z => by rw [z, hn] at e; cases e
  refine I.step (g' := s.gens) (d' := s.drawn) (ch := [it]) (fun b hb => ?_) (fun b o _ _ hc e _ => k b o (fun z => hc (by simp [z])) e) (fun b o _ _ hc e _ => ⟨o.slots, k b o (fun z => hc (by simp [z])) e⟩) (fun _ _ _ _ n => n)
    (fun b o hc e => ⟨o, k b o (fun z => hc (by simp [z])) e⟩) (fun _ _ e => e) (fun _ _ _ e => e) (fun b ps e => ⟨#[], by rw [e]; simp⟩) (fun m hm => ?_) (fun b u e => ?_) I.bare
  · have e : b = it := by simpa using hb
    subst e
    exact ⟨h1, hL, h2, h3⟩
  · obtain ⟨o, es, ep, ho, r⟩ := hm
    exact ⟨o, es, ep, k _ o (Ne.symm hL) ho, r⟩
  · refine (I.hok b u e).stay (fun c v hc q => k c v ?_ q) (fun _ q => q) fun _ _ q => q
    rcases hc with z | z
    · rw [z]; exact nit b u e
    · exact nit c _ z
theorem Inv.tok (I : Inv X pins σ H s) (t : Nat) : Inv X pins σ H { s with toks := t } := I.un (h' := s.heap) (t' := t) Un.refl I.hok
theorem Inv.kept {t' : Nat} (I : Inv X pins σ H s) (k : ∀ b u, s.heap.get? b = some u → h'.get? b = some u) : Inv X pins σ H { s with heap := h', toks := t' } := I.un (Un.kept k) (I.hok.kept k)
theorem Inv.laid {a : Addr} {o : HO} {t' : Nat} (I : Inv X pins σ H s) (k : ∀ b u, s.heap.get? b = some u → h'.get? b = some u) (hp : s.heap.objs.size ≤ a) (new : ObjOk X.prog X.w (upd H a o) h' a o) :
    Inv X pins σ (upd H a o) { s with heap := h', toks := t' } := I.un (Un.laid k hp (I.hok.fresh hp)) (I.hok.laid k hp new)
theorem Inv.write {x e : Addr} {o : HO} {t' : Nat} (I : Inv X pins σ H s) (mu : Mut (H x)) (he : e = x ∨ H e = some (.own x)) (k : ∀ b u, b ≠ e → s.heap.get? b = some u → h'.get? b = some u) (heo : ∃ u, h'.get? e = some u)
    (new : ObjOk X.prog X.w (upd H x o) h' x o) : Inv X pins σ (upd H x o) { s with heap := h', toks := t' } := I.un (Un.write mu he k heo) (I.hok.write mu he k heo new)
theorem Inv.pins_of {pins' : List (Addr × Obj)} (I : Inv X pins σ H s) (h : ∀ p ∈ pins', s.heap.get? p.1 = some p.2 ∧ H p.1 = none ∧ p.1 ≠ X.env.locals ∧ p.1 ∉ X.fs ∧ ∀ v, p.2.data ≠ .cell v) : Inv X pins' σ H s :=
  ⟨I.ok, I.os, I.bare, I.base, I.loc, I.cell, I.free, I.freeC, fun p hp => (List.mem_append.mp hp).elim (fun z => I.pin p (List.mem_append_left _ z)) (h p), I.hok, I.len⟩
theorem nodup_ix {N : List Str} (hN : N.Nodup) {i j : Nat} {x : Str} (a : N[i]? = some x) (b : N[j]? = some x) : i = j := by
  obtain ⟨h1, e1⟩ := List.getElem?_eq_some_iff.mp a
  obtain ⟨h2, e2⟩ := List.getElem?_eq_some_iff.mp b
  exact (List.getElem_inj hN).mp (e1.trans e2.symm)
theorem store_ok2 {M : Model} {A : Around} {E : Value → Shared → Prop} {i : Nat} {x : Str} {v : V} {u : Value} {Q : Unit → Shared → Prop} (I : Inv X pins σ H s) (hN : X.N.Nodup) (hi : X.N[i]? = some x) (hx : Loc X.env.scope x) (r : RelV v u)
    (h : ∀ s', Inv X pins (σ.set i (some v)) H s' → (∃ a, Heap.SameBut a s.heap s'.heap ∧ (a = X.env.locals ∨ X.env.cells.lookup x = some a)) → Q () s') (hf : X.fn x = true ∨ X.env.scope.names.lookup x = some .local := by first | exact .inl rfl | exact .inr rfl | assumption) : wpAny M A (storeName X.env x u) Q E s := by
  obtain ⟨m, hn, hl⟩ := id I.loc
  have hcls : (X.env.scope.kind == .class || (X.env.scope.kind == .module && X.env.locals != X.env.globals)) = false := by rw [I.ok.kind]; rfl
  have hiσ : i < σ.length := by rw [I.len]; exact (List.getElem?_eq_some_iff.mp hi).1
  have cne := I.cne
  have tracked : ∀ {a : Addr} {h' : Heap}, (∃ o, s.heap.get? a = some o ∧ H a = none) → Heap.SameBut a s.heap h' → HOk X.prog X.w H h' := fun {a h'} ha hs b ob e => by
    obtain ⟨_, _, hfree⟩ := ha
    refine (I.hok b ob e).stay (fun c w' hc q => (hs.2 c ?_).trans q) (fun _ q => q) fun _ _ q => q
    rintro rfl
    rcases hc with rfl | hc
    · rw [hfree] at e; cases e
    · rw [hfree] at hc; cases hc
  rcases hx with hk | hk
  · refine wpAny_storeName_local hk hn (fun h' hn' hs => ?_) hcls
    obtain ⟨oL, _, _, hoL, _⟩ := id hn
    refine h _ ⟨I.ok, I.os, I.bare, ⟨fun b o e n hb hx => ?_, fun b o e n hb hx => ?_, I.base.free, fun b o e hx => ?_, I.base.tups, I.base.frzs, I.base.tbls⟩, ⟨_, hn', fun j y v' e1 e2 e3 => ?_⟩, fun y c e => ?_, I.free, I.freeC, fun p hp => ?_, tracked ⟨oL, hoL, I.free⟩ hs, by simpa using I.len⟩ ⟨_, hs, .inl rfl⟩
    · exact (hs.2 b (Nat.ne_of_lt (Nat.lt_of_lt_of_le (Heap.lt_size e) I.ok.above))).trans (I.base.keep b o e n hb hx)
    · obtain ⟨sl, e1⟩ := I.base.slot b o e n hb hx
      exact ⟨sl, (hs.2 b (Nat.ne_of_lt (Nat.lt_of_lt_of_le (Heap.lt_size e) I.ok.above))).trans e1⟩
    · obtain ⟨o', e1⟩ := I.base.there b o e hx
      exact ⟨o', (hs.2 b (Nat.ne_of_lt (Nat.lt_of_lt_of_le (Heap.lt_size e) I.ok.above))).trans e1⟩
    · by_cases hj : j = i
      · subst hj
        rw [hi] at e1; cases e1
        rw [List.getElem?_set_self hiσ] at e2
        cases e2
        exact ⟨u, r, .inl ⟨hk, by simp⟩⟩
      · rw [List.getElem?_set_ne (Ne.symm hj)] at e2
        obtain ⟨u', r', q⟩ := hl j y v' e1 e2 e3
        refine ⟨u', r', ?_⟩
        rcases q with ⟨k, e⟩ | ⟨k, c, e, z⟩
        · refine .inl ⟨k, ?_⟩
          have : y ≠ x := fun e => hj (nodup_ix hN e1 (e ▸ hi))
          simp [this, e]
        · exact .inr ⟨k, c, e, z.sameBut hs (cne y c e)⟩
    · obtain ⟨w', z⟩ := I.cell y c e
      exact ⟨w', z.sameBut hs (cne y c e)⟩
    · obtain ⟨e, n, ne, nf, d⟩ := I.pin p hp
      exact ⟨(hs.2 p.1 ne).trans e, n, ne, nf, d⟩
  · have hfn : X.fn x = true := by
      rcases hf with z | z
      · exact z
      · rw [z] at hk; cases hk
    obtain ⟨c, hc⟩ := I.ok.has x (.inl hk)
    obtain ⟨w', z⟩ := I.cell x c hc
    refine wpAny_storeName_cell I.ok.kind hk hc z (fun h' hc' hs => ?_)
    obtain ⟨oc, hoc, hocd⟩ := id z
    refine h { s with heap := h' } ⟨I.ok, I.os, I.bare, ⟨fun b o e n hb hx => ?_, fun b o e n hb hx => ?_, I.base.free, fun b o e hx => ?_, I.base.tups, I.base.frzs, I.base.tbls⟩, ⟨m, hn.sameBut hs (Ne.symm (cne x c hc)), fun j y v' e1 e2 e3 => ?_⟩, fun y c' e => ?_, I.free, I.freeC, fun p hp => ?_, tracked ⟨oc, hoc, I.freeC x c hc⟩ hs, by simpa using I.len⟩ ⟨c, hs, .inr hc⟩
    · exact (hs.2 b (Nat.ne_of_lt (Nat.lt_of_lt_of_le (Heap.lt_size e) (I.ok.cab x c hfn hc)))).trans (I.base.keep b o e n hb hx)
    · obtain ⟨sl, e1⟩ := I.base.slot b o e n hb hx
      exact ⟨sl, (hs.2 b (Nat.ne_of_lt (Nat.lt_of_lt_of_le (Heap.lt_size e) (I.ok.cab x c hfn hc)))).trans e1⟩
    · obtain ⟨o', e1⟩ := I.base.there b o e hx
      exact ⟨o', (hs.2 b (Nat.ne_of_lt (Nat.lt_of_lt_of_le (Heap.lt_size e) (I.ok.cab x c hfn hc)))).trans e1⟩
    · by_cases hj : j = i
      · subst hj
        rw [hi] at e1; cases e1
        rw [List.getElem?_set_self hiσ] at e2
        cases e2
        exact ⟨u, r, .inr ⟨.inl hk, c, hc, hc'⟩⟩
      · rw [List.getElem?_set_ne (Ne.symm hj)] at e2
        obtain ⟨u', r', q⟩ := hl j y v' e1 e2 e3
        refine ⟨u', r', ?_⟩
        rcases q with q | ⟨k, c', e, z'⟩
        · exact .inl q
        · refine .inr ⟨k, c', e, z'.sameBut hs ?_⟩
          rintro rfl
          exact hj (nodup_ix hN e1 (I.ok.inj _ _ _ e hc ▸ hi))
    · by_cases hcc : c' = c
      · subst hcc; exact ⟨_, hc'⟩
      · obtain ⟨w2, z2⟩ := I.cell y c' e
        exact ⟨w2, z2.sameBut hs hcc⟩
    · obtain ⟨e, n, ne, nf, d⟩ := I.pin p hp
      refine ⟨(hs.2 p.1 ?_).trans e, n, ne, nf, d⟩
      intro q
      rw [q, hoc] at e
      have q' : oc = p.2 := Option.some.inj e
      exact d w' (by rw [← q']; exact hocd)
theorem store_ok {M : Model} {A : Around} {E : Value → Shared → Prop} {i : Nat} {x : Str} {v : V} {u : Value} {Q : Unit → Shared → Prop} (I : Inv X pins σ H s) (hN : X.N.Nodup) (hi : X.N[i]? = some x) (hx : Loc X.env.scope x) (r : RelV v u)
    (h : ∀ s', Inv X pins (σ.set i (some v)) H s' → Q () s') (hf : X.fn x = true ∨ X.env.scope.names.lookup x = some .local := by first | exact .inl rfl | exact .inr rfl | assumption) : wpAny M A (storeName X.env x u) Q E s :=
  store_ok2 I hN hi hx r (fun s' I' _ => h s' I') hf
theorem Inv.call' {s' : Shared} {ch : List Addr} (I : Inv X pins σ H s) (ho : s'.os = s.os) (u : Un (frs X.stack) ch H H' s.heap s'.heap) (hok : HOk X.prog X.w H' s'.heap) (hg : AllBare s'.gens)
    (hch : ∀ b ∈ ch, (b ∈ X.ex ∨ X.s₀.heap.objs.size ≤ b) ∧ b ≠ X.env.locals ∧ (∀ x c, X.env.cells.lookup x = some c → c ≠ b) ∧ ∀ p ∈ X.pn ++ pins, p.1 ≠ b) : Inv X pins σ H' s' := by
  obtain ⟨h', g', d', t', o'⟩ := s'
  have e : o' = s.os := ho
  subst e
  exact I.call (g' := g') (t' := t') (d' := d') u hok hg hch
end
abbrev XK := Value → Option Addr → Hp → Prop
abbrev St := List (Option V)
abbrev VK := V → Hp → Prop
abbrev TE := St → Hp → VK → Prop
abbrev TT := St → Hp → (Bool → Hp → Prop) → Prop
abbrev TA := St → Hp → (List V → Hp → Prop) → Prop
structure Ends where
  nx : St → Hp → Prop
  rt : VK
  bk : St → Hp → Prop := fun _ _ => False
  ct : St → Hp → Prop := fun _ _ => False
abbrev TS := Ends → St → Hp → Prop
def EP (X : Cx) (pins : List (Addr × Obj)) (σ : St) (Q : VK) (u : Value) (s' : Shared) : Prop := ∃ v H', Inv X pins σ H' s' ∧ RelV v u ∧ Q v H'
def TP (X : Cx) (pins : List (Addr × Obj)) (σ : St) (Q : Bool → Hp → Prop) (b : Bool) (s' : Shared) : Prop := ∃ H', Inv X pins σ H' s' ∧ Q b H'
def AP (X : Cx) (pins : List (Addr × Obj)) (σ : St) (Q : List V → Hp → Prop) (us : List Value) (s' : Shared) : Prop := ∃ vs H', Inv X pins σ H' s' ∧ Vals vs us ∧ Q vs H'
def SP (X : Cx) (pins : List (Addr × Obj)) (D : Ends) (f : Flow) (s' : Shared) : Prop :=
  match f with
  | .next => ∃ σ' H', Inv X pins σ' H' s' ∧ D.nx σ' H'
  | .brk => ∃ σ' H', Inv X pins σ' H' s' ∧ D.bk σ' H'
  | .cont => ∃ σ' H', Inv X pins σ' H' s' ∧ D.ct σ' H'
  | .ret u => ∃ v σ' H', Inv X pins σ' H' s' ∧ RelV v u ∧ D.rt v H'
def PE (X : Cx) (e : Expr) (t : TE) : Prop :=
  ∀ (pins : List (Addr × Obj)) (s : Shared) (σ : St) (H : Hp) (Q : VK), Inv X pins σ H s → t σ H Q → wpAny (model X.prog X.w) X.A (eval e X.env) (EP X pins σ Q) X.xe s
def PT (X : Cx) (e : Expr) (t : TT) : Prop :=
  ∀ (pins : List (Addr × Obj)) (s : Shared) (σ : St) (H : Hp) (Q : Bool → Hp → Prop), Inv X pins σ H s → t σ H Q → wpAny (model X.prog X.w) X.A (isTrue e X.env (eval e X.env)) (TP X pins σ Q) X.xe s
def PW (X : Cx) (e : Expr) (t : TT) : Prop :=
  ∀ (whole : Sem Value) (pins : List (Addr × Obj)) (s : Shared) (σ : St) (H : Hp) (Q : Bool → Hp → Prop), Inv X pins σ H s → t σ H Q → wpAny (model X.prog X.w) X.A (isTrue e X.env whole) (TP X pins σ Q) X.xe s
theorem PW.pt {X : Cx} {e : Expr} {t : TT} (h : PW X e t) : PT X e t := h _
def PA (X : Cx) (es : List Expr) (t : TA) : Prop :=
  ∀ (pos : Pos) (pins : List (Addr × Obj)) (s : Shared) (σ : St) (H : Hp) (Q : List V → Hp → Prop), Inv X pins σ H s → t σ H Q → wpAny (model X.prog X.w) X.A (spliced (backTo pos (starEach es X.env))) (AP X pins σ Q) X.xe s
def PS (X : Cx) (st : Stmt) (t : TS) : Prop :=
  ∀ (pins : List (Addr × Obj)) (s : Shared) (σ : St) (H : Hp) (D : Ends), Inv X pins σ H s → t D σ H → wpAny (model X.prog X.w) X.A (exec st X.env) (SP X pins D) X.xe s
def PSs (X : Cx) (st : List Stmt) (t : TS) : Prop :=
  ∀ (pins : List (Addr × Obj)) (s : Shared) (σ : St) (H : Hp) (D : Ends), Inv X pins σ H s → t D σ H → wpAny (model X.prog X.w) X.A (execs st X.env) (SP X pins D) X.xe s
theorem thn {α : Type} {t : Sem α} {Q Q' : α → Shared → Prop} {M : Model} {A : Around} {E : Value → Shared → Prop} {s : Shared} (h : wpAny M A t Q E s) (hQ : ∀ a s, Q a s → Q' a s) : wpAny M A t Q' E s := wpAny_mono h hQ fun _ _ x => x
open PySem PySem.Spec PyProof.Rows
section
variable {X : Cx}
def tVar (i : Nat) : TE := fun σ H Q => ∃ v, σ[i]? = some (some v) ∧ Q v H
def tC (v : V) : TE := fun _ H Q => Q v H
theorem pe_var {i : Nat} {x : Str} {pos : Pos} (hN : X.N[i]? = some x) (hv : Vis X.env.scope x) (hd : (x == ("__debug__" : Str)) = false := by decide) (hcd : (x == ("__classdict__" : Str)) = false := by decide) : PE X (.Name x pos) (tVar i) := by
  intro pins s σ H Q I h
  obtain ⟨v, e, h⟩ := h
  obtain ⟨m, hn, hl⟩ := I.loc
  obtain ⟨u, r, l⟩ := hl i x v hN e hv
  have fin : EP X pins σ Q u s := ⟨v, H, I, r, h⟩
  rcases l with ⟨hk, hm⟩ | ⟨hk, c, hc, hcell⟩
  · exact wpAny_Name (wpAny_loadName_local I.ok.kind hk hn hm fin) hd
  · rcases hk with hk | hk
    · exact wpAny_Name (wpAny_loadName_cell I.ok.kind hk hc hcell fin) hd
    · exact wpAny_Name (wpAny_loadName_free I.ok.kind hk hc hcell fin hcd) hd
theorem pe_int {i j pos} : PE X (.Constant (.int i) j pos) (tC (.int i)) := fun _ _ _ H _ I h => wpAny_Constant_int ⟨.int i, H, I.tok _, ⟨_, rfl⟩, h⟩
theorem pe_bl {b j pos} : PE X (.Constant (.bool b) j pos) (tC (.bl b)) := fun _ _ _ H _ I h => Constant_bool ⟨.bl b, H, I, rfl, h⟩
theorem pe_non {j pos} : PE X (.Constant .none j pos) (tC .non) := fun _ _ _ H _ I h => Constant_none ⟨.non, H, I, rfl, h⟩
theorem pe_str {x j pos} : PE X (.Constant (.str x) j pos) (tC (.str x)) := fun _ _ _ H _ I h => Calls.Constant_str ⟨.str x, H, I.tok _, ⟨_, rfl⟩, h⟩
def Gl (X : Cx) (x : Str) : Prop := X.env.kindOf x = some .globalImplicit
theorem ld_glob {E : Value → Shared → Prop} {pins : List (Addr × Obj)} {s : Shared} {σ : St} {H : Hp} {x : Str} {u : Value} {pos : Pos} {Q : Value → Shared → Prop} (I : Inv X pins σ H s) (hg : Gl X x) (hm : X.mg x = some u) (h : Q u s)
    (hd : (x == ("__debug__" : Str)) = false := by decide) : wpAny (model X.prog X.w) X.A (eval (.Name x pos) X.env) Q E s :=
  Calls.Name_function_global I.ok.kind hg (Calls.loadGlobal_global (by rw [I.ok.glob]; exact I.mod.glob.keeps I.bk) hm h) hd
theorem ld_blt {E : Value → Shared → Prop} {pins : List (Addr × Obj)} {s : Shared} {σ : St} {H : Hp} {x : Str} {u : Value} {pos : Pos} {Q : Value → Shared → Prop} (I : Inv X pins σ H s) (hg : Gl X x) (hm : X.mg x = none) (hv : bootBuiltins x = some u) (h : Q u s)
    (hn : x ≠ "__name__" := by decide) (hd : (x == ("__debug__" : Str)) = false := by decide) : wpAny (model X.prog X.w) X.A (eval (.Name x pos) X.env) Q E s := by
  obtain ⟨mb, h1, h2⟩ := I.mod.blt
  exact Calls.Name_function_global I.ok.kind hg (Calls.loadGlobal_builtin (by rw [I.ok.glob]; exact I.mod.glob.keeps I.bk) hm (by rw [I.ok.blt]; exact h1.keeps I.bk) ((h2 x hn).trans hv) h) hd
theorem pe_glob {x : Str} {v : V} {u : Value} {pos : Pos} (hg : Gl X x) (hm : X.mg x = some u) (r : RelV v u) (hd : (x == ("__debug__" : Str)) = false := by decide) : PE X (.Name x pos) (tC v) :=
  fun _ _ _ H _ I h => ld_glob I hg hm ⟨v, H, I, r, h⟩ hd
theorem pe_bltn {x : Str} {v : V} {u : Value} {pos : Pos} (hg : Gl X x) (hm : X.mg x = none) (hv : bootBuiltins x = some u) (r : RelV v u) (hn : x ≠ "__name__" := by decide) (hd : (x == ("__debug__" : Str)) = false := by decide) : PE X (.Name x pos) (tC v) :=
  fun _ _ _ H _ I h => ld_blt I hg hm hv ⟨v, H, I, r, h⟩ hn hd
def t2I (ta tb : TE) (k : Int → Int → Hp → Prop) : St → Hp → Prop := fun σ H => ta σ H fun x H1 => tb σ H1 fun y H2 => ∃ i j, x = .int i ∧ y = .int j ∧ k i j H2
def tAdd (ta tb : TE) : TE := fun σ H Q => t2I ta tb (fun i j H2 => Q (.int (i + j)) H2) σ H
def tSub (ta tb : TE) : TE := fun σ H Q => t2I ta tb (fun i j H2 => Q (.int (i - j)) H2) σ H
def tMul (ta tb : TE) : TE := fun σ H Q => t2I ta tb (fun i j H2 => (-(2 ^ 64) < i ∧ i < 2 ^ 64) ∧ Q (.int (i * j)) H2) σ H
variable {a b : Expr} {ta tb : TE} {pos : Pos}
def PC (X : Cx) (op : CmpOp) (a b : Expr) (t : TE) : Prop :=
  ∀ (pins : List (Addr × Obj)) (s : Shared) (σ : St) (H : Hp) (Q : VK), Inv X pins σ H s → t σ H Q →
    wpAny (model X.prog X.w) X.A (eval a X.env) (fun v s₁ => wpAny (model X.prog X.w) X.A (eval b X.env) (fun u s₂ => wpAny (model X.prog X.w) X.A (compareOp op v u) (EP X pins σ Q) X.xe s₂) X.xe s₁) X.xe s
theorem nobehind (b : Expr) {op : CmpOp} (h : op ≠ .In) (h2 : op ≠ .NotIn) : behindInMarks op b = false := by
  have e1 : (op == CmpOp.In) = false := by cases op <;> first | rfl | exact absurd rfl h
  have e2 : (op == CmpOp.NotIn) = false := by cases op <;> first | rfl | exact absurd rfl h2
  cases b <;> simp [behindInMarks, e1, e2]
def tCmp (p : Int → Int → Bool) (ta tb : TE) : TE := fun σ H Q => t2I ta tb (fun i j H2 => Q (.bl (p i j)) H2) σ H
abbrev tLt : TE → TE → TE := tCmp fun i j => decide (i < j)
abbrev tLe : TE → TE → TE := tCmp fun i j => decide (i ≤ j)
abbrev tGt : TE → TE → TE := tCmp fun i j => decide (j < i)
abbrev tGe : TE → TE → TE := tCmp fun i j => decide (j ≤ i)
abbrev tEqI : TE → TE → TE := tCmp fun i j => decide (i = j)
abbrev tNeI : TE → TE → TE := tCmp fun i j => !decide (i = j)
def tIsN (ta : TE) : TE := fun σ H Q => ta σ H fun x H1 => Q (.bl (decide (x = .non))) H1
def tNotN (ta : TE) : TE := fun σ H Q => ta σ H fun x H1 => Q (.bl (!decide (x = .non))) H1
def tB (t : TE) : TT := fun σ H Q => t σ H fun x H1 => ∃ c, x = .bl c ∧ Q c H1
theorem pt_cmp {op : CmpOp} {t : TE} (h : PC X op a b t) (h1 : behindInMarks op b = false := by first | exact nobehind _ (by decide) (by decide) | rfl) : PT X (.Compare a [op] [b] pos) (tB t) := by
  intro pins s σ H Q I hw
  refine wpAny_isTrue_Compare1 (thn (h pins s σ H _ I hw) fun v s1 h1 => thn h1 fun u s2 h2 => thn h2 fun c s3 ⟨x, H1, I1, r1, q1⟩ => ?_) h1
  obtain ⟨d, rfl, q⟩ := q1
  cases r1
  exact wpAny_truthy_bool ⟨H1, I1, q⟩
theorem pt_val {e : Expr} {t : TE} (h : PE X e t) (he : ∀ whole, isTrue e X.env whole = (do let v ← whole; standAt e.pos; holding [v] (truthy v)) := by intro _; rfl) : PT X e (tB t) := by
  intro pins s σ H Q I hw
  refine isTrue_plain (thn (h pins s σ H _ I hw) fun v s1 ⟨x, H1, I1, r1, q1⟩ => ?_) (he _)
  obtain ⟨d, rfl, q⟩ := q1
  cases r1
  exact wpAny_truthy_bool ⟨H1, I1, q⟩
variable {tA tB' : TT} {rest : List Expr}
def tAnd (t u : TT) : TT := fun σ H Q => t σ H fun c H1 => if c = true then u σ H1 Q else Q false H1
def tOr (t u : TT) : TT := fun σ H Q => t σ H fun c H1 => if c = true then Q true H1 else u σ H1 Q
def tNot (t : TT) : TT := fun σ H Q => t σ H fun c H1 => Q (!c) H1
theorem pw_and1 (ha : PT X a tA) : PW X (.BoolOp .And [a] pos) tA := by
  intro wh pins s σ H Q I h
  refine isTrue_and (thn (ha pins s σ H Q I h) fun c s1 e => ?_)
  cases c with
  | true => exact isTrue_and_nil e
  | false => exact e
theorem pw_or1 (ha : PT X a tA) : PW X (.BoolOp .Or [a] pos) tA := by
  intro wh pins s σ H Q I h
  refine isTrue_or (thn (ha pins s σ H Q I h) fun c s1 e => ?_)
  cases c with
  | false => exact isTrue_or_nil e
  | true => exact e
theorem pw_and (ha : PT X a tA) (hb : PW X (.BoolOp .And (b :: rest) pos) tB') : PW X (.BoolOp .And (a :: b :: rest) pos) (tAnd tA tB') := by
  intro wh pins s σ H Q I h
  refine isTrue_and (thn (ha pins s σ H _ I h) fun c s1 ⟨H1, I1, q1⟩ => ?_)
  cases c with
  | true => exact hb wh pins s1 σ H1 Q I1 q1
  | false => exact ⟨H1, I1, q1⟩
theorem pw_or (ha : PT X a tA) (hb : PW X (.BoolOp .Or (b :: rest) pos) tB') : PW X (.BoolOp .Or (a :: b :: rest) pos) (tOr tA tB') := by
  intro wh pins s σ H Q I h
  refine isTrue_or (thn (ha pins s σ H _ I h) fun c s1 ⟨H1, I1, q1⟩ => ?_)
  cases c with
  | true => exact ⟨H1, I1, q1⟩
  | false => exact hb wh pins s1 σ H1 Q I1 q1
theorem pt_not (ha : PT X a tA) : PT X (.UnaryOp .Not a pos) (tNot tA) := by
  intro pins s σ H Q I h
  exact isTrue_not (ha pins s σ H (fun c H1 => Q (!c) H1) I h)
def tAndV (ta tb : TE) : TE := fun σ H Q => ta σ H fun x H1 => ∃ c, x = .bl c ∧ if c = true then tb σ H1 Q else Q (.bl false) H1
def tOrV (ta tb : TE) : TE := fun σ H Q => ta σ H fun x H1 => ∃ c, x = .bl c ∧ if c = true then Q (.bl true) H1 else tb σ H1 Q
def tNotV (ta : TE) : TE := fun σ H Q => ta σ H fun x H1 => ∃ c, x = .bl c ∧ Q (.bl (!c)) H1
theorem pe_one {op} {t : TE} (h : PE X a t) : PE X (.BoolOp op [a] pos) t := fun pins s σ H Q I hw => BoolOp_one (h pins s σ H Q I hw)
theorem pe_and (ha : PE X a ta) (hb : PE X (.BoolOp .And (b :: rest) pos) tb) : PE X (.BoolOp .And (a :: b :: rest) pos) (tAndV ta tb) := by
  intro pins s σ H Q I h
  refine BoolOp_and (thn (ha pins s σ H _ I h) fun v s1 ⟨x, H1, I1, r1, q1⟩ => ?_)
  obtain ⟨c, rfl, q1⟩ := q1
  cases r1
  refine wpAny_truthy_bool ?_
  cases c with
  | true => exact hb pins s1 σ H1 Q I1 q1
  | false => exact ⟨.bl false, H1, I1, rfl, q1⟩
def tIf (t : TT) (ta tb : TE) : TE := fun σ H Q => t σ H fun c H1 => if c = true then ta σ H1 Q else tb σ H1 Q
theorem pe_ifExp {c : Expr} (hc : PT X c tA) (ha : PE X a ta) (hb : PE X b tb) : PE X (.IfExp c a b pos) (tIf tA ta tb) := by
  intro pins s σ H Q I h
  refine wpAny_IfExp (thn (hc pins s σ H _ I h) fun d s1 ⟨H1, I1, q1⟩ => ?_)
  cases d with
  | true => exact ha pins s1 σ H1 Q I1 q1
  | false => exact hb pins s1 σ H1 Q I1 q1
end
open PySem PySem.Spec PyProof.Rows
def SqL (K : PySem.W.Frag) (H : Hp) (a : Addr) (xs : List V) : Prop :=
  Rd H a (.lst xs) ∨
    ∃ (o : Obj) (its : Array Value) (n : Nat), K.lookup a = some o ∧ o.cls = .type "list" ∧ o.dict = none ∧ o.data = .seq its n ∧ its.size ≤ sizeLine ∧ Vals xs its.toList
def SqT (K : PySem.W.Frag) (H : Hp) (a : Addr) (xs : List V) : Prop :=
  Rd H a (.tup xs) ∨
    ∃ (o : Obj) (its : Array Value) (n : Nat), K.lookup a = some o ∧ o.cls = .type "tuple" ∧ o.data = .seq its n ∧ its.size ≤ sizeLine ∧ Vals xs its.toList
def absV : Value → Option V
  | .none => some .non
  | .bool b => some (.bl b)
  | .int i _ => some (.int i)
  | .str x _ => some (.str x)
  | .bytes b _ => some (.byt b)
  | .float b _ => some (.flt b)
  | .ref a => some (.ref a)
  | .type n => some (.ty n)
  | _ => none
theorem RelV.abs {x : V} {u : Value} (r : RelV x u) : absV u = some x := by
  cases x with
  | non => cases r; rfl
  | bl _ => cases r; rfl
  | int _ => obtain ⟨t, rfl⟩ := r; rfl
  | str _ => obtain ⟨t, rfl⟩ := r; rfl
  | byt _ => obtain ⟨t, rfl⟩ := r; rfl
  | flt _ => obtain ⟨t, rfl⟩ := r; rfl
  | ref _ => cases r; rfl
  | ty _ => cases r; rfl
theorem RelV.inj {x y : V} {u : Value} (r : RelV x u) (q : RelV y u) : x = y := Option.some.inj (r.abs.symm.trans q.abs)
theorem Vals.inj : ∀ {xs ys : List V} {us : List Value}, Vals xs us → Vals ys us → xs = ys
  | _, _, _, .nil, .nil => rfl
  | _, _, _, .cons r t, .cons r' t' => by rw [r.inj r', Vals.inj t t']
section
variable {X : Cx} {pins : List (Addr × Obj)} {σ : St} {H : Hp} {s : Shared} {a : Addr} {xs ys : List V}
theorem SqL.of {K : PySem.W.Frag} (h : H a = some (.lst xs)) : SqL K H a xs := .inl (.inl h)
theorem SqT.of {K : PySem.W.Frag} (h : H a = some (.tup xs)) : SqT K H a xs := .inl (.inl h)
theorem Inv.list (I : Inv X pins σ H s) (h : SqL X.K H a xs) : ∃ its : List Value, Vals xs its ∧ PlainL s.heap a its.toArray ∧ xs.length ≤ sizeLine := by
  rcases h with h | ⟨o, its, n, hk, hc, hd, hs, hz, r⟩
  · obtain ⟨z, its, n, r, e⟩ := h.ok I.hok
    exact ⟨its, r, ⟨_, n, e, rfl, rfl, rfl⟩, z⟩
  · refine ⟨its.toList, r, ⟨o, n, I.kIn a o hk, hc, hd, by simpa using hs⟩, ?_⟩
    have e := r.length
    simp only [Array.length_toList] at e
    omega
theorem Inv.tuple (I : Inv X pins σ H s) (h : SqT X.K H a xs) : ∃ its : List Value, Vals xs its ∧ IsTup s.heap a its.toArray ∧ xs.length ≤ sizeLine := by
  rcases h with h | ⟨o, its, n, hk, hc, hs, hz, r⟩
  · obtain ⟨z, its, r, p⟩ := h.ok I.hok
    exact ⟨its, r, p, z⟩
  · refine ⟨its.toList, r, ⟨o, I.kIn a o hk, hc, n, by simpa using hs⟩, ?_⟩
    have e := r.length
    simp only [Array.length_toList] at e
    omega
theorem Inv.list_inj (I : Inv X pins σ H s) (h : SqL X.K H a xs) (h' : SqL X.K H a ys) : xs = ys := by
  obtain ⟨its, r, ⟨o, n, e, _, _, d⟩, _⟩ := I.list h
  obtain ⟨its', r', ⟨o', n', e', _, _, d'⟩, _⟩ := I.list h'
  rw [e] at e'; cases e'
  rw [d] at d'
  injection d' with d1 _
  have : its = its' := by simpa using congrArg Array.toList d1
  subst this
  exact r.inj r'
end
abbrev Cx.wish (X : Cx) (E : Value → Shared → Prop) : Cx := { X with xe := E }
abbrev Cx.nox (X : Cx) : Cx := X.wish fun _ _ => False
theorem Cx.Ok.wish {X : Cx} (ok : X.Ok) (E : Value → Shared → Prop) : (X.wish E).Ok :=
  ⟨ok.mod, ok.kind, ok.glob, ok.blt, ok.above, ok.inj, ok.has, ok.cab, ok.hd, ok.frames, ok.stk, ok.exf, ok.bs, ok.bsz, ok.noex, ok.exfs, ok.funs, ok.frf⟩
theorem Cx.Ok.unwish {X : Cx} {E : Value → Shared → Prop} (ok : (X.wish E).Ok) : X.Ok :=
  ⟨ok.mod, ok.kind, ok.glob, ok.blt, ok.above, ok.inj, ok.has, ok.cab, ok.hd, ok.frames, ok.stk, ok.exf, ok.bs, ok.bsz, ok.noex, ok.exfs, ok.funs, ok.frf⟩
section
variable {X : Cx} {pins : List (Addr × Obj)} {σ : St} {H : Hp} {s : Shared} {E : Value → Shared → Prop}
theorem Inv.wish (I : Inv X pins σ H s) (E : Value → Shared → Prop) : Inv (X.wish E) pins σ H s := ⟨I.ok.wish E, I.os, I.bare, I.base, I.loc, I.cell, I.free, I.freeC, I.pin, I.hok, I.len⟩
theorem Inv.unwish (I : Inv (X.wish E) pins σ H s) : Inv X pins σ H s := ⟨I.ok.unwish, I.os, I.bare, I.base, I.loc, I.cell, I.free, I.freeC, I.pin, I.hok, I.len⟩
theorem SP.unwish {D : Ends} {f : Flow} {s' : Shared} (h : SP (X.wish E) pins D f s') : SP X pins D f s' := by
  cases f with
  | next => obtain ⟨σ', H', I, q⟩ := h; exact ⟨σ', H', I.unwish, q⟩
  | brk => obtain ⟨σ', H', I, q⟩ := h; exact ⟨σ', H', I.unwish, q⟩
  | cont => obtain ⟨σ', H', I, q⟩ := h; exact ⟨σ', H', I.unwish, q⟩
  | ret u => obtain ⟨v, σ', H', I, r, q⟩ := h; exact ⟨v, σ', H', I.unwish, r, q⟩
theorem PE.nox {e : Expr} {t : TE} (h : PE X.nox e t) : PE X e t := fun pins s σ H Q I hw =>
  wpAny_mono (h pins s σ H Q (I.wish _) hw) (fun _ _ ⟨v, H', I', r, q⟩ => ⟨v, H', I'.unwish, r, q⟩) fun _ _ z => False.elim z
theorem PSs.nox {st : List Stmt} {t : TS} (h : PSs X.nox st t) : PSs X st t := fun pins s σ H D I hw =>
  wpAny_mono (h pins s σ H D (I.wish _) hw) (fun _ _ q => q.unwish) fun _ _ z => False.elim z
end
section
variable {X : Cx} {st : Stmt} {rest : List Stmt} {t u : TS} {e : Expr} {te : TE} {pos : Pos}
def tNext : TS := fun D σ H => D.nx σ H
def tSeq (t u : TS) : TS := fun D σ H => t { D with nx := u D } σ H
theorem pss_nil : PSs X [] tNext := fun _ _ σ H _ I h => wpAny_execs_nil ⟨σ, H, I, h⟩
theorem pss_cons (h1 : PS X st t) (h2 : PSs X rest u) : PSs X (st :: rest) (tSeq t u) := by
  intro pins s σ H D I h
  refine wpAny_execs_cons (thn (h1 pins s σ H { D with nx := u D } I h) fun f s1 q => ?_)
  cases f with
  | next =>
    obtain ⟨σ', H', I', q⟩ := q
    exact h2 pins s1 σ' H' D I' q
  | ret v => exact q
  | brk => exact q
  | cont => exact q
theorem pss_one (h1 : PS X st t) : PSs X [st] t := by
  intro pins s σ H D I h
  refine wpAny_execs_cons (thn (h1 pins s σ H D I h) fun f s1 q => ?_)
  cases f with
  | next => exact wpAny_execs_nil q
  | ret v => exact q
  | brk => exact q
  | cont => exact q
def tBreak : TS := fun D σ H => D.bk σ H
def tCont : TS := fun D σ H => D.ct σ H
theorem Inv.quiet {pins : List (Addr × Obj)} {σ : St} {H : Hp} {s : Shared} (I : Inv X pins σ H s) : interactive X.env = false := by simp [interactive, I.ok.kind]
def tDrop (te : TE) : TS := fun D σ H => te σ H fun _ H1 => D.nx σ H1
theorem ps_expr (he : PE X e te) (hs : swapsWith e none pos.line X.env = pure false := by rfl) : PS X (.Expr e pos) (tDrop te) := by
  intro pins s σ H D I h
  exact wpAny_Expr_any (thn (he pins s σ H _ I h) fun v s1 ⟨x, H1, I1, r1, q1⟩ => ⟨σ, H1, I1, q1⟩) I.quiet hs
def tRet (te : TE) : TS := fun D σ H => te σ H D.rt
theorem ps_ret (he : PE X e te) : PS X (.Return (some e) pos) (tRet te) := by
  intro pins s σ H D I h
  exact wpAny_Return_some (thn (he pins s σ H _ I h) fun v s1 ⟨x, H1, I1, r1, q1⟩ => ⟨x, σ, H1, I1, r1, q1⟩)
def tRetN : TS := fun D _ H => D.rt .non H
def tIfS (c : TT) (t u : TS) : TS := fun D σ H => c σ H fun b H1 => if b = true then t D σ H1 else u D σ H1
theorem ps_if {c : Expr} {a b : List Stmt} {tc : TT} (hc : PT X c tc) (ha : PSs X a t) (hb : PSs X b u) : PS X (.If c a b pos) (tIfS tc t u) := by
  intro pins s σ H D I h
  refine wpAny_If (thn (hc pins s σ H _ I h) fun d s1 ⟨H1, I1, q1⟩ => ?_)
  cases d with
  | true => exact ha pins s1 σ H1 D I1 q1
  | false => exact hb pins s1 σ H1 D I1 q1
def tNever : TS := fun _ _ _ => False
theorem ps_never : PS X st tNever := fun _ _ _ _ _ _ h => h.elim
end
abbrev TG := V → St → Hp → (St → Hp → Prop) → Prop
abbrev TGs := List V → St → Hp → (St → Hp → Prop) → Prop
def PG (X : Cx) (target : Expr) (t : TG) : Prop :=
  ∀ (pins : List (Addr × Obj)) (s : Shared) (σ : St) (H : Hp) (v : V) (u : Value) (Q : St → Hp → Prop), Inv X pins σ H s → RelV v u → t v σ H Q →
    wpAny (model X.prog X.w) X.A (assign target X.env u) (fun _ s' => ∃ σ' H', Inv X pins σ' H' s' ∧ Q σ' H') X.xe s
def PGs (X : Cx) (ts : List Expr) (t : TGs) : Prop :=
  ∀ (pins : List (Addr × Obj)) (s : Shared) (σ : St) (H : Hp) (vs : List V) (us : List Value) (Q : St → Hp → Prop), Inv X pins σ H s → Vals vs us → t vs σ H Q →
    wpAny (model X.prog X.w) X.A (assignInOrder ((assignEach ts X.env).map (·.2)) us) (fun _ s' => ∃ σ' H', Inv X pins σ' H' s' ∧ Q σ' H') X.xe s
abbrev TSet := V → V → V → Hp → (Hp → Prop) → Prop
def PSet (X : Cx) (t : TSet) : Prop :=
  ∀ (pins : List (Addr × Obj)) (s : Shared) (σ : St) (H : Hp) (o i v : V) (ov iv u : Value) (Q : Hp → Prop), Inv X pins σ H s → RelV o ov → RelV i iv → RelV v u → t o i v H Q →
    wpAny (model X.prog X.w) X.A (setItem ov iv u) (fun _ s' => ∃ H', Inv X pins σ H' s' ∧ Q H') X.xe s
abbrev TIp := V → V → Hp → VK → Prop
def PIp (X : Cx) (op : Operator) (t : TIp) : Prop :=
  ∀ (pins : List (Addr × Obj)) (s : Shared) (σ : St) (H : Hp) (x y : V) (v u : Value) (Q : VK), Inv X pins σ H s → RelV x v → RelV y u → t x y H Q →
    wpAny (model X.prog X.w) X.A (inplaceOp op v u) (EP X pins σ Q) X.xe s
section
variable {X : Cx} {pos : Pos}
def gName (i : Nat) : TG := fun v σ H Q => Q (σ.set i (some v)) H
theorem pg_name {i : Nat} {x : Str} (hN : X.N.Nodup) (hi : X.N[i]? = some x) (hx : Loc X.env.scope x) (hf : X.fn x = true ∨ X.env.scope.names.lookup x = some .local := by first | exact .inl rfl | exact .inr rfl | assumption) : PG X (.Name x pos) (gName i) := by
  intro pins s σ H v u Q I r h
  exact wpAny_assign_Name (store_ok I hN hi hx r (fun s' I' => ⟨_, H, I', h⟩) hf)
def gNil : TGs := fun vs σ H Q => vs = [] ∧ Q σ H
def gCons (t : TG) (u : TGs) : TGs := fun vs σ H Q => ∃ v r, vs = v :: r ∧ t v σ H fun σ' H' => u r σ' H' Q
theorem pgs_nil : PGs X [] gNil := by
  intro pins s σ H vs us Q I r h
  obtain ⟨e, h⟩ := h
  subst e
  cases r
  exact assignInOrder_nil ⟨σ, H, I, h⟩
theorem pgs_cons {e : Expr} {es : List Expr} {t : TG} {u : TGs} (h1 : PG X e t) (h2 : PGs X es u)
    (hs : (assignEach (e :: es) X.env).map (·.2) = assign e X.env :: (assignEach es X.env).map (·.2) := by rfl) : PGs X (e :: es) (gCons t u) := by
  intro pins s σ H vs us Q I r h
  obtain ⟨v, vr, e1, h⟩ := h
  subst e1
  cases r with
  | cons r rr =>
    rw [hs]
    refine assignInOrder_cons (thn (h1 pins s σ H _ _ _ I r h) fun _ s1 ⟨σ1, H1, I1, q1⟩ => ?_)
    exact h2 pins s1 σ1 H1 _ _ Q I1 rr q1
def gTup (K : PySem.W.Frag) (n : Nat) (t : TGs) : TG := fun v σ H Q => ∃ a xs, v = .ref a ∧ SqT K H a xs ∧ xs.length = n ∧ t xs σ H Q
theorem pg_tup {es : List Expr} {k : Nat} {t : TGs} {n : Nat} (hc : X.calm = true) (h : PGs X es t)
    (hn : (assignEach es X.env).length = n := by rfl) (hst : (assignEach es X.env).findIdx? (·.1) = none := by rfl) : PG X (.Tuple es k pos) (gTup X.K n t) := by
  intro pins s σ H v u Q I r hw
  obtain ⟨a, xs, e1, hq, hl, hw⟩ := hw
  subst e1
  cases r
  obtain ⟨its, rv, ht, hz⟩ := I.tuple hq
  refine assign_Tuple_tuple (I.ok.hd hc) ht (by simp [hn, ← hl, rv.length]) hst fun h' hx => ?_
  have I1 : Inv X pins σ H { s with heap := h' } := I.kept (t' := s.toks) fun b o e => hx b o (Nat.ne_of_lt (Heap.lt_size e)) e
  exact h pins _ σ H xs _ Q I1 (by simpa using rv) hw
def gSub (to ti : TE) (t : TSet) : TG := fun v σ H Q => to σ H fun o H1 => ti σ H1 fun i H2 => t o i v H2 fun H3 => Q σ H3
theorem pg_sub {o i : Expr} {to ti : TE} {t : TSet} (ho : PE X o to) (hi : PE X i ti) (hs : PSet X t)
    (ha : ∀ v, assign (.Subscript o i pos) X.env v = (do
      let ov ← holding [v] (eval o X.env)
      let iv ← holding [v, ov] (eval i X.env)
      standAt pos
      holding [v, ov, iv] (setItem ov iv v)
      release [v, ov, iv] []) := by intro _; rfl) : PG X (.Subscript o i pos) (gSub to ti t) := by
  intro pins s σ H v u Q I r h
  rw [ha]
  refine wpAny_bind (wpAny_holding (thn (ho pins s σ H _ I h) fun ov s1 ⟨x, H1, I1, r1, q1⟩ => ?_))
  refine wpAny_bind (wpAny_holding (thn (hi pins s1 σ H1 _ I1 q1) fun iv s2 ⟨y, H2, I2, r2, q2⟩ => ?_))
  refine wpAny_bind (wpAny_standAt (wpAny_bind (wpAny_holding (thn (hs pins s2 σ H2 x y v ov iv u _ I2 r1 r2 r q2) fun _ s3 ⟨H3, I3, q3⟩ => ?_))))
  exact wpAny_release ⟨σ, H3, I3, q3⟩
def tAsg (te : TE) (g : TG) : TS := fun D σ H => te σ H fun x H1 => g x σ H1 D.nx
theorem ps_asg {tg e : Expr} {te : TE} {g : TG} (he : PE X e te) (hg : PG X tg g) (hs : swapsWithSole [tg] e pos.line X.env = pure false := by rfl) (hw : swappedStores [tg] e X.env = pure none := by rfl)
    (h1 : (assignEach [tg] X.env).map (·.2) = [assign tg X.env] := by rfl) : PS X (.Assign [tg] e pos) (tAsg te g) := by
  intro pins s σ H D I h
  refine wpAny_Assign_stores (thn (he pins s σ H _ I h) fun v s1 ⟨x, H1, I1, r1, q1⟩ => ?_) hs hw
  rw [h1]
  exact thn (hg pins s1 σ H1 x v _ I1 r1 q1) fun _ s2 q => q
theorem ps_set {i : Nat} {x : Str} {e : Expr} {te : TE} {pos' : Pos} (hN : X.N.Nodup) (hi : X.N[i]? = some x) (hx : Loc X.env.scope x) (he : PE X e te) (hs : swapsWith e (some (.Name x pos')) pos.line X.env = pure false := by rfl) (hf : X.fn x = true ∨ X.env.scope.names.lookup x = some .local := by first | exact .inl rfl | exact .inr rfl | assumption) :
    PS X (.Assign [.Name x pos'] e pos) (tAsg te (gName i)) := by
  intro pins s σ H D I h
  refine wpAny_Assign_Name (thn (he pins s σ H _ I h) fun v s1 ⟨y, H1, I1, r1, q1⟩ => ?_) hs
  exact store_ok I1 hN hi hx r1 (fun s2 I2 => ⟨_, H1, I2, q1⟩) hf
def tPar (i j : Nat) (ta : TA) : TS := fun D σ H => ta σ H fun vs H1 => ∃ v w, vs = [v, w] ∧ D.nx ((σ.set i (some v)).set j (some w)) H1
def tAug (i : Nat) (te : TE) (ti : TIp) : TS := fun D σ H => ∃ x, σ[i]? = some (some x) ∧ te σ H fun y H1 => ti x y H1 fun z H2 => D.nx (σ.set i (some z)) H2
theorem ps_aug {i : Nat} {x : Str} {e : Expr} {te : TE} {op : Operator} {ti : TIp} {pos' : Pos} (hN : X.N.Nodup) (hi : X.N[i]? = some x) (hx : Loc X.env.scope x) (he : PE X e te) (ho : PIp X op ti) (hf : X.fn x = true ∨ X.env.scope.names.lookup x = some .local := by first | exact .inl rfl | exact .inr rfl | assumption) :
    PS X (.AugAssign (.Name x pos') op e pos) (tAug i te ti) := by
  intro pins s σ H D I h
  obtain ⟨v, e1, h⟩ := h
  obtain ⟨m, hn, hl⟩ := I.loc
  have vis : Vis X.env.scope x := by rcases hx with k | k; exact .inl k; exact .inr (.inl k)
  obtain ⟨u, r, l⟩ := hl i x v hi e1 vis
  refine wpAny_AugAssign_Name ?_
  have go : wpAny (model X.prog X.w) X.A (eval e X.env) (fun w s₂ => wpAny (model X.prog X.w) X.A (inplaceOp op u w) (fun r s₃ => wpAny (model X.prog X.w) X.A (storeName X.env x r) (fun _ => SP X pins D .next) X.xe s₃) X.xe s₂) X.xe s := by
    refine thn (he pins s σ H _ I h) fun w s1 ⟨y, H1, I1, r1, q1⟩ => ?_
    refine thn (ho pins s1 σ H1 v y u w _ I1 r r1 q1) fun z s2 ⟨zv, H2, I2, r2, q2⟩ => ?_
    exact store_ok I2 hN hi hx r2 (fun s3 I3 => ⟨_, H2, I3, q2⟩) hf
  rcases l with ⟨hk, hm⟩ | ⟨hk, c, hc, hcell⟩
  · exact wpAny_loadName_local I.ok.kind hk hn hm go
  · rcases hk with hk | hk
    · exact wpAny_loadName_cell I.ok.kind hk hc hcell go
    · rcases hx with k | k
      · have : X.env.scope.names.lookup x = some .free := hk
        rw [k] at this; cases this
      · have : X.env.scope.names.lookup x = some .free := hk
        rw [k] at this; cases this
def tAugS (to ti te : TE) (tget : V → V → Hp → VK → Prop) (tip : TIp) (tset : TSet) : TS := fun D σ H => to σ H fun o H1 => ti σ H1 fun i H2 => tget o i H2 fun x H3 => te σ H3 fun y H4 => tip x y H4 fun z H5 => tset o i z H5 fun H6 => D.nx σ H6
def PGet (X : Cx) (t : V → V → Hp → VK → Prop) : Prop :=
  ∀ (pins : List (Addr × Obj)) (s : Shared) (σ : St) (H : Hp) (o i : V) (ov iv : Value) (Q : VK), Inv X pins σ H s → RelV o ov → RelV i iv → t o i H Q →
    wpAny (model X.prog X.w) X.A (getItem ov iv) (EP X pins σ Q) X.xe s
def ipI (f : Int → Int → Int) : TIp := fun x y H Q => ∃ i j, x = .int i ∧ y = .int j ∧ Q (.int (f i j)) H
theorem ip_add : PIp X .Add (ipI fun i j => i + j) := by
  intro pins s σ H x y v u Q I r1 r2 h
  obtain ⟨i, j, e1, e2, q⟩ := h
  subst e1; subst e2
  obtain ⟨t, rfl⟩ := r1
  obtain ⟨t', rfl⟩ := r2
  exact iadd_int ⟨.int _, H, I.tok _, ⟨_, rfl⟩, q⟩
end
section
variable {X : Cx} {pos : Pos}
def tWhile (c : TT) (tb : TS) : TS := fun D σ H => ∃ W : Nat → St → Hp → Prop, (∃ m, W m σ H) ∧ ∀ m σ H, W m σ H →
  c σ H fun b H1 => if b = true then ∃ N : St → Hp → Prop, (∀ σ' H', N σ' H' → ∃ m', m' < m ∧ W m' σ' H') ∧ tb { D with nx := N, ct := N, bk := D.nx } σ H1 else D.nx σ H1
theorem ps_while {c : Expr} {body : List Stmt} {tc : TT} {tb : TS} (hp : PassesOwn (model X.prog X.w) X.A X.env X.xe) (hc : PT X c tc) (hb : PSs X body tb) : PS X (.While c body [] pos) (tWhile tc tb) := by
  intro pins s σ H D I h
  obtain ⟨W, ⟨m0, w0⟩, turn⟩ := h
  refine wpAny_While (codeAny_whileLoop (fun n s' => ∃ σ' H', Inv X pins σ' H' s' ∧ W n σ' H') ?_ m0 ⟨σ, H, I, w0⟩)
  rintro n s1 ⟨σ1, H1, I1, w1⟩
  refine wpAny_passesOwn hp (thn (hc pins s1 σ1 H1 _ I1 (turn n σ1 H1 w1)) fun b s2 ⟨H2, I2, q2⟩ => ?_)
  cases b with
  | true =>
    obtain ⟨N, hN, q2⟩ := q2
    rw [if_pos rfl]
    refine wpAny_passesOwn hp (thn (hb pins s2 σ1 H2 _ I2 q2) fun f s3 q3 => ?_)
    cases f with
    | next =>
      obtain ⟨σ3, H3, I3, n3⟩ := q3
      obtain ⟨m', hm, w3⟩ := hN σ3 H3 n3
      exact ⟨m', hm, σ3, H3, I3, w3⟩
    | cont =>
      obtain ⟨σ3, H3, I3, n3⟩ := q3
      obtain ⟨m', hm, w3⟩ := hN σ3 H3 n3
      exact ⟨m', hm, σ3, H3, I3, w3⟩
    | brk => exact q3
    | ret v => exact q3
  | false =>
    rw [if_neg Bool.false_ne_true]
    exact wpAny_execs_nil ⟨σ1, H2, I2, q2⟩
end
structure It where
  go : Nat → Hp → Prop
  yld : Nat → Hp → V → Hp → Prop
  stop : Nat → Hp → Prop
def FpOk (X : Cx) (pins : List (Addr × Obj)) (H : Hp) (b : Addr) : Prop :=
  H b = none ∧ b ≠ X.env.locals ∧ b ∉ X.fs ∧ (b ∈ X.ex ∨ X.s₀.heap.objs.size ≤ b) ∧ (∀ x c, X.env.cells.lookup x = some c → c ≠ b) ∧ ∀ p ∈ X.pn ++ pins, p.1 ≠ b
theorem Inv.fpOk {X : Cx} {pins : List (Addr × Obj)} {σ : St} {H H' : Hp} {s : Shared} {b : Addr} (I : Inv X pins σ H s) (hb : s.heap.objs.size ≤ b) (hn : H' b = none) : FpOk X pins H' b := by
  refine ⟨hn, Nat.ne_of_gt (Nat.lt_of_lt_of_le I.lt hb), I.nofs hb, .inr (Nat.le_trans I.sz hb), fun x c e z => ?_, fun p hp z => ?_⟩
  · obtain ⟨v, q⟩ := I.cell x c e
    exact absurd (Nat.lt_of_lt_of_le q.lt (by rw [z]; exact hb)) (Nat.lt_irrefl _)
  · exact absurd (Nat.lt_of_lt_of_le (Heap.lt_size (I.pin p hp).1) (by rw [z]; exact hb)) (Nat.lt_irrefl _)
structure Turn (P : Program) (w : World) (K : PySem.W.Frag) (tg : Expr) (J : It) (fp : List Addr) (it : Addr) (tn : Nat → Heap → Prop) : Prop where
  mem : it ∈ fp
  obj : ∀ i h, tn i h → ∀ b ∈ fp, ∃ o, h.get? b = some o ∧ ∀ v, o.data ≠ .cell v
  keep : ∀ i h h', tn i h → (∀ b ∈ fp, ∀ o, h.get? b = some o → h'.get? b = some o) → tn i h'
  item : ∀ (X : Cx), X.prog = P → X.w = w → X.K = K → X.calm = true → ∀ (i : Nat) (pins : List (Addr × Obj)) (s : Shared) (σ : St) (H : Hp) (E : Value → Shared → Prop), Inv X pins σ H s → (∀ b ∈ fp, FpOk X pins H b) → tn i s.heap → J.go i H →
    wpAny (model P w) X.A (pyNext (.ref it)) (fun r s1 => ∃ u, r = some u ∧
      wpAny (model P w) X.A (letOwnedTupleGo tg (.ref it) u) (fun _ s2 => ∃ x H', Inv X pins σ H' s2 ∧ RelV x u ∧ J.yld i H x H' ∧ tn (i + 1) s2.heap ∧ ∀ b ∈ fp, H' b = none) E s1) E s
  done : ∀ (X : Cx), X.prog = P → X.w = w → X.K = K → X.calm = true → ∀ (i : Nat) (pins : List (Addr × Obj)) (s : Shared) (σ : St) (H : Hp) (E : Value → Shared → Prop), Inv X pins σ H s → (∀ b ∈ fp, FpOk X pins H b) → tn i s.heap → J.stop i H →
    wpAny (model P w) X.A (pyNext (.ref it)) (fun r s1 => r = none ∧ Inv X pins σ H s1) E s
  self : ∀ (A : Around) (i : Nat) (s : Shared) (Q : Value → Shared → Prop) (E : Value → Shared → Prop), tn i s.heap → Q (.ref it) s → wpAny (model P w) A (pyIter (.ref it)) Q E s
abbrev TI := St → Hp → (It → Hp → Prop) → Prop
def PIE (X : Cx) (pins : List (Addr × Obj)) (σ : St) (tg : Expr) (R : It → Hp → Prop) (itv : Value) (s2 : Shared) : Prop :=
  ∃ (it : Addr) (fp : List Addr) (tn : Nat → Heap → Prop) (J : It) (H' : Hp), itv = .ref it ∧ Inv X pins σ H' s2 ∧ Turn X.prog X.w X.K tg J fp it tn ∧ tn 0 s2.heap ∧ (∀ b ∈ fp, FpOk X pins H' b) ∧ R J H'
def PI (X : Cx) (tg iter : Expr) (wi : TI) : Prop :=
  ∀ (pins : List (Addr × Obj)) (s : Shared) (σ : St) (H : Hp) (R : It → Hp → Prop), Inv X pins σ H s → wi σ H R →
    wpAny (model X.prog X.w) X.A (eval iter X.env) (fun v s1 => wpAny (model X.prog X.w) X.A (pyIter v) (PIE X pins σ tg R) X.xe s1) X.xe s
theorem go_of {M : Model} {A : Around} {E : Value → Shared → Prop} {s : Shared} {tg : Expr} {it : Addr} {u : Value} {o : Obj} {n : String} {vs : Array Value} {Q : Unit → Shared → Prop} (ho : s.heap.get? it = some o) (hc : o.cls = .type n) (hd : o.data = .fields vs)
    (hn : ["enumerate", "zip", "dict_itemiterator", "dict_reverseitemiterator", "odict_iterator", "itertools.zip_longest", "itertools.pairwise"].contains n = false) (hQ : Q () s) : wpAny M A (letOwnedTupleGo tg (.ref it) u) Q E s := by
  unfold letOwnedTupleGo
  cases tg <;> first
    | exact wpAny_pure hQ
    | (cases u <;> first
        | exact wpAny_pure hQ
        | (refine wpAny_bind (wpAny_load ho ?_)
           rw [hc, hd]
           show wpAny M A (if (["enumerate", "zip", "dict_itemiterator", "dict_reverseitemiterator", "odict_iterator", "itertools.zip_longest", "itertools.pairwise"].contains n && vs[0]? == some (rawInt _)) = true then _ else _) Q E s
           rw [if_neg (by intro h; rw [hn, Bool.false_and] at h; cases h)]
           exact wpAny_pure hQ))
def Itl (K : PySem.W.Frag) (a : Addr) : It :=
  ⟨fun i H => ∃ xs x, SqL K H a xs ∧ xs[i]? = some x, fun i H x H' => H' = H ∧ ∀ xs, SqL K H a xs → xs[i]? = some x, fun i H => ∃ xs, SqL K H a xs ∧ xs.length ≤ i⟩
def Itt (K : PySem.W.Frag) (a : Addr) : It :=
  ⟨fun i H => ∃ xs x, SqT K H a xs ∧ xs[i]? = some x, fun i H x H' => H' = H ∧ ∀ xs, SqT K H a xs → xs[i]? = some x, fun i H => ∃ xs, SqT K H a xs ∧ xs.length ≤ i⟩
def Itr (lo : Int) (n : Nat) : It := ⟨fun i _ => i < n, fun i H x H' => H' = H ∧ x = .int (lo + i), fun i _ => n ≤ i⟩
theorem turn_list {P : Program} {w : World} {K : PySem.W.Frag} {tg : Expr} (a it : Addr) : Turn P w K tg (Itl K a) [it] it (fun i h => h.IsListIter it a i) where
  mem := by simp
  obj := fun i h st b hb => by
    have e : b = it := by simpa using hb
    subst e
    obtain ⟨o, e, c, d⟩ := st
    exact ⟨o, e, fun v z => by rw [d] at z; cases z⟩
  keep := fun i h h' st k => st.at fun o e => k it (by simp) o e
  item := by
    intro X hP hw hK hc i pins s σ H E I hf st hg
    subst hP hw hK
    obtain ⟨xs, x, hq, hx⟩ := hg
    obtain ⟨its, rv, p, hz⟩ := I.list hq
    obtain ⟨u, hu, ru⟩ := rv.get hx
    obtain ⟨f0, f1, f2, f3, f4, f5⟩ := hf it (by simp)
    refine wpAny_pyNext_list_item st p.isList (x := u) (by simpa using hu) fun h' st' sb => ?_
    have I1 : Inv X pins σ H { s with heap := h' } := I.turned (t' := s.toks) (fun b o hb e => (sb.2 b hb).trans e) f0 f1 f3 f4 f5
    obtain ⟨o, e, c, d⟩ := id st'
    exact ⟨u, rfl, go_of (s := { s with heap := h' }) e c d (by decide) ⟨x, H, I1, ru, ⟨rfl, fun ys hy => by rw [I.list_inj hy hq]; exact hx⟩, st', fun b hb => (hf b hb).1⟩⟩
  done := by
    intro X hP hw hK hc i pins s σ H E I hf st hg
    subst hP hw hK
    obtain ⟨xs, hq, hx⟩ := hg
    obtain ⟨its, rv, p, hz⟩ := I.list hq
    obtain ⟨f0, f1, f2, f3, f4, f5⟩ := hf it (by simp)
    have hl := rv.length
    exact wpAny_pyNext_list_end (I.ok.hd hc) st p.isList (by simp; omega) fun h' eb => ⟨rfl, I.turned (t' := s.toks) (fun b o hb e => eb b o hb e) f0 f1 f3 f4 f5⟩
  self := fun _ _ _ _ _ st h => wpAny_pyIter_listiter st h
theorem turn_range {P : Program} {w : World} {K : PySem.W.Frag} {tg : Expr} (it : Addr) (lo : Int) (n : Nat) : Turn P w K tg (Itr lo n) [it] it (fun i h => IsRangeIter h it (lo + (i : Nat) * 1) ((n : Int) - (i : Nat)) 1) where
  mem := by simp
  obj := fun i h st b hb => by
    have e : b = it := by simpa using hb
    subst e
    exact ⟨_, st, fun v z => by
      have z' : Data.fields _ = Data.cell v := z
      cases z'⟩
  keep := fun i h h' st k => k it (by simp) _ st
  item := by
    intro X hP hw hK hc i pins s σ H E I hf st hg
    subst hP hw hK
    obtain ⟨f0, f1, f2, f3, f4, f5⟩ := hf it (by simp)
    have W := Walks.range (prog := X.prog) (w := X.w) (I.ok.hd hc) it lo 1 n
    refine W.item i s _ _ hg st fun v h' tk hv st' kk => ?_
    obtain ⟨t, rfl⟩ := hv
    have I1 : Inv X pins σ H { s with heap := h', toks := tk } := I.turned (fun b o hb e => kk b o (by simpa using hb) e) f0 f1 f3 f4 f5
    refine ⟨_, rfl, go_of (s := { s with heap := h', toks := tk }) (n := "range_iterator") st' rfl rfl (by decide) ⟨.int (lo + i), H, I1, ⟨t, ?_⟩, ⟨rfl, rfl⟩, st', fun b hb => (hf b hb).1⟩⟩
    rw [Int.mul_one]
  done := by
    intro X hP hw hK hc i pins s σ H E I hf st hg
    subst hP hw hK
    obtain ⟨f0, f1, f2, f3, f4, f5⟩ := hf it (by simp)
    exact wpAny_pyNext_range_end (I.ok.hd hc) st (by have : n ≤ i := hg; omega) fun h' eb => ⟨rfl, I.turned (t' := s.toks) (fun b o hb e => eb b o hb e) f0 f1 f3 f4 f5⟩
  self := fun _ _ _ _ _ st h => wpAny_pyIter_rangeiter st h
open PySem PySem.Spec PyProof.Rows
section
variable {X : Cx} {tg : Expr}
def iList (K : PySem.W.Frag) (tl : TE) : TI := fun σ H R => tl σ H fun x H1 => ∃ a, x = .ref a ∧ (∃ xs, SqL K H1 a xs) ∧ R (Itl K a) H1
def iTup (K : PySem.W.Frag) (tl : TE) : TI := fun σ H R => tl σ H fun x H1 => ∃ a, x = .ref a ∧ (∃ xs, SqT K H1 a xs) ∧ R (Itt K a) H1
theorem pi_list {l : Expr} {tl : TE} (hl : PE X l tl) : PI X tg l (iList X.K tl) := by
  intro pins s σ H R I h
  refine thn (hl pins s σ H _ I h) fun v s1 ⟨x, H1, I1, r1, q1⟩ => ?_
  obtain ⟨a, e, ⟨xs, hq⟩, q⟩ := q1
  subst e
  cases r1
  obtain ⟨its, rv, p, hz⟩ := I1.list hq
  refine wpAny_pyIter_list p.isList ?_
  refine ⟨s1.heap.objs.size, [s1.heap.objs.size], _, _, H1, rfl, I1.kept (t' := s1.toks) fun b o e => Heap.get?_push_of_some _ e, turn_list a _, ⟨_, Heap.get?_push_size _ rfl, rfl, rfl⟩, fun b hb => ?_, q⟩
  have e : b = s1.heap.objs.size := by simpa using hb
  subst e
  exact I1.fpOk (Nat.le_refl _) (I1.hok.fresh (Nat.le_refl _))
theorem range_it {pins : List (Addr × Obj)} {σ : St} {H : Hp} {s : Shared} {R : It → Hp → Prop} {E : Value → Shared → Prop} {lo hi : Int} {t u v : Tok} {tk : Nat} (I : Inv X pins σ H s) (h1 : -(2 ^ 62) ≤ lo) (h2 : lo < 2 ^ 62) (h3 : -(2 ^ 62) ≤ hi) (h4 : hi < 2 ^ 62)
    (q : R (Itr lo (hi - lo).toNat) H) : wpAny (model X.prog X.w) X.A (pyIter (.ref s.heap.objs.size)) (PIE X pins σ tg R) E { s with heap := s.heap.push { cls := .type "range", data := .fields #[.int lo t, .int hi u, .int 1 v] }, toks := tk } := by
  refine wpAny_pyIter_range (IsRange.new ..) (small_one h1 h2 h3 h4) ?_
  have I1 : Inv X pins σ H { s with heap := s.heap.push { cls := .type "range", data := .fields #[.int lo t, .int hi u, .int 1 v] }, toks := tk } := I.kept fun b o e => Heap.get?_push_of_some _ e
  refine ⟨(s.heap.push { cls := .type "range", data := .fields #[.int lo t, .int hi u, .int 1 v] }).objs.size, [(s.heap.push { cls := .type "range", data := .fields #[.int lo t, .int hi u, .int 1 v] }).objs.size], _, _, H, rfl,
    I1.kept (t' := tk) fun b o e => Heap.get?_push_of_some _ e, turn_range _ lo (hi - lo).toNat, ?_, fun b hb => ?_, q⟩
  · have e1 : lo + ((0 : Nat) : Int) * 1 = lo := by simp
    have e2 : (((hi - lo).toNat : Nat) : Int) - ((0 : Nat) : Int) = Builtin.Range.rangeSize lo hi 1 := by rw [rangeSize_one]; split <;> omega
    show IsRangeIter _ _ (lo + ((0 : Nat) : Int) * 1) ((((hi - lo).toNat : Nat) : Int) - ((0 : Nat) : Int)) 1
    rw [e1, e2]
    exact Heap.get?_push_size _ rfl
  · have e : b = (s.heap.push { cls := .type "range", data := .fields #[.int lo t, .int hi u, .int 1 v] }).objs.size := by simpa using hb
    subst e
    exact I1.fpOk (Nat.le_refl _) (I1.hok.fresh (Nat.le_refl _))
def iRng1 (ta : TA) : TI := fun σ H R => ta σ H fun vs H1 => ∃ j : Int, vs = [.int j] ∧ -(2 ^ 62) ≤ j ∧ j < 2 ^ 62 ∧ R (Itr 0 j.toNat) H1
def iRng2 (ta : TA) : TI := fun σ H R => ta σ H fun vs H1 => ∃ i j : Int, vs = [.int i, .int j] ∧ (-(2 ^ 62) ≤ i ∧ i < 2 ^ 62 ∧ -(2 ^ 62) ≤ j ∧ j < 2 ^ 62) ∧ R (Itr i (j - i).toNat) H1
theorem pi_range1 {a : Expr} {ta : TA} {p pos : Pos} (hg : Gl X "range") (hm : X.mg "range" = none) (ha : PA X [a] ta) (hs : starEach [a] X.env = [(false, eval a X.env)] := by rfl) : PI X tg (.Call (.Name "range" p) [a] [] pos) (iRng1 ta) := by
  intro pins s σ H R I h
  refine Call_ (ld_blt I hg hm boot_range (PyProof.Rows.callWith_type1 (thn (ha pos pins s σ H _ I h) fun us s1 ⟨vs, H1, I1, r1, q1⟩ => ?_) hs rfl))
  obtain ⟨j, e, q1, q2, q⟩ := q1
  subst e
  cases r1 with
  | cons r rr =>
    cases rr
    obtain ⟨t, rfl⟩ := r
    exact call_range_1 (range_it I1 (by omega) (by omega) q1 q2 (by simpa using q))
def tFor (wi : TI) (g : TG) (tb : TS) : TS := fun D σ H => wi σ H fun J H1 => ∃ W : Nat → Nat → St → Hp → Prop, (∃ m, W 0 m σ H1) ∧ ∀ i m σ H, W i m σ H →
  (J.stop i H ∧ D.nx σ H) ∨ (J.go i H ∧ ∃ N : St → Hp → Prop, (∀ σ' H', N σ' H' → ∃ m', m' < m ∧ W (i + 1) m' σ' H') ∧ ∀ x H', J.yld i H x H' → g x σ H' fun σ2 H2 => tb { D with nx := N, ct := N, bk := D.nx } σ2 H2)
def pinsAt (fp : List Addr) (h : Heap) : List (Addr × Obj) := fp.filterMap fun b => (h.get? b).map fun o => (b, o)
theorem mem_pinsAt {fp : List Addr} {h : Heap} {b : Addr} {o : Obj} (hb : b ∈ fp) (e : h.get? b = some o) : (b, o) ∈ pinsAt fp h := List.mem_filterMap.mpr ⟨b, hb, by rw [e]; rfl⟩
theorem of_pinsAt {fp : List Addr} {h : Heap} {p : Addr × Obj} (hp : p ∈ pinsAt fp h) : p.1 ∈ fp ∧ h.get? p.1 = some p.2 := by
  obtain ⟨b, hb, e⟩ := List.mem_filterMap.mp hp
  cases q : h.get? b with
  | none => rw [q] at e; cases e
  | some o =>
    rw [q] at e
    have e' : (b, o) = p := Option.some.inj e
    subst e'
    exact ⟨hb, q⟩
theorem Inv.pinned {pins : List (Addr × Obj)} {σ : St} {H : Hp} {s : Shared} {fp : List Addr} (I : Inv X pins σ H s) (hf : ∀ b ∈ fp, FpOk X pins H b) (ho : ∀ b ∈ fp, ∃ o, s.heap.get? b = some o ∧ ∀ v, o.data ≠ .cell v) : Inv X (pins ++ pinsAt fp s.heap) σ H s :=
  I.pins_of fun p hp => (List.mem_append.mp hp).elim (fun z => I.pin p (List.mem_append_right _ z)) fun z => by
    obtain ⟨hb, e⟩ := of_pinsAt z
    obtain ⟨f0, f1, f2, _⟩ := hf p.1 hb
    obtain ⟨o, e', d⟩ := ho p.1 hb
    rw [e] at e'; cases e'
    exact ⟨e, f0, f1, f2, d⟩
theorem Inv.unpinned {pins pl : List (Addr × Obj)} {σ : St} {H : Hp} {s : Shared} (I : Inv X (pins ++ pl) σ H s) : Inv X pins σ H s := I.pins_of fun p hp => I.pin p (List.mem_append_right _ (List.mem_append_left _ hp))
theorem ps_for {iter : Expr} {body : List Stmt} {wi : TI} {g : TG} {tb : TS} {pos : Pos} (hp : PassesOwn (model X.prog X.w) X.A X.env X.xe) (hc : X.calm = true) (hi : PI X tg iter wi) (hg : PG X tg g) (hb : PSs X body tb)
    (hs : ∀ x, foldedSetIterable iter X.env x = pure x := by intro _; rfl) : PS X (.For tg iter body [] pos) (tFor wi g tb) := by
  intro pins s σ H D I h
  refine wpAny_For (thn (hi pins s σ H _ I h) fun v s1 h1 => thn h1 fun itv s2 h2 => ?_) hs
  obtain ⟨it, fp, tn, J, H2, e, I2, T, st2, f2, W, ⟨m0, w0⟩, turn⟩ := h2
  subst e
  have stat : ∀ {H' : Hp}, (∀ b ∈ fp, H' b = none) → ∀ b ∈ fp, FpOk X pins H' b := fun hn b hb => ⟨hn b hb, (f2 b hb).2⟩
  refine codeAny_forLoop_any (fun n s' => ∃ i σ' H', Inv X pins σ' H' s' ∧ tn i s'.heap ∧ (∀ b ∈ fp, H' b = none) ∧ W i n σ' H') ?_ m0 ⟨0, σ, H2, I2, st2, fun b hb => (f2 b hb).1, w0⟩
  rintro n s3 ⟨i, σ3, H3, I3, st3, fr3, w3⟩
  rcases turn i n σ3 H3 w3 with ⟨stop, qn⟩ | ⟨go, N, hN, step⟩
  · refine wpAny_passesOwn hp (thn (T.done X rfl rfl rfl hc i pins s3 σ3 H3 X.xe I3 (stat fr3) st3 stop) fun r s4 ⟨hr, I4⟩ => ?_)
    subst hr
    exact wpAny_execs_nil ⟨σ3, H3, I4, qn⟩
  · refine wpAny_passesOwn hp (thn (T.item X rfl rfl rfl hc i pins s3 σ3 H3 X.xe I3 (stat fr3) st3 go) fun r s4 ⟨u, hr, h4⟩ => ?_)
    subst hr
    refine wpAny_passesOwn hp (thn h4 fun _ s5 ⟨x, H5, I5, r5, y5, st5, fr5⟩ => ?_)
    have I5' := I5.pinned (stat fr5) (T.obj _ _ st5)
    refine wpAny_passesOwn hp (thn (hg _ s5 σ3 H5 x u _ I5' r5 (step x H5 y5)) fun _ s6 ⟨σ6, H6, I6, q6⟩ => ?_)
    refine wpAny_passesOwn hp (thn (hb _ s6 σ6 H6 _ I6 q6) fun f s7 q7 => ?_)
    have again : ∀ {σ7 : St} {H7 : Hp}, Inv X (pins ++ pinsAt fp s5.heap) σ7 H7 s7 → N σ7 H7 → ∃ m, m < n ∧ ∃ i σ' H', Inv X pins σ' H' s7 ∧ tn i s7.heap ∧ (∀ b ∈ fp, H' b = none) ∧ W i m σ' H' := fun {σ7 H7} I7 n7 => by
      obtain ⟨m', hm, w7⟩ := hN σ7 H7 n7
      refine ⟨m', hm, i + 1, σ7, H7, I7.unpinned, T.keep _ _ _ st5 fun b hb o e => (I7.pin (b, o) (List.mem_append_right _ (List.mem_append_right _ (mem_pinsAt hb e)))).1, fun b hb => ?_, w7⟩
      obtain ⟨o, e, d⟩ := T.obj _ _ st5 b hb
      exact (I7.pin (b, o) (List.mem_append_right _ (List.mem_append_right _ (mem_pinsAt hb e)))).2.1
    cases f with
    | next => obtain ⟨σ7, H7, I7, n7⟩ := q7; exact again I7 n7
    | cont => obtain ⟨σ7, H7, I7, n7⟩ := q7; exact again I7 n7
    | brk => obtain ⟨σ7, H7, I7, q7⟩ := q7; exact ⟨σ7, H7, I7.unpinned, q7⟩
    | ret v => obtain ⟨x7, σ7, H7, I7, r7, q7⟩ := q7; exact ⟨x7, σ7, H7, I7.unpinned, r7, q7⟩
end
theorem for_list {K : PySem.W.Frag} {a : Addr} {xs : List V} {g : TG} {tb : TS} {D : Ends} {σ : St} {H : Hp} (Pv : Nat → St → Hp → Prop) (h0 : Pv 0 σ H) (hl : ∀ i σ H, i ≤ xs.length → Pv i σ H → SqL K H a xs)
    (hs : ∀ i x σ H, xs[i]? = some x → Pv i σ H → g x σ H fun σ2 H2 => tb { D with nx := Pv (i + 1), ct := Pv (i + 1), bk := D.nx } σ2 H2) (hd : ∀ σ H, Pv xs.length σ H → D.nx σ H) :
    ∃ W : Nat → Nat → St → Hp → Prop, (∃ m, W 0 m σ H) ∧ ∀ i m σ H, W i m σ H →
      ((Itl K a).stop i H ∧ D.nx σ H) ∨ ((Itl K a).go i H ∧ ∃ N : St → Hp → Prop, (∀ σ' H', N σ' H' → ∃ m', m' < m ∧ W (i + 1) m' σ' H') ∧ ∀ x H', (Itl K a).yld i H x H' → g x σ H' fun σ2 H2 => tb { D with nx := N, ct := N, bk := D.nx } σ2 H2) := by
  refine ⟨fun i m σ H => m = xs.length - i ∧ i ≤ xs.length ∧ Pv i σ H, ⟨xs.length, by simp, Nat.zero_le _, h0⟩, ?_⟩
  rintro i m σ H ⟨rfl, hi, p⟩
  have q := hl i σ H hi p
  by_cases hlt : i < xs.length
  · refine .inr ⟨⟨xs, xs[i], q, by simp [hlt]⟩, Pv (i + 1), fun σ' H' p' => ⟨xs.length - (i + 1), by omega, rfl, hlt, p'⟩, fun x H' y => ?_⟩
    obtain ⟨e, y⟩ := y
    subst e
    exact hs i x σ _ (y xs q) p
  · have e : i = xs.length := by omega
    subst e
    exact .inl ⟨⟨xs, q, Nat.le_refl _⟩, hd σ H p⟩
theorem for_range {lo : Int} {n : Nat} {g : TG} {tb : TS} {D : Ends} {σ : St} {H : Hp} (Pv : Nat → St → Hp → Prop) (h0 : Pv 0 σ H)
    (hs : ∀ i σ H, i < n → Pv i σ H → g (.int (lo + i)) σ H fun σ2 H2 => tb { D with nx := Pv (i + 1), ct := Pv (i + 1), bk := D.nx } σ2 H2) (hd : ∀ σ H, Pv n σ H → D.nx σ H) :
    ∃ W : Nat → Nat → St → Hp → Prop, (∃ m, W 0 m σ H) ∧ ∀ i m σ H, W i m σ H →
      ((Itr lo n).stop i H ∧ D.nx σ H) ∨ ((Itr lo n).go i H ∧ ∃ N : St → Hp → Prop, (∀ σ' H', N σ' H' → ∃ m', m' < m ∧ W (i + 1) m' σ' H') ∧ ∀ x H', (Itr lo n).yld i H x H' → g x σ H' fun σ2 H2 => tb { D with nx := N, ct := N, bk := D.nx } σ2 H2) := by
  refine ⟨fun i m σ H => m = n - i ∧ i ≤ n ∧ Pv i σ H, ⟨n, by simp, Nat.zero_le _, h0⟩, ?_⟩
  rintro i m σ H ⟨rfl, hi, p⟩
  by_cases hlt : i < n
  · refine .inr ⟨hlt, Pv (i + 1), fun σ' H' p' => ⟨n - (i + 1), by omega, rfl, hlt, p'⟩, fun x H' y => ?_⟩
    obtain ⟨e, y⟩ := y
    subst e y
    exact hs i σ _ hlt p
  · have e : i = n := by omega
    subst e
    exact .inl ⟨Nat.le_refl _, hd σ H p⟩
open PySem PySem.Spec PyProof.Rows
abbrev R2 := V → V → Hp → VK → Prop
def OpR (X : Cx) (f : Value → Value → Sem Value) (r : R2) : Prop :=
  ∀ (pins : List (Addr × Obj)) (s : Shared) (σ : St) (H : Hp) (x y : V) (v u : Value) (Q : VK), Inv X pins σ H s → RelV x v → RelV y u → r x y H Q →
    wpAny (model X.prog X.w) X.A (f v u) (EP X pins σ Q) X.xe s
def UnR (X : Cx) (f : Value → Sem Value) (r : V → Hp → VK → Prop) : Prop :=
  ∀ (pins : List (Addr × Obj)) (s : Shared) (σ : St) (H : Hp) (x : V) (v : Value) (Q : VK), Inv X pins σ H s → RelV x v → r x H Q →
    wpAny (model X.prog X.w) X.A (f v) (EP X pins σ Q) X.xe s
def CallR (X : Cx) (f : Value) (r : List V → Hp → VK → Prop) : Prop :=
  ∀ (pins : List (Addr × Obj)) (s : Shared) (σ : St) (H : Hp) (xs : List V) (us : List Value) (Q : VK), Inv X pins σ H s → Vals xs us → r xs H Q →
    wpAny (model X.prog X.w) X.A (call f us) (EP X pins σ Q) X.xe s
def TruR (X : Cx) (r : V → Hp → (Bool → Hp → Prop) → Prop) : Prop :=
  ∀ (pins : List (Addr × Obj)) (s : Shared) (σ : St) (H : Hp) (x : V) (v : Value) (Q : Bool → Hp → Prop), Inv X pins σ H s → RelV x v → r x H Q →
    wpAny (model X.prog X.w) X.A (truthy v) (TP X pins σ Q) X.xe s
def tOp (r : R2) (ta tb : TE) : TE := fun σ H Q => ta σ H fun x H1 => tb σ H1 fun y H2 => r x y H2 Q
def tUn (r : V → Hp → VK → Prop) (ta : TE) : TE := fun σ H Q => ta σ H fun x H1 => r x H1 Q
def rI (C : Int → Int → Prop) (g : Int → Int → V) : R2 := fun x y H Q => ∃ i j, x = .int i ∧ y = .int j ∧ C i j ∧ Q (g i j) H
def rI0 (g : Int → Int → V) : R2 := fun x y H Q => ∃ i j, x = .int i ∧ y = .int j ∧ Q (g i j) H
def rU (g : Int → V) : V → Hp → VK → Prop := fun x H Q => ∃ i, x = .int i ∧ Q (g i) H
section
variable {X : Cx} {a b c : Expr} {ta tb tc : TE} {pos : Pos}
theorem binT (ha : PE X a ta) (hb : PE X b tb) {pins : List (Addr × Obj)} {s : Shared} {σ : St} {H : Hp} {R : V → V → Hp → Prop} (I : Inv X pins σ H s)
    (h : ta σ H fun x H1 => tb σ H1 fun y H2 => R x y H2) {Q : Value → Shared → Prop} {f : Value → Value → Sem Value}
    (hf : ∀ v u s2 x y H2, Inv X pins σ H2 s2 → RelV x v → RelV y u → R x y H2 → wpAny (model X.prog X.w) X.A (f v u) Q X.xe s2) :
    wpAny (model X.prog X.w) X.A (eval a X.env) (fun v s₁ => wpAny (model X.prog X.w) X.A (eval b X.env) (fun u s₂ => wpAny (model X.prog X.w) X.A (f v u) Q X.xe s₂) X.xe s₁) X.xe s := by
  refine thn (ha pins s σ H _ I h) fun v s1 ⟨x, H1, I1, r1, q1⟩ => ?_
  refine thn (hb pins s1 σ H1 _ I1 q1) fun u s2 ⟨y, H2, I2, r2, q2⟩ => ?_
  exact hf v u s2 x y H2 I2 r1 r2 q2
theorem pe_op {op : Operator} {r : R2} (ho : OpR X (binaryOp op) r) (ha : PE X a ta) (hb : PE X b tb) : PE X (.BinOp a op b pos) (tOp r ta tb) := by
  intro pins s σ H Q I h
  exact wpAny_BinOp (binT ha hb I h fun v u s2 x y H2 I2 rx ry q => ho pins s2 σ H2 x y v u Q I2 rx ry q)
theorem pe_un {op : UnaryOp} {r : V → Hp → VK → Prop} (ho : UnR X (unaryOp op) r) (ha : PE X a ta) : PE X (.UnaryOp op a pos) (tUn r ta) := by
  intro pins s σ H Q I h
  exact UnaryOp_ (thn (ha pins s σ H _ I h) fun v s1 ⟨x, H1, I1, r1, q1⟩ => ho pins s1 σ H1 x v Q I1 r1 q1)
theorem opI {f : Value → Value → Sem Value} {C : Int → Int → Prop} {g : Int → Int → Int}
    (rule : ∀ (i j : Int) (t u : Tok) (s : Shared) (Q : Value → Shared → Prop) (E : Value → Shared → Prop), C i j → Q (.int (g i j) s.toks) { s with toks := s.toks + 1 } → wpAny (model X.prog X.w) X.A (f (.int i t) (.int j u)) Q E s) :
    OpR X f (rI C fun i j => .int (g i j)) := by
  intro pins s σ H x y v u Q I rx ry h
  obtain ⟨i, j, rfl, rfl, hc, q⟩ := h
  obtain ⟨t, rfl⟩ := rx
  obtain ⟨t', rfl⟩ := ry
  exact rule i j t t' s _ _ hc ⟨.int (g i j), H, I.tok _, ⟨_, rfl⟩, q⟩
theorem opI0 {f : Value → Value → Sem Value} {g : Int → Int → Int}
    (rule : ∀ (i j : Int) (t u : Tok) (s : Shared) (Q : Value → Shared → Prop) (E : Value → Shared → Prop), Q (.int (g i j) s.toks) { s with toks := s.toks + 1 } → wpAny (model X.prog X.w) X.A (f (.int i t) (.int j u)) Q E s) :
    OpR X f (rI0 fun i j => .int (g i j)) := by
  intro pins s σ H x y v u Q I rx ry h
  obtain ⟨i, j, rfl, rfl, q⟩ := h
  obtain ⟨t, rfl⟩ := rx
  obtain ⟨t', rfl⟩ := ry
  exact rule i j t t' s _ _ ⟨.int (g i j), H, I.tok _, ⟨_, rfl⟩, q⟩
theorem opB0 {f : Value → Value → Sem Value} {g : Int → Int → Bool}
    (rule : ∀ (i j : Int) (t u : Tok) (s : Shared) (Q : Value → Shared → Prop) (E : Value → Shared → Prop), Q (.bool (g i j)) s → wpAny (model X.prog X.w) X.A (f (.int i t) (.int j u)) Q E s) :
    OpR X f (rI0 fun i j => .bl (g i j)) := by
  intro pins s σ H x y v u Q I rx ry h
  obtain ⟨i, j, rfl, rfl, q⟩ := h
  obtain ⟨t, rfl⟩ := rx
  obtain ⟨t', rfl⟩ := ry
  exact rule i j t t' s _ _ ⟨.bl (g i j), H, I, rfl, q⟩
def CDiv (i j : Int) : Prop := 0 < j ∧ j < 1073741824
def CDivN (i j : Int) : Prop := j ≠ 0 ∧ j.natAbs < 1073741824
def CPow (i j : Int) : Prop := 0 ≤ j ∧ j ≤ 1000000 ∧ i.natAbs < 2 ^ 64
def CMul (i j : Int) : Prop := (-(2 ^ 64) < i ∧ i < 2 ^ 64) ∨ (-(2 ^ 64) < j ∧ j < 2 ^ 64)
theorem CMul.ok {i j : Int} (h : CMul i j) : IntMulOk i j := by
  rcases h with ⟨h1, h2⟩ | ⟨h1, h2⟩
  · exact .of_left (intBits_le_64 h1 h2)
  · exact .of_right (intBits_le_64 h1 h2)
theorem op_add : OpR X (binaryOp .Add) (rI0 fun i j => .int (i + j)) := opI0 fun _ _ _ _ _ _ _ q => add_int q
theorem op_sub : OpR X (binaryOp .Sub) (rI0 fun i j => .int (i - j)) := opI0 fun _ _ _ _ _ _ _ q => sub_int q
theorem op_mul : OpR X (binaryOp .Mult) (rI CMul fun i j => .int (i * j)) := opI fun _ _ _ _ _ _ _ hc q => mul_int q hc.ok
theorem op_fdiv : OpR X (binaryOp .FloorDiv) (rI CDiv fun i j => .int (i / j)) := opI fun i j _ _ _ _ _ hc q => by
  have h1 : (0 : Int) < j := hc.1
  have h2 : j < 1073741824 := hc.2
  exact floordiv_int (by omega) (by rw [Int.fdiv_eq_ediv_of_nonneg i (by omega)]; exact q) (.inl (PyProof.noPylong_small (by omega)))
theorem op_mod : OpR X (binaryOp .Mod) (rI (fun _ j => 0 < j) fun i j => .int (i % j)) := opI fun i j _ _ _ _ _ hc q => by
  have h1 : (0 : Int) < j := hc
  exact mod_int' (by omega) (by rw [Int.fmod_eq_emod_of_nonneg i (by omega)]; exact q)
theorem op_pow : OpR X (binaryOp .Pow) (rI CPow fun i j => .int (i ^ j.toNat)) := opI fun _ _ _ _ _ _ _ hc q => pow_int_small hc.1 hc.2.1 hc.2.2 q
theorem unI {f : Value → Sem Value} {g : Int → Int}
    (rule : ∀ (i : Int) (t : Tok) (s : Shared) (Q : Value → Shared → Prop) (E : Value → Shared → Prop), Q (.int (g i) s.toks) { s with toks := s.toks + 1 } → wpAny (model X.prog X.w) X.A (f (.int i t)) Q E s) :
    UnR X f (rU fun i => .int (g i)) := by
  intro pins s σ H x v Q I rx h
  obtain ⟨i, rfl, q⟩ := h
  obtain ⟨t, rfl⟩ := rx
  exact rule i t s _ _ ⟨.int (g i), H, I.tok _, ⟨_, rfl⟩, q⟩
theorem un_neg : UnR X (unaryOp .USub) (rU fun i => .int (-i)) := unI fun _ _ _ _ _ q => neg_int q
end
def scal : V → V → Bool
  | .non, .non => true | .non, .int _ => true | .int _, .non => true | .non, .bl _ => true | .bl _, .non => true | .non, .str _ => true | .str _, .non => true
  | .int _, .int _ => true | .bl _, .bl _ => true | .str _, .str _ => true | .byt _, .byt _ => true
  | .int _, .str _ => true | .str _, .int _ => true | .bl _, .str _ => true | .str _, .bl _ => true
  | _, _ => false
def rEq : R2 := fun x y H Q => scal x y = true ∧ Q (.bl (decide (x = y))) H
def rNe : R2 := fun x y H Q => scal x y = true ∧ Q (.bl (!decide (x = y))) H
theorem dec_int {i j : Int} : decide (V.int i = V.int j) = (i == j) := by
  rw [Bool.eq_iff_iff]
  simp
theorem dec_bl {i j : Bool} : decide (V.bl i = V.bl j) = (i == j) := by
  rw [Bool.eq_iff_iff]
  simp
theorem dec_str {i j : Str} : decide (V.str i = V.str j) = (i == j) := by
  rw [Bool.eq_iff_iff]
  simp
theorem dec_byt {i j : Array UInt8} : decide (V.byt i = V.byt j) = (i.toList == j.toList) := by
  rw [Bool.eq_iff_iff]
  cases i
  cases j
  simp
section
variable {X : Cx} {a b c : Expr} {ta tb tc : TE} {pos : Pos}
theorem fin_bl {pins : List (Addr × Obj)} {σ : St} {H : Hp} {s : Shared} {Q : VK} {k k' : Bool} (I : Inv X pins σ H s) (q : Q (.bl k) H) (e : k = k') : EP X pins σ Q (.bool k') s := by
  subst e
  exact ⟨.bl k, H, I, rfl, q⟩
theorem op_eq : OpR X (compareOp .Eq) rEq := by
  intro pins s σ H x y v u Q I rx ry h
  obtain ⟨hs, q⟩ := h
  cases x with
  | non =>
    cases rx
    cases y with
    | non => cases ry; exact PySem.EqNone.eq_none_none (fin_bl I q (by simp))
    | bl j => cases ry; exact PySem.EqNone.eq_none_bool (fin_bl I q (by simp))
    | int j => obtain ⟨t', rfl⟩ := ry; exact PySem.EqNone.eq_none_int (fin_bl I q (by simp))
    | str j => obtain ⟨t', rfl⟩ := ry; exact PySem.EqNone.eq_none_str (fin_bl I q (by simp))
    | _ => exact absurd (show false = true from hs) Bool.false_ne_true
  | bl i =>
    cases rx
    cases y with
    | non => cases ry; exact PySem.EqNone.eq_bool_none (fin_bl I q (by simp))
    | bl j => cases ry; exact eq_bool (fin_bl I q dec_bl)
    | str j => obtain ⟨t', rfl⟩ := ry; exact PySem.EqMixed.eq_bool_str (fin_bl I q (by simp))
    | _ => exact absurd (show false = true from hs) Bool.false_ne_true
  | int i =>
    obtain ⟨t, rfl⟩ := rx
    cases y with
    | non => cases ry; exact PySem.EqNone.eq_int_none (fin_bl I q (by simp))
    | int j => obtain ⟨t', rfl⟩ := ry; exact eq_int (fin_bl I q dec_int)
    | str j => obtain ⟨t', rfl⟩ := ry; exact PySem.EqMixed.eq_int_str (fin_bl I q (by simp))
    | _ => exact absurd (show false = true from hs) Bool.false_ne_true
  | str i =>
    obtain ⟨t, rfl⟩ := rx
    cases y with
    | non => cases ry; exact PySem.EqNone.eq_str_none (fin_bl I q (by simp))
    | bl j => cases ry; exact PySem.EqMixed.eq_str_bool (fin_bl I q (by simp))
    | int j => obtain ⟨t', rfl⟩ := ry; exact PySem.EqMixed.eq_str_int (fin_bl I q (by simp))
    | str j => obtain ⟨t', rfl⟩ := ry; exact eq_str (fin_bl I q dec_str)
    | _ => exact absurd (show false = true from hs) Bool.false_ne_true
  | byt i =>
    obtain ⟨t, rfl⟩ := rx
    cases y with
    | byt j => obtain ⟨t', rfl⟩ := ry; exact PySem.W.eq_bytes (fin_bl I q dec_byt)
    | _ => exact absurd (show false = true from hs) Bool.false_ne_true
  | _ => cases y <;> exact absurd (show false = true from hs) Bool.false_ne_true
theorem op_ne : OpR X (compareOp .NotEq) rNe := by
  intro pins s σ H x y v u Q I rx ry h
  obtain ⟨hs, q⟩ := h
  cases x with
  | non =>
    cases rx
    cases y with
    | non => cases ry; exact PySem.EqNone.ne_none_none (fin_bl I q (by simp))
    | bl j => cases ry; exact PySem.EqNone.ne_none_bool (fin_bl I q (by simp))
    | int j => obtain ⟨t', rfl⟩ := ry; exact PySem.EqNone.ne_none_int (fin_bl I q (by simp))
    | str j => obtain ⟨t', rfl⟩ := ry; exact PySem.EqNone.ne_none_str (fin_bl I q (by simp))
    | _ => exact absurd (show false = true from hs) Bool.false_ne_true
  | bl i =>
    cases rx
    cases y with
    | non => cases ry; exact PySem.EqNone.ne_bool_none (fin_bl I q (by simp))
    | bl j => cases ry; exact ne_bool (fin_bl I q (congrArg not dec_bl))
    | str j => obtain ⟨t', rfl⟩ := ry; exact PySem.EqMixed.ne_bool_str (fin_bl I q (by simp))
    | _ => exact absurd (show false = true from hs) Bool.false_ne_true
  | int i =>
    obtain ⟨t, rfl⟩ := rx
    cases y with
    | non => cases ry; exact PySem.EqNone.ne_int_none (fin_bl I q (by simp))
    | int j => obtain ⟨t', rfl⟩ := ry; exact ne_int (fin_bl I q (congrArg not dec_int))
    | str j => obtain ⟨t', rfl⟩ := ry; exact PySem.EqMixed.ne_int_str (fin_bl I q (by simp))
    | _ => exact absurd (show false = true from hs) Bool.false_ne_true
  | str i =>
    obtain ⟨t, rfl⟩ := rx
    cases y with
    | non => cases ry; exact PySem.EqNone.ne_str_none (fin_bl I q (by simp))
    | bl j => cases ry; exact PySem.EqMixed.ne_str_bool (fin_bl I q (by simp))
    | int j => obtain ⟨t', rfl⟩ := ry; exact PySem.EqMixed.ne_str_int (fin_bl I q (by simp))
    | str j => obtain ⟨t', rfl⟩ := ry; exact ne_str (fin_bl I q (congrArg not dec_str))
    | _ => exact absurd (show false = true from hs) Bool.false_ne_true
  | byt i =>
    obtain ⟨t, rfl⟩ := rx
    cases y with
    | byt j => obtain ⟨t', rfl⟩ := ry; exact PySem.W.ne_bytes (fin_bl I q (congrArg not dec_byt))
    | _ => exact absurd (show false = true from hs) Bool.false_ne_true
  | _ => cases y <;> exact absurd (show false = true from hs) Bool.false_ne_true
theorem op_lt : OpR X (compareOp .Lt) (rI0 fun i j => .bl (decide (i < j))) := opB0 fun _ _ _ _ _ _ _ q => lt_int q
theorem op_gt : OpR X (compareOp .Gt) (rI0 fun i j => .bl (decide (j < i))) := opB0 fun _ _ _ _ _ _ _ q => gt_int q
theorem op_in_str : OpR X (compareOp .In) (fun x y H Q => ∃ i j, x = .str i ∧ y = .str j ∧ Q (.bl (!(Builtin.Str.occurrences j i 0 j.length 1).isEmpty)) H) := by
  intro pins s σ H x y v u Q I rx ry h
  obtain ⟨i, j, rfl, rfl, q⟩ := h
  obtain ⟨t, rfl⟩ := rx
  obtain ⟨t', rfl⟩ := ry
  exact in_str (fin_bl I q rfl)
theorem op_isN : OpR X (compareOp .Is) (fun x y H Q => y = .non ∧ Q (.bl (decide (x = .non))) H) := by
  intro pins s σ H x y v u Q I rx ry h
  obtain ⟨rfl, q⟩ := h
  cases ry
  refine is_none_gen (fin_bl I q ?_)
  cases x <;> first
    | (cases rx; rfl)
    | (obtain ⟨t, rfl⟩ := rx; rfl)
theorem op_notin_str : OpR X (compareOp .NotIn) (fun x y H Q => ∃ i j, x = .str i ∧ y = .str j ∧ Q (.bl (!(!(Builtin.Str.occurrences j i 0 j.length 1).isEmpty))) H) := by
  intro pins s σ H x y v u Q I rx ry h
  obtain ⟨i, j, rfl, rfl, q⟩ := h
  obtain ⟨t, rfl⟩ := rx
  obtain ⟨t', rfl⟩ := ry
  exact notIn_str (fin_bl I q rfl)
def isObj : HO → Bool
  | .lst _ => true
  | .ins _ _ _ => true
  | _ => false
theorem nomark (b : Expr) {op : CmpOp} (h : op ≠ .In := by decide) (h2 : op ≠ .NotIn := by decide) : behindInMarks op b = false := by
  have e1 : (op == CmpOp.In) = false := by cases op <;> first | rfl | exact absurd rfl h
  have e2 : (op == CmpOp.NotIn) = false := by cases op <;> first | rfl | exact absurd rfl h2
  cases b <;> simp [behindInMarks, e1, e2]
theorem pe_cmpR {op : CmpOp} {r : R2} (ho : OpR X (compareOp op) r) (ha : PE X a ta) (hb : PE X b tb) (hm : behindInMarks op b = false) : PE X (.Compare a [op] [b] pos) (tOp r ta tb) := by
  intro pins s σ H Q I h
  exact wpAny_Compare1 (binT ha hb I h fun v u s2 x y H2 I2 rx ry q => ho pins s2 σ H2 x y v u Q I2 rx ry q) hm
def tTest (t : TE) : TT := fun σ H Q => t σ H fun x H' => ∃ k, x = .bl k ∧ Q k H'
theorem pt_cmpR {op : CmpOp} {r : R2} (ho : OpR X (compareOp op) r) (ha : PE X a ta) (hb : PE X b tb) (hm : behindInMarks op b = false) : PT X (.Compare a [op] [b] pos) (tTest (tOp r ta tb)) := by
  intro pins s σ H Q I h
  refine wpAny_isTrue_Compare1 (thn (ha pins s σ H _ I h) fun v s1 ⟨x, H1, I1, r1, q1⟩ => thn (hb pins s1 σ H1 _ I1 q1) fun u s2 ⟨y, H2, I2, r2, q2⟩ =>
    thn (ho pins s2 σ H2 x y v u _ I2 r1 r2 q2) fun c s3 ⟨z, H3, I3, r3, k, e, q3⟩ => ?_) hm
  subst e
  cases r3
  exact wpAny_truthy_bool ⟨H3, I3, q3⟩
def tChain (r r' : R2) (ta tb tc : TE) : TE := fun σ H Q => ta σ H fun x H1 => tb σ H1 fun y H2 => r x y H2 fun z H3 => ∃ k, z = .bl k ∧
  (if k = true then tc σ H3 fun w' H4 => r' y w' H4 Q else Q (.bl false) H3)
def TruV (K : PySem.W.Frag) (x : V) (H : Hp) (k : Bool) : Prop :=
  match x with
  | .non => k = false
  | .bl b => k = b
  | .int i => k = (i != 0)
  | .str y => y.length ≤ sizeLine ∧ k = ((y.length : Int) != 0)
  | .byt y => y.size ≤ sizeLine ∧ k = ((y.size : Int) != 0)
  | .ref p => (∃ xs, SqL K H p xs ∧ k = !xs.isEmpty) ∨ (∃ xs, SqT K H p xs ∧ k = !xs.isEmpty) ∨ ∃ kvs, H p = some (.dK kvs) ∧ k = !kvs.isEmpty
  | _ => False
theorem isEmpty_kv {κ : Type} {kvs : List (κ × V)} {vs : List (κ × Value)} (r : KV kvs vs) : (!vs.isEmpty) = !kvs.isEmpty := by
  cases r <;> rfl
theorem isEmpty_of {xs : List V} {its : List Value} (r : Vals xs its) : (!its.toArray.isEmpty) = !xs.isEmpty := by
  cases r <;> simp
theorem line63 : (sizeLine : Nat) < 2 ^ 63 := by rw [sizeLine_eq]; decide
theorem tru_ok : TruR X (fun x H Q => ∃ k, TruV X.K x H k ∧ Q k H) := by
  intro pins s σ H x v Q I rx h
  obtain ⟨k, e, q⟩ := h
  have hl := line63
  have hs : sizeLine = 16777216 := sizeLine_eq
  cases x with
  | non =>
    cases rx
    have e' : k = false := e
    subst e'
    exact truthy_none ⟨H, I, q⟩
  | bl b =>
    cases rx
    have e' : k = b := e
    subst e'
    exact wpAny_truthy_bool ⟨H, I, q⟩
  | int i =>
    obtain ⟨t, rfl⟩ := rx
    have e' : k = (i != 0) := e
    subst e'
    exact PySem.P.truthy_int ⟨H, I, q⟩
  | str y =>
    obtain ⟨t, rfl⟩ := rx
    obtain ⟨hy, e'⟩ : y.length ≤ sizeLine ∧ k = ((y.length : Int) != 0) := e
    subst e'
    exact PySem.P.truthy_str (by omega) ⟨H, I.tok _, q⟩
  | byt y =>
    obtain ⟨t, rfl⟩ := rx
    obtain ⟨hy, e'⟩ : y.size ≤ sizeLine ∧ k = ((y.size : Int) != 0) := e
    subst e'
    exact PySem.W.truthy_bytes (by omega) ⟨H, I.tok _, q⟩
  | ref p =>
    cases rx
    have e' : (∃ xs, SqL X.K H p xs ∧ k = !xs.isEmpty) ∨ (∃ xs, SqT X.K H p xs ∧ k = !xs.isEmpty) ∨ ∃ kvs, H p = some (.dK kvs) ∧ k = !kvs.isEmpty := e
    rcases e' with ⟨xs, hx, e'⟩ | ⟨xs, hx, e'⟩ | ⟨kvs, hx, e'⟩
    · subst e'
      obtain ⟨its, r, pl, hz⟩ := I.list hx
      have hlen := r.length
      exact wpAny_truthy_list pl.isList (by simp only [List.size_toArray]; omega) ⟨H, I.tok _, by rw [isEmpty_of r]; exact q⟩
    · subst e'
      obtain ⟨its, r, pl, hz⟩ := I.tuple hx
      have hlen := r.length
      exact truthy_tuple pl (by simp only [List.size_toArray]; omega) ⟨H, I.tok _, by rw [isEmpty_of r]; exact q⟩
    · subst e'
      obtain ⟨hz, hS, vs, r, m⟩ : kvs.length ≤ sizeLine ∧ (p == sysModules) = false ∧ ∃ vs, KV kvs vs ∧ s.heap.DictOf (mixKind X.prog X.w) p vs := I.hok p _ hx
      have hlen : kvs.length = vs.length := Paired.length r
      exact wpAny_truthy_dict hS m (by omega) ⟨H, I.tok _, by rw [isEmpty_kv r]; exact q⟩
  | _ => exact (show False from e).elim
theorem pt_truth (ha : PE X a ta) (he : ∀ whole, isTrue a X.env whole = (do let v ← whole; standAt a.pos; holding [v] (truthy v))) :
    PT X a (fun σ H Q => ta σ H fun x H' => ∃ k, TruV X.K x H' k ∧ Q k H') := by
  intro pins s σ H Q I h
  exact isTrue_plain (thn (ha pins s σ H _ I h) fun v s1 ⟨x, H1, I1, r1, q1⟩ => tru_ok pins s1 σ H1 x v Q I1 r1 q1) (he _)
theorem op_add_str : OpR X (binaryOp .Add) (fun x y H Q => ∃ i j, x = .str i ∧ y = .str j ∧ i.length + j.length ≤ sizeLine ∧ Q (.str (i ++ j)) H) := by
  intro pins s σ H x y v u Q I rx ry h
  obtain ⟨i, j, rfl, rfl, hz, q⟩ := h
  obtain ⟨t, rfl⟩ := rx
  obtain ⟨t', rfl⟩ := ry
  exact add_str (fun t' tk => ⟨.str (i ++ j), H, I.tok _, ⟨_, rfl⟩, q⟩) hz
def PlainIxT (b : Expr) : Prop := ∀ o i, subscripted b false o i = operate [o, i] (getItem o i)
theorem vals1 {x : V} {us : List Value} (r : Vals [x] us) : ∃ u, us = [u] ∧ RelV x u := by
  cases r with
  | cons r1 r2 => cases r2; exact ⟨_, rfl, r1⟩
theorem call_str_int : CallR X (.type "str") (fun xs H Q => ∃ i, xs = [.int i] ∧ i.natAbs.log2 < 1920 ∧ Q (.str (toString i)) H) := by
  intro pins s σ H xs us Q I r h
  obtain ⟨i, rfl, hz, q⟩ := h
  obtain ⟨u, rfl, t, rfl⟩ := vals1 r
  exact PySem.P.str_of_int hz ⟨.str _, H, I.tok _, ⟨_, rfl⟩, q⟩
def LenV (K : PySem.W.Frag) (x : V) (H : Hp) (n : Nat) : Prop :=
  match x with
  | .str y => y.length ≤ sizeLine ∧ n = y.length
  | .byt y => y.size ≤ sizeLine ∧ n = y.size
  | .ref p => (∃ xs, SqL K H p xs ∧ n = xs.length) ∨ ∃ xs, SqT K H p xs ∧ n = xs.length
  | _ => False
end
open PySem PySem.Spec PyProof.Rows
structure ObjM (h : Heap) (x dx C : Addr) (mA : Str → Option Value) : Prop where
  obj : h.get? x = some (PySem.W.instObj C dx)
  ns : h.Ns1 dx mA
  ne : dx ≠ x
theorem lookIn_ns {h : Heap} {dx : Addr} {mA : Str → Option Value} (n : h.Ns1 dx mA) : ∃ od, h.get? dx = some od ∧ ∀ name, PySem.W.lookIn name od = some (mA name) := by
  obtain ⟨o, es, ep, ho, hd, hk, _, hm⟩ := n
  refine ⟨o, ho, fun name => ?_⟩
  have e := hm name
  unfold nsFind findBy at e
  rw [← Array.find?_toList] at e
  unfold PySem.W.lookIn
  rw [hd]
  dsimp only
  split
  · rename_i y q
    rw [q] at e
    exact congrArg some e
  · rename_i q
    rw [q] at e
    have a : es.toList.any (·.refKey) = false := by
      rw [List.any_eq_false]
      intro y hy
      obtain ⟨z, t, hkey⟩ := hk y (Array.mem_toList_iff.mp hy)
      simp [DictEntry.refKey, hkey]
    have a' : ¬ es.toList.any (·.refKey) = true := by rw [a]; exact Bool.false_ne_true
    rw [if_neg a']
    exact congrArg some e
theorem ObjM.look {h : Heap} {x dx C : Addr} {mA : Str → Option Value} (I : ObjM h x dx C mA) : ∃ od, PySem.W.InstAt h x (PySem.W.instObj C dx) C (some od) ∧ ∀ name, PySem.W.lookIn name od = some (mA name) :=
  let ⟨od, ho, hl⟩ := lookIn_ns I.ns
  ⟨od, ⟨I.obj, rfl, rfl, ho⟩, hl⟩
section
variable {prog : Program} {w : World} {A : Around} {E : Value → Shared → Prop} {s : Shared} {K : PySem.W.Frag} {x dx C f : Addr} {mA : Str → Option Value} {name : Str} {v : Value}
theorem get_map {expr : Bool} {Q : Value → Shared → Prop} (X : K.In s.heap) (I : ObjM s.heap x dx C mA) (hg : PySem.W.plainGet K C name = true) (hh : PySem.W.hasDictIn K C = true)
    (ha : PySem.W.findIn K (.ref C) name = some none) (hv : mA name = some v) (hv' : PySem.W.handedIn v = true) (h : Q v { s with toks := s.toks + 1 }) :
    wpAny (model prog w) A (getAttr (.ref x) name expr) Q E s := by
  obtain ⟨od, J, hl⟩ := I.look
  exact PySem.W.get_value X J (PySem.W.plainGet_of hg).1 (PySem.W.findObj_own hh ha rfl (by rw [hl, hv])) hv' h
theorem get_meth {pl : Sem Bool} {Q : Value × List Value → Shared → Prop} (X : K.In s.heap) (I : ObjM s.heap x dx C mA) (hg : PySem.W.plainGet K C name = true)
    (hf : PySem.W.findIn K (.ref C) name = some (some (.ref f))) (ht : PySem.W.isFn K (.ref f) = true) (hv : mA name = none) (h : Q (.ref f, [.ref x]) s) :
    wpAny (model prog w) A (getMethod (.ref x) name pl) Q E s := by
  obtain ⟨od, J, hl⟩ := I.look
  exact PySem.W.method_fn X J (PySem.W.plainGet_of hg).1 (PySem.W.plainGet_of hg).2 hf (beq_iff_eq.mp ht) (by show (PySem.W.lookIn name od).map (·.isSome) = some false; rw [hl, hv]; rfl) h
theorem set_map {ns : List Str} {Q : Unit → Shared → Prop} (X : K.In s.heap) (I : ObjM s.heap x dx C mA)
    (hs : PySem.W.findIn K (.ref C) "__setattr__" = some (some (.builtin "object.__setattr__"))) (hp : PySem.W.plainOver K C = true) (ht : PySem.W.takerIn K C name = some none) (hh : PySem.W.hasDictIn K C = true)
    (hw : PySem.Within mA ns) (hsz : ns.length ≤ sizeLine)
    (h : ∀ h', ObjM h' x dx C (fun y => if y = name then some v else mA y) → Heap.SameBut dx s.heap h' → Q () { s with heap := h', toks := s.toks + 2 }) :
    wpAny (model prog w) A (setAttr (.ref x) name v) Q E s := by
  obtain ⟨od, J, hl⟩ := I.look
  refine PySem.W.set_plain X J hs (PySem.W.osa_open (s := { s with toks := s.toks + 1 }) (r := none) X J hp ht fun b => ?_)
  obtain ⟨cd, hc, hd'⟩ := PySem.W.any_some hh
  have hx : s.heap.get? x = some ⟨.ref C, some dx, .plain, #[]⟩ := I.obj
  refine wpAny_bind (wpAny_pure (wpAny_bind (wpAny_bind (wpAny_loadPart hx (wpAny_bind (PySem.W.Looks.here (s := { s with toks := s.toks + 1 }) (PySem.W.looks_clsIn X hc) ?_))))))
  rw [hd']
  refine wpAny_pure (a := some dx) (wpAny_bind (wpAny_pure (wpAny_bind ?_)))
  refine wpAny_nsSet1 (s := { s with toks := s.toks + 1 }) I.ns fun h' hn2 hs2 => ?_
  obtain ⟨oD, esD, epD, hoD, hdD, hcD⟩ := hn2.count (PySem.Within.cons name v hw)
  refine wpAny_bind (wpAny_lookBehind hoD (by rw [hdD]; exact pastItsLine_dict (Nat.le_trans hcD (by rw [List.length_cons]; omega))) ?_)
  exact wpAny_pure (h _ ⟨(hs2.2 _ (Ne.symm I.ne)).trans I.obj, hn2, I.ne⟩ hs2)
theorem make_map {R : Result → Shared → Prop} {vs : List Value} {kw : List (Str × Value)} (X : K.In s.heap) (hm : PySem.W.makesIn K C = true)
    (hi : PySem.W.findIn K (.ref C) "__init__" = some (some (.ref f))) (hf : PySem.W.typeIn K (.ref f) = some (.type "function"))
    (h : codeAny (model prog w) (A.under (.builtin "type.__call__" ⟨.ref C :: vs, kw⟩)) (.call (.ref f) ⟨.ref (s.heap.objs.size + 1) :: vs, kw⟩) (PySem.W.InitBack (s.heap.objs.size + 1) R)
      { s with heap := (s.heap.push PySem.W.emptyDict).push (PySem.W.instObj C s.heap.objs.size) }) :
    codeAny (model prog w) A (.call (.ref C) ⟨vs, kw⟩) R s := by
  obtain ⟨hh, g, d, t, os⟩ := s
  exact PySem.W.make_core (PySem.W.makes_of X hm) (PySem.W.looks_findIn X hi) (fun self => PySem.W.bind_fn X self hf) (.inl rfl) h
end
def putF (f : Str) (v : V) : List (Str × V) → List (Str × V)
  | [] => [(f, v)]
  | (g, x) :: r => if g = f then (g, v) :: r else (g, x) :: putF f v r
theorem lookup_putF (f g : Str) (v : V) : ∀ fs : List (Str × V), (putF f v fs).lookup g = if g = f then some v else fs.lookup g
  | [] => by
    show List.lookup g [(f, v)] = _
    by_cases h : g = f
    · have hb : (g == f) = true := beq_iff_eq.mpr h
      simp only [List.lookup, hb, if_pos h]
    · have hb : (g == f) = false := beq_eq_false_iff_ne.mpr h
      simp only [List.lookup, hb, if_neg h]
  | (k, x) :: r => by
    have ih := lookup_putF f g v r
    rw [show putF f v ((k, x) :: r) = (if k = f then (k, v) :: r else (k, x) :: putF f v r) from rfl]
    by_cases hk : k = f
    · rw [if_pos hk]
      by_cases h : g = k
      · have hb : (g == k) = true := beq_iff_eq.mpr h
        simp only [List.lookup, hb, if_pos (h.trans hk)]
      · have hb : (g == k) = false := beq_eq_false_iff_ne.mpr h
        simp only [List.lookup, hb, if_neg (fun e : g = f => h (e.trans hk.symm))]
    · rw [if_neg hk]
      by_cases h : g = k
      · have hb : (g == k) = true := beq_iff_eq.mpr h
        simp only [List.lookup, hb, if_neg (fun e : g = f => hk (h.symm.trans e))]
      · have hb : (g == k) = false := beq_eq_false_iff_ne.mpr h
        simp only [List.lookup, hb]
        exact ih
theorem keys_putF (f : Str) (v : V) : ∀ fs : List (Str × V), f ∈ (putF f v fs).map (·.1) ∧ ∀ g, g ∈ fs.map (·.1) → g ∈ (putF f v fs).map (·.1)
  | [] => ⟨by simp [putF], fun g h => by simp at h⟩
  | (k, x) :: r => by
    obtain ⟨i1, i2⟩ := keys_putF f v r
    rw [show putF f v ((k, x) :: r) = (if k = f then (k, v) :: r else (k, x) :: putF f v r) from rfl]
    by_cases hk : k = f
    · rw [if_pos hk]
      subst hk
      exact ⟨by simp, fun g h => by simpa using h⟩
    · rw [if_neg hk]
      refine ⟨?_, fun g h => ?_⟩
      · rw [List.map_cons]
        exact List.mem_cons_of_mem _ i1
      · rw [List.map_cons] at h ⊢
        rcases List.mem_cons.mp h with e | e
        · exact List.mem_cons.mpr (.inl e)
        · exact List.mem_cons_of_mem _ (i2 g e)
theorem length_putF (f : Str) (v : V) : ∀ fs : List (Str × V), (putF f v fs).length ≤ fs.length + 1
  | [] => by simp [putF]
  | (k, x) :: r => by
    have ih := length_putF f v r
    rw [show putF f v ((k, x) :: r) = (if k = f then (k, v) :: r else (k, x) :: putF f v r) from rfl]
    by_cases hk : k = f
    · rw [if_pos hk, List.length_cons, List.length_cons]; omega
    · rw [if_neg hk, List.length_cons, List.length_cons]; omega
theorem RelO.some_of {v : V} {o : Option Value} (r : RelO (some v) o) : ∃ u, o = some u ∧ RelV v u := by
  cases o with
  | none => exact (show False from r).elim
  | some u => exact ⟨u, rfl, r⟩
theorem RelO.none_of {o : Option Value} (r : RelO none o) : o = none := by
  cases o with
  | none => rfl
  | some u => exact (show False from r).elim
theorem handed_of {v : V} {u : Value} (r : RelV v u) : PySem.W.handedIn u = true := by
  cases v with
  | non => cases (show u = Value.none from r); rfl
  | bl b => cases (show u = Value.bool b from r); rfl
  | int i => obtain ⟨t, e⟩ := (show ∃ t, u = Value.int i t from r); cases e; rfl
  | str x => obtain ⟨t, e⟩ := (show ∃ t, u = Value.str x t from r); cases e; rfl
  | byt b => obtain ⟨t, e⟩ := (show ∃ t, u = Value.bytes b t from r); cases e; rfl
  | flt b => obtain ⟨t, e⟩ := (show ∃ t, u = Value.float b t from r); cases e; rfl
  | ref a => cases (show u = Value.ref a from r); rfl
  | ty n => cases (show u = Value.type n from r); rfl
section
variable {P : Program} {w : World} {H H' : Hp} {h h' : Heap} {a C dx : Addr} {fs fs' : List (Str × V)}
theorem ins_get (hok : HOk P w H h) (e : H a = some (.ins C dx fs)) : ∃ mA, ObjM h a dx C mA ∧ (∀ f, RelO (fs.lookup f) (mA f)) ∧ PySem.Within mA (fs.map (·.1)) ∧ fs.length ≤ 1000 ∧ H dx = some (.own a) := by
  obtain ⟨d, z, ne, ob, mA, n, r, q⟩ := (show ObjOk P w H h a (.ins C dx fs) from hok a _ e)
  exact ⟨mA, ⟨ob, n, ne⟩, r, q, z, d⟩
end
structure Cls (K : PySem.W.Frag) (C : Addr) : Prop where
  pg : PySem.W.plainGet K C Str.empty = true
  hd : PySem.W.hasDictIn K C = true
  po : PySem.W.plainOver K C = true
  sa : PySem.W.findIn K (.ref C) "__setattr__" = some (some (.builtin "object.__setattr__"))
theorem Cls.get {K : PySem.W.Frag} {C : Addr} (c : Cls K C) (f : Str) : PySem.W.plainGet K C f = true := c.pg
def NoAttr (K : PySem.W.Frag) (C : Addr) (f : Str) : Prop := PySem.W.findIn K (.ref C) f = some none
theorem NoAttr.taker {K : PySem.W.Frag} {C : Addr} {f : Str} (n : NoAttr K C f) : PySem.W.takerIn K C f = some none := by
  unfold PySem.W.takerIn
  rw [show PySem.W.findIn K (.ref C) f = some none from n]
  rfl
structure Con (K : PySem.W.Frag) (C : Addr) (f : Str) (v : V) (u : Value) : Prop where
  at_ : PySem.W.findIn K (.ref C) f = some (some u)
  rel : RelV v u
  get : PySem.W.specialIn K u "__get__" = some none
  cp : PySem.W.copiedNames.contains f = false
structure Meth (K : PySem.W.Frag) (C : Addr) (m : Str) (f : Addr) : Prop where
  at_ : PySem.W.findIn K (.ref C) m = some (some (.ref f))
  fn : PySem.W.isFn K (.ref f) = true
  kp : PySem.W.keepIn K (.ref f) = true
section
variable {X : Cx} {pins : List (Addr × Obj)} {σ : St} {H : Hp} {s : Shared} {a C dx : Addr} {fs : List (Str × V)} {f : Str} {v : V} {A : Around} {E : Value → Shared → Prop}
theorem getattr_ok {b : Bool} {Q : Value → Shared → Prop} (I : Inv X pins σ H s) (e : H a = some (.ins C dx fs)) (c : Cls X.K C) (n : NoAttr X.K C f) (l : fs.lookup f = some v)
    (h : ∀ u s', Inv X pins σ H s' → RelV v u → Q u s') : wpAny (model X.prog X.w) A (getAttr (.ref a) f b) Q E s := by
  obtain ⟨mA, O, r, _, _, _⟩ := ins_get I.hok e
  obtain ⟨u, hu, ru⟩ := RelO.some_of (v := v) (o := mA f) (by rw [← l]; exact r f)
  exact get_map I.kIn O (c.get f) c.hd n hu (handed_of ru) (h u _ (I.tok _) ru)
theorem getmeth_ok {m : Str} {g : Addr} {pl : Sem Bool} {Q : Value × List Value → Shared → Prop} (I : Inv X pins σ H s) (e : H a = some (.ins C dx fs)) (c : Cls X.K C) (k : Meth X.K C m g) (l : fs.lookup m = none)
    (h : Q (.ref g, [.ref a]) s) : wpAny (model X.prog X.w) A (getMethod (.ref a) m pl) Q E s := by
  obtain ⟨mA, O, r, _, _, _⟩ := ins_get I.hok e
  have hn : mA m = none := RelO.none_of (by rw [← l]; exact r m)
  exact get_meth I.kIn O (c.get m) k.at_ k.fn hn h
theorem setattr_ok {y : V} {u : Value} {Q : Unit → Shared → Prop} (I : Inv X pins σ H s) (e : H a = some (.ins C dx fs)) (c : Cls X.K C) (n : NoAttr X.K C f) (hl : fs.length < 1000) (ry : RelV y u)
    (h : ∀ s', Inv X pins σ (upd H a (.ins C dx (putF f y fs))) s' → Q () s') : wpAny (model X.prog X.w) A (setAttr (.ref a) f u) Q E s := by
  obtain ⟨mA, O, r, wi, _, ho⟩ := ins_get I.hok e
  have hz : (fs.map (·.1)).length ≤ sizeLine := by rw [List.length_map, sizeLine_eq]; omega
  refine set_map I.kIn O c.sa c.po n.taker c.hd wi hz fun h' O' sb => h _ ?_
  have hd : ∃ o, h'.get? dx = some o := let ⟨o, _, _, e', _⟩ := O'.ns; ⟨o, e'⟩
  refine I.write (x := a) (e := dx) (by rw [e]; exact True.intro) (.inr ho) (fun b q hb z => (sb.2 b hb).trans z) hd ?_
  refine ⟨by rw [upd_ne O.ne]; exact ho, ?_, O.ne, O'.obj, _, O'.ns, fun g => ?_, fun g hg => ?_⟩
  · have := length_putF f y fs; omega
  · show RelO ((putF f y fs).lookup g) (if g = f then some u else mA g)
    rw [lookup_putF]
    by_cases q : g = f
    · rw [if_pos q, if_pos q]; exact ry
    · rw [if_neg q, if_neg q]; exact r g
  · by_cases q : g = f
    · rw [q]; exact (keys_putF f y fs).1
    · refine (keys_putF f y fs).2 g (wi g fun z => hg ?_)
      show (if g = f then some u else mA g) = none
      rw [if_neg q]; exact z
theorem Inv.made (I : Inv X pins σ H s) : Inv X pins σ (upd (upd H s.heap.objs.size (.own (s.heap.objs.size + 1))) (s.heap.objs.size + 1) (.ins C s.heap.objs.size []))
    { s with heap := (s.heap.push PySem.W.emptyDict).push (PySem.W.instObj C s.heap.objs.size) } := by
  have e1 : (s.heap.push PySem.W.emptyDict).get? s.heap.objs.size = some PySem.W.emptyDict := Heap.get?_push_size s.heap rfl
  have e2 : ((s.heap.push PySem.W.emptyDict).push (PySem.W.instObj C s.heap.objs.size)).get? (s.heap.objs.size + 1) = some (PySem.W.instObj C s.heap.objs.size) := by
    have := Heap.get?_push_size (s.heap.push PySem.W.emptyDict) (o := PySem.W.instObj C s.heap.objs.size) rfl
    rwa [Heap.size_push] at this
  have e3 : (s.heap.push PySem.W.emptyDict).Ns s.heap.objs.size (fun _ => none) := ⟨PySem.W.emptyDict, #[], _, e1, rfl, (fun e he => absurd he (by simp)), fun _ => rfl⟩
  have I1 := I.laid (a := s.heap.objs.size) (o := .own (s.heap.objs.size + 1)) (h' := s.heap.push PySem.W.emptyDict) (t' := s.toks) (fun b u q => Heap.get?_push_of_some _ q) (Nat.le_refl _) ⟨_, e1⟩
  refine I1.laid (a := s.heap.objs.size + 1) (o := .ins C s.heap.objs.size []) (t' := s.toks) (fun b u q => Heap.get?_push_of_some _ q) (Nat.le_of_eq (Heap.size_push _ _)) ?_
  have ne : s.heap.objs.size ≠ s.heap.objs.size + 1 := Nat.ne_of_lt (Nat.lt_succ_self _)
  refine ⟨by rw [upd_ne ne, upd_same], Nat.zero_le _, ne, e2, fun _ => none, (Heap.Ns1.of_empty e3).at fun o q => Heap.get?_push_of_some _ q, fun _ => True.intro, fun y hy => absurd rfl hy⟩
theorem attr_of {prog : Program} {w : World} {env : Env} {e : Expr} {f : Str} {pos : Pos} {s : Shared} {Q : Value → Shared → Prop} (hb : attributeBase e f env (eval e env) = eval e env)
    (h : wpAny (model prog w) A (eval e env) (fun o s₁ => wpAny (model prog w) A (getAttr o f true) Q E s₁) E s) : wpAny (model prog w) A (eval (.Attribute e f pos) env) Q E s :=
  Attribute_any_ h (by rw [arm_eval_Attribute, hb])
end
def tFld (K : PySem.W.Frag) (ta : TE) (f : Str) : TE := fun σ H Q => ta σ H fun x H1 => ∃ a C dx fs v, x = .ref a ∧ H1 a = some (.ins C dx fs) ∧ Cls K C ∧ NoAttr K C f ∧ fs.lookup f = some v ∧ Q v H1
def tCon (K : PySem.W.Frag) (ta : TE) (f : Str) : TE := fun σ H Q => ta σ H fun x H1 => ∃ a C dx fs v u, x = .ref a ∧ H1 a = some (.ins C dx fs) ∧ Cls K C ∧ Con K C f v u ∧ fs.lookup f = none ∧ Q v H1
def sFld (K : PySem.W.Frag) (ta tv : TE) (f : Str) : TS := fun D σ H => tv σ H fun y H1 => ta σ H1 fun x H2 => ∃ a C dx fs, x = .ref a ∧ H2 a = some (.ins C dx fs) ∧ Cls K C ∧ NoAttr K C f ∧ fs.length < 1000 ∧
  D.nx σ (upd H2 a (.ins C dx (putF f y fs)))
def InOp (X : Cx) (op : Operator) (rd : V → V → Hp → VK → Prop) : Prop :=
  ∀ (pins : List (Addr × Obj)) (s : Shared) (σ : St) (H : Hp) (x y : V) (u v : Value) (Q : VK), Inv X pins σ H s → RelV x u → RelV y v → rd x y H Q → wpAny (model X.prog X.w) X.A (inplaceOp op u v) (EP X pins σ Q) X.xe s
def sFldAug (K : PySem.W.Frag) (ta tv : TE) (rd : V → V → Hp → VK → Prop) (f : Str) : TS := fun D σ H => ta σ H fun x H1 => ∃ a C dx fs v, x = .ref a ∧ H1 a = some (.ins C dx fs) ∧ Cls K C ∧ NoAttr K C f ∧ fs.lookup f = some v ∧
  tv σ H1 fun y H2 => rd v y H2 fun z H3 => ∃ dx' fs', H3 a = some (.ins C dx' fs') ∧ fs'.length < 1000 ∧ D.nx σ (upd H3 a (.ins C dx' (putF f z fs')))
section
variable {X : Cx} {o e value : Expr} {f : Str} {pos pos' tpos : Pos} {ta tv : TE}
theorem pe_fld (he : PE X e ta) (hb : attributeBase e f X.env (eval e X.env) = eval e X.env) : PE X (.Attribute e f pos) (tFld X.K ta f) := by
  intro pins s σ H Q I h
  refine attr_of hb (thn (he pins s σ H _ I h) fun u s1 ⟨x, H1, I1, rx, a, C, dx, fs, v, ex, ea, c, n, l, q⟩ => ?_)
  subst ex
  obtain rfl : u = Value.ref a := rx
  exact getattr_ok I1 ea c n l fun u' s2 I2 ru => ⟨v, H1, I2, ru, q⟩
theorem ps_fld (ha : PE X o ta) (hv : PE X value tv) (hs : swapsWith value (some (.Attribute o f pos')) pos.line X.env = pure false) : PS X (.Assign [.Attribute o f pos'] value pos) (sFld X.K ta tv f) := by
  intro pins s σ H D I h
  refine plainObj_wpAny_Assign_Attribute (thn (hv pins s σ H _ I h) fun u s1 ⟨y, H1, I1, ry, q⟩ => thn (ha pins s1 σ H1 _ I1 q) fun ov s2 ⟨x, H2, I2, rx, a, C, dx, fs, ex, ea, c, n, l, q2⟩ => ?_) hs
  subst ex
  obtain rfl : ov = Value.ref a := rx
  exact setattr_ok I2 ea c n l ry fun s3 I3 => ⟨σ, _, I3, q2⟩
theorem ps_fldaug {op : Operator} {rd : V → V → Hp → VK → Prop} (ha : PE X o ta) (hv : PE X value tv) (hop : InOp X op rd) : PS X (.AugAssign (.Attribute o f tpos) op value pos) (sFldAug X.K ta tv rd f) := by
  intro pins s σ H D I h
  refine wpAny_AugAssign_AttributeAny (thn (ha pins s σ H _ I h) fun ov s1 ⟨x, H1, I1, rx, a, C, dx, fs, v, ex, ea, c, n, l, q⟩ => ?_)
  subst ex
  obtain rfl : ov = Value.ref a := rx
  refine getattr_ok I1 ea c n l fun u s2 I2 ru => thn (hv pins s2 σ H1 _ I2 q) fun w3 s3 ⟨y, H2, I3, ry, q3⟩ => thn (hop pins s3 σ H2 v y u w3 _ I3 ru ry q3) fun w4 s4 ⟨z, H3, I4, rz, dx', fs', ea', l', q4⟩ => ?_
  exact setattr_ok I4 ea' c n l' rz fun s5 I5 => ⟨σ, _, I5, q4⟩
def rAdd : V → V → Hp → VK → Prop := fun x y H Q => ∃ i j, x = .int i ∧ y = .int j ∧ Q (.int (i + j)) H
def rSub : V → V → Hp → VK → Prop := fun x y H Q => ∃ i j, x = .int i ∧ y = .int j ∧ Q (.int (i - j)) H
theorem in_add : InOp X .Add rAdd := by
  rintro pins s σ H x y u v Q I rx ry ⟨i, j, rfl, rfl, q⟩
  obtain ⟨t, rfl⟩ := (show ∃ t, u = Value.int i t from rx)
  obtain ⟨t', rfl⟩ := (show ∃ t', v = Value.int j t' from ry)
  exact PyProof.Rows.iadd_int ⟨.int (i + j), H, I.tok _, ⟨_, rfl⟩, q⟩
end
section
variable {X : Cx} {pins : List (Addr × Obj)} {σ : St} {H : Hp} {s : Shared} {A : Around} {E : Value → Shared → Prop} {Q : Value → Shared → Prop} {c : Value} {b : Bool}
inductive TyOf (K : PySem.W.Frag) (H : Hp) : V → Value → Prop where
  | non : TyOf K H .non (.type "NoneType")
  | bl (x : Bool) : TyOf K H (.bl x) (.type "bool")
  | int (i : Int) : TyOf K H (.int i) (.type "int")
  | str (x : Str) : TyOf K H (.str x) (.type "str")
  | flt (x : UInt64) : TyOf K H (.flt x) (.type "float")
  | lst {a : Addr} {xs : List V} (e : H a = some (.lst xs)) : TyOf K H (.ref a) (.type "list")
  | frz {a : Addr} {o : Obj} {xs : List V} (e : H a = some (.frz o (.lst xs))) : TyOf K H (.ref a) (.type "list")
  | tup {a : Addr} {xs : List V} (e : H a = some (.tup xs)) : TyOf K H (.ref a) (.type "tuple")
  | dK {a : Addr} {kvs : List (Key × V)} (e : H a = some (.dK kvs)) : TyOf K H (.ref a) (.type "dict")
  | dT {a : Addr} {kvs : List (List Key × V)} (e : H a = some (.dT kvs)) : TyOf K H (.ref a) (.type "dict")
  | ins {a C dx : Addr} {fs : List (Str × V)} (e : H a = some (.ins C dx fs)) (cl : Cls K C) (ha : PySem.W.findIn K (.ref C) "__class__" = some (some (.builtin "object.__class__")))
      (hn : PySem.W.specialIn K (.builtin "object.__class__") "__get__" = some (some (.builtin "getset_descriptor.__get__"))) (htk : PySem.W.takesIn K (.builtin "object.__class__") = some true)
      (hm : PySem.W.mroIn K C (.type "object") = some true) : TyOf K H (.ref a) (.ref C)
theorem isinst_ok {x : V} {u t : Value} (I : Inv X pins σ H s) (rx : RelV x u) (ty : TyOf X.K H x t) (e : PySem.W.kitOne X.K t c = some b) (h : ∀ tk, Q (.bool b) { s with toks := tk }) :
    wpAny (model X.prog X.w) A (call (.builtin "isinstance") [u, c]) Q E s := by
  cases ty with
  | non => cases (show u = Value.none from rx); exact PySem.W.kia_one PySem.W.kitx_none I.kIn True.intro e (fun z => nomatch z) h
  | bl y => cases (show u = Value.bool y from rx); exact PySem.W.kia_one PySem.W.kitx_bool I.kIn True.intro e (fun z => nomatch z) h
  | int i => obtain ⟨t, q⟩ := (show ∃ t, u = Value.int i t from rx); cases q; exact PySem.W.kia_one PySem.W.kitx_int I.kIn True.intro e (fun z => nomatch z) h
  | str y => obtain ⟨t, q⟩ := (show ∃ t, u = Value.str y t from rx); cases q; exact PySem.W.kia_one PySem.W.kitx_str I.kIn True.intro e (fun z => nomatch z) h
  | flt y => obtain ⟨t, q⟩ := (show ∃ t, u = Value.float y t from rx); cases q; exact PySem.W.kia_one PySem.W.kitx_float I.kIn True.intro e (fun z => nomatch z) h
  | @lst a xs ea =>
    cases (show u = Value.ref a from rx)
    obtain ⟨_, _, n, _, h1⟩ := (show ObjOk X.prog X.w H s.heap a (.lst xs) from I.hok a _ ea)
    exact PySem.W.kia_one PySem.W.kitx_list I.kIn ⟨_, h1, rfl⟩ e (fun z => nomatch z) h
  | @frz a ob xs ea =>
    cases (show u = Value.ref a from rx)
    obtain ⟨_, _, _, n, _, h1⟩ := (show ObjOk X.prog X.w H s.heap a (.frz ob (.lst xs)) from I.hok a _ ea)
    exact PySem.W.kia_one PySem.W.kitx_list I.kIn ⟨_, h1, rfl⟩ e (fun z => nomatch z) h
  | @tup a xs ea =>
    cases (show u = Value.ref a from rx)
    obtain ⟨_, _, _, p⟩ := (show ObjOk X.prog X.w H s.heap a (.tup xs) from I.hok a _ ea)
    obtain ⟨o, h1, h2, _⟩ := p
    exact PySem.W.kia_one PySem.W.kitx_tuple I.kIn ⟨o, h1, h2⟩ e (fun z => nomatch z) h
  | @dK a kvs ea =>
    cases (show u = Value.ref a from rx)
    obtain ⟨_, _, vs, _, p⟩ := (show ObjOk X.prog X.w H s.heap a (.dK kvs) from I.hok a _ ea)
    obtain ⟨o, es, ep, h1, h2, _⟩ := p
    exact PySem.W.kia_one PySem.W.kitx_dict I.kIn ⟨o, h1, h2.1⟩ e (fun z => nomatch z) h
  | @dT a kvs ea =>
    cases (show u = Value.ref a from rx)
    obtain ⟨_, _, xs, _, o, es, ep, h1, h2, _⟩ := (show ObjOk X.prog X.w H s.heap a (.dT kvs) from I.hok a _ ea)
    exact PySem.W.kia_one PySem.W.kitx_dict I.kIn ⟨o, h1, h2.1⟩ e (fun z => nomatch z) h
  | @ins a C dx fs ea cl ha hn htk hm =>
    cases (show u = Value.ref a from rx)
    obtain ⟨mA, O, _⟩ := ins_get I.hok ea
    obtain ⟨od, J, _⟩ := O.look
    exact PySem.W.kia_one (PySem.W.kitx_own (cl.get _) cl.hd ha hn htk hm) I.kIn J e (fun z => nomatch z) h
end
open PySem PySem.Spec PyProof.Rows
structure Room (k : Nat) (A : Around) : Prop where
  hd : A.handled = none
  dp : A.depth + 3 * k + 5 < recursionLimit
  un : A.units + 16 * k + 200 < cLine
theorem Room.mono {j k : Nat} {A : Around} (r : Room k A) (h : j ≤ k) : Room j A := ⟨r.hd, by have := r.dp; omega, by have := r.un; omega⟩
theorem Room.deeper {k : Nat} {A : Around} (r : Room (k + 1) A) (env : Env) : Room k (A.deeper env) :=
  ⟨r.hd, by have := r.dp; show A.depth + 1 + 3 * k + 5 < _; omega, by have := r.un; show A.units + 3 + 16 * k + 200 < _; omega⟩
theorem make_depth {A : Around} {C : Addr} {us : List Value} {kw : List (Str × Value)} : (A.under (.builtin "type.__call__" ⟨.ref C :: us, kw⟩)).depth = A.depth + 1 := by
  first | rfl | simp [Around.under, Code.weight, Code.isCreation, Code.isGuard, Code.isCaller, Code.frames, Code.isFrame, guardIds]
theorem make_units {A : Around} {C : Addr} {us : List Value} {kw : List (Str × Value)} : (A.under (.builtin "type.__call__" ⟨.ref C :: us, kw⟩)).units = A.units + 1 := by
  first | rfl | simp [Around.under, Code.cUnits, Code.frames, Code.isFrame]
theorem Room.make {k : Nat} {A : Around} (r : Room (k + 1) A) (C : Addr) (us : List Value) (kw : List (Str × Value)) : Room k (A.under (.builtin "type.__call__" ⟨.ref C :: us, kw⟩)) :=
  ⟨r.hd, by have := r.dp; rw [make_depth]; omega, by have := r.un; rw [make_units]; omega⟩
theorem Room.depth {k : Nat} {A : Around} (r : Room k A) : A.depth < recursionLimit := by have := r.dp; omega
def tNil : TA := fun _ H Q => Q [] H
def tCons (ta : TE) (tr : TA) : TA := fun σ H Q => ta σ H fun x H1 => tr σ H1 fun xs H2 => Q (x :: xs) H2
section
variable {X : Cx} {e : Expr} {es : List Expr} {te : TE} {t : TA} {pos : Pos}
theorem pa_nil : PA X [] tNil := fun _ _ _ _ H Q I h => Calls.spliced_nil ⟨[], H, I, .nil, h⟩
theorem pa_cons (ha : PE X e te) (hr : PA X es t) (hs : starEach (e :: es) X.env = (false, eval e X.env) :: starEach es X.env := by rfl) : PA X (e :: es) (tCons te t) := by
  intro pos pins s σ H Q I h
  rw [hs]
  show wpAny _ _ (spliced ((false, eval e X.env) :: backTo pos (starEach es X.env))) _ _ s
  refine Calls.spliced_cons (thn (ha pins s σ H _ I h) fun u s1 ⟨x, H1, I1, r1, q1⟩ => ?_)
  exact thn (hr pos pins s1 σ H1 _ I1 q1) fun us s2 ⟨xs, H2, I2, r2, q2⟩ => ⟨x :: xs, H2, I2, .cons r1 r2, q2⟩
def tTup (t : TA) : TE := fun σ H Q => t σ H fun xs H1 => xs.length ≤ sizeLine ∧ ∀ p, H1 p = none → Q (.ref p) (upd H1 p (.tup xs))
def tLst (t : TA) : TE := fun σ H Q => t σ H fun xs H1 => xs.length ≤ sizeLine ∧ ∀ p, H1 p = none → Q (.ref p) (upd H1 p (.lst xs))
theorem pe_tup {x1} (h : PA X es t) : PE X (.Tuple es x1 pos) (tTup t) := by
  intro pins s σ H Q I hq
  refine wpAny_Tuple_spliced (thn (h pos pins s σ H _ I hq) fun us s1 ⟨xs, H1, I1, r, z, q⟩ => ⟨by rw [← r.length]; exact z, ?_⟩)
  have hf : H1 s1.heap.objs.size = none := I1.hok.fresh (Nat.le_refl _)
  refine ⟨.ref s1.heap.objs.size, upd H1 s1.heap.objs.size (.tup xs), I1.laid (t' := s1.toks) (fun b u e => Heap.get?_push_of_some _ e) (Nat.le_refl _) ?_, rfl, q _ hf⟩
  exact ⟨z, us, r, ⟨_, Heap.get?_push_size _ rfl, rfl, _, rfl⟩⟩
theorem pe_lst (h : PA X es t) : PE X (.List es pos) (tLst t) := by
  intro pins s σ H Q I hq
  refine wpAny_List_spliced (thn (h pos pins s σ H _ I hq) fun us s1 ⟨xs, H1, I1, r, z, q⟩ => ⟨by rw [← r.length]; exact z, ?_⟩)
  have hf : H1 s1.heap.objs.size = none := I1.hok.fresh (Nat.le_refl _)
  refine ⟨.ref s1.heap.objs.size, upd H1 s1.heap.objs.size (.lst xs), I1.laid (t' := s1.toks) (fun b u e => Heap.get?_push_of_some _ e) (Nat.le_refl _) ?_, rfl, q _ hf⟩
  exact ⟨z, us, 0, r, Heap.get?_push_size _ rfl⟩
end
abbrev Sp := List V → Hp → VK → XK → Prop
abbrev CXT := List Env → Hp → Shared → XK → Value → Shared → Prop
structure Env0 (P : Program) (w : World) (K : PySem.W.Frag) (mg : Str → Option Value) (base : Heap) (A : Around) (outer : List Env) (s : Shared) (H : Hp) : Prop where
  frames : A.frames = some outer
  mod : Mod K mg base
  bs : ∀ b o, base.get? b = some o → s.heap.get? b = some o ∧ H b = none
  bsz : base.objs.size ≤ s.heap.objs.size
  funs : s.heap.FunFrames base outer
  frf : ∀ b ∈ frs outer, H b = none
  hok : HOk P w H s.heap
  bare : AllBare s.gens
def CE (outer : List Env) (P : Program) (w : World) (H : Hp) (s : Shared) (Q : VK) (u : Value) (s' : Shared) : Prop :=
  ∃ v H', s'.os = s.os ∧ AllBare s'.gens ∧ Un (frs outer) [] H H' s.heap s'.heap ∧ HOk P w H' s'.heap ∧ RelV v u ∧ Q v H'
def CR (CX : CXT) (outer : List Env) (P : Program) (w : World) (H : Hp) (s : Shared) (Q : VK) (E : XK) (r : Result) (s' : Shared) : Prop :=
  match r with
  | .ok (.ret u) => CE outer P w H s Q u s'
  | .ok _ => False
  | .error e => CX outer H s E e s'
structure FnOk (P : Program) (w : World) (K : PySem.W.Frag) (mg : Str → Option Value) (base : Heap) (CX : CXT) (k : Nat) (f : Addr) (fd : FuncData) (ps : List Str) (sp : Sp) : Prop where
  len : ∀ vs H Q E, sp vs H Q E → vs.length = ps.length
  run : ∀ (A : Around) (outer : List Env) (s : Shared) (H : Hp) (args : Args) (us : List Value) (vs : List V) (Q : VK) (E : XK), Room k A → Env0 P w K mg base A outer s H → BindsTo s fd args (ps.zip us) → Vals vs us → sp vs H Q E →
    codeAny (model P w) A (.call (.ref f) args) (CR CX outer P w H s Q E) s
theorem FnOk.mono {P : Program} {w : World} {K : PySem.W.Frag} {mg : Str → Option Value} {base : Heap} {CX : CXT} {j k : Nat} {f : Addr} {fd : FuncData} {ps : List Str} {sp : Sp} (F : FnOk P w K mg base CX j f fd ps sp) (h : j ≤ k) :
    FnOk P w K mg base CX k f fd ps sp := ⟨F.len, fun A outer s H args us vs Q E hr => F.run A outer s H args us vs Q E (hr.mono h)⟩
theorem Env0.make {P : Program} {w : World} {K : PySem.W.Frag} {mg : Str → Option Value} {base : Heap} {A : Around} {outer : List Env} {s : Shared} {H : Hp} (e : Env0 P w K mg base A outer s H) (C : Addr) (us : List Value) (kw : List (Str × Value)) :
    Env0 P w K mg base (A.under (.builtin "type.__call__" ⟨.ref C :: us, kw⟩)) outer s H := ⟨by first | exact e.frames | (simpa [Around.under, Code.envs, Code.isFrame, pushEnvs] using e.frames), e.mod, e.bs, e.bsz, e.funs, e.frf, e.hok, e.bare⟩
section
variable {X : Cx} {pins : List (Addr × Obj)} {σ : St} {H : Hp} {s s' : Shared}
theorem Inv.env0 (I : Inv X pins σ H s) : Env0 X.prog X.w X.K X.mg X.base X.A X.stack s H :=
  ⟨I.ok.frames, I.ok.mod, I.bs, Nat.le_trans I.ok.bsz I.sz, I.stack, I.stkFree, I.hok, I.bare⟩
theorem Inv.after {Q : VK} {u : Value} (I : Inv X pins σ H s) (h : CE X.stack X.prog X.w H s Q u s') : EP X pins σ Q u s' := by
  obtain ⟨v, H', os, bare, un, hok, r, q⟩ := h
  obtain ⟨hh, g, d, t, os'⟩ := s'
  obtain rfl : os' = s.os := os
  exact ⟨v, H', I.call (h' := hh) (g' := g) (d' := d) (t' := t) (ch := []) un hok bare (fun b z => absurd z (by simp)), r, q⟩
end
def tCall (sp : Sp) (dvs : List V) (E : XK) (t : TA) : TE := fun σ H Q => t σ H fun vs H1 => sp (vs ++ dvs) H1 Q E
def tMeth (C : Addr) (m : Str) (sp : Sp) (dvs : List V) (E : XK) (ta : TE) (t : TA) : TE := fun σ H Q => ta σ H fun x H1 => ∃ a dx fs, x = .ref a ∧ H1 a = some (.ins C dx fs) ∧ fs.lookup m = none ∧
  t σ H1 fun vs H2 => sp (x :: (vs ++ dvs)) H2 Q E
def tMake (C : Addr) (sp : Sp) (dvs : List V) (E : XK) (t : TA) : TE := fun σ H Q => t σ H fun vs H1 => ∀ x dx, H1 x = none → H1 dx = none → dx ≠ x →
  sp (.ref x :: (vs ++ dvs)) (upd (upd H1 dx (.own x)) x (.ins C dx [])) (fun v H2 => v = .non ∧ Q (.ref x) H2) E
def Binds (K : PySem.W.Frag) (fd : FuncData) (ps : List Str) (ds : List Value) : Prop :=
  ∀ (s : Shared) (us : List Value), K.In s.heap → (us ++ ds).length = ps.length → BindsTo s fd ⟨us, []⟩ (ps.zip (us ++ ds))
theorem Binds.all {K : PySem.W.Frag} {fd : FuncData} {ps : List Str} (h : ∀ us : List Value, us.length = ps.length → bindArgs fd ⟨us, []⟩ = pure (ps.zip us)) : Binds K fd ps [] := fun s us _ hl => by
  rw [List.append_nil] at hl ⊢
  exact .of_eq (h us hl)
def Passes (CX : CXT) (X : Cx) (E : XK) : Prop := ∀ (pins : List (Addr × Obj)) (σ : St) (H : Hp) (s : Shared) (e : Value) (s' : Shared), Inv X pins σ H s → CX X.stack H s E e s' → X.xe e s'
section
variable {X : Cx} {CX : CXT} {k : Nat} {f C : Addr} {fd : FuncData} {ps : List Str} {sp : Sp} {dvs : List V} {ds : List Value} {E : XK} {x m : Str} {p pos apos : Pos} {e o : Expr} {es : List Expr} {ta : TE} {t : TA}
theorem run_fn {pins : List (Addr × Obj)} {σ : St} {H : Hp} {s : Shared} {Q : VK} {us : List Value} {vs : List V} (F : FnOk X.prog X.w X.K X.mg X.base CX k f fd ps sp) (hr : Room k X.A) (hb : Binds X.K fd ps ds) (hd : Vals dvs ds) (hx : Passes CX X E)
    (I : Inv X pins σ H s) (r : Vals vs us) (h : sp (vs ++ dvs) H Q E) : wpAny (model X.prog X.w) X.A (call (.ref f) us) (EP X pins σ Q) X.xe s := by
  have r2 : Vals (vs ++ dvs) (us ++ ds) := r.append hd
  have hl : (us ++ ds).length = ps.length := by rw [← r2.length]; exact F.len _ _ _ _ h
  refine wpAny_call (codeAny_mono (F.run X.A X.stack s H ⟨us, []⟩ (us ++ ds) (vs ++ dvs) Q E hr I.env0 (hb s us I.kIn hl) r2 h) fun r s' hq => ?_)
  cases r with
  | error e => exact hx pins σ H s e s' I hq
  | ok fl =>
    cases fl with
    | ret u => exact I.after hq
    | next => exact False.elim hq
    | brk => exact False.elim hq
    | cont => exact False.elim hq
theorem pe_call (F : FnOk X.prog X.w X.K X.mg X.base CX k f fd ps sp) (hr : Room k X.A) (hg : Gl X x) (hm : X.mg x = some (.ref f)) (hk : PySem.W.keepIn X.K (.ref f) = true) (hb : Binds X.K fd ps ds) (hd : Vals dvs ds) (hx : Passes CX X E)
    (ha : PA X (e :: es) t) (hdb : (x == ("__debug__" : Str)) = false := by decide) (he : starEach (e :: es) X.env = (false, eval e X.env) :: starEach es X.env := by rfl) (hpl : (backTo pos (starEach es X.env)).any (·.1) = false := by rfl) :
    PE X (.Call (.Name x p) (e :: es) [] pos) (tCall sp dvs E t) := by
  intro pins s σ H Q I h
  refine wpAny_Call_Name_kw (ld_glob I hg hm ?_ hdb)
  refine PySem.W.callWith_K (h₀ := X.base) I.ok.mod.kin hk (thn (ha pos pins s σ H _ I h) fun us s1 ⟨vs, H1, I1, r, q⟩ => ⟨I1.kIn, ?_⟩) he hpl
  exact run_fn F hr hb hd hx I1 r q
theorem pe_meth {pl : Sem Bool} (he : PE X o ta) (c : Cls X.K C) (hm : Meth X.K C m f) (F : FnOk X.prog X.w X.K X.mg X.base CX k f fd ps sp) (hr : Room k X.A) (hb : Binds X.K fd ps ds) (hd : Vals dvs ds) (hx : Passes CX X E) (ha : PA X (e :: es) t)
    (hst : starEach (e :: es) X.env = (false, eval e X.env) :: starEach es X.env := by rfl) (hpl : (backTo pos (starEach es X.env)).any (·.1) = false := by rfl)
    (ht : eval (.Call (.Attribute o m apos) (e :: es) [] pos) X.env = (do
      let ov ← eval o X.env
      standAt apos.atName
      let (f, first) ← holding [ov] (getMethod ov m pl)
      callWith pos f first (backTo pos (starEach (e :: es) X.env)) (backToKw pos (keywordEach [] X.env))) := by rfl) :
    PE X (.Call (.Attribute o m apos) (e :: es) [] pos) (tMeth C m sp dvs E ta t) := by
  intro pins s σ H Q I h
  refine PySem.W.methodCall_KW (pl := pl) (thn (he pins s σ H _ I h) fun u s1 ⟨x, H1, I1, rx, a, dx, fs, ex, ea, l, q⟩ => ?_) ht
  subst ex
  obtain rfl : u = Value.ref a := rx
  refine getmeth_ok I1 ea c hm l ?_
  refine PySem.W.callWith_K (first := [.ref a]) (h₀ := X.base) I.ok.mod.kin hm.kp (thn (ha pos pins s1 σ H1 _ I1 q) fun us s2 ⟨vs, H2, I2, r, q2⟩ => ⟨I2.kIn, ?_⟩) hst hpl
  exact run_fn (us := .ref a :: us) (vs := .ref a :: vs) F hr hb hd hx I2 (.cons rfl r) q2
theorem pe_meth0 {pl : Sem Bool} (he : PE X o ta) (c : Cls X.K C) (hm : Meth X.K C m f) (F : FnOk X.prog X.w X.K X.mg X.base CX k f fd ps sp) (hr : Room k X.A) (hb : Binds X.K fd ps ds) (hd : Vals dvs ds) (hx : Passes CX X E)
    (ht : eval (.Call (.Attribute o m apos) [] [] pos) X.env = (do
      let ov ← eval o X.env
      standAt apos.atName
      let (f, first) ← holding [ov] (getMethod ov m pl)
      callWith pos f first (backTo pos (starEach [] X.env)) (backToKw pos (keywordEach [] X.env))) := by rfl) :
    PE X (.Call (.Attribute o m apos) [] [] pos) (tMeth C m sp dvs E ta tNil) := by
  intro pins s σ H Q I h
  refine PySem.W.methodCall_KW (pl := pl) (thn (he pins s σ H _ I h) fun u s1 ⟨x, H1, I1, rx, a, dx, fs, ex, ea, l, q⟩ => ?_) ht
  subst ex
  obtain rfl : u = Value.ref a := rx
  refine getmeth_ok I1 ea c hm l ?_
  exact PySem.W.callWith_K0 (first := [.ref a]) I1.kIn hm.kp (run_fn (us := [.ref a]) (vs := [.ref a]) F hr hb hd hx I1 (.cons rfl .nil) q)
structure Mk (K : PySem.W.Frag) (C f : Addr) : Prop where
  makes : PySem.W.makesIn K C = true
  init : PySem.W.findIn K (.ref C) "__init__" = some (some (.ref f))
  fn : PySem.W.isFn K (.ref f) = true
  kp : PySem.W.keepIn K (.ref C) = true
theorem run_make {pins : List (Addr × Obj)} {σ : St} {H : Hp} {s : Shared} {Q : VK} {us : List Value} {vs : List V} (M : Mk X.K C f) (F : FnOk X.prog X.w X.K X.mg X.base CX k f fd ps sp) (hr : Room (k + 1) X.A) (hb : Binds X.K fd ps ds) (hd : Vals dvs ds)
    (hx : Passes CX X E) (I : Inv X pins σ H s) (r : Vals vs us)
    (h : ∀ x dx, H x = none → H dx = none → dx ≠ x → sp (.ref x :: (vs ++ dvs)) (upd (upd H dx (.own x)) x (.ins C dx [])) (fun v H2 => v = .non ∧ Q (.ref x) H2) E) :
    wpAny (model X.prog X.w) X.A (call (.ref C) us) (EP X pins σ Q) X.xe s := by
  have hq := h (s.heap.objs.size + 1) s.heap.objs.size (I.hok.fresh (Nat.le_succ _)) (I.hok.fresh (Nat.le_refl _)) (Nat.ne_of_lt (Nat.lt_succ_self _))
  have I2 := Inv.made (C := C) I
  have r2 : Vals (V.ref (s.heap.objs.size + 1) :: (vs ++ dvs)) (Value.ref (s.heap.objs.size + 1) :: (us ++ ds)) := .cons rfl (r.append hd)
  have hl : (Value.ref (s.heap.objs.size + 1) :: us ++ ds).length = ps.length := by
    have e := r2.length
    rw [F.len _ _ _ _ hq] at e
    exact e.symm
  refine wpAny_call (make_map (f := f) I.kIn M.makes M.init (beq_iff_eq.mp M.fn) (codeAny_mono (F.run _ X.stack _ _ ⟨Value.ref (s.heap.objs.size + 1) :: us, []⟩ (Value.ref (s.heap.objs.size + 1) :: (us ++ ds)) _ _ E (hr.make C us [])
    (I2.env0.make C us []) (hb _ (Value.ref (s.heap.objs.size + 1) :: us) I2.kIn hl) r2 hq) fun r s' hq' => ?_))
  cases r with
  | error e => exact hx pins σ _ _ e s' I2 hq'
  | ok fl =>
    cases fl with
    | ret u =>
      obtain ⟨v, H', I3, rv, ev, q3⟩ := I2.after hq'
      subst ev
      exact ⟨rv, ⟨V.ref (s.heap.objs.size + 1), H', I3, rfl, q3⟩⟩
    | next => exact False.elim hq'
    | brk => exact False.elim hq'
    | cont => exact False.elim hq'
theorem pe_make (M : Mk X.K C f) (F : FnOk X.prog X.w X.K X.mg X.base CX k f fd ps sp) (hr : Room (k + 1) X.A) (hg : Gl X x) (hm : X.mg x = some (.ref C)) (hb : Binds X.K fd ps ds) (hd : Vals dvs ds) (hx : Passes CX X E)
    (ha : PA X (e :: es) t) (hdb : (x == ("__debug__" : Str)) = false := by decide) (he : starEach (e :: es) X.env = (false, eval e X.env) :: starEach es X.env := by rfl) (hpl : (backTo pos (starEach es X.env)).any (·.1) = false := by rfl) :
    PE X (.Call (.Name x p) (e :: es) [] pos) (tMake C sp dvs E t) := by
  intro pins s σ H Q I h
  refine wpAny_Call_Name_kw (ld_glob I hg hm ?_ hdb)
  refine PySem.W.callWith_K (h₀ := X.base) I.ok.mod.kin M.kp (thn (ha pos pins s σ H _ I h) fun us s1 ⟨vs, H1, I1, r, q⟩ => ⟨I1.kIn, ?_⟩) he hpl
  exact run_make M F hr hb hd hx I1 r q
end
def PK (X : Cx) (kws : List Keyword) (t : TA) : Prop :=
  ∀ (pos : Pos) (pins : List (Addr × Obj)) (s : Shared) (σ : St) (H : Hp) (Q : List V → Hp → Prop), Inv X pins σ H s → t σ H Q → wpAny (model X.prog X.w) X.A (evalAll ((backToKw pos (keywordEach kws X.env)).map (·.2))) (AP X pins σ Q) X.xe s
section
variable {X : Cx} {CX : CXT} {k : Nat} {f C : Addr} {fd : FuncData} {ps ks : List Str} {sp : Sp} {E : XK} {x m : Str} {p pos apos kpos : Pos} {e o : Expr} {es : List Expr} {kws : List Keyword} {te ta : TE} {t tk : TA} {nm : Option Str}
structure KBinds (K : PySem.W.Frag) (fd : FuncData) (ps ks : List Str) (g : List Value → List Value → List Value) (gV : List V → List V → List V) : Prop where
  to : ∀ (s : Shared) (us ws : List Value), K.In s.heap → (g us ws).length = ps.length → BindsTo s fd ⟨us, ks.zip ws⟩ (ps.zip (g us ws))
  rel : ∀ {vs : List V} {us : List Value} {zs : List V} {ws : List Value}, Vals vs us → Vals zs ws → Vals (gV vs zs) (g us ws)
def tCallK (sp : Sp) (gV : List V → List V → List V) (E : XK) (t tk : TA) : TE := fun σ H Q => t σ H fun vs H1 => tk σ H1 fun zs H2 => sp (gV vs zs) H2 Q E
variable {g : List Value → List Value → List Value} {gV : List V → List V → List V}
end
structure FnScope (N P : List Str) (sc : Scope) : Prop where
  kind : sc.kind = .function
  co : sc.isCoroutine = false
  gen : sc.isGenerator = false
  nd : N.Nodup
  pre : N.take P.length = P
  par : ∀ x ∈ P, sc.names.lookup x = some .local ∨ sc.names.lookup x = some .cell
  nofree : ∀ y ∈ sc.names, y.2 ≠ .free
theorem bindL_out {kindOf : Str → Option NameKind} {x : Str} : ∀ {binds : List (Str × Value)} {m : Str → Option Value}, (∀ v, (x, v) ∉ binds) → bindL kindOf binds m x = m x
  | [], _, _ => rfl
  | (n, v) :: r, m, h => by
    unfold bindL
    rw [bindL_out fun w hw => h w (List.mem_cons_of_mem _ hw)]
    split
    · have : x ≠ n := by rintro rfl; exact h v List.mem_cons_self
      simp [this]
    · rfl
theorem bindC_out {kindOf : Str → Option NameKind} {x : Str} : ∀ {binds : List (Str × Value)} {m : Str → Option Value}, (∀ v, (x, v) ∉ binds) → bindC kindOf binds m x = m x
  | [], _, _ => rfl
  | (n, v) :: r, m, h => by
    unfold bindC
    rw [bindC_out fun w hw => h w (List.mem_cons_of_mem _ hw)]
    split
    · rfl
    · have : x ≠ n := by rintro rfl; exact h v List.mem_cons_self
      simp [this]
theorem bindL_get {kindOf : Str → Option NameKind} {x : Str} {v : Value} : ∀ {P : List Str} {vs : List Value} {i : Nat} {m : Str → Option Value}, P.Nodup → P[i]? = some x → vs[i]? = some v → kindOf x = some .local →
    bindL kindOf (P.zip vs) m x = some v
  | [], _, _, _, _, h, _, _ => by simp at h
  | _ :: _, [], _, _, _, _, h, _ => by simp at h
  | p :: P, w :: vs, 0, m, nd, h1, h2, hk => by
    simp at h1 h2; subst h1; subst h2
    show bindL kindOf ((p, w) :: P.zip vs) m p = _
    unfold bindL
    rw [bindL_out fun v hv => (List.nodup_cons.mp nd).1 (List.of_mem_zip hv).1, if_pos hk]
    simp
  | p :: P, w :: vs, i + 1, m, nd, h1, h2, hk => by
    show bindL kindOf ((p, w) :: P.zip vs) m x = _
    unfold bindL
    exact bindL_get (i := i) (List.nodup_cons.mp nd).2 (by simpa using h1) (by simpa using h2) hk
theorem bindC_get {kindOf : Str → Option NameKind} {x : Str} {v : Value} : ∀ {P : List Str} {vs : List Value} {i : Nat} {m : Str → Option Value}, P.Nodup → P[i]? = some x → vs[i]? = some v → kindOf x ≠ some .local →
    bindC kindOf (P.zip vs) m x = some v
  | [], _, _, _, _, h, _, _ => by simp at h
  | _ :: _, [], _, _, _, _, h, _ => by simp at h
  | p :: P, w :: vs, 0, m, nd, h1, h2, hk => by
    simp at h1 h2; subst h1; subst h2
    show bindC kindOf ((p, w) :: P.zip vs) m p = _
    unfold bindC
    rw [bindC_out fun v hv => (List.nodup_cons.mp nd).1 (List.of_mem_zip hv).1, if_neg hk]
    simp
  | p :: P, w :: vs, i + 1, m, nd, h1, h2, hk => by
    show bindC kindOf ((p, w) :: P.zip vs) m x = _
    unfold bindC
    exact bindC_get (i := i) (List.nodup_cons.mp nd).2 (by simpa using h1) (by simpa using h2) hk
def start (N : List Str) (vs : List V) : St := vs.map some ++ List.replicate (N.length - vs.length) none
def cxOf (CX : CXT) (P : Program) (w : World) (K : PySem.W.Frag) (mg : Str → Option Value) (base : Heap) (N : List Str) (qual : Str) (scope : Scope) (f : Addr) (cd : Value) (A : Around) (outer : List Env) (s : Shared) (H : Hp) (E : XK) : Cx where
  prog := P
  w := w
  K := K
  mg := mg
  base := base
  A := A.deeper (envOfC qual scope s.heap.objs.size f cd)
  N := N
  s₀ := s
  H₀ := H
  env := envOfC qual scope s.heap.objs.size f cd
  outer := outer
  stack := envOfC qual scope s.heap.objs.size f cd :: outer
  ex := []
  calm := true
  fn := fun _ => true
  pn := []
  xe := fun e s' => wpAny (model P w) (A.deeper (envOfC qual scope s.heap.objs.size f cd)) (leaving (envOfC qual scope s.heap.objs.size f cd) e) (fun _ s'' => CX outer H s E e s'') (fun e' s'' => CX outer H s E e' s'') s'
theorem cell_has {sc : Scope} {n : Nat} {x : Str} (h : sc.names.lookup x = some .cell) : ∃ c, (cellsFrom n sc.names []).lookup x = some c := by
  have q := PySem.W.cellsFrom_some sc.names n [] (.inl h)
  exact Option.isSome_iff_exists.mp q
theorem inv_start {CX : CXT} {P : Program} {w : World} {K : PySem.W.Frag} {mg : Str → Option Value} {base : Heap} {N ps : List Str} {qual : Str} {scope : Scope} {f : Addr} {cd : Value} {A : Around} {outer : List Env} {s s1 : Shared} {H : Hp} {E : XK} {us : List Value} {vs : List V}
    (S : FnScope N ps scope) (hd : A.handled = none) (e0 : Env0 P w K mg base A outer s H) (hl : vs.length = ps.length) (r : Vals vs us)
    (x : InCallC s s.heap.objs.size (bindL (envOfC qual scope s.heap.objs.size f cd).kindOf (ps.zip us) fun _ => none) (cellsFrom (s.heap.objs.size + 1) scope.names []) (bindC (envOfC qual scope s.heap.objs.size f cd).kindOf (ps.zip us) fun _ => none) s1) :
    Inv (cxOf CX P w K mg base N qual scope f cd A outer s H E) [] (start N vs) H s1 := by
  have hpl : ps.length ≤ N.length := by have := congrArg List.length S.pre; rw [List.length_take] at this; omega
  obtain ⟨h1, tk, rfl, hk⟩ := x.done
  have noA : ∀ b : Addr, b ∉ (cxOf CX P w K mg base N qual scope f cd A outer s H E).ex := fun b z => absurd (show b ∈ ([] : List Addr) from z) (by simp)
  refine ⟨⟨e0.mod, S.kind, rfl, rfl, Nat.le_refl _, fun y z c h1 h2 => ?_, fun y hy => ?_, fun y c _ h => ?_, fun _ => hd, Around.frames_deeper e0.frames, .inr ⟨rfl, rfl⟩, fun b z => absurd z (noA b), e0.bs, e0.bsz, fun b _ _ => noA b, fun b z => absurd z (noA b), e0.funs, e0.frf⟩,
    rfl, e0.bare, Un.kept hk, ⟨_, x.toInCall.ns, fun i y v h1 h2 h3 => ?_⟩, fun y c h => ⟨_, x.cell y c h⟩, e0.hok.fresh (Nat.le_refl _), fun y c h => ?_, fun p hp => absurd (show p ∈ ([] : List (Addr × Obj)) from hp) (by simp), e0.hok.kept hk, ?_⟩
  · exact name_of_addr x.apart (PySem.mem_of_lookup h1) (PySem.mem_of_lookup h2)
  · have hy : scope.names.lookup y = some .cell ∨ scope.names.lookup y = some .free := hy
    rcases hy with hy | hy
    · exact cell_has hy
    · exact absurd rfl (S.nofree _ (PySem.mem_of_lookup hy))
  · exact Nat.le_of_lt (x.above y c (PySem.mem_of_lookup h))
  · have hi : i < vs.length := by
      unfold start at h2
      by_cases hi : i < vs.length
      · exact hi
      · rw [List.getElem?_append_right (by simpa using hi)] at h2
        rw [List.getElem?_replicate] at h2
        split at h2 <;> cases h2
    have ha : vs[i]? = some v := by
      unfold start at h2
      rw [List.getElem?_append_left (by simpa using hi), List.getElem?_map] at h2
      cases e : vs[i]? with
      | none => rw [e] at h2; cases h2
      | some a => rw [e] at h2; cases h2; rfl
    obtain ⟨u, hu, rv⟩ := r.get ha
    have hp : ps[i]? = some y := by
      rw [← S.pre, List.getElem?_take_of_lt (by omega)]; exact h1
    have ndP : ps.Nodup := by rw [← S.pre]; exact S.nd.sublist (List.take_sublist _ _)
    refine ⟨u, rv, ?_⟩
    rcases S.par y (List.mem_of_getElem? hp) with k | k
    · exact .inl ⟨k, bindL_get ndP hp hu k⟩
    · obtain ⟨c, e⟩ := cell_has (n := s.heap.objs.size + 1) k
      refine .inr ⟨.inl k, c, e, ?_⟩
      have q := x.cell y c e
      rw [bindC_get ndP hp hu (by show scope.names.lookup y ≠ _; rw [k]; decide)] at q
      exact q
  · exact e0.hok.fresh (Nat.le_of_lt (x.above y c (PySem.mem_of_lookup h)))
  · unfold start
    show _ = N.length
    rw [List.length_append, List.length_map, List.length_replicate]
    omega
theorem fn_of {CX : CXT} {P : Program} {w : World} {K : PySem.W.Frag} {mg : Str → Option Value} {base : Heap} {k : Nat} {f : Addr} {name qual : Str} {params : Arguments} {body : List Stmt} {scope : Scope} {dV kV doc pm cdv ct oc : Value} {an od : Option Addr}
    {osl : Array (Option Value)} {N ps : List Str} {sp : Sp} (lk : K.lookup f = some ⟨oc, od, .func (PySem.W.fnOf name qual params body scope dV kV doc pm an cdv ct), osl⟩) (hcd : PySem.W.codeIn K cdv qual = true) (S : FnScope N ps scope)
    (len : ∀ vs H Q E, sp vs H Q E → vs.length = ps.length)
    (hbody : ∀ (A : Around) (outer : List Env) (s : Shared) (H : Hp) (vs : List V) (Q : VK) (E : XK), Room k (A.deeper (envOfC qual scope s.heap.objs.size f cdv)) → sp vs H Q E →
      ∃ t, PSs (cxOf CX P w K mg base N qual scope f cdv A outer s H E) body t ∧ t { nx := fun _ H' => Q .non H', rt := Q } (start N vs) H) :
    FnOk P w K mg base CX (k + 1) f (PySem.W.fnOf name qual params body scope dV kV doc pm an cdv ct) ps sp := by
  refine ⟨len, fun A outer s H args us vs Q E hr e0 hb r hsp => ?_⟩
  have hl := len _ _ _ _ hsp
  have KX : K.In s.heap := e0.mod.kin.keeps fun b o e => (e0.bs b o e).1
  have lim : s.heap.NoLimit := e0.mod.nolimit.keeps fun b o e => (e0.bs b o e).1
  have hkind : ∀ y ∈ ps.zip us, scope.names.lookup y.1 = some .local ∨ (scope.names.lookup y.1 = some .cell ∧ ((cellsFrom (s.heap.objs.size + 1) scope.names []).lookup y.1).isSome = true) := fun ⟨n, v⟩ hy => by
    rcases S.par n (List.of_mem_zip hy).1 with q | q
    · exact .inl q
    · exact .inr ⟨q, PySem.W.cellsFrom_some _ _ _ (.inl q)⟩
  refine codeAny_call_function hr.depth (KX _ _ lk) rfl S.co S.gen rfl (PySem.W.codeRec_of KX hcd) (hb _ _ _ _ ?_)
  refine wpAny_newFunctionEnv_cells S.kind hkind fun env he s1 x => ?_
  subst he
  refine ⟨lim.keeps x.toInCall.keep, codeAny_func ?_⟩
  obtain ⟨t, ht, hq⟩ := hbody A outer s H vs Q E (hr.deeper _) hsp
  have I : Inv (cxOf CX P w K mg base N qual scope f cdv A outer s H E) [] (start N vs) H s1 := inv_start S hr.hd e0 hl r x
  refine wpAny_mono (ht [] s1 (start N vs) H _ I hq) (fun fl s' hs => ?_) fun e s' hs => hs
  have fin : ∀ {σ' : St} {H' : Hp} {v : V} {u : Value}, Inv (cxOf CX P w K mg base N qual scope f cdv A outer s H E) [] σ' H' s' → RelV v u → Q v H' → CE outer P w H s Q u s' :=
    fun {σ' H' v u} J rv q => ⟨v, H', J.os, J.bare, J.base, J.hok, rv, q⟩
  cases fl with
  | ret u =>
    obtain ⟨v, σ', H', J, rv, q⟩ := hs
    exact fin J rv q
  | next =>
    obtain ⟨σ', H', J, q⟩ := hs
    exact fin (v := V.non) (u := Value.none) J rfl q
  | brk =>
    obtain ⟨_, _, _, q⟩ := hs
    exact False.elim q
  | cont =>
    obtain ⟨_, _, _, q⟩ := hs
    exact False.elim q
open PySem PySem.Spec PyProof.Rows
section
variable {X : Cx} {x : Str} {p pos : Pos} {e : Expr} {es : List Expr} {t : TA} {id T : String} {r : List V → Hp → VK → Prop}
def tCB (r : List V → Hp → VK → Prop) (t : TA) : TE := fun σ H Q => t σ H fun vs H1 => r vs H1 Q
theorem pe_callB (hc : CallR X (.builtin id) r) (hg : Gl X x) (hm : X.mg x = none) (hv : bootBuiltins x = some (.builtin id)) (ha : PA X (e :: es) t) (hn : x ≠ "__name__" := by decide) (hdb : (x == ("__debug__" : Str)) = false := by decide)
    (he : starEach (e :: es) X.env = (false, eval e X.env) :: starEach es X.env := by rfl) (hpl : (backTo pos (starEach es X.env)).any (·.1) = false := by rfl) : PE X (.Call (.Name x p) (e :: es) [] pos) (tCB r t) := by
  intro pins s σ H Q I h
  refine wpAny_Call_Name_kw (ld_blt I hg hm hv ?_ hn hdb)
  exact PyProof.Rows.callWith_builtin1 (thn (ha pos pins s σ H _ I h) fun us s1 ⟨vs, H1, I1, r1, q1⟩ => hc pins s1 σ H1 vs us Q I1 r1 q1) he hpl
theorem pe_callTy (hc : CallR X (.type T) r) (hg : Gl X x) (hm : X.mg x = none) (hv : bootBuiltins x = some (.type T)) (ha : PA X (e :: es) t) (hn : x ≠ "__name__" := by decide) (hdb : (x == ("__debug__" : Str)) = false := by decide)
    (he : starEach (e :: es) X.env = (false, eval e X.env) :: starEach es X.env := by rfl) (hpl : (backTo pos (starEach es X.env)).any (·.1) = false := by rfl) : PE X (.Call (.Name x p) (e :: es) [] pos) (tCB r t) := by
  intro pins s σ H Q I h
  refine wpAny_Call_Name_kw (ld_blt I hg hm hv ?_ hn hdb)
  exact PyProof.Rows.callWith_type1 (thn (ha pos pins s σ H _ I h) fun us s1 ⟨vs, H1, I1, r1, q1⟩ => hc pins s1 σ H1 vs us Q I1 r1 q1) he hpl
end
end L2
namespace HT
open PySem PyProof.Rows
def lexLt : List Int → List Int → Bool
  | [], [] => false
  | [], _ :: _ => true
  | _ :: _, [] => false
  | x :: xs, y :: ys => if x = y then lexLt xs ys else decide (x < y)
section
open PySem.SeqAt
open PySem.AutoSeq1 (wpAny_loadPart')
open PySem.MeetsSeq PySem.MeetsSeq2 PySem.MeetsSeq3
end
section
variable {prog : Program} {w : World} {A : Around} {E : Value → Shared → Prop} {s : Shared}
def sIx (n d : Nat) : Option Int → Nat
  | none => d
  | some v => if v < 0 then (v + (n : Int)).toNat else min v.toNat n
theorem sIx_none (n d : Nat) : sIx n d none = d := rfl
theorem sIx_nat (n d k : Nat) : sIx n d (some (k : Int)) = min k n := by
  show (if (k : Int) < 0 then ((k : Int) + (n : Int)).toNat else min (k : Int).toNat n) = min k n
  rw [if_neg (by omega), Int.toNat_natCast]
theorem sIx_le (n d : Nat) (hd : d ≤ n) (o : Option Int) : sIx n d o ≤ n := by
  cases o with
  | none => exact hd
  | some v =>
    show (if v < 0 then (v + (n : Int)).toNat else min v.toNat n) ≤ n
    by_cases hv : v < 0
    · rw [if_pos hv]; omega
    · rw [if_neg hv]; exact Nat.min_le_right _ _
end
end HT
namespace L2
open PySem PySem.Spec PyProof.Rows
abbrev TO := St → Hp → (Option Int → Hp → Prop) → Prop
def PO (X : Cx) (e : Option Expr) (t : TO) : Prop :=
  ∀ (pins : List (Addr × Obj)) (s : Shared) (σ : St) (H : Hp) (Q : Option Int → Hp → Prop), Inv X pins σ H s → t σ H Q →
    wpAny (model X.prog X.w) X.A (evalPart e X.env) (fun u s' => ∃ o H', Inv X pins σ H' s' ∧ IsPart u o ∧ Q o H') X.xe s
def tNoPart : TO := fun _ H Q => Q none H
def tPart (t : TE) : TO := fun σ H Q => t σ H fun x H1 => ∃ i, x = .int i ∧ Q (some i) H1
theorem intsAre_of {ns : List Int} : ∀ {us : List Value}, Vals (ns.map V.int) us → IntsAre us ns := by
  induction ns with
  | nil => intro us r; rw [List.map_nil] at r; cases r; exact .nil
  | cons n ns ih =>
    intro us r
    rw [List.map_cons] at r
    cases r with
    | cons r1 r2 =>
      obtain ⟨t, e⟩ := r1
      subst e
      exact .cons n t (ih r2)
section
variable {X : Cx} {e : Expr} {te : TE} {lo hi : Option Expr} {tl th : TO} {pos p2 : Pos}
theorem po_none : PO X none tNoPart := by
  intro pins s σ H Q I h
  rw [evalPart_none]
  exact wpAny_pure ⟨none, H, I, .none, h⟩
theorem po_some (h : PE X e te) : PO X (some e) (tPart te) := by
  intro pins s σ H Q I hw
  rw [evalPart_some]
  refine thn (h pins s σ H _ I hw) fun u s1 ⟨x, H1, I1, r1, q1⟩ => ?_
  obtain ⟨i, rfl, q⟩ := q1
  obtain ⟨t, rfl⟩ := r1
  exact ⟨some i, H1, I1, .int i t, q⟩
def SlR (X : Cx) (r : V → Option Int → Option Int → Hp → VK → Prop) : Prop :=
  ∀ (pins : List (Addr × Obj)) (s : Shared) (σ : St) (H : Hp) (x : V) (v vl vu : Value) (lo hi : Option Int) (sl : Addr) (Q : VK), Inv X pins σ H s → RelV x v → s.heap.IsSliceOf sl vl vu .none → IsPart vl lo → IsPart vu hi → r x lo hi H Q →
    ∃ T id, typeLookup (.type T) "__getitem__" = pure (some (.builtin id)) ∧ s.TypeIs v T ∧ wpAny (model X.prog X.w) X.A (getItem v (.ref sl)) (EP X pins σ Q) X.xe s
def tSl (r : V → Option Int → Option Int → Hp → VK → Prop) (te : TE) (tl th : TO) : TE := fun σ H Q => te σ H fun x H1 => tl σ H1 fun l H2 => th σ H2 fun u H3 => r x l u H3 Q
theorem pe_slice {r : V → Option Int → Option Int → Hp → VK → Prop} (hr : SlR X r) (he : PE X e te) (hl : PO X lo tl) (hu : PO X hi th) : PE X (.Subscript e (.Slice lo hi none p2) pos) (tSl r te tl th) := by
  intro pins s σ H Q I h
  refine Subscript_ (thn (he pins s σ H _ I h) fun v s1 ⟨x, H1, I1, r1, q1⟩ => ?_)
  refine wpAny_Slice (thn (hl pins s1 σ H1 _ I1 q1) fun vl s2 ⟨l, H2, I2, pl, q2⟩ => thn (hu pins s2 σ H2 _ I2 q2) fun vu s3 ⟨u, H3, I3, pu, q3⟩ => ?_)
  rw [evalPart_none]
  refine wpAny_pure ?_
  have I4 : Inv X pins σ H3 { s3 with heap := s3.heap.push { cls := .type "slice", data := .fields #[vl, vu, .none] } } := I3.kept (t' := s3.toks) fun b ob q => Heap.get?_push_of_some _ q
  obtain ⟨T, id, hT, ht, hg⟩ := hr pins { s3 with heap := s3.heap.push { cls := .type "slice", data := .fields #[vl, vu, .none] } } σ H3 x v vl vu l u s3.heap.objs.size Q I4 r1 (Heap.IsSliceOf.new ..) pl pu q3
  show wpAny (model X.prog X.w) X.A (subscriptTail e (.Slice lo hi none p2) v (.ref s3.heap.objs.size)) (EP X pins σ Q) X.xe { s3 with heap := s3.heap.push { cls := .type "slice", data := .fields #[vl, vu, .none] } }
  exact tail_any (ops := [.ref s3.heap.objs.size, v]) ht hT hg (by with_unfolding_all rfl)
def cutV (xs : List V) (lo hi : Option Int) : List V := (xs.drop (HT.sIx xs.length 0 lo)).take (HT.sIx xs.length xs.length hi - HT.sIx xs.length 0 lo)
theorem cutV_length (xs : List V) (lo hi : Option Int) : (cutV xs lo hi).length ≤ xs.length := by
  unfold cutV
  rw [List.length_take, List.length_drop]
  omega
def rSlT (K : PySem.W.Frag) : V → Option Int → Option Int → Hp → VK → Prop := fun x lo hi H Q => ∃ a xs, x = .ref a ∧ SqT K H a xs ∧
  ¬ (HT.sIx xs.length 0 lo = 0 ∧ HT.sIx xs.length xs.length hi = xs.length) ∧ ∀ p, H p = none → Q (.ref p) (upd H p (.tup (cutV xs lo hi)))
def rLtT (K : PySem.W.Frag) : R2 := fun x y H Q => ∃ a b ns ms, x = .ref a ∧ y = .ref b ∧ SqT K H a (ns.map V.int) ∧ SqT K H b (ms.map V.int) ∧ Q (.bl (HT.lexLt ns ms)) H
def rCatT (K : PySem.W.Frag) : R2 := fun x y H Q => ∃ a b xs ys, x = .ref a ∧ y = .ref b ∧ SqT K H a xs ∧ SqT K H b ys ∧ xs ≠ [] ∧ xs.length + ys.length ≤ sizeLine ∧
  (ys = [] → Q (.ref a) H) ∧ (ys ≠ [] → ∀ p, H p = none → Q (.ref p) (upd H p (.tup (xs ++ ys))))
end
open PySem PySem.Spec PyProof.Rows
def ixN (n : Nat) (i : Int) : Option Nat := if 0 ≤ i then (if i < n then some i.toNat else none) else if -(n : Int) ≤ i then some (i + n).toNat else none
def atI {α : Type} (xs : List α) (i : Int) : Option α := (ixN xs.length i).bind fun j => xs[j]?
theorem ixN_seq {n : Nat} {i : Int} {j : Nat} (h : ixN n i = some j) : seqIndex? i n = some j ∧ j < n ∧ -(n : Int) ≤ i ∧ i < n := by
  unfold ixN at h
  by_cases h0 : 0 ≤ i
  · rw [if_pos h0] at h
    by_cases h1 : i < n
    · rw [if_pos h1] at h
      have e : i.toNat = j := Option.some.inj h
      exact ⟨by rw [seqIndex_of h0 h1, e], by omega, by omega, h1⟩
    · rw [if_neg h1] at h; cases h
  · rw [if_neg h0] at h
    by_cases h1 : -(n : Int) ≤ i
    · rw [if_pos h1] at h
      have e : (i + n).toNat = j := Option.some.inj h
      exact ⟨by rw [seqIndex_neg (by omega) h1, e], by omega, h1, by omega⟩
    · rw [if_neg h1] at h; cases h
theorem atI_get {α : Type} {xs : List α} {i : Int} {v : α} (h : atI xs i = some v) : ∃ j, seqIndex? i xs.length = some j ∧ xs[j]? = some v ∧ j < xs.length ∧ -(xs.length : Int) ≤ i ∧ i < xs.length := by
  unfold atI at h
  cases e : ixN xs.length i with
  | none => rw [e] at h; cases h
  | some j =>
    rw [e] at h
    obtain ⟨h1, h2, h3, h4⟩ := ixN_seq e
    exact ⟨j, h1, h, h2, h3, h4⟩
theorem atI_nat {α : Type} {xs : List α} {j : Nat} {v : α} (h : xs[j]? = some v) : atI xs (j : Int) = some v := by
  have hj : j < xs.length := (List.getElem?_eq_some_iff.mp h).1
  have e : ixN xs.length (j : Int) = some j := by
    unfold ixN
    rw [if_pos (by omega), if_pos (by omega)]; simp
  unfold atI; rw [e]; exact h
def PlainIx (b : Expr) : Prop := ∀ o i, subscripted b false o i = operate [o, i] (getItem o i)
def IxR (X : Cx) (r : R2) : Prop :=
  ∀ (value slice : Expr) (pins : List (Addr × Obj)) (s : Shared) (σ : St) (H : Hp) (x y : V) (v u : Value) (Q : VK), Inv X pins σ H s → RelV x v → RelV y u → r x y H Q →
    subscripted slice false v u = operate [v, u] (getItem v u) → wpAny (model X.prog X.w) X.A (subscriptTail value slice v u) (EP X pins σ Q) X.xe s
def MtR (X : Cx) (id : String) (r : V → List V → Hp → VK → Prop) : Prop :=
  ∀ (pins : List (Addr × Obj)) (s : Shared) (σ : St) (H : Hp) (x : V) (xs : List V) (v : Value) (us : List Value) (Q : VK), Inv X pins σ H s → RelV x v → Vals xs us → r x xs H Q →
    wpAny (model X.prog X.w) X.A (call (.builtin id) (v :: us)) (EP X pins σ Q) X.xe s
section
variable {X : Cx} {a b : Expr} {ta tb : TE} {pos : Pos}
theorem pe_ix {r : R2} (hr : IxR X r) (ha : PE X a ta) (hb : PE X b tb) (hs : PlainIx b) : PE X (.Subscript a b pos) (tOp r ta tb) := by
  intro pins s σ H Q I h
  exact Subscript_ (binT ha hb I h fun v u s2 x y H2 I2 rx ry q => hr a b pins s2 σ H2 x y v u Q I2 rx ry q (hs _ _))
def rIxL (K : PySem.W.Frag) : R2 := fun x y H Q => ∃ p xs i v, x = .ref p ∧ y = .int i ∧ SqL K H p xs ∧ atI xs i = some v ∧ Q v H
def rIxT (K : PySem.W.Frag) : R2 := fun x y H Q => ∃ p xs i v, x = .ref p ∧ y = .int i ∧ SqT K H p xs ∧ atI xs i = some v ∧ Q v H
def rIxS : R2 := fun x y H Q => ∃ z i c, x = .str z ∧ y = .int i ∧ z.length ≤ sizeLine ∧ atI z.cps.toList i = some c ∧ Q (.str ⟨#[c]⟩) H
theorem ix_list : IxR X (rIxL X.K) := by
  intro value slice pins s σ H x y v u Q I rx ry h hs
  obtain ⟨p, xs, i, z, rfl, rfl, hq, he, q⟩ := h
  cases rx
  obtain ⟨t, rfl⟩ := ry
  obtain ⟨its, r, pl, hz⟩ := I.list hq
  obtain ⟨j, h1, h2, h3, h4, h5⟩ := atI_get he
  obtain ⟨w, ew, rw'⟩ := r.get h2
  have hl := r.length
  have hn := line63
  have fin : EP X pins σ Q w s := ⟨z, H, I, rw', q⟩
  by_cases h0 : 0 ≤ i
  · have hj : i.toNat = j := by
      rw [seqIndex_of h0 h5] at h1
      exact Option.some.inj h1
    exact item_listR pl.isList h0 (by omega) (by rw [hj]; simpa using ew) fin hs
  · have hj : (i + (its.toArray.size : Int)).toNat = j := by
      rw [seqIndex_neg (by omega) h4] at h1
      rw [List.size_toArray, ← hl]
      exact Option.some.inj h1
    exact subscriptTail_builtinR (x := w) pl.isList.typeIs slot_list_getitem.lookup
      (wpAny_getItem_list_neg (Q := fun r s' => r = w ∧ EP X pins σ Q r s') pl.isList (by omega) (by rw [List.size_toArray] <;> omega) (by omega) (by rw [hj]; simpa using ew) ⟨rfl, fin⟩) hs
theorem ix_tup : IxR X (rIxT X.K) := by
  intro value slice pins s σ H x y v u Q I rx ry h hs
  obtain ⟨p, xs, i, z, rfl, rfl, hq, he, q⟩ := h
  cases rx
  obtain ⟨t, rfl⟩ := ry
  obtain ⟨its, r, pl, hz⟩ := I.tuple hq
  obtain ⟨j, h1, h2, h3, h4, h5⟩ := atI_get he
  obtain ⟨w, ew, rw'⟩ := r.get h2
  have hl := r.length
  have hn := line63
  have fin : EP X pins σ Q w s := ⟨z, H, I, rw', q⟩
  exact subscriptTail_builtinR (x := w) pl.typeIs slot_tuple_getitem.lookup
    (getItem_tuple (j := j) (Q := fun r s' => r = w ∧ EP X pins σ Q r s') pl (by omega) (by omega) (by rw [List.size_toArray, ← hl]; exact h1) (by simpa using ew) ⟨rfl, fin⟩) hs
theorem ix_str : IxR X rIxS := by
  intro value slice pins s σ H x y v u Q I rx ry h hs
  obtain ⟨z, i, c, rfl, rfl, hz, he, q⟩ := h
  obtain ⟨t, rfl⟩ := rx
  obtain ⟨t', rfl⟩ := ry
  obtain ⟨j, h1, h2, h3, h4, h5⟩ := atI_get he
  have hl : z.cps.toList.length = z.length := by simp [Str.length]
  rw [hl] at h1 h4 h5
  have hn := line63
  exact tail_any (typeIs_str s z t) slot_str_getitem.lookup (getItem_str (c := c) (by
    have e1 : decide (i < -(2 ^ 63 : Int)) = false := decide_eq_false (by omega)
    have e2 : decide (i ≥ 2 ^ 63) = false := decide_eq_false (by omega)
    rw [e1, e2, Bool.or_false]) (by rw [h1]; simpa using h2) ⟨.str ⟨#[c]⟩, H, I.tok _, ⟨_, rfl⟩, q⟩) hs
def rIx (K : PySem.W.Frag) : R2 := fun x y H Q => rIxL K x y H Q ∨ rIxT K x y H Q ∨ rIxS x y H Q
theorem mapSeq_set (its : List Value) (n j : Nat) (u : Value) : Obj.mapSeq (·.setIfInBounds j u) { cls := .type "list", data := .seq its.toArray n } = { cls := .type "list", data := .seq (its.set j u).toArray n } := by
  simp [Obj.mapSeq]
theorem Inv.lst {pins : List (Addr × Obj)} {σ : St} {H : Hp} {s : Shared} {p : Addr} {xs : List V} (I : Inv X pins σ H s) (h : H p = some (.lst xs)) :
    ∃ (its : List Value) (n : Nat), Vals xs its ∧ s.heap.get? p = some { cls := .type "list", data := .seq its.toArray n } ∧ xs.length ≤ sizeLine := by
  obtain ⟨z, its, n, r, e⟩ := I.hok p _ h
  exact ⟨its, n, r, e, z⟩
theorem Inv.lstUpd {pins : List (Addr × Obj)} {σ : St} {H : Hp} {s : Shared} {p : Addr} {xs ys : List V} {its its' : List Value} {n n' : Nat} {f : Obj → Obj} (I : Inv X pins σ H s) (h : H p = some (.lst xs))
    (ho : s.heap.get? p = some { cls := .type "list", data := .seq its.toArray n }) (hf : f { cls := .type "list", data := .seq its.toArray n } = { cls := .type "list", data := .seq its'.toArray n' }) (r : Vals ys its') (hz : ys.length ≤ sizeLine) (t : Nat) :
    Inv X pins σ (upd H p (.lst ys)) { s with heap := s.heap.update p f, toks := t } := by
  have e : (s.heap.update p f).get? p = some { cls := .type "list", data := .seq its'.toArray n' } := by
    rw [Heap.get?_update_self f ho (by rw [hf] <;> rfl), hf]
  refine I.write (x := p) (e := p) (by rw [h]; trivial) (.inl rfl) (fun b u hb q => (Heap.get?_update_other _ _ (Ne.symm hb)).trans q) ⟨_, e⟩ ?_
  exact ⟨hz, its', n', r, e⟩
def rSetL : V → V → V → Hp → (Hp → Prop) → Prop := fun o i v H Q => ∃ p xs k j, o = .ref p ∧ i = .int k ∧ H p = some (.lst xs) ∧ ixN xs.length k = some j ∧ Q (upd H p (.lst (xs.set j v)))
theorem set_list : PSet X rSetL := by
  intro pins s σ H o i v ov iv u Q I ro ri rv h
  obtain ⟨p, xs, k, j, rfl, rfl, hp, hj, q⟩ := h
  cases ro
  obtain ⟨t, rfl⟩ := ri
  obtain ⟨its, n, r, ho, hz⟩ := I.lst hp
  obtain ⟨h1, h2, h3, h4⟩ := ixN_seq hj
  have hl := r.length
  have hn := line63
  have I' : Inv X pins σ (upd H p (.lst (xs.set j v))) { s with heap := s.heap.update p (Obj.mapSeq (·.setIfInBounds j u)) } :=
    I.lstUpd hp ho (mapSeq_set its n j u) (r.set rv j) (by rw [List.length_set]; exact hz) s.toks
  by_cases h0 : 0 ≤ k
  · have hk : k.toNat = j := by
      rw [seqIndex_of h0 h4] at h1
      exact Option.some.inj h1
    exact PySem.W.ki_setAt ho h0 (by omega) (by rw [List.size_toArray, ← hl]; exact h4) (by rw [hk]; exact ⟨_, I', q⟩)
  · have hk : (k + (its.toArray.size : Int)).toNat = j := by
      rw [seqIndex_neg (by omega) h3] at h1
      rw [List.size_toArray, ← hl]
      exact Option.some.inj h1
    exact PySem.W.ki_setBack ho (by omega) (by rw [List.size_toArray, ← hl]; exact h3) (by omega) (by rw [hk]; exact ⟨_, I', q⟩)
theorem slice_bounds (lo hi : Option Int) (n : Nat) : (sliceBounds lo hi none n).1 = ((HT.sIx n 0 lo : Nat) : Int) ∧ (sliceBounds lo hi none n).2.1 = ((HT.sIx n n hi : Nat) : Int) ∧ (sliceBounds lo hi none n).2.2 = 1 := by
  refine ⟨?_, ?_, rfl⟩
  · cases lo with
    | none => simp [sliceBounds, HT.sIx]
    | some i =>
      simp only [sliceBounds, HT.sIx, Option.getD_none, show (1 : Int) > 0 by decide, if_true]
      by_cases h : i < 0
      · simp only [h, if_true] <;> omega
      · simp only [h, if_false] <;> omega
  · cases hi with
    | none => simp [sliceBounds, HT.sIx]
    | some i =>
      simp only [sliceBounds, HT.sIx, Option.getD_none, show (1 : Int) > 0 by decide, if_true]
      by_cases h : i < 0
      · simp only [h, if_true] <;> omega
      · simp only [h, if_false] <;> omega
theorem slicePick_cut (its : List Value) (lo hi : Option Int) : slicePick its.toArray lo hi none = ((its.drop (HT.sIx its.length 0 lo)).take (HT.sIx its.length its.length hi - HT.sIx its.length 0 lo)).toArray := by
  obtain ⟨h1, h2, h3⟩ := slice_bounds lo hi its.toArray.size
  unfold slicePick
  rw [h1, h2, h3]
  simp only [sliceRange_one, pick_run, List.size_toArray] <;> rfl
def rSlL (K : PySem.W.Frag) : V → Option Int → Option Int → Hp → VK → Prop := fun x lo hi H Q => ∃ a xs, x = .ref a ∧ SqL K H a xs ∧ ∀ p, H p = none → Q (.ref p) (upd H p (.lst (cutV xs lo hi)))
theorem sl_list : SlR X (rSlL X.K) := by
  intro pins s σ H x v vl vu lo hi sl Q I rx hs pl pu h
  obtain ⟨a, xs, rfl, hx, q⟩ := h
  cases rx
  obtain ⟨its, r, ht, hz⟩ := I.list hx
  have hlen := r.length
  refine ⟨"list", _, slot_list_getitem.lookup, ht.isList.typeIs, ?_⟩
  refine wpAny_getItem_list_slice ht.isList hs pl pu .none (by simp) ?_ (by rw [List.size_toArray] <;> omega)
  rw [slicePick_cut, ← hlen]
  refine ⟨.ref s.heap.objs.size, _, I.laid (t' := s.toks) (o := .lst (cutV xs lo hi)) (fun b ob q => Heap.get?_push_of_some _ q) (Nat.le_refl _) ?_, rfl, q _ (I.hok.fresh (Nat.le_refl _))⟩
  exact ⟨Nat.le_trans (cutV_length xs lo hi) hz, _, 0, (r.drop (HT.sIx xs.length 0 lo)).take (HT.sIx xs.length xs.length hi - HT.sIx xs.length 0 lo), Heap.get?_push_size _ rfl⟩
def flatV : V → Bool
  | .non => true
  | .bl _ => true
  | .int _ => true
  | .str _ => true
  | _ => false
def eqV : V → V → Bool
  | .non, .non => true
  | .bl a, .bl b => a == b
  | .bl a, .int b => (if a then 1 else 0) == b
  | .int a, .bl b => a == (if b then 1 else 0)
  | .int a, .int b => a == b
  | .str a, .str b => a == b
  | _, _ => false
theorem eqAt_V {A : Around} {s : Shared} {y x : V} {u v : Value} (ry : RelV y u) (rx : RelV x v) (fy : flatV y = true) (fx : flatV x = true) : SeqAt.EqAt A s u v (eqV y x) := by
  cases y with
  | non =>
    cases ry
    cases x with
    | non => cases rx; exact SeqAt.EqAt.same _
    | bl b => cases rx; exact SeqAt.EqAt.none_bool b
    | int b => obtain ⟨t, rfl⟩ := rx; exact SeqAt.EqAt.none_int b t
    | str b => obtain ⟨t, rfl⟩ := rx; exact SeqAt.EqAt.none_str b t
    | _ => exact absurd (show false = true from fx) Bool.false_ne_true
  | bl a =>
    cases ry
    cases x with
    | non => cases rx; exact SeqAt.EqAt.bool_none a
    | bl b => cases rx; exact SeqAt.EqAt.bool_bool a b
    | int b => obtain ⟨t, rfl⟩ := rx; exact SeqAt.EqAt.bool_int a b t
    | str b => obtain ⟨t, rfl⟩ := rx; exact SeqAt.EqAt.bool_str a b t
    | _ => exact absurd (show false = true from fx) Bool.false_ne_true
  | int a =>
    obtain ⟨t', rfl⟩ := ry
    cases x with
    | non => cases rx; exact SeqAt.EqAt.int_none a t'
    | bl b => cases rx; exact SeqAt.EqAt.int_bool a t' b
    | int b => obtain ⟨t, rfl⟩ := rx; exact SeqAt.EqAt.int_int a t' b t
    | str b => obtain ⟨t, rfl⟩ := rx; exact SeqAt.EqAt.int_str a t' b t
    | _ => exact absurd (show false = true from fx) Bool.false_ne_true
  | str a =>
    obtain ⟨t', rfl⟩ := ry
    cases x with
    | non => cases rx; exact SeqAt.EqAt.str_none a t'
    | bl b => cases rx; exact SeqAt.EqAt.str_bool a t' b
    | int b => obtain ⟨t, rfl⟩ := rx; exact SeqAt.EqAt.str_int a t' b t
    | str b => obtain ⟨t, rfl⟩ := rx; exact SeqAt.EqAt.str_str a t' b t
    | _ => exact absurd (show false = true from fx) Bool.false_ne_true
  | _ => exact absurd (show false = true from fy) Bool.false_ne_true
def eqU (x : V) (u : Value) : Bool := match u with
  | .none => eqV .non x
  | .bool b => eqV (.bl b) x
  | .int i _ => eqV (.int i) x
  | .str z _ => eqV (.str z) x
  | _ => false
theorem eqU_of {x y : V} {u : Value} (r : RelV y u) (f : flatV y = true) : eqU x u = eqV y x := by
  cases y with
  | non => cases r; rfl
  | bl b => cases r; rfl
  | int i => obtain ⟨t, rfl⟩ := r; rfl
  | str z => obtain ⟨t, rfl⟩ := r; rfl
  | _ => exact absurd (show false = true from f) Bool.false_ne_true
theorem any_eqU {x : V} : ∀ {xs : List V} {us : List Value}, Vals xs us → xs.all flatV = true → us.any (eqU x) = xs.any fun y => eqV y x
  | _, _, .nil, _ => rfl
  | y :: xs, u :: us, .cons r t, f => by
    rw [List.all_cons, Bool.and_eq_true] at f
    rw [List.any_cons, List.any_cons, eqU_of r f.1, any_eqU t f.2]
theorem mem_eqAt {A : Around} {s : Shared} {x : V} {v : Value} (rx : RelV x v) (fx : flatV x = true) : ∀ {xs : List V} {us : List Value}, Vals xs us → xs.all flatV = true → ∀ u ∈ us, SeqAt.EqAt A s u v (eqU x u)
  | _, _, .nil, _ => fun u hu => by cases hu
  | y :: xs, u :: us, .cons r t, f => fun u' hu => by
    rw [List.all_cons, Bool.and_eq_true] at f
    rcases List.mem_cons.mp hu with rfl | hu
    · rw [eqU_of r f.1]; exact eqAt_V r rx f.1 fx
    · exact mem_eqAt rx fx t f.2 u' hu
def inV (x : V) (xs : List V) : Bool := xs.any fun y => eqV y x
def rIn (K : PySem.W.Frag) (neg : Bool) : R2 := fun x y H Q => ∃ p xs, y = .ref p ∧ (SqL K H p xs ∨ SqT K H p xs) ∧ flatV x = true ∧ xs.all flatV = true ∧ Q (.bl (if neg then !inV x xs else inV x xs)) H
theorem op_in_seq : OpR X (compareOp .In) (rIn X.K false) := by
  intro pins s σ H x y v u Q I rx ry h
  obtain ⟨p, xs, rfl, hq, fx, fs, q⟩ := h
  cases ry
  rcases hq with hq | hq
  · obtain ⟨its, r, pl, hz⟩ := I.list hq
    refine SeqAt.in_listAt (eqU x) pl.isList (fun w hw => mem_eqAt rx fx r fs w (by simpa using hw)) ⟨.bl _, H, I, rfl, ?_⟩
    rw [show its.toArray.any (eqU x) = its.any (eqU x) by simp, any_eqU r fs]
    exact q
  · obtain ⟨its, r, pl, hz⟩ := I.tuple hq
    refine SeqAt.in_tupleAt (eqU x) pl (fun w hw => mem_eqAt rx fx r fs w (by simpa using hw)) ⟨.bl _, H, I, rfl, ?_⟩
    rw [show its.toArray.any (eqU x) = its.any (eqU x) by simp, any_eqU r fs]
    exact q
theorem op_notIn_seq : OpR X (compareOp .NotIn) (rIn X.K true) := by
  intro pins s σ H x y v u Q I rx ry h
  obtain ⟨p, xs, rfl, hq, fx, fs, q⟩ := h
  cases ry
  rcases hq with hq | hq
  · obtain ⟨its, r, pl, hz⟩ := I.list hq
    refine SeqAt.notIn_listAt (eqU x) pl.isList (fun w hw => mem_eqAt rx fx r fs w (by simpa using hw)) ⟨.bl _, H, I, rfl, ?_⟩
    rw [show its.toArray.any (eqU x) = its.any (eqU x) by simp, any_eqU r fs]
    exact q
  · obtain ⟨its, r, pl, hz⟩ := I.tuple hq
    refine SeqAt.notIn_tupleAt (eqU x) pl (fun w hw => mem_eqAt rx fx r fs w (by simpa using hw)) ⟨.bl _, H, I, rfl, ?_⟩
    rw [show its.toArray.any (eqU x) = its.any (eqU x) by simp, any_eqU r fs]
    exact q
theorem call_len_seq : CallR X (.builtin "len") (fun xs H Q => ∃ p ys, xs = [.ref p] ∧ (SqL X.K H p ys ∨ SqT X.K H p ys) ∧ Q (.int ys.length) H) := by
  intro pins s σ H xs us Q I r h
  obtain ⟨p, ys, rfl, hq, q⟩ := h
  obtain ⟨u, rfl, rx⟩ := vals1 r
  cases rx
  have hn := line63
  rcases hq with hq | hq
  · obtain ⟨its, r', pl, hz⟩ := I.list hq
    have hlen := r'.length
    exact Calls.call_len_list pl.isList (by simp only [List.size_toArray] <;> omega) ⟨.int ys.length, H, I.tok _, ⟨s.toks + 1, by rw [List.size_toArray, hlen]⟩, q⟩
  · obtain ⟨its, r', pl, hz⟩ := I.tuple hq
    have hlen := r'.length
    exact len_tuple pl (by simp only [List.size_toArray] <;> omega) ⟨.int ys.length, H, I.tok _, ⟨s.toks + 1, by rw [List.size_toArray, hlen]⟩, q⟩
theorem call_len_str : CallR X (.builtin "len") (fun xs H Q => ∃ z, xs = [.str z] ∧ z.length ≤ sizeLine ∧ Q (.int z.length) H) := by
  intro pins s σ H xs us Q I r h
  obtain ⟨z, rfl, hz, q⟩ := h
  obtain ⟨u, rfl, t, rfl⟩ := vals1 r
  have hn := line63
  exact len_str (by omega) ⟨.int z.length, H, I.tok _, ⟨_, rfl⟩, q⟩
theorem call_list_of : CallR X (.type "list") (fun xs H Q => ∃ p ys, xs = [.ref p] ∧ (SqL X.K H p ys ∨ SqT X.K H p ys) ∧ ∀ l, H l = none → Q (.ref l) (upd H l (.lst ys))) := by
  intro pins s σ H xs us Q I r h
  obtain ⟨p, ys, rfl, hq, q⟩ := h
  obtain ⟨u, rfl, rx⟩ := vals1 r
  cases rx
  have fin : ∀ (its : List Value), Vals ys its → ys.length ≤ sizeLine → ∀ (h' : Heap) (c' : Nat), (∀ b o', s.heap.get? b = some o' → h'.get? b = some o') →
      h'.get? s.heap.objs.size = some { cls := .type "list", dict := none, data := .seq its.toArray c', slots := #[] } → EP X pins σ Q (.ref s.heap.objs.size) { s with heap := h' } := fun its r' hz h' c' kp e =>
    ⟨.ref s.heap.objs.size, _, I.laid (t' := s.toks) kp (Nat.le_refl _) (show ObjOk X.prog X.w _ h' _ (.lst ys) from ⟨hz, its, c', r', e⟩), rfl, q _ (I.hok.fresh (Nat.le_refl _))⟩
  rcases hq with hq | hq
  · obtain ⟨its, r', pl, hz⟩ := I.list hq
    have hlen := r'.length
    obtain ⟨o, ho, hc, n, hd⟩ := pl.isList
    exact call_list_seq p (.inl rfl) ho hc hd (fun h' c' kp e => fin its r' hz h' c' kp e) (by simp only [List.size_toArray] <;> omega)
  · obtain ⟨its, r', pl, hz⟩ := I.tuple hq
    have hlen := r'.length
    obtain ⟨o, ho, hc, n, hd⟩ := pl
    exact call_list_seq p (.inr rfl) ho hc hd (fun h' c' kp e => fin its r' hz h' c' kp e) (by simp only [List.size_toArray] <;> omega)
def tyV (K : PySem.W.Frag) (T : String) (x : V) (H : Hp) : Prop := match x with
  | .str _ => T = "str"
  | .int _ => T = "int"
  | .ref p => (T = "list" ∧ ∃ xs, SqL K H p xs) ∨ (T = "tuple" ∧ ∃ o, K.lookup p = some o ∧ o.cls = .type "tuple" ∧ o.dict = none) ∨
      (T = "dict" ∧ ((∃ kvs, H p = some (.dK kvs)) ∨ ∃ kvs, H p = some (.dT kvs))) ∨ (T = "set" ∧ ∃ S n, H p = some (.set S n))
  | _ => False
theorem tyV_is {pins : List (Addr × Obj)} {σ : St} {H : Hp} {s : Shared} {T : String} {x : V} {v : Value} (I : Inv X pins σ H s) (r : RelV x v) (ty : tyV X.K T x H) :
    s.TypeIs v T ∧ ∀ a, v = .ref a → ∃ ob, s.heap.get? a = some ob ∧ ob.dict = none := by
  cases x with
  | str z =>
    obtain ⟨t, rfl⟩ := r
    cases (show T = "str" from ty)
    exact ⟨typeIs_str s z t, fun _ e => nomatch e⟩
  | int i =>
    obtain ⟨t, rfl⟩ := r
    cases (show T = "int" from ty)
    exact ⟨typeIs_int s i t, fun _ e => nomatch e⟩
  | ref p =>
    cases r
    rcases ty with ⟨rfl, xs, hq⟩ | ⟨rfl, o, hk, hc, hd⟩ | ⟨rfl, hk⟩ | ⟨rfl, S, n, hk⟩
    · obtain ⟨its, _, pl, _⟩ := I.list hq
      refine ⟨pl.isList.typeIs, fun a e => ?_⟩
      cases e
      obtain ⟨o, n, e, c, hd, _⟩ := pl
      exact ⟨o, e, hd⟩
    · refine ⟨⟨o, I.kIn p o hk, hc⟩, fun a e => ?_⟩
      cases e
      exact ⟨o, I.kIn _ o hk, hd⟩
    · have z : ∃ o, s.heap.get? p = some o ∧ o.ExactDict := by
        rcases hk with ⟨kvs, hk⟩ | ⟨kvs, hk⟩
        · obtain ⟨_, _, _, _, o, _, _, e, ex, _⟩ := I.hok p _ hk
          exact ⟨o, e, ex⟩
        · obtain ⟨_, _, _, _, o, _, _, e, ex, _⟩ := I.hok p _ hk
          exact ⟨o, e, ex⟩
      obtain ⟨o, e, ex⟩ := z
      refine ⟨⟨o, e, ex.1⟩, fun a e2 => ?_⟩
      cases e2
      exact ⟨o, e, ex.2.1⟩
    · obtain ⟨o, _, _, _, e, ex, _⟩ := I.hok p _ hk
      refine ⟨⟨o, e, ex.1⟩, fun a e2 => ?_⟩
      cases e2
      exact ⟨o, e, ex.2.1⟩
  | _ => exact False.elim ty
def tBM0 (K : PySem.W.Frag) (T : String) (r : V → List V → Hp → VK → Prop) (to : TE) : TE := fun σ H Q => to σ H fun x H1 => tyV K T x H1 ∧ r x [] H1 Q
def tBM (K : PySem.W.Frag) (T : String) (r : V → List V → Hp → VK → Prop) (to : TE) (t : TA) : TE := fun σ H Q => to σ H fun x H1 => tyV K T x H1 ∧ t σ H1 fun xs H2 => r x xs H2 Q
variable {o e : Expr} {es : List Expr} {to : TE} {t : TA} {name : Str} {apos cpos : Pos} {T id : String} {r : V → List V → Hp → VK → Prop}
theorem pe_bm (pa : PlainAttrs T) (slot : Slot T name id) (hty : typeOf (.builtin id) = pure (.type "method_descriptor")) (hm : MtR X id r) (ho : PE X o to) (ha : PA X (e :: es) t)
    (hbase : attributeBase o name X.env (eval o X.env) = eval o X.env := by rfl)
    (hfew : ((backTo cpos (starEach (e :: es) X.env)).all (fun x => !x.1) && (backToKw cpos (keywordEach [] X.env)).all (fun x => x.1.isSome)
      && decide ((e :: es).length + ([] : List Keyword).length + (if ([] : List Keyword).isEmpty then 0 else 1) < 30)) = true := by rfl)
    (hline : (apos.endLine == cpos.line) = true := by rfl) (hs : starEach (e :: es) X.env = (false, eval e X.env) :: starEach es X.env := by rfl) (hplain : (backTo cpos (starEach es X.env)).any (·.1) = false := by rfl) :
    PE X (.Call (.Attribute o name apos) (e :: es) [] cpos) (tBM X.K T r to t) := by
  intro pins s σ H Q I h
  refine wpAny_Call_method_late hbase hfew hline rfl (thn (ho pins s σ H _ I h) fun v s1 ⟨x, H1, I1, r1, ty, q1⟩ => ?_)
  obtain ⟨h1, h2⟩ := tyV_is I1 r1 ty
  refine ⟨T, id, pa, slot, hty, h1, h2, ?_⟩
  have hA := ha cpos pins s1 σ H1 _ I1 q1
  rw [hs] at hA ⊢
  refine Calls.callWith_builtin (by show (false || (backTo cpos (starEach es X.env)).any (·.1)) = false; rw [hplain] <;> rfl) (Calls.evalArgs_plain ?_)
  exact thn hA fun us s2 ⟨vs, H2, I2, r2, q2⟩ => hm pins s2 σ H2 x vs v us Q I2 r1 r2 q2
end
open PySem PySem.Spec PyProof.Rows
def MtM (X : Cx) (id : String) (r : V → List V → Hp → VK → Prop) : Prop :=
  ∀ (pins : List (Addr × Obj)) (s : Shared) (σ : St) (H : Hp) (x : V) (xs : List V) (v : Value) (us : List Value) (Q : VK), Inv X pins σ H s → RelV x v → Vals xs us → r x xs H Q →
    wpAny (model X.prog X.w) X.A (call (.builtin id) (v :: us)) (EP X pins σ Q) X.xe s
theorem Vals.one : ∀ {x : V} {us : List Value}, Vals [x] us → ∃ u, us = [u] ∧ RelV x u
  | _, _, .cons r .nil => ⟨_, rfl, r⟩
theorem Vals.two : ∀ {x y : V} {us : List Value}, Vals [x, y] us → ∃ u v, us = [u, v] ∧ RelV x u ∧ RelV y v
  | _, _, _, .cons r (.cons q .nil) => ⟨_, _, rfl, r, q⟩
theorem Vals.rep {xs : List V} {us : List Value} (h : Vals xs us) : ∀ k : Nat, Vals (List.replicate k xs).flatten (List.replicate k us).flatten
  | 0 => .nil
  | k + 1 => by
    rw [List.replicate_succ, List.replicate_succ, List.flatten_cons, List.flatten_cons]
    exact Vals.append h (Vals.rep h k)
theorem foldl_rep (its : List Value) : ∀ (k : Nat) (acc : List Value),
    List.foldl (fun x1 x2 => x1 ++ x2) acc.toArray (List.replicate k its.toArray) = (acc ++ (List.replicate k its).flatten).toArray
  | 0, acc => by simp
  | k + 1, acc => by
    have e : acc.toArray ++ its.toArray = (acc ++ its).toArray := by simp
    have e2 : (acc ++ its) ++ (List.replicate k its).flatten = acc ++ (List.replicate (k + 1) its).flatten := by
      rw [List.replicate_succ, List.flatten_cons, List.append_assoc]
    rw [← e2, ← foldl_rep its k (acc ++ its), ← e, List.replicate_succ, List.foldl_cons]
section
variable {X : Cx} {pins : List (Addr × Obj)} {σ : St} {H : Hp} {s : Shared} {l b : Addr} {xs ys zs : List V}
theorem Inv.lset {its its' : List Value} {n : Nat} {f : Array Value → Array Value} {t' : Nat} (I : Inv X pins σ H s) (hH : H l = some (.lst xs))
    (e : s.heap.get? l = some { cls := .type "list", data := .seq its.toArray n }) (hf : f its.toArray = its'.toArray) (hv : Vals ys its') (hz : ys.length ≤ sizeLine) :
    Inv X pins σ (upd H l (.lst ys)) { s with heap := s.heap.update l (Obj.mapSeq f), toks := t' } := by
  have q := PySem.IsL.update e f
  rw [hf] at q
  refine I.write (x := l) (e := l) (by rw [hH]; exact trivial) (.inl rfl) (fun b' u hb hu => (Heap.get?_update_other s.heap (Obj.mapSeq f) (Ne.symm hb)).trans hu) ⟨_, q⟩ ?_
  exact ⟨hz, its', _, hv, q⟩
theorem Inv.lnew {its : List Value} {t' : Nat} (I : Inv X pins σ H s) (hv : Vals ys its) (hz : ys.length ≤ sizeLine) :
    Inv X pins σ (upd H s.heap.objs.size (.lst ys)) { s with heap := s.heap.push { cls := .type "list", data := .seq its.toArray }, toks := t' } :=
  I.laid (fun _ _ q => Heap.get?_push_of_some _ q) (Nat.le_refl _) ⟨hz, its, 0, hv, Heap.get?_push_size _ rfl⟩
theorem Inv.fresh (I : Inv X pins σ H s) : H s.heap.objs.size = none := I.hok.fresh (Nat.le_refl _)
theorem Inv.lstM (I : Inv X pins σ H s) (hH : H l = some (.lst xs)) : xs.length ≤ sizeLine ∧ ∃ (its : List Value) (n : Nat), Vals xs its ∧ xs.length = its.length ∧ s.heap.get? l = some { cls := .type "list", data := .seq its.toArray n } := by
  obtain ⟨z, its, n, r, e⟩ := I.hok l _ hH
  exact ⟨z, its, n, r, r.length, e⟩
theorem notLongL {n : Nat} (h : n ≤ sizeLine) : Builtin.List.listTooLong n = false := by
  unfold Builtin.List.listTooLong
  exact decide_eq_false (by omega)
end
section
variable {X : Cx}
def rAppend : V → List V → Hp → VK → Prop := fun x vs H Q => ∃ l xs y, x = .ref l ∧ vs = [y] ∧ H l = some (.lst xs) ∧ xs.length < sizeLine ∧ Q .non (upd H l (.lst (xs ++ [y])))
theorem mt_append : MtM X "list.append" rAppend := by
  intro pins s σ H x vs v us Q I rx rv h
  obtain ⟨l, xs, y, rfl, rfl, hH, hz, q⟩ := h
  cases rx
  obtain ⟨u, rfl, ru⟩ := rv.one
  obtain ⟨z, its, n, r, hl, e⟩ := I.lstM hH
  refine call_meets F.slot_list_append ⟨_, e, rfl⟩ F.entry_list_append (F.args_list_append_2 _ _) (PySem.list_append l its.toArray n u (by rw [List.size_toArray]; omega)) ⟨e, ?_⟩
  refine ⟨.non, _, I.lset (its' := its ++ [u]) hH e (by simp) (r.append (.cons ru .nil)) ?_, rfl, q⟩
  rw [List.length_append, List.length_singleton]
  omega
def rExtend : V → List V → Hp → VK → Prop := fun x vs H Q => ∃ l b xs zs, x = .ref l ∧ vs = [.ref b] ∧ H l = some (.lst xs) ∧ H b = some (.lst zs) ∧ xs.length + zs.length ≤ sizeLine ∧ Q .non (upd H l (.lst (xs ++ zs)))
def rPop : V → List V → Hp → VK → Prop := fun x vs H Q => ∃ l xs y, x = .ref l ∧ vs = [] ∧ H l = some (.lst xs) ∧ xs[xs.length - 1]? = some y ∧ Q y (upd H l (.lst xs.dropLast))
def rPopAt : V → List V → Hp → VK → Prop := fun x vs H Q => ∃ l xs i k y, x = .ref l ∧ vs = [.int i] ∧ H l = some (.lst xs) ∧ -(2 ^ 63) ≤ i ∧ i < 2 ^ 63 ∧ seqIndex? i xs.length = some k ∧ xs[k]? = some y ∧ Q y (upd H l (.lst (xs.eraseIdx k)))
def rReverse : V → List V → Hp → VK → Prop := fun x vs H Q => ∃ l xs, x = .ref l ∧ vs = [] ∧ H l = some (.lst xs) ∧ Q .non (upd H l (.lst xs.reverse))
def rClear : V → List V → Hp → VK → Prop := fun x vs H Q => ∃ l xs, x = .ref l ∧ vs = [] ∧ H l = some (.lst xs) ∧ Q .non (upd H l (.lst []))
def rCat : R2 := fun x y H Q => ∃ l b xs zs, x = .ref l ∧ y = .ref b ∧ H l = some (.lst xs) ∧ H b = some (.lst zs) ∧ xs.length + zs.length ≤ sizeLine ∧ ∀ p, H p = none → Q (.ref p) (upd H p (.lst (xs ++ zs)))
theorem op_cat : OpR X (binaryOp .Add) rCat := by
  intro pins s σ H x y v u Q I rx ry h
  obtain ⟨l, b, xs, zs, rfl, rfl, hH, hB, hz, q⟩ := h
  cases rx
  cases ry
  obtain ⟨z, its, n, r, hl, e⟩ := I.lstM hH
  obtain ⟨z2, its2, n2, r2, hl2, e2⟩ := I.lstM hB
  refine PySem.P.add_list e e2 ?_ (by rw [List.size_toArray, List.size_toArray]; omega)
  have ea : its.toArray ++ its2.toArray = (its ++ its2).toArray := by simp
  rw [ea]
  exact ⟨.ref _, _, I.lnew (t' := s.toks) (r.append r2) (by rw [List.length_append]; omega), rfl, q _ I.fresh⟩
def rRep : R2 := fun x y H Q => ∃ l k xs, x = .ref l ∧ y = .int k ∧ H l = some (.lst xs) ∧ -(2 ^ 63) ≤ k ∧ k < 2 ^ 63 ∧ xs.length * k.toNat ≤ sizeLine ∧
  ∀ p, H p = none → Q (.ref p) (upd H p (.lst (List.replicate k.toNat xs).flatten))
theorem len_rep {α : Type} (xs : List α) (k : Nat) : (List.replicate k xs).flatten.length = k * xs.length := by
  induction k with
  | zero => simp
  | succ k ih => rw [List.replicate_succ, List.flatten_cons, List.length_append, ih, Nat.succ_mul, Nat.add_comm]
theorem op_rep : OpR X (binaryOp .Mult) rRep := by
  intro pins s σ H x y v u Q I rx ry h
  obtain ⟨l, k, xs, rfl, rfl, hH, h1, h2, hz, q⟩ := h
  cases rx
  obtain ⟨t, rfl⟩ := ry
  obtain ⟨z, its, n, r, hl, e⟩ := I.lstM hH
  have hlen : its.toArray.size * k.toNat ≤ sizeLine := by rw [List.size_toArray, ← hl]; exact hz
  have hcap : ¬ its.toArray.size * k.toNat > (2 ^ 63 - 1) / 8 := by
    have : (sizeLine : Nat) ≤ (2 ^ 63 - 1) / 8 := by decide
    omega
  have hfit : ¬ (!Builtin.List.listFitsIndex k) = true := by
    rw [fitsIndex_both h1 h2]
    exact Bool.false_ne_true
  have hlong : ¬ Builtin.List.listTooLong (its.toArray.size * k.toNat) = true := by
    rw [notLongL hlen]
    exact Bool.false_ne_true
  have hnew : List.foldl (fun x1 x2 => x1 ++ x2) #[] (List.replicate (if its.toArray.isEmpty = true then 0 else k.toNat) its.toArray) = (List.replicate k.toNat its).flatten.toArray := by
    have f0 : ∀ m : Nat, List.foldl (fun x1 x2 => x1 ++ x2) #[] (List.replicate m its.toArray) = (List.replicate m its).flatten.toArray := fun m => by
      have := foldl_rep its m []
      rw [List.nil_append] at this
      exact this
    rw [f0]
    cases its with
    | nil => simp
    | cons a r' => rw [if_neg (by simp)]
  refine wpAny_binaryOp_repeat_ref (T := "list") (U := "int") (by decide) ⟨_, e, rfl⟩ (fun s' => typeIs_int s' k t) noFill_list_mul F.fills_int_mul F.slot_int_rmul repeat_list F.slot_int_index.lookup
    (call_meets F.slot_int_rmul (typeIs_int s k t) F.entry_int_rmul (F.args_int_rmul_2 _ _) (int___rmul___int_list k t l its.toArray n)
      ⟨e, rfl, ⟨_, e, rfl⟩, call_meets F.slot_list_mul ⟨_, e, rfl⟩ F.entry_list_mul (F.args_list_mul_2 _ _) (AutoListH.list___mul___list_int_3 l its.toArray n k t hfit hcap hlong) ⟨e, ?_⟩⟩)
  rw [hnew]
  exact ⟨.ref _, _, I.lnew (t' := s.toks) (r.rep k.toNat) (by rw [len_rep, Nat.mul_comm]; exact hz), rfl, q _ I.fresh⟩
end
section
variable {prog : Program} {w : World} {A : Around} {E : Value → Shared → Prop} {s : Shared}
end
section
variable {X : Cx}
end
end L2
namespace Att
open PySem PySem.W PySem.Calls PyProof.Rows
theorem ints_of_wellAll {P : Params} {h : Heap} : ∀ (ns : List Int) (vs : List Value), WellAll P h vs (ns.map WData.int) → IntsAre vs ns := by
  intro ns
  induction ns with
  | nil =>
    intro vs w
    rw [List.map_nil] at w
    cases w
    exact .nil
  | cons n ns ih =>
    intro vs w
    rw [List.map_cons] at w
    cases w with
    | cons a b =>
      cases a
      exact .cons _ _ (ih _ b)
theorem script_of {l : OpenLaw} {n : Nat} (hn : l.most = some n) {P : Params} {h : Heap} {args : List WData} {vals : List Value}
    (hpre : l.row.toRowW.claim.pre args = true) (hwl : WellAll P h vals args) :
    ∃ a vs ns, vals = [Value.ref a] ∧ args = [WData.list (ns.map WData.int)] ∧ h.get? a = some { cls := .type "list", data := .seq vs.toArray } ∧ IntsAre vs ns ∧ ns.length ≤ n := by
  have hsh : WShape.hasAll [] args [.list .int] = true := (pre_splitW hpre).1
  have hc : l.pre.holds [] { args := args } = true := (pre_splitW hpre).2
  obtain ⟨d, r, rfl, h1, h2⟩ := hasAllW_cons hsh
  obtain rfl := hasAllW_nil h2
  obtain ⟨xs, rfl, h3⟩ := hasW_list h1
  obtain ⟨ns, rfl⟩ := items_int h3
  have hlen : ns.length ≤ n := by
    unfold OpenLaw.pre at hc
    have h4 : (WTm.not (.lt (.lit (.int (n : Int))) (.len (.arg 0)))).holds [] { args := [.list (ns.map .int)] } = true := by
      have h4 := (holds_andW hc).1
      rw [hn] at h4
      exact h4
    have h5 := condW_of h4 (w_not (w_lt w_lit (w_len_list (w_arg rfl))))
    rw [List.length_map] at h5
    refine Nat.le_of_not_lt fun q => ?_
    have q' : (n : Int) < ((ns.length : Nat) : Int) := by omega
    first
      | (rw [decide_eq_true q'] at h5; exact absurd h5 (by decide))
      | (simp at h5; omega)
  cases hwl with
  | cons w1 w2 =>
    cases w2
    cases w1 with
    | list ho hall => exact ⟨_, _, ns, rfl, rfl, ho, ints_of_wellAll ns _ hall, hlen⟩
theorem post_true (l : OpenLaw) (args : List WData) : l.row.toRowW.claim.post args (.bool true) args = true :=
  postW_of (r := l.row.toRowW) (X := (true == true))
    (show WShape.has [] (.bool true) .bool = true by first | rfl | decide | simp [WShape.has, WShape.arms, WShape.armsAll])
    (show (WTm.eq .res (.lit (.bool true))).value [] { args := args, res := some (.bool true), after := args } = some (.bool (true == true)) from w_eq_bool (w_res rfl) w_lit) rfl
theorem attach_call {l : OpenLaw} {n : Nat} {q : Program} {loose : List Str} {XP : (Str → Option Value) → Heap → Prop} {YP : World → Heap → Prop} {d : DefRec}
    (hn : l.most = some n) (hdf : d.params.defaults = [])
    (call : ∀ (w : World) (s₀ s₁ : Shared) (mg mb : Str → Option Value) (fa : Addr) (o : Obj) (pm cd doc : Value) (a : Addr) (vs : List Value) (ns : List Int),
      Ground q loose [] XP w s₀ mg mb s₁.heap → YP w s₁.heap →
      s₁.heap.get? fa = some o → o.data = .func (docDef d.name d.params d.body d.scope pm cd doc) → s₁.heap.CodeRec cd d.name → mg d.name = some (.ref fa) →
      s₁.heap.get? a = some { cls := .type "list", data := .seq vs.toArray } → IntsAre vs ns → ns.length ≤ n → s₁.gens = #[] →
      codeAny (model l.prog w) callerA (.call (.ref fa) ⟨[.ref a], []⟩) (fun r s' => r = .ok (.ret (.bool true)) ∧ OldK s₁.heap s'.heap ∧ s'.os = s₁.os ∧ AllBare s'.gens) s₁) :
    WalkO q loose XP YP l.row.toRowW d [] (fun f vs => PySem.call f vs) := by
  intro w s₀ s₁ mg mb G Y fa o pm cd doc dV kV ho hd hcd hD hmg hg args vals as hpre hlay hrd hwl hlo
  obtain rfl : dV = .none := Dflts.none hD hdf
  obtain rfl : kV = .none := Dflts.noKw hD
  obtain ⟨a, vs, ns, rfl, rfl, hobj, hints, hlen⟩ := script_of hn hpre hwl
  refine enter_call (codeAny_mono (call w s₀ s₁ mg mb fa o pm cd doc a vs ns G Y ho (fd_plain hd) hcd hmg hobj hints hlen hg) fun r s' hq => ?_)
  obtain ⟨rfl, h2, h3, h4⟩ := hq
  exact ⟨.inl ⟨.bool true, .bool true, [], rfl, fun _ => rfl, .bool true, post_true l _, fun _ => ⟨List.Pairwise.nil, fun _ hm => (nomatch hm)⟩⟩, h2, h3, h4⟩
section
variable {prog : Program} {w : World} {A : Around} {E : Value → Shared → Prop} {s : Shared} {K : Frag}
def noObjs (h : Heap) : Heap := { h with objs := #[] }
def ledger (h : Heap) (L d : Addr) : List (Addr × Obj) := (List.range h.objs.size).filterMap fun a => if a = L ∨ a = d then none else (h.get? a).map fun o => (a, o)
end
end Att
namespace L2
open PySem PySem.Spec PyProof.Rows
theorem vals_ints : ∀ {vs : List Value} {ns : List Int}, IntsAre vs ns → Vals (ns.map V.int) vs
  | _, _, .nil => .nil
  | _, _, .cons n t h => .cons ⟨t, rfl⟩ (vals_ints h)
def Only (H : Hp) : Prop := ∀ b, H b = none ∨ ∃ o xs, H b = some (.frz o (.lst xs))
theorem law_call {P : Program} {w : World} {K : PySem.W.Frag} {mg mb : Str → Option Value} {CX : CXT} {k : Nat} {fa a : Addr} {fd : FuncData} {x : Str} {sp : Sp} {s₁ : Shared} {vs : List Value} {ns : List Int}
    (KX : K.In s₁.heap) (hns : s₁.heap.Ns mainGlobals mg) (hb : s₁.heap.Ns builtinsNs mb) (hbb : ∀ x : Str, x ≠ "__name__" → mb x = bootBuiltins x) (hlim : s₁.heap.NoLimit) (hg : s₁.gens = #[])
    (ha : s₁.heap.get? a = some { cls := .type "list", data := .seq vs.toArray }) (hi : IntsAre vs ns) (hl : ns.length ≤ sizeLine) (hr : Room k callerA)
    (F : ∀ base : Heap, K.In base → base.Ns mainGlobals mg → FnOk P w K mg base CX k fa fd [x] sp) (hbind : ∀ (s : Shared) (u : Value), BindsTo s fd ⟨[u], []⟩ [(x, u)])
    (hsp : ∀ H : Hp, Only H → SqL K H a (ns.map V.int) → sp [.ref a] H (fun v _ => v = .bl true) fun _ _ _ => False)
    (hCX : ∀ H e s', CX [] H s₁ (fun _ _ _ => False) e s' → False) :
    codeAny (model P w) callerA (.call (.ref fa) ⟨[.ref a], []⟩) (fun r s' => r = .ok (.ret (.bool true)) ∧ OldK s₁.heap s'.heap ∧ s'.os = s₁.os ∧ AllBare s'.gens) s₁ := by
  have rv := vals_ints hi
  have lenV := hi.length
  have core : ∀ H : Hp, Only H → SqL K H a (ns.map V.int) → HOk P w H s₁.heap → (∀ b, H b ≠ none → b = a) → (H a ≠ none → K.lookup a = none) →
      codeAny (model P w) callerA (.call (.ref fa) ⟨[.ref a], []⟩) (fun r s' => r = .ok (.ret (.bool true)) ∧ OldK s₁.heap s'.heap ∧ s'.os = s₁.os ∧ AllBare s'.gens) s₁ := by
    intro H hO hS hok hA hK
    have base_of : ∀ {b : Addr} {o : Obj}, s₁.heap.get? b = some o → H b = none → (hidT s₁.heap H).get? b = some o := fun e n => hidT_get e n
    have noA : ∀ {b : Addr} {o : Obj} {es : Array DictEntry} {ep : Nat}, s₁.heap.get? b = some o → o.data = .dict es ep → H b = none := fun {b o es ep} e d => by
      cases q : H b with
      | none => rfl
      | some u =>
        have e' : b = a := hA b (by rw [q]; simp)
        subst e'
        rw [ha] at e; cases e
        have d' : Data.seq vs.toArray _ = Data.dict es ep := d
        cases d'
    have nsK : ∀ {b : Addr} {m : Str → Option Value}, s₁.heap.Ns b m → (hidT s₁.heap H).Ns b m := fun {b m} ⟨o, es, ep, e, d, r⟩ => ⟨o, es, ep, base_of e (noA e d), d, r⟩
    have hKb : K.In (hidT s₁.heap H) := fun b o e => base_of (KX b o e) (by
      cases q : H b with
      | none => rfl
      | some u =>
        have e' : b = a := hA b (by rw [q]; simp)
        subst e'
        rw [hK (by rw [q]; simp)] at e; cases e)
    have hM : Mod K mg (hidT s₁.heap H) := ⟨hKb, nsK hns, ⟨mb, nsK hb, hbb⟩, let ⟨mc, h1, h2⟩ := hlim; ⟨mc, nsK h1, h2⟩⟩
    have e0 : Env0 P w K mg (hidT s₁.heap H) callerA [] s₁ H := ⟨rfl, hM, fun b o e => of_hidT e, Nat.le_of_eq (hidT_size _ _), trivial, fun b hb => absurd (show b ∈ ([] : List Addr) from hb) (by simp), hok, .of_eq hg⟩
    refine codeAny_mono ((F _ hKb (nsK hns)).run callerA [] s₁ H ⟨[.ref a], []⟩ [.ref a] [.ref a] _ _ hr e0 (hbind s₁ (.ref a)) (.cons rfl .nil) (hsp H hO hS)) fun r s' h => ?_
    cases r with
    | error e => exact (hCX H e s' h).elim
    | ok fl =>
      cases fl with
      | next => exact False.elim h
      | brk => exact False.elim h
      | cont => exact False.elim h
      | ret u =>
        obtain ⟨v, H', os, bare, un, hok', r', q⟩ := h
        have q' : v = .bl true := q
        subst q'
        obtain rfl : u = Value.bool true := r'
        refine ⟨rfl, OldK.of_keep fun b o e => ?_, os, bare⟩
        cases q : H b with
        | none => exact un.keep b o e q (by intro z; exact absurd (show b ∈ ([] : List Addr) from z) (by simp)) (by simp)
        | some u =>
          rcases hO b with z | ⟨ob, xs, z⟩
          · rw [q] at z; cases z
          · have z2 := un.frzs b ob _ z
            obtain ⟨e1, _⟩ := hok b _ z
            obtain ⟨e2, _⟩ := hok' b _ z2
            rw [e] at e1; cases e1
            exact e2
  cases hk : K.lookup a with
  | some o =>
    have e := KX a o hk
    rw [ha] at e
    cases e
    refine core (fun _ => none) (fun _ => .inl rfl) (.inr ⟨_, vs.toArray, _, hk, rfl, rfl, rfl, by rw [List.size_toArray, lenV]; exact hl, by simpa using rv⟩) (fun b u z => by have z' : (none : Option HO) = some u := z; cases z') (fun b z => absurd rfl z) fun z => absurd rfl z
  | none =>
    refine core (fun b => if b = a then some (.frz { cls := .type "list", data := .seq vs.toArray } (.lst (ns.map V.int))) else none) (fun b => ?_) (.inl (.inr ⟨{ cls := .type "list", data := .seq vs.toArray }, if_pos rfl⟩)) (fun b u z => ?_) (fun b z => ?_) fun _ => hk
    · by_cases hb : b = a
      · exact .inr ⟨_, _, if_pos hb⟩
      · exact .inl (if_neg hb)
    · by_cases hb : b = a
      · have z' := (if_pos hb).symm.trans z
        cases z'
        subst hb
        exact ⟨ha, by rw [List.length_map]; exact hl, vs, _, rv, ha⟩
      · have z' := (if_neg hb).symm.trans z
        cases z'
    · by_cases hb : b = a
      · exact hb
      · exact absurd (if_neg hb) z
open PySem PySem.Spec PyProof.Rows
abbrev KOf {K : PySem.W.Frag} {h : Heap} (_ : K.In h) : PySem.W.Frag := K
theorem walk_of {l : PySem.W.OpenLaw} {n k : Nat} {q : Program} {loose : List Str} {XP : (Str → Option Value) → Heap → Prop} {YP : World → Heap → Prop} {d : DefRec} {K : Params → PySem.W.Frag} {CX : World → CXT} {sp : World → Sp} {x : Str}
    (hn : l.most = some n) (hn2 : n ≤ sizeLine) (hdf : d.params.defaults = []) (hr : Room k callerA)
    (hY : ∀ (w : World) (h : Heap), YP w h → (K w.params).In h)
    (F : ∀ (w : World) (mg : Str → Option Value) (fa : Addr) (h : Heap), (K w.params).In h → h.Ns mainGlobals mg → mg d.name = some (.ref fa) →
      ∃ fd : FuncData, (∀ (s : Shared) (u : Value), BindsTo s fd ⟨[u], []⟩ [(x, u)]) ∧
        ∀ base : Heap, (K w.params).In base → base.Ns mainGlobals mg → FnOk l.prog w (K w.params) mg base (CX w) k fa fd [x] (sp w))
    (hsp : ∀ (w : World) (H : Hp) (a : Addr) (ns : List Int), ns.length ≤ n → Only H → SqL (K w.params) H a (ns.map V.int) → sp w [.ref a] H (fun v _ => v = .bl true) fun _ _ _ => False)
    (hCX : ∀ (w : World) (H : Hp) (s : Shared) (e : Value) (s' : Shared), CX w [] H s (fun _ _ _ => False) e s' → False) :
    PySem.W.WalkO q loose XP YP l.row.toRowW d [] (fun f vs => PySem.call f vs) := by
  refine Att.attach_call hn hdf fun w s₀ s₁ mg mb fa o pm cd doc a vs ns G Y ho hd hcd hmg hobj hints hlen hg => ?_
  have KX := hY w _ Y
  obtain ⟨fd, hb, hF⟩ := F w mg fa _ KX G.T.g hmg
  exact law_call KX G.T.g G.T.b G.T.builtins G.T.nolimit hg hobj hints (Nat.le_trans hlen hn2) hr hF hb (fun H hO hS => hsp w H a ns hlen hO hS) fun H e s' => hCX w H s₁ e s'
theorem walk_ofK {l : PySem.W.OpenLaw} {n k : Nat} {q : Program} {loose : List Str} {XP : (Str → Option Value) → Heap → Prop} {YP : World → Heap → Prop} {d : DefRec} {K : Params → PySem.W.Frag} {CX : CXT} {sp : PySem.W.Frag → Sp} {x : Str}
    (hn : l.most = some n) (hn2 : n ≤ sizeLine) (hdf : d.params.defaults = []) (hr : Room k callerA)
    (hY : ∀ (w : World) (h : Heap), YP w h → (K w.params).In h)
    (F : ∀ (w : World) (mg : Str → Option Value) (fa : Addr) (h : Heap), (K w.params).In h → h.Ns mainGlobals mg → mg d.name = some (.ref fa) →
      ∃ fd : FuncData, (∀ (s : Shared) (u : Value), BindsTo s fd ⟨[u], []⟩ [(x, u)]) ∧
        ∀ base : Heap, (K w.params).In base → base.Ns mainGlobals mg → FnOk l.prog w (K w.params) mg base CX k fa fd [x] (sp (K w.params)))
    (hsp : ∀ (K : PySem.W.Frag) (H : Hp) (a : Addr) (ns : List Int), ns.length ≤ n → Only H → SqL K H a (ns.map V.int) → sp K [.ref a] H (fun v _ => v = .bl true) fun _ _ _ => False)
    (hCX : ∀ (H : Hp) (s : Shared) (e : Value) (s' : Shared), CX [] H s (fun _ _ _ => False) e s' → False) :
    PySem.W.WalkO q loose XP YP l.row.toRowW d [] (fun f vs => PySem.call f vs) :=
  walk_of (K := K) (CX := fun _ => CX) (sp := fun w => sp (K w.params)) hn hn2 hdf hr hY F (fun w H a ns h1 h2 h3 => hsp (K w.params) H a ns h1 h2 h3) fun _ H s e s' => hCX H s e s'
open PySem PySem.Spec PyProof.Rows
def inClass (s : Stmt) (j : Nat) : Stmt := match s with
  | .ClassDef _ _ _ body _ _ _ _ _ _ _ => body.getD j (.Pass ⟨0, 0, 0, 0⟩)
  | _ => .Pass ⟨0, 0, 0, 0⟩
def defArgs (s : Stmt) : Arguments := match s with
  | .FunctionDef _ a _ _ _ _ _ _ _ _ => a
  | _ => { posonlyargs := [], args := [], vararg := none, kwonlyargs := [], kw_defaults := [], kwarg := none, defaults := [] }
def defBody (s : Stmt) : List Stmt := match s with
  | .FunctionDef _ _ b _ _ _ _ _ _ _ => b
  | _ => []
def defScope (s : Stmt) : Scope := match s with
  | .FunctionDef _ _ _ _ _ _ sc _ _ _ => sc
  | _ => { kind := .function, names := [], isGenerator := false, isCoroutine := false }
abbrev CX0 : CXT := fun _ _ _ _ _ _ => False
abbrev E0 : XK := fun _ _ _ => False
theorem pass0 {X : Cx} : Passes CX0 X E0 := fun _ _ _ _ _ _ _ h => h.elim
structure Fun (K : PySem.W.Frag) (x qual : Str) (st : Stmt) (f : Addr) (fd : FuncData) : Prop where
  ex : ∃ (oc : Value) (od : Option Addr) (kV doc pm : Value) (an : Option Addr) (cdv ct : Value) (osl : Array (Option Value)),
    fd = PySem.W.fnOf x qual (defArgs st) (defBody st) (defScope st) .none kV doc pm an cdv ct ∧ K.lookup f = some ⟨oc, od, .func fd, osl⟩ ∧ PySem.W.codeIn K cdv qual = true
  kp : PySem.W.keepIn K (.ref f) = true
section
variable {P : Program} {w : World} {K : PySem.W.Frag} {mg : Str → Option Value} {base : Heap}
theorem Fun.ok {x qual : Str} {st : Stmt} {f : Addr} {fd : FuncData} {N ps : List Str} {k : Nat} {sp : Sp} (F : Fun K x qual st f fd) (S : FnScope N ps (defScope st)) (len : ∀ vs H Q E, sp vs H Q E → vs.length = ps.length)
    (hbody : ∀ (cdv : Value) (A : Around) (outer : List Env) (s : Shared) (H : Hp) (vs : List V) (Q : VK) (E : XK), Room k (A.deeper (envOfC qual (defScope st) s.heap.objs.size f cdv)) → sp vs H Q E →
      ∃ t, PSs (cxOf CX0 P w K mg base N qual (defScope st) f cdv A outer s H E).nox (defBody st) t ∧ t { nx := fun _ H' => Q .non H', rt := Q } (start N vs) H) : FnOk P w K mg base CX0 (k + 1) f fd ps sp := by
  obtain ⟨oc, od, kV, doc, pm, an, cdv, ct, osl, rfl, lk, hcd⟩ := F.ex
  refine fn_of lk hcd S len fun A outer s H vs Q E hr hsp => ?_
  obtain ⟨t, h, q⟩ := hbody cdv A outer s H vs Q E hr hsp
  exact ⟨t, h.nox, q⟩
theorem Fun.binds {x qual : Str} {st : Stmt} {f : Addr} {fd : FuncData} {ps : List Str} (F : Fun K x qual st f fd)
    (h : ∀ (kV doc pm : Value) (an : Option Addr) (cdv ct : Value) (us : List Value), us.length = ps.length → bindArgs (PySem.W.fnOf x qual (defArgs st) (defBody st) (defScope st) .none kV doc pm an cdv ct) ⟨us, []⟩ = pure (ps.zip us)) : Binds K fd ps [] := by
  obtain ⟨oc, od, kV, doc, pm, an, cdv, ct, osl, rfl, lk, hcd⟩ := F.ex
  exact .all (h kV doc pm an cdv ct)
theorem fun_mk {x qual : Str} {st : Stmt} {f : Addr} {oc : Value} {od an : Option Addr} {osl : Array (Option Value)} {kV doc pm cdv ct : Value} (l : K.lookup f = some ⟨oc, od, .func (PySem.W.fnOf x qual (defArgs st) (defBody st) (defScope st) .none kV doc pm an cdv ct), osl⟩)
    (c : PySem.W.codeIn K cdv qual = true) (k : PySem.W.keepIn K (.ref f) = true) : Fun K x qual st f (PySem.W.fnOf x qual (defArgs st) (defBody st) (defScope st) .none kV doc pm an cdv ct) := ⟨⟨oc, od, kV, doc, pm, an, cdv, ct, osl, rfl, l, c⟩, k⟩
end
section
variable {X : Cx}
theorem pv (i : Nat) {x : Str} {pos : Pos} (hN : X.N[i]? = some x := by rfl) (hv : Vis X.env.scope x := by first | exact Or.inl rfl | exact Or.inr (Or.inl rfl) | exact Or.inr (Or.inr rfl)) (hd : (x == ("__debug__" : Str)) = false := by decide)
    (hcd : (x == ("__classdict__" : Str)) = false := by decide) : PE X (.Name x pos) (tVar i) := pe_var hN hv hd hcd
end
theorem iteF {A B : Prop} (h : B) : if false = true then A else B := by
  rw [if_neg Bool.false_ne_true]
  exact h
theorem iteT {A B : Prop} (h : A) : if true = true then A else B := by
  rw [if_pos rfl]
  exact h
theorem iteNS {c A B : Prop} [Decidable c] (hc : c) (h : B) : if (!decide c) = true then A else B := by
  rw [decide_eq_true hc]
  exact iteF h
def Same (H H' : Hp) : Prop := ∀ b o, H b = some o → H' b = some o
theorem Same.refl (H : Hp) : Same H H := fun _ _ h => h
theorem Same.trans {H H1 H2 : Hp} (a : Same H H1) (b : Same H1 H2) : Same H H2 := fun c o h => b c o (a c o h)
theorem Same.free {H H' : Hp} (e : Same H H') {l : Addr} (h : H' l = Option.none) : H l = Option.none := by
  cases q : H l with
  | none => rfl
  | some o =>
    rw [e l o q] at h
    cases h
theorem Same.seq {K : PySem.W.Frag} {H H' : Hp} {a : Addr} {xs : List V} (e : Same H H') (h : SqL K H a xs) : SqL K H' a xs := by
  rcases h with (h | ⟨o, h⟩) | h
  · exact .inl (.inl (e _ _ h))
  · exact .inl (.inr ⟨o, e _ _ h⟩)
  · exact .inr h
open PySem PySem.Spec PyProof.Rows
theorem closure_is {scope : Scope} {env : Env} (h : ∀ y ∈ scope.names, y.2 = .free → ∃ c, env.cells.lookup y.1 = some c) :
    ∃ cl, closureFor scope env = pure cl ∧ (∀ x c, cl.lookup x = some c → env.cells.lookup x = some c ∧ (x, NameKind.free) ∈ scope.names) ∧
      ∀ x, (x, NameKind.free) ∈ scope.names → cl.lookup x = env.cells.lookup x := by
  have key : ∀ (l : List (Str × NameKind)) (cs : List (Str × Addr)), (∀ y ∈ l, y.2 = .free → ∃ c, env.cells.lookup y.1 = some c) →
      ∃ cl, (forIn l cs (fun (x : Str × NameKind) (cs : List (Str × Addr)) => do
          if x.2 == .free then
            let c ← cellOf env x.1
            pure (ForInStep.yield ((x.1, c) :: cs))
          else pure (ForInStep.yield cs)) : Sem (List (Str × Addr))) = pure cl ∧
        (∀ x c, cl.lookup x = some c → (env.cells.lookup x = some c ∧ (x, NameKind.free) ∈ l) ∨ cs.lookup x = some c) ∧
        ∀ x, ((x, NameKind.free) ∈ l → cl.lookup x = env.cells.lookup x) ∧ ((cs.lookup x = env.cells.lookup x) → cl.lookup x = env.cells.lookup x) := by
    intro l
    induction l with
    | nil => intro cs _; exact ⟨cs, rfl, fun x c e => .inr e, fun x => ⟨fun z => absurd z (by simp), fun z => z⟩⟩
    | cons y r ih =>
      intro cs hl
      obtain ⟨n, k⟩ := y
      by_cases hk : k = .free
      · subst hk
        obtain ⟨c, hc⟩ := hl (n, .free) List.mem_cons_self rfl
        obtain ⟨cl, e1, e2, e3⟩ := ih ((n, c) :: cs) fun y hy => hl y (List.mem_cons_of_mem _ hy)
        refine ⟨cl, ?_, fun x d e => ?_, fun x => ⟨fun z => ?_, fun z => ?_⟩⟩
        · rw [List.forIn_cons]
          simp only [beq_self_eq_true, if_true, cellOf, hc]
          exact e1
        · rcases e2 x d e with ⟨z1, z2⟩ | z
          · exact .inl ⟨z1, List.mem_cons_of_mem _ z2⟩
          · rw [List.lookup_cons] at z
            by_cases hx : x == n
            · rw [hx] at z
              have hx' : x = n := by simpa using hx
              subst hx'
              refine .inl ⟨?_, List.mem_cons_self⟩
              rw [hc]; exact z
            · have hx' : (x == n) = false := by simpa using hx
              rw [hx'] at z
              exact .inr z
        · rcases List.mem_cons.mp z with z | z
          · injection z with z1 _
            subst z1
            refine (e3 x).2 ?_
            rw [List.lookup_cons, hc]
            simp
          · exact (e3 x).1 z
        · by_cases hx : x = n
          · subst hx
            refine (e3 x).2 ?_
            rw [List.lookup_cons, hc]
            simp
          · refine (e3 x).2 ?_
            rw [List.lookup_cons]
            have hx' : (x == n) = false := by simpa using hx
            rw [hx']
            exact z
      · obtain ⟨cl, e1, e2, e3⟩ := ih cs fun y hy => hl y (List.mem_cons_of_mem _ hy)
        have hb : (k == NameKind.free) = false := by simpa using hk
        refine ⟨cl, ?_, fun x d e => ?_, fun x => ⟨fun z => ?_, (e3 x).2⟩⟩
        · rw [List.forIn_cons]
          simp only [hb, Bool.false_eq_true, if_false]
          exact e1
        · rcases e2 x d e with ⟨z1, z2⟩ | z
          · exact .inl ⟨z1, List.mem_cons_of_mem _ z2⟩
          · exact .inr z
        · rcases List.mem_cons.mp z with z | z
          · injection z with _ z2
            exact absurd z2.symm hk
          · exact (e3 x).1 z
  obtain ⟨cl, e1, e2, e3⟩ := key scope.names [] h
  refine ⟨cl, ?_, fun x c e => ?_, fun x z => (e3 x).1 z⟩
  · unfold closureFor
    have := e1
    simpa using this
  · rcases e2 x c e with z | z
    · exact z
    · simp at z
theorem lookup_relabel {env : Env} (hk : env.scope.kind = .function) : ∀ {names : List (Str × NameKind)} {x : Str} {k : NameKind}, names.lookup x = some k → k ≠ .free →
    (names.map fun (n, k) => if (k == NameKind.free && env.scope.kind == .function && env.kindOf n == some .cell) then (n, NameKind.cell) else (n, k)).lookup x = some k
  | [], _, _, h, _ => by simp at h
  | (n, k') :: r, x, k, h, hf => by
    have ih := @lookup_relabel env hk r x k
    show List.lookup x ((if (k' == NameKind.free && env.scope.kind == .function && env.kindOf n == some .cell) = true then (n, NameKind.cell) else (n, k')) :: _) = _
    cases hx : x == n with
    | true =>
      simp only [List.lookup_cons, hx] at h
      cases h
      have : (k' == NameKind.free) = false := by simpa using hf
      simp [List.lookup_cons, hx, this]
    | false =>
      simp only [List.lookup_cons, hx] at h
      by_cases hc : (k' == NameKind.free && env.scope.kind == .function && env.kindOf n == some .cell) = true
      · rw [if_pos hc]; simp only [List.lookup_cons, hx]; exact ih h hf
      · rw [if_neg hc]; simp only [List.lookup_cons, hx]; exact ih h hf
theorem lookup_relabel_free {env : Env} (hk : env.scope.kind = .function) : ∀ {names : List (Str × NameKind)} {x : Str}, names.lookup x = some .free → env.kindOf x = some .cell →
    (names.map fun (n, k) => if (k == NameKind.free && env.scope.kind == .function && env.kindOf n == some .cell) then (n, NameKind.cell) else (n, k)).lookup x = some .cell
  | [], _, h, _ => by simp at h
  | (n, k') :: r, x, h, hc => by
    have ih := @lookup_relabel_free env hk r x
    show List.lookup x ((if (k' == NameKind.free && env.scope.kind == .function && env.kindOf n == some .cell) = true then (n, NameKind.cell) else (n, k')) :: _) = _
    cases hx : x == n with
    | true =>
      simp only [List.lookup_cons, hx] at h
      cases h
      have hxn : x = n := by simpa using hx
      subst hxn
      simp [List.lookup_cons, hk, hc]
    | false =>
      simp only [List.lookup_cons, hx] at h
      by_cases hd : (k' == NameKind.free && env.scope.kind == .function && env.kindOf n == some .cell) = true
      · rw [if_pos hd]; simp only [List.lookup_cons, hx]; exact ih h hc
      · rw [if_neg hd]; simp only [List.lookup_cons, hx]; exact ih h hc
def cxComp (X : Cx) (Nc : List Str) (scope : Scope) (cl : List (Str × Addr)) (C : Addr) (fp : List Addr) (s : Shared) (H : Hp) : Cx where
  prog := X.prog
  w := X.w
  K := X.K
  mg := X.mg
  base := X.base
  A := X.A
  N := Nc
  s₀ := s
  H₀ := H
  env := compEnvC scope cl C X.env
  outer := X.stack
  stack := X.stack
  ex := fp
  fn := fun _ => false
  calm := X.calm
  pn := []
  xe := fun _ _ => False
def capV (σ : St) (caps : List Nat) : St := caps.map fun j => (σ[j]?).join
structure CompOk (X : Cx) (x : Str) (Nc : List Str) (caps : List Nat) (scope : Scope) : Prop where
  kind : scope.kind = .function
  cell : ∀ y ∈ scope.names, y.2 ≠ .cell
  names : ∀ y ∈ scope.names, y.2 = .local → scope.names.lookup y.1 = some .local
  fr : ∀ y ∈ scope.names, y.2 = .free → X.env.scope.names.lookup y.1 = some .cell ∧ scope.names.lookup y.1 = some .free
  loc : scope.names.lookup x = some .local
  len : Nc.length = caps.length + 1
  hd : Nc[0]? = some x
  nd : Nc.Nodup
  cap : ∀ k j, caps[k]? = some j → ∃ y, Nc[k + 1]? = some y ∧ X.N[j]? = some y ∧ scope.names.lookup y = some .free
theorem compLoop_any {prog : Program} {w : World} {A : Around} {R : Result → Shared → Prop} {s : Shared} {elt target iter : Expr} {ifs : List Expr} {scope : Scope} {pos : Pos} {it acc : Value} {env : Env} (I : Nat → Shared → Prop)
    (turn : ∀ n s, I n s → wpAny (model prog w) A (pyNext it) (fun r s₁ => match r with
      | none => R (.ok .next) s₁
      | some v => wpAny (model prog w) A (letOwnedTupleGo target it v) (fun _ s1' => wpAny (model prog w) A (assign target env v) (fun _ s₂ =>
          wpAny (model prog w) A (forIn ifs true fun c r => if r = true then do let ok ← isTrue c env (eval c env); pure (ForInStep.yield ok) else pure (ForInStep.yield r)) (fun ok s₃ =>
            if ok = true then wpAny (model prog w) A (eval elt env) (fun x s₄ =>
              wpAny (model prog w) A (call (.builtin "list.append") [acc, x]) (fun _ s₅ => ∃ m, m < n ∧ I m s₅) (notedBy (model prog w) A env fun e s' => R (.error e) s') s₄) (notedBy (model prog w) A env fun e s' => R (.error e) s') s₃
            else ∃ m, m < n ∧ I m s₃) (notedBy (model prog w) A env fun e s' => R (.error e) s') s₂) (notedBy (model prog w) A env fun e s' => R (.error e) s') s1') (notedBy (model prog w) A env fun e s' => R (.error e) s') s₁) (notedBy (model prog w) A env fun e s' => R (.error e) s') s)
    (n : Nat) (h : I n s) :
    codeAny (model prog w) A (.compLoop (.ListComp elt [⟨target, iter, ifs, 0⟩] scope pos) 0 it acc env) R s := by
  refine codeAny_loop rfl I (fun n s hI => ?_) n h
  show wpAny _ A ((compTurn (.ListComp elt [⟨target, iter, ifs, 0⟩] scope pos) 0 it acc env).onRaise (fun x => do noteFrame x env; theTreesLotGoes x)) _ _ s
  refine wpAny_noted ?_
  rw [compTurn_list]
  refine wpAny_bind (wpAny_standAt (wpAny_bind (wpAny_mono (turn n s hI) (fun r s₁ h₁ => ?_) fun _ _ h' => h')))
  cases r with
  | none => exact wpAny_pure h₁
  | some v =>
    refine wpAny_bind (wpAny_mono h₁ (fun _ s1' h₁ => ?_) fun _ _ h' => h')
    refine wpAny_bind (wpAny_mono h₁ (fun _ s₂ h₂ => wpAny_bind (wpAny_mono h₂ (fun ok s₃ h₃ => ?_) fun _ _ h' => h')) fun _ _ h' => h')
    cases ok with
    | false => exact wpAny_pure ⟨rfl, h₃⟩
    | true =>
      exact wpAny_bind (wpAny_bind (wpAny_mono h₃ (fun x s₄ h₄ => wpAny_bind (wpAny_mono h₄ (fun _ s₅ h₅ => wpAny_pure (wpAny_pure ⟨rfl, h₅⟩)) fun _ _ h' => h')) fun _ _ h' => h'))
def tNoTest : TT := fun _ H Q => Q true H
inductive PIf (X : Cx) : List Expr → TT → Prop where
  | nil : PIf X [] tNoTest
  | one {c : Expr} {t : TT} (h : PT X c t) : PIf X [c] t
theorem PIf.run {X : Cx} {ifs : List Expr} {t : TT} (h : PIf X ifs t) {pins : List (Addr × Obj)} {s : Shared} {σ : St} {H : Hp} {Q : Bool → Hp → Prop} (I : Inv X pins σ H s) (ht : t σ H Q) :
    wpAny (model X.prog X.w) X.A (forIn ifs true fun c r => if r = true then do let ok ← isTrue c X.env (eval c X.env); pure (ForInStep.yield ok) else pure (ForInStep.yield r)) (TP X pins σ Q) X.xe s := by
  cases h with
  | nil => exact wpAny_tests_nil ⟨H, I, ht⟩
  | one h => exact wpAny_tests_one (h pins s σ H Q I ht)
def tCompW (caps : List Nat) (tc : TT) (te : TE) (J : It) (σ : St) (H : Hp) (Q : VK) : Prop :=
  ∃ W : Nat → Nat → List V → Hp → Prop, (∃ m, W 0 m [] H) ∧ ∀ i m ys H, W i m ys H →
    (J.stop i H ∧ ys.length ≤ sizeLine ∧ ∀ p, H p = none → Q (.ref p) (upd H p (.lst ys))) ∨
    (J.go i H ∧ ys.length < sizeLine ∧ ∀ x H', J.yld i H x H' → tc (some x :: capV σ caps) H' fun b H2 =>
      if b = true then te (some x :: capV σ caps) H2 fun y H3 => ∃ m', m' < m ∧ W (i + 1) m' (ys ++ [y]) H3 else ∃ m', m' < m ∧ W (i + 1) m' ys H2)
def tComp (wi : TI) (caps : List Nat) (tc : TT) (te : TE) : TE := fun σ H Q => wi σ H fun J H1 => tCompW caps tc te J σ H1 Q
section
variable {X : Cx} {pins : List (Addr × Obj)} {σ : St} {H : Hp} {s : Shared}
theorem Un.track {fs ex : List Addr} {H H' : Hp} {h h' : Heap} {a : Addr} {o : HO} (u : Un fs ex H H' h h') (ha : h.objs.size ≤ a) (hn : H' a = none) : Un fs ex H (upd H' a o) h h' where
  keep := u.keep
  slot := u.slot
  free := fun b ob q n hx => by rw [upd_ne (Nat.ne_of_lt (Nat.lt_of_lt_of_le (Heap.lt_size q) ha))]; exact u.free b ob q n hx
  there := u.there
  tups := fun b xs q => by rw [upd_ne (ne_of_none (u.tups b xs q) hn)]; exact u.tups b xs q
  frzs := fun b ob xs q => by rw [upd_ne (ne_of_none (u.frzs b ob xs q) hn)]; exact u.frzs b ob xs q
  tbls := fun b ps q => by
    obtain ⟨m, e⟩ := u.tbls b ps q
    exact ⟨m, by rw [upd_ne (ne_of_none e hn)]; exact e⟩
theorem HOk.track {P : Program} {w : World} {H : Hp} {h : Heap} {a : Addr} {o : HO} (x : HOk P w H h) (hn : H a = none) (new : ObjOk P w (upd H a o) h a o) : HOk P w (upd H a o) h := fun b u e => by
  by_cases hb : b = a
  · subst hb; rw [upd_same] at e; cases e; exact new
  · rw [upd_ne hb] at e
    exact (x b u e).stay (fun c v _ q => q) (fun c q => by rw [upd_ne (ne_of_none q hn)]; exact q) fun c xs q => by rw [upd_ne (ne_of_none q hn)]; exact q
theorem comp_ok {x : Str} {Nc : List Str} {caps : List Nat} {scope : Scope} {cl : List (Str × Addr)} {C : Addr} {fp : List Addr} (I : Inv X pins σ H s) (O : CompOk X x Nc caps scope)
    (hcl : ∀ x c, cl.lookup x = some c → X.env.cells.lookup x = some c ∧ (x, NameKind.free) ∈ scope.names) (hcl2 : ∀ x, (x, NameKind.free) ∈ scope.names → cl.lookup x = X.env.cells.lookup x)
    (hC : s.heap.objs.size ≤ C) (hfp : ∀ b ∈ fp, FpOk X pins H b) (hfo : ∀ b ∈ fp, b < s.heap.objs.size) : (cxComp X Nc scope cl C fp s H).Ok where
  mod := I.ok.mod
  kind := O.kind
  glob := I.ok.glob
  blt := I.ok.blt
  above := hC
  inj := fun a b c e1 e2 => I.ok.inj a b c (hcl a c e1).1 (hcl b c e2).1
  has := fun y hy => by
    have mem : (y, NameKind.free) ∈ scope.names := by
      have hy' : ((relabel scope X.env).names.lookup y = some .cell) ∨ ((relabel scope X.env).names.lookup y = some .free) := hy
      have hm : ∃ k, (y, k) ∈ (relabel scope X.env).names ∧ (k = .cell ∨ k = .free) := by
        rcases hy' with h | h
        · exact ⟨_, PySem.mem_of_lookup h, .inl rfl⟩
        · exact ⟨_, PySem.mem_of_lookup h, .inr rfl⟩
      obtain ⟨k, hm, hk⟩ := hm
      obtain ⟨⟨n, k'⟩, hm', e⟩ := List.mem_map.mp hm
      dsimp only at e
      by_cases hc : (k' == NameKind.free && X.env.scope.kind == .function && X.env.kindOf n == some .cell) = true
      · rw [if_pos hc] at e
        injection e with e1 _
        subst e1
        have : k' = .free := by
          have := (Bool.and_eq_true _ _ ▸ (Bool.and_eq_true _ _ ▸ hc).1).1
          simpa using this
        subst this
        exact hm'
      · rw [if_neg hc] at e
        injection e with e1 e2
        subst e1 e2
        rcases hk with hk | hk
        · subst hk; exact absurd rfl (O.cell _ hm')
        · subst hk; exact hm'
    obtain ⟨c, e⟩ := I.ok.has y (.inl (O.fr _ mem rfl).1)
    exact ⟨c, (hcl2 y mem).trans e⟩
  cab := fun _ _ z => nomatch z
  hd := I.ok.hd
  frames := I.ok.frames
  stk := .inl rfl
  exf := fun b hb => ⟨Nat.ne_of_lt (Nat.lt_of_lt_of_le (hfo b hb) hC), fun y c e => (hfp b hb).2.2.2.2.1 y c (hcl y c e).1⟩
  bs := I.bs
  bsz := Nat.le_trans I.ok.bsz I.sz
  noex := fun b o e hb => by
    rcases (hfp b hb).2.2.2.1 with z | z
    · exact I.ok.noex b o e z
    · exact absurd (Nat.lt_of_lt_of_le (Heap.lt_size e) (Nat.le_trans I.ok.bsz z)) (Nat.lt_irrefl _)
  exfs := fun b hb z => by
    rcases List.mem_cons.mp (I.stkSub b z) with e | e
    · exact (hfp b hb).2.1 e
    · exact (hfp b hb).2.2.1 e
  funs := I.stack
  frf := I.stkFree
end
open PySem PySem.Spec PyProof.Rows
section
variable {X : Cx} {pins : List (Addr × Obj)} {σ : St} {H : Hp} {s : Shared}
theorem capV_len (σ : St) (caps : List Nat) : (capV σ caps).length = caps.length := by unfold capV; rw [List.length_map]
theorem capV_get {σ : St} {caps : List Nat} {k : Nat} {v : V} (e : (capV σ caps)[k]? = some (some v)) : ∃ j, caps[k]? = some j ∧ σ[j]? = some (some v) := by
  unfold capV at e
  rw [List.getElem?_map] at e
  cases hk : caps[k]? with
  | none => rw [hk] at e; cases e
  | some j =>
    rw [hk] at e
    have e' : (σ[j]?).join = some v := Option.some.inj e
    refine ⟨j, rfl, ?_⟩
    cases hj : σ[j]? with
    | none => rw [hj] at e'; cases e'
    | some o => rw [hj] at e'; rw [show o = some v from e']
theorem Un.but {fs ex : List Addr} {H H' : Hp} {h h1 h2 : Heap} {C : Addr} (u : Un fs ex H H' h h1) (hs : Heap.SameBut C h1 h2) (hC : h.objs.size ≤ C) : Un fs ex H H' h h2 where
  keep := fun b o q n hb hx => (hs.2 b (Nat.ne_of_lt (Nat.lt_of_lt_of_le (Heap.lt_size q) hC))).trans (u.keep b o q n hb hx)
  slot := fun b o q n hb hx => by
    obtain ⟨sl, e⟩ := u.slot b o q n hb hx
    exact ⟨sl, (hs.2 b (Nat.ne_of_lt (Nat.lt_of_lt_of_le (Heap.lt_size q) hC))).trans e⟩
  free := u.free
  there := fun b o q hx => by
    obtain ⟨o', e⟩ := u.there b o q hx
    exact ⟨o', (hs.2 b (Nat.ne_of_lt (Nat.lt_of_lt_of_le (Heap.lt_size q) hC))).trans e⟩
  tups := u.tups
  frzs := u.frzs
  tbls := u.tbls
theorem comp_start {x : Str} {Nc : List Str} {caps : List Nat} {scope : Scope} {cl : List (Str × Addr)} {C : Addr} {fp : List Addr} {h' : Heap} {tk : Nat} {m0 : Str → Option Value} (I : Inv X pins σ H s) (O : CompOk X x Nc caps scope)
    (hcl : ∀ x c, cl.lookup x = some c → X.env.cells.lookup x = some c ∧ (x, NameKind.free) ∈ scope.names) (hcl2 : ∀ x, (x, NameKind.free) ∈ scope.names → cl.lookup x = X.env.cells.lookup x)
    (hC : s.heap.objs.size ≤ C) (hfp : ∀ b ∈ fp, FpOk X pins H b) (hfo : ∀ b ∈ fp, b < s.heap.objs.size)
    (old : ∀ b o, s.heap.get? b = some o → h'.get? b = some o) (hns : h'.Ns C m0) :
    Inv (cxComp X Nc scope cl C fp s H) [] (none :: capV σ caps) H { s with heap := h', toks := tk } where
  ok := comp_ok I O hcl hcl2 hC hfp hfo
  os := rfl
  bare := I.bare
  base := Un.kept old
  loc := by
    refine ⟨m0, hns, fun i y v hN hσ hv => ?_⟩
    cases i with
    | zero => simp at hσ
    | succ k =>
      rw [List.getElem?_cons_succ] at hσ
      obtain ⟨j, hj, hs⟩ := capV_get hσ
      obtain ⟨z, hz1, hz2, hz3⟩ := O.cap k j hj
      have hN' : Nc[k + 1]? = some y := hN
      rw [hz1] at hN'
      cases hN'
      have mem : (y, NameKind.free) ∈ scope.names := PySem.mem_of_lookup hz3
      have hk := (O.fr _ mem rfl).1
      obtain ⟨m, hn, hl⟩ := I.loc
      obtain ⟨u, r, l⟩ := hl j y v hz2 hs (.inr (.inl hk))
      refine ⟨u, r, ?_⟩
      rcases l with ⟨k', _⟩ | ⟨_, c, hc, z⟩
      · have k'' : X.env.scope.names.lookup y = some .local := k'
        rw [hk] at k''; cases k''
      · obtain ⟨o, ho, hd⟩ := z
        exact .inr ⟨.inl (lookup_relabel_free I.ok.kind hz3 hk), c, (hcl2 y mem).trans hc, o, old _ _ ho, hd⟩
  cell := fun y c e => by
    obtain ⟨v, o, ho, hd⟩ := I.cell y c (hcl y c e).1
    exact ⟨v, o, old _ _ ho, hd⟩
  free := I.hok.fresh hC
  freeC := fun y c e => I.freeC y c (hcl y c e).1
  pin := fun p hp => absurd (show p ∈ ([] : List (Addr × Obj)) from hp) (by simp)
  hok := I.hok.kept old
  len := by
    show (none :: capV σ caps).length = Nc.length
    rw [List.length_cons, capV_len, O.len]
abbrev rawL (us : List Value) (n : Nat) : Obj := { cls := .type "list", data := .seq us.toArray n }
theorem comp_fr {X : Cx} {sc0 scope : Scope} (h : X.env.scope = sc0) (hd : ∀ y ∈ scope.names, y.2 = .free → sc0.names.lookup y.1 = some .cell ∧ scope.names.lookup y.1 = some .free) :
    ∀ y ∈ scope.names, y.2 = .free → X.env.scope.names.lookup y.1 = some .cell ∧ scope.names.lookup y.1 = some .free := by
  rw [h]
  exact hd
theorem comp_block {x : Str} {px : Pos} {Nc : List Str} {caps : List Nat} {scope : Scope} {cl : List (Str × Addr)} {iter elt : Expr} {ifs : List Expr} {pos : Pos} {tc : TT} {te : TE} {Q : VK} {it : Addr} {fp : List Addr} {tn : Nat → Heap → Prop} {J : It}
    {RR : Value → Addr → Result → Shared → Prop} {E : Value → Shared → Prop}
    (O : CompOk X x Nc caps scope) (hc : X.calm = true)
    (hcl : ∀ x c, cl.lookup x = some c → X.env.cells.lookup x = some c ∧ (x, NameKind.free) ∈ scope.names) (hcl2 : ∀ x, (x, NameKind.free) ∈ scope.names → cl.lookup x = X.env.cells.lookup x)
    (hte : ∀ C fp s H, PE (cxComp X Nc scope cl C fp s H) elt te) (htc : ∀ C fp s H, PIf (cxComp X Nc scope cl C fp s H) ifs tc)
    (I : Inv X pins σ H s) (T : Turn X.prog X.w X.K (.Name x px) J fp it tn) (st : tn 0 s.heap) (hfp : ∀ b ∈ fp, FpOk X pins H b) (h : tCompW caps tc te J σ H Q)
    (hRR : ∀ (D C : Addr) (s' : Shared) (m : Str → Option Value), s'.heap.Ns C m → (∀ h', Heap.SameBut C s'.heap h' → ∃ H', Inv X pins σ H' { s' with heap := h' } ∧ H' C = none ∧ Q (.ref D) H') →
      s.heap.objs.size ≤ C → RR (.ref D) C (.ok .next) s') :
    wpAny (model X.prog X.w) X.A (newList []) (fun acc s₃ => wpAny (model X.prog X.w) X.A (newFunctionEnv scope X.env.globals cl [] X.env.qual none .none (some X.env)) (fun cenv s₄ =>
      codeAny (model X.prog X.w) X.A (.compStart (.ListComp elt [⟨.Name x px, iter, ifs, 0⟩] scope pos) 0 (.ref it) acc { cenv with scope := relabel scope X.env }) (RR acc cenv.locals) s₄) E s₃) E s := by
  refine wpAny_newObj_type (wpAny_newFunctionEnv O.cell (by intro y hy; simp at hy) (fun h₁ hns₁ hsb₁ => ?_) O.kind)
  dsimp only at hns₁ hsb₁ ⊢
  generalize hH2 : s.heap.push { cls := .type "list", dict := none, data := .seq ([] : List Value).toArray } = H2 at hns₁ hsb₁ ⊢
  have hC : H2.objs.size = s.heap.objs.size + 1 := by rw [← hH2, Heap.size_push]
  have hCle : s.heap.objs.size ≤ H2.objs.size := by rw [hC]; exact Nat.le_succ _
  have hDC : s.heap.objs.size ≠ H2.objs.size := by rw [hC]; exact Nat.ne_of_lt (Nat.lt_succ_self _)
  have below : ∀ b, b < s.heap.objs.size → b ≠ H2.objs.size ∧ b ≠ s.heap.objs.size := fun b hb => ⟨by rw [hC]; exact Nat.ne_of_lt (Nat.lt_succ_of_lt hb), Nat.ne_of_lt hb⟩
  have old : ∀ b o, s.heap.get? b = some o → h₁.get? b = some o := fun b o e => hsb₁.extBut b o (below b (Heap.lt_size e)).1 (Heap.get?_push_of_some _ (hH2 ▸ Heap.get?_push_of_some _ e))
  have hacc : h₁.get? s.heap.objs.size = some (rawL [] 0) := hsb₁.extBut _ _ hDC (Heap.get?_push_of_some _ (hH2 ▸ Heap.get?_push_size _ rfl))
  have hfo : ∀ b ∈ fp, b < s.heap.objs.size := fun b hb => by
    obtain ⟨o, e, _⟩ := T.obj _ _ st b hb
    exact Heap.lt_size e
  have st1 : tn 0 h₁ := T.keep _ _ _ st fun b _ o e => old b o e
  generalize hDD : s.heap.objs.size = D at *
  generalize hCC : H2.objs.size = C at *
  have DleC : D ≤ C := hCle
  let Y : Cx := cxComp X Nc scope cl C fp s H
  have I0 : Inv Y [] (none :: capV σ caps) H { s with heap := h₁, toks := s.toks + ([] : List (Str × Value)).length } := comp_start I O hcl hcl2 (by rw [hDD]; exact hCle) hfp (fun b hb => by rw [hDD]; exact hfo b hb) old hns₁
  have Dfree : H D = none := by rw [← hDD]; exact I.hok.fresh (Nat.le_refl _)
  have DneC : D ≠ C := hDC
  have Dfs : D ∉ Y.fs := fun z => by
    have := I.stack.mem (show D ∈ frs X.stack from z)
    obtain ⟨_, o, e, _⟩ := this
    have := Heap.lt_size e
    rw [hDD] at this
    exact Nat.lt_irrefl _ this
  have Dcell : ∀ y c, Y.env.cells.lookup y = some c → c ≠ D := fun y c e z => by
    obtain ⟨v, q⟩ := I.cell y c (hcl y c e).1
    have := q.lt
    rw [z, hDD] at this
    exact Nat.lt_irrefl _ this
  have Dfp : ∀ b ∈ fp, b ≠ D := fun b hb => Nat.ne_of_lt (hfo b hb)
  have fpY : ∀ {H' : Hp}, (∀ b ∈ fp, H' b = none) → ∀ b ∈ fp, FpOk Y [] H' b := fun hn b hb =>
    ⟨hn b hb, Nat.ne_of_lt (Nat.lt_of_lt_of_le (hfo b hb) DleC), fun z => I0.ok.exfs b hb z, .inl hb, fun y c e => (I0.ok.exf b hb).2 y c e, fun p hp => absurd (show p ∈ ([] : List (Addr × Obj)) from hp) (by simp)⟩
  obtain ⟨W, ⟨m0, w0⟩, turn⟩ := h
  have loop : ∀ s₃ : Shared, s₃ = { s with heap := h₁, toks := s.toks + ([] : List (Str × Value)).length } →
      codeAny (model X.prog X.w) X.A (.compLoop (.ListComp elt [⟨.Name x px, iter, ifs, 0⟩] scope pos) 0 (.ref it) (.ref D) (compEnvC scope cl C X.env)) (RR (.ref D) C) s₃ := by
    rintro s₃ rfl
    refine compLoop_any (fun n s' => ∃ (i : Nat) (o : Option V) (H' : Hp) (ys : List V) (us : List Value) (k : Nat), Inv Y [] (o :: capV σ caps) H' s' ∧ tn i s'.heap ∧ (∀ b ∈ fp, H' b = none) ∧ s'.heap.get? D = some (rawL us k) ∧ H' D = none ∧ Vals ys us ∧ W i n ys H')
      ?_ m0 ⟨0, none, H, [], [], 0, I0, st1, fun b hb => (hfp b hb).1, hacc, Dfree, .nil, w0⟩
    rintro n s3 ⟨i, o3, H3, ys, us, k, I3, st3, fr3, hD3, nD3, rv, w3⟩
    have fpP : ∀ {H' : Hp} {ob : Obj}, (∀ b ∈ fp, H' b = none) → ∀ b ∈ fp, FpOk Y [(D, ob)] H' b := fun hn b hb => by
      obtain ⟨g0, g1, g2, g3, g4, _⟩ := fpY hn b hb
      refine ⟨g0, g1, g2, g3, g4, fun p hp => ?_⟩
      have e : p = (D, _) := List.mem_singleton.mp (show p ∈ [(D, _)] from hp)
      rw [e]
      exact Ne.symm (Dfp b hb)
    have IP : Inv Y [(D, rawL us k)] (o3 :: capV σ caps) H3 s3 := I3.pins_of fun p hp => by
      have e : p = (D, rawL us k) := List.mem_singleton.mp hp
      subst e
      exact ⟨hD3, nD3, DneC, Dfs, fun v z => by cases z⟩
    have pinD : ∀ {σ' : St} {H' : Hp} {s' : Shared} {pl : List (Addr × Obj)}, Inv Y ([(D, rawL us k)] ++ pl) σ' H' s' → s'.heap.get? D = some (rawL us k) ∧ H' D = none := fun I' => by
      have z := I'.pin (D, rawL us k) (List.mem_append_right _ (List.mem_append_left _ List.mem_cons_self))
      exact ⟨z.1, z.2.1⟩
    rcases turn i n ys H3 w3 with ⟨stop, hlen, fin⟩ | ⟨go, hlen, step⟩
    ·
      refine wpAny_mono (T.done Y rfl rfl rfl hc i _ s3 _ H3 (fun _ _ => False) IP (fpP fr3) st3 stop) (fun r s4 hr => ?_) fun _ _ z => z.elim
      obtain ⟨hr, I4⟩ := hr
      subst hr
      obtain ⟨gD, nD⟩ := pinD (pl := []) (by simpa using I4)
      obtain ⟨m, hn, _⟩ := I4.loc
      refine hRR D C s4 m hn (fun h' hs' => ⟨upd H3 D (.lst ys), ?_, (upd_ne (Ne.symm DneC)).trans I4.free, fin D nD⟩) hCle
      have nt : ∀ b ob, H3 b = some ob → b ≠ C := fun b ob e z => by
        have := I4.free
        rw [z] at e
        rw [show H3 C = none from this] at e
        cases e
      have u1 : Un (frs X.stack) fp H H3 s.heap h' := Un.but I4.base hs' (show s.heap.objs.size ≤ C by rw [hDD]; exact hCle)
      have ok1 : HOk X.prog X.w H3 h' := fun b ob e => (I4.hok b ob e).stay (fun c v hc q => (hs'.2 c (by
        rcases hc with z | z
        · rw [z]; exact nt b ob e
        · exact nt c _ z)).trans q) (fun _ q => q) fun _ _ q => q
      have gD' : h'.get? D = some (rawL us k) := (hs'.2 D DneC).trans gD
      exact I.call' (s' := { s4 with heap := h' }) (ch := fp) I4.os (u1.track (Nat.le_of_eq hDD) nD) (ok1.track nD ⟨hlen, us, k, rv, gD'⟩) I4.bare fun b hb => by
        obtain ⟨_, g1, _, g3, g4, g5⟩ := hfp b hb
        exact ⟨g3, g1, g4, g5⟩
    ·
      refine wpAny_mono (T.item Y rfl rfl rfl hc i _ s3 _ H3 (fun _ _ => False) IP (fpP fr3) st3 go) (fun r s4 hr => ?_) fun _ _ z => z.elim
      obtain ⟨u0, hr, h4⟩ := hr
      subst hr
      refine wpAny_mono h4 (fun _ s5 h5 => ?_) fun _ _ z => z.elim
      obtain ⟨x5, H5, I5, r5, y5, st5, fr5⟩ := h5
      have I5' := I5.pinned (fpP fr5) (T.obj _ _ st5)
      have tgt : PG Y (.Name x px) (gName 0) := pg_name (i := 0) O.nd O.hd (.inl (lookup_relabel I.ok.kind O.loc (by intro z; cases z))) (.inr (lookup_relabel I.ok.kind O.loc (by intro z; cases z)))
      refine wpAny_mono (tgt _ s5 _ H5 x5 u0 (fun σ2 H2 => σ2 = some x5 :: capV σ caps ∧ H2 = H5) I5' r5 ⟨rfl, rfl⟩) (fun _ s6 h6 => ?_) fun _ _ z => z.elim
      obtain ⟨_, _, I6, rfl, rfl⟩ := h6
      refine wpAny_mono ((htc C fp s H).run I6 (step x5 _ y5)) (fun b s7 h7 => ?_) fun _ _ z => z.elim
      obtain ⟨H7, I7, q7⟩ := h7
      have keepT : ∀ {σ' : St} {H' : Hp} {s' : Shared}, Inv Y ([(D, rawL us k)] ++ pinsAt fp s5.heap) σ' H' s' → tn (i + 1) s'.heap ∧ ∀ b ∈ fp, H' b = none := fun I' =>
        ⟨T.keep _ _ _ st5 fun b hb o e => (I'.pin (b, o) (List.mem_append_right _ (List.mem_append_right _ (mem_pinsAt hb e)))).1, fun b hb => by
          obtain ⟨o, e, d⟩ := T.obj _ _ st5 b hb
          exact (I'.pin (b, o) (List.mem_append_right _ (List.mem_append_right _ (mem_pinsAt hb e)))).2.1⟩
      cases b with
      | false =>
        rw [if_neg Bool.false_ne_true] at q7
        rw [if_neg Bool.false_ne_true]
        obtain ⟨m', hm, w7⟩ := q7
        obtain ⟨gD, nD⟩ := pinD I7
        obtain ⟨k1, k2⟩ := keepT I7
        exact ⟨m', hm, i + 1, some x5, H7, ys, us, k, I7.pins_of (fun p hp => nomatch hp), k1, k2, gD, nD, rv, w7⟩
      | true =>
        rw [if_pos rfl] at q7
        rw [if_pos rfl]
        refine wpAny_mono (hte C fp s H _ s7 _ H7 _ I7 q7) (fun u8 s8 h8 => ?_) fun _ _ z => z.elim
        obtain ⟨y8, H8, I8, r8, m', hm, w8⟩ := h8
        obtain ⟨gD, nD⟩ := pinD I8
        obtain ⟨k1, k2⟩ := keepT I8
        refine call_meets F.slot_list_append ⟨_, gD, rfl⟩ F.entry_list_append (F.args_list_append_2 _ _) (PySem.list_append D us.toArray k u8 (by rw [List.size_toArray, ← rv.length]; omega)) ⟨gD, ?_⟩
        have q := PySem.IsL.update gD (·.push u8)
        have e1 : us.toArray.push u8 = (us ++ [u8]).toArray := by simp
        rw [e1] at q
        have I8' : Inv Y [] (some x5 :: capV σ caps) H8 s8 := I8.pins_of (fun p hp => nomatch hp)
        have I9 : Inv Y [] (some x5 :: capV σ caps) H8 { s8 with heap := s8.heap.update D (Obj.mapSeq (·.push u8)), toks := s8.toks } :=
          I8'.turned (it := D) (fun b o hb e => (Heap.get?_update_other s8.heap (Obj.mapSeq (·.push u8)) (Ne.symm hb)).trans e) nD DneC (.inr (Nat.le_of_eq hDD)) Dcell (fun p hp => nomatch hp)
        refine ⟨m', hm, i + 1, some x5, H8, ys ++ [y8], us ++ [u8], _, I9, T.keep _ _ _ k1 fun b hb o e => (Heap.get?_update_other s8.heap (Obj.mapSeq (·.push u8)) (Ne.symm (Dfp b hb))).trans e, k2, q, nD, rv.append (.cons r8 .nil), w8⟩
  exact codeAny_compStart_list (loop _ rfl) (T.self X.A 0 _ _ _ st1 (loop _ rfl))
theorem pe_comp {x : Str} {px pos : Pos} {Nc : List Str} {caps : List Nat} {scope : Scope} {iter elt : Expr} {ifs : List Expr} {wi : TI} {tc : TT} {te : TE} (O : CompOk X x Nc caps scope) (hc : X.calm = true) (hi : PI X (.Name x px) iter wi)
    (htc : ∀ cl C fp s H, PIf (cxComp X Nc scope cl C fp s H) ifs tc) (hte : ∀ cl C fp s H, PE (cxComp X Nc scope cl C fp s H) elt te) (hs : ∀ x, foldedSetIterable iter X.env x = pure x := by intro _; rfl) :
    PE X (.ListComp elt [⟨.Name x px, iter, ifs, 0⟩] scope pos) (tComp wi caps tc te) := by
  intro pins s σ H Q I h
  rw [eval_ListComp]
  obtain ⟨cl, e1, e2, e3⟩ := closure_is (scope := scope) (env := X.env) fun y hy hf => I.ok.has y.1 (.inl (O.fr y hy hf).1)
  refine wpAny_comprehension_free (use := none) rfl hs e1 O.kind O.names (thn (hi pins s σ H _ I h) fun v s1 h1 => thn h1 fun itv s2 h2 => ?_)
  obtain ⟨it, fp, tn, J, H2, e, I2, T, st2, f2, w2⟩ := h2
  subst e
  refine comp_block (RR := fun acc C => compPost (model X.prog X.w) X.A X.xe none (EP X pins σ Q) acc C) O hc e2 e3 (hte cl) (htc cl) I2 T st2 f2 w2 ?_
  intro D C s' m hn hq hC
  refine ⟨m, hn, fun h' hs' => ?_⟩
  obtain ⟨H', I', _, q⟩ := hq h' hs'
  exact ⟨.ref D, H', I', rfl, q⟩
theorem ps_setC {i : Nat} {y x : Str} {px py pos spos : Pos} {Nc : List Str} {caps : List Nat} {scope : Scope} {iter elt : Expr} {ifs : List Expr} {wi : TI} {tc : TT} {te : TE} (O : CompOk X x Nc caps scope) (hc : X.calm = true)
    (hN : X.N.Nodup) (hy : X.N[i]? = some y) (hx : X.env.scope.names.lookup y = some .local) (hi : PI X (.Name x px) iter wi)
    (htc : ∀ cl C fp s H, PIf (cxComp X Nc scope cl C fp s H) ifs tc) (hte : ∀ cl C fp s H, PE (cxComp X Nc scope cl C fp s H) elt te)
    (hsw : swapsWith (.ListComp elt [⟨.Name x px, iter, ifs, 0⟩] scope pos) (some (.Name y py)) spos.line X.env = pure true) (hs : ∀ x, foldedSetIterable iter X.env x = pure x := by intro _; rfl) :
    PS X (.Assign [.Name y py] (.ListComp elt [⟨.Name x px, iter, ifs, 0⟩] scope pos) spos) (tAsg (tComp wi caps tc te) (gName i)) := by
  intro pins s σ H Dn I h
  rw [exec_Assign_Name_used _ _ _ _ hsw]
  refine wpAny_bind (wpAny_standAt (wpAny_bind ?_))
  obtain ⟨cl, e1, e2, e3⟩ := closure_is (scope := scope) (env := X.env) fun y hy hf => I.ok.has y.1 (.inl (O.fr y hy hf).1)
  show wpAny _ X.A (do let _ ← comprehension (.ListComp elt [⟨.Name x px, iter, ifs, 0⟩] scope pos) scope X.env _ (newList []) false (eval iter X.env) (some (assign (.Name y py) X.env))) _ _ s
  refine wpAny_bind (wpAny_mono (wpAny_comprehension_free (use := some (assign (.Name y py) X.env)) (Q := fun _ s' => SP X pins Dn .next s') rfl hs e1 O.kind O.names
    (thn (hi pins s σ H _ I h) fun v s1 h1 => thn h1 fun itv s2 h2 => ?_)) (fun _ s' hq => wpAny_pure (wpAny_pure hq)) fun _ _ e => e)
  obtain ⟨it, fp, tn, J, H2, e, I2, T, st2, f2, w2⟩ := h2
  subst e
  refine comp_block (RR := fun acc C => compPost (model X.prog X.w) X.A X.xe (some (assign (.Name y py) X.env)) (fun _ s' => SP X pins Dn .next s') acc C) O hc e2 e3 (hte cl) (htc cl) I2 T st2 f2 w2 ?_
  intro D C s' m hn hq hC
  show wpAny _ X.A (assign (.Name y py) X.env (.ref D)) _ _ _
  obtain ⟨H', I', nC, q⟩ := hq s'.heap (.refl ..)
  have I'' : Inv X pins σ H' s' := I'
  have CL : C ≠ X.env.locals := Nat.ne_of_gt (Nat.lt_of_lt_of_le I2.lt hC)
  have Ccell : ∀ y c, X.env.cells.lookup y = some c → c ≠ C := fun y c e z => by
    obtain ⟨v, q⟩ := I2.cell y c e
    have := Nat.lt_of_lt_of_le q.lt hC
    rw [z] at this
    exact Nat.lt_irrefl _ this
  refine wpAny_assign_Name (store_ok2 I'' hN hy (.inl hx) (show RelV (.ref D) (.ref D) from rfl) (fun s3 I3 hsb => ?_) (.inr hx))
  obtain ⟨a, hsb, ha⟩ := hsb
  have aC : C ≠ a := by
    rcases ha with z | z
    · rw [z]; exact CL
    · exact Ne.symm (Ccell _ _ z)
  refine ⟨m, hn.sameBut hsb aC, fun h4 hs4 => ?_⟩
  refine ⟨_, H', I3.turned (it := C) (t' := s3.toks) (fun b o hb e => (hs4.2 b hb).trans e) nC CL (.inr (Nat.le_trans I2.sz hC)) Ccell (fun p hp z => ?_), q⟩
  · have := Nat.lt_of_lt_of_le (Heap.lt_size (I2.pin p hp).1) hC
    rw [z] at this
    exact Nat.lt_irrefl _ this
end
open PySem PySem.Spec PyProof.Rows
def Its (x : Str) : It := ⟨fun i _ => i < x.cps.size, fun i H v H' => H' = H ∧ ∃ c, x.cps[i]? = some c ∧ v = .str ⟨#[c]⟩, fun i _ => x.cps.size ≤ i⟩
theorem turn_strA {P : Program} {w : World} {K : PySem.W.Frag} {tg : Expr} (it : Addr) (x : Str) (t : Tok) : Turn P w K tg (Its x) [it] it (fun i h => i ≤ x.cps.size ∧ h.IsStrIter it "str_ascii_iterator" x t i) where
  mem := by simp
  obj := fun i h st b hb => by
    have e : b = it := by simpa using hb
    subst e
    obtain ⟨_, o, e, c, d⟩ := st
    exact ⟨o, e, fun v z => by rw [d] at z; cases z⟩
  keep := fun i h h' st k => by
    obtain ⟨hl, o, e, c, d⟩ := st
    exact ⟨hl, o, k it (by simp) o e, c, d⟩
  item := by
    intro X hP hw hK hc i pins s σ H E I hf st hg
    subst hP hw hK
    obtain ⟨hl, st⟩ := st
    have hg : i < x.cps.size := hg
    obtain ⟨f0, f1, f2, f3, f4, f5⟩ := hf it (by simp)
    have hx : x.cps[i]? = some x.cps[i] := by simp [hg]
    refine wpAny_pyNext_ascii_item st hx fun h' st' sb => ?_
    have I1 : Inv X pins σ H { s with heap := h', toks := s.toks + 1 } := I.turned (fun b o hb e => (sb.2 b hb).trans e) f0 f1 f3 f4 f5
    obtain ⟨o, e, c, d⟩ := id st'
    exact ⟨_, rfl, go_of (s := { s with heap := h', toks := s.toks + 1 }) e c d (by decide) ⟨.str ⟨#[x.cps[i]]⟩, H, I1, ⟨_, rfl⟩, ⟨rfl, _, hx, rfl⟩, ⟨hg, st'⟩, fun b hb => (hf b hb).1⟩⟩
  done := by
    intro X hP hw hK hc i pins s σ H E I hf st hg
    subst hP hw hK
    obtain ⟨hl, st⟩ := st
    have hg : x.cps.size ≤ i := hg
    obtain ⟨f0, f1, f2, f3, f4, f5⟩ := hf it (by simp)
    exact wpAny_pyNext_ascii_end (I.ok.hd hc) st (by simp; omega) fun h' eb => ⟨rfl, I.turned (t' := s.toks) (fun b o hb e => eb b o hb e) f0 f1 f3 f4 f5⟩
  self := fun _ _ _ _ _ st h => wpAny_pyIter_striter_ascii st.2 h
theorem turn_strW {P : Program} {w : World} {K : PySem.W.Frag} {tg : Expr} (it : Addr) (x : Str) (t : Tok) : Turn P w K tg (Its x) [it] it (fun i h => i ≤ x.cps.size ∧ h.IsStrIter it "str_iterator" x t i) where
  mem := by simp
  obj := fun i h st b hb => by
    have e : b = it := by simpa using hb
    subst e
    obtain ⟨_, o, e, c, d⟩ := st
    exact ⟨o, e, fun v z => by rw [d] at z; cases z⟩
  keep := fun i h h' st k => by
    obtain ⟨hl, o, e, c, d⟩ := st
    exact ⟨hl, o, k it (by simp) o e, c, d⟩
  item := by
    intro X hP hw hK hc i pins s σ H E I hf st hg
    subst hP hw hK
    obtain ⟨hl, st⟩ := st
    have hg : i < x.cps.size := hg
    obtain ⟨f0, f1, f2, f3, f4, f5⟩ := hf it (by simp)
    have hx : x.cps[i]? = some x.cps[i] := by simp [hg]
    refine wpAny_pyNext_wide_item st hx fun h' st' sb => ?_
    have I1 : Inv X pins σ H { s with heap := h', toks := s.toks + 1 } := I.turned (fun b o hb e => (sb.2 b hb).trans e) f0 f1 f3 f4 f5
    obtain ⟨o, e, c, d⟩ := id st'
    exact ⟨_, rfl, go_of (s := { s with heap := h', toks := s.toks + 1 }) e c d (by decide) ⟨.str ⟨#[x.cps[i]]⟩, H, I1, ⟨_, rfl⟩, ⟨rfl, _, hx, rfl⟩, ⟨hg, st'⟩, fun b hb => (hf b hb).1⟩⟩
  done := by
    intro X hP hw hK hc i pins s σ H E I hf st hg
    subst hP hw hK
    obtain ⟨hl, st⟩ := st
    have hg : x.cps.size ≤ i := hg
    obtain ⟨f0, f1, f2, f3, f4, f5⟩ := hf it (by simp)
    exact wpAny_pyNext_wide_end (I.ok.hd hc) st (by simp; omega) fun h' eb => ⟨rfl, I.turned (t' := s.toks) (fun b o hb e => eb b o hb e) f0 f1 f3 f4 f5⟩
  self := fun _ _ _ _ _ st h => wpAny_pyIter_striter_wide st.2 h
section
variable {X : Cx} {tg : Expr}
def iStr (tl : TE) : TI := fun σ H R => tl σ H fun x H1 => ∃ z, x = .str z ∧ R (Its z) H1
theorem pi_str {l : Expr} {tl : TE} (hl : PE X l tl) : PI X tg l (iStr tl) := by
  intro pins s σ H R I h
  refine thn (hl pins s σ H _ I h) fun v s1 ⟨x, H1, I1, r1, q1⟩ => ?_
  obtain ⟨z, e, q⟩ := q1
  subst e
  obtain ⟨t, rfl⟩ := r1
  have fpn : ∀ b ∈ [s1.heap.objs.size], FpOk X pins H1 b := fun b hb => by
    have e : b = s1.heap.objs.size := by simpa using hb
    subst e
    exact I1.fpOk (Nat.le_refl _) (I1.hok.fresh (Nat.le_refl _))
  cases ha : z.cps.all (· < 128)
  · refine wpAny_pyIter_wide ha ?_
    exact ⟨s1.heap.objs.size, [s1.heap.objs.size], _, _, H1, rfl, I1.kept (t' := s1.toks) fun b o e => Heap.get?_push_of_some _ e, turn_strW _ z t, ⟨Nat.zero_le _, _, Heap.get?_push_size _ rfl, rfl, rfl⟩, fpn, q⟩
  · refine wpAny_pyIter_ascii ha ?_
    exact ⟨s1.heap.objs.size, [s1.heap.objs.size], _, _, H1, rfl, I1.kept (t' := s1.toks) fun b o e => Heap.get?_push_of_some _ e, turn_strA _ z t, ⟨Nat.zero_le _, _, Heap.get?_push_size _ rfl, rfl, rfl⟩, fpn, q⟩
end
theorem for_str {z : Str} {g : TG} {tb : TS} {D : Ends} {σ : St} {H : Hp} (Pv : Nat → St → Hp → Prop) (h0 : Pv 0 σ H)
    (hs : ∀ i c σ H, z.cps[i]? = some c → Pv i σ H → g (.str ⟨#[c]⟩) σ H fun σ2 H2 => tb { D with nx := Pv (i + 1), ct := Pv (i + 1), bk := D.nx } σ2 H2) (hd : ∀ σ H, Pv z.cps.size σ H → D.nx σ H) :
    ∃ W : Nat → Nat → St → Hp → Prop, (∃ m, W 0 m σ H) ∧ ∀ i m σ H, W i m σ H →
      ((Its z).stop i H ∧ D.nx σ H) ∨ ((Its z).go i H ∧ ∃ N : St → Hp → Prop, (∀ σ' H', N σ' H' → ∃ m', m' < m ∧ W (i + 1) m' σ' H') ∧ ∀ x H', (Its z).yld i H x H' → g x σ H' fun σ2 H2 => tb { D with nx := N, ct := N, bk := D.nx } σ2 H2) := by
  refine ⟨fun i m σ H => m = z.cps.size - i ∧ i ≤ z.cps.size ∧ Pv i σ H, ⟨z.cps.size, by simp, Nat.zero_le _, h0⟩, ?_⟩
  rintro i m σ H ⟨rfl, hi, p⟩
  by_cases hlt : i < z.cps.size
  · refine .inr ⟨hlt, Pv (i + 1), fun σ' H' p' => ⟨z.cps.size - (i + 1), by omega, rfl, hlt, p'⟩, fun x H' y => ?_⟩
    obtain ⟨e, c, hc, rfl⟩ := y
    subst e
    exact hs i c σ _ hc p
  · have e : i = z.cps.size := by omega
    subst e
    exact .inl ⟨Nat.le_refl _, hd σ H p⟩
def CN (n : Nat) (Pv : Nat → List V → Hp → Prop) (i : Nat) (ys : List V) (H : Hp) : Prop := ∃ m', m' < n - i ∧ m' = n - (i + 1) ∧ i + 1 ≤ n ∧ Pv (i + 1) ys H
theorem CN.of {n : Nat} {Pv : Nat → List V → Hp → Prop} {i : Nat} {ys : List V} {H : Hp} (h : i < n) (p : Pv (i + 1) ys H) : CN n Pv i ys H := ⟨n - (i + 1), by omega, rfl, h, p⟩
def CTurn (n : Nat) (Pv : Nat → List V → Hp → Prop) (tc : TT) (te : TE) (σ : St) (i : Nat) (ys : List V) (H : Hp) : Prop :=
  tc σ H fun b H2 => if b = true then te σ H2 fun y H3 => CN n Pv i (ys ++ [y]) H3 else CN n Pv i ys H2
theorem CTurn.no {n : Nat} {Pv : Nat → List V → Hp → Prop} {te : TE} {σ : St} {i : Nat} {ys : List V} {H : Hp} (h : te σ H fun y H3 => CN n Pv i (ys ++ [y]) H3) : CTurn n Pv tNoTest te σ i ys H := by
  unfold CTurn tNoTest
  exact iteT h
theorem comp_list {K : PySem.W.Frag} {a : Addr} {xs : List V} {caps : List Nat} {tc : TT} {te : TE} {σ : St} {H : Hp} {Q : VK} (Pv : Nat → List V → Hp → Prop) (h0 : Pv 0 [] H) (hl : ∀ i ys H, i ≤ xs.length → Pv i ys H → SqL K H a xs ∧ ys.length ≤ i)
    (hz : xs.length ≤ sizeLine) (hs : ∀ i x ys H, i < xs.length → xs[i]? = some x → Pv i ys H → CTurn xs.length Pv tc te (some x :: capV σ caps) i ys H)
    (hd : ∀ ys H p, Pv xs.length ys H → H p = none → Q (.ref p) (upd H p (.lst ys))) : tCompW caps tc te (Itl K a) σ H Q := by
  refine ⟨fun i m ys H => m = xs.length - i ∧ i ≤ xs.length ∧ Pv i ys H, ⟨xs.length, by simp, Nat.zero_le _, h0⟩, ?_⟩
  rintro i m ys H ⟨rfl, hi, p⟩
  obtain ⟨q, hy⟩ := hl i ys H hi p
  by_cases hlt : i < xs.length
  · refine .inr ⟨⟨xs, xs[i], q, by simp [hlt]⟩, by omega, fun x H' y => ?_⟩
    obtain ⟨e, y⟩ := y
    subst e
    exact hs i x ys _ hlt (y xs q) p
  · have e : i = xs.length := by omega
    subst e
    exact .inl ⟨⟨xs, q, Nat.le_refl _⟩, by omega, fun p' hp => hd ys H p' p hp⟩
theorem comp_range {lo : Int} {n : Nat} {caps : List Nat} {tc : TT} {te : TE} {σ : St} {H : Hp} {Q : VK} (Pv : Nat → List V → Hp → Prop) (h0 : Pv 0 [] H) (hl : ∀ i ys H, i ≤ n → Pv i ys H → ys.length ≤ i)
    (hz : n ≤ sizeLine) (hs : ∀ i ys H, i < n → Pv i ys H → CTurn n Pv tc te (some (.int (lo + i)) :: capV σ caps) i ys H)
    (hd : ∀ ys H p, Pv n ys H → H p = none → Q (.ref p) (upd H p (.lst ys))) : tCompW caps tc te (Itr lo n) σ H Q := by
  refine ⟨fun i m ys H => m = n - i ∧ i ≤ n ∧ Pv i ys H, ⟨n, by simp, Nat.zero_le _, h0⟩, ?_⟩
  rintro i m ys H ⟨rfl, hi, p⟩
  have hy := hl i ys H hi p
  by_cases hlt : i < n
  · refine .inr ⟨hlt, by omega, fun x H' y => ?_⟩
    obtain ⟨e, y⟩ := y
    subst e y
    exact hs i ys _ hlt p
  · have e : i = n := by omega
    subst e
    exact .inl ⟨Nat.le_refl _, by omega, fun p' hp => hd ys H p' p hp⟩
theorem comp_str {z : Str} {caps : List Nat} {tc : TT} {te : TE} {σ : St} {H : Hp} {Q : VK} (Pv : Nat → List V → Hp → Prop) (h0 : Pv 0 [] H) (hl : ∀ i ys H, i ≤ z.cps.size → Pv i ys H → ys.length ≤ i)
    (hz : z.cps.size ≤ sizeLine) (hs : ∀ i c ys H, i < z.cps.size → z.cps[i]? = some c → Pv i ys H → CTurn z.cps.size Pv tc te (some (.str ⟨#[c]⟩) :: capV σ caps) i ys H)
    (hd : ∀ ys H p, Pv z.cps.size ys H → H p = none → Q (.ref p) (upd H p (.lst ys))) : tCompW caps tc te (Its z) σ H Q := by
  refine ⟨fun i m ys H => m = z.cps.size - i ∧ i ≤ z.cps.size ∧ Pv i ys H, ⟨z.cps.size, by simp, Nat.zero_le _, h0⟩, ?_⟩
  rintro i m ys H ⟨rfl, hi, p⟩
  have hy := hl i ys H hi p
  by_cases hlt : i < z.cps.size
  · refine .inr ⟨hlt, by omega, fun x H' y => ?_⟩
    obtain ⟨e, c, hc, rfl⟩ := y
    subst e
    exact hs i c ys _ hlt hc p
  · have e : i = z.cps.size := by omega
    subst e
    exact .inl ⟨Nat.le_refl _, by omega, fun p' hp => hd ys H p' p hp⟩
theorem strsAre_of {ys : List Str} : ∀ {us : List Value}, Vals (ys.map V.str) us → StrsAre us ys := by
  induction ys with
  | nil => intro us r; rw [List.map_nil] at r; cases r; exact .nil
  | cons n ns ih =>
    intro us r
    rw [List.map_cons] at r
    cases r with
    | cons r1 r2 =>
      obtain ⟨t, e⟩ := r1
      subst e
      exact .cons n t (ih r2)
def rJoin (K : PySem.W.Frag) : V → List V → Hp → VK → Prop := fun x vs H Q => ∃ z a ys, x = .str z ∧ vs = [.ref a] ∧ SqL K H a (ys.map V.str) ∧ (ys.map (·.length)).sum + ys.length * z.length ≤ 16777216 ∧ Q (.str (Txt.join z ys)) H
section
variable {X : Cx}
theorem mt_join : MtR X "str.join" (rJoin X.K) := by
  intro pins s σ H x vs v us Q I rx rv h
  obtain ⟨z, a, ys, rfl, rfl, hq, hz, q⟩ := h
  obtain ⟨t, rfl⟩ := rx
  obtain ⟨u, rfl, ru⟩ := rv.one
  cases ru
  obtain ⟨its, r, pl, hl⟩ := I.list hq
  exact join_list pl.isList (strsAre_of (by simpa using r)) hz fun t' k => ⟨.str _, H, I.tok _, ⟨_, rfl⟩, q⟩
def rIsi (K : PySem.W.Frag) : List V → Hp → VK → Prop := fun vs H Q => ∃ x t b, TyOf K H x t ∧
  ((∃ n, vs = [x, .ty n] ∧ PySem.W.kitOne K t (.type n) = some b) ∨ (∃ a, vs = [x, .ref a] ∧ PySem.W.kitOne K t (.ref a) = some b)) ∧ Q (.bl b) H
theorem call_isi : CallR X (.builtin "isinstance") (rIsi X.K) := by
  intro pins s σ H xs us Q I rv h
  obtain ⟨x, t, b, ty, hv, q⟩ := h
  rcases hv with ⟨n, rfl, e⟩ | ⟨a, rfl, e⟩
  · obtain ⟨u1, u2, rfl, r1, r2⟩ := rv.two
    cases r2
    exact isinst_ok I r1 ty e fun tk => ⟨.bl b, H, I.tok _, rfl, q⟩
  · obtain ⟨u1, u2, rfl, r1, r2⟩ := rv.two
    cases r2
    exact isinst_ok I r1 ty e fun tk => ⟨.bl b, H, I.tok _, rfl, q⟩
def eqL : List V → List V → Bool
  | [], [] => true
  | x :: xs, y :: ys => eqV x y && eqL xs ys
  | _, _ => false
theorem eqV_refl {x : V} (h : flatV x = true) : eqV x x = true := by
  cases x with
  | non => rfl
  | bl b => simp [eqV]
  | int i => simp [eqV]
  | str z => simp [eqV]
  | _ => exact absurd (show false = true from h) Bool.false_ne_true
def rEqL (K : PySem.W.Frag) : R2 := fun x y H Q => ∃ p q xs ys, x = .ref p ∧ y = .ref q ∧ SqL K H p xs ∧ SqL K H q ys ∧ xs.all flatV = true ∧ ys.all flatV = true ∧ Q (.bl (eqL xs ys)) H
end
open PySem
def tx (l : List Nat) : Str := ⟨l.toArray⟩
theorem tx_len (l : List Nat) : (tx l).length = l.length := by simp [tx, Str.length]
theorem tx_list (l : List Nat) : (tx l).cps.toList = l := by simp [tx]
theorem tx_get (l : List Nat) (i : Nat) : (tx l).cps[i]? = l[i]? := by simp [tx]
theorem tx_of (z : Str) : tx z.cps.toList = z := by cases z; simp [tx]
theorem tx_app (a b : List Nat) : tx a ++ tx b = tx (a ++ b) := by
  show Str.append (tx a) (tx b) = _
  simp [tx, Str.append]
theorem tx_inj {a b : List Nat} (h : tx a = tx b) : a = b := by
  have := congrArg (fun z : Str => z.cps.toList) h
  simpa [tx] using this
theorem tx_one (c : Nat) : (⟨#[c]⟩ : Str) = tx [c] := rfl
end L2
namespace PySem
open Sem (wp)
open Builtin Builtin.Str Builtin.Int
namespace RV
end RV
def revS (x : Str) (t : Tok) (i : Int) : Obj := { cls := .type "reversed", data := .fields #[.str x t, rawInt i] }
def Heap.IsRevS (h : Heap) (a : Addr) (x : Str) (t : Tok) (i : Int) : Prop := ∃ o, h.get? a = some o ∧ o.cls = .type "reversed" ∧ o.data = .fields #[.str x t, rawInt i]
section
variable {prog : Program} {w : World} {A : Around} {E : Value → Shared → Prop} {s : Shared}
end
end PySem
namespace L2
open PySem PySem.Spec PyProof.Rows
def revO (p : Addr) (x : Str) : HO := .ext fun h => ∃ t, h.IsRevS p x t ((x.length : Int) - 1)
def anyO (p : Addr) : HO := .ext fun h => ∃ o, h.get? p = some o
section
variable {X : Cx}
end
open PySem PySem.Spec PyProof.Rows
theorem iteDn {c A B : Prop} [Decidable c] (h : ¬ c) (k : B) : if decide c = true then A else B := by rw [decide_eq_false h]; exact iteF k
theorem iteDp {c A B : Prop} [Decidable c] (h : c) (k : A) : if decide c = true then A else B := by rw [decide_eq_true h]; exact iteT k
theorem iteNp {c A B : Prop} [Decidable c] (h : ¬ c) (k : A) : if (!decide c) = true then A else B := by rw [decide_eq_false h]; exact iteT k
theorem iteB {b : Bool} {A B : Prop} (h1 : b = true → A) (h2 : b = false → B) : if b = true then A else B := by
  cases b with
  | true => exact iteT (h1 rfl)
  | false => exact iteF (h2 rfl)
theorem ite2D {c A B : Prop} [Decidable c] (h1 : c → A) (h2 : ¬ c → B) : if decide c = true then A else B := by
  by_cases h : c
  · exact iteDp h (h1 h)
  · exact iteDn h (h2 h)
theorem Same.upd {H : Hp} {p : Addr} {o : HO} (h : H p = none) : Same H (L2.upd H p o) := fun b o' e => by rw [upd_ne (ne_of_none e h)]; exact e
theorem Same.new {H H1 : Hp} {p : Addr} {o : HO} (e : Same H H1) (h : H1 p = none) : Same H (L2.upd H1 p o) := e.trans (.upd h)
theorem Same.tup {K : PySem.W.Frag} {H H' : Hp} {a : Addr} {xs : List V} (e : Same H H') (h : SqT K H a xs) : SqT K H' a xs := by
  rcases h with (h | ⟨o, h⟩) | h
  · exact .inl (.inl (e _ _ h))
  · exact .inl (.inr ⟨o, e _ _ h⟩)
  · exact .inr h
theorem Same.over {H H1 : Hp} {p : Addr} {o : HO} (e : Same H H1) (h : H p = none) : Same H (L2.upd H1 p o) := fun b o' q => by rw [upd_ne (ne_of_none q h)]; exact e b o' q
theorem bt_len : bootBuiltins "len" = some (.builtin "len") := by decide +kernel
theorem bt_isinstance : bootBuiltins "isinstance" = some (.builtin "isinstance") := by decide +kernel
theorem bt_sum : bootBuiltins "sum" = some (.builtin "sum") := by decide +kernel
theorem bt_any : bootBuiltins "any" = some (.builtin "any") := by decide +kernel
theorem bt_all : bootBuiltins "all" = some (.builtin "all") := by decide +kernel
theorem bt_list : bootBuiltins "list" = some (.type "list") := by decide +kernel
theorem bt_str : bootBuiltins "str" = some (.type "str") := by decide +kernel
theorem bt_int : bootBuiltins "int" = some (.type "int") := by decide +kernel
theorem bt_tuple : bootBuiltins "tuple" = some (.type "tuple") := by decide +kernel
theorem bt_enumerate : bootBuiltins "enumerate" = some (.type "enumerate") := by decide +kernel
theorem bt_bool : bootBuiltins "bool" = some (.type "bool") := by decide +kernel
structure Df (K : PySem.W.Frag) (mg : Str → Option Value) (x : Str) (st : Stmt) (ps : List Str) (f : Addr) (fd : FuncData) : Prop where
  F : Fun K x x st f fd
  m : mg x = some (.ref f)
  b : Binds K fd ps []
def vS (cl : List (List Nat)) : List V := cl.map fun t => V.str (tx t)
def vI (ns : List Int) : List V := ns.map V.int
theorem vS_len (cl : List (List Nat)) : (vS cl).length = cl.length := by unfold vS; rw [List.length_map]
theorem vI_len (ns : List Int) : (vI ns).length = ns.length := by unfold vI; rw [List.length_map]
theorem vS_get {cl : List (List Nat)} {i : Nat} {t : List Nat} (h : cl[i]? = some t) : (vS cl)[i]? = some (.str (tx t)) := by unfold vS; rw [List.getElem?_map, h]; rfl
theorem vI_get {ns : List Int} {i : Nat} {n : Int} (h : ns[i]? = some n) : (vI ns)[i]? = some (.int n) := by unfold vI; rw [List.getElem?_map, h]; rfl
theorem vS_got {cl : List (List Nat)} {i : Nat} {v : V} (h : (vS cl)[i]? = some v) : ∃ t, cl[i]? = some t ∧ v = .str (tx t) := by
  unfold vS at h
  rw [List.getElem?_map] at h
  cases e : cl[i]? with
  | none => rw [e] at h; cases h
  | some t => rw [e] at h; exact ⟨t, rfl, (Option.some.inj h).symm⟩
theorem vS_map (cl : List (List Nat)) : vS cl = (cl.map tx).map V.str := by unfold vS; rw [List.map_map]; rfl
theorem vI_set (ns : List Int) (j : Nat) (n : Int) : (vI ns).set j (.int n) = vI (ns.set j n) := by unfold vI; rw [List.map_set]
theorem vI_app (ns : List Int) (n : Int) : vI ns ++ [.int n] = vI (ns ++ [n]) := by unfold vI; rw [List.map_append]; rfl
theorem vS_app (cl : List (List Nat)) (t : List Nat) : vS cl ++ [.str (tx t)] = vS (cl ++ [t]) := by unfold vS; rw [List.map_append]; rfl
theorem atI_of {α : Type} {xs : List α} {i : Int} {v : α} (h0 : 0 ≤ i) (h : xs[i.toNat]? = some v) : atI xs i = some v := by
  have e : i = (i.toNat : Int) := by omega
  rw [e]
  exact atI_nat h
theorem ixN_of {n : Nat} {i : Int} (h0 : 0 ≤ i) (h : i < n) : ixN n i = some i.toNat := by unfold ixN; rw [if_pos h0, if_pos h]
open PySem PySem.Spec PyProof.Rows
section
variable {X : Cx} {K : PySem.W.Frag} {tg : Expr}
theorem ix_listK (hK : X.K = K := by rfl) : IxR X (rIxL K) := by subst hK; exact ix_list
theorem ix_tupK (hK : X.K = K := by rfl) : IxR X (rIxT K) := by subst hK; exact ix_tup
theorem op_in_seqK (hK : X.K = K := by rfl) : OpR X (compareOp .In) (rIn K false) := by subst hK; exact op_in_seq
theorem op_notIn_seqK (hK : X.K = K := by rfl) : OpR X (compareOp .NotIn) (rIn K true) := by subst hK; exact op_notIn_seq
theorem call_len_seqK (hK : X.K = K := by rfl) : CallR X (.builtin "len") (fun xs H Q => ∃ p ys, xs = [.ref p] ∧ (SqL K H p ys ∨ SqT K H p ys) ∧ Q (.int ys.length) H) := by subst hK; exact call_len_seq
theorem call_list_ofK (hK : X.K = K := by rfl) : CallR X (.type "list") (fun xs H Q => ∃ p ys, xs = [.ref p] ∧ (SqL K H p ys ∨ SqT K H p ys) ∧ ∀ l, H l = none → Q (.ref l) (upd H l (.lst ys))) := by subst hK; exact call_list_of
theorem call_isiK (hK : X.K = K := by rfl) : CallR X (.builtin "isinstance") (rIsi K) := by subst hK; exact call_isi
theorem mt_joinK (hK : X.K = K := by rfl) : MtR X "str.join" (rJoin K) := by subst hK; exact mt_join
theorem sl_listK (hK : X.K = K := by rfl) : SlR X (rSlL K) := by subst hK; exact sl_list
theorem pi_listK {l : Expr} {tl : TE} (hl : PE X l tl) (hK : X.K = K := by rfl) : PI X tg l (iList K tl) := by subst hK; exact pi_list hl
theorem pt_truthK {a : Expr} {ta : TE} (ha : PE X a ta) (he : ∀ whole, isTrue a X.env whole = (do let v ← whole; standAt a.pos; holding [v] (truthy v))) (hK : X.K = K := by rfl) :
    PT X a (fun σ H Q => ta σ H fun x H' => ∃ k, TruV K x H' k ∧ Q k H') := by subst hK; exact pt_truth ha he
variable {o e : Expr} {es : List Expr} {to : TE} {t : TA} {name : Str} {apos cpos : Pos} {T id : String} {r : V → List V → Hp → VK → Prop}
theorem pe_bmK (pa : PlainAttrs T) (slot : Slot T name id) (hty : typeOf (.builtin id) = pure (.type "method_descriptor")) (hm : MtR X id r) (ho : PE X o to) (ha : PA X (e :: es) t)
    (hbase : attributeBase o name X.env (eval o X.env) = eval o X.env := by rfl)
    (hfew : ((backTo cpos (starEach (e :: es) X.env)).all (fun x => !x.1) && (backToKw cpos (keywordEach [] X.env)).all (fun x => x.1.isSome)
      && decide ((e :: es).length + ([] : List Keyword).length + (if ([] : List Keyword).isEmpty then 0 else 1) < 30)) = true := by rfl)
    (hline : (apos.endLine == cpos.line) = true := by rfl) (hs : starEach (e :: es) X.env = (false, eval e X.env) :: starEach es X.env := by rfl) (hplain : (backTo cpos (starEach es X.env)).any (·.1) = false := by rfl) (hK : X.K = K := by rfl) :
    PE X (.Call (.Attribute o name apos) (e :: es) [] cpos) (tBM K T r to t) := by
  subst hK
  exact pe_bm pa slot hty hm ho ha hbase hfew hline hs hplain
end
open PySem PySem.Spec PyProof.Rows
abbrev exO (C t : Addr) (tb : Value) : Obj := { cls := .ref C, data := .fields #[.ref t, tb, .none, .none, .bool false, .none] }
structure Fx (B : Heap) (l : List Env) (e C t : Addr) (fl : Value) (h : Heap) : Prop where
  st : B.StaysIn h
  ne : B.get? e = none
  fr : h.FunFrames B l
  ob : ∃ (T : Addr) (oT : Obj) (ts : Array Value), h.get? e = some (exO C t (.ref T)) ∧ B.get? T = none ∧ T ≠ e ∧ h.get? T = some oT ∧ oT.data = .fields ts ∧ ts[3]? = some fl
theorem Fx.outer {B : Heap} {env : Env} {l : List Env} {e C t : Addr} {fl : Value} {h : Heap} (x : Fx B (env :: l) e C t fl h) : Fx B l e C t fl h := ⟨x.st, x.ne, x.fr.2.2, x.ob⟩
section
variable {M : Model} {A : Around} {E : Value → Shared → Prop} {s : Shared} {B : Heap} {env : Env} {l : List Env} {e C t L : Addr}
theorem fx_land {fl : Value} {Q : Unit → Shared → Prop} (x : Fx B l e C t fl s.heap) (k : ∀ h', Fx B l e C t .none h' → s.heap.UpToSlots h' → Q () { s with heap := h' }) : wpAny M A (setFlight (.ref e) none) Q E s := by
  obtain ⟨st, ne, fr, T, oT, ts, hE, hBT, hTe, hT, hdT, h3⟩ := x
  have h3s : 3 < ts.size := (Array.getElem?_eq_some_iff.mp h3).1
  unfold setFlight
  refine wpAny_bind (wpAny_field hE rfl (x := .ref T) rfl ?_)
  rw [if_pos (show (Value.ref T != Value.none) = true by simp)]
  refine wpAny_setField hT hdT h3s (k _ ?_ ?_)
  all_goals
    have oth : ∀ b, b ≠ T → (s.heap.update T (Obj.mapFields (·.setIfInBounds 3 ((none : Option Addr).elim Value.none fun f => rawInt f)))).get? b = s.heap.get? b := fun b hb => Heap.get?_update_other _ _ (Ne.symm hb)
    have nrec : ∀ b o, s.heap.get? b = some o → (∀ vs, o.data ≠ .fields vs) → b ≠ T := fun b o hb hn q => by
      rw [q, hT] at hb
      cases hb
      exact hn ts hdT
  · refine ⟨fun b o hb => (oth b fun q => by rw [q, hBT] at hb; cases hb).trans (st b o hb), ne, fr.of_keeps fun b o hb hn => ⟨o, (oth b (nrec b o hb hn)).trans hb, rfl⟩, T, _, _, (oth e (Ne.symm hTe)).trans hE, hBT, hTe,
      Heap.get?_update_self _ hT (Obj.isFreed_of_fields (Obj.data_mapFields hdT _)), Obj.data_mapFields hdT _, ?_⟩
    simp [h3s]
  · exact fun b o hb hn => ⟨o.slots, (oth b (nrec b o hb hn)).trans hb⟩
theorem fx_enter {tb : Value} {had : Bool} {Q : Unit → Shared → Prop} (hfr : A.frames = some (env :: l)) (hf : env.frame = some L) (st : B.StaysIn s.heap) (ne : B.get? e = none) (fr : s.heap.FunFrames B (env :: l))
    (hE : s.heap.get? e = some (exO C t tb)) (k : ∀ h', Fx B (env :: l) e C t (rawInt L) h' → s.heap.UpToSlots h' → Q () { s with heap := h' }) :
    wpAny M A (do let a ← frameOf env; let pl ← entryPlaceOf L had; let b ← EntryCells.newEntry tb a .none (rawInt L) .none pl; setField (.ref e) 1 b) Q E s := by
  have eF : e ∉ (env :: l).filterMap (·.frame) := fun hm => by
    obtain ⟨_, o, ho, hn⟩ := fr.mem hm
    rw [hE] at ho
    cases ho
    exact hn _ rfl
  refine wpAny_bind (wpAny_frameOf_fun hfr fr hf fun h1 so => wpAny_bind (wpAny_entryPlaceOf fun pl hpl => ?_))
  unfold EntryCells.newEntry newFields
  refine wpAny_bind (wpAny_newObj_type ?_ (hpl.sizeOk5 _ _ _ _ _))
  have E1 : h1.get? e = some (exO C t tb) := (so.2.1 e eF).trans hE
  have st1 : B.StaysIn h1 := fun b o hb => (so.2.1 b fun hm => by rw [(fr.mem hm).1] at hb; cases hb).trans (st b o hb)
  have TE : h1.objs.size ≠ e := Nat.ne_of_gt (Heap.lt_size E1)
  generalize hN : ({ cls := .type "traceback", dict := none, data := .fields ([tb, .ref L, .none, rawInt L, .none] ++ (if pl.isEmpty then List.replicate 6 Value.none else pl)).toArray } : Obj) = nT
  have E2 : (h1.push nT).get? e = some (exO C t tb) := Heap.get?_push_of_some nT E1
  refine wpAny_setField (s := { s with heap := h1.push nT }) E2 rfl (by show 1 < 6; decide) (k _ ?_ ?_)
  all_goals
    have kp : ∀ b o, b ≠ e → h1.get? b = some o → ((h1.push nT).update e (Obj.mapFields (·.setIfInBounds 1 (Value.ref h1.objs.size)))).get? b = some o := fun b o hb q =>
      (Heap.get?_update_other _ _ (Ne.symm hb)).trans (Heap.get?_push_of_some nT q)
    have nrec : ∀ b o, s.heap.get? b = some o → (∀ vs, o.data ≠ .fields vs) → b ≠ e := fun b o hb hn q => by
      rw [q, hE] at hb
      cases hb
      exact hn _ rfl
  · have freed : nT.isFreed = false := by rw [← hN]; rfl
    refine ⟨fun b o hb => kp b o (fun q => by rw [q, ne] at hb; cases hb) (st1 b o hb), ne, fr.of_keeps fun b o hb hn => ?_, h1.objs.size, nT, _, Heap.get?_update_self _ E2 rfl, st1.fresh, TE,
      (Heap.get?_update_other _ _ (Ne.symm TE)).trans (Heap.get?_push_size h1 freed), by rw [← hN], by simp⟩
    obtain ⟨sl, q⟩ := so.2.2 b o hb
    exact ⟨_, kp b _ (nrec b o hb hn) q, rfl⟩
  · intro b o hb hn
    obtain ⟨sl, q⟩ := so.2.2 b o hb
    exact ⟨sl, kp b _ (nrec b o hb hn) q⟩
theorem fx_note0 {Q : Unit → Shared → Prop} (hfr : A.frames = some (env :: l)) (hf : env.frame = some L) (st : B.StaysIn s.heap) (ne : B.get? e = none) (fr : s.heap.FunFrames B (env :: l))
    (hE : s.heap.get? e = some (exO C t .none)) (k : ∀ h', Fx B (env :: l) e C t (rawInt L) h' → s.heap.UpToSlots h' → Q () { s with heap := h' }) : wpAny M A (noteFrame (.ref e) env) Q E s := by
  unfold noteFrame
  simp only [hf]
  refine wpAny_bind (wpAny_field hE rfl (x := .none) rfl ?_)
  rw [if_neg (by decide)]
  exact fx_enter hfr hf st ne fr hE k
theorem fx_note {Q : Unit → Shared → Prop} (hfr : A.frames = some (env :: l)) (hf : env.frame = some L) (x : Fx B (env :: l) e C t .none s.heap)
    (k : ∀ h', Fx B (env :: l) e C t (rawInt L) h' → s.heap.UpToSlots h' → Q () { s with heap := h' }) : wpAny M A (noteFrame (.ref e) env) Q E s := by
  obtain ⟨st, ne, fr, T, oT, ts, hE, hBT, hTe, hT, hdT, h3⟩ := x
  unfold noteFrame
  simp only [hf]
  refine wpAny_bind (wpAny_field hE rfl (x := .ref T) rfl ?_)
  rw [if_pos (show (Value.ref T != Value.none) = true by simp)]
  refine wpAny_bind (wpAny_field hT hdT h3 ?_)
  rw [if_neg (show ¬ ((Value.none == rawInt L) = true) by simp [rawInt])]
  refine wpAny_bind (wpAny_setField hT hdT (Array.getElem?_eq_some_iff.mp h3).1 ?_)
  have oth : ∀ b, b ≠ T → (s.heap.update T (Obj.mapFields (·.setIfInBounds 3 Value.none))).get? b = s.heap.get? b := fun b hb => Heap.get?_update_other _ _ (Ne.symm hb)
  have nrec : ∀ b o, s.heap.get? b = some o → (∀ vs, o.data ≠ .fields vs) → b ≠ T := fun b o hb hn q => by
    rw [q, hT] at hb
    cases hb
    exact hn ts hdT
  exact fx_enter (s := { s with heap := s.heap.update T (Obj.mapFields (·.setIfInBounds 3 Value.none)) }) hfr hf (fun b o hb => (oth b fun q => by rw [q, hBT] at hb; cases hb).trans (st b o hb)) ne
    (fr.of_keeps fun b o hb hn => ⟨o, (oth b (nrec b o hb hn)).trans hb, rfl⟩) ((oth e (Ne.symm hTe)).trans hE)
    fun h' y u => k h' y fun b o hb hn => u b o ((oth b (nrec b o hb hn)).trans hb) hn
end
open PySem PySem.Spec PyProof.Rows
section
variable {M : Model} {A : Around} {E : Value → Shared → Prop} {s : Shared} {B : Heap} {env : Env} {l : List Env} {e C t L : Addr}
theorem fx_flight {fl : Value} {f : Option Addr} {Q : Unit → Shared → Prop} (x : Fx B l e C t fl s.heap) (k : ∀ h', Fx B l e C t (f.elim Value.none fun f => rawInt f) h' → s.heap.UpToSlots h' → Q () { s with heap := h' }) : wpAny M A (setFlight (.ref e) f) Q E s := by
  obtain ⟨st, ne, fr, T, oT, ts, hE, hBT, hTe, hT, hdT, h3⟩ := x
  have h3s : 3 < ts.size := (Array.getElem?_eq_some_iff.mp h3).1
  unfold setFlight
  refine wpAny_bind (wpAny_field hE rfl (x := .ref T) rfl ?_)
  rw [if_pos (show (Value.ref T != Value.none) = true by simp)]
  refine wpAny_setField hT hdT h3s (k _ ?_ ?_)
  all_goals
    have oth : ∀ b, b ≠ T → (s.heap.update T (Obj.mapFields (·.setIfInBounds 3 (f.elim Value.none fun f => rawInt f)))).get? b = s.heap.get? b := fun b hb => Heap.get?_update_other _ _ (Ne.symm hb)
    have nrec : ∀ b o, s.heap.get? b = some o → (∀ vs, o.data ≠ .fields vs) → b ≠ T := fun b o hb hn q => by
      rw [q, hT] at hb
      cases hb
      exact hn ts hdT
  · refine ⟨fun b o hb => (oth b fun q => by rw [q, hBT] at hb; cases hb).trans (st b o hb), ne, fr.of_keeps fun b o hb hn => ⟨o, (oth b (nrec b o hb hn)).trans hb, rfl⟩, T, _, _, (oth e (Ne.symm hTe)).trans hE, hBT, hTe,
      Heap.get?_update_self _ hT (Obj.isFreed_of_fields (Obj.data_mapFields hdT _)), Obj.data_mapFields hdT _, ?_⟩
    simp [h3s]
  · exact fun b o hb hn => ⟨o.slots, (oth b (nrec b o hb hn)).trans hb⟩
theorem fx_noteN {Q : Unit → Shared → Prop} (hf : env.frame = some L) (x : Fx B l e C t (rawInt L) s.heap) (k : Q () s) : wpAny M A (noteFrame (.ref e) env) Q E s := by
  obtain ⟨st, ne, fr, T, oT, ts, hE, hBT, hTe, hT, hdT, h3⟩ := x
  unfold noteFrame
  simp only [hf]
  refine wpAny_bind (wpAny_field hE rfl (x := .ref T) rfl ?_)
  rw [if_pos (show (Value.ref T != Value.none) = true by simp)]
  refine wpAny_bind (wpAny_field hT hdT h3 ?_)
  rw [if_pos (show ((rawInt L == rawInt L) = true) by simp)]
  exact wpAny_pure k
end
structure Bk (P : Program) (w : World) (outer : List Env) (H : Hp) (h : Heap) (H' : Hp) (B h' : Heap) : Prop where
  ok : HOk P w H' B
  keep : ∀ b o, h.get? b = some o → H b = none → b ∉ frs outer → B.get? b = some o
  slot : ∀ b o, h.get? b = some o → b ∈ frs outer → ∃ sl, h'.get? b = some { o with slots := sl }
  free : ∀ b o, h.get? b = some o → H b = none → H' b = none
  there : ∀ b o, h.get? b = some o → b ∉ frs outer → ∃ o', B.get? b = some o'
  tups : ∀ b xs, H b = some (.tup xs) → H' b = some (.tup xs)
  frzs : ∀ b o u, H b = some (.frz o u) → H' b = some (.frz o u)
  tbls : ∀ b ps, H b = some (.tbl ps) → ∃ more, H' b = some (.tbl (ps ++ more))
theorem Bk.slots {P : Program} {w : World} {outer : List Env} {H H' : Hp} {h B h1 h2 : Heap} (k : Bk P w outer H h H' B h1) (fr : h1.FunFrames B outer) (u : h1.UpToSlots h2) : Bk P w outer H h H' B h2 :=
  ⟨k.ok, k.keep, fun b o q hb => by
    obtain ⟨sl, e⟩ := k.slot b o q hb
    obtain ⟨_, o2, e2, n2⟩ := fr.mem hb
    rw [e] at e2
    cases e2
    obtain ⟨sl2, e3⟩ := u b _ e n2
    exact ⟨sl2, e3⟩, k.free, k.there, k.tups, k.frzs, k.tbls⟩
def CX1 (P : Program) (w : World) : CXT := fun outer H s E e s' => ∃ ea C t H' B, e = .ref ea ∧ Fx B outer ea C t .none s'.heap ∧ s'.os = s.os ∧ AllBare s'.gens ∧ Bk P w outer H s.heap H' B s'.heap ∧ E (.ref C) none H'
inductive Fly (B : Heap) (l : List Env) (L ea C t : Addr) (h : Heap) : Prop where
  | new (st : B.StaysIn h) (ne : B.get? ea = none) (fr : h.FunFrames B l) (ob : h.get? ea = some (exO C t .none))
  | came (x : Fx B l ea C t .none h)
  | seen (x : Fx B l ea C t (rawInt L) h)
theorem Fly.fr {B : Heap} {l : List Env} {L ea C t : Addr} {h : Heap} (x : Fly B l L ea C t h) : h.FunFrames B l := by
  cases x with
  | new st ne fr ob => exact fr
  | came x => exact x.fr
  | seen x => exact x.fr
def FlX (X : Cx) (E : XK) : Value → Shared → Prop := fun e s' => ∃ ea C t H' B, e = .ref ea ∧ Fly B X.stack X.env.locals ea C t s'.heap ∧ s'.os = X.s₀.os ∧ AllBare s'.gens ∧ Bk X.prog X.w X.outer X.H₀ X.s₀.heap H' B s'.heap ∧ E (.ref C) none H'
structure Body (X : Cx) : Prop where
  stack : X.stack = X.env :: X.outer
  frame : X.env.frame = some X.env.locals
  ex : X.ex = []
section
variable {X : Cx} {pins : List (Addr × Obj)} {σ : St} {H : Hp} {s s' : Shared} {E : XK} {e : Value}
theorem Inv.frsN (I : Inv X pins σ H s) {b : Addr} {o : Obj} (q : X.s₀.heap.get? b = some o) (hb : b ∉ X.fs) : b ∉ frs X.stack := fun hm => by
  rcases List.mem_cons.mp (I.stkSub b hm) with z | z
  · rw [z] at q
    exact absurd (Nat.lt_of_lt_of_le (Heap.lt_size q) I.ok.above) (Nat.lt_irrefl _)
  · exact hb z
theorem passX (hB : Body X) (I : Inv X pins σ H s) (c : CX1 X.prog X.w X.stack H s E e s') : FlX X E e s' := by
  obtain ⟨ea, C, t, H', B, rfl, fx, os, bare, bk, q⟩ := c
  have nx : ∀ b : Addr, b ∉ X.ex := fun b z => by rw [hB.ex] at z; exact nomatch z
  have fsS : ∀ b, b ∈ X.fs → b ∈ frs X.stack := fun b hb => by
    rw [hB.stack]; unfold frs; rw [List.filterMap_cons, hB.frame]; exact List.mem_cons_of_mem _ hb
  refine ⟨ea, C, t, H', B, rfl, .came fx, os.trans I.os, bare, ⟨bk.ok, fun b o e n hb => ?_, fun b o e hb => ?_, fun b o e n => ?_, fun b o e hb => ?_, fun b xs e => bk.tups b xs (I.base.tups b xs e), fun b o u e => bk.frzs b o u (I.base.frzs b o u e), fun b ps e => ?_⟩, q⟩
  · exact bk.keep b o (I.base.keep b o e n hb (nx b)) (I.base.free b o e n (nx b)) (I.frsN e hb)
  · obtain ⟨sl, e1⟩ := I.base.slot b o e (I.ok.frf b hb) hb (nx b)
    obtain ⟨sl2, e2⟩ := bk.slot b _ e1 (fsS b hb)
    exact ⟨sl2, e2⟩
  · obtain ⟨o', e1⟩ := I.base.there b o e (nx b)
    exact bk.free b o' e1 (I.base.free b o e n (nx b))
  · obtain ⟨o', e1⟩ := I.base.there b o e (nx b)
    exact bk.there b o' e1 (I.frsN e hb)
  · obtain ⟨m1, e1⟩ := I.base.tbls b ps e
    obtain ⟨m2, e2⟩ := bk.tbls b _ e1
    exact ⟨m1 ++ m2, by rw [e2, Array.append_assoc]⟩
theorem madeX {h' : Heap} {ea C : Addr} {vs : List Value} (hB : Body X) (I : Inv X pins σ H s) (hx : Heap.MadeExcOf s.heap h' ea (.ref C) vs) (q : E (.ref C) none H) : FlX X E (.ref ea) { s with heap := h' } := by
  obtain ⟨t, ht, _, _⟩ := hx.there
  have nx : ∀ b : Addr, b ∉ X.ex := fun b z => by rw [hB.ex] at z; exact nomatch z
  have nfr : ∀ b u, H b = some u → b ∉ frs X.stack := fun b u e hm => by rw [I.stkFree b hm] at e; cases e
  refine ⟨ea, C, t, H, PySem.W.hideAll s.heap (frs X.stack), rfl, .new (fun b o e => hx.keeps b o (PySem.W.of_hideAll _ e)) ?_ ?_ ht, I.os, I.bare, ⟨fun b u e => ?_, fun b o e n hb => ?_, fun b o e hb => ?_, fun b o e n => I.base.free b o e n (nx b), fun b o e hb => ?_, I.base.tups, I.base.frzs, I.base.tbls⟩, q⟩
  · cases z : (PySem.W.hideAll s.heap (frs X.stack)).get? ea with
    | none => rfl
    | some o =>
      have := PySem.W.of_hideAll _ z
      rw [hx.new] at this
      cases this
  · exact (PySem.W.funFrames_hide I.stack fun env he a ha => List.mem_filterMap.mpr ⟨env, he, ha⟩).of_keeps fun b o hb _ => ⟨o, hx.keeps b o hb, rfl⟩
  · refine (I.hok b u e).stay (fun c v hc z => PySem.W.hideAll_get _ z ?_) (fun _ z => z) fun _ _ z => z
    rcases hc with z | z
    · rw [z]; exact nfr b u e
    · exact nfr c _ z
  · exact PySem.W.hideAll_get _ (I.base.keep b o e n hb (nx b)) (I.frsN e hb)
  · obtain ⟨sl, e1⟩ := I.base.slot b o e (I.ok.frf b hb) hb (nx b)
    exact ⟨sl, hx.keeps _ _ e1⟩
  · obtain ⟨o', e1⟩ := I.base.there b o e (nx b)
    exact ⟨o', PySem.W.hideAll_get _ e1 (I.frsN e hb)⟩
theorem noteX {M : Model} {Q : Unit → Shared → Prop} {E' : Value → Shared → Prop} {B : Heap} {ea C t : Addr} (hB : Body X) (hfr : X.A.frames = some X.stack) (x : Fly B X.stack X.env.locals ea C t s.heap)
    (k : ∀ h', Fx B X.stack ea C t (rawInt X.env.locals) h' → s.heap.UpToSlots h' → Q () { s with heap := h' }) : wpAny M X.A (noteFrame (.ref ea) X.env) Q E' s := by
  rw [hB.stack] at x hfr k
  cases x with
  | new st ne fr ob => exact fx_note0 hfr hB.frame st ne fr ob k
  | came x => exact fx_note hfr hB.frame x k
  | seen x => exact fx_noteN hB.frame x (k s.heap x (.refl _))
theorem frs_sub (hB : Body X) {B h : Heap} (x : h.FunFrames B X.stack) : h.FunFrames B X.outer := by
  rw [hB.stack] at x
  exact x.2.2
theorem leaveX {M : Model} {E' : Value → Shared → Prop} (hB : Body X) (hfr : X.A.frames = some X.stack) (c : FlX X E e s) : wpAny M X.A (leaving X.env e) (fun _ s'' => CX1 X.prog X.w X.outer X.H₀ X.s₀ E e s'') E' s := by
  obtain ⟨ea, C, t, H', B, rfl, fx, os, bare, bk, q⟩ := c
  unfold leaving
  refine wpAny_bind (noteX hB hfr fx fun h1 x1 u1 => fx_land (s := { s with heap := h1 }) x1 fun h2 x2 u2 => ?_)
  have x3 := x2
  rw [hB.stack] at x3
  exact ⟨ea, C, t, H', B, rfl, x3.outer, os, bare, bk.slots (frs_sub hB fx.fr) (u1.trans u2), q⟩
theorem ownX (hB : Body X) (hfr : X.A.frames = some X.stack) : PassesOwn (model X.prog X.w) X.A X.env (FlX X E) := by
  rintro e s ⟨ea, C, t, H', B, rfl, fx, os, bare, bk, q⟩
  unfold notedBy
  refine noteX hB hfr fx fun h1 x1 u1 => ?_
  obtain ⟨T, oT, ts, hE, _⟩ := x1.ob
  unfold cameBackBy
  refine wpAny_bind (wpAny_field (s := { s with heap := h1 }) hE rfl (x := .ref T) rfl ?_)
  rw [if_neg (by simp)]
  refine fx_flight (s := { s with heap := h1 }) (f := X.env.frame) x1 fun h2 x2 u2 => ?_
  rw [hB.frame] at x2
  exact ⟨ea, C, t, H', B, rfl, .seen x2, os, bare, bk.slots (frs_sub hB fx.fr) (u1.trans u2), q⟩
end
open PySem PySem.Spec PyProof.Rows
def mroK (K : PySem.W.Frag) (C : Addr) : List Value := match K.lookup C with
  | some ⟨_, _, .cls cd, _⟩ => cd.mro
  | _ => []
theorem exc_obj {K : PySem.W.Frag} {h : Heap} {C : Addr} {bmB : List Value} {nid : String} (X : K.In h) (q : PySem.W.excIn K C bmB nid = true) :
    ∃ bm N nm qn bs hdct sn sub ab col dd k0 k1 k2 k3 k5 mN, mroK K C = .ref C :: bm ∧ h.get? C = some (excClassObj nm qn C N bs bm hdct sn sub ab col dd k0 k1 k2 k3 k5 nid) ∧ h.Ns N mN ∧ mN "__init__" = none ∧ OwnTail h bmB bm := by
  unfold PySem.W.excIn at q
  split at q
  next dd cd sl ho =>
    split at q
    next C' bm k0 k1 k2 k3 n k5 hm hs =>
      have hM : mroK K C = cd.mro := by unfold mroK; rw [ho]
      simp only [Bool.and_eq_true, beq_iff_eq, Bool.not_eq_true'] at q
      obtain ⟨⟨⟨⟨⟨q1, q2⟩, hdel⟩, ht⟩, hok⟩, hni⟩ := q
      subst q1 q2
      have hsl : sl = #[k0, k1, k2, k3, some (.builtin n), k5] := by rw [← hs]
      rw [hm] at hM
      cases cd
      dsimp only at hm hdel hok hni
      subst hm hdel hsl
      exact ⟨bm, _, _, _, _, _, _, _, _, _, dd, k0, k1, k2, k3, k5, _, hM, X _ _ ho, .of_isNs (PySem.W.isNs_of_in X hok), PySem.W.nsMap_none_of_in X hok hni, PySem.W.tail_of_in X ht⟩
    next => cases q
  next => cases q
def tRaise (C : Addr) (E : XK) (t : TA) : TS := fun _ σ H => t σ H fun vs H1 => vs.length ≤ sizeLine ∧ E (.ref C) none H1
section
variable {X : Cx} {x : Str} {C : Addr} {bmB bmN : List Value} {B Bn nid nid' iid iid' : String} {E : XK} {e : Expr} {es : List Expr} {t : TA} {np cpos pos : Pos}
theorem ps_raise (hB : Body X) (hc : X.calm = true) (hw : ∀ e s', FlX X E e s' → X.xe e s') (Fn : ExcBaseFacts Bn nid iid bmN) (hn : bmB.contains (.type Bn) = true) (FB : ExcBaseFacts B nid' iid' bmB) (q : PySem.W.excIn X.K C bmB nid = true) (hg : Gl X x) (hm : X.mg x = some (.ref C)) (ha : PA X.nox (e :: es) t)
    (hd : (x == ("__debug__" : Str)) = false := by decide) (he : starEach (e :: es) X.env = (false, eval e X.env) :: starEach es X.env := by rfl) (hpl : (backTo cpos (starEach es X.env)).any (·.1) = false := by rfl) :
    PS X (.Raise (some (.Call (.Name x np) (e :: es) [] cpos)) none pos) (tRaise C E t) := by
  intro pins s σ H D I h
  obtain ⟨bm, N, nm, qn, bs, hdct, sn, sub, ab, col, dd, k0, k1, k2, k3, k5, mN, _, hC, hN, hni, T⟩ := exc_obj I.ok.mod.kin q
  refine wpAny_Raise_call_subU (N := N) (C := C) (k5 := k5) (k3 := k3) (k2 := k2) (k1 := k1) (k0 := k0) (dd := dd) (col := col) (ab := ab) (sub := sub) (sn := sn) (hdct := hdct) (bs := bs) (q := qn) (nm := nm) (newId := nid) Fn hn FB (mN := mN) (T.hasType FB.hasBase) (I.ok.hd hc) (by rw [he]; show (false || (backTo cpos (starEach es X.env)).any (·.1)) = false; rw [hpl]; rfl) hni (ld_glob I hg hm ⟨rfl, ?_⟩ hd)
  have h1 := ha cpos pins s σ H _ (I.wish _) h
  rw [he] at h1 ⊢
  refine Calls.evalArgs_plain (wpAny_mono h1 (fun us s2 z => ?_) fun _ _ z => z.elim)
  obtain ⟨vs, H1, I1, r, hl, hE⟩ := z
  have I2 : Inv X pins σ H1 s2 := I1.unwish
  exact ⟨rfl, by rw [← r.length]; exact hl, I2.bk _ _ hC, hN.keeps I2.bk, T.keeps I2.bk, fun h' ea hx => hw _ _ (madeX hB I2 hx hE)⟩
end
abbrev cx1 (P : Program) (w : World) (K : PySem.W.Frag) (mg : Str → Option Value) (base : Heap) (N : List Str) (qual : Str) (scope : Scope) (f : Addr) (cd : Value) (A : Around) (outer : List Env) (s : Shared) (H : Hp) (E : XK) : Cx :=
  (cxOf (CX1 P w) P w K mg base N qual scope f cd A outer s H E).wish (FlX (cxOf (CX1 P w) P w K mg base N qual scope f cd A outer s H E) E)
section
variable {P : Program} {w : World} {K : PySem.W.Frag} {mg : Str → Option Value} {base : Heap}
theorem body1 {N : List Str} {qual : Str} {scope : Scope} {f : Addr} {cd : Value} {A : Around} {outer : List Env} {s : Shared} {H : Hp} {E : XK} : Body (cx1 P w K mg base N qual scope f cd A outer s H E) := ⟨rfl, rfl, rfl⟩
theorem Fun.okX {x qual : Str} {st : Stmt} {f : Addr} {fd : FuncData} {N ps : List Str} {k : Nat} {sp : Sp} (F : Fun K x qual st f fd) (S : FnScope N ps (defScope st)) (len : ∀ vs H Q E, sp vs H Q E → vs.length = ps.length)
    (hbody : ∀ (cdv : Value) (A : Around) (outer : List Env) (s : Shared) (H : Hp) (vs : List V) (Q : VK) (E : XK), Room k (A.deeper (envOfC qual (defScope st) s.heap.objs.size f cdv)) → sp vs H Q E →
      ∃ t, PSs (cx1 P w K mg base N qual (defScope st) f cdv A outer s H E) (defBody st) t ∧ t { nx := fun _ H' => Q .non H', rt := Q } (start N vs) H) : FnOk P w K mg base (CX1 P w) (k + 1) f fd ps sp := by
  obtain ⟨oc, od, kV, doc, pm, an, cdv, ct, osl, rfl, lk, hcd⟩ := F.ex
  refine fn_of lk hcd S len fun A outer s H vs Q E hr hsp => ?_
  obtain ⟨t, h, q⟩ := hbody cdv A outer s H vs Q E hr hsp
  refine ⟨t, fun pins s1 σ H1 D I h1 => ?_, q⟩
  exact wpAny_mono (h pins s1 σ H1 D (I.wish _) h1) (fun _ _ z => z.unwish) fun e s' z => leaveX (X := cxOf (CX1 P w) P w K mg base N qual (defScope st) f cdv A outer s H E) ⟨rfl, rfl, rfl⟩ I.ok.frames z
theorem pass1 {N : List Str} {qual : Str} {scope : Scope} {f : Addr} {cd : Value} {A : Around} {outer : List Env} {s : Shared} {H : Hp} {E : XK} :
    Passes (CX1 P w) (cx1 P w K mg base N qual scope f cd A outer s H E) E := fun _ _ _ _ _ _ I c => passX ⟨rfl, rfl, rfl⟩ I.unwish c
end
theorem PS.nox {X : Cx} {st : Stmt} {t : TS} (h : PS X.nox st t) : PS X st t := fun pins s σ H D I hw =>
  wpAny_mono (h pins s σ H D (I.wish _) hw) (fun _ _ q => q.unwish) fun _ _ z => False.elim z
def PEX (X : Cx) (e : Expr) (t : XK → TE) : Prop := ∀ (pins : List (Addr × Obj)) (s : Shared) (σ : St) (H : Hp) (Q : VK) (E : XK), Inv X pins σ H s → t E σ H Q →
  wpAny (model X.prog X.w) X.A (eval e X.env) (EP X pins σ Q) (fun ex s' => ∃ H1 s1, Inv X pins σ H1 s1 ∧ CX1 X.prog X.w X.stack H1 s1 E ex s') s
section
variable {X : Cx} {k : Nat} {f C : Addr} {fd : FuncData} {ps : List Str} {sp : Sp} {dvs : List V} {ds : List Value} {x m : Str} {p pos apos : Pos} {e o : Expr} {es : List Expr} {ta : TE} {t : TA}
theorem run_fnX {pins : List (Addr × Obj)} {σ : St} {H : Hp} {s : Shared} {Q : VK} {E : XK} {us : List Value} {vs : List V} (F : FnOk X.prog X.w X.K X.mg X.base (CX1 X.prog X.w) k f fd ps sp) (hr : Room k X.A) (hb : Binds X.K fd ps ds) (hd : Vals dvs ds)
    (I : Inv X pins σ H s) (r : Vals vs us) (h : sp (vs ++ dvs) H Q E) : wpAny (model X.prog X.w) X.A (call (.ref f) us) (EP X pins σ Q) (fun ex s' => ∃ H1 s1, Inv X pins σ H1 s1 ∧ CX1 X.prog X.w X.stack H1 s1 E ex s') s := by
  have r2 : Vals (vs ++ dvs) (us ++ ds) := r.append hd
  have hl : (us ++ ds).length = ps.length := (r2.length.symm).trans (F.len _ _ _ _ h)
  refine wpAny_call (codeAny_mono (F.run X.A X.stack s H ⟨us, []⟩ (us ++ ds) (vs ++ dvs) Q E hr I.env0 (hb s us I.kIn hl) r2 h) fun rs s' hq => ?_)
  match rs, hq with
  | .error e, hq => exact ⟨H, s, I, hq⟩
  | .ok (.ret u), hq => exact I.after hq
  | .ok .next, hq => exact False.elim hq
  | .ok .brk, hq => exact False.elim hq
  | .ok .cont, hq => exact False.elim hq
theorem pex_call (F : FnOk X.prog X.w X.K X.mg X.base (CX1 X.prog X.w) k f fd ps sp) (hr : Room k X.A) (hg : Gl X x) (hm : X.mg x = some (.ref f)) (hk : PySem.W.keepIn X.K (.ref f) = true) (hb : Binds X.K fd ps ds) (hd : Vals dvs ds)
    (ha : PA X.nox (e :: es) t) (hdb : (x == ("__debug__" : Str)) = false := by decide) (he : starEach (e :: es) X.env = (false, eval e X.env) :: starEach es X.env := by rfl) (hpl : (backTo pos (starEach es X.env)).any (·.1) = false := by rfl) :
    PEX X (.Call (.Name x p) (e :: es) [] pos) fun E => tCall sp dvs E t := by
  intro pins s σ H Q E I h
  refine wpAny_Call_Name_kw (ld_glob I hg hm ?_ hdb)
  refine PySem.W.callWith_K (h₀ := X.base) I.ok.mod.kin hk (wpAny_mono (ha pos pins s σ H _ (I.wish _) h) (fun us s1 ⟨vs, H1, I1, r, q⟩ => ⟨I1.kIn, ?_⟩) fun _ _ z => z.elim) he hpl
  exact run_fnX F hr hb hd (I1.unwish) r q
end
open PySem PySem.Spec PyProof.Rows
def exH (C a : Addr) : HO := .ext fun h => ∃ t tb, h.get? a = some (exO C t tb)
theorem ObjOk.get {P : Program} {w : World} {H : Hp} {h : Heap} {a : Addr} {o : HO} (x : ObjOk P w H h a o) : ∃ u, h.get? a = some u := by
  induction o with
  | lst xs => obtain ⟨_, _, _, _, e⟩ := x; exact ⟨_, e⟩
  | tup xs => obtain ⟨_, _, _, _, e, _⟩ := x; exact ⟨_, e⟩
  | dK kvs => obtain ⟨_, _, _, _, _, _, _, e, _⟩ := x; exact ⟨_, e⟩
  | dT kvs => obtain ⟨_, _, _, _, _, _, _, e, _⟩ := x; exact ⟨_, e⟩
  | set S n => obtain ⟨_, _, _, _, e, _⟩ := x; exact ⟨_, e⟩
  | ins C dx fs => obtain ⟨_, _, _, e, _⟩ := x; exact ⟨_, e⟩
  | own y => obtain ⟨_, e⟩ := x; exact ⟨_, e⟩
  | xd fs => obtain ⟨_, ⟨_, _, _, e, _⟩, _⟩ := x; exact ⟨_, e⟩
  | rng lo hi => obtain ⟨_, _, _, e⟩ := x; exact ⟨_, e⟩
  | frz ob u ih => obtain ⟨e, _⟩ := x; exact ⟨_, e⟩
  | tbl ps => exact ⟨_, x⟩
  | met f y => exact ⟨_, x⟩
  | ext φ => exact x.2.1
section
variable {X : Cx} {pins : List (Addr × Obj)} {σ : St} {H H' : Hp} {s s' : Shared} {B h2 : Heap} {ea C t : Addr} {fl : Value}
theorem Bk.none {P : Program} {w : World} {outer : List Env} {h h' : Heap} (k : Bk P w outer H h H' B h') (ne : B.get? ea = Option.none) : H' ea = Option.none := by
  cases q : H' ea with
  | none => rfl
  | some o =>
    obtain ⟨u, e⟩ := (k.ok ea o q).get
    rw [ne] at e
    cases e
theorem caughtI (I : Inv X pins σ H s) (os : s'.os = s.os) (bare : AllBare s'.gens) (bk : Bk X.prog X.w X.stack H s.heap H' B h2) (fx : Fx B X.stack ea C t fl h2) :
    Inv X pins σ (upd H' ea (exH C ea)) { s' with heap := h2 } := by
  have hn := bk.none fx.ne
  obtain ⟨T, oT, ts, hE, _⟩ := fx.ob
  have ne : ∀ b o, s.heap.get? b = some o → b ≠ ea := fun b o e z => by
    by_cases hb : b ∈ frs X.stack
    · obtain ⟨_, o2, e2, n2⟩ := fx.fr.mem hb
      rw [z, hE] at e2
      cases e2
      exact n2 _ rfl
    · obtain ⟨o', e1⟩ := bk.there b o e hb
      rw [z, fx.ne] at e1
      cases e1
  have nt : ∀ b u, H' b = some u → b ≠ ea := fun b u e z => by
    rw [z, hn] at e
    cases e
  obtain ⟨hh, g, d, tk, os'⟩ := s'
  obtain rfl : os' = s.os := os
  refine I.call (s := s) (h' := h2) (g' := g) (d' := d) (t' := tk) (ch := []) ⟨fun b o e n hb _ => fx.st _ _ (bk.keep b o e n hb), fun b o e n hb _ => bk.slot b o e hb, fun b o e n _ => ?_, fun b o e _ => ?_, fun b xs e => ?_, fun b o u e => ?_, fun b ps e => ?_⟩ (fun b u e => ?_) bare (fun b z => nomatch z)
  · rw [upd_ne (ne b o e)]
    exact bk.free b o e n
  · by_cases hb : b ∈ frs X.stack
    · obtain ⟨sl, e1⟩ := bk.slot b o e hb
      exact ⟨_, e1⟩
    · obtain ⟨o', e1⟩ := bk.there b o e hb
      exact ⟨o', fx.st _ _ e1⟩
  · have e1 := bk.tups b xs e
    rw [upd_ne (nt _ _ e1)]
    exact e1
  · have e1 := bk.frzs b o u e
    rw [upd_ne (nt _ _ e1)]
    exact e1
  · obtain ⟨m1, e1⟩ := bk.tbls b ps e
    exact ⟨m1, by rw [upd_ne (nt _ _ e1)]; exact e1⟩
  · by_cases hb : b = ea
    · subst hb
      rw [upd_same] at e
      cases e
      exact ⟨⟨t, _, hE⟩, ⟨_, hE⟩, fun h1 h3 ⟨t', tb', q⟩ k => ⟨t', tb', k _ q⟩⟩
    · rw [upd_ne hb] at e
      refine (bk.ok b u e).stay (fun c v _ q => fx.st _ _ q) (fun c q => ?_) fun c xs q => ?_
      · rw [upd_ne (nt _ _ q)]; exact q
      · rw [upd_ne (nt _ _ q)]; exact q
abbrev Cx.hdl (X : Cx) (e : Addr) : Cx := { X with A := X.A.mark (some (.ref e)), calm := false, xe := fun _ _ => False }
theorem Inv.hdl (I : Inv X pins σ H s) (e : Addr) : Inv (X.hdl e) pins σ H s :=
  ⟨⟨I.ok.mod, I.ok.kind, I.ok.glob, I.ok.blt, I.ok.above, I.ok.inj, I.ok.has, I.ok.cab, (fun z => nomatch z), I.ok.frames, I.ok.stk, I.ok.exf, I.ok.bs, I.ok.bsz, I.ok.noex, I.ok.exfs, I.ok.funs, I.ok.frf⟩, I.os, I.bare, I.base, I.loc, I.cell, I.free, I.freeC, I.pin, I.hok, I.len⟩
theorem Inv.unhdl {e : Addr} (hd : X.calm = true → X.A.handled = none) (I : Inv (X.hdl e) pins σ H s) : Inv X pins σ H s :=
  ⟨⟨I.ok.mod, I.ok.kind, I.ok.glob, I.ok.blt, I.ok.above, I.ok.inj, I.ok.has, I.ok.cab, hd, I.ok.frames, I.ok.stk, I.ok.exf, I.ok.bs, I.ok.bsz, I.ok.noex, I.ok.exfs, I.ok.funs, I.ok.frf⟩, I.os, I.bare, I.base, I.loc, I.cell, I.free, I.freeC, I.pin, I.hok, I.len⟩
theorem Inv.forget {n : Str} {j : Nat} {m : Str → Option Value} {v : Option Value} {tk : Nat} {h' : Heap} (I : Inv X pins σ H s) (hN : X.N.Nodup) (hj : X.N[j]? = some n) (hn : s.heap.Ns X.env.locals m)
    (hm : ∀ (i : Nat) (x : Str) (v : V), X.N[i]? = some x → σ[i]? = some (some v) → Vis X.env.scope x → ∃ u, RelV v u ∧ Look X.env s.heap m x u) (hn' : h'.Ns X.env.locals (fun x => if x = n then v else m x)) (hs : Heap.SameBut X.env.locals s.heap h') :
    Inv X pins (σ.set j none) H { s with heap := h', toks := tk } := by
  obtain ⟨oL, _, _, hoL, _⟩ := id hn
  have neL : ∀ b o, X.s₀.heap.get? b = some o → b ≠ X.env.locals := fun b o e => Nat.ne_of_lt (Nat.lt_of_lt_of_le (Heap.lt_size e) I.ok.above)
  refine ⟨I.ok, I.os, I.bare, ⟨fun b o e n hb hx => ?_, fun b o e n hb hx => ?_, I.base.free, fun b o e hx => ?_, I.base.tups, I.base.frzs, I.base.tbls⟩, ⟨_, hn', fun i y w e1 e2 e3 => ?_⟩, fun y c e => ?_, I.free, I.freeC, fun p hp => ?_, fun b u e => ?_, by rw [List.length_set]; exact I.len⟩
  · exact (hs.2 b (neL b o e)).trans (I.base.keep b o e n hb hx)
  · obtain ⟨sl, e1⟩ := I.base.slot b o e n hb hx
    exact ⟨sl, (hs.2 b (neL b o e)).trans e1⟩
  · obtain ⟨o', e1⟩ := I.base.there b o e hx
    exact ⟨o', (hs.2 b (neL b o e)).trans e1⟩
  · by_cases hij : i = j
    · subst hij
      rw [List.getElem?_set] at e2
      split at e2
      · split at e2 <;> cases e2
      · exact absurd rfl ‹_›
    · rw [List.getElem?_set_ne (Ne.symm hij)] at e2
      obtain ⟨u, r, l⟩ := hm i y w e1 e2 e3
      refine ⟨u, r, ?_⟩
      rcases l with ⟨k, z⟩ | ⟨k, c, z, y'⟩
      · have : y ≠ n := fun q => hij (nodup_ix hN e1 (q ▸ hj))
        exact .inl ⟨k, by simp [this, z]⟩
      · exact .inr ⟨k, c, z, y'.sameBut hs (I.cne y c z)⟩
  · obtain ⟨v', z⟩ := I.cell y c e
    exact ⟨v', z.sameBut hs (I.cne y c e)⟩
  · obtain ⟨e, n1, n2, nf, d⟩ := I.pin p hp
    exact ⟨(hs.2 p.1 n2).trans e, n1, n2, nf, d⟩
  · refine (I.hok b u e).stay (fun c w' hc q => (hs.2 c ?_).trans q) (fun _ q => q) fun _ _ q => q
    rintro rfl
    rcases hc with z | z
    · rw [← z, I.free] at e; cases e
    · rw [I.free] at z; cases z
end
open PySem PySem.Spec PyProof.Rows
section
variable {M : Model} {A : Around} {E : Value → Shared → Prop} {h : Heap} {g : Array GenState} {d : Drawn} {t : Nat} {os : OsState}
theorem exc_matches {K : PySem.W.Frag} {C D e : Addr} {bC bD : List Value} {nC nD : String} {oe : Obj} {Q : Bool → Shared → Prop} (X : K.In h) (qC : PySem.W.excIn K C bC nC = true) (qD : PySem.W.excIn K D bD nD = true)
    (hb : bD.contains (.type "BaseException") = true) (he : h.get? e = some oe) (hc : oe.cls = .ref C) (hq : Q ((mroK K C).contains (.ref D)) ⟨h, g, d, t, os⟩) : wpAny M A (excMatches (.ref e) (.ref D)) Q E ⟨h, g, d, t, os⟩ := by
  obtain ⟨bm1, _, _, _, _, _, _, _, _, _, _, _, _, _, _, _, _, e1, hC, _, _, T1⟩ := exc_obj X qC
  obtain ⟨bm2, _, _, _, _, _, _, _, _, _, _, _, _, _, _, _, _, _, hD, _, _, T2⟩ := exc_obj X qD
  have hcB : (Value.ref D :: bm2).contains (.type "BaseException") = true := by rw [List.contains_cons, T2.hasType hb, Bool.or_true]
  have f := tc_notTuple
  rw [e1] at hq
  unfold excMatches
  repeat (first | (with_reducible refine wpAny_loadPart_at he ?_; rw [hc]) | with_reducible refine wpAny_loadPart_at hD ?_ | (with_reducible refine wpAny_isSubtype_exc hD ?_; rw [hcB]) | with_reducible refine wpAny_isSubtype_exc hC ?_ | wp_step)
  all_goals (revert hq; cases (Value.ref C :: bm1).contains (Value.ref D) <;> intro hq)
  all_goals (repeat (first | exact hq | wp_step))
end
abbrev WX (X : Cx) (pins : List (Addr × Obj)) (σ : St) (E : XK) : Value → Shared → Prop := fun ex s' => ∃ H1 s1, Inv X pins σ H1 s1 ∧ CX1 X.prog X.w X.stack H1 s1 E ex s'
def PSX (X : Cx) (st : Stmt) (t : XK → TS) : Prop := ∀ (pins : List (Addr × Obj)) (s : Shared) (σ : St) (H : Hp) (D : Ends) (E : XK), Inv X pins σ H s → t E D σ H → wpAny (model X.prog X.w) X.A (exec st X.env) (SP X pins D) (WX X pins σ E) s
def PSXs (X : Cx) (st : List Stmt) (t : XK → TS) : Prop := ∀ (pins : List (Addr × Obj)) (s : Shared) (σ : St) (H : Hp) (D : Ends) (E : XK), Inv X pins σ H s → t E D σ H → wpAny (model X.prog X.w) X.A (execs st X.env) (SP X pins D) (WX X pins σ E) s
section
variable {X : Cx} {e : Expr} {t u : XK → TS} {te : XK → TE} {pos : Pos} {st : Stmt}
theorem psxs_one (h : PSX X st t) : PSXs X [st] t := by
  intro pins s σ H D E I h1
  refine wpAny_execs_cons (thn (h pins s σ H D E I h1) fun f s1 q => ?_)
  match f, q with
  | .next, q => exact wpAny_execs_nil q
  | .brk, q => exact q
  | .cont, q => exact q
  | .ret u, q => exact q
theorem psx_ret (he : PEX X e te) : PSX X (.Return (some e) pos) fun E => tRet (te E) := by
  intro pins s σ H D E I h
  exact wpAny_Return_some (thn (he pins s σ H _ E I h) fun v s1 ⟨x, H1, I1, r1, q1⟩ => ⟨x, σ, H1, I1, r1, q1⟩)
abbrev Ends.un (D : Ends) (j : Nat) : Ends := { nx := fun σ H => D.nx (σ.set j none) H, rt := D.rt, bk := fun σ H => D.bk (σ.set j none) H, ct := fun σ H => D.ct (σ.set j none) H }
def Sub (K : PySem.W.Frag) (C D : Addr) : Prop := (∃ bm nid, PySem.W.excIn K C bm nid = true) ∧ (mroK K C).contains (.ref D) = true
def tTry (K : PySem.W.Frag) (Ch : Addr) (j : Nat) (t : XK → TS) (ts : TS) : TS := fun D σ H => t (fun c _ H' => ∃ C, c = .ref C ∧ Sub K C Ch ∧ ∀ ea, H' ea = none → ts (D.un j) (σ.set j (some (.ref ea))) (upd H' ea (exH C ea))) D σ H
theorem ps_try {body suite : List Stmt} {b₀ : Stmt} {ts : TS} {n x : Str} {j : Nat} {Ch : Addr} {bmB : List Value} {nid : String} {np hpos : Pos} (hB : Body X) (hc : X.calm = true) (hb : PSXs X body t) (hN : X.N.Nodup) (hj : X.N[j]? = some n)
    (hn : X.env.scope.names.lookup n = some .local) (hg : Gl X x) (hm : X.mg x = some (.ref Ch)) (hq : PySem.W.excIn X.K Ch bmB nid = true) (hbs : bmB.contains (.type "BaseException") = true) (hs : ∀ ea, PSs (X.hdl ea) (b₀ :: suite) ts)
    (hd : (x == ("__debug__" : Str)) = false := by decide) :
    PS X (.Try body [.ExceptHandler (some (.Name x np)) (some n) (b₀ :: suite) hpos] [] [] pos) (tTry X.K Ch j t ts) := by
  intro pins s σ H D I h
  refine wpAny_Try_except (wpAny_mono (hb pins s σ H D _ I h) (fun f s1 q => ?_) fun ex s1 z => ?_)
  · match f, q with
    | .next, q => exact wpAny_execs_nil q
    | .brk, q => exact q
    | .cont, q => exact q
    | .ret u, q => exact q
  · obtain ⟨H1, s0, I0, ea, C, t0, H', B, rfl, fx, os, bare, bk, C', eC, ⟨⟨bC, nC, qC⟩, sub⟩, ht⟩ := z
    obtain rfl : C = C' := by cases eC; rfl
    refine noteX hB I.ok.frames (.came fx) fun h1 x1 u1 => fx_land (s := { s1 with heap := h1 }) x1 fun h2 x2 u2 => ?_
    have bk2 := (bk.slots fx.fr u1).slots x1.fr u2
    have I2 : Inv X pins σ (upd H' ea (exH C ea)) { s1 with heap := h2 } := caughtI I0 os bare bk2 x2
    refine wpAny_handleBy_cons (codeAny_handlers_test (ld_glob (X := X.hdl ea) (I2.hdl ea) hg hm ?_ hd)) (by intro q; cases q)
    obtain ⟨T, oT, tt, hE, _⟩ := x2.ob
    refine exc_matches I2.kIn qC hq hbs hE rfl ?_
    rw [sub]
    refine codeAny_handlers_suite_as ?_
    refine fx_land (s := { s1 with heap := h2 }) x2 fun h3 x3 u3 => ?_
    have I3 : Inv X pins σ (upd H' ea (exH C ea)) { s1 with heap := h3 } := caughtI I0 os bare (bk2.slots x2.fr u3) x3
    refine store_ok (X := X.hdl ea) (I3.hdl ea) hN hj (.inl hn) (v := .ref ea) rfl (fun s4 I4 => ?_) (.inr hn)
    refine wpAny_mono (hs ea pins s4 _ _ _ I4 (ht ea (bk.none fx.ne))) (fun f s5 q => ?_) fun _ _ z => z.elim
    have go : ∀ {σ' : St} {H5 : Hp} {Q : Unit → Shared → Prop}, Inv (X.hdl ea) pins σ' H5 s5 → (∀ s6, Inv X pins (σ'.set j none) H5 s6 → Q () s6) → wpAny (model X.prog X.w) X.A (do bindName X.env n .none; unbindBehindTheSuite X.env n hpos) Q X.xe s5 := fun {σ' H5 Q} J k => by
      have J' : Inv X pins σ' H5 s5 := J.unhdl I.ok.hd
      obtain ⟨m, hns, hl⟩ := id J'.loc
      refine wpAny_nameGoes_keeps hn hns (by rw [I.ok.kind]; rfl) fun h6 v hn6 hs6 => k _ ?_
      exact J'.forget hN hj hns hl hn6 hs6
    match f, q with
    | .next, ⟨σ', H5, J, q⟩ => exact go J fun s6 J6 => ⟨_, H5, J6, q⟩
    | .brk, ⟨σ', H5, J, q⟩ => exact go J fun s6 J6 => ⟨_, H5, J6, q⟩
    | .cont, ⟨σ', H5, J, q⟩ => exact go J fun s6 J6 => ⟨_, H5, J6, q⟩
    | .ret u, ⟨v, σ', H5, J, r, q⟩ => exact go J fun s6 J6 => ⟨v, _, H5, J6, r, q⟩
end
open PySem PySem.Spec PyProof.Rows
structure ExC (K : PySem.W.Frag) (C : Addr) : Prop where
  ga : PySem.W.findIn K (.ref C) "__getattribute__" = some (some (.builtin "BaseException.__getattribute__"))
  gt : PySem.W.findIn K (.ref C) "__getattr__" = some none
  cl : PySem.W.findIn K (.ref C) "__class__" = some (some (.builtin "object.__class__"))
  gc : PySem.W.specialIn K (.builtin "object.__class__") "__get__" = some (some (.builtin "getset_descriptor.__get__"))
  tk : PySem.W.takesIn K (.builtin "object.__class__") = some true
  ob : PySem.W.mroIn K C (.type "object") = some true
  be : PySem.W.mroIn K C (.type "BaseException") = some true
  is : (PySem.W.clsIn K C).isSome = true
theorem canon_bga : (Manifest.canonical "BaseException.__getattribute__" != "object.__getattribute__") = false := by decide +kernel
section
variable {prog : Program} {w : World} {A : Around} {E : Value → Shared → Prop} {s : Shared} {K : PySem.W.Frag} {x C t : Addr} {tb : Value}
theorem ex_inst {h : Heap} (hx : h.get? x = some (exO C t tb)) : PySem.W.InstAt h x (exO C t tb) C none := ⟨hx, rfl, rfl, True.intro⟩
theorem ex_meth {m : Str} {f : Addr} {pl : Sem Bool} {Q : Value × List Value → Shared → Prop} (X : K.In s.heap) (hx : s.heap.get? x = some (exO C t tb)) (c : ExC K C) (hf : PySem.W.findIn K (.ref C) m = some (some (.ref f)))
    (ht : PySem.W.isFn K (.ref f) = true) (h : Q (.ref f, [.ref x]) s) : wpAny (model prog w) A (getMethod (.ref x) m pl) Q E s := by
  have I := ex_inst hx
  have hty : PySem.W.typeIn K (.ref f) = some (.type "function") := beq_iff_eq.mp ht
  unfold getMethod specialOf
  refine wpAny_bind (wpAny_bind (I.type.here ((PySem.W.looks_findIn X c.ga).here ?_)))
  dsimp only
  rw [canon_bga, if_neg Bool.false_ne_true]
  refine wpAny_bind (wpAny_bind (I.type.here ((PySem.W.looks_findIn X c.gt).here ?_)))
  refine wpAny_bind (wpAny_bind (I.type.here ((PySem.W.looks_findIn X hf).here (wpAny_bind ((PySem.W.looks_typeIn X hty).here ?_)))))
  rw [if_neg (by decide +kernel)]
  refine wpAny_bind (wpAny_loadPart hx ?_)
  exact wpAny_bind (wpAny_rule (wpAny_pure h))
end
def rIsX (K : PySem.W.Frag) : List V → Hp → VK → Prop := fun vs H Q => ∃ a C b, H a = some (exH C a) ∧ ExC K C ∧
  ((∃ n, vs = [.ref a, .ty n] ∧ PySem.W.kitOne K (.ref C) (.type n) = some b) ∨ (∃ D, vs = [.ref a, .ref D] ∧ PySem.W.kitOne K (.ref C) (.ref D) = some b)) ∧ Q (.bl b) H
section
variable {X : Cx} {K : PySem.W.Frag}
theorem ex_at {pins : List (Addr × Obj)} {σ : St} {H : Hp} {s : Shared} {a C : Addr} (I : Inv X pins σ H s) (e : H a = some (exH C a)) : ∃ t tb, s.heap.get? a = some (exO C t tb) := (I.hok a _ e).1
variable {CX : CXT} {k : Nat} {ps : List Str} {sp : Addr → Sp} {E : XK} {m : Str} {pos apos : Pos} {o : Expr} {ta : TE}
def tMethX (K : PySem.W.Frag) (m : Str) (sp : Addr → Sp) (E : XK) (ta : TE) : TE := fun σ H Q => ta σ H fun x H1 => ∃ a C, x = .ref a ∧ H1 a = some (exH C a) ∧ sp C [x] H1 Q E
end
open PySem PySem.Spec PyProof.Rows
abbrev vE : List Value := [.type "ValueError", .type "Exception", .type "BaseException", .type "object"]
abbrev vN : String := "ValueError.__new__"
structure Exn (K : PySem.W.Frag) (C : Addr) : Prop where
  q : PySem.W.excIn K C vE vN = true
  c : ExC K C
  ty : PySem.W.typeIn K (.ref C) = some (.type "type")
  ve : PySem.W.mroIn K C (.type "ValueError") = some true
theorem exn_mk {K : PySem.W.Frag} {C : Addr} (q : PySem.W.excIn K C vE vN = true) (ga : PySem.W.findIn K (.ref C) "__getattribute__" = some (some (.builtin "BaseException.__getattribute__"))) (gt : PySem.W.findIn K (.ref C) "__getattr__" = some none)
    (cl : PySem.W.findIn K (.ref C) "__class__" = some (some (.builtin "object.__class__"))) (gc : PySem.W.specialIn K (.builtin "object.__class__") "__get__" = some (some (.builtin "getset_descriptor.__get__"))) (tk : PySem.W.takesIn K (.builtin "object.__class__") = some true)
    (ob : PySem.W.mroIn K C (.type "object") = some true) (be : PySem.W.mroIn K C (.type "BaseException") = some true) (is : PySem.W.isClsIn K C = true) (ty : PySem.W.typeIn K (.ref C) = some (.type "type")) (ve : PySem.W.mroIn K C (.type "ValueError") = some true) : Exn K C :=
  ⟨q, ⟨ga, gt, cl, gc, tk, ob, be, is⟩, ty, ve⟩
theorem has_base : vE.contains (.type "BaseException") = true := by decide
theorem has_ve : vE.contains (.type "ValueError") = true := by decide
theorem Exn.sub {K : PySem.W.Frag} {C D : Addr} (x : Exn K C) (r : PySem.W.mroIn K C (.ref D) = some true) : Sub K C D := by
  refine ⟨⟨_, _, x.q⟩, ?_⟩
  obtain ⟨cd, h1, h2⟩ := Option.bind_eq_some_iff.mp r
  unfold PySem.W.clsIn at h1
  unfold mroK
  split at h1
  next c d cd' sl ho =>
    cases h1
    rw [ho]
    split at h2
    · cases h2
    · exact Option.some.inj h2
  next => cases h1
section
variable {X : Cx} {CX : CXT} {k : Nat} {C f : Addr} {fd : FuncData} {ps : List Str} {sp : Sp} {E : XK} {m : Str} {pos apos : Pos} {o : Expr} {ta : TE}
def tMethE (C : Addr) (sp : Sp) (E : XK) (ta : TE) : TE := fun σ H Q => ta σ H fun x H1 => ∃ a, x = .ref a ∧ H1 a = some (exH C a) ∧ sp [x] H1 Q E
end
def clsBody (s : Stmt) : List Stmt := match s with
  | .ClassDef _ _ _ b _ _ _ _ _ _ _ => b
  | _ => []
structure Mf (K : PySem.W.Frag) (x q : Str) (st : Stmt) (ps : List Str) (C f : Addr) (fd : FuncData) : Prop where
  F : Fun K x q st f fd
  m : Meth K C x f
  b : Binds K fd ps []
theorem kit_ib (K : PySem.W.Frag) : PySem.W.kitOne K (.type "int") (.type "bool") = some false := by
  unfold PySem.W.kitOne PySem.W.kitCls PySem.W.subIn
  rw [if_neg (by simp)]
  show (if _ then _ else _) = _
  rw [if_pos (by decide +kernel)]
  show Option.map (fun x => x.contains (Value.type "bool")) (fastBuiltinMro "int") = some false
  decide +kernel
open PySem PySem.Spec PyProof.Rows
section
variable {X : Cx} {t : XK → TS} {pos : Pos}
def tTryN (K : PySem.W.Frag) (Ch : Addr) (t : XK → TS) (ts : TS) : TS := fun D σ H => t (fun c _ H' => ∃ C, c = .ref C ∧ Sub K C Ch ∧ ∀ ea, H' ea = none → ts D σ (upd H' ea (exH C ea))) D σ H
end
open PySem PySem.Spec PyProof.Rows
section
variable {X : Cx} {t : XK → TS} {pos : Pos}
def pick (K : PySem.W.Frag) (C : Addr) : List (Addr × TS) → TS
  | [] => fun _ _ _ => False
  | (Ch, ts) :: l => fun D σ H => ((mroK K C).contains (.ref Ch) = true ∧ ts D σ H) ∨ ((mroK K C).contains (.ref Ch) = false ∧ pick K C l D σ H)
def tTryL (K : PySem.W.Frag) (l : List (Addr × TS)) (t : XK → TS) : TS := fun D σ H => t (fun c _ H' => ∃ C, c = .ref C ∧ (∃ bm nid, PySem.W.excIn K C bm nid = true) ∧ ∀ ea, H' ea = none → pick K C l D σ (upd H' ea (exH C ea))) D σ H
inductive HL (X : Cx) : List ExceptHandler → List (Addr × TS) → Prop
  | nil : HL X [] []
  | cons {suite : List Stmt} {b₀ : Stmt} {ts : TS} {x : Str} {Ch : Addr} {bmB : List Value} {nid : String} {np hpos : Pos} {hs : List ExceptHandler} {l : List (Addr × TS)}
      (hg : Gl X x) (hm : X.mg x = some (.ref Ch)) (hq : PySem.W.excIn X.K Ch bmB nid = true) (hbs : bmB.contains (.type "BaseException") = true) (hs' : ∀ ea, PSs (X.hdl ea) (b₀ :: suite) ts) (hd : (x == ("__debug__" : Str)) = false) (r : HL X hs l) :
      HL X (.ExceptHandler (some (.Name x np)) none (b₀ :: suite) hpos :: hs) ((Ch, ts) :: l)
end
open PySem PySem.Spec PyProof.Rows
open Builtin Builtin.Str
def cutT (u : List Nat) (lo hi : Option Int) : List Nat := (u.drop (HT.sIx u.length 0 lo)).take (HT.sIx u.length u.length hi - HT.sIx u.length 0 lo)
theorem rng_eq (a b : Nat) : sliceRange (a : Int) (b : Int) 1 = (List.range (b - a)).map fun k => a + k := by
  unfold sliceRange
  simp only [show (1 : Int) > 0 by decide, if_true]
  by_cases h : (a : Int) < (b : Int)
  · rw [if_pos h, Int.ediv_one, show (b : Int) - (a : Int) + 1 - 1 = ((b - a : Nat) : Int) by omega, Int.toNat_natCast]
    exact List.map_congr_left fun k _ => by omega
  · rw [if_neg h, show b - a = 0 by omega]
    rfl
theorem clip_some (n d : Nat) (i : Int) : max 0 (min (if i < 0 then i + (n : Int) else i) (n : Int)) = (HT.sIx n d (some i) : Int) := by
  show _ = (((if i < 0 then (i + (n : Int)).toNat else min i.toNat n) : Nat) : Int)
  by_cases h : i < 0
  · rw [if_pos h, if_pos h]; omega
  · rw [if_neg h, if_neg h]; omega
theorem idx_eq (n : Nat) (lo hi : Option Int) : strSliceIndices lo hi 1 n = (List.range (HT.sIx n n hi - HT.sIx n 0 lo)).map fun k => HT.sIx n 0 lo + k := by
  rw [← rng_eq]
  cases lo with
  | none =>
    cases hi with
    | none => rfl
    | some j => rw [← clip_some]; rfl
  | some i =>
    cases hi with
    | none => rw [← clip_some n 0 i]; rfl
    | some j => rw [← clip_some n 0 i, ← clip_some n n j]; rfl
theorem tx_slice (u : List Nat) (lo hi : Option Int) : Txt.slice (tx u) lo hi = tx (cutT u lo hi) := by
  unfold Txt.slice cutT
  rw [tx_len, idx_eq]
  have hle : HT.sIx u.length u.length hi ≤ u.length := HT.sIx_le _ _ (Nat.le_refl _) _
  have key : ∀ (a k : Nat), a + k ≤ u.length → ((List.range k).map fun j => a + j).filterMap (fun i => (tx u).cps[i]?) = (u.drop a).take k := by
    intro a k
    induction k with
    | zero => intro _; simp
    | succ k ih =>
      intro h
      rw [List.range_succ, List.map_append, List.filterMap_append, ih (by omega)]
      have : a + k < u.length := by omega
      simp only [List.map_cons, List.map_nil, List.filterMap_cons, List.filterMap_nil, tx_get, List.getElem?_eq_getElem this]
      rw [List.take_succ, List.getElem?_drop, List.getElem?_eq_getElem this]
      rfl
  split
  next h =>
    simp only [List.length_map, List.length_range, Bool.and_eq_true, beq_iff_eq] at h
    have h2 := h.2
    have : HT.sIx u.length 0 lo = 0 ∨ u.length = 0 := by omega
    rcases this with e | e
    · rw [e, List.drop_zero, List.take_of_length_le (by omega)]
    · rw [List.eq_nil_of_length_eq_zero e]; simp
  next h =>
    by_cases hlt : HT.sIx u.length 0 lo ≤ HT.sIx u.length u.length hi
    · show (Str.mk _) = _
      rw [key _ _ (by omega)]
      rfl
    · have e : HT.sIx u.length u.length hi - HT.sIx u.length 0 lo = 0 := by omega
      rw [e]
      simp [tx]
section
variable {X : Cx}
theorem sl_str : SlR X (fun x lo hi H Q => ∃ u : List Nat, x = .str (tx u) ∧ u.length ≤ sizeLine ∧ Q (.str (tx (cutT u lo hi))) H) := by
  intro pins s σ H x v vl vu lo hi sl Q I rx hs pl pu h
  obtain ⟨u, rfl, hz, q⟩ := h
  obtain ⟨t, rfl⟩ := rx
  rw [← tx_slice] at q
  refine ⟨"str", _, F.slot_str_getitem.lookup, typeIs_str _ _ _, ?_⟩
  have hsz : (tx u).length ≤ sizeLine := by rw [tx_len]; exact hz
  obtain ⟨os, hos, hcs, hds⟩ := id hs
  have fin : ∀ (l u' : Option (Int × Tok)), s.heap.IsSlice sl l u' none → Q (.str (Txt.slice (tx u) (l.map (·.1)) (u'.map (·.1)))) H → wpAny (model X.prog X.w) X.A (getItem (.str (tx u) t) (.ref sl)) (EP X pins σ Q) X.xe s := fun l u' z q' =>
    wpAny_getItem_str_slice z rfl (post_val_or_str ⟨Nat.le_trans (Txt.slice_le (tx u) _ _) hsz, fun t' k => ⟨.str _, H, I.tok _, ⟨t', rfl⟩, q'⟩⟩)
  cases pl with
  | none => cases pu with
    | none => exact fin none none ⟨os, hos, hcs, hds⟩ q
    | int j tj => exact fin none (some (j, tj)) ⟨os, hos, hcs, hds⟩ q
  | int i ti => cases pu with
    | none => exact fin (some (i, ti)) none ⟨os, hos, hcs, hds⟩ q
    | int j tj => exact fin (some (i, ti)) (some (j, tj)) ⟨os, hos, hcs, hds⟩ q
end
open PySem PySem.Spec PyProof.Rows
def rngO (p : Addr) (a b c : Int) : HO := .ext fun h => ∃ t u v, IsRange h p a b c t u v
def rngL (a c : Int) (n : Nat) : List Int := (List.range n).map fun (i : Nat) => a + (i : Int) * c
section
variable {X : Cx} {K : PySem.W.Frag}
theorem call_intT : CallR X (.type "int") (fun xs H Q => ∃ z n, xs = [.str z] ∧ PySem.intText? z = some n ∧ z.length ≤ 640 ∧ Q (.int n) H) := by
  intro pins s σ H xs us Q I rv h
  obtain ⟨z, n, rfl, hn, hl, q⟩ := h
  obtain ⟨u, rfl, t, rfl⟩ := rv.one
  exact PySem.W.KIN.call_text hn hl ⟨.int n, H, I.tok _, ⟨_, rfl⟩, q⟩
theorem call_sumI (hK : X.K = K := by rfl) (hc : X.calm = true := by rfl) : CallR X (.builtin "sum") (fun xs H Q => ∃ a ns, xs = [.ref a] ∧ SqL K H a (vI ns) ∧ Q (.int ns.sum) H) := by
  subst hK
  intro pins s σ H xs us Q I rv h
  obtain ⟨a, ns, rfl, hq, q⟩ := h
  obtain ⟨u, rfl, ru⟩ := rv.one
  cases ru
  obtain ⟨its, r, pl, hl⟩ := I.list hq
  have hi : IntsAre its ns := intsAre_of r
  obtain ⟨xs, hx⟩ := hi.allInts.items
  have hL : s.heap.IsList a (intItems xs) := by rw [← hx]; exact pl.isList
  refine sum_intListG (I.ok.hd hc) hL fun h' tk t' hk => ?_
  have e1 : xs.toList.map (·.1) = ns := by
    have z : numsOf its.toArray.toList = ns := hi.numsOf
    rw [hx, nums_intItems] at z
    exact z
  rw [show preSum (numAt xs) xs.size = ns.sum by rw [preSum_eq, List.take_of_length_le (by simp), e1]]
  exact ⟨.int ns.sum, H, I.kept hk, ⟨t', rfl⟩, q⟩
end
open PySem PySem.Spec PyProof.Rows
section
variable {X : Cx} {K : PySem.W.Frag} {o e value : Expr} {f : Str} {pos pos' tpos : Pos} {ta tv : TE} {st : Stmt} {t : TS}
theorem pe_fldK (he : PE X e ta) (hb : attributeBase e f X.env (eval e X.env) = eval e X.env) (hK : X.K = K := by rfl) : PE X (.Attribute e f pos) (tFld K ta f) := by subst hK; exact pe_fld he hb
theorem ps_fldK (ha : PE X o ta) (hv : PE X value tv) (hs : swapsWith value (some (.Attribute o f pos')) pos.line X.env = pure false := by rfl) (hK : X.K = K := by rfl) : PS X (.Assign [.Attribute o f pos'] value pos) (sFld K ta tv f) := by subst hK; exact ps_fld ha hv hs
theorem ps_fldaugK {op : Operator} {rd : V → V → Hp → VK → Prop} (ha : PE X o ta) (hv : PE X value tv) (hop : InOp X op rd) (hK : X.K = K := by rfl) : PS X (.AugAssign (.Attribute o f tpos) op value pos) (sFldAug K ta tv rd f) := by subst hK; exact ps_fldaug ha hv hop
theorem ps_fr (h : X.A.frames = some X.stack → PS X st t) : PS X st t := fun pins s σ H D I hw => h I.ok.frames pins s σ H D I hw
end
structure Own (K : PySem.W.Frag) (C f : Addr) : Prop where
  c : Cls K C
  m : Mk K C f
theorem own_mk {K : PySem.W.Frag} {C f : Addr} (h1 : PySem.W.plainGet K C Str.empty = true) (h2 : PySem.W.hasDictIn K C = true) (h3 : PySem.W.plainOver K C = true) (h4 : PySem.W.findIn K (.ref C) "__setattr__" = some (some (.builtin "object.__setattr__")))
    (h5 : PySem.W.makesIn K C = true) (h6 : PySem.W.findIn K (.ref C) "__init__" = some (some (.ref f))) (h7 : PySem.W.isFn K (.ref f) = true) (h8 : PySem.W.keepIn K (.ref C) = true) : Own K C f := ⟨⟨h1, h2, h3, h4⟩, ⟨h5, h6, h7, h8⟩⟩
open PySem PySem.Spec PyProof.Rows
structure ClsF (K : PySem.W.Frag) (C : Addr) (m : Str) (f : Addr) : Prop where
  rd : PySem.W.readsIn K C (.type "type") = true
  fi : PySem.W.findCls K (.ref C) (.type "type") m = some (.val (.ref f))
  ha : PySem.W.handedIn (.ref f) = true
  sp : PySem.W.specialIn K (.ref C) "__getattribute__" = some (some (.builtin "type.__getattribute__"))
  kp : PySem.W.keepIn K (.ref f) = true
def tClsM (C : Addr) (sp : Sp) (dvs : List V) (E : XK) (ta : TE) (t : TA) : TE := fun σ H Q => ta σ H fun x H1 => x = .ref C ∧ t σ H1 fun vs H2 => sp (vs ++ dvs) H2 Q E
section
variable {X : Cx} {CX : CXT} {k : Nat} {f C : Addr} {fd : FuncData} {ps : List Str} {sp : Sp} {dvs : List V} {ds : List Value} {E : XK} {m : Str} {pos apos : Pos} {e o : Expr} {es : List Expr} {ta : TE} {t : TA}
theorem pe_clsM {pl : Sem Bool} (he : PE X o ta) (M : ClsF X.K C m f) (F : FnOk X.prog X.w X.K X.mg X.base CX k f fd ps sp) (hr : Room k X.A) (hb : Binds X.K fd ps ds) (hd : Vals dvs ds) (hx : Passes CX X E) (ha : PA X (e :: es) t)
    (hst : starEach (e :: es) X.env = (false, eval e X.env) :: starEach es X.env := by rfl) (hpl : (backTo pos (starEach es X.env)).any (·.1) = false := by rfl)
    (ht : eval (.Call (.Attribute o m apos) (e :: es) [] pos) X.env = (do
      let ov ← eval o X.env
      standAt apos.atName
      let (f, first) ← holding [ov] (getMethod ov m pl)
      callWith pos f first (backTo pos (starEach (e :: es) X.env)) (backToKw pos (keywordEach [] X.env))) := by rfl) :
    PE X (.Call (.Attribute o m apos) (e :: es) [] pos) (tClsM C sp dvs E ta t) := by
  intro pins s σ H Q I h
  refine PySem.W.methodCall_KW (pl := pl) (thn (he pins s σ H _ I h) fun u s1 ⟨x, H1, I1, rx, ex, q⟩ => ?_) ht
  subst ex
  obtain rfl : u = Value.ref C := rx
  refine PySem.W.method_cls I1.kIn M.sp (PySem.W.cls_value I1.kIn M.rd M.fi M.ha ?_)
  refine PySem.W.callWith_K (first := []) (h₀ := X.base) I.ok.mod.kin M.kp (thn (ha pos pins _ σ H1 _ (I1.tok (s1.toks + 1)) q) fun us s2 ⟨vs, H2, I2, r, q2⟩ => ⟨I2.kIn, ?_⟩) hst hpl
  exact run_fn (us := us) (vs := vs) F hr hb hd hx I2 r q2
end
open PySem PySem.Spec PyProof.Rows
section
variable {κ : Type} [DecidableEq κ]
def valV (kvs : List (κ × V)) (k : κ) : Option V := (kvs.find? fun kv => decide (kv.1 = k)).map (·.2)
def putK (kvs : List (κ × V)) (k : κ) (v : V) : List (κ × V) :=
  if (kvs.any fun kv => decide (kv.1 = k)) = true then kvs.map (fun kv => if kv.1 = k then (kv.1, v) else kv) else kvs ++ [(k, v)]
def dropK (kvs : List (κ × V)) (k : κ) : List (κ × V) := kvs.filter fun kv => decide (kv.1 ≠ k)
end
abbrev KT (H : Hp) : List (List Key × V) → List (List Key × Addr × Value) → Prop := Paired fun p q => p.1 = q.1 ∧ H q.2.1 = some (.tup (p.1.map kV)) ∧ RelV p.2 q.2.2
section
variable {P : Program} {w : World} {H : Hp} {h : Heap} {a : Addr}
end
def DGet (H : Hp) (a : Addr) (y : V) (r : Option V) : Prop :=
  (∃ kvs k, Rd H a (.dK kvs) ∧ y = kV k ∧ r = valV kvs k) ∨ ∃ kvs k b, Rd H a (.dT kvs) ∧ y = .ref b ∧ H b = some (.tup (k.map kV)) ∧ r = valV kvs k
def DPut (H : Hp) (a : Addr) (y v : V) (H' : Hp) : Prop :=
  (∃ kvs k, H a = some (.dK kvs) ∧ y = kV k ∧ kvs.length < sizeLine ∧ H' = upd H a (.dK (putK kvs k v))) ∨
  ∃ kvs k b, H a = some (.dT kvs) ∧ y = .ref b ∧ H b = some (.tup (k.map kV)) ∧ kvs.length < sizeLine ∧ H' = upd H a (.dT (putK kvs k v))
section
variable {X : Cx} {pins : List (Addr × Obj)} {σ : St} {H : Hp} {s : Shared} {a : Addr} {y v : V} {u r : Value} {o : Option V} {A : Around} {E : Value → Shared → Prop}
end
section
variable {X : Cx} {pins : List (Addr × Obj)} {σ : St} {H : Hp} {s : Shared} {a : Addr} {kvs : List (Key × V)} {k : Key} {u : Value} {A : Around} {E : Value → Shared → Prop}
end
def NoSl (i : Expr) : Prop := ∀ ov iv, subscripted i false ov iv = operate [ov, iv] (getItem ov iv)
theorem subD_of {prog : Program} {w : World} {A : Around} {E : Value → Shared → Prop} {s : Shared} {env : Env} {value slice : Expr} {pos : Pos} {T id : String} {Q : Value → Shared → Prop}
    (hl : typeLookup (.type T) "__getitem__" = pure (some (.builtin id))) (hs : NoSl slice)
    (h : wpAny (model prog w) A (eval value env) (fun o s₁ => wpAny (model prog w) A (eval slice env) (fun i s₂ => s₂.TypeIs o T ∧ wpAny (model prog w) A (getItem o i) Q E s₂) E s₁) E s) :
    wpAny (model prog w) A (eval (.Subscript value slice pos) env) Q E s := by
  refine Subscript_ (wpAny_mono h (fun o s₁ h₁ => wpAny_mono h₁ (fun i s₂ h₂ => ?_) fun _ _ x => x) fun _ _ x => x)
  obtain ⟨hT, h₂⟩ := h₂
  unfold subscriptTail
  refine wpAny_bind ?_
  rw [getitemInPython_of_ne hT.not_modules]
  refine wpAny_bind (wpAny_specialOf hT hl ?_)
  have fin : wpAny (model prog w) A (subscripted slice false o i) (fun r s₃ => wpAny (model prog w) A (letTemporaryGo value o r >>= fun _ => pure r) Q E s₃) E s₂ := by
    rw [hs o i]
    exact wpAny_operating (wpAny_mono h₂ (fun r s₃ h₃ => wpAny_bind (wpAny_letTemporaryGo (wpAny_pure h₃))) fun _ _ x => x)
  first
    | exact wpAny_pure (wpAny_bind fin)
    | exact wpAny_bind (wpAny_pure (wpAny_bind fin))
    | exact wpAny_bind fin
def tDGet (td ty : TE) : TE := fun σ H Q => td σ H fun x H1 => ty σ H1 fun y H2 => ∃ a v, x = .ref a ∧ DGet H2 a y (some v) ∧ Q v H2
def tDIn (ty td : TE) : TE := fun σ H Q => ty σ H fun y H1 => td σ H1 fun x H2 => ∃ a o, x = .ref a ∧ DGet H2 a y o ∧ Q (.bl o.isSome) H2
def tDNotIn (ty td : TE) : TE := fun σ H Q => ty σ H fun y H1 => td σ H1 fun x H2 => ∃ a o, x = .ref a ∧ DGet H2 a y o ∧ Q (.bl (!o.isSome)) H2
def sDPut (td ty tv : TE) : TS := fun D σ H => tv σ H fun v H1 => td σ H1 fun x H2 => ty σ H2 fun y H3 => ∃ a H4, x = .ref a ∧ DPut H3 a y v H4 ∧ D.nx σ H4
def sDAug (td ty tv : TE) (rd : V → V → Hp → VK → Prop) : TS := fun D σ H => td σ H fun x H1 => ty σ H1 fun y H2 => ∃ a v, x = .ref a ∧ DGet H2 a y (some v) ∧
  tv σ H2 fun y2 H3 => rd v y2 H3 fun z H4 => ∃ H5, DPut H4 a y z H5 ∧ D.nx σ H5
def sDDel (td ty : TE) : TS := fun D σ H => td σ H fun x H1 => ty σ H1 fun y H2 => ∃ a kvs k, x = .ref a ∧ H2 a = some (.dK kvs) ∧ y = kV k ∧ (valV kvs k).isSome = true ∧ D.nx σ (upd H2 a (.dK (dropK kvs k)))
section
variable {X : Cx} {o i e value : Expr} {pos pos' tpos : Pos} {td ty tv : TE}
end
def tDNewK : TE := fun _ H Q => ∀ p, H p = none → Q (.ref p) (upd H p (.dK []))
def tDNewT : TE := fun _ H Q => ∀ p, H p = none → Q (.ref p) (upd H p (.dT []))
section
variable {X : Cx} {pos : Pos}
end
def tPairs : List (TE × TE) → St → Hp → (List (V × V) → Hp → Prop) → Prop
  | [], _, H, Q => Q [] H
  | (tk, tv) :: r, σ, H, Q => tk σ H fun x H1 => tv σ H1 fun y H2 => tPairs r σ H2 fun ps H3 => Q ((x, y) :: ps) H3
abbrev VV : List (V × V) → List (Value × Value) → Prop := Paired fun p q => RelV p.1 q.1 ∧ RelV p.2 q.2
def PPs (X : Cx) (pos : Pos) (keys : List (Option Expr)) (values : List Expr) (trs : List (TE × TE)) : Prop :=
  ∀ (pins : List (Addr × Obj)) (s : Shared) (σ : St) (H : Hp) (Q : List (V × V) → Hp → Prop), Inv X pins σ H s → tPairs trs σ H Q →
    wpAny (model X.prog X.w) X.A (evalPairs (pairTrees keys values X.env pos)) (fun vs s' => ∃ ps H', Inv X pins σ H' s' ∧ VV ps vs ∧ Q ps H') X.xe s
def mergeK (kvs more : List (Key × V)) : List (Key × V) := more.foldl (fun acc kv => putK acc kv.1 kv.2) kvs
def tDisp (trs : List (TE × TE)) : TE := fun σ H Q => ∀ p, H p = none → tPairs trs σ (upd H p (.dK [])) fun ps H2 => H2 p = some (.dK []) ∧ ∃ kvs : List (Key × V), ps = kvs.map (fun kv => (kV kv.1, kv.2)) ∧ kvs.length ≤ 15 ∧ Q (.ref p) (upd H2 p (.dK (mergeK [] kvs)))
structure M1 (X : Cx) (o : Expr) (m : Str) (apos : Pos) (e : Expr) (cpos : Pos) : Prop where
  base : attributeBase o m X.env (eval o X.env) = eval o X.env
  few : ((backTo cpos (starEach [e] X.env)).all (fun x => !x.1) && (backToKw cpos (keywordEach [] X.env)).all (fun x => x.1.isSome)
    && decide (([e] : List Expr).length + ([] : List Keyword).length + (if ([] : List Keyword).isEmpty then 0 else 1) < 30)) = true
  line : (apos.endLine == cpos.line) = true
  trees : backTo cpos (starEach [e] X.env) = [(false, eval e X.env)]
structure M2 (X : Cx) (o : Expr) (m : Str) (apos : Pos) (e f : Expr) (cpos : Pos) : Prop where
  base : attributeBase o m X.env (eval o X.env) = eval o X.env
  few : ((backTo cpos (starEach [e, f] X.env)).all (fun x => !x.1) && (backToKw cpos (keywordEach [] X.env)).all (fun x => x.1.isSome)
    && decide (([e, f] : List Expr).length + ([] : List Keyword).length + (if ([] : List Keyword).isEmpty then 0 else 1) < 30)) = true
  line : (apos.endLine == cpos.line) = true
  trees : backTo cpos (starEach [e, f] X.env) = [(false, eval e X.env), (false, eval f X.env)]
def IsD (H : Hp) (a : Addr) : Prop := (∃ kvs, Rd H a (.dK kvs)) ∨ ∃ kvs, Rd H a (.dT kvs)
section
variable {X : Cx} {pins : List (Addr × Obj)} {σ : St} {H : Hp} {s : Shared} {a : Addr} {y d : V} {u r : Value} {o : Option V} {A : Around} {E : Value → Shared → Prop}
end
def tDGet1 (td ty : TE) : TE := fun σ H Q => td σ H fun x H1 => ∃ a, x = .ref a ∧ IsD H1 a ∧ ty σ H1 fun y H2 => ∃ o, DGet H2 a y o ∧ Q (o.getD .non) H2
def tDGet2 (td ty tx : TE) : TE := fun σ H Q => td σ H fun x H1 => ∃ a, x = .ref a ∧ IsD H1 a ∧ ty σ H1 fun y H2 => tx σ H2 fun z H3 => ∃ o, DGet H3 a y o ∧ Q (o.getD z) H3
def tDPop1 (td ty : TE) : TE := fun σ H Q => td σ H fun x H1 => ∃ a, x = .ref a ∧ IsD H1 a ∧ ty σ H1 fun y H2 => ∃ kvs k v, H2 a = some (.dK kvs) ∧ y = kV k ∧ valV kvs k = some v ∧ Q v (upd H2 a (.dK (dropK kvs k)))
def tDPop2 (td ty tx : TE) : TE := fun σ H Q => td σ H fun x H1 => ∃ a, x = .ref a ∧ IsD H1 a ∧ ty σ H1 fun y H2 => tx σ H2 fun z H3 => ∃ kvs k, H3 a = some (.dK kvs) ∧ y = kV k ∧
  (∀ v, valV kvs k = some v → Q v (upd H3 a (.dK (dropK kvs k)))) ∧ (valV kvs k = none → Q z H3)
section
variable {X : Cx} {o e f : Expr} {apos cpos : Pos} {td ty tx : TE}
end
section
variable {X : Cx} {pins : List (Addr × Obj)} {σ : St} {H : Hp} {s : Shared} {a : Addr} {kvs : List (Key × V)} {A : Around} {E : Value → Shared → Prop}
end
section
variable {X : Cx} {pins : List (Addr × Obj)} {σ : St} {H : Hp} {s : Shared} {a : Addr} {y : V} {u : Value} {A : Around} {E : Value → Shared → Prop}
end
open PySem PySem.Spec PyProof.Rows
section
variable {X : Cx}
end
section
variable {κ : Type} [DecidableEq κ]
end
open PySem PySem.Spec PySem.Calls PyProof.Rows PyProof.Rows.KTD
def Top (K : PySem.W.Frag) (a : Addr) (D : List (Str × Str)) : Prop := ∀ h : Heap, K.In h → TextTab h a (D.map fun p => (p.1, Dat.flat (.str p.2)))
theorem top_of {K : PySem.W.Frag} {a : Addr} {D : List (Str × Str)} (hl : tabLook (datLooks fun b => K.lookup b) (fun b => K.lookup b) a (D.map fun p => (p.1, Dat.flat (.str p.2))) = true) : Top K a D := fun h X => text_of_look (fun b o e => X b o e) hl
def lk (D : List (Str × Str)) (k : Str) : Option Str := (D.find? fun p => decide (p.1 = k)).map (·.2)
theorem inKeys_lk (k : Str) : ∀ D : List (Str × Str), inKeys k (D.map fun p => (p.1, Dat.flat (.str p.2))) = (lk D k).isSome
  | [] => rfl
  | p :: D => by
    have ih := inKeys_lk k D
    unfold lk at ih ⊢
    rw [List.map_cons, List.find?_cons]
    by_cases c : p.1 = k
    · simp [inKeys, c]
    · have c' : ¬ k = p.1 := fun z => c z.symm
      simp [inKeys, c, c']
      simpa using ih
theorem lk_at {k v : Str} : ∀ {D : List (Str × Str)}, lk D k = some v → ∃ d, datumAt k (D.map fun p => (p.1, Dat.flat (.str p.2))) = some d ∧ d = Dat.flat (.str v)
  | [], h => by simp [lk] at h
  | p :: D, h => by
    unfold lk at h
    rw [List.find?_cons] at h
    by_cases c : p.1 = k
    · simp [c] at h
      subst h
      exact ⟨_, by simp [datumAt, c], rfl⟩
    · have c' : ¬ k = p.1 := fun z => c z.symm
      simp only [c, decide_false] at h
      obtain ⟨d, e1, e2⟩ := lk_at (D := D) h
      exact ⟨d, by simp [datumAt, c', e1], e2⟩
def tTopNotIn (a : Addr) (D : List (Str × Str)) (ty td : TE) : TE := fun σ H Q => ty σ H fun y H1 => td σ H1 fun x H2 => ∃ k, y = .str k ∧ x = .ref a ∧ Q (.bl (!(lk D k).isSome)) H2
def tTopGet (a : Addr) (D : List (Str × Str)) (td ty : TE) : TE := fun σ H Q => td σ H fun x H1 => ty σ H1 fun y H2 => ∃ k v, y = .str k ∧ x = .ref a ∧ lk D k = some v ∧ Q (.str v) H2
section
variable {X : Cx} {o i : Expr} {pos : Pos} {td ty : TE} {a : Addr} {D : List (Str × Str)}
theorem pc_topNotin (T : Top X.K a D) (hi : PE X i ty) (ho : PE X o td) : PC X .NotIn i o (tTopNotIn a D ty td) := by
  intro pins s σ H Q I h
  refine thn (hi pins s σ H _ I h) fun iv s1 ⟨y, H1, I1, ry, q1⟩ => thn (ho pins s1 σ H1 _ I1 q1) fun u s2 ⟨x, H2, I2, rx, k, ey, ex, q2⟩ => ?_
  subst ey ex
  obtain ⟨tk, rfl⟩ := ry
  obtain rfl : u = Value.ref a := rx
  refine notin_text (h₀ := s2.heap) ⟨T s2.heap I2.kIn, fun b o e => e⟩ ?_
  rw [inKeys_lk]
  exact ⟨.bl _, H2, I2.tok _, rfl, q2⟩
theorem top_getItem {A : Around} {E : Value → Shared → Prop} {s : Shared} {pins : List (Addr × Obj)} {σ : St} {H : Hp} {k v : Str} {tk : Tok} {Q : Value → Shared → Prop} (T : Top X.K a D) (I : Inv X pins σ H s) (e : lk D k = some v) (h : ∀ t s', Inv X pins σ H s' → Q (.str v t) s') :
    wpAny (model X.prog X.w) A (getItem (.ref a) (.str k tk)) Q E s := by
  have T' : Here s.heap s.heap a (D.map fun p => (p.1, Dat.flat (.str p.2))) := ⟨T s.heap I.kIn, fun b o e => e⟩
  unfold getItem
  try with_reducible refine wpAny_holding ?_
  refine wpAny_bind (wpAny_sequenceKey T'.typeIs (by decide) ?_)
  refine wpAny_bind (wpAny_callSpecial?_slot (name := Str.ofString "__getitem__") T'.typeIs PySem.F.slot_dict_getitem
    (wpAny_call_entry PySem.F.slot_dict_getitem T'.typeIs PySem.F.entry_dict_getitem ?_ (args_dict_getitem _ _)))
  show wpAny _ _ (dictGet a (.str k tk) >>= _) _ _ s
  obtain ⟨d, hd, ed⟩ := lk_at e
  refine wpAny_bind (dictGet_text T' (fun d' v' ha hv => wpAny_pure ⟨v', rfl, wpAny_pure ?_⟩) fun hn => by rw [hd] at hn; cases hn)
  rw [hd] at ha
  cases ha
  subst ed
  exact Opened.of (P := fun x => Q x _) (opened_str fun t => h t _ (I.tok _)) v' hv
theorem pe_topGet (T : Top X.K a D) (ho : PE X o td) (hi : PE X i ty) (hs : NoSl i) : PE X (.Subscript o i pos) (tTopGet a D td ty) := by
  intro pins s σ H Q I h
  refine subD_of PySem.F.slot_dict_getitem.lookup hs (thn (ho pins s σ H _ I h) fun u s1 ⟨x, H1, I1, rx, q1⟩ => thn (hi pins s1 σ H1 _ I1 q1) fun iv s2 ⟨y, H2, I2, ry, k, v, ey, ex, el, q2⟩ => ?_)
  subst ex ey
  obtain rfl : u = Value.ref a := rx
  obtain ⟨tk, rfl⟩ := ry
  have T' : Here s2.heap s2.heap a (D.map fun p => (p.1, Dat.flat (.str p.2))) := ⟨T s2.heap I2.kIn, fun b o e => e⟩
  exact ⟨T'.typeIs, top_getItem T I2 el fun t s3 I3 => ⟨.str v, H2, I3, ⟨t, rfl⟩, q2⟩⟩
end
open PySem PySem.Spec PyProof.Rows
def rInTS (K : PySem.W.Frag) (no : Bool) : R2 := fun x y H Q => ∃ (z : Str) (q : Addr) (ys : List Str), x = .str z ∧ y = .ref q ∧ SqT K H q (ys.map V.str) ∧ Q (.bl (no != ys.any (· == z))) H
section
variable {X : Cx} {K : PySem.W.Frag}
end
def TopT (K : PySem.W.Frag) (a : Addr) (ys : List Str) : Prop := ∀ H : Hp, SqT K H a (ys.map V.str)
theorem topT_of {K : PySem.W.Frag} {a : Addr} {o : Obj} {its : Array Value} {n : Nat} {ys : List Str} (e : K.lookup a = some o) (c : o.cls = .type "tuple") (d : o.data = .seq its n) (z : its.size ≤ sizeLine) (r : Vals (ys.map V.str) its.toList) : TopT K a ys := fun _ => .inr ⟨o, its, n, e, c, d, z, r⟩
open PySem PySem.Spec PyProof.Rows
structure Isa (K : PySem.W.Frag) (C : Addr) : Prop where
  ha : PySem.W.findIn K (.ref C) "__class__" = some (some (.builtin "object.__class__"))
  hn : PySem.W.specialIn K (.builtin "object.__class__") "__get__" = some (some (.builtin "getset_descriptor.__get__"))
  htk : PySem.W.takesIn K (.builtin "object.__class__") = some true
  hm : PySem.W.mroIn K C (.type "object") = some true
open PySem PySem.Spec PyProof.Rows
structure DfH (K : PySem.W.Frag) (x : Str) (st : Stmt) (f : Addr) (fd : FuncData) : Prop where
  a : PySem.W.nsIn K mainGlobals x = some (some (.ref f))
  F : Fun K x x st f fd
structure MfH (K : PySem.W.Frag) (x q : Str) (st : Stmt) (C f : Addr) (fd : FuncData) : Prop where
  m : PySem.W.findIn K (.ref C) x = some (some (.ref f))
  g : PySem.W.isFn K (.ref f) = true
  F : Fun K x q st f fd
structure ClH (K : PySem.W.Frag) (x : Str) (C : Addr) : Prop where
  n : PySem.W.nsIn K mainGlobals x = some (some (.ref C))
  o1 : PySem.W.plainGet K C Str.empty = true
  o2 : PySem.W.hasDictIn K C = true
  o3 : PySem.W.plainOver K C = true
  o4 : PySem.W.findIn K (.ref C) "__setattr__" = some (some (.builtin "object.__setattr__"))
  o5 : PySem.W.makesIn K C = true
  o8 : PySem.W.keepIn K (.ref C) = true
structure IsH (K : PySem.W.Frag) (C B : Addr) : Prop where
  v1 : PySem.W.findIn K (.ref C) "__class__" = some (some (.builtin "object.__class__"))
  v4 : PySem.W.mroIn K C (.type "object") = some true
structure ExH (K : PySem.W.Frag) (x : Str) (C : Addr) : Prop where
  n : PySem.W.nsIn K mainGlobals x = some (some (.ref C))
  y2 : PySem.W.findIn K (.ref C) "__getattribute__" = some (some (.builtin "BaseException.__getattribute__"))
  y3 : PySem.W.findIn K (.ref C) "__getattr__" = some none
  y4 : PySem.W.findIn K (.ref C) "__class__" = some (some (.builtin "object.__class__"))
  y7 : PySem.W.mroIn K C (.type "object") = some true
  y8 : PySem.W.mroIn K C (.type "BaseException") = some true
  y9 : PySem.W.isClsIn K C = true
  y10 : PySem.W.typeIn K (.ref C) = some (.type "type")
  y11 : PySem.W.mroIn K C (.type "ValueError") = some true
section
variable {K : PySem.W.Frag} {mg : Str → Option Value} {h : Heap}
theorem DfH.df {x : Str} {st : Stmt} {f : Addr} {fd : FuncData} {ps : List Str} (D : DfH K x st f fd) (X : K.In h) (G : h.Ns mainGlobals mg)
    (hb : ∀ kV dc pm an cd ct us, us.length = ps.length → bindArgs (PySem.W.fnOf x x (defArgs st) (defBody st) (defScope st) .none kV dc pm an cd ct) ⟨us, []⟩ = pure (ps.zip us)) : Df K mg x st ps f fd := ⟨D.F, PySem.W.mg_of X G D.a, D.F.binds hb⟩
theorem MfH.meth {x q : Str} {st : Stmt} {C f : Addr} {fd : FuncData} (D : MfH K x q st C f fd) : Meth K C x f := ⟨D.m, D.g, D.F.2⟩
theorem MfH.mf {x q : Str} {st : Stmt} {C f : Addr} {fd : FuncData} {ps : List Str} (D : MfH K x q st C f fd)
    (hb : ∀ kV dc pm an cd ct us, us.length = ps.length → bindArgs (PySem.W.fnOf x q (defArgs st) (defBody st) (defScope st) .none kV dc pm an cd ct) ⟨us, []⟩ = pure (ps.zip us)) : Mf K x q st ps C f fd := ⟨D.F, D.meth, D.F.binds hb⟩
structure DfA (K : PySem.W.Frag) (mg : Str → Option Value) (x y : Str) (st : Stmt) (ps : List Str) (f : Addr) (fd : FuncData) : Prop where
  F : Fun K y y st f fd
  m : mg x = some (.ref f)
  b : Binds K fd ps []
theorem DfA.of {x y : Str} {st : Stmt} {f : Addr} {fd : FuncData} {ps : List Str} (a : PySem.W.nsIn K mainGlobals x = some (some (.ref f))) (F : Fun K y y st f fd) (X : K.In h) (G : h.Ns mainGlobals mg)
    (hb : ∀ kV dc pm an cd ct us, us.length = ps.length → bindArgs (PySem.W.fnOf y y (defArgs st) (defBody st) (defScope st) .none kV dc pm an cd ct) ⟨us, []⟩ = pure (ps.zip us)) : DfA K mg x y st ps f fd := ⟨F, PySem.W.mg_of X G a, F.binds hb⟩
theorem sc9 {N P : List Str} {sc : Scope} (h : sc.kind = .function ∧ sc.isCoroutine = false ∧ sc.isGenerator = false ∧ N.take P.length = P := by exact ⟨rfl, rfl, rfl, rfl⟩)
    (g : N.Nodup ∧ (∀ x ∈ P, sc.names.lookup x = some .local ∨ sc.names.lookup x = some .cell) ∧ ∀ y ∈ sc.names, y.2 ≠ .free := by decide +kernel) : FnScope N P sc := ⟨h.1, h.2.1, h.2.2.1, g.1, h.2.2.2, g.2.1, g.2.2⟩
end
open PySem PySem.Spec PyProof.Rows
structure RoomH (k : Nat) (A : Around) : Prop where
  dp : A.depth + 3 * k + 5 < recursionLimit
  un : A.units + 16 * k + 200 < cLine
theorem Room.hd9 {k : Nat} {A : Around} {v : Option Value} (r : Room (k + 1) A) : RoomH 1 (A.mark v) := ⟨by have := r.dp; show A.depth + 3 * 1 + 5 < _; omega, by have := r.un; show A.units + 16 * 1 + 200 < _; omega⟩
structure FnOkH (P : Program) (w : World) (K : PySem.W.Frag) (mg : Str → Option Value) (base : Heap) (f : Addr) (fd : FuncData) (ps : List Str) (sp : Sp) : Prop where
  len : ∀ vs H Q E, sp vs H Q E → vs.length = ps.length
  run : ∀ (A : Around) (outer : List Env) (s : Shared) (H : Hp) (args : Args) (us : List Value) (vs : List V) (Q : VK) (E : XK), RoomH 1 A → Env0 P w K mg base A outer s H → BindsTo s fd args (ps.zip us) → Vals vs us → sp vs H Q E →
    codeAny (model P w) A (.call (.ref f) args) (CR CX0 outer P w H s Q E) s
abbrev Cx.stir (X : Cx) : Cx := { X with calm := false }
theorem inv_startH {CX : CXT} {P : Program} {w : World} {K : PySem.W.Frag} {mg : Str → Option Value} {base : Heap} {N ps : List Str} {qual : Str} {scope : Scope} {f : Addr} {cd : Value} {A : Around} {outer : List Env} {s s1 : Shared} {H : Hp} {E : XK} {us : List Value} {vs : List V}
    (S : FnScope N ps scope) (e0 : Env0 P w K mg base A outer s H) (hl : vs.length = ps.length) (r : Vals vs us)
    (x : InCallC s s.heap.objs.size (bindL (envOfC qual scope s.heap.objs.size f cd).kindOf (ps.zip us) fun _ => none) (cellsFrom (s.heap.objs.size + 1) scope.names []) (bindC (envOfC qual scope s.heap.objs.size f cd).kindOf (ps.zip us) fun _ => none) s1) :
    Inv (cxOf CX P w K mg base N qual scope f cd A outer s H E).stir [] (start N vs) H s1 := by
  have I := inv_start (CX := CX) (A := { A with handled := none }) (E := E) S rfl (⟨e0.frames, e0.mod, e0.bs, e0.bsz, e0.funs, e0.frf, e0.hok, e0.bare⟩ : Env0 P w K mg base { A with handled := none } outer s H) hl r x
  exact ⟨⟨I.ok.mod, I.ok.kind, I.ok.glob, I.ok.blt, I.ok.above, I.ok.inj, I.ok.has, I.ok.cab, (fun z => nomatch z), Around.frames_deeper e0.frames, I.ok.stk, I.ok.exf, I.ok.bs, I.ok.bsz, I.ok.noex, I.ok.exfs, I.ok.funs, I.ok.frf⟩, I.os, I.bare, I.base, I.loc, I.cell, I.free, I.freeC, I.pin, I.hok, I.len⟩
section
variable {P : Program} {w : World} {K : PySem.W.Frag} {mg : Str → Option Value} {base : Heap}
theorem Fun.okH {x qual : Str} {st : Stmt} {f : Addr} {fd : FuncData} {N ps : List Str} {sp : Sp} (F : Fun K x qual st f fd) (S : FnScope N ps (defScope st)) (len : ∀ vs H Q E, sp vs H Q E → vs.length = ps.length)
    (hbody : ∀ (cdv : Value) (A : Around) (outer : List Env) (s : Shared) (H : Hp) (vs : List V) (Q : VK) (E : XK), sp vs H Q E →
      ∃ t, PSs (cxOf CX0 P w K mg base N qual (defScope st) f cdv A outer s H E).stir (defBody st) t ∧ t { nx := fun _ H' => Q .non H', rt := Q } (start N vs) H) : FnOkH P w K mg base f fd ps sp := by
  obtain ⟨oc, od, kV, doc, pm, an, cdv, ct, osl, rfl, lk, hcd⟩ := F.ex
  refine ⟨len, fun A outer s H args us vs Q E hr e0 hb r hsp => ?_⟩
  have hl := len _ _ _ _ hsp
  have KX : K.In s.heap := e0.mod.kin.keeps fun b o e => (e0.bs b o e).1
  have lim : s.heap.NoLimit := e0.mod.nolimit.keeps fun b o e => (e0.bs b o e).1
  have hkind : ∀ y ∈ ps.zip us, (defScope st).names.lookup y.1 = some .local ∨ ((defScope st).names.lookup y.1 = some .cell ∧ ((cellsFrom (s.heap.objs.size + 1) (defScope st).names []).lookup y.1).isSome = true) := fun ⟨n, v⟩ hy => by
    rcases S.par n (List.of_mem_zip hy).1 with q | q
    · exact .inl q
    · exact .inr ⟨q, PySem.W.cellsFrom_some _ _ _ (.inl q)⟩
  refine codeAny_call_function (by have := hr.dp; omega) (KX _ _ lk) rfl S.co S.gen rfl (PySem.W.codeRec_of KX hcd) (hb _ _ _ _ ?_)
  refine wpAny_newFunctionEnv_cells S.kind hkind fun env he s1 x => ?_
  subst he
  refine ⟨lim.keeps x.toInCall.keep, codeAny_func ?_⟩
  obtain ⟨t, ht, hq⟩ := hbody cdv A outer s H vs Q E hsp
  have I : Inv (cxOf CX0 P w K mg base N qual (defScope st) f cdv A outer s H E).stir [] (start N vs) H s1 := inv_startH S e0 hl r x
  refine wpAny_mono (ht [] s1 (start N vs) H _ I hq) (fun fl s' hs => ?_) fun e s' hs => hs
  have fin : ∀ {σ' : St} {H' : Hp} {v : V} {u : Value}, Inv (cxOf CX0 P w K mg base N qual (defScope st) f cdv A outer s H E).stir [] σ' H' s' → RelV v u → Q v H' → CE outer P w H s Q u s' :=
    fun {σ' H' v u} J rv q => ⟨v, H', J.os, J.bare, J.base, J.hok, rv, q⟩
  cases fl with
  | ret u =>
    obtain ⟨v, σ', H', J, rv, q⟩ := hs
    exact fin J rv q
  | next =>
    obtain ⟨σ', H', J, q⟩ := hs
    exact fin (v := V.non) (u := Value.none) J rfl q
  | brk =>
    obtain ⟨_, _, _, q⟩ := hs
    exact False.elim q
  | cont =>
    obtain ⟨_, _, _, q⟩ := hs
    exact False.elim q
end
section
variable {X : Cx} {C f : Addr} {fd : FuncData} {ps : List Str} {sp : Sp} {m : Str} {pos apos : Pos} {o : Expr} {ta : TE}
theorem pe_methEH {pl : Sem Bool} (he : PE X o ta) (c : ExC X.K C) (hm : Meth X.K C m f) (F : FnOkH X.prog X.w X.K X.mg X.base f fd ps sp) (hr : RoomH 1 X.A) (hb : Binds X.K fd ps [])
    (ht : eval (.Call (.Attribute o m apos) [] [] pos) X.env = (do
      let ov ← eval o X.env
      standAt apos.atName
      let (f, first) ← holding [ov] (getMethod ov m pl)
      callWith pos f first (backTo pos (starEach [] X.env)) (backToKw pos (keywordEach [] X.env))) := by rfl) :
    PE X (.Call (.Attribute o m apos) [] [] pos) (tMethE C sp E0 ta) := by
  intro pins s σ H Q I h
  refine PySem.W.methodCall_KW (pl := pl) (thn (he pins s σ H _ I h) fun u s1 ⟨x, H1, I1, rx, a, ex, ea, q⟩ => ?_) ht
  subst ex
  obtain rfl : u = Value.ref a := rx
  obtain ⟨t, tb, e1⟩ := ex_at I1 ea
  refine ex_meth I1.kIn e1 c hm.at_ hm.fn ?_
  refine PySem.W.callWith_K0 (first := [.ref a]) I1.kIn hm.kp ?_
  have hl : ([Value.ref a] ++ []).length = ps.length := F.len _ _ _ _ q
  refine wpAny_call (codeAny_mono (F.run X.A X.stack s1 H1 ⟨[.ref a], []⟩ [.ref a] [.ref a] Q E0 hr I1.env0 (hb s1 [.ref a] I1.kIn hl) (.cons rfl .nil) q) fun r s' hq => ?_)
  cases r with
  | error e => exact False.elim hq
  | ok fl =>
    cases fl with
    | ret u => exact I1.after hq
    | next => exact False.elim hq
    | brk => exact False.elim hq
    | cont => exact False.elim hq
end
open PySem PySem.Spec PyProof.Rows
abbrev dictO : Obj := { cls := .type "dict", data := .dict #[] }
abbrev cellO : Obj := { cls := .type "cell", data := .cell none }
def cxCompN (X : Cx) (x : Str) (Nc : List Str) (scope : Scope) (cs : List (Str × Addr)) (C : Addr) (fp : List Addr) (s : Shared) (H : Hp) : Cx where
  prog := X.prog
  w := X.w
  K := X.K
  mg := X.mg
  base := X.base
  A := X.A
  N := Nc
  s₀ := s
  H₀ := H
  env := compEnvC scope cs C X.env
  outer := X.stack
  stack := X.stack
  ex := fp
  fn := fun y => y == x
  calm := X.calm
  pn := []
  xe := fun _ _ => False
structure CompOkN (X : Cx) (x : Str) (Nc : List Str) (caps : List Nat) (scope : Scope) : Prop where
  kind : scope.kind = .function
  one : scope.names.filter (fun y => y.2 == .cell) = [(x, .cell)]
  names : ∀ y ∈ scope.names, y.2 = .local → scope.names.lookup y.1 = some .local
  fr : ∀ y ∈ scope.names, y.2 = .free → X.env.scope.names.lookup y.1 = some .cell ∧ scope.names.lookup y.1 = some .free
  loc : scope.names.lookup x = some .cell
  len : Nc.length = caps.length + 1
  hd : Nc[0]? = some x
  nd : Nc.Nodup
  cap : ∀ k j, caps[k]? = some j → ∃ y, Nc[k + 1]? = some y ∧ X.N[j]? = some y ∧ scope.names.lookup y = some .free
section
variable {X : Cx} {pins : List (Addr × Obj)} {σ : St} {H : Hp} {s : Shared}
def relS (scope sc : Scope) : Scope := { scope with names := scope.names.map fun (n, k) => if (k == .free && sc.kind == .function && sc.names.lookup n == some .cell) then (n, .cell) else (n, k) }
end
open PySem PySem.Spec PyProof.Rows
section
variable {X : Cx} {tg : Expr}
def iRng2L (ta : TA) : TI := fun σ H R => ta σ H fun vs H1 => ∃ i j : Int, vs = [.int i, .int j] ∧ R (Itr i (j - i).toNat) H1
end
section
variable {X : Cx}
theorem bits250 {k : Int} (h : k.natAbs < 2 ^ 250) : Builtin.Int.intBits k ≤ 2 ^ 20 := by
  unfold Builtin.Int.intBits
  split
  · exact Nat.zero_le _
  · have : k.natAbs.log2 < 250 := by
      rcases Nat.eq_zero_or_pos k.natAbs with h0 | hp
      · rw [h0]; decide
      · exact (Nat.log2_lt (Nat.ne_of_gt hp)).mpr h
    have e : (2 : Nat) ^ 20 = 1048576 := by decide
    omega
theorem op_mulW : OpR X (binaryOp .Mult) (rI (fun i j => i.natAbs < 2 ^ 250 ∧ j.natAbs < 2 ^ 250) fun i j => .int (i * j)) := opI fun _ _ _ _ _ _ _ hc q => mul_int q (IntMulOk.of_bits (bits250 hc.1) (bits250 hc.2))
theorem rep_fold (l : List Nat) : ∀ (k : Nat) (acc : List Nat), List.foldl (fun x1 x2 => x1 ++ x2) acc.toArray (List.replicate k l.toArray) = (acc ++ (List.replicate k l).flatten).toArray
  | 0, acc => by simp
  | k + 1, acc => by
    have e : acc.toArray ++ l.toArray = (acc ++ l).toArray := by simp
    have e2 : (acc ++ l) ++ (List.replicate k l).flatten = acc ++ (List.replicate (k + 1) l).flatten := by
      rw [List.replicate_succ, List.flatten_cons, List.append_assoc]
    rw [← e2, ← rep_fold l k (acc ++ l), ← e, List.replicate_succ, List.foldl_cons]
def rRepS : R2 := fun x y H Q => ∃ u n, x = .str (tx u) ∧ y = .int n ∧ 0 ≤ n ∧ n ≤ 1000000 ∧ u.length * n.toNat ≤ sizeLine ∧ Q (.str (tx (List.replicate n.toNat u).flatten)) H
theorem op_repS : OpR X (binaryOp .Mult) rRepS := by
  intro pins s σ H x y v z Q I rx ry h
  obtain ⟨u, n, rfl, rfl, h0, h1, h2, q⟩ := h
  obtain ⟨t, rfl⟩ := rx
  obtain ⟨t', rfl⟩ := ry
  have hsz : sizeLine = 16777216 := sizeLine_eq
  have hlen : (tx u).length = u.length := tx_len u
  refine P.mul_str ?_ (fun c1 c2 => ?_) (fun c1 c2 => ?_) ?_
  · rw [decide_eq_false (by omega), decide_eq_false (by omega)]
    rfl
  · rw [hlen]
    have hn : 0 < n := by omega
    have hm : (u.length : Int) * n ≤ 16777216 := by
      have e : n = (n.toNat : Int) := by omega
      rw [e, ← Int.natCast_mul]
      omega
    have : (u.length : Int) ≤ (2 ^ 63 - 1) / n := (Int.le_ediv_iff_mul_le hn).mpr (by omega)
    omega
  · rw [hlen]
    exact decide_eq_false (by omega)
  · split
    · next c =>
      have e : n = 0 := by omega
      rw [e] at q
      exact ⟨by decide, .str (tx []), H, I.tok _, ⟨_, rfl⟩, q⟩
    · split
      · next c =>
        have e : tx (List.replicate n.toNat u).flatten = tx u := by
          simp only [Bool.or_eq_true, beq_iff_eq] at c
          rcases c with c | c
          · rw [c]; simp
          · rw [hlen] at c
            rw [List.eq_nil_of_length_eq_zero c]
            simp
        rw [e] at q
        exact ⟨.str (tx u), H, I, ⟨_, rfl⟩, q⟩
      · have hf : (⟨(List.replicate n.toNat (tx u).cps).foldl (· ++ ·) #[]⟩ : Str) = tx (List.replicate n.toNat u).flatten := by
          have := rep_fold u n.toNat []
          simp only [List.nil_append] at this
          exact congrArg Str.mk this
        rw [hf]
        refine ⟨?_, .str (tx (List.replicate n.toNat u).flatten), H, I.tok _, ⟨_, rfl⟩, q⟩
        rw [tx_len, len_rep, Nat.mul_comm]
        exact h2
theorem occ_run (x : Str) (c limit : Nat) : ∀ (k i : Nat) (acc : Array Nat) (free : Nat), free ≤ i → acc.size + k ≤ limit →
    (forIn (List.range' i k) (acc, free) (StrLaws.occBody x ⟨#[c]⟩ x.length limit)).run.fst.size = acc.size + ((x.cps.toList.drop i).take k).count c
  | 0, i, acc, free, _, _ => by simp
  | k + 1, i, acc, free, hf, hl => by
    rw [List.range'_succ, List.forIn_cons]
    by_cases hc : x.cps.toList[i]? = some c
    · have h1 := (StrLaws.subAt_one x c i).mpr hc
      have e : StrLaws.occBody x ⟨#[c]⟩ x.length limit i (acc, free) = pure (ForInStep.yield (acc.push i, i + (⟨#[c]⟩ : Str).length)) := by
        unfold StrLaws.occBody
        rw [if_pos ⟨⟨⟨by show acc.size < limit; omega, hf⟩, h1.1⟩, h1.2⟩]
      rw [e]
      have ih := occ_run x c limit k (i + 1) (acc.push i) (i + (⟨#[c]⟩ : Str).length) (Nat.le_refl _) (by rw [Array.size_push]; omega)
      have hd : x.cps.toList.drop i = c :: x.cps.toList.drop (i + 1) := by
        obtain ⟨hlt, he⟩ := List.getElem?_eq_some_iff.mp hc
        rw [List.drop_eq_getElem_cons hlt, he]
      rw [hd, List.take_succ_cons, List.count_cons_self]
      rw [Array.size_push] at ih
      refine Eq.trans ih ?_
      omega
    · have h1 : ¬ (i + (⟨#[c]⟩ : Str).length ≤ x.length ∧ Builtin.Str.subAt x ⟨#[c]⟩ i = true) := fun z => hc ((StrLaws.subAt_one x c i).mp z)
      have e : StrLaws.occBody x ⟨#[c]⟩ x.length limit i (acc, free) = pure (ForInStep.yield (acc, free)) := by
        unfold StrLaws.occBody
        rw [if_neg fun z => h1 ⟨z.1.2, z.2⟩]
      rw [e]
      have ih := occ_run x c limit k (i + 1) acc free (by omega) (by omega)
      refine Eq.trans ih ?_
      congr 1
      by_cases hlt : i < x.cps.toList.length
      · rw [List.drop_eq_getElem_cons hlt, List.take_succ_cons, List.count_cons_of_ne]
        intro z
        exact hc (by rw [List.getElem?_eq_getElem hlt]; exact congrArg some z)
      · rw [List.drop_eq_nil_of_le (by omega), List.drop_eq_nil_of_le (by omega)]
        simp
theorem count_one (l : List Nat) (c : Nat) : (Builtin.Str.occurrences (tx l) ⟨#[c]⟩ 0 (tx l).length ((tx l).length + 1)).length = l.count c := by
  rw [StrLaws.occ_eq]
  have := occ_run (tx l) c ((tx l).length + 1) ((tx l).length + 1 - 0) 0 #[] 0 (Nat.le_refl _) (by simp)
  rw [Array.length_toList, this, tx_list, tx_len]
  simp [List.take_of_length_le]
def rCount : V → List V → Hp → VK → Prop := fun x vs H Q => ∃ u c, x = .str (tx u) ∧ vs = [.str ⟨#[c]⟩] ∧ Q (.int (u.count c : Nat)) H
end
open PySem PySem.Spec PyProof.Rows
section
variable {X : Cx} {K : PySem.W.Frag}
def rIsXT (K : PySem.W.Frag) : List V → Hp → VK → Prop := fun vs H Q => ∃ (a C p : Addr) (Ds : List Addr) (b : Bool), vs = [.ref a, .ref p] ∧ H a = some (exH C a) ∧ ExC K C ∧ H p = some (.tup (Ds.map V.ref)) ∧ PySem.W.kitAny K (.ref C) (Ds.map Value.ref) = some b ∧ Q (.bl b) H
end
open PySem PySem.Spec PyProof.Rows
theorem Inv.turnedL {X : Cx} {pins : List (Addr × Obj)} {σ : St} {H : Hp} {s : Shared} {h' : Heap} {t' : Nat} {its : List Addr} (I : Inv X pins σ H s)
    (k : ∀ b o, b ∉ its → s.heap.get? b = some o → h'.get? b = some o) (hf : ∀ b ∈ its, FpOk X pins H b) : Inv X pins σ H { s with heap := h', toks := t' } := by
  have nit : ∀ b u, H b = some u → b ∉ its := fun b u e z => by
    have := (hf b z).1
    rw [this] at e
    cases e
  have nL : X.env.locals ∉ its := fun z => (hf _ z).2.1 rfl
  refine I.step (g' := s.gens) (d' := s.drawn) (ch := its) (fun b hb => ?_) (fun b o _ _ hc e _ => k b o hc e) (fun b o _ _ hc e _ => ⟨o.slots, k b o hc e⟩) (fun _ _ _ _ n => n)
    (fun b o hc e => ⟨o, k b o hc e⟩) (fun _ _ e => e) (fun _ _ _ e => e) (fun b ps e => ⟨#[], by rw [e]; simp⟩) (fun m hm => ?_) (fun b u e => ?_) I.bare
  · obtain ⟨_, h2, _, h4, h5, h6⟩ := hf b hb
    exact ⟨h4, h2, h5, h6⟩
  · obtain ⟨o, es, ep, ho, r⟩ := hm
    exact ⟨o, es, ep, k _ o nL ho, r⟩
  · refine (I.hok b u e).stay (fun c v hc q => k c v ?_ q) (fun _ q => q) fun _ _ q => q
    rcases hc with z | z
    · rw [z]; exact nit b u e
    · exact nit c _ z
def Itz (K : PySem.W.Frag) (a b : Addr) : It where
  go := fun i H => ∃ xs ys x y, SqL K H a xs ∧ SqL K H b ys ∧ xs[i]? = some x ∧ ys[i]? = some y
  yld := fun i H x H' => ∃ T, x = .ref T ∧ H T = none ∧ ∀ xs ys u v, SqL K H a xs → SqL K H b ys → xs[i]? = some u → ys[i]? = some v → H' = upd H T (.tup [u, v])
  stop := fun i H => ∃ xs ys, SqL K H a xs ∧ SqL K H b ys ∧ (xs.length ≤ i ∨ ys.length ≤ i)
def ZipSt (z TI TO i1 i2 a b : Addr) (i : Nat) (h : Heap) : Prop := IsZip h z TI TO .none ∧ IsPair h TI (.ref i1) (.ref i2) ∧ (∃ p q, IsPair h TO p q) ∧ h.IsListIter i1 a i ∧ h.IsListIter i2 b i
section
variable {X : Cx} {es : List Expr} {kx : Nat} {tp : Pos}
def iZip (K : PySem.W.Frag) (ta : TA) : TI := fun σ H R => ta σ H fun vs H1 => ∃ a b, vs = [.ref a, .ref b] ∧ (∃ xs, SqL K H1 a xs) ∧ (∃ ys, SqL K H1 b ys) ∧ R (Itz K a b) H1
end
open PySem PySem.Spec PyProof.Rows
theorem passF {P : Program} {w : World} {X : Cx} : Passes (CX1 P w) X (fun _ _ _ => False) := fun _ _ _ _ _ _ _ c => by
  obtain ⟨_, _, _, _, _, _, _, _, _, _, q⟩ := c
  exact q.elim
section
variable {X : Cx} {K : PySem.W.Frag}
def rNeL (K : PySem.W.Frag) : R2 := fun x y H Q => ∃ p q xs ys, x = .ref p ∧ y = .ref q ∧ SqL K H p xs ∧ SqL K H q ys ∧ xs.all flatV = true ∧ ys.all flatV = true ∧ Q (.bl (!eqL xs ys)) H
end
open PySem PySem.Spec PyProof.Rows
theorem Room.units100 {k : Nat} {A : Around} (r : Room k A) : A.units + 100 < cLine := by have := r.un; omega
def SamL (K : PySem.W.Frag) (H : Hp) (p q : Addr) : Prop := ∃ as bs : List Addr, SqL K H p (as.map V.ref) ∧ SqL K H q (bs.map V.ref) ∧ as.length = bs.length ∧
  ∀ (i : Nat) (a b : Addr), as[i]? = some a → bs[i]? = some b → ∃ xs : List V, xs.all flatV = true ∧ SqL K H a xs ∧ SqL K H b xs
section
variable {X : Cx} {K : PySem.W.Frag}
def rNeLL (K : PySem.W.Frag) : R2 := fun x y H Q => ∃ p q, x = .ref p ∧ y = .ref q ∧ SamL K H p q ∧ Q (.bl false) H
def rEqLL (K : PySem.W.Frag) : R2 := fun x y H Q => ∃ p q, x = .ref p ∧ y = .ref q ∧ SamL K H p q ∧ Q (.bl true) H
end
open PySem PySem.Spec PyProof.Rows
def rInT (K : PySem.W.Frag) : R2 := fun x y H Q => ∃ (p q : Addr) (as : List Addr) (ks : List Int), x = .ref p ∧ y = .ref q ∧ SqL K H q (as.map V.ref) ∧ SqT K H p (vI ks) ∧
  (∀ a ∈ as, ∃ js : List Int, SqT K H a (vI js)) ∧ (∃ a ∈ as, SqT K H a (vI ks)) ∧ Q (.bl true) H
section
variable {X : Cx} {K : PySem.W.Frag}
end
open PySem PySem.Spec PyProof.Rows
section
variable {prog : Program} {w : World} {A : Around} {E : Value → Shared → Prop} {s : Shared}
theorem drawsStr (hh : A.handled = none) (it : Addr) (x : Str) (t : Tok) : Draws prog w A it [it] x.cps.size (fun i v => ∃ c u, x.cps[i]? = some c ∧ v = .str ⟨#[c]⟩ u) (fun i h => h.IsStrIter it (strIterType x) x t i) := by
  unfold strIterType
  split
  · exact Draws.strAscii hh it x t
  · exact Draws.strWide hh it x t
structure Apart2 (z TI TO i1 i2 : Addr) : Prop where
  TIz : TI ≠ z
  TOz : TO ≠ z
  i1z : i1 ≠ z
  i2z : i2 ≠ z
  TITO : TI ≠ TO
  TIi1 : TI ≠ i1
  TIi2 : TI ≠ i2
  TOi1 : TO ≠ i1
  TOi2 : TO ≠ i2
  i12 : i1 ≠ i2
abbrev strIt (x : Str) (t : Tok) : Obj := { cls := .type (strIterType x), data := .fields #[.str x t, .int 0 0] }
abbrev lstIt (l : Addr) : Obj := { cls := .type "list_iterator", data := .fields #[.ref l, .int 0 0] }
abbrev zHeap (h : Heap) (o1 o2 : Obj) : Heap := ((((h.push o1).push o2).push { cls := .type "tuple", data := .seq #[.ref h.objs.size, .ref (h.push o1).objs.size] }).push { cls := .type "tuple", data := .seq #[.none, .none] }).push
  { cls := .type "zip", data := .fields #[.none, .bool false, .bool false, .ref ((h.push o1).push o2).objs.size, .ref (((h.push o1).push o2).push { cls := .type "tuple", data := .seq #[.ref h.objs.size, .ref (h.push o1).objs.size] }).objs.size] }
abbrev zAddr (h : Heap) (o1 o2 : Obj) : Addr := ((((h.push o1).push o2).push { cls := .type "tuple", data := .seq #[.ref h.objs.size, .ref (h.push o1).objs.size] }).push { cls := .type "tuple", data := .seq #[.none, .none] }).objs.size
end
open PySem PySem.Spec PyProof.Rows
inductive Src where
  | l (a : Addr)
  | s (z : Str)
def srcV : Src → V
  | .l a => .ref a
  | .s z => .str z
def srcOk (K : PySem.W.Frag) (H : Hp) : Src → Prop
  | .l a => ∃ xs, SqL K H a xs
  | .s _ => True
def srcAt (K : PySem.W.Frag) (H : Hp) : Src → Nat → V → Prop
  | .l a, i, v => ∃ xs, SqL K H a xs ∧ xs[i]? = some v
  | .s z, i, v => ∃ c, z.cps[i]? = some c ∧ v = .str ⟨#[c]⟩
def srcEnd (K : PySem.W.Frag) (H : Hp) : Src → Nat → Prop
  | .l a, i => ∃ xs, SqL K H a xs ∧ xs.length = i
  | .s z, i => z.cps.size = i
def srcSt (it : Addr) (t : Tok) : Src → Nat → Heap → Prop
  | .l a, i, h => h.IsListIter it a i
  | .s z, i, h => h.IsStrIter it (strIterType z) z t i
def srcFp (it : Addr) : Src → List Addr
  | .l a => [it, a]
  | .s _ => [it]
def srcIt (t : Tok) : Src → Obj
  | .l a => lstIt a
  | .s z => strIt z t
def Itz2 (K : PySem.W.Frag) (S1 S2 : Src) : It where
  go := fun i H => (∃ u, srcAt K H S1 i u) ∧ ∃ v, srcAt K H S2 i v
  yld := fun i H x H' => ∃ T, x = .ref T ∧ H T = none ∧ ∀ u v, srcAt K H S1 i u → srcAt K H S2 i v → H' = upd H T (.tup [u, v])
  stop := fun i H => srcOk K H S1 ∧ srcOk K H S2 ∧ (srcEnd K H S1 i ∨ ((∃ u, srcAt K H S1 i u) ∧ srcEnd K H S2 i))
def Zip2St (z TI TO i1 i2 : Addr) (t1 t2 : Tok) (S1 S2 : Src) (i : Nat) (h : Heap) : Prop := IsZip h z TI TO .none ∧ IsPair h TI (.ref i1) (.ref i2) ∧ (∃ p q, IsPair h TO p q) ∧ srcSt i1 t1 S1 i h ∧ srcSt i2 t2 S2 i h
theorem lne {a n : Nat} (h : a < n) (k : Nat) : @Ne Addr a (n + k) := fun z => by have z : a = n + k := z; omega
section
variable {X : Cx} {es : List Expr} {kx : Nat} {tp : Pos}
def zOk : Src → Src → Prop
  | .s _, .l _ => False
  | _, _ => True
def iZip2 (K : PySem.W.Frag) (ta : TA) : TI := fun σ H R => ta σ H fun vs H1 => ∃ S1 S2, vs = [srcV S1, srcV S2] ∧ zOk S1 S2 ∧ srcOk K H1 S1 ∧ srcOk K H1 S2 ∧ R (Itz2 K S1 S2) H1
end
open PySem PySem.Spec PyProof.Rows
structure CompOk2 (X : Cx) (x x' : Str) (Nc : List Str) (caps : List Nat) (scope : Scope) : Prop where
  kind : scope.kind = .function
  cell : ∀ y ∈ scope.names, y.2 ≠ .cell
  names : ∀ y ∈ scope.names, y.2 = .local → scope.names.lookup y.1 = some .local
  fr : ∀ y ∈ scope.names, y.2 = .free → X.env.scope.names.lookup y.1 = some .cell ∧ scope.names.lookup y.1 = some .free
  loc : scope.names.lookup x = some .local
  loc2 : scope.names.lookup x' = some .local
  len : Nc.length = caps.length + 2
  hd : Nc[0]? = some x
  hd2 : Nc[1]? = some x'
  nd : Nc.Nodup
  cap : ∀ k j, caps[k]? = some j → ∃ y, Nc[k + 2]? = some y ∧ X.N[j]? = some y ∧ scope.names.lookup y = some .free
def tCompW2 (K : PySem.W.Frag) (caps : List Nat) (tc : TT) (te : TE) (J : It) (σ : St) (H : Hp) (Q : VK) : Prop :=
  ∃ W : Nat → Nat → List V → Hp → Prop, (∃ m, W 0 m [] H) ∧ ∀ i m ys H, W i m ys H →
    (J.stop i H ∧ ys.length ≤ sizeLine ∧ ∀ p, H p = none → Q (.ref p) (upd H p (.lst ys))) ∨
    (J.go i H ∧ ys.length < sizeLine ∧ ∀ x H', J.yld i H x H' → ∃ a u v, x = .ref a ∧ SqT K H' a [u, v] ∧ tc (some u :: some v :: capV σ caps) H' fun b H2 =>
      if b = true then te (some u :: some v :: capV σ caps) H2 fun y H3 => ∃ m', m' < m ∧ W (i + 1) m' (ys ++ [y]) H3 else ∃ m', m' < m ∧ W (i + 1) m' ys H2)
def tComp2 (K : PySem.W.Frag) (wi : TI) (caps : List Nat) (tc : TT) (te : TE) : TE := fun σ H Q => wi σ H fun J H1 => tCompW2 K caps tc te J σ H1 Q
section
variable {X : Cx} {pins : List (Addr × Obj)} {σ : St} {H : Hp} {s : Shared}
end
open PySem PySem.Spec PyProof.Rows
section
variable {X : Cx}
def rCountL (K : PySem.W.Frag) : V → List V → Hp → VK → Prop := fun x vs H Q => ∃ a ns k, x = .ref a ∧ vs = [.int k] ∧ SqL K H a (vI ns) ∧ Q (.int (ns.count k : Nat)) H
end
def Ite (K : PySem.W.Frag) (a : Addr) : It where
  go := fun i H => ∃ xs x, SqL K H a xs ∧ xs[i]? = some x
  yld := fun i H x H' => ∃ T, x = .ref T ∧ H T = none ∧ ∀ xs u, SqL K H a xs → xs[i]? = some u → H' = upd H T (.tup [.int (i : Int), u])
  stop := fun i H => ∃ xs, SqL K H a xs ∧ xs.length = i
def EnSt (e it a : Addr) (i : Nat) (h : Heap) : Prop := (∃ old, IsEnum h e it i old) ∧ h.IsListIter it a i
section
variable {X : Cx} {es : List Expr} {kx : Nat} {tp : Pos}
def iEnum (K : PySem.W.Frag) (ta : TA) : TI := fun σ H R => ta σ H fun vs H1 => ∃ a, vs = [.ref a] ∧ (∃ xs, SqL K H1 a xs) ∧ R (Ite K a) H1
end
open PySem PySem.Spec PyProof.Rows
def IteT (u : List Nat) : It where
  go := fun i _ => i < u.length
  yld := fun i H x H' => ∃ T c, x = .ref T ∧ H T = none ∧ u[i]? = some c ∧ H' = upd H T (.tup [.int (i : Int), .str (tx [c])])
  stop := fun i _ => u.length = i
def EnStT (e it : Addr) (u : List Nat) (t : Tok) (i : Nat) (h : Heap) : Prop := (∃ old, IsEnum h e it i old) ∧ h.IsStrIter it (strIterType (tx u)) (tx u) t i
theorem turn_enumT {P : Program} {w : World} {K : PySem.W.Frag} {es : List Expr} {kx : Nat} {tp : Pos} {e it : Addr} {u : List Nat} {t : Tok} (hei : e ≠ it) :
    Turn P w K (.Tuple es kx tp) (IteT u) [e, it] e (EnStT e it u t) where
  mem := by simp
  obj := fun i h st c hc => by
    obtain ⟨⟨old, s1⟩, s2⟩ := st
    simp only [List.mem_cons, List.not_mem_nil, or_false] at hc
    rcases hc with z | z
    · subst z; exact ⟨_, s1, fun v z => by cases (show Data.fields _ = Data.cell v from z)⟩
    · subst z; obtain ⟨o, e, _, d⟩ := s2; exact ⟨o, e, fun v z => by rw [d] at z; cases z⟩
  keep := fun i h h' st k => by
    obtain ⟨⟨old, s1⟩, o, e1, c, d⟩ := st
    exact ⟨⟨old, k _ (by simp) _ s1⟩, o, k _ (by simp) _ e1, c, d⟩
  item := by
    intro X hP hw hK hc i pins s σ H E I hf st hg
    subst hP hw hK
    have hg : i < u.length := hg
    obtain ⟨⟨old, s1⟩, s4⟩ := st
    have hh : X.A.in1.handled = none := I.ok.hd hc
    have hn : i < (tx u).cps.size := by rw [← Array.length_toList, tx_list]; exact hg
    refine wpAny_pyNext_enum_itemD (drawsStr hh it (tx u) t) s1 s4 hn hei (fun z => ?_) fun u' h1 tk hu' ho hst hT hsz kk => ?_
    · simp only [List.mem_cons, List.not_mem_nil, or_false] at z
      exact hei z
    obtain ⟨c, tk', hcu, rfl⟩ := hu'
    have hcu : u[i]? = some c := by rw [← Array.getElem?_toList, tx_list] at hcu; exact hcu
    refine ⟨_, rfl, wpAny_letOwnedTupleGo_enum ho fun h2 he2 sb => ?_⟩
    have sb : Heap.SameBut e h1 h2 := sb
    have el : e < s.heap.objs.size := Heap.lt_size s1
    have il : it < s.heap.objs.size := by obtain ⟨_, e, _⟩ := s4; exact Heap.lt_size e
    have up : ∀ c o, c ≠ e → h1.get? c = some o → h2.get? c = some o := fun c o c1 z => (sb.2 c c1).trans z
    have hTn : H s.heap.objs.size = none := I.hok.fresh (Nat.le_refl _)
    have I1 : Inv X pins σ (upd H s.heap.objs.size (.tup [.int (i : Int), .str (tx [c])])) { s with heap := s.heap.push { cls := .type "tuple", data := .seq #[.int i tk, .str ⟨#[c]⟩ tk'] }, toks := tk + 1 } :=
      I.laid (fun c o e => Heap.get?_push_of_some _ e) (Nat.le_refl _) ⟨by show 2 ≤ sizeLine; decide, [.int i tk, .str ⟨#[c]⟩ tk'], .cons ⟨tk, rfl⟩ (.cons ⟨tk', rfl⟩ .nil), ⟨_, Heap.get?_push_size _ rfl, rfl, _, rfl⟩⟩
    have fp2 : ∀ c' ∈ [e, it], FpOk X pins (upd H s.heap.objs.size (.tup [.int (i : Int), .str (tx [c])])) c' := fun c' hc => by
      obtain ⟨f0, f⟩ := hf c' hc
      refine ⟨?_, f⟩
      have lt : c' < s.heap.objs.size := by
        simp only [List.mem_cons, List.not_mem_nil, or_false] at hc
        rcases hc with e | e <;> subst e <;> assumption
      rw [upd_ne (Nat.ne_of_lt lt)]
      exact f0
    have I2 : Inv X pins σ (upd H s.heap.objs.size (.tup [.int (i : Int), .str (tx [c])])) { s with heap := h2, toks := tk + 1 } := by
      refine Inv.turnedL (s := { s with heap := s.heap.push { cls := .type "tuple", data := .seq #[.int i tk, .str ⟨#[c]⟩ tk'] }, toks := tk + 1 }) (h' := h2) (t' := tk + 1) (its := [e, it]) I1 (fun c' o hc z => ?_) fp2
      simp only [List.mem_cons, List.not_mem_nil, or_false, not_or] at hc
      refine up c' o hc.1 ?_
      by_cases hcs : c' = s.heap.objs.size
      · subst hcs
        have e' : (s.heap.push { cls := .type "tuple", data := .seq #[.int i tk, .str ⟨#[c]⟩ tk'] }).get? s.heap.objs.size = some { cls := .type "tuple", data := .seq #[.int i tk, .str ⟨#[c]⟩ tk'] } := Heap.get?_push_size _ rfl
        rw [e'] at z
        cases z
        exact hT
      · have e' : s.heap.get? c' = some o := by
          rw [← z]
          exact (Heap.get?_push_ne _ _ _ hcs).symm
        exact kk c' o hc.1 hc.2 e'
    obtain ⟨o3, q1, q2, q3⟩ := hst
    exact ⟨.ref s.heap.objs.size, _, I2, rfl, ⟨s.heap.objs.size, c, rfl, hTn, hcu, rfl⟩, ⟨⟨_, by simpa using he2⟩, o3, up _ _ hei.symm q1, q2, q3⟩, fun c hc => (fp2 c hc).1⟩
  done := by
    intro X hP hw hK hc i pins s σ H E I hf st hg
    subst hP hw hK
    have hg : u.length = i := hg
    obtain ⟨⟨old, s1⟩, s4⟩ := st
    have hh : X.A.in1.handled = none := I.ok.hd hc
    have en : i = (tx u).cps.size := by rw [← Array.length_toList, tx_list]; exact hg.symm
    subst en
    refine wpAny_pyNext_enum_endD (drawsStr hh it (tx u) t) s1 s4 fun h' kk => ⟨rfl, I.turnedL (t' := s.toks) (its := [e, it]) (fun c o hc z => ?_) hf⟩
    simp only [List.mem_cons, List.not_mem_nil, or_false, not_or] at hc
    exact kk c o hc.2 z
  self := fun _ _ _ _ _ st h => by obtain ⟨⟨old, s1⟩, _⟩ := st; exact wpAny_pyIter_enum s1 h
section
variable {X : Cx} {es : List Expr} {kx : Nat} {tp : Pos}
def iEnumT (ta : TA) : TI := fun σ H R => ta σ H fun vs H1 => ∃ u, vs = [.str (tx u)] ∧ R (IteT u) H1
theorem pi_enumT {a : Expr} {ta : TA} {p pos : Pos} (hg : Gl X "enumerate") (hm : X.mg "enumerate" = none) (ha : PA X [a] ta) (hs : starEach [a] X.env = [(false, eval a X.env)] := by rfl) :
    PI X (.Tuple es kx tp) (.Call (.Name "enumerate" p) [a] [] pos) (iEnumT ta) := by
  intro pins s σ H R I h
  refine Call_ (ld_blt I hg hm bt_enumerate (PyProof.Rows.callWith_type1 (thn (ha pos pins s σ H _ I h) fun us s1 ⟨vs, H1, I1, r1, q1⟩ => ?_) hs rfl))
  obtain ⟨u, e, q⟩ := q1
  subst e
  cases r1 with
  | cons r rr =>
    cases rr
    obtain ⟨t, rfl⟩ := r
    refine call_enumerate_str fun h' he hi hsz kk => wpAny_pyIter_enum he ?_
    refine ⟨_, [s1.heap.objs.size + 1, s1.heap.objs.size], _, _, H1, rfl, I1.kept (t' := s1.toks) kk, turn_enumT (lne (Nat.lt_succ_self _) 0).symm, ⟨⟨_, he⟩, hi⟩, fun c hc => ?_, q⟩
    have le : s1.heap.objs.size ≤ c := by
      simp only [List.mem_cons, List.not_mem_nil, or_false] at hc
      rcases hc with e | e <;> subst e <;> omega
    exact I1.fpOk le (I1.hok.fresh le)
theorem for_enumT {u : List Nat} {g : TG} {tb : TS} {D : Ends} {σ : St} {H : Hp} (Pv : Nat → St → Hp → Prop) (h0 : Pv 0 σ H)
    (hs : ∀ i c σ H T, u[i]? = some c → Pv i σ H → H T = none → g (.ref T) σ (upd H T (.tup [.int (i : Int), .str (tx [c])])) fun σ2 H2 => tb { D with nx := Pv (i + 1), ct := Pv (i + 1), bk := D.nx } σ2 H2) (hd : ∀ σ H, Pv u.length σ H → D.nx σ H) :
    ∃ W : Nat → Nat → St → Hp → Prop, (∃ m, W 0 m σ H) ∧ ∀ i m σ H, W i m σ H →
      ((IteT u).stop i H ∧ D.nx σ H) ∨ ((IteT u).go i H ∧ ∃ N : St → Hp → Prop, (∀ σ' H', N σ' H' → ∃ m', m' < m ∧ W (i + 1) m' σ' H') ∧ ∀ x H', (IteT u).yld i H x H' → g x σ H' fun σ2 H2 => tb { D with nx := N, ct := N, bk := D.nx } σ2 H2) := by
  refine ⟨fun i m σ H => m = u.length - i ∧ i ≤ u.length ∧ Pv i σ H, ⟨u.length, by simp, Nat.zero_le _, h0⟩, ?_⟩
  rintro i m σ H ⟨rfl, hi, p⟩
  by_cases hlt : i < u.length
  · refine .inr ⟨hlt, Pv (i + 1), fun σ' H' p' => ⟨u.length - (i + 1), by omega, rfl, hlt, p'⟩, fun x H' y => ?_⟩
    obtain ⟨T, c, rfl, hT, hc, rfl⟩ := y
    exact hs i c σ H T hc p hT
  · have e : i = u.length := by omega
    subst e
    exact .inl ⟨rfl, hd σ H p⟩
end
open PySem PySem.Spec PyProof.Rows
section
variable {X : Cx}
theorem mt_strip : MtR X "str.strip" (fun x vs H Q => ∃ z y : Str, x = .str z ∧ vs = [.str y] ∧ z.length ≤ sizeLine ∧ Q (.str (Txt.stripChars z y)) H) := by
  intro pins s σ H x vs v us Q I rx rv h
  obtain ⟨z, y, rfl, rfl, hz, q⟩ := h
  obtain ⟨t, rfl⟩ := rx
  obtain ⟨u', rfl, ru⟩ := rv.one
  obtain ⟨t', rfl⟩ := ru
  exact SC.stripChars (fun t' k => ⟨.str _, H, I.tok _, ⟨_, rfl⟩, q⟩) hz
theorem mt_starts : MtR X "str.startswith" (fun x vs H Q => ∃ z y : Str, x = .str z ∧ vs = [.str y] ∧ Q (.bl (Txt.startswith z y)) H) := by
  intro pins s σ H x vs v us Q I rx rv h
  obtain ⟨z, y, rfl, rfl, q⟩ := h
  obtain ⟨t, rfl⟩ := rx
  obtain ⟨u', rfl, ru⟩ := rv.one
  obtain ⟨t', rfl⟩ := ru
  exact SC.startswith ⟨.bl _, H, I, rfl, q⟩
def trim (u : List Nat) : List Nat := ((u.dropWhile fun c => decide (c = 32)).reverse.dropWhile fun c => decide (c = 32)).reverse
theorem contains_one (c : Nat) : (tx [32]).cps.contains c = decide (c = 32) := by
  show (#[32] : Array Nat).contains c = _
  by_cases h : c = 32
  · rw [h]; simp
  · rw [decide_eq_false h]
    have h' : ¬ 32 = c := fun z => h z.symm
    simp [h, h']
theorem drop_tw {p : Nat → Bool} (l : List Nat) : l.drop (l.takeWhile p).length = l.dropWhile p := by
  induction l with
  | nil => rfl
  | cons a l ih =>
    rw [List.takeWhile_cons, List.dropWhile_cons]
    by_cases h : p a = true
    · rw [if_pos h, if_pos h]; exact ih
    · rw [if_neg h, if_neg h]; rfl
theorem trim_tx (u : List Nat) : Txt.stripChars (tx u) (tx [32]) = tx (trim u) := by
  rw [Txt.stripChars, PySem.W.stripBy_eq]
  have eg : (tx [32]).cps.contains = fun c => decide (c = 32) := funext contains_one
  rw [eg]
  unfold PySem.W.stripped
  simp only [if_true]
  rw [tx_list, tx_len]
  generalize hp : (fun c : Nat => decide (c = 32)) = p
  have hd := drop_tw (p := p) u
  rw [hd]
  have hl : (u.takeWhile p).length + (u.dropWhile p).length = u.length := by
    have := congrArg List.length (List.takeWhile_append_dropWhile (p := p) (l := u))
    rw [List.length_append] at this
    exact this
  unfold Builtin.Str.strSub trim
  rw [hp]
  apply congrArg
  apply Array.ext'
  rw [Array.toList_extract, tx_list]
  show List.extract _ _ _ = _
  rw [List.extract_eq_drop_take, hd]
  have hl2 : ((u.dropWhile p).reverse.takeWhile p).length + ((u.dropWhile p).reverse.dropWhile p).length = (u.dropWhile p).length := by
    have := congrArg List.length (List.takeWhile_append_dropWhile (p := p) (l := (u.dropWhile p).reverse))
    rw [List.length_append, List.length_reverse] at this
    exact this
  have e : u.length - ((u.dropWhile p).reverse.takeWhile p).length - (u.takeWhile p).length = ((u.dropWhile p).reverse.dropWhile p).length := by omega
  rw [e]
  have e2 : (u.dropWhile p) = ((u.dropWhile p).reverse.dropWhile p).reverse ++ ((u.dropWhile p).reverse.takeWhile p).reverse := by
    rw [← List.reverse_append, List.takeWhile_append_dropWhile, List.reverse_reverse]
  generalize ((u.dropWhile p).reverse.takeWhile p) = a at e2
  generalize hb : ((u.dropWhile p).reverse.dropWhile p) = b at e2 ⊢
  rw [e2, List.take_append_of_le_length (by rw [List.length_reverse]; exact Nat.le_refl _), List.take_of_length_le (by rw [List.length_reverse]; exact Nat.le_refl _)]
theorem starts_tx (u : List Nat) (c : Nat) : Txt.startswith (tx u) (tx [c]) = decide (u.head? = some c) := by
  unfold Txt.startswith Builtin.Str.subAt
  rw [tx_len, tx_len]
  cases u with
  | nil => rfl
  | cons a u =>
    have e : ((tx (a :: u)).cps.extract 0 (0 + [c].length)) = #[a] := by
      apply Array.ext'
      rw [Array.toList_extract, tx_list]
      rfl
    rw [e]
    show (decide (0 + 1 ≤ u.length + 1) && (#[a] == #[c])) = _
    rw [decide_eq_true (by omega), Bool.true_and]
    by_cases h : a = c
    · rw [h]; simp
    · rw [decide_eq_false (by simpa using h)]
      simpa using h
end
open PySem PySem.Spec PyProof.Rows PySem.Builtin PySem.Builtin.Str
def jn (c : Nat) : List (List Nat) → List Nat
  | [] => []
  | [w] => w
  | w :: v :: r => w ++ c :: jn c (v :: r)
theorem jn_count (c : Nat) : ∀ {ws : List (List Nat)}, ws ≠ [] → (jn c ws).count c + 1 = (ws.map (List.count c)).sum + ws.length
  | [], h => absurd rfl h
  | [w], _ => by simp [jn]
  | w :: v :: r, _ => by
    have ih := jn_count c (ws := v :: r) (by simp)
    rw [jn, List.count_append, List.count_cons, List.map_cons, List.sum_cons, List.length_cons]
    simp only [beq_self_eq_true, if_true]
    omega
theorem sep_eq {c : Nat} : ∀ {w v a b : List Nat}, c ∉ w → c ∉ v → w ++ c :: a = v ++ c :: b → w = v ∧ a = b
  | [], [], a, b, _, _, h => ⟨rfl, (List.cons.inj h).2⟩
  | [], x :: v, a, b, _, hv, h => absurd (by have := (List.cons.inj h).1; rw [this]; exact List.mem_cons_self) hv
  | x :: w, [], a, b, hw, _, h => absurd (by have := (List.cons.inj h).1; rw [← this]; exact List.mem_cons_self) hw
  | x :: w, y :: v, a, b, hw, hv, h => by
    have e := List.cons.inj h
    have := sep_eq (w := w) (v := v) (fun z => hw (List.mem_cons_of_mem _ z)) (fun z => hv (List.mem_cons_of_mem _ z)) e.2
    exact ⟨by rw [e.1, this.1], this.2⟩
theorem jn_inj {c : Nat} : ∀ {ws vs : List (List Nat)}, ws ≠ [] → vs ≠ [] → (∀ w ∈ ws, c ∉ w) → (∀ v ∈ vs, c ∉ v) → jn c ws = jn c vs → ws = vs
  | [], _, h, _, _, _, _ => absurd rfl h
  | _, [], _, h, _, _, _ => absurd rfl h
  | [w], [v], _, _, _, _, e => by rw [show w = v from e]
  | [w], v :: v' :: r, _, _, hw, _, e => absurd (show c ∈ w by rw [show w = v ++ c :: jn c (v' :: r) from e]; simp) (hw w List.mem_cons_self)
  | w :: w' :: r, [v], _, _, _, hv, e => absurd (show c ∈ v by rw [← show w ++ c :: jn c (w' :: r) = v from e]; simp) (hv v List.mem_cons_self)
  | w :: w' :: r, v :: v' :: r', _, _, hw, hv, e => by
    have h := sep_eq (hw w List.mem_cons_self) (hv v List.mem_cons_self) (show w ++ c :: jn c (w' :: r) = v ++ c :: jn c (v' :: r') from e)
    rw [h.1, jn_inj (ws := w' :: r) (vs := v' :: r') (by simp) (by simp) (fun x hx => hw x (List.mem_cons_of_mem _ hx)) (fun x hx => hv x (List.mem_cons_of_mem _ hx)) h.2]
theorem join_list (c : Nat) : ∀ l : List Str, (Str.join ⟨#[c]⟩ l).cps.toList = jn c (l.map fun z => z.cps.toList)
  | [] => rfl
  | [x] => rfl
  | x :: y :: r => by
    show (x ++ ⟨#[c]⟩ ++ Str.join ⟨#[c]⟩ (y :: r)).cps.toList = x.cps.toList ++ c :: jn c ((y :: r).map fun z => z.cps.toList)
    rw [← join_list c (y :: r)]
    show ((x.cps ++ #[c]) ++ (Str.join ⟨#[c]⟩ (y :: r)).cps).toList = _
    simp
theorem sk_min (z : Str) : 1 ≤ Builtin.Str.strKind z := by
  unfold Builtin.Str.strKind
  split
  · omega
  · split <;> omega
theorem sk_one {c : Nat} (h : c < 256) : Builtin.Str.strKind ⟨#[c]⟩ = 1 := by
  unfold Builtin.Str.strKind
  rw [if_pos (by simp; exact h)]
theorem split_len {u : List Nat} {c : Nat} (hc : c < 256) : (Txt.split (tx u) ⟨#[c]⟩).length = u.count c + 1 := by
  have n := count_one u c
  unfold Txt.split
  split
  · rename_i h
    have : (tx u).length < 1 := by
      rcases Bool.or_eq_true_iff.mp h with h | h
      · exact of_decide_eq_true h
      · have := of_decide_eq_true h
        rw [sk_one hc] at this
        have := sk_min (tx u)
        omega
    rw [tx_len] at this
    have : u = [] := List.length_eq_zero_iff.mp (by omega)
    rw [this]
    rfl
  · split
    · rename_i h
      rw [List.isEmpty_iff] at h
      rw [h] at n
      show 1 = _
      rw [← n]
      rfl
    · rw [StrLaws.partsBetween_eq] <;> skip
      rw [← StrLaws.partsBetween_eq, length_partsBetween, n]
theorem le_sum_mem : ∀ {l : List Nat} {a : Nat}, a ∈ l → a ≤ l.sum
  | [], _, h => by cases h
  | b :: l, a, h => by
    rw [List.sum_cons]
    rcases List.mem_cons.mp h with z | z
    · rw [z]; omega
    · have := le_sum_mem z; omega
theorem split_is {u : List Nat} {c : Nat} (hc : c < 256) {ws : List (List Nat)} (ne : ws ≠ []) (hj : jn c ws = u) (no : ∀ w ∈ ws, c ∉ w) : Txt.split (tx u) ⟨#[c]⟩ = ws.map tx := by
  have l := split_len (u := u) hc
  have j := congrArg (fun z : Str => z.cps.toList) (StrLaws.join_split (tx u) ⟨#[c]⟩)
  rw [join_list, tx_list] at j
  generalize Txt.split (tx u) ⟨#[c]⟩ = ps at l j
  obtain ⟨qs, eqs⟩ : ∃ qs, qs = ps.map fun z => z.cps.toList := ⟨_, rfl⟩
  rw [← eqs] at j
  have ql : qs.length = ps.length := by rw [eqs, List.length_map]
  have qne : qs ≠ [] := fun z => by rw [z] at ql; simp at ql; omega
  have cnt := jn_count c qne
  rw [j, ql, l] at cnt
  have s0 : (qs.map (List.count c)).sum = 0 := by omega
  have qno : ∀ w ∈ qs, c ∉ w := fun w hw z => by
    have h1 : w.count c ≤ (qs.map (List.count c)).sum := le_sum_mem (List.mem_map.mpr ⟨w, hw, rfl⟩)
    have h2 := List.count_pos_iff.mpr z
    omega
  have e : qs = ws := jn_inj qne ne qno no (by rw [j, hj])
  rw [← e, eqs, List.map_map]
  exact (List.map_id' ps).symm.trans (List.map_congr_left fun z _ => by rfl)
theorem vals_strs : ∀ {l : List (Str × Tok)} {ws : List (List Nat)}, l.map (·.1) = ws.map tx → Vals (vS ws) (strValues l)
  | [], [], _ => .nil
  | [], w :: ws, h => by cases h
  | p :: l, [], h => by cases h
  | p :: l, w :: ws, h => by
    have e := List.cons.inj h
    exact .cons ⟨p.2, by rw [← e.1]⟩ (vals_strs e.2)
def rSplit : V → List V → Hp → VK → Prop := fun x vs H Q => ∃ (u : List Nat) (c : Nat) (ws : List (List Nat)), x = .str (tx u) ∧ vs = [.str ⟨#[c]⟩] ∧ c < 256 ∧ u.length + 2 ≤ sizeLine ∧ ws ≠ [] ∧ jn c ws = u ∧ (∀ w ∈ ws, c ∉ w) ∧ ∀ l, H l = none → Q (.ref l) (upd H l (.lst (vS ws)))
theorem mt_split {X : Cx} : MtR X "str.split" rSplit := by
  intro pins s σ H x vs v us Q I rx rv h
  obtain ⟨u, c, ws, rfl, rfl, hc, hz, ne, hj, no, q⟩ := h
  obtain ⟨t, rfl⟩ := rx
  obtain ⟨u', rfl, ru⟩ := rv.one
  obtain ⟨t', rfl⟩ := ru
  have es := split_is hc ne hj no
  have wl : ws.length ≤ u.length + 1 := by
    have := jn_count c ne
    rw [hj] at this
    have := List.count_le_length (a := c) (l := u)
    omega
  have hlen : (tx u).length + 2 ≤ sizeLine := by rw [tx_len]; exact hz
  have fin : ∀ (l : List (Str × Tok)) (tk : Nat), l.map (·.1) = Txt.split (tx u) ⟨#[c]⟩ → EP X pins σ Q (.ref s.heap.objs.size) { s with heap := s.heap.push { cls := .type "list", data := .seq (strValues l).toArray }, toks := tk } := fun l tk e =>
    ⟨.ref s.heap.objs.size, _, I.laid (t' := tk) (fun b o e => Heap.get?_push_of_some _ e) (Nat.le_refl _) (show ObjOk X.prog X.w _ _ _ (.lst (vS ws)) from ⟨by rw [vS_len]; omega, _, _, vals_strs (e.trans es), Heap.get?_push_size _ rfl⟩), rfl, q _ (I.hok.fresh (Nat.le_refl _))⟩
  have hy : (((⟨#[c]⟩ : Str)).length == 0) = false := rfl
  have hn : (partsBetween (tx u) (occurrences (tx u) ⟨#[c]⟩ 0 (tx u).length ((tx u).length + 1)) ((⟨#[c]⟩ : Str)).length).length ≤ sizeLine := by
    have e1 := StrLaws.occ_length_le (tx u) ⟨#[c]⟩ 0 (tx u).length ((tx u).length + 1)
    rw [length_partsBetween]; omega
  cases h1 : (decide ((tx u).length < ((⟨#[c]⟩ : Str)).length) || decide (Builtin.Str.strKind (tx u) < Builtin.Str.strKind ⟨#[c]⟩))
  · cases hf : (occurrences (tx u) ⟨#[c]⟩ 0 (tx u).length ((tx u).length + 1)).isEmpty
    · refine call_meets F.slot_str_split (typeIs_str _ _ _) F.entry_str_split (F.args_str_split_2 _ _) (meets_str_split_sep (tx u) ⟨#[c]⟩ t t' h1 hy hf (by omega) hn) ?_
      show wants (EP X pins σ Q) _ _ { s with toks := _, heap := s.heap.push { cls := .type "list", data := .seq (strsFrom s.toks (partsBetween (tx u) (occurrences (tx u) ⟨#[c]⟩ 0 (tx u).length ((tx u).length + 1)) ((⟨#[c]⟩ : Str)).length)).toArray } }
      rw [strsFrom_eq]
      exact fin (numbered s.toks _) _ ((numbered_texts _ _).trans ((if_neg (ne_true_of_eq_false h1)).trans (if_neg (ne_true_of_eq_false hf))).symm)
    · exact call_meets F.slot_str_split (typeIs_str _ _ _) F.entry_str_split (F.args_str_split_2 _ _) (meets_str_split_not_found (tx u) ⟨#[c]⟩ t t' h1 hy hf)
        (fin [(tx u, t)] s.toks ((if_neg (ne_true_of_eq_false h1)).trans (if_pos hf)).symm)
  · exact call_meets F.slot_str_split (typeIs_str _ _ _) F.entry_str_split (F.args_str_split_2 _ _) (meets_str_split_cannot_occur (tx u) ⟨#[c]⟩ t t' h1)
      (fin [(tx u, t)] s.toks (if_pos h1).symm)
open PySem PySem.Spec PyProof.Rows
section
variable {X : Cx} {CX CX' : CXT} {k k' : Nat} {f f' C C' : Addr} {fd fd' : FuncData} {ps ps' : List Str} {sp sp' : Sp} {E : XK} {m : Str} {pos apos : Pos} {o : Expr} {ta : TE}
def tMethD (C C' : Addr) (m : Str) (sp sp' : Sp) (E : XK) (ta : TE) : TE := fun σ H Q => ta σ H fun x H1 => ∃ a dx fs, x = .ref a ∧ fs.lookup m = none ∧
  ((H1 a = some (.ins C dx fs) ∧ sp [x] H1 Q E) ∨ (H1 a = some (.ins C' dx fs) ∧ sp' [x] H1 Q E))
end
open PySem PySem.Spec PyProof.Rows
section
variable {X : Cx} {CX : CXT} {k : Nat} {f : Addr} {fd : FuncData} {ps : List Str} {sp : Sp} {E : XK} {m : Str} {pos apos : Pos} {o e : Expr} {es : List Expr} {ta : TE} {t : TA} {dvs : List V} {ds : List Value}
def tMethA (K : PySem.W.Frag) (m : Str) (f : Addr) (sp : Sp) (E : XK) (ta : TE) : TE := fun σ H Q => ta σ H fun x H1 => ∃ a dx fs C, x = .ref a ∧ H1 a = some (.ins C dx fs) ∧ fs.lookup m = none ∧ Cls K C ∧ Meth K C m f ∧ sp [x] H1 Q E
theorem pe_methA {pl : Sem Bool} {K : PySem.W.Frag} (hK : K = X.K) (he : PE X o ta) (F : FnOk X.prog X.w X.K X.mg X.base CX k f fd ps sp) (hr : Room k X.A) (hb : Binds X.K fd ps []) (hx : Passes CX X E)
    (ht : eval (.Call (.Attribute o m apos) [] [] pos) X.env = (do
      let ov ← eval o X.env
      standAt apos.atName
      let (f, first) ← holding [ov] (getMethod ov m pl)
      callWith pos f first (backTo pos (starEach [] X.env)) (backToKw pos (keywordEach [] X.env))) := by rfl) :
    PE X (.Call (.Attribute o m apos) [] [] pos) (tMethA K m f sp E ta) := by
  subst hK
  intro pins s σ H Q I h
  refine PySem.W.methodCall_KW (pl := pl) (thn (he pins s σ H _ I h) fun u s1 ⟨x, H1, I1, rx, a, dx, fs, C, ex, ea, l, c, hm, q⟩ => ?_) ht
  subst ex
  obtain rfl : u = Value.ref a := rx
  refine getmeth_ok I1 ea c hm l ?_
  exact PySem.W.callWith_K0 (first := [.ref a]) I1.kIn hm.kp (run_fn (us := [.ref a]) (vs := [.ref a]) F hr hb .nil hx I1 (.cons rfl .nil) (by simpa using q))
def tMethAA (K : PySem.W.Frag) (m : Str) (f : Addr) (sp : Sp) (E : XK) (ta : TE) (t : TA) : TE := fun σ H Q => ta σ H fun x H1 => ∃ a dx fs C, x = .ref a ∧ H1 a = some (.ins C dx fs) ∧ fs.lookup m = none ∧ Cls K C ∧ Meth K C m f ∧ t σ H1 fun vs H2 => sp (x :: vs) H2 Q E
end
open PySem PySem.Spec PyProof.Rows
def vB (bs : List Bool) : List V := bs.map V.bl
theorem vB_len (bs : List Bool) : (vB bs).length = bs.length := by unfold vB; rw [List.length_map]
theorem vB_app (bs : List Bool) (b : Bool) : vB bs ++ [.bl b] = vB (bs ++ [b]) := by unfold vB; rw [List.map_append]; rfl
theorem vals_bools {bs : List Bool} : ∀ {us : List Value}, Vals (bs.map V.bl) us → us = bs.map Value.bool := by
  induction bs with
  | nil => intro us r; rw [List.map_nil] at r; cases r; rfl
  | cons n ns ih =>
    intro us r
    rw [List.map_cons] at r
    cases r with
    | cons r1 r2 =>
      cases r1
      rw [ih r2]
      rfl
theorem any_range (bs : List Bool) : (List.range bs.length).any (fun i => bs.getD i false) = bs.any id := by
  rw [Bool.eq_iff_iff, List.any_eq_true, List.any_eq_true]
  constructor
  · rintro ⟨i, hi, h⟩
    have hl := List.mem_range.mp hi
    refine ⟨bs[i], List.getElem_mem hl, ?_⟩
    rw [List.getD_eq_getElem?_getD, List.getElem?_eq_getElem hl] at h
    exact h
  · rintro ⟨b, hb, h⟩
    obtain ⟨i, hi, e⟩ := List.getElem_of_mem hb
    refine ⟨i, List.mem_range.mpr hi, ?_⟩
    rw [List.getD_eq_getElem?_getD, List.getElem?_eq_getElem hi, e]
    exact h
section
variable {X : Cx} {K : PySem.W.Frag}
theorem call_anyB (hK : X.K = K := by rfl) (hc : X.calm = true := by rfl) : CallR X (.builtin "any") (fun xs H Q => ∃ a bs, xs = [.ref a] ∧ SqL K H a (vB bs) ∧ Q (.bl (bs.any id)) H) := by
  subst hK
  intro pins s σ H xs us Q I rv h
  obtain ⟨a, bs, rfl, hq, q⟩ := h
  obtain ⟨u, rfl, ru⟩ := rv.one
  cases ru
  obtain ⟨its, r, pl, hl⟩ := I.list hq
  have ei := vals_bools (bs := bs) r
  subst ei
  obtain ⟨o, eo, _⟩ := id pl.isList
  have alt := Heap.lt_size eo
  refine call_any_walk (wpAny_pyIter_list pl.isList ?_)
  refine ⟨_, _, _, _, _, _, fun i => bs.getD i false, rfl, Walks.list (A := X.A.in1) (I.ok.hd hc) _ a (Nat.ne_of_lt alt) (bs.map Value.bool).toArray, ⟨⟨_, Heap.get?_push_size _ rfl, rfl, rfl⟩, pl.isList.push _⟩, ?_, fun h' tk hk => ?_⟩
  · intro i v s' Q' E' hP hQ
    have hv : (bs.map Value.bool)[i]? = some v := by simpa using hP
    rw [List.getElem?_map] at hv
    cases e : bs[i]? with
    | none => rw [e] at hv; cases hv
    | some b =>
      rw [e] at hv
      cases hv
      have eb : bs.getD i false = b := by rw [List.getD_eq_getElem?_getD, e]; rfl
      have hQ' : Q' (bs.getD i false) s' := hQ
      rw [eb] at hQ'
      exact wpAny_truthy_bool hQ'
  · have e1 : (List.range ((bs.map Value.bool).toArray).size).any (fun i => bs.getD i false) = bs.any id := by
      rw [List.size_toArray, List.length_map]
      exact any_range bs
    rw [e1]
    refine ⟨.bl (bs.any id), H, I.kept (t' := tk) (fun b ob e => hk b ob ?_ (Heap.get?_push_of_some _ e)), rfl, q⟩
    have lt := Heap.lt_size e
    intro hm
    rw [List.mem_singleton.mp hm] at lt
    exact Nat.lt_irrefl _ lt
end
open PySem PySem.Spec PyProof.Rows
theorem all_range (bs : List Bool) : (List.range bs.length).all (fun i => bs.getD i false) = bs.all id := by
  rw [Bool.eq_iff_iff, List.all_eq_true, List.all_eq_true]
  constructor
  · rintro h b hb
    obtain ⟨i, hi, e⟩ := List.getElem_of_mem hb
    have := h i (List.mem_range.mpr hi)
    rw [List.getD_eq_getElem?_getD, List.getElem?_eq_getElem hi, e] at this
    exact this
  · rintro h i hi
    have hl := List.mem_range.mp hi
    rw [List.getD_eq_getElem?_getD, List.getElem?_eq_getElem hl]
    exact h _ (List.getElem_mem hl)
section
variable {X : Cx} {K : PySem.W.Frag}
theorem call_allB (hK : X.K = K := by rfl) (hc : X.calm = true := by rfl) : CallR X (.builtin "all") (fun xs H Q => ∃ a bs, xs = [.ref a] ∧ SqL K H a (vB bs) ∧ Q (.bl (bs.all id)) H) := by
  subst hK
  intro pins s σ H xs us Q I rv h
  obtain ⟨a, bs, rfl, hq, q⟩ := h
  obtain ⟨u, rfl, ru⟩ := rv.one
  cases ru
  obtain ⟨its, r, pl, hl⟩ := I.list hq
  have ei := vals_bools (bs := bs) r
  subst ei
  obtain ⟨o, eo, _⟩ := id pl.isList
  have alt := Heap.lt_size eo
  refine call_all_walk (wpAny_pyIter_list pl.isList ?_)
  refine ⟨_, _, _, _, _, _, fun i => bs.getD i false, rfl, Walks.list (A := X.A.in1) (I.ok.hd hc) _ a (Nat.ne_of_lt alt) (bs.map Value.bool).toArray, ⟨⟨_, Heap.get?_push_size _ rfl, rfl, rfl⟩, pl.isList.push _⟩, ?_, fun h' tk hk => ?_⟩
  · intro i v s' Q' E' hP hQ
    have hv : (bs.map Value.bool)[i]? = some v := by simpa using hP
    rw [List.getElem?_map] at hv
    cases e : bs[i]? with
    | none => rw [e] at hv; cases hv
    | some b =>
      rw [e] at hv
      cases hv
      have eb : bs.getD i false = b := by rw [List.getD_eq_getElem?_getD, e]; rfl
      have hQ' : Q' (bs.getD i false) s' := hQ
      rw [eb] at hQ'
      exact wpAny_truthy_bool hQ'
  · have e1 : (List.range ((bs.map Value.bool).toArray).size).all (fun i => bs.getD i false) = bs.all id := by
      rw [List.size_toArray, List.length_map]
      exact all_range bs
    rw [e1]
    refine ⟨.bl (bs.all id), H, I.kept (t' := tk) (fun b ob e => hk b ob ?_ (Heap.get?_push_of_some _ e)), rfl, q⟩
    have lt := Heap.lt_size e
    intro hm
    rw [List.mem_singleton.mp hm] at lt
    exact Nat.lt_irrefl _ lt
end
open PySem PySem.Spec PyProof.Rows
def gLst (K : PySem.W.Frag) (n : Nat) (t : TGs) : TG := fun v σ H Q => ∃ a xs, v = .ref a ∧ SqL K H a xs ∧ xs.length = n ∧ t xs σ H Q
section
variable {X : Cx} {K : PySem.W.Frag} {pos : Pos}
end
open PySem PySem.Spec PyProof.Rows
inductive SamV (K : PySem.W.Frag) (H : Hp) : Nat → V → V → Prop where
  | flat {n : Nat} {x : V} (h : flatV x = true) : SamV K H n x x
  | lst {n : Nat} {p q : Addr} {xs ys : List V} (hp : SqL K H p xs) (hq : SqL K H q ys) (hl : xs.length = ys.length) (hi : ∀ (i : Nat) (x y : V), xs[i]? = some x → ys[i]? = some y → SamV K H n x y) : SamV K H (n + 1) (.ref p) (.ref q)
  | tup {n : Nat} {p q : Addr} {xs ys : List V} (hp : SqT K H p xs) (hq : SqT K H q ys) (hl : xs.length = ys.length) (hi : ∀ (i : Nat) (x y : V), xs[i]? = some x → ys[i]? = some y → SamV K H n x y) : SamV K H (n + 1) (.ref p) (.ref q)
section
variable {X : Cx} {K : PySem.W.Frag}
theorem vals_get {xs : List V} {us : List Value} (r : Vals xs us) {j : Nat} (h : j < us.toArray.size) : ∃ x, xs[j]? = some x ∧ RelV x us.toArray[j] := by
  have l := r.length
  simp only [List.size_toArray] at h
  obtain ⟨u, e, q⟩ := r.get (i := j) (x := xs[j]) (by simp [show j < xs.length by omega])
  refine ⟨xs[j], by simp [show j < xs.length by omega], ?_⟩
  have : us.toArray[j] = u := by
    have h2 : us.toArray[j]? = some u := by simpa using e
    exact Option.some.inj ((Array.getElem?_eq_getElem (by simpa using h)).symm.trans h2)
  rw [this]
  exact q
theorem eqAt_sam {pins : List (Addr × Obj)} {σ : St} {H : Hp} {s : Shared} (I : Inv X pins σ H s) {n : Nat} {x y : V} (S : SamV X.K H n x y) : ∀ {A : Around} {u v : Value}, RelV x u → RelV y v → A.units + n < cLine → SeqAt.EqAt A s u v true := by
  induction S with
  | flat h =>
    intro A u v r1 r2 hu
    have := eqAt_V (A := A) (s := s) r1 r2 h h
    rw [eqV_refl h] at this
    exact this
  | lst hp hq hl hi ih =>
    intro A u v r1 r2 hu
    rename_i n p q xs ys
    cases r1
    cases r2
    by_cases e : p = q
    · subst e; exact SeqAt.EqAt.same _
    · refine SeqAt.EqAt.of_refs e ?_
      obtain ⟨its, r, pl, hz⟩ := I.list hp
      obtain ⟨its2, r2, pl2, hz2⟩ := I.list hq
      have l1 := r.length
      have l2 := r2.length
      have key := SeqAt.RcAt.lists (A := A) (s := s) (e := fun _ => true) pl.isList pl2.isList (by simp only [List.size_toArray]; omega) (by omega) (fun j h1 h2 => ?_)
      · have e1 : (List.range its.toArray.size).all (fun _ => true) = true := by simp
        rw [e1] at key
        exact key
      · obtain ⟨x, ex, qx⟩ := vals_get r h1
        obtain ⟨y, ey, qy⟩ := vals_get r2 h2
        exact ih j x y ex ey qx qy (by show A.units + 1 + n < cLine; omega)
  | tup hp hq hl hi ih =>
    intro A u v r1 r2 hu
    rename_i n p q xs ys
    cases r1
    cases r2
    by_cases e : p = q
    · subst e; exact SeqAt.EqAt.same _
    · refine SeqAt.EqAt.of_refs e ?_
      obtain ⟨its, r, pl, hz⟩ := I.tuple hp
      obtain ⟨its2, r2, pl2, hz2⟩ := I.tuple hq
      have l1 := r.length
      have l2 := r2.length
      have key := SeqAt.RcAt.tuples (A := A) (s := s) (e := fun _ => true) pl pl2 (by omega) (fun j h1 h2 => ?_)
      · have e1 : ((List.range (min its.toArray.size its2.toArray.size)).all (fun _ => true) && its.toArray.size == its2.toArray.size) = true := by
          have e2 : its.length = its2.length := by omega
          simp [e2]
        rw [e1] at key
        exact key
      · obtain ⟨x, ex, qx⟩ := vals_get r h1
        obtain ⟨y, ey, qy⟩ := vals_get r2 h2
        exact ih j x y ex ey qx qy (by show A.units + 1 + n < cLine; omega)
def SamS (K : PySem.W.Frag) (H : Hp) (p q : Addr) : Prop := ∃ xs ys : List V, SqL K H p xs ∧ SqL K H q ys ∧ xs.length = ys.length ∧ ∀ (i : Nat) (x y : V), xs[i]? = some x → ys[i]? = some y → SamV K H 50 x y
def rEqS (K : PySem.W.Frag) : R2 := fun x y H Q => ∃ p q, x = .ref p ∧ y = .ref q ∧ SamS K H p q ∧ Q (.bl true) H
theorem op_eqS (hu : X.A.units + 100 < cLine) (hK : X.K = K := by rfl) : OpR X (compareOp .Eq) (rEqS K) := by
  subst hK
  intro pins s σ H x y v u Q I rx ry h
  obtain ⟨p, q, rfl, rfl, ⟨xs, ys, hx, hy, hl, hi⟩, k⟩ := h
  cases rx
  cases ry
  obtain ⟨its, r, pl, hz⟩ := I.list hx
  obtain ⟨its2, r2, pl2, hz2⟩ := I.list hy
  have l1 := r.length
  have l2 := r2.length
  refine SeqAt.eq_listAt (e := fun _ => true) pl.isList pl2.isList (by simp only [List.size_toArray]; omega) (by omega) (fun j h1 h2 => ?_) ?_
  · obtain ⟨x, ex, qx⟩ := vals_get r h1
    obtain ⟨y, ey, qy⟩ := vals_get r2 h2
    exact eqAt_sam I (hi j x y ex ey) qx qy (by show X.A.units + 1 + 50 < cLine; omega)
  refine ⟨.bl true, H, I, ?_, k⟩
  show Value.bool _ = Value.bool _
  simp
def rNeS (K : PySem.W.Frag) : R2 := fun x y H Q => ∃ p q, x = .ref p ∧ y = .ref q ∧ SamS K H p q ∧ Q (.bl false) H
end
open PySem PySem.Spec PyProof.Rows
section
variable {X : Cx} {K : PySem.W.Frag} {k : Nat} {f C : Addr} {fd : FuncData} {ps : List Str} {sp : Sp} {dvs : List V} {ds : List Value} {x m : Str} {p pos apos : Pos} {e o : Expr} {es : List Expr} {ta : TE} {t : TA}
def rNeE (K : PySem.W.Frag) : R2 := fun x y H Q => ∃ p q xs, x = .ref p ∧ y = .ref q ∧ SqL K H p xs ∧ SqL K H q [] ∧ Q (.bl (!xs.isEmpty)) H
def rEqE (K : PySem.W.Frag) : R2 := fun x y H Q => ∃ p q xs, x = .ref p ∧ y = .ref q ∧ SqL K H p xs ∧ SqL K H q [] ∧ Q (.bl xs.isEmpty) H
end
open PySem PySem.Spec PyProof.Rows
def YX (X : Cx) (fp : List Addr) (C : Addr) (s : Shared) (H : Hp) (E : XK) : Value → Shared → Prop := fun e s' =>
  ∃ (H1 : Hp) (s1 : Shared) (m : Str → Option Value), Un (frs X.stack) fp H H1 s.heap s1.heap ∧ s1.os = s.os ∧ s1.heap.Ns C m ∧ H1 C = none ∧ CX1 X.prog X.w X.stack H1 s1 E e s'
abbrev cxCompX (X : Cx) (Nc : List Str) (scope : Scope) (cl : List (Str × Addr)) (C : Addr) (fp : List Addr) (s : Shared) (H : Hp) (E : XK) : Cx := (cxComp X Nc scope cl C fp s H).wish (YX X fp C s H E)
theorem passC {X : Cx} {Nc : List Str} {scope : Scope} {cl : List (Str × Addr)} {C : Addr} {fp : List Addr} {s : Shared} {H : Hp} {E : XK} : Passes (CX1 X.prog X.w) (cxCompX X Nc scope cl C fp s H E) E := fun pins σ H1 s1 e s' I c => by
  obtain ⟨m, hn, _⟩ := I.loc
  exact ⟨H1, s1, m, I.base, I.os, hn, I.free, c⟩
def Aft (X : Cx) (E : XK) (C : Addr) (e : Value) (s' : Shared) : Prop :=
  (∃ m, s'.heap.Ns C m) ∧ ∀ h', Heap.SameBut C s'.heap h' → ∃ ea Cc t H' B, e = .ref ea ∧ Fx B X.stack ea Cc t (rawInt X.env.locals) h' ∧ s'.os = X.s₀.os ∧ AllBare s'.gens ∧ Bk X.prog X.w X.outer X.H₀ X.s₀.heap H' B h' ∧ E (.ref Cc) none H'
theorem noteFrame_frame {e : Value} {env env' : Env} (h : env.frame = env'.frame) : noteFrame e env = noteFrame e env' := by
  unfold noteFrame PySem.frameOf
  rw [h]
theorem funFrames_but {h h' base : Heap} : ∀ {l : List Env}, (∀ b ∈ frs l, h'.get? b = h.get? b) → h.FunFrames base l → h'.FunFrames base l
  | [], _, _ => trivial
  | env :: r, k, ⟨hk, ⟨L, o, hf, hn, ho, hd⟩, hr⟩ => by
    have m : ∀ b ∈ frs r, b ∈ frs (env :: r) := fun b hb => by unfold frs; rw [List.filterMap_cons, hf]; exact List.mem_cons_of_mem _ hb
    have mL : L ∈ frs (env :: r) := by unfold frs; rw [List.filterMap_cons, hf]; exact List.mem_cons_self
    exact ⟨hk, ⟨L, o, hf, hn, (k L mL).trans ho, hd⟩, funFrames_but (fun b hb => k b (m b hb)) hr⟩
section
variable {X : Cx} {pins : List (Addr × Obj)} {σ : St} {H : Hp} {s s' : Shared} {E : XK} {e : Value} {C : Addr} {fp : List Addr}
theorem errC {M : Model} {R : Shared → Prop} {E' : Value → Shared → Prop} {cenv : Env} (hB : Body X) (I : Inv X pins σ H s) (hfp : ∀ b ∈ fp, FpOk X pins H b) (hC : s.heap.objs.size ≤ C) (hf : cenv.frame = X.env.frame)
    (c : YX X fp C s H E e s') (k : ∀ s'', Aft X E C e s'' → R s'') : wpAny M X.A (noteFrame e cenv) (fun _ s'' => R s'') E' s' := by
  obtain ⟨H1, s1, m, un, os1, hns, nC, ea, Cc, t, H', B, rfl, fx, os, bare, bk, q⟩ := c
  have nx : ∀ b : Addr, b ∉ X.ex := fun b z => by rw [hB.ex] at z; exact nomatch z
  have fsS : ∀ b, b ∈ X.fs → b ∈ frs X.stack := fun b hb => by
    rw [hB.stack]; unfold frs; rw [List.filterMap_cons, hB.frame]; exact List.mem_cons_of_mem _ hb
  have stk : ∀ b, b ∈ frs X.stack → ∃ o, s.heap.get? b = some o := fun b hb => by
    obtain ⟨_, o, e, _⟩ := I.stack.mem hb
    exact ⟨o, e⟩
  have CS : C ∉ frs X.stack := fun z => by
    obtain ⟨o, e⟩ := stk C z
    exact absurd (Heap.lt_size e) (Nat.not_lt.mpr hC)
  have old : ∀ b o, s.heap.get? b = some o → b ≠ C := fun b o e z => absurd (Heap.lt_size e) (Nat.not_lt.mpr (z ▸ hC))
  have nfp : ∀ b o, X.s₀.heap.get? b = some o → b ∉ fp := fun b o e z => by
    rcases (hfp b z).2.2.2.1 with y | y
    · exact nx b y
    · exact absurd (Heap.lt_size e) (Nat.not_lt.mpr y)
  obtain ⟨oC, es, ep, hoC, dC, sk, nf⟩ := hns
  have hBC : B.get? C = some oC := bk.keep C oC hoC nC CS
  have hH'C : H' C = none := bk.free C oC hoC nC
  have B'C : (PySem.W.hideAll B [C]).get? C = none := PySem.W.hideAll_none _ List.mem_cons_self
  have getB : ∀ b o, B.get? b = some o → b ≠ C → (PySem.W.hideAll B [C]).get? b = some o := fun b o e z => PySem.W.hideAll_get _ e fun y => z (List.mem_singleton.mp y)
  have stays : (PySem.W.hideAll B [C]).StaysIn B := fun b o e => PySem.W.of_hideAll _ e
  have fx' : Fx (PySem.W.hideAll B [C]) X.stack ea Cc t .none s'.heap := by
    obtain ⟨st, ne, fr, T, oT, ts, hE, hBT, hTe, hT, hdT, h3⟩ := fx
    exact ⟨fun b o e => st b o (stays b o e), PySem.W.fresh_of_stays stays ne, PySem.W.funFrames_base stays fr, T, oT, ts, hE, PySem.W.fresh_of_stays stays hBT, hTe, hT, hdT, h3⟩
  have bkX : Bk X.prog X.w X.outer X.H₀ X.s₀.heap H' (PySem.W.hideAll B [C]) s'.heap := by
    refine ⟨fun b u e => ?_, fun b o e n hb => ?_, fun b o e hb => ?_, fun b o e n => ?_, fun b o e hb => ?_, fun b xs e => bk.tups b xs (un.tups b xs (I.base.tups b xs e)), fun b o u e => bk.frzs b o u (un.frzs b o u (I.base.frzs b o u e)), fun b ps e => ?_⟩
    · refine (bk.ok b u e).stay (fun c v hc z => getB c v z fun y => ?_) (fun _ z => z) fun _ _ z => z
      rcases hc with x | x
      · rw [← x, y, hH'C] at e; cases e
      · rw [y, hH'C] at x; cases x
    · have e1 := I.base.keep b o e n hb (nx b)
      have n1 := I.base.free b o e n (nx b)
      have bfr := I.frsN e hb
      exact getB b o (bk.keep b o (un.keep b o e1 n1 bfr (nfp b o e)) (un.free b o e1 n1 (nfp b o e)) bfr) (old b o e1)
    · obtain ⟨sl, e1⟩ := I.base.slot b o e (I.ok.frf b hb) hb (nx b)
      obtain ⟨sl2, e2⟩ := un.slot b _ e1 (I.stkFree b (fsS b hb)) (fsS b hb) (nfp b o e)
      obtain ⟨sl3, e3⟩ := bk.slot b _ e2 (fsS b hb)
      exact ⟨sl3, e3⟩
    · obtain ⟨o', e1⟩ := I.base.there b o e (nx b)
      obtain ⟨o2, e2⟩ := un.there b o' e1 (nfp b o e)
      exact bk.free b o2 e2 (un.free b o' e1 (I.base.free b o e n (nx b)) (nfp b o e))
    · obtain ⟨o', e1⟩ := I.base.there b o e (nx b)
      obtain ⟨o2, e2⟩ := un.there b o' e1 (nfp b o e)
      obtain ⟨o3, e3⟩ := bk.there b o2 e2 (I.frsN e hb)
      exact ⟨o3, getB b o3 e3 (old b o' e1)⟩
    · obtain ⟨m1, e1⟩ := I.base.tbls b ps e
      obtain ⟨m2, e2⟩ := un.tbls b _ e1
      obtain ⟨m3, e3⟩ := bk.tbls b _ e2
      exact ⟨m1 ++ m2 ++ m3, by rw [e3, Array.append_assoc, Array.append_assoc, Array.append_assoc]⟩
  rw [noteFrame_frame hf]
  refine noteX hB I.ok.frames (.came fx') fun h1 x1 u1 => k _ ?_
  obtain ⟨sl, hC1⟩ := u1 C oC (fx.st C oC hBC) (fun vs z => by rw [dC] at z; cases z)
  refine ⟨⟨m, _, es, ep, hC1, dC, sk, nf⟩, fun h' sb => ?_⟩
  have bk1 := bkX.slots (frs_sub hB fx'.fr) u1
  obtain ⟨st, ne, fr, T, oT, ts, hE, hBT, hTe, hT, hdT, h3⟩ := x1
  have TC : T ≠ C := fun z => by rw [z, hC1] at hT; cases hT; rw [dC] at hdT; cases hdT
  have EC : ea ≠ C := fun z => by rw [z, hC1] at hE; have := congrArg Obj.data (Option.some.inj hE); dsimp only at this; rw [dC] at this; cases this
  refine ⟨ea, Cc, t, H', _, rfl, ⟨fun b o e => (sb.2 b fun z => by rw [z, B'C] at e; cases e).trans (st b o e), ne, funFrames_but (fun b hb => sb.2 b fun z => CS (z ▸ hb)) fr, T, oT, ts, (sb.2 ea EC).trans hE, hBT, hTe, (sb.2 T TC).trans hT, hdT, h3⟩, os.trans (os1.trans I.os), bare,
    ⟨bk1.ok, bk1.keep, fun b o e hb => ?_, bk1.free, bk1.there, bk1.tups, bk1.frzs, bk1.tbls⟩, q⟩
  obtain ⟨sl2, e2⟩ := bk1.slot b o e hb
  exact ⟨sl2, (sb.2 b fun z => CS (z ▸ fsS b hb)).trans e2⟩
end
def compPostX (M : Model) (A : Around) (E : Value → Shared → Prop) (Q : Value → Shared → Prop) (acc : Value) (C : Addr) (f : Option Addr) (r : Result) (s' : Shared) : Prop :=
  match r with
  | .ok _ => ∃ m, s'.heap.Ns C m ∧ ∀ h', Heap.SameBut C s'.heap h' → Q acc { s' with heap := h' }
  | .error x => ∃ m, s'.heap.Ns C m ∧ ∀ h', Heap.SameBut C s'.heap h' → ∀ cenv : Env, cenv.locals = C → cenv.frame = f → wpAny M A (passOn "comprehension.variables-let-go" x cenv : Sem Value) (fun _ _ => False) E { s' with heap := h' }
section
variable {X : Cx} {pins : List (Addr × Obj)} {σ : St} {H : Hp} {s : Shared}
end
open PySem PySem.Spec PyProof.Rows
section
variable {X : Cx} {pins : List (Addr × Obj)} {σ : St} {H : Hp} {s : Shared}
theorem comp_blockX {x : Str} {px : Pos} {Nc : List Str} {caps : List Nat} {scope : Scope} {cl : List (Str × Addr)} {iter elt : Expr} {ifs : List Expr} {pos : Pos} {tc : TT} {te : TE} {Q : VK} {it : Addr} {fp : List Addr} {tn : Nat → Heap → Prop} {J : It}
    {RR : Value → Addr → Option Addr → Result → Shared → Prop} {E : Value → Shared → Prop} {E' : XK} (hB : Body X)
    (O : CompOk X x Nc caps scope) (hc : X.calm = true)
    (hcl : ∀ x c, cl.lookup x = some c → X.env.cells.lookup x = some c ∧ (x, NameKind.free) ∈ scope.names) (hcl2 : ∀ x, (x, NameKind.free) ∈ scope.names → cl.lookup x = X.env.cells.lookup x)
    (hte : ∀ C fp s H, PE (cxCompX X Nc scope cl C fp s H E') elt te) (htc : ∀ C fp s H, PIf (cxCompX X Nc scope cl C fp s H E') ifs tc)
    (I : Inv X pins σ H s) (T : Turn X.prog X.w X.K (.Name x px) J fp it tn) (st : tn 0 s.heap) (hfp : ∀ b ∈ fp, FpOk X pins H b) (h : tCompW caps tc te J σ H Q)
    (hRR : ∀ (D C : Addr) (s' : Shared) (m : Str → Option Value), s'.heap.Ns C m → (∀ h', Heap.SameBut C s'.heap h' → ∃ H', Inv X pins σ H' { s' with heap := h' } ∧ H' C = none ∧ Q (.ref D) H') →
      s.heap.objs.size ≤ C → RR (.ref D) C X.env.frame (.ok .next) s')
    (hRE : ∀ (D C : Addr) (e : Value) (s' : Shared), Aft X E' C e s' → RR (.ref D) C X.env.frame (.error e) s') :
    wpAny (model X.prog X.w) X.A (newList []) (fun acc s₃ => wpAny (model X.prog X.w) X.A (newFunctionEnv scope X.env.globals cl [] X.env.qual none .none (some X.env)) (fun cenv s₄ =>
      codeAny (model X.prog X.w) X.A (.compStart (.ListComp elt [⟨.Name x px, iter, ifs, 0⟩] scope pos) 0 (.ref it) acc { cenv with scope := relabel scope X.env }) (RR acc cenv.locals cenv.frame) s₄) E s₃) E s := by
  refine wpAny_newObj_type (wpAny_newFunctionEnv O.cell (by intro y hy; simp at hy) (fun h₁ hns₁ hsb₁ => ?_) O.kind)
  dsimp only at hns₁ hsb₁ ⊢
  generalize hH2 : s.heap.push { cls := .type "list", dict := none, data := .seq ([] : List Value).toArray } = H2 at hns₁ hsb₁ ⊢
  have hC : H2.objs.size = s.heap.objs.size + 1 := by rw [← hH2, Heap.size_push]
  have hCle : s.heap.objs.size ≤ H2.objs.size := by rw [hC]; exact Nat.le_succ _
  have hDC : s.heap.objs.size ≠ H2.objs.size := by rw [hC]; exact Nat.ne_of_lt (Nat.lt_succ_self _)
  have below : ∀ b, b < s.heap.objs.size → b ≠ H2.objs.size ∧ b ≠ s.heap.objs.size := fun b hb => ⟨by rw [hC]; exact Nat.ne_of_lt (Nat.lt_succ_of_lt hb), Nat.ne_of_lt hb⟩
  have old : ∀ b o, s.heap.get? b = some o → h₁.get? b = some o := fun b o e => hsb₁.extBut b o (below b (Heap.lt_size e)).1 (Heap.get?_push_of_some _ (hH2 ▸ Heap.get?_push_of_some _ e))
  have hacc : h₁.get? s.heap.objs.size = some (rawL [] 0) := hsb₁.extBut _ _ hDC (Heap.get?_push_of_some _ (hH2 ▸ Heap.get?_push_size _ rfl))
  have hfo : ∀ b ∈ fp, b < s.heap.objs.size := fun b hb => by
    obtain ⟨o, e, _⟩ := T.obj _ _ st b hb
    exact Heap.lt_size e
  have st1 : tn 0 h₁ := T.keep _ _ _ st fun b _ o e => old b o e
  generalize hDD : s.heap.objs.size = D at *
  generalize hCC : H2.objs.size = C at *
  have DleC : D ≤ C := hCle
  let Y : Cx := cxCompX X Nc scope cl C fp s H E'
  have I0 : Inv Y [] (none :: capV σ caps) H { s with heap := h₁, toks := s.toks + ([] : List (Str × Value)).length } := (comp_start I O hcl hcl2 (by rw [hDD]; exact hCle) hfp (fun b hb => by rw [hDD]; exact hfo b hb) old hns₁).wish _
  have Dfree : H D = none := by rw [← hDD]; exact I.hok.fresh (Nat.le_refl _)
  have DneC : D ≠ C := hDC
  have Dfs : D ∉ Y.fs := fun z => by
    have := I.stack.mem (show D ∈ frs X.stack from z)
    obtain ⟨_, o, e, _⟩ := this
    have := Heap.lt_size e
    rw [hDD] at this
    exact Nat.lt_irrefl _ this
  have Dcell : ∀ y c, Y.env.cells.lookup y = some c → c ≠ D := fun y c e z => by
    obtain ⟨v, q⟩ := I.cell y c (hcl y c e).1
    have := q.lt
    rw [z, hDD] at this
    exact Nat.lt_irrefl _ this
  have Dfp : ∀ b ∈ fp, b ≠ D := fun b hb => Nat.ne_of_lt (hfo b hb)
  have fpY : ∀ {H' : Hp}, (∀ b ∈ fp, H' b = none) → ∀ b ∈ fp, FpOk Y [] H' b := fun hn b hb =>
    ⟨hn b hb, Nat.ne_of_lt (Nat.lt_of_lt_of_le (hfo b hb) DleC), fun z => I0.ok.exfs b hb z, .inl hb, fun y c e => (I0.ok.exf b hb).2 y c e, fun p hp => absurd (show p ∈ ([] : List (Addr × Obj)) from hp) (by simp)⟩
  obtain ⟨W, ⟨m0, w0⟩, turn⟩ := h
  have loop : ∀ s₃ : Shared, s₃ = { s with heap := h₁, toks := s.toks + ([] : List (Str × Value)).length } →
      codeAny (model X.prog X.w) X.A (.compLoop (.ListComp elt [⟨.Name x px, iter, ifs, 0⟩] scope pos) 0 (.ref it) (.ref D) (compEnvC scope cl C X.env)) (RR (.ref D) C X.env.frame) s₃ := by
    rintro s₃ rfl
    have err : ∀ e s', YX X fp C s H E' e s' → notedBy (model X.prog X.w) X.A (compEnvC scope cl C X.env) (fun e s'' => RR (.ref D) C X.env.frame (.error e) s'') e s' := fun e s' c =>
      errC hB I hfp (by rw [hDD]; exact hCle) rfl c fun s'' q => hRE D C e s'' q
    refine compLoop_any (fun n s' => ∃ (i : Nat) (o : Option V) (H' : Hp) (ys : List V) (us : List Value) (k : Nat), Inv Y [] (o :: capV σ caps) H' s' ∧ tn i s'.heap ∧ (∀ b ∈ fp, H' b = none) ∧ s'.heap.get? D = some (rawL us k) ∧ H' D = none ∧ Vals ys us ∧ W i n ys H')
      ?_ m0 ⟨0, none, H, [], [], 0, I0, st1, fun b hb => (hfp b hb).1, hacc, Dfree, .nil, w0⟩
    rintro n s3 ⟨i, o3, H3, ys, us, k, I3, st3, fr3, hD3, nD3, rv, w3⟩
    have fpP : ∀ {H' : Hp} {ob : Obj}, (∀ b ∈ fp, H' b = none) → ∀ b ∈ fp, FpOk Y [(D, ob)] H' b := fun hn b hb => by
      obtain ⟨g0, g1, g2, g3, g4, _⟩ := fpY hn b hb
      refine ⟨g0, g1, g2, g3, g4, fun p hp => ?_⟩
      have e : p = (D, _) := List.mem_singleton.mp (show p ∈ [(D, _)] from hp)
      rw [e]
      exact Ne.symm (Dfp b hb)
    have IP : Inv Y [(D, rawL us k)] (o3 :: capV σ caps) H3 s3 := I3.pins_of fun p hp => by
      have e : p = (D, rawL us k) := List.mem_singleton.mp hp
      subst e
      exact ⟨hD3, nD3, DneC, Dfs, fun v z => by cases z⟩
    have pinD : ∀ {σ' : St} {H' : Hp} {s' : Shared} {pl : List (Addr × Obj)}, Inv Y ([(D, rawL us k)] ++ pl) σ' H' s' → s'.heap.get? D = some (rawL us k) ∧ H' D = none := fun I' => by
      have z := I'.pin (D, rawL us k) (List.mem_append_right _ (List.mem_append_left _ List.mem_cons_self))
      exact ⟨z.1, z.2.1⟩
    rcases turn i n ys H3 w3 with ⟨stop, hlen, fin⟩ | ⟨go, hlen, step⟩
    ·
      refine wpAny_mono (T.done Y rfl rfl rfl hc i _ s3 _ H3 (fun _ _ => False) IP (fpP fr3) st3 stop) (fun r s4 hr => ?_) fun _ _ z => z.elim
      obtain ⟨hr, I4⟩ := hr
      subst hr
      obtain ⟨gD, nD⟩ := pinD (pl := []) (by simpa using I4)
      obtain ⟨m, hn, _⟩ := I4.loc
      refine hRR D C s4 m hn (fun h' hs' => ⟨upd H3 D (.lst ys), ?_, (upd_ne (Ne.symm DneC)).trans I4.free, fin D nD⟩) hCle
      have nt : ∀ b ob, H3 b = some ob → b ≠ C := fun b ob e z => by
        have := I4.free
        rw [z] at e
        rw [show H3 C = none from this] at e
        cases e
      have u1 : Un (frs X.stack) fp H H3 s.heap h' := Un.but I4.base hs' (show s.heap.objs.size ≤ C by rw [hDD]; exact hCle)
      have ok1 : HOk X.prog X.w H3 h' := fun b ob e => (I4.hok b ob e).stay (fun c v hc q => (hs'.2 c (by
        rcases hc with z | z
        · rw [z]; exact nt b ob e
        · exact nt c _ z)).trans q) (fun _ q => q) fun _ _ q => q
      have gD' : h'.get? D = some (rawL us k) := (hs'.2 D DneC).trans gD
      exact I.call' (s' := { s4 with heap := h' }) (ch := fp) I4.os (u1.track (Nat.le_of_eq hDD) nD) (ok1.track nD ⟨hlen, us, k, rv, gD'⟩) I4.bare fun b hb => by
        obtain ⟨_, g1, _, g3, g4, g5⟩ := hfp b hb
        exact ⟨g3, g1, g4, g5⟩
    ·
      refine wpAny_mono (T.item Y rfl rfl rfl hc i _ s3 _ H3 (fun _ _ => False) IP (fpP fr3) st3 go) (fun r s4 hr => ?_) fun _ _ z => z.elim
      obtain ⟨u0, hr, h4⟩ := hr
      subst hr
      refine wpAny_mono h4 (fun _ s5 h5 => ?_) fun _ _ z => z.elim
      obtain ⟨x5, H5, I5, r5, y5, st5, fr5⟩ := h5
      have I5' := I5.pinned (fpP fr5) (T.obj _ _ st5)
      have tgt : PG Y (.Name x px) (gName 0) := pg_name (i := 0) O.nd O.hd (.inl (lookup_relabel I.ok.kind O.loc (by intro z; cases z))) (.inr (lookup_relabel I.ok.kind O.loc (by intro z; cases z)))
      refine wpAny_mono (tgt _ s5 _ H5 x5 u0 (fun σ2 H2 => σ2 = some x5 :: capV σ caps ∧ H2 = H5) I5' r5 ⟨rfl, rfl⟩) (fun _ s6 h6 => ?_) err
      obtain ⟨_, _, I6, rfl, rfl⟩ := h6
      refine wpAny_mono ((htc C fp s H).run I6 (step x5 _ y5)) (fun b s7 h7 => ?_) err
      obtain ⟨H7, I7, q7⟩ := h7
      have keepT : ∀ {σ' : St} {H' : Hp} {s' : Shared}, Inv Y ([(D, rawL us k)] ++ pinsAt fp s5.heap) σ' H' s' → tn (i + 1) s'.heap ∧ ∀ b ∈ fp, H' b = none := fun I' =>
        ⟨T.keep _ _ _ st5 fun b hb o e => (I'.pin (b, o) (List.mem_append_right _ (List.mem_append_right _ (mem_pinsAt hb e)))).1, fun b hb => by
          obtain ⟨o, e, d⟩ := T.obj _ _ st5 b hb
          exact (I'.pin (b, o) (List.mem_append_right _ (List.mem_append_right _ (mem_pinsAt hb e)))).2.1⟩
      cases b with
      | false =>
        rw [if_neg Bool.false_ne_true] at q7
        rw [if_neg Bool.false_ne_true]
        obtain ⟨m', hm, w7⟩ := q7
        obtain ⟨gD, nD⟩ := pinD I7
        obtain ⟨k1, k2⟩ := keepT I7
        exact ⟨m', hm, i + 1, some x5, H7, ys, us, k, I7.pins_of (fun p hp => nomatch hp), k1, k2, gD, nD, rv, w7⟩
      | true =>
        rw [if_pos rfl] at q7
        rw [if_pos rfl]
        refine wpAny_mono (hte C fp s H _ s7 _ H7 _ I7 q7) (fun u8 s8 h8 => ?_) err
        obtain ⟨y8, H8, I8, r8, m', hm, w8⟩ := h8
        obtain ⟨gD, nD⟩ := pinD I8
        obtain ⟨k1, k2⟩ := keepT I8
        refine call_meets F.slot_list_append ⟨_, gD, rfl⟩ F.entry_list_append (F.args_list_append_2 _ _) (PySem.list_append D us.toArray k u8 (by rw [List.size_toArray, ← rv.length]; omega)) ⟨gD, ?_⟩
        have q := PySem.IsL.update gD (·.push u8)
        have e1 : us.toArray.push u8 = (us ++ [u8]).toArray := by simp
        rw [e1] at q
        have I8' : Inv Y [] (some x5 :: capV σ caps) H8 s8 := I8.pins_of (fun p hp => nomatch hp)
        have I9 : Inv Y [] (some x5 :: capV σ caps) H8 { s8 with heap := s8.heap.update D (Obj.mapSeq (·.push u8)), toks := s8.toks } :=
          I8'.turned (it := D) (fun b o hb e => (Heap.get?_update_other s8.heap (Obj.mapSeq (·.push u8)) (Ne.symm hb)).trans e) nD DneC (.inr (Nat.le_of_eq hDD)) Dcell (fun p hp => nomatch hp)
        refine ⟨m', hm, i + 1, some x5, H8, ys ++ [y8], us ++ [u8], _, I9, T.keep _ _ _ k1 fun b hb o e => (Heap.get?_update_other s8.heap (Obj.mapSeq (·.push u8)) (Ne.symm (Dfp b hb))).trans e, k2, q, nD, rv.append (.cons r8 .nil), w8⟩
  exact codeAny_compStart_list (loop _ rfl) (T.self X.A 0 _ _ _ st1 (loop _ rfl))
end
def compPostU (M : Model) (A : Around) (E : Value → Shared → Prop) (u : Value → Sem Unit) (Q : Value → Shared → Prop) (acc : Value) (C : Addr) (f : Option Addr) (r : Result) (s' : Shared) : Prop :=
  match r with
  | .ok _ => wpAny M A (u acc) (fun _ s'' => ∃ m, s''.heap.Ns C m ∧ ∀ h', Heap.SameBut C s''.heap h' → Q .none { s'' with heap := h' }) E s'
  | .error x => ∃ m, s'.heap.Ns C m ∧ ∀ h', Heap.SameBut C s'.heap h' → ∀ cenv : Env, cenv.locals = C → cenv.frame = f → wpAny M A (passOn "comprehension.variables-let-go" x cenv : Sem Value) (fun _ _ => False) E { s' with heap := h' }
theorem comp_freeU {M : Model} {A : Around} {E : Value → Shared → Prop} {s : Shared} {env : Env} {e : Expr} {scope : Scope} {pos : Pos} {newAcc first : Sem Value} {g : Comprehension} {gs : List Comprehension} {cl : List (Str × Addr)} {u : Value → Sem Unit} {Q : Value → Shared → Prop}
    (hcl : clausesOf e = g :: gs) (hs : ∀ x, foldedSetIterable g.iter env x = pure x) (hclos : closureFor scope env = pure cl)
    (hkind : scope.kind = .function) (hnames : ∀ x ∈ scope.names, x.2 = .local → scope.names.lookup x.1 = some .local)
    (h : wpAny M A first (fun x s₁ => wpAny M A (pyIter x) (fun it s₂ => wpAny M A newAcc (fun acc s₃ =>
      wpAny M A (newFunctionEnv scope env.globals cl [] env.qual none .none (some env)) (fun cenv s₄ =>
        codeAny M A (.compStart e 0 it acc { cenv with scope := relabel scope env }) (compPostU M A E u Q acc cenv.locals cenv.frame) s₄) E s₃) E s₂) E s₁) E s) :
    wpAny M A (comprehension e scope env pos newAcc false first (some u)) Q E s := by
  unfold comprehension
  rw [hclos, hcl]
  refine wpAny_bind (wpAny_mono h (fun x s₁ h₁ => wpAny_bind (wpAny_standAt (wpAny_bind (wpAny_of_eq (hs x) (wpAny_bind (wpAny_holding (wpAny_mono h₁ (fun it s₂ h₂ =>
    wpAny_standIf (wpAny_bind (wpAny_mono h₂ (fun acc s₃ h₃ => wpAny_bind (wpAny_pure (wpAny_bind (wpAny_mono h₃ (fun cenv s₄ h₄ => ?_) fun _ _ h' => h')))) fun _ _ h' => h')))
      fun _ _ h' => h'))))))) fun _ _ h' => h')
  dsimp only
  have hv : ∀ x ∈ (scope.names.filter fun x => (x.2 == .local || x.2 == .cell) && x.1 != (".0" : Str)).reverse, x.2 = .local →
      Env.kindOf { cenv with scope := relabel scope env } x.1 = some .local := fun x hx hl => lookup_relabel_local (hnames x (List.mem_filter.mp (List.mem_reverse.mp hx)).1 hl)
  have hv' : ∀ x ∈ (scope.names.filter fun x => (x.2 == .local || x.2 == .cell) && x.1 != (".0" : Str)).reverse.drop 1 ++ (scope.names.filter fun x => (x.2 == .local || x.2 == .cell) && x.1 != (".0" : Str)).reverse.take 1,
      x.2 = .local → Env.kindOf { cenv with scope := relabel scope env } x.1 = some .local := fun x hx hl => (List.mem_append.mp hx).elim (fun h1 => hv x (List.mem_of_mem_drop h1) hl) (fun h1 => hv x (List.mem_of_mem_take h1) hl)
  refine wpAny_holding (wpAny_bind (wpAny_attempt (wpAny_holding (wpAny_run (codeAny_mono h₄ fun r s' hr => ?_)))))
  cases r with
  | ok f =>
    refine wpAny_bind (wpAny_rule (wpAny_bind (wpAny_holding (wpAny_mono hr (fun _ s'' hr' => ?_) fun _ _ h' => h'))))
    obtain ⟨m, hn, hr'⟩ := hr'
    exact wpAny_bind (wpAny_comp_letGo (cenv := { cenv with scope := relabel scope env }) hkind _ s'' m hv' hn fun h' m' _ hs' => wpAny_pure (hr' h' hs'))
  | error x =>
    obtain ⟨m, hn, hr⟩ := hr
    exact wpAny_bind (wpAny_holding (wpAny_comp_letGo (cenv := { cenv with scope := relabel scope env }) hkind _ s' m hv hn fun h' m' _ hs' => wpAny_mono (hr h' hs' _ rfl rfl) (fun _ _ f => f.elim) fun _ _ y => y))
section
variable {X : Cx} {pins : List (Addr × Obj)} {σ : St} {H : Hp} {s : Shared}
theorem ps_setCX {E' : XK} {i : Nat} {y x : Str} {px py pos spos : Pos} {Nc : List Str} {caps : List Nat} {scope : Scope} {iter elt : Expr} {ifs : List Expr} {wi : TI} {tc : TT} {te : TE} (hB : Body X) (hw : ∀ e s', FlX X E' e s' → X.xe e s') (O : CompOk X x Nc caps scope) (hc : X.calm = true)
    (hN : X.N.Nodup) (hy : X.N[i]? = some y) (hx : X.env.scope.names.lookup y = some .local) (hi : PI X (.Name x px) iter wi)
    (htc : ∀ cl C fp s H, PIf (cxCompX X Nc scope cl C fp s H E') ifs tc) (hte : ∀ cl C fp s H, PE (cxCompX X Nc scope cl C fp s H E') elt te)
    (hsw : swapsWith (.ListComp elt [⟨.Name x px, iter, ifs, 0⟩] scope pos) (some (.Name y py)) spos.line X.env = pure true) (hs : ∀ x, foldedSetIterable iter X.env x = pure x := by intro _; rfl) :
    PS X (.Assign [.Name y py] (.ListComp elt [⟨.Name x px, iter, ifs, 0⟩] scope pos) spos) (tAsg (tComp wi caps tc te) (gName i)) := by
  intro pins s σ H Dn I h
  rw [exec_Assign_Name_used _ _ _ _ hsw]
  refine wpAny_bind (wpAny_standAt (wpAny_bind ?_))
  obtain ⟨cl, e1, e2, e3⟩ := closure_is (scope := scope) (env := X.env) fun y hy hf => I.ok.has y.1 (.inl (O.fr y hy hf).1)
  show wpAny _ X.A (do let _ ← comprehension (.ListComp elt [⟨.Name x px, iter, ifs, 0⟩] scope pos) scope X.env _ (newList []) false (eval iter X.env) (some (assign (.Name y py) X.env))) _ _ s
  refine wpAny_bind (wpAny_mono (comp_freeU (u := assign (.Name y py) X.env) (Q := fun _ s' => SP X pins Dn .next s') rfl hs e1 O.kind O.names
    (thn (hi pins s σ H _ I h) fun v s1 h1 => thn h1 fun itv s2 h2 => ?_)) (fun _ s' hq => wpAny_pure (wpAny_pure hq)) fun _ _ e => e)
  obtain ⟨it, fp, tn, J, H2, e, I2, T, st2, f2, w2⟩ := h2
  subst e
  refine comp_blockX (RR := fun acc C f => compPostU (model X.prog X.w) X.A X.xe (assign (.Name y py) X.env) (fun _ s' => SP X pins Dn .next s') acc C f) hB O hc e2 e3 (hte cl) (htc cl) I2 T st2 f2 w2 ?_ ?_
  · intro D C s' m hn hq hC
    show wpAny _ X.A (assign (.Name y py) X.env (.ref D)) _ _ _
    obtain ⟨H', I', nC, q⟩ := hq s'.heap (.refl ..)
    have I'' : Inv X pins σ H' s' := I'
    have CL : C ≠ X.env.locals := Nat.ne_of_gt (Nat.lt_of_lt_of_le I2.lt hC)
    have Ccell : ∀ y c, X.env.cells.lookup y = some c → c ≠ C := fun y c e z => by
      obtain ⟨v, q⟩ := I2.cell y c e
      have := Nat.lt_of_lt_of_le q.lt hC
      rw [z] at this
      exact Nat.lt_irrefl _ this
    refine wpAny_assign_Name (store_ok2 I'' hN hy (.inl hx) (show RelV (.ref D) (.ref D) from rfl) (fun s3 I3 hsb => ?_) (.inr hx))
    obtain ⟨a, hsb, ha⟩ := hsb
    have aC : C ≠ a := by
      rcases ha with z | z
      · rw [z]; exact CL
      · exact Ne.symm (Ccell _ _ z)
    refine ⟨m, hn.sameBut hsb aC, fun h4 hs4 => ?_⟩
    refine ⟨_, H', I3.turned (it := C) (t' := s3.toks) (fun b o hb e => (hs4.2 b hb).trans e) nC CL (.inr (Nat.le_trans I2.sz hC)) Ccell (fun p hp z => ?_), q⟩
    · have := Nat.lt_of_lt_of_le (Heap.lt_size (I2.pin p hp).1) hC
      rw [z] at this
      exact Nat.lt_irrefl _ this
  · intro D C e s' ⟨⟨m, hn⟩, hq⟩
    refine ⟨m, hn, fun h' hs' cenv _ hf => ?_⟩
    obtain ⟨ea, Cc, t, H', B, rfl, fx, os, bare, bk, q⟩ := hq h' hs'
    unfold PySem.passOn
    obtain ⟨T', oT, ts, hE, _⟩ := fx.ob
    refine wpAny_bind (wpAny_field (s := { s' with heap := h' }) hE rfl (x := .ref T') rfl ?_)
    rw [if_neg (by simp)]
    refine wpAny_bind (fx_flight (s := { s' with heap := h' }) (f := cenv.frame) fx fun h2 x2 u2 => ?_)
    rw [hf, hB.frame] at x2
    refine wpAny_throw (hw _ _ ⟨ea, Cc, t, H', B, rfl, .seen x2, os, bare, bk.slots (frs_sub hB fx.fr) u2, q⟩)
end
end L2
namespace Mine
open PySem L2
def Sg (c : Nat) : Prop := c = 35 ∨ c = 46
structure Cl (cl : List (List Nat)) (m n : Nat) : Prop where
  hn : cl.length = n
  hm : ∀ t ∈ cl, t.length = m
  sg : ∀ t ∈ cl, ∀ c ∈ t, Sg c
  m1 : 1 ≤ m
  m40 : m ≤ 40
  n1 : 1 ≤ n
  n40 : n ≤ 40
def flip (c : Nat) : Nat := if c = 35 then 46 else 35
def back (cl : List (List Nat)) : List (List Nat) := cl.map fun t => t.reverse.map flip
def col (cl : List (List Nat)) (e : Nat) : List Nat := cl.map fun t => t.getD e 0
def quart (cl : List (List Nat)) (m : Nat) : List (List Nat) := (List.range m).map fun e => (col cl e).map flip
def sgn (cl : List (List Nat)) (m n : Nat) (x y : Int) : Nat := (cl.getD (y % (n : Int)).toNat []).getD (x % (m : Int)).toNat 0
def met (st ln c s : Int) : Int := ln / c + (if (s - st) % c < ln % c then 1 else 0)
theorem met_bound {st c s n : Int} (hc : 0 < c) (hn : 0 ≤ n) : 0 ≤ met st n c s ∧ met st n c s ≤ n + 1 := by
  unfold met
  have h1 := Int.ediv_nonneg hn (by omega : 0 ≤ c)
  have h2 : n / c ≤ n := Int.ediv_le_self c hn
  by_cases h3 : (s - st) % c < n % c
  · rw [if_pos h3]; omega
  · rw [if_neg h3]; omega
def sumN (f : Nat → Int) : Nat → Int
  | 0 => 0
  | k + 1 => sumN f k + f k
theorem sumN_bound {f : Nat → Int} {b : Int} : ∀ {n : Nat}, (∀ k, k < n → 0 ≤ f k ∧ f k ≤ b) → 0 ≤ sumN f n ∧ sumN f n ≤ n * b
  | 0, _ => by show 0 ≤ (0 : Int) ∧ (0 : Int) ≤ ((0 : Nat) : Int) * b; simp
  | n + 1, h => by
    have ih := sumN_bound (f := f) (b := b) (n := n) fun k hk => h k (by omega)
    have hn := h n (by omega)
    show 0 ≤ sumN f n + f n ∧ sumN f n + f n ≤ ((n + 1 : Nat) : Int) * b
    rw [Int.natCast_succ, Int.add_mul, Int.one_mul]
    omega
def runS (g : Nat → Int) (st : Int) (c : Nat) : Nat → Int
  | 0 => 0
  | n + 1 => runS g st c n + g ((st + (n : Int)) % (c : Int)).toNat
def isH (cl : List (List Nat)) (p e : Nat) : Int := if (cl.getD p []).getD e 0 = 35 then 1 else 0
def inPick (cl : List (List Nat)) (m : Nat) (left wide : Int) (p : Nat) : Int := sumN (fun e => if (cl.getD p []).getD e 0 = 35 then met left wide (m : Int) (e : Int) else 0) m
def overs (cl : List (List Nat)) (m n : Nat) (left first wide high : Int) : Int := sumN (fun p => inPick cl m left wide p * met first high (n : Int) (p : Int)) n
def cnt (cl : List (List Nat)) (m n : Nat) (left first : Int) (wide high : Nat) : Int := runS (fun p => runS (isH cl p) left m wide) first n high
theorem inPick_bound (cl : List (List Nat)) {m : Nat} (hm : 1 ≤ m) {left wide : Int} (hw : 0 ≤ wide) (p : Nat) : 0 ≤ inPick cl m left wide p ∧ inPick cl m left wide p ≤ m * (wide + 1) := by
  unfold inPick
  refine sumN_bound fun k hk => ?_
  have b := met_bound (st := left) (c := (m : Int)) (s := (k : Int)) (n := wide) (by omega) hw
  split
  · exact b
  · omega
def stps (a b : Int) : List Int := if a < b then rngL (a + 1) 1 (b - a).toNat else rngL (a - 1) (-1) (a - b).toNat
def absI (z : Int) : Int := if z < 0 then -z else z
def go (a : Int) : List Int → List Int
  | [] => []
  | b :: r => stps a b ++ go b r
def pnum : List Int → List Int
  | [] => []
  | s :: r => s :: go s r
def lst (a : Int) : List Int → Int
  | [] => a
  | b :: r => lst b r
def dec (n : Nat) : List Nat := (Str.ofString (toString (n : Int))).cps.toList
def decOk (n : Nat) : Bool := (dec n).all (fun c => decide (48 ≤ c ∧ c ≤ 57)) && decide (1 ≤ (dec n).length ∧ (dec n).length ≤ 2) && decide (¬ ((dec n).length = 2 ∧ (dec n)[0]? = some 48)) && decide (PySem.NumText.digitsVal (dec n) = n)
structure Dec (n : Nat) : Prop where
  dg : ∀ c ∈ dec n, 48 ≤ c ∧ c ≤ 57
  l1 : 1 ≤ (dec n).length
  l2 : (dec n).length ≤ 2
  z : ¬ ((dec n).length = 2 ∧ (dec n)[0]? = some 48)
  v : PySem.NumText.digitsVal (dec n) = n
def tails : List Nat → List Nat
  | [] => []
  | n :: r => 45 :: (dec n ++ tails r)
def pathT : List Nat → List Nat
  | [] => []
  | n :: r => dec n ++ tails r
def Stop (rest : List Nat) : Prop := ∀ c, rest[0]? = some c → ¬ (48 ≤ c ∧ c ≤ 57) ∧ c ≠ 45
inductive Nd where
  | nam (w : List Nat)
  | num (n : Nat)
  | run (r : List Nat)
  | node (w : List Nat) (ts : List Nd)
namespace Pat
def sk (l : List Nat) : List Nat := l.dropWhile fun c => decide (c = 32)
def letter (c : Nat) : Bool := decide (97 ≤ c ∧ c ≤ 122)
def figure (c : Nat) : Bool := decide (48 ≤ c ∧ c ≤ 57)
def knot (c : Nat) : Bool := decide (c = 35 ∨ c = 46)
def one (c : Nat) : List Nat → Option (List Nat)
  | [] => none
  | a :: l => if a = c then some l else none
def okNum (f : List Nat) : Bool := decide ((1 ≤ f.length ∧ f.length ≤ 2) ∧ ¬ (f.length = 2 ∧ f[0]? = some 48))
def num (l : List Nat) : Option (Nat × List Nat) :=
  if okNum (l.takeWhile figure) = true then some (PySem.NumText.digitsVal (l.takeWhile figure), sk (l.dropWhile figure)) else none
def comma (l : List Nat) : Option (List Nat) := (one 44 l).map sk
def run (l : List Nat) : Option (List Nat × List Nat) :=
  if l.takeWhile knot = [] then none else some (l.takeWhile knot, sk (l.dropWhile knot))
def runsMore : Nat → List Nat → Option (List (List Nat) × List Nat)
  | 0, _ => none
  | k + 1, l => match one 44 l with
    | none => some ([], l)
    | some l1 => match run (sk l1) with
      | none => none
      | some (r, l2) => (runsMore k l2).map fun p => (r :: p.1, p.2)
def runs (l : List Nat) : Option (List (List Nat) × List Nat) :=
  match run l with
  | none => none
  | some (r, l1) => match runsMore (l1.length + 1) l1 with
    | none => none
    | some (rs, l2) => if (r :: rs).length > 40 then none else some (r :: rs, l2)
def wants (w : List Nat) : Option (List Nat) :=
  if w = [116, 119, 105, 108, 108] ∨ w = [115, 97, 116, 105, 110] then some [110, 110]
  else if w = [98, 101, 115, 105, 100, 101] ∨ w = [97, 98, 111, 118, 101] ∨ w = [108, 97, 121] then some [112, 112]
  else if w = [109, 105, 114, 114, 111, 114] ∨ w = [117, 112, 101, 110, 100] ∨ w = [98, 97, 99, 107] ∨ w = [113, 117, 97, 114, 116, 101, 114] then some [112]
  else if w = [116, 105, 108, 101] then some [112, 110, 110]
  else if w = [98, 108, 111, 99, 107, 115] then some [112, 112, 112]
  else none
def rowsW : List Nat := [114, 111, 119, 115]
def isWord (w : List Nat) : Bool := decide (w = rowsW) || (wants w).isSome
def isName (w : List Nat) : Bool := decide (1 ≤ w.length ∧ w.length ≤ 20) && w.all letter && !isWord w
def args (sub : List Nat → Option (Nd × List Nat)) : Bool → List Nat → List Nat → Option (List Nd × List Nat)
  | _, [], l => some ([], l)
  | fst, k :: ks, l =>
    match (if fst = true then some l else comma l) with
    | none => none
    | some l1 => match (if k = 112 then sub l1 else (num l1).map fun p => (Nd.num p.1, p.2)) with
      | none => none
      | some (a, l2) => (args sub false ks l2).map fun p => (a :: p.1, p.2)
def things (sub : List Nat → Option (Nd × List Nat)) (w l : List Nat) : Option (List Nd × List Nat) :=
  if w = rowsW then (runs l).map fun p => (p.1.map Nd.run, p.2)
  else match wants w with
    | none => none
    | some ks => args sub true ks l
def node : Nat → List Nat → Option (Nd × List Nat)
  | 0, _ => none
  | d + 1, l =>
    match one 40 (sk (l.dropWhile letter)) with
    | none => if isName (l.takeWhile letter) = true then some (.nam (l.takeWhile letter), sk (l.dropWhile letter)) else none
    | some l1 => match things (node d) (l.takeWhile letter) (sk l1) with
      | none => none
      | some (ts, l2) => match one 41 l2 with
        | none => none
        | some l3 => some (.node (l.takeWhile letter) ts, sk l3)
def whole (l : List Nat) : Option Nd :=
  match node 12 (sk l) with
  | some (n, []) => some n
  | _ => none
end Pat
def wid (cl : List (List Nat)) (ac : Nat) : List (List Nat) := cl.map fun t => (List.replicate ac t).flatten
def til (cl : List (List Nat)) (ac al : Nat) : List (List Nat) := (List.replicate al (wid cl ac)).flatten
def plc (os : List Int) (k : Nat) : Nat := (os.take k).count (os.getD k 0)
def sgnAt (o e : Int) (own : List Nat) (p : Nat) : Nat := if o = e then own.getD p 0 else if e < o then 35 else 46
def layRow (ps : List (List (List Nat))) (es : List Int) (o : Int) (b : Nat) : List Nat := (List.range es.length).map fun k => sgnAt o (es.getD k 0) ((ps.getD o.toNat []).getD b []) (plc es k)
def lay (ps : List (List (List Nat))) (es os : List Int) : List (List Nat) := (List.range os.length).map fun j => layRow ps es (os.getD j 0) (plc os j)
structure PcOk (ps : List (List (List Nat))) (es os : List Int) : Prop where
  e : ∀ z ∈ es, 0 ≤ z ∧ z < (ps.length : Int)
  o : ∀ z ∈ os, 0 ≤ z ∧ z < (ps.length : Int)
  hn : ∀ i, i < ps.length → (ps.getD i []).length = os.count (i : Int)
  hm : ∀ i, i < ps.length → ∀ t ∈ ps.getD i [], t.length = es.count (i : Int) ∧ ∀ c ∈ t, Sg c
  e1 : 1 ≤ es.length
  e40 : es.length ≤ 40
  o1 : 1 ≤ os.length
  o40 : os.length ≤ 40
structure Own (es : List Int) (z : Int) (i : Nat) (ms : List Nat) : Prop where
  len : ms.length = (es.take i).count z
  lt : ∀ m ∈ ms, m < i
  at' : ∀ a m, ms[a]? = some m → es.getD m 0 = z ∧ (es.take m).count z = a
def Rs (ks : List Int) : Prop := (∀ (i : Nat) (a b : Int), ks[i]? = some a → ks[i + 1]? = some b → a < b) ∧ ∀ k ∈ ks, 0 ≤ k ∧ k < 40
structure Ft (th : List Int) (tss : List (List Int)) (tr : List Int) : Prop where
  m1 : 1 ≤ th.length
  m40 : th.length ≤ 40
  t1 : 1 ≤ tss.length
  t40 : tss.length ≤ 40
  n1 : 1 ≤ tr.length
  n40 : tr.length ≤ 40
  hth : ∀ v ∈ th, 0 ≤ v ∧ v < 40
  hti : ∀ ks ∈ tss, Rs ks
  htr : ∀ v ∈ tr, 0 ≤ v ∧ v < tss.length
def shd (th ks : List Int) : List Nat := th.map fun s => if s ∈ ks then 35 else 46
def wv (th : List Int) (tss : List (List Int)) (tr : List Int) : List (List Nat) := tr.map fun v => shd th (tss.getD v.toNat [])
section
variable {α β : Type} [DecidableEq α] [DecidableEq β]
def unl (l : List α) : List α := l.foldl (fun f x => if x ∈ f then f else f ++ [x]) []
def ix (l : List α) (x : α) : Nat := @List.idxOf α instBEqOfDecidableEq x l
def num (l : List α) : List Nat := l.map fun x => ix (unl l) x
end
def bw (bs : List Nat) (F : Nat) (ws : List Nat) : List Nat := bs.flatMap fun b => ws.map fun x => b * F + x
def fil (pr one other : List (List Nat)) : List (List Nat) := pr.flatMap fun u => (one.zip other).map fun q => u.flatMap fun c => if c = 35 then q.1 else q.2
section
variable {pr one other : List (List Nat)} {m n w h : Nat} (C : Cl pr m n) (C1 : Cl one w h) (C2 : Cl other w h)
include C C1 C2
end
def twW : List Nat := [116, 119, 105, 108, 108]
def saW : List Nat := [115, 97, 116, 105, 110]
def beW : List Nat := [98, 101, 115, 105, 100, 101]
def abW : List Nat := [97, 98, 111, 118, 101]
def miW : List Nat := [109, 105, 114, 114, 111, 114]
def upW : List Nat := [117, 112, 101, 110, 100]
def baW : List Nat := [98, 97, 99, 107]
def quW : List Nat := [113, 117, 97, 114, 116, 101, 114]
def tiW : List Nat := [116, 105, 108, 101]
def blW : List Nat := [98, 108, 111, 99, 107, 115]
def laW : List Nat := [108, 97, 121]
def twl (m n : Nat) (y x : Nat) : Nat := if (x + (m + n) - y) % (m + n) < m then 35 else 46
def twT (m n y : Nat) : List Nat := (List.range (m + n)).map (twl m n y)
def fst2 (m n : Nat) : List Nat := List.replicate m 35 ++ List.replicate n 46
def stT (s o : Nat) : List Nat := (List.range s).map fun x => if x = o then 35 else 46
def saT (s p y : Nat) : List Nat := stT s (y * p % s)
def cps2 (m n i : Nat) : List Bool := (List.range i).map fun j => decide (m % (2 + j) = 0) && decide (n % (2 + j) = 0)
def cop (m n k : Nat) : Bool := (cps2 m n (k - 1)).any id
def Pri (s p : Nat) : Prop := 1 ≤ p ∧ p < s ∧ cop s p p = false
instance (s p : Nat) : Decidable (Pri s p) := inferInstanceAs (Decidable (_ ∧ _ ∧ _))
inductive Rf where
  | nop
  | big
  | unk
inductive Res where
  | ok (rows : List (List Nat))
  | no (f : Rf)
def wdt (x : List (List Nat)) : Nat := (x.headD []).length
def mRows (rs : List (List Nat)) : Res := if (rs.map fun r => decide (¬ r.length = wdt rs)).any id = true then .no .nop else if 40 < wdt rs ∨ 40 < rs.length then .no .big else .ok rs
def mTwill (a b : Nat) : Res := if a < 1 ∨ b < 1 then .no .nop else if 40 < a + b then .no .big else .ok ((List.range (a + b)).map (twT a b))
def mSatin (m n : Nat) : Res := if ¬ Pri m n then .no .nop else if 40 < m then .no .big else .ok ((List.range m).map (saT m n))
def mBeside (x y : List (List Nat)) : Res := if ¬ x.length = y.length then .no .nop else if 40 < wdt x + wdt y ∨ 40 < x.length then .no .big else .ok (List.zipWith (· ++ ·) x y)
def mAbove (x y : List (List Nat)) : Res := if ¬ wdt x = wdt y then .no .nop else if 40 < wdt x ∨ 40 < x.length + y.length then .no .big else .ok (x ++ y)
def mOne (z : List Nat) (x : List (List Nat)) : Res := if z = miW then .ok (x.map List.reverse) else if z = upW then .ok x.reverse else if z = baW then .ok (back x) else .ok (quart x (wdt x))
def mTile (x : List (List Nat)) (a b : Nat) : Res := if a < 1 ∨ b < 1 then .no .nop else if 40 < wdt x * a ∨ 40 < x.length * b then .no .big else .ok (til x a b)
def mBlocks (p x y : List (List Nat)) : Res := if ¬ wdt x = wdt y ∨ ¬ x.length = y.length then .no .nop else if 40 < wdt p * wdt x ∨ 40 < p.length * x.length then .no .big else .ok (fil p x y)
def alt2 (k : Nat) : List Int := (List.replicate k [(0 : Int), 1]).flatten
def mLay (x y : List (List Nat)) : Res := if ¬ wdt x = wdt y ∨ ¬ x.length = y.length then .no .nop else if 40 < 2 * wdt x ∨ 40 < 2 * x.length then .no .big else .ok (lay [x, y] (alt2 (wdt x)) (alt2 x.length))
inductive Arg where
  | num (n : Nat)
  | run (r : List Nat)
  | cl (x : List (List Nat)) (z : List Nat)
def runOf : Arg → List Nat
  | .run r => r
  | _ => []
def made (z : List Nat) (as : List Arg) : Res :=
  if z = Pat.rowsW then mRows (as.map runOf) else
  match as with
  | [.num a, .num b] => if z = twW then mTwill a b else mSatin a b
  | [.cl x _] => mOne z x
  | [.cl x _, .cl y _] => if z = beW then mBeside x y else if z = abW then mAbove x y else mLay x y
  | [.cl x _, .num a, .num b] => mTile x a b
  | [.cl x _, .cl y _, .cl w _] => mBlocks x y w
  | _ => .no .nop
def cj : List (List Nat) → List Nat
  | [] => []
  | y :: ys => y ++ (ys.map fun y => [44] ++ y).flatten
def wrA : Arg → List Nat
  | .num n => dec n
  | .run r => r
  | .cl _ z => z
def wz (z : List Nat) (ys : List (List Nat)) : List Nat := z ++ (40 :: (cj ys ++ [41]))
def wr : Nat → Nd → List Nat
  | _, .nam z => z
  | _, .num n => dec n
  | _, .run r => r
  | 0, .node _ _ => []
  | d + 1, .node z ts => wz z (ts.map (wr d))
def arg (sub : Nd → Res) (wrt : Nd → List Nat) : Nd → Rf ⊕ Arg
  | .num n => .inr (.num n)
  | .run r => .inr (.run r)
  | .nam z => match sub (.nam z) with
    | .ok x => .inr (.cl x (wrt (.nam z)))
    | .no f => .inl f
  | .node z ts => match sub (.node z ts) with
    | .ok x => .inr (.cl x (wrt (.node z ts)))
    | .no f => .inl f
def args (sub : Nd → Res) (wrt : Nd → List Nat) : List Nd → Rf ⊕ List Arg
  | [] => .inr []
  | x :: ts => match arg sub wrt x with
    | .inl f => .inl f
    | .inr a => match args sub wrt ts with
      | .inl f => .inl f
      | .inr as => .inr (a :: as)
abbrev Kns := List (List Nat × List (List Nat))
def known (kn : Kns) (z : List Nat) : Res := match kn.find? fun p => decide (p.1 = z) with
  | some p => .ok p.2
  | none => .no .unk
def out (kn : Kns) : Nat → Nd → Res
  | _, .nam z => known kn z
  | d + 1, .node z ts => match args (out kn d) (wr d) ts with
    | .inl f => .no f
    | .inr as => made z as
  | _, _ => .no .nop
theorem wr_nam {d : Nat} {z : List Nat} : wr d (.nam z) = z := by cases d <;> rfl
theorem wr_num {d n : Nat} : wr d (.num n) = dec n := by cases d <;> rfl
theorem wr_run {d : Nat} {r : List Nat} : wr d (.run r) = r := by cases d <;> rfl
inductive Wd : Nat → Nd → Prop
  | nam {d : Nat} {z : List Nat} : Pat.isName z = true → Wd (d + 1) (.nam z)
  | rows {d : Nat} {rs : List (List Nat)} : rs ≠ [] → rs.length ≤ 40 → (∀ r ∈ rs, r ≠ [] ∧ ∀ c ∈ r, Sg c) → Wd (d + 1) (.node Pat.rowsW (rs.map Nd.run))
  | nums {d : Nat} {z : List Nat} {a b : Nat} : z = twW ∨ z = saW → a < 100 → b < 100 → Wd (d + 1) (.node z [.num a, .num b])
  | one {d : Nat} {z : List Nat} {x : Nd} : z = miW ∨ z = upW ∨ z = baW ∨ z = quW → Wd d x → Wd (d + 1) (.node z [x])
  | two {d : Nat} {z : List Nat} {x y : Nd} : z = beW ∨ z = abW ∨ z = laW → Wd d x → Wd d y → Wd (d + 1) (.node z [x, y])
  | tile {d : Nat} {x : Nd} {a b : Nat} : Wd d x → a < 100 → b < 100 → Wd (d + 1) (.node tiW [x, .num a, .num b])
  | blk {d : Nat} {x y w : Nd} : Wd d x → Wd d y → Wd d w → Wd (d + 1) (.node blW [x, y, w])
theorem Pat.sk_len (l : List Nat) : (Pat.sk l).length ≤ l.length := (List.dropWhile_suffix _).length_le
theorem Pat.tk_len (p : Nat → Bool) (l : List Nat) : (l.takeWhile p).length + (l.dropWhile p).length = l.length := by
  have := congrArg List.length (List.takeWhile_append_dropWhile (p := p) (l := l))
  rw [List.length_append] at this
  exact this
theorem Pat.one_len {c : Nat} {l l' : List Nat} (h : Pat.one c l = some l') : l'.length + 1 = l.length := by
  cases l with
  | nil => cases h
  | cons a l =>
    unfold Pat.one at h
    dsimp only at h
    by_cases e : a = c
    · rw [if_pos e] at h; cases h; rfl
    · rw [if_neg e] at h; cases h
theorem tk_all {p : Nat → Bool} : ∀ {l : List Nat} {c : Nat}, c ∈ l.takeWhile p → p c = true
  | [], c, h => by simp at h
  | a :: l, c, h => by
    rw [List.takeWhile_cons] at h
    split at h
    next e =>
      rcases List.mem_cons.mp h with rfl | h
      · exact e
      · exact tk_all h
    · simp at h
theorem fig_val {f : List Nat} (h : Pat.okNum f = true) (hf : ∀ c ∈ f, Pat.figure c = true) : NumText.digitsVal f < 100 ∧ (dec (NumText.digitsVal f)).length ≤ f.length := by
  unfold Pat.okNum at h
  have h := of_decide_eq_true h
  have dig : ∀ c, Pat.figure c = true → 48 ≤ c ∧ c ≤ 57 := fun c hc => of_decide_eq_true hc
  rcases f with _ | ⟨a, _ | ⟨b, _ | ⟨c, f⟩⟩⟩
  · simp at h
  · have ha := dig a (hf a (by simp))
    have e : a = 48 ∨ a = 49 ∨ a = 50 ∨ a = 51 ∨ a = 52 ∨ a = 53 ∨ a = 54 ∨ a = 55 ∨ a = 56 ∨ a = 57 := by omega
    rcases e with rfl | rfl | rfl | rfl | rfl | rfl | rfl | rfl | rfl | rfl <;> decide +kernel
  · have ha := dig a (hf a (by simp))
    have hb := dig b (hf b (by simp))
    have e : a = 48 ∨ a = 49 ∨ a = 50 ∨ a = 51 ∨ a = 52 ∨ a = 53 ∨ a = 54 ∨ a = 55 ∨ a = 56 ∨ a = 57 := by omega
    have e2 : b = 48 ∨ b = 49 ∨ b = 50 ∨ b = 51 ∨ b = 52 ∨ b = 53 ∨ b = 54 ∨ b = 55 ∨ b = 56 ∨ b = 57 := by omega
    have key : ∀ x ∈ List.range 58, ∀ y ∈ List.range 58, 48 ≤ x → 48 ≤ y → NumText.digitsVal [x, y] < 100 ∧ (dec (NumText.digitsVal [x, y])).length ≤ 2 := by decide +kernel
    exact key a (List.mem_range.mpr (by omega)) b (List.mem_range.mpr (by omega)) (by omega) (by omega)
  · simp at h
theorem Pat.num_is {l l' : List Nat} {n : Nat} (h : Pat.num l = some (n, l')) : n < 100 ∧ (dec n).length + l'.length ≤ l.length := by
  unfold Pat.num at h
  split at h
  next e =>
    cases h
    have g := fig_val e fun c hc => tk_all hc
    have := Pat.sk_len (l.dropWhile Pat.figure)
    have := Pat.tk_len Pat.figure l
    exact ⟨g.1, by omega⟩
  · cases h
theorem Pat.comma_len {l l' : List Nat} (h : Pat.comma l = some l') : l'.length + 1 ≤ l.length := by
  unfold Pat.comma at h
  cases e : Pat.one 44 l with
  | none => rw [e] at h; cases h
  | some l1 =>
    rw [e] at h
    cases h
    have := Pat.one_len e
    have := Pat.sk_len l1
    omega
theorem Pat.run_is {l r l' : List Nat} (h : Pat.run l = some (r, l')) : r ≠ [] ∧ (∀ c ∈ r, Sg c) ∧ r.length + l'.length ≤ l.length := by
  unfold Pat.run at h
  split at h
  · cases h
  next e =>
    cases h
    have := Pat.sk_len (l.dropWhile Pat.knot)
    have := Pat.tk_len Pat.knot l
    exact ⟨e, fun c hc => of_decide_eq_true (p := c = 35 ∨ c = 46) (tk_all hc), by omega⟩
theorem Pat.more_is : ∀ {k : Nat} {l l' : List Nat} {rs : List (List Nat)}, Pat.runsMore k l = some (rs, l') → (∀ r ∈ rs, r ≠ [] ∧ ∀ c ∈ r, Sg c) ∧ ((rs.map fun y => [44] ++ y).flatten).length + l'.length ≤ l.length
  | 0, l, l', rs, h => by cases h
  | k + 1, l, l', rs, h => by
    unfold Pat.runsMore at h
    cases e : Pat.one 44 l with
    | none => rw [e] at h; cases h; exact ⟨fun r hr => by simp at hr, by simp⟩
    | some l1 =>
      rw [e] at h
      dsimp only at h
      cases e2 : Pat.run (Pat.sk l1) with
      | none => rw [e2] at h; cases h
      | some q =>
        obtain ⟨r, l2⟩ := q
        rw [e2] at h
        dsimp only at h
        cases e3 : Pat.runsMore k l2 with
        | none => rw [e3] at h; cases h
        | some q =>
          obtain ⟨rs', l3⟩ := q
          rw [e3] at h
          cases h
          have g1 := Pat.one_len e
          have g2 := Pat.run_is e2
          have g3 := Pat.more_is e3
          have g4 := Pat.sk_len l1
          refine ⟨fun s hs => ?_, ?_⟩
          · rcases List.mem_cons.mp hs with rfl | hs
            · exact ⟨g2.1, g2.2.1⟩
            · exact g3.1 s hs
          · rw [List.map_cons, List.flatten_cons, List.length_append, List.length_append, List.length_singleton]
            have := g3.2
            have := g2.2.2
            dsimp only
            omega
theorem Pat.runs_is {l l' : List Nat} {rs : List (List Nat)} (h : Pat.runs l = some (rs, l')) : rs ≠ [] ∧ rs.length ≤ 40 ∧ (∀ r ∈ rs, r ≠ [] ∧ ∀ c ∈ r, Sg c) ∧ (cj rs).length + l'.length ≤ l.length := by
  unfold Pat.runs at h
  cases e : Pat.run l with
  | none => rw [e] at h; cases h
  | some q =>
    obtain ⟨r, l1⟩ := q
    rw [e] at h
    dsimp only at h
    cases e2 : Pat.runsMore (l1.length + 1) l1 with
    | none => rw [e2] at h; cases h
    | some q =>
      obtain ⟨rs', l2⟩ := q
      rw [e2] at h
      dsimp only at h
      split at h
      · cases h
      next c =>
        cases h
        have g1 := Pat.run_is e
        have g2 := Pat.more_is e2
        refine ⟨by simp, by omega, fun s hs => ?_, ?_⟩
        · rcases List.mem_cons.mp hs with rfl | hs
          · exact ⟨g1.1, g1.2.1⟩
          · exact g2.1 s hs
        · unfold cj
          rw [List.length_append]
          have := g1.2.2
          have := g2.2
          omega
def Rdg (d : Nat) (l : List Nat) (x : Nd) (l' : List Nat) : Prop := (wr d x).length + l'.length ≤ l.length
def Kds (d : Nat) : List Nat → List Nd → Prop
  | [], [] => True
  | k :: ks, x :: ts => (if k = 112 then Wd d x else ∃ n, x = Nd.num n ∧ n < 100) ∧ Kds d ks ts
  | _, _ => False
theorem args_is {d : Nat} (ih : ∀ {l l' : List Nat} {x : Nd}, Pat.node d l = some (x, l') → Wd d x ∧ Rdg d l x l') : ∀ {ks l l' : List Nat} {ts : List Nd} {fst : Bool}, Pat.args (Pat.node d) fst ks l = some (ts, l') →
    Kds d ks ts ∧ (if fst = true then (cj (ts.map (wr d))).length else ((ts.map (wr d)).map fun y => [44] ++ y).flatten.length) + l'.length ≤ l.length
  | [], l, l', ts, fst, h => by
    unfold Pat.args at h
    cases h
    refine ⟨trivial, ?_⟩
    cases fst <;> simp [cj]
  | k :: ks, l, l', ts, fst, h => by
    unfold Pat.args at h
    cases e : (if fst = true then some l else Pat.comma l) with
    | none => rw [e] at h; cases h
    | some l1 =>
      rw [e] at h
      dsimp only at h
      cases e2 : (if k = 112 then Pat.node d l1 else (Pat.num l1).map fun p => (Nd.num p.1, p.2)) with
      | none => rw [e2] at h; cases h
      | some q =>
        obtain ⟨a, l2⟩ := q
        rw [e2] at h
        dsimp only at h
        cases e3 : Pat.args (Pat.node d) false ks l2 with
        | none => rw [e3] at h; cases h
        | some q =>
          obtain ⟨ts', l3⟩ := q
          rw [e3] at h
          cases h
          have g3 := args_is ih e3
          have g2 : (if k = 112 then Wd d a else ∃ n, a = Nd.num n ∧ n < 100) ∧ (wr d a).length + l2.length ≤ l1.length := by
            by_cases c : k = 112
            · rw [if_pos c] at e2
              rw [if_pos c]
              exact ih e2
            · rw [if_neg c] at e2
              rw [if_neg c]
              cases e4 : Pat.num l1 with
              | none => rw [e4] at e2; cases e2
              | some q =>
                obtain ⟨n, l4⟩ := q
                rw [e4] at e2
                cases e2
                have g := Pat.num_is e4
                exact ⟨⟨n, rfl, g.1⟩, by rw [wr_num]; exact g.2⟩
          refine ⟨⟨g2.1, g3.1⟩, ?_⟩
          have g3 := g3.2
          rw [if_neg (fun z => nomatch z)] at g3
          cases fst with
          | true =>
            cases e
            rw [if_pos rfl, List.map_cons]
            unfold cj
            rw [List.length_append]
            dsimp only
            omega
          | false =>
            rw [if_neg (fun z => nomatch z)] at e ⊢
            have := Pat.comma_len e
            rw [List.map_cons, List.map_cons, List.flatten_cons, List.length_append, List.length_append, List.length_singleton]
            dsimp only
            omega
theorem Kds.nil {d : Nat} {ts : List Nd} (h : Kds d [] ts) : ts = [] := by
  cases ts with
  | nil => rfl
  | cons _ _ => exact h.elim
theorem Kds.cons {d k : Nat} {ks : List Nat} {ts : List Nd} (h : Kds d (k :: ks) ts) : ∃ x ts', ts = x :: ts' ∧ (if k = 112 then Wd d x else ∃ n, x = Nd.num n ∧ n < 100) ∧ Kds d ks ts' := by
  cases ts with
  | nil => exact h.elim
  | cons x ts' => exact ⟨x, ts', rfl, h.1, h.2⟩
theorem node_is : ∀ {d : Nat} {l l' : List Nat} {x : Nd}, Pat.node d l = some (x, l') → Wd d x ∧ Rdg d l x l'
  | 0, l, l', x, h => by cases h
  | d + 1, l, l', x, h => by
    unfold Pat.node at h
    have t1 := Pat.tk_len Pat.letter l
    have t2 := Pat.sk_len (l.dropWhile Pat.letter)
    cases e : Pat.one 40 (Pat.sk (l.dropWhile Pat.letter)) with
    | none =>
      rw [e] at h
      dsimp only at h
      split at h
      next c =>
        cases h
        exact ⟨.nam c, by unfold Rdg; rw [wr_nam]; omega⟩
      · cases h
    | some l1 =>
      rw [e] at h
      dsimp only at h
      have o1 := Pat.one_len e
      have s1 := Pat.sk_len l1
      generalize hz : l.takeWhile Pat.letter = z at h t1
      cases e2 : Pat.things (Pat.node d) z (Pat.sk l1) with
      | none => rw [e2] at h; cases h
      | some q =>
        obtain ⟨ts, l2⟩ := q
        rw [e2] at h
        dsimp only at h
        cases e3 : Pat.one 41 l2 with
        | none => rw [e3] at h; cases h
        | some l3 =>
          rw [e3] at h
          cases h
          have o3 := Pat.one_len e3
          have s3 := Pat.sk_len l3
          have main : Wd (d + 1) (.node z ts) ∧ (cj (ts.map (wr d))).length + l2.length ≤ (Pat.sk l1).length := by
            unfold Pat.things at e2
            by_cases c : z = Pat.rowsW
            · rw [if_pos c] at e2
              cases e4 : Pat.runs (Pat.sk l1) with
              | none => rw [e4] at e2; cases e2
              | some q =>
                obtain ⟨rs, l4⟩ := q
                rw [e4] at e2
                cases e2
                have g := Pat.runs_is e4
                refine ⟨by rw [c]; exact .rows g.1 g.2.1 g.2.2.1, ?_⟩
                rw [List.map_map, show (wr d ∘ Nd.run) = id from funext fun r => wr_run, List.map_id]
                exact g.2.2.2
            · rw [if_neg c] at e2
              cases e4 : Pat.wants z with
              | none => rw [e4] at e2; cases e2
              | some ks =>
                rw [e4] at e2
                dsimp only at e2
                have g := args_is (fun h => node_is h) e2
                rw [if_pos rfl] at g
                refine ⟨?_, g.2⟩
                have K := g.1
                unfold Pat.wants at e4
                split at e4
                next w =>
                  cases e4
                  obtain ⟨a, t1, rfl, p1, K⟩ := K.cons
                  obtain ⟨b, t2, rfl, p2, K⟩ := K.cons
                  cases K.nil
                  obtain ⟨a, rfl, ha⟩ := p1
                  obtain ⟨b, rfl, hb⟩ := p2
                  exact .nums w ha hb
                split at e4
                next w =>
                  cases e4
                  obtain ⟨a, t1, rfl, p1, K⟩ := K.cons
                  obtain ⟨b, t2, rfl, p2, K⟩ := K.cons
                  cases K.nil
                  exact .two w p1 p2
                split at e4
                next w =>
                  cases e4
                  obtain ⟨a, t1, rfl, p1, K⟩ := K.cons
                  cases K.nil
                  exact .one w p1
                split at e4
                next w =>
                  cases e4
                  obtain ⟨a, t1, rfl, p1, K⟩ := K.cons
                  obtain ⟨b, t2, rfl, p2, K⟩ := K.cons
                  obtain ⟨c, t3, rfl, p3, K⟩ := K.cons
                  cases K.nil
                  obtain ⟨b, rfl, hb⟩ := p2
                  obtain ⟨c, rfl, hc⟩ := p3
                  rw [w]
                  exact .tile p1 hb hc
                split at e4
                next w =>
                  cases e4
                  obtain ⟨a, t1, rfl, p1, K⟩ := K.cons
                  obtain ⟨b, t2, rfl, p2, K⟩ := K.cons
                  obtain ⟨c, t3, rfl, p3, K⟩ := K.cons
                  cases K.nil
                  rw [w]
                  exact .blk p1 p2 p3
                · cases e4
          exact ⟨main.1, by unfold Rdg wr wz; rw [List.length_append, List.length_cons, List.length_append, List.length_singleton]; have := main.2; omega⟩
theorem whole_is {l : List Nat} {x : Nd} (h : Pat.whole l = some x) : Wd 12 x ∧ (wr 12 x).length ≤ l.length := by
  unfold Pat.whole at h
  cases e : Pat.node 12 (Pat.sk l) with
  | none => rw [e] at h; cases h
  | some q =>
    obtain ⟨n, l'⟩ := q
    rw [e] at h
    cases l' with
    | nil =>
      cases h
      have g := node_is e
      refine ⟨g.1, ?_⟩
      have := g.2
      unfold Rdg at this
      have := Pat.sk_len l
      omega
    | cons _ _ => cases h
theorem Cl.wdt {x : List (List Nat)} {m n : Nat} (C : Cl x m n) : wdt x = m := by
  cases x with
  | nil => have := C.hn; have := C.n1; simp at *; omega
  | cons r x => exact C.hm r List.mem_cons_self
theorem Cl.same {x : List (List Nat)} {m n : Nat} (C : Cl x m n) : Cl x (Mine.wdt x) x.length := by rw [C.wdt, C.hn]; exact C
def Clo (x : List (List Nat)) : Prop := Cl x (wdt x) x.length
theorem Cl.clo {x : List (List Nat)} {m n : Nat} (C : Cl x m n) : Clo x := C.same
theorem known_clo {kn : Kns} {z : List Nat} {r : List (List Nat)} (hk : ∀ p ∈ kn, Clo p.2) (h : known kn z = .ok r) : Clo r := by
  unfold known at h
  cases e : kn.find? fun p => decide (p.1 = z) with
  | none => rw [e] at h; cases h
  | some p => rw [e] at h; cases h; exact hk p (List.mem_of_find?_eq_some e)
inductive Fit : List Nat → List Arg → Prop
  | rows {rs : List (List Nat)} : rs ≠ [] → rs.length ≤ 40 → (∀ r ∈ rs, r ≠ [] ∧ ∀ c ∈ r, Sg c) → Fit Pat.rowsW (rs.map Arg.run)
  | nums {z : List Nat} {a b : Nat} : z = twW ∨ z = saW → a < 100 → b < 100 → Fit z [.num a, .num b]
  | one {z v : List Nat} {x : List (List Nat)} : z = miW ∨ z = upW ∨ z = baW ∨ z = quW → Clo x → Fit z [.cl x v]
  | two {z v u : List Nat} {x y : List (List Nat)} : z = beW ∨ z = abW ∨ z = laW → Clo x → Clo y → Fit z [.cl x v, .cl y u]
  | tile {v : List Nat} {x : List (List Nat)} {a b : Nat} : Clo x → a < 100 → b < 100 → Fit tiW [.cl x v, .num a, .num b]
  | blk {v u s : List Nat} {x y w : List (List Nat)} : Clo x → Clo y → Clo w → Fit blW [.cl x v, .cl y u, .cl w s]
theorem cj_tail : ∀ {xs : List (List Nat)} {y : List Nat}, y ∈ xs → y.length ≤ ((xs.map fun y => [44] ++ y).flatten).length
  | [], y, h => by simp at h
  | a :: xs, y, h => by
    rw [List.map_cons, List.flatten_cons, List.length_append, List.length_append]
    rcases List.mem_cons.mp h with rfl | h
    · omega
    · have := cj_tail h; omega
theorem cj_le : ∀ {ys : List (List Nat)} {y : List Nat}, y ∈ ys → y.length ≤ (cj ys).length
  | [], y, h => by simp at h
  | x :: xs, y, h => by
    unfold cj
    rw [List.length_append]
    rcases List.mem_cons.mp h with rfl | h
    · omega
    · have := cj_tail h
      omega
def rdp (kn : Kns) (u : List Nat) : Res × List Nat := match Pat.whole u with
  | none => (.no .nop, [])
  | some x => (out kn 12 x, wr 12 x)
def Pat.good (c : Nat) : Prop := Pat.letter c = true ∨ Pat.figure c = true ∨ c = 35 ∨ c = 46 ∨ c = 44 ∨ c = 40 ∨ c = 41 ∨ c = 32
def Bt (l l' : List Nat) : Prop := ∃ p, l = p ++ l' ∧ ∀ c ∈ p, Pat.good c
def bl (g : Nat) : List Nat := List.replicate g 32
mutual
inductive Wt : Nd → List Nat → Prop
  | num {n g : Nat} : Wt (.num n) (dec n ++ bl g)
  | run {r : List Nat} {g : Nat} : Wt (.run r) (r ++ bl g)
  | nam {z : List Nat} {g : Nat} : Wt (.nam z) (z ++ bl g)
  | node {z : List Nat} {ts : List Nd} {us : List Nat} {g1 g2 g3 : Nat} : WtL ts us → Wt (.node z ts) (z ++ (bl g1 ++ (40 :: (bl g2 ++ (us ++ (41 :: bl g3))))))
inductive WtL : List Nd → List Nat → Prop
  | one {x : Nd} {u : List Nat} : Wt x u → WtL [x] u
  | cons {x : Nd} {u us : List Nat} {xs : List Nd} {g : Nat} : Wt x u → WtL xs us → WtL (x :: xs) (u ++ (44 :: (bl g ++ us)))
end
def Stp (l : List Nat) : Prop := l = [] ∨ ∃ c l', l = c :: l' ∧ (c = 44 ∨ c = 41)
theorem tw_app {p : Nat → Bool} : ∀ {a b : List Nat}, (∀ c ∈ a, p c = true) → (b = [] ∨ ∃ c b', b = c :: b' ∧ p c = false) → (a ++ b).takeWhile p = a ∧ (a ++ b).dropWhile p = b
  | [], b, _, hb => by
    rcases hb with rfl | ⟨c, b', rfl, h⟩
    · exact ⟨rfl, rfl⟩
    · rw [List.nil_append, List.takeWhile_cons, List.dropWhile_cons, h]
      exact ⟨rfl, rfl⟩
  | c :: a, b, ha, hb => by
    have ih := tw_app (p := p) (a := a) (fun d hd => ha d (List.mem_cons_of_mem _ hd)) hb
    rw [List.cons_append, List.takeWhile_cons, List.dropWhile_cons, ha c List.mem_cons_self]
    exact ⟨by rw [if_pos rfl, ih.1], by rw [if_pos rfl, ih.2]⟩
theorem bl_mem {g c : Nat} (h : c ∈ bl g) : c = 32 := (List.mem_replicate.mp h).2
theorem sk_bl {g : Nat} {l : List Nat} (h : l = [] ∨ ∃ c b', l = c :: b' ∧ ¬ c = 32) : Pat.sk (bl g ++ l) = l := by
  unfold Pat.sk
  refine (tw_app (fun c hc => decide_eq_true (bl_mem hc)) ?_).2
  rcases h with h | ⟨c, b', e, h⟩
  · exact .inl h
  · exact .inr ⟨c, b', e, decide_eq_false h⟩
theorem Stp.nb {l : List Nat} (h : Stp l) : l = [] ∨ ∃ c b', l = c :: b' ∧ ¬ c = 32 := by
  rcases h with h | ⟨c, l', e, h⟩
  · exact .inl h
  · exact .inr ⟨c, l', e, by omega⟩
theorem Stp.no {p : Nat → Bool} (h1 : p 32 = false) (h2 : p 44 = false) (h3 : p 41 = false) {g : Nat} {l : List Nat} (h : Stp l) : bl g ++ l = [] ∨ ∃ c b', bl g ++ l = c :: b' ∧ p c = false := by
  cases g with
  | zero =>
    rcases h with h | ⟨c, l', e, h⟩
    · exact .inl (by rw [h]; rfl)
    · exact .inr ⟨c, l', by rw [e]; rfl, by rcases h with rfl | rfl <;> assumption⟩
  | succ g => exact .inr ⟨32, bl g ++ l, rfl, h1⟩
theorem dec_fig : ∀ n ∈ List.range 100, Pat.okNum (dec n) = true ∧ NumText.digitsVal (dec n) = n ∧ (∀ c ∈ dec n, Pat.figure c = true) ∧ dec n ≠ [] := by decide +kernel
theorem num_wt {n g : Nat} {l : List Nat} (hn : n < 100) (h : Stp l) : Pat.num (dec n ++ bl g ++ l) = some (n, l) := by
  obtain ⟨d1, d2, d3, d4⟩ := dec_fig n (List.mem_range.mpr hn)
  have t := tw_app (p := Pat.figure) d3 (h.no (g := g) (by decide) (by decide) (by decide))
  unfold Pat.num
  rw [List.append_assoc, t.1, t.2, if_pos d1, d2, sk_bl h.nb]
theorem run_wt {r : List Nat} {g : Nat} {l : List Nat} (h1 : r ≠ []) (h2 : ∀ c ∈ r, Sg c) (h : Stp l) : Pat.run (r ++ bl g ++ l) = some (r, l) := by
  have t := tw_app (p := Pat.knot) (a := r) (fun c hc => decide_eq_true (h2 c hc)) (h.no (g := g) (by decide) (by decide) (by decide))
  unfold Pat.run
  rw [List.append_assoc, t.1, t.2, if_neg h1, sk_bl h.nb]
def Nb (l : List Nat) : Prop := ∃ c b', l = c :: b' ∧ ¬ c = 32
theorem Nb.app {l l' : List Nat} (h : Nb l) : Nb (l ++ l') := by
  obtain ⟨c, b, rfl, h⟩ := h
  exact ⟨c, b ++ l', rfl, h⟩
theorem nb_of {p : Nat → Bool} (h0 : p 32 = false) {z : List Nat} (h1 : z ≠ []) (h2 : ∀ c ∈ z, p c = true) : Nb z := by
  cases z with
  | nil => exact absurd rfl h1
  | cons c z =>
    refine ⟨c, z, rfl, fun e => ?_⟩
    have := h2 c List.mem_cons_self
    rw [e, h0] at this
    cases this
theorem isName_let {z : List Nat} (h : Pat.isName z = true) : z ≠ [] ∧ ∀ c ∈ z, Pat.letter c = true := by
  unfold Pat.isName at h
  simp only [Bool.and_eq_true, decide_eq_true_eq] at h
  refine ⟨fun e => by rw [e] at h; simp at h, fun c hc => List.all_eq_true.mp h.1.2 c hc⟩
theorem word_let {d : Nat} {z : List Nat} {ts : List Nd} (h : Wd (d + 1) (.node z ts)) : z ≠ [] ∧ ∀ c ∈ z, Pat.letter c = true := by
  cases h with
  | rows _ _ _ => decide
  | nums w _ _ => rcases w with rfl | rfl <;> decide
  | one w _ => rcases w with rfl | rfl | rfl | rfl <;> decide
  | two w _ _ => rcases w with rfl | rfl | rfl <;> decide
  | tile _ _ _ => decide
  | blk _ _ _ => decide
theorem wd_nb {d : Nat} {x : Nd} {u : List Nat} (W : Wd d x) (h : Wt x u) : Nb u := by
  cases h with
  | num => cases W
  | run => cases W
  | nam =>
    cases W with
    | nam h => exact (nb_of (p := Pat.letter) (by decide) (isName_let h).1 (isName_let h).2).app
  | node hl =>
    cases d with
    | zero => cases W
    | succ d => exact (nb_of (p := Pat.letter) (by decide) (word_let W).1 (word_let W).2).app
def Kd (d k : Nat) (x : Nd) : Prop := if k = 112 then Wd d x else ∃ n, x = Nd.num n ∧ n < 100
theorem kd_nb {d k : Nat} {x : Nd} {u : List Nat} (W : Kd d k x) (h : Wt x u) : Nb u := by
  unfold Kd at W
  split at W
  · exact wd_nb W h
  · obtain ⟨n, rfl, hn⟩ := W
    cases h with
    | num =>
      obtain ⟨_, _, d3, d4⟩ := dec_fig n (List.mem_range.mpr hn)
      exact (nb_of (p := Pat.figure) (by decide) d4 d3).app
theorem wtl_nb {d : Nat} {ks : List Nat} {ts : List Nd} {us : List Nat} (W : Kds d ks ts) (h : WtL ts us) : Nb us := by
  cases h with
  | one h =>
    cases ks with
    | nil => exact W.elim
    | cons k ks => exact kd_nb W.1 h
  | cons h hs =>
    cases ks with
    | nil => exact W.elim
    | cons k ks => exact (kd_nb W.1 h).app
theorem args_comma {sub : List Nat → Option (Nd × List Nat)} {k : Nat} {ks l : List Nat} : Pat.args sub false (k :: ks) (44 :: l) = Pat.args sub true (k :: ks) (Pat.sk l) := by
  unfold Pat.args
  rfl
theorem args_true {sub : List Nat → Option (Nd × List Nat)} {k : Nat} {ks l l2 : List Nat} {x : Nd} (h : (if k = 112 then sub l else (Pat.num l).map fun p => (Nd.num p.1, p.2)) = some (x, l2)) : Pat.args sub true (k :: ks) l = (Pat.args sub false ks l2).map fun p => (x :: p.1, p.2) := by
  conv => lhs; unfold Pat.args
  rw [if_pos rfl]
  dsimp only
  rw [h]
theorem args_wt {d : Nat} (ih : ∀ {x : Nd} {u l : List Nat}, Wd d x → Wt x u → Stp l → Pat.node d (u ++ l) = some (x, l)) : ∀ {ts : List Nd} {ks us l : List Nat}, Kds d ks ts → WtL ts us → Stp l → Pat.args (Pat.node d) true ks (us ++ l) = some (ts, l)
  | [], ks, us, l, W, h, hl => by cases h
  | x :: ts, [], us, l, W, h, hl => W.elim
  | x :: ts, k :: ks, us, l, W, h, hl => by
    have thing : ∀ {u l : List Nat}, Wt x u → Stp l → (if k = 112 then Pat.node d (u ++ l) else (Pat.num (u ++ l)).map fun p => (Nd.num p.1, p.2)) = some (x, l) := fun {u l} hu hl => by
      have w := W.1
      by_cases c : k = 112
      · rw [if_pos c] at w
        rw [if_pos c]
        exact ih w hu hl
      · rw [if_neg c] at w
        rw [if_neg c]
        obtain ⟨n, rfl, hn⟩ := w
        cases hu with
        | num => rw [num_wt hn hl]; rfl
    cases h with
    | one hu =>
      have e : ks = [] := by
        cases ks with
        | nil => rfl
        | cons k2 ks => exact W.2.elim
      subst e
      rw [args_true (thing hu hl)]
      unfold Pat.args
      rfl
    | cons hu hs =>
      rename_i u us g
      cases ks with
      | nil =>
        exfalso
        cases ts with
        | nil => cases hs
        | cons y ts => exact W.2
      | cons k2 ks =>
        rw [List.append_assoc, List.cons_append, args_true (thing hu (.inr ⟨44, (bl g ++ us) ++ l, rfl, .inl rfl⟩)), args_comma]
        have nb := (wtl_nb W.2 hs).app (l' := l)
        rw [List.append_assoc, sk_bl (.inr nb), args_wt ih W.2 hs hl]
        rfl
theorem runs_nb {rs : List (List Nat)} {us : List Nat} (W : ∀ r ∈ rs, r ≠ [] ∧ ∀ c ∈ r, Sg c) (h : WtL (rs.map Nd.run) us) : Nb us := by
  cases rs with
  | nil => cases h
  | cons r rs =>
    have k := nb_of (p := Pat.knot) (by decide) (W r (by simp)).1 (fun c hc => decide_eq_true ((W r (by simp)).2 c hc))
    generalize hts : (r :: rs).map Nd.run = ts at h
    rw [List.map_cons] at hts
    cases h with
    | one h =>
      have e := (List.cons.inj hts).1
      subst e
      cases h with | run => exact k.app
    | cons h _ =>
      have e := (List.cons.inj hts).1
      subst e
      cases h with | run => exact k.app.app
theorem more_wt : ∀ {rs : List (List Nat)} {us l : List Nat} {k : Nat}, (∀ r ∈ rs, r ≠ [] ∧ ∀ c ∈ r, Sg c) → WtL (rs.map Nd.run) us → (∃ l', l = 41 :: l') → us.length < k → ∃ r rs', rs = r :: rs' ∧ ∃ l1, Pat.run (us ++ l) = some (r, l1) ∧ l1.length < us.length + l.length ∧ ∀ k', l1.length < k' + l.length → Pat.runsMore k' l1 = some (rs', l)
  | [], us, l, k, _, h, hl, hk => by cases h
  | r :: rs, us, l, k, W, h, hl, hk => by
    have w := W r List.mem_cons_self
    generalize hts : (r :: rs).map Nd.run = ts at h
    cases h with
    | one hu =>
      rename_i x
      have e : rs = [] := by
        rw [List.map_cons] at hts
        have := (List.cons.inj hts).2
        exact List.map_eq_nil_iff.mp this
      subst e
      cases hts
      cases hu with
      | run =>
        rename_i g
        refine ⟨r, [], rfl, l, run_wt w.1 w.2 (.inr (by obtain ⟨l', e⟩ := hl; exact ⟨41, l', e, .inr rfl⟩)), ?_, fun k' hk' => ?_⟩
        · have := List.length_pos_iff.mpr w.1
          rw [List.length_append]
          omega
        · cases k' with
          | zero => omega
          | succ k' =>
            unfold Pat.runsMore
            obtain ⟨l', e⟩ := hl
            rw [e]
            rfl
    | cons hu hs =>
      rename_i x u us xs g
      rw [List.map_cons] at hts
      obtain ⟨e1, e2⟩ := List.cons.inj hts
      subst e1
      subst e2
      cases hu with
      | run =>
        rename_i g0
        refine ⟨r, rs, rfl, 44 :: (bl g ++ us) ++ l, ?_, ?_, fun k' hk' => ?_⟩
        · rw [List.append_assoc]
          exact run_wt w.1 w.2 (.inr ⟨44, (bl g ++ us) ++ l, rfl, .inl rfl⟩)
        · have := List.length_pos_iff.mpr w.1
          simp only [List.length_append, List.length_cons]
          omega
        · cases k' with
          | zero =>
            simp only [List.length_append, List.length_cons] at hk'
            omega
          | succ k' =>
            obtain ⟨r2, rs2, e, l1, e1, e2, e3⟩ := more_wt (k := us.length + 1) (fun r hr => W r (List.mem_cons_of_mem _ hr)) hs hl (by omega)
            unfold Pat.runsMore
            have o : Pat.one 44 (44 :: (bl g ++ us) ++ l) = some ((bl g ++ us) ++ l) := rfl
            rw [o]
            dsimp only
            have nb : Nb us := runs_nb (fun r hr => W r (List.mem_cons_of_mem _ hr)) hs
            rw [List.append_assoc, sk_bl (.inr nb.app), e1]
            dsimp only
            rw [e3 k' (by simp only [List.length_append, List.length_cons] at hk'; omega)]
            rw [e]
            rfl
theorem runs_wt {rs : List (List Nat)} {us l : List Nat} (h0 : rs.length ≤ 40) (W : ∀ r ∈ rs, r ≠ [] ∧ ∀ c ∈ r, Sg c) (h : WtL (rs.map Nd.run) us) : Pat.runs (us ++ 41 :: l) = some (rs, 41 :: l) := by
  obtain ⟨r, rs', rfl, l1, e1, e2, e3⟩ := more_wt (k := us.length + 1) W h ⟨l, rfl⟩ (by omega)
  unfold Pat.runs
  rw [e1]
  dsimp only
  rw [e3 (l1.length + 1) (by omega)]
  dsimp only
  rw [if_neg (by omega)]
theorem node_wt : ∀ {d : Nat} {x : Nd} {u l : List Nat}, Wd d x → Wt x u → Stp l → Pat.node d (u ++ l) = some (x, l)
  | 0, x, u, l, W, h, hl => by cases W
  | d + 1, x, u, l, W, h, hl => by
    cases h with
    | num => cases W
    | run => cases W
    | nam =>
      rename_i z g
      cases W with
      | nam hz =>
        have t := tw_app (p := Pat.letter) (isName_let hz).2 (hl.no (g := g) (by decide) (by decide) (by decide))
        unfold Pat.node
        rw [List.append_assoc, t.1, t.2, sk_bl hl.nb]
        have o : Pat.one 40 l = none := by
          rcases hl with rfl | ⟨c, l', rfl, hc⟩
          · rfl
          · show (if c = 40 then some l' else none) = none
            rw [if_neg (by omega)]
        rw [o]
        dsimp only
        rw [if_pos hz]
    | node hs =>
      rename_i z ts us g1 g2 g3
      have wl := word_let W
      have eu : z ++ (bl g1 ++ (40 :: (bl g2 ++ (us ++ (41 :: bl g3))))) ++ l = z ++ (bl g1 ++ (40 :: (bl g2 ++ (us ++ (41 :: (bl g3 ++ l)))))) := by simp
      rw [eu]
      have t := tw_app (p := Pat.letter) (b := bl g1 ++ (40 :: (bl g2 ++ (us ++ (41 :: (bl g3 ++ l)))))) wl.2 (by
        cases g1 with
        | zero => exact .inr ⟨40, _, rfl, by decide⟩
        | succ g => exact .inr ⟨32, _, rfl, by decide⟩)
      unfold Pat.node
      rw [t.1, t.2, sk_bl (.inr ⟨40, _, rfl, by decide⟩)]
      have o : Pat.one 40 (40 :: (bl g2 ++ (us ++ (41 :: (bl g3 ++ l))))) = some (bl g2 ++ (us ++ (41 :: (bl g3 ++ l)))) := rfl
      rw [o]
      dsimp only
      have main : Pat.things (Pat.node d) z (Pat.sk (bl g2 ++ (us ++ (41 :: (bl g3 ++ l))))) = some (ts, 41 :: (bl g3 ++ l)) := by
        have st : Stp (41 :: (bl g3 ++ l)) := .inr ⟨41, _, rfl, .inr rfl⟩
        have fin : ∀ {ks : List Nat}, ¬ z = Pat.rowsW → Pat.wants z = some ks → Kds d ks ts → Pat.things (Pat.node d) z (Pat.sk (bl g2 ++ (us ++ (41 :: (bl g3 ++ l))))) = some (ts, 41 :: (bl g3 ++ l)) := fun {ks} hz hk K => by
          rw [sk_bl (.inr ((wtl_nb K hs).app))]
          unfold Pat.things
          rw [if_neg hz, hk]
          exact args_wt (fun w h hl => node_wt w h hl) K hs st
        cases W with
        | rows h1 h2 h3 =>
          rename_i rs
          have rr := runs_wt (l := bl g3 ++ l) h2 h3 hs
          have nb : Nb us := runs_nb h3 hs
          rw [sk_bl (.inr nb.app)]
          unfold Pat.things
          rw [if_pos rfl, rr]
          rfl
        | nums w ha hb =>
          exact fin (ks := [110, 110]) (by rcases w with rfl | rfl <;> decide) (by rcases w with rfl | rfl <;> decide) ⟨⟨_, rfl, ha⟩, ⟨_, rfl, hb⟩, trivial⟩
        | one w h => exact fin (ks := [112]) (by rcases w with rfl | rfl | rfl | rfl <;> decide) (by rcases w with rfl | rfl | rfl | rfl <;> decide) ⟨h, trivial⟩
        | two w h1 h2 => exact fin (ks := [112, 112]) (by rcases w with rfl | rfl | rfl <;> decide) (by rcases w with rfl | rfl | rfl <;> decide) ⟨h1, h2, trivial⟩
        | tile h ha hb => exact fin (ks := [112, 110, 110]) (by decide) (by decide) ⟨h, ⟨_, rfl, ha⟩, ⟨_, rfl, hb⟩, trivial⟩
        | blk h1 h2 h3 => exact fin (ks := [112, 112, 112]) (by decide) (by decide) ⟨h1, h2, h3, trivial⟩
      rw [main]
      dsimp only
      have o2 : Pat.one 41 (41 :: (bl g3 ++ l)) = some (bl g3 ++ l) := rfl
      rw [o2]
      dsimp only
      rw [sk_bl hl.nb]
theorem whole_wt {x : Nd} {u : List Nat} {g : Nat} (W : Wd 12 x) (h : Wt x u) : Pat.whole (bl g ++ u) = some x := by
  unfold Pat.whole
  rw [sk_bl (.inr (wd_nb W h))]
  have := node_wt (l := []) W h (.inl rfl)
  rw [List.append_nil] at this
  rw [this]
theorem wt_list {d : Nat} : ∀ {ts : List Nd}, ts ≠ [] → (∀ x ∈ ts, Wt x (wr d x)) → WtL ts (cj (ts.map (wr d)))
  | [], h, _ => absurd rfl h
  | [x], _, h => by
    have : cj ([x].map (wr d)) = wr d x := by simp [cj]
    rw [this]
    exact .one (h x (by simp))
  | x :: y :: ts, _, h => by
    have e : cj ((x :: y :: ts).map (wr d)) = wr d x ++ (44 :: (bl 0 ++ cj ((y :: ts).map (wr d)))) := by simp [cj, bl]
    rw [e]
    exact .cons (h x (by simp)) (wt_list (by simp) fun z hz => h z (List.mem_cons_of_mem _ hz))
theorem wt_num {d n : Nat} : Wt (.num n) (wr d (.num n)) := by
  rw [wr_num]
  have := Wt.num (n := n) (g := 0)
  rw [show dec n ++ bl 0 = dec n from List.append_nil _] at this
  exact this
theorem wt_run {d : Nat} {r : List Nat} : Wt (.run r) (wr d (.run r)) := by
  rw [wr_run]
  have := Wt.run (r := r) (g := 0)
  rw [show r ++ bl 0 = r from List.append_nil _] at this
  exact this
theorem wt_nam {d : Nat} {z : List Nat} : Wt (.nam z) (wr d (.nam z)) := by
  rw [wr_nam]
  have := Wt.nam (z := z) (g := 0)
  rw [show z ++ bl 0 = z from List.append_nil _] at this
  exact this
theorem wt_node {d : Nat} {z : List Nat} {ts : List Nd} (h0 : ts ≠ []) (h : ∀ x ∈ ts, Wt x (wr d x)) : Wt (.node z ts) (wr (d + 1) (.node z ts)) := by
  have := Wt.node (z := z) (g1 := 0) (g2 := 0) (g3 := 0) (wt_list h0 h)
  have e : z ++ (bl 0 ++ (40 :: (bl 0 ++ (cj (ts.map (wr d)) ++ (41 :: bl 0))))) = wr (d + 1) (.node z ts) := by
    show _ = wz z (ts.map (wr d))
    unfold wz
    simp [bl]
  rw [e] at this
  exact this
theorem wt_wr : ∀ {d : Nat} {x : Nd}, Wd d x → Wt x (wr d x)
  | 0, x, W => by cases W
  | d + 1, x, W => by
    cases W with
    | nam h => exact wt_nam
    | rows h1 h2 h3 =>
      refine wt_node (fun e => h1 (List.map_eq_nil_iff.mp e)) fun x hx => ?_
      obtain ⟨r, _, rfl⟩ := List.mem_map.mp hx
      exact wt_run
    | nums w ha hb =>
      refine wt_node (by simp) fun x hx => ?_
      rcases List.mem_cons.mp hx with rfl | hx
      · exact wt_num
      · rw [List.mem_singleton.mp hx]; exact wt_num
    | one w h =>
      refine wt_node (by simp) fun x hx => ?_
      rw [List.mem_singleton.mp hx]
      exact wt_wr h
    | two w h1 h2 =>
      refine wt_node (by simp) fun x hx => ?_
      rcases List.mem_cons.mp hx with rfl | hx
      · exact wt_wr h1
      · rw [List.mem_singleton.mp hx]; exact wt_wr h2
    | tile h ha hb =>
      refine wt_node (by simp) fun x hx => ?_
      rcases List.mem_cons.mp hx with rfl | hx
      · exact wt_wr h
      · rcases List.mem_cons.mp hx with rfl | hx
        · exact wt_num
        · rw [List.mem_singleton.mp hx]; exact wt_num
    | blk h1 h2 h3 =>
      refine wt_node (by simp) fun x hx => ?_
      rcases List.mem_cons.mp hx with rfl | hx
      · exact wt_wr h1
      · rcases List.mem_cons.mp hx with rfl | hx
        · exact wt_wr h2
        · rw [List.mem_singleton.mp hx]; exact wt_wr h3
def brk (c : Nat) : Bool := decide (c = 40 ∨ c = 41 ∨ c = 44)
inductive Ins : List Nat → List Nat → Prop
  | nil : Ins [] []
  | let {c : Nat} {v u : List Nat} : brk c = false → Ins v u → Ins (c :: v) (c :: u)
  | brk {c g h : Nat} {v u : List Nat} : brk c = true → Ins v u → Ins (c :: v) (bl g ++ (c :: (bl h ++ u)))
end Mine
set_option maxHeartbeats 4000000
namespace Mine
open PySem L2
def top (i : Nat) : Stmt := PySem.Challenge.pw_heddle_k62_far_fields_asked.main.body.getD i (.Pass ⟨0, 0, 0, 0⟩)
abbrev s_measured : Stmt := top 16
theorem sc_measured : FnScope ["cloth"] ["cloth"] (defScope s_measured) := sc9
abbrev s_measured_texts : Stmt := top 19
theorem sc_measured_texts : FnScope ["texts", "least", "signs", "ends", "text"] ["texts", "least", "signs"] (defScope s_measured_texts) := sc9
abbrev s_check_pick : Stmt := top 20
theorem sc_check_pick : FnScope ["text", "ends", "signs", "sign"] ["text", "ends", "signs"] (defScope s_check_pick) := sc9
abbrev s_is_name : Stmt := top 42
theorem sc_is_name : FnScope ["text"] ["text"] (defScope s_is_name) := sc9
abbrev s_number_of : Stmt := top 46
theorem sc_number_of : FnScope ["figures"] ["figures"] (defScope s_number_of) := sc9
abbrev s_overs_within : Stmt := top 76
theorem sc_overs_within : FnScope ["cloth", "left", "first", "wide", "high", "size", "columns", "total", "pick", "in_pick"] ["cloth", "left", "first", "wide", "high"] (defScope s_overs_within) := sc9
abbrev s_times_met : Stmt := top 78
theorem sc_times_met : FnScope ["start", "length", "count", "strand", "reached"] ["start", "length", "count", "strand"] (defScope s_times_met) := sc9
abbrev s_check_size : Stmt := top 106
theorem sc_check_size : FnScope ["ends", "picks"] ["ends", "picks"] (defScope s_check_size) := sc9
abbrev s_written : Stmt := top 109
theorem sc_written : FnScope ["word", "things"] ["word", "things"] (defScope s_written) := sc9
abbrev s_read_pattern : Stmt := top 114
theorem sc_read_pattern : FnScope ["text", "known"] ["text", "known"] (defScope s_read_pattern) := sc9
abbrev s_read_whole : Stmt := top 115
theorem sc_read_whole : FnScope ["text", "reader", "node"] ["text"] (defScope s_read_whole) := sc9
abbrev s_read_node : Stmt := top 116
theorem sc_read_node : FnScope ["reader", "depth", "word", "things"] ["reader", "depth"] (defScope s_read_node) := sc9
abbrev s_read_things : Stmt := top 117
theorem sc_read_things : FnScope ["reader", "word", "depth", "things", "kind"] ["reader", "word", "depth"] (defScope s_read_things) := sc9
abbrev s_read_runs : Stmt := top 118
theorem sc_read_runs : FnScope ["reader", "runs"] ["reader"] (defScope s_read_runs) := sc9
abbrev s_read_run : Stmt := top 119
theorem sc_read_run : FnScope ["reader", "run"] ["reader"] (defScope s_read_run) := sc9
abbrev s_read_number_reader : Stmt := top 120
theorem sc_read_number_reader : FnScope ["reader", "number"] ["reader"] (defScope s_read_number_reader) := sc9
abbrev s_read_comma : Stmt := top 122
theorem sc_read_comma : FnScope ["reader"] ["reader"] (defScope s_read_comma) := sc9
abbrev s_worked_out : Stmt := top 123
theorem sc_worked_out : FnScope ["node", "known", "things"] ["node", "known"] (defScope s_worked_out) := sc9
abbrev s_known_cloth : Stmt := top 124
theorem sc_known_cloth : FnScope ["name", "known", "one", "cloth"] ["name", "known"] (defScope s_known_cloth) := sc9
abbrev s_read_book : Stmt := top 129
theorem sc_read_book : FnScope ["text", "pairs", "line", "stripped"] ["text"] (defScope s_read_book) := sc9
abbrev s_read_line : Stmt := top 130
theorem sc_read_line : FnScope ["line", "known", "place", "name", "rest"] ["line", "known"] (defScope s_read_line) := sc9
abbrev s_parting_place : Stmt := top 131
theorem sc_parting_place : FnScope ["line", "place", "sign"] ["line"] (defScope s_parting_place) := sc9
abbrev s_answers_to : Stmt := top 179
theorem sc_answers_to : FnScope ["paper", "lines", "book"] ["paper"] (defScope s_answers_to) := sc9
abbrev s_words_of : Stmt := top 180
theorem sc_words_of : FnScope ["text"] ["text"] (defScope s_words_of) := sc9
abbrev s_answer_to : Stmt := top 181
theorem sc_answer_to : FnScope ["words", "book", "e"] ["words", "book"] (defScope s_answer_to) := sc9
abbrev s_answered : Stmt := top 182
theorem sc_answered : FnScope ["words", "book", "word"] ["words", "book"] (defScope s_answered) := sc9
abbrev s_overs : Stmt := top 184
theorem sc_overs : FnScope ["things", "book", "left", "first", "wide", "high"] ["things", "book"] (defScope s_overs) := sc9
abbrev s_check_count_desk : Stmt := top 187
theorem sc_check_count_desk : FnScope ["fits"] ["fits"] (defScope s_check_count_desk) := sc9
abbrev s_check_name : Stmt := top 189
theorem sc_check_name : FnScope ["word"] ["word"] (defScope s_check_name) := sc9
abbrev s_far_number : Stmt := top 190
theorem sc_far_number : FnScope ["word"] ["word"] (defScope s_far_number) := sc9
abbrev s_whole_number : Stmt := top 191
theorem sc_whole_number : FnScope ["word"] ["word"] (defScope s_whole_number) := sc9
abbrev s_law_at : Stmt := top 193
theorem sc_law_at : FnScope ["script", "k"] ["script", "k"] (defScope s_law_at) := sc9
abbrev s_law_numbers : Stmt := top 194
theorem sc_law_numbers : FnScope ["script", "picks", "numbers", "k", "at", "number"] ["script", "picks"] (defScope s_law_numbers) := sc9
abbrev s_law_cloth : Stmt := top 195
theorem sc_law_cloth : FnScope ["script", "ends", "picks", "rows", "number", "signs", "k"] ["script"] (defScope s_law_cloth) := sc9
abbrev s_law_place : Stmt := top 196
theorem sc_law_place : FnScope ["cell", "far"] ["cell"] (defScope s_law_place) := sc9
abbrev s_law_span : Stmt := top 197
theorem sc_law_span : FnScope ["cell"] ["cell"] (defScope s_law_span) := sc9
abbrev s_law_times : Stmt := top 198
theorem sc_law_times : FnScope ["size", "k", "start", "span"] ["size", "k", "start", "span"] (defScope s_law_times) := sc9
abbrev s_law_count : Stmt := top 199
theorem sc_law_count : FnScope ["rows", "field", "count", "j", "high", "wide", "k"] ["rows", "field"] (defScope s_law_count) := sc9
abbrev s_law_odd : Stmt := top 200
theorem sc_law_odd : FnScope ["cell", "some", "far"] ["cell"] (defScope s_law_odd) := sc9
abbrev s_law_questions : Stmt := top 201
theorem sc_law_questions : FnScope ["script", "rows", "lines", "due", "k", "field"] ["script", "rows"] (defScope s_law_questions) := sc9
abbrev s_law : Stmt := top 202
theorem sc_law : FnScope ["script", "rows", "lines", "due", "at", "found", "answer"] ["script"] (defScope s_law) := sc9
abbrev s_NoPattern_called : Stmt := (clsBody (top 11)).getD 0 (.Pass ⟨0, 0, 0, 0⟩)
theorem sc_NoPattern_called : FnScope ["self"] ["self"] (defScope s_NoPattern_called) := sc9
abbrev s_Unknown_called : Stmt := (clsBody (top 12)).getD 0 (.Pass ⟨0, 0, 0, 0⟩)
theorem sc_Unknown_called : FnScope ["self"] ["self"] (defScope s_Unknown_called) := sc9
abbrev s_Reader___init__ : Stmt := (clsBody (top 45)).getD 0 (.Pass ⟨0, 0, 0, 0⟩)
theorem sc_Reader___init__ : FnScope ["self", "text"] ["self", "text"] (defScope s_Reader___init__) := sc9
abbrev s_Reader_ended : Stmt := (clsBody (top 45)).getD 1 (.Pass ⟨0, 0, 0, 0⟩)
theorem sc_Reader_ended : FnScope ["self"] ["self"] (defScope s_Reader_ended) := sc9
abbrev s_Reader_took : Stmt := (clsBody (top 45)).getD 2 (.Pass ⟨0, 0, 0, 0⟩)
theorem sc_Reader_took : FnScope ["self", "wanted", "behind"] ["self", "wanted"] (defScope s_Reader_took) := sc9
abbrev s_Reader_stretch : Stmt := (clsBody (top 45)).getD 3 (.Pass ⟨0, 0, 0, 0⟩)
theorem sc_Reader_stretch : FnScope ["self", "signs", "begin"] ["self", "signs"] (defScope s_Reader_stretch) := sc9
abbrev s_Reader_number : Stmt := (clsBody (top 45)).getD 4 (.Pass ⟨0, 0, 0, 0⟩)
theorem sc_Reader_number : FnScope ["self"] ["self"] (defScope s_Reader_number) := sc9
abbrev s_Piece___init__ : Stmt := (clsBody (top 92)).getD 0 (.Pass ⟨0, 0, 0, 0⟩)
theorem sc_Piece___init__ : FnScope ["self", "texts", "writing"] ["self", "texts", "writing"] (defScope s_Piece___init__) := sc9
abbrev s_Piece_cloth : Stmt := (clsBody (top 92)).getD 4 (.Pass ⟨0, 0, 0, 0⟩)
theorem sc_Piece_cloth : FnScope ["self"] ["self"] (defScope s_Piece_cloth) := sc9
abbrev s_Rows___init__ : Stmt := (clsBody (top 94)).getD 0 (.Pass ⟨0, 0, 0, 0⟩)
theorem sc_Rows___init__ : FnScope ["self", "runs"] ["self", "runs"] (defScope s_Rows___init__) := sc9
set_option genInjectivity false in
structure Adr where
  {e_Reader : Addr}
  {e_Piece : Addr}
  {e_Rows : Addr}
  {q_THINGS : Addr}
  {q_WORDS : Addr}
  {q_ASKED_OF_A_NAME : Addr}
  {f_Reader___init__ : Addr}
  {d_Reader___init__ : FuncData}
  {f_Reader_ended : Addr}
  {d_Reader_ended : FuncData}
  {f_Reader_took : Addr}
  {d_Reader_took : FuncData}
  {f_Reader_stretch : Addr}
  {d_Reader_stretch : FuncData}
  {f_Reader_number : Addr}
  {d_Reader_number : FuncData}
  {f_Piece___init__ : Addr}
  {d_Piece___init__ : FuncData}
  {f_Piece_cloth : Addr}
  {d_Piece_cloth : FuncData}
  {f_Rows___init__ : Addr}
  {d_Rows___init__ : FuncData}
  {f_measured : Addr}
  {d_measured : FuncData}
  {f_measured_texts : Addr}
  {d_measured_texts : FuncData}
  {f_check_pick : Addr}
  {d_check_pick : FuncData}
  {f_is_name : Addr}
  {d_is_name : FuncData}
  {f_number_of : Addr}
  {d_number_of : FuncData}
  {f_overs_within : Addr}
  {d_overs_within : FuncData}
  {f_times_met : Addr}
  {d_times_met : FuncData}
  {f_check_size : Addr}
  {d_check_size : FuncData}
  {f_written : Addr}
  {d_written : FuncData}
  {f_read_pattern : Addr}
  {d_read_pattern : FuncData}
  {f_read_whole : Addr}
  {d_read_whole : FuncData}
  {f_read_node : Addr}
  {d_read_node : FuncData}
  {f_read_things : Addr}
  {d_read_things : FuncData}
  {f_read_runs : Addr}
  {d_read_runs : FuncData}
  {f_read_run : Addr}
  {d_read_run : FuncData}
  {f_read_number_reader : Addr}
  {d_read_number_reader : FuncData}
  {f_read_comma : Addr}
  {d_read_comma : FuncData}
  {f_worked_out : Addr}
  {d_worked_out : FuncData}
  {f_known_cloth : Addr}
  {d_known_cloth : FuncData}
  {f_read_book : Addr}
  {d_read_book : FuncData}
  {f_read_line : Addr}
  {d_read_line : FuncData}
  {f_parting_place : Addr}
  {d_parting_place : FuncData}
  {f_answers_to : Addr}
  {d_answers_to : FuncData}
  {f_words_of : Addr}
  {d_words_of : FuncData}
  {f_answer_to : Addr}
  {d_answer_to : FuncData}
  {f_answered : Addr}
  {d_answered : FuncData}
  {f_overs : Addr}
  {d_overs : FuncData}
  {f_check_count_desk : Addr}
  {d_check_count_desk : FuncData}
  {f_check_name : Addr}
  {d_check_name : FuncData}
  {f_far_number : Addr}
  {d_far_number : FuncData}
  {f_whole_number : Addr}
  {d_whole_number : FuncData}
  {f_law_at : Addr}
  {d_law_at : FuncData}
  {f_law_numbers : Addr}
  {d_law_numbers : FuncData}
  {f_law_cloth : Addr}
  {d_law_cloth : FuncData}
  {f_law_place : Addr}
  {d_law_place : FuncData}
  {f_law_span : Addr}
  {d_law_span : FuncData}
  {f_law_times : Addr}
  {d_law_times : FuncData}
  {f_law_count : Addr}
  {d_law_count : FuncData}
  {f_law_odd : Addr}
  {d_law_odd : FuncData}
  {f_law_questions : Addr}
  {d_law_questions : FuncData}
  {f_law : Addr}
  {d_law : FuncData}
  {e_WeaveError : Addr}
  {e_TooLarge : Addr}
  {e_NoPattern : Addr}
  {f_NoPattern_called : Addr}
  {d_NoPattern_called : FuncData}
  {e_Unknown : Addr}
  {f_Unknown_called : Addr}
  {d_Unknown_called : FuncData}
structure Txt (K : PySem.W.Frag) (mg : Str → Option Value) (t : Adr) : Prop where
  measured : Df K mg "measured" s_measured ["cloth"] t.f_measured t.d_measured
  measured_texts : Df K mg "measured_texts" s_measured_texts ["texts", "least", "signs"] t.f_measured_texts t.d_measured_texts
  check_pick : Df K mg "check_pick" s_check_pick ["text", "ends", "signs"] t.f_check_pick t.d_check_pick
  is_name : Df K mg "is_name" s_is_name ["text"] t.f_is_name t.d_is_name
  number_of : Df K mg "number_of" s_number_of ["figures"] t.f_number_of t.d_number_of
  overs_within : Df K mg "overs_within" s_overs_within ["cloth", "left", "first", "wide", "high"] t.f_overs_within t.d_overs_within
  times_met : Df K mg "times_met" s_times_met ["start", "length", "count", "strand"] t.f_times_met t.d_times_met
  check_size : Df K mg "check_size" s_check_size ["ends", "picks"] t.f_check_size t.d_check_size
  written : Df K mg "written" s_written ["word", "things"] t.f_written t.d_written
  read_pattern : Df K mg "read_pattern" s_read_pattern ["text", "known"] t.f_read_pattern t.d_read_pattern
  read_whole : Df K mg "read_whole" s_read_whole ["text"] t.f_read_whole t.d_read_whole
  read_node : Df K mg "read_node" s_read_node ["reader", "depth"] t.f_read_node t.d_read_node
  read_things : Df K mg "read_things" s_read_things ["reader", "word", "depth"] t.f_read_things t.d_read_things
  read_runs : Df K mg "read_runs" s_read_runs ["reader"] t.f_read_runs t.d_read_runs
  read_run : Df K mg "read_run" s_read_run ["reader"] t.f_read_run t.d_read_run
  read_number_reader : DfA K mg "read_number_reader" "read_number" s_read_number_reader ["reader"] t.f_read_number_reader t.d_read_number_reader
  read_comma : Df K mg "read_comma" s_read_comma ["reader"] t.f_read_comma t.d_read_comma
  worked_out : Df K mg "worked_out" s_worked_out ["node", "known"] t.f_worked_out t.d_worked_out
  known_cloth : Df K mg "known_cloth" s_known_cloth ["name", "known"] t.f_known_cloth t.d_known_cloth
  read_book : Df K mg "read_book" s_read_book ["text"] t.f_read_book t.d_read_book
  read_line : Df K mg "read_line" s_read_line ["line", "known"] t.f_read_line t.d_read_line
  parting_place : Df K mg "parting_place" s_parting_place ["line"] t.f_parting_place t.d_parting_place
  answers_to : Df K mg "answers_to" s_answers_to ["paper"] t.f_answers_to t.d_answers_to
  words_of : Df K mg "words_of" s_words_of ["text"] t.f_words_of t.d_words_of
  answer_to : Df K mg "answer_to" s_answer_to ["words", "book"] t.f_answer_to t.d_answer_to
  answered : Df K mg "answered" s_answered ["words", "book"] t.f_answered t.d_answered
  overs : Df K mg "overs" s_overs ["things", "book"] t.f_overs t.d_overs
  check_count_desk : DfA K mg "check_count_desk" "check_count" s_check_count_desk ["fits"] t.f_check_count_desk t.d_check_count_desk
  check_name : Df K mg "check_name" s_check_name ["word"] t.f_check_name t.d_check_name
  far_number : Df K mg "far_number" s_far_number ["word"] t.f_far_number t.d_far_number
  whole_number : Df K mg "whole_number" s_whole_number ["word"] t.f_whole_number t.d_whole_number
  law_at : Df K mg "_law_at" s_law_at ["script", "k"] t.f_law_at t.d_law_at
  law_numbers : Df K mg "_law_numbers" s_law_numbers ["script", "picks"] t.f_law_numbers t.d_law_numbers
  law_cloth : Df K mg "_law_cloth" s_law_cloth ["script"] t.f_law_cloth t.d_law_cloth
  law_place : Df K mg "_law_place" s_law_place ["cell"] t.f_law_place t.d_law_place
  law_span : Df K mg "_law_span" s_law_span ["cell"] t.f_law_span t.d_law_span
  law_times : Df K mg "_law_times" s_law_times ["size", "k", "start", "span"] t.f_law_times t.d_law_times
  law_count : Df K mg "_law_count" s_law_count ["rows", "field"] t.f_law_count t.d_law_count
  law_odd : Df K mg "_law_odd" s_law_odd ["cell"] t.f_law_odd t.d_law_odd
  law_questions : Df K mg "_law_questions" s_law_questions ["script", "rows"] t.f_law_questions t.d_law_questions
  law : Df K mg "law" s_law ["script"] t.f_law t.d_law
  b_ValueError : mg "ValueError" = none
  b_abs : mg "abs" = none
  b_all : mg "all" = none
  b_any : mg "any" = none
  b_bool : mg "bool" = none
  b_enumerate : mg "enumerate" = none
  b_int : mg "int" = none
  b_isinstance : mg "isinstance" = none
  b_len : mg "len" = none
  b_list : mg "list" = none
  b_max : mg "max" = none
  b_min : mg "min" = none
  b_range : mg "range" = none
  b_reversed : mg "reversed" = none
  b_set : mg "set" = none
  b_sorted : mg "sorted" = none
  b_str : mg "str" = none
  b_sum : mg "sum" = none
  b_tuple : mg "tuple" = none
  b_zip : mg "zip" = none
  c_MOST_STRANDS : ∃ tk, mg "MOST_STRANDS" = some (.int 40 tk)
  c_MOST_SHAFTS : ∃ tk, mg "MOST_SHAFTS" = some (.int 40 tk)
  c_LETTERS : ∃ tk, mg "LETTERS" = some (.str "abcdefghijklmnopqrstuvwxyz" tk)
  c_MOST_LETTERS : ∃ tk, mg "MOST_LETTERS" = some (.int 20 tk)
  c_FIGURES : ∃ tk, mg "FIGURES" = some (.str "0123456789" tk)
  c_MOST_NUMBERS : ∃ tk, mg "MOST_NUMBERS" = some (.int 400 tk)
  c_MOST_DEEP_rows : ∃ tk, mg "MOST_DEEP_rows" = some (.int 8 tk)
  c_BETWEEN_PARTS : ∃ tk, mg "BETWEEN_PARTS" = some (.str " / " tk)
  c_BETWEEN_TIES : ∃ tk, mg "BETWEEN_TIES" = some (.str ", " tk)
  c_MOST_DEEP_reader : ∃ tk, mg "MOST_DEEP_reader" = some (.int 12 tk)
  c_MOST_RUNS : ∃ tk, mg "MOST_RUNS" = some (.int 40 tk)
  c_COLOURS : ∃ tk, mg "COLOURS" = some (.str "abcdef" tk)
  c_SHUTTLES : ∃ tk, mg "SHUTTLES" = some (.int 8 tk)
  c_MOST_FIGURES : ∃ tk, mg "MOST_FIGURES" = some (.int 60 tk)
  k_WeaveError : mg "WeaveError" = some (.ref t.e_WeaveError)
  x_WeaveError : Exn K t.e_WeaveError
  k_TooLarge : mg "TooLarge" = some (.ref t.e_TooLarge)
  x_TooLarge : Exn K t.e_TooLarge
  r_TooLarge_WeaveError : PySem.W.mroIn K t.e_TooLarge (.ref t.e_WeaveError) = some true
  r_TooLarge_TooLarge : PySem.W.mroIn K t.e_TooLarge (.ref t.e_TooLarge) = some true
  r_TooLarge_NoPattern : PySem.W.mroIn K t.e_TooLarge (.ref t.e_NoPattern) = some false
  r_TooLarge_Unknown : PySem.W.mroIn K t.e_TooLarge (.ref t.e_Unknown) = some false
  k_NoPattern : mg "NoPattern" = some (.ref t.e_NoPattern)
  x_NoPattern : Exn K t.e_NoPattern
  m_NoPattern : Mf K "called" "NoPattern.called" s_NoPattern_called ["self"] t.e_NoPattern t.f_NoPattern_called t.d_NoPattern_called
  r_NoPattern_WeaveError : PySem.W.mroIn K t.e_NoPattern (.ref t.e_WeaveError) = some true
  r_NoPattern_TooLarge : PySem.W.mroIn K t.e_NoPattern (.ref t.e_TooLarge) = some false
  r_NoPattern_NoPattern : PySem.W.mroIn K t.e_NoPattern (.ref t.e_NoPattern) = some true
  r_NoPattern_Unknown : PySem.W.mroIn K t.e_NoPattern (.ref t.e_Unknown) = some false
  k_Unknown : mg "Unknown" = some (.ref t.e_Unknown)
  x_Unknown : Exn K t.e_Unknown
  m_Unknown : Mf K "called" "Unknown.called" s_Unknown_called ["self"] t.e_Unknown t.f_Unknown_called t.d_Unknown_called
  r_Unknown_WeaveError : PySem.W.mroIn K t.e_Unknown (.ref t.e_WeaveError) = some true
  r_Unknown_TooLarge : PySem.W.mroIn K t.e_Unknown (.ref t.e_TooLarge) = some false
  r_Unknown_NoPattern : PySem.W.mroIn K t.e_Unknown (.ref t.e_NoPattern) = some false
  r_Unknown_Unknown : PySem.W.mroIn K t.e_Unknown (.ref t.e_Unknown) = some true
  k_Reader : mg "Reader" = some (.ref t.e_Reader)
  o_Reader : L2.Own K t.e_Reader t.f_Reader___init__
  na_Reader_text : NoAttr K t.e_Reader "text"
  na_Reader_place : NoAttr K t.e_Reader "place"
  k_Piece : mg "Piece" = some (.ref t.e_Piece)
  o_Piece : L2.Own K t.e_Piece t.f_Piece___init__
  na_Piece_texts : NoAttr K t.e_Piece "texts"
  na_Piece_writing : NoAttr K t.e_Piece "writing"
  k_Rows : mg "Rows" = some (.ref t.e_Rows)
  o_Rows : L2.Own K t.e_Rows t.f_Rows___init__
  na_Rows_texts : NoAttr K t.e_Rows "texts"
  na_Rows_writing : NoAttr K t.e_Rows "writing"
  im_Rows_cloth : Meth K t.e_Rows "cloth" t.f_Piece_cloth
  cf_Piece : ClsF K t.e_Piece "__init__" t.f_Piece___init__
  g_WORDS : mg "WORDS" = some (.ref t.q_WORDS)
  d_WORDS : TopT K t.q_WORDS (["rows", "twill", "satin", "beside", "above", "mirror", "upend", "back", "quarter", "tile", "blocks", "lay"] : List Str)
  g_ASKED_OF_A_NAME : mg "ASKED_OF_A_NAME" = some (.ref t.q_ASKED_OF_A_NAME)
  d_ASKED_OF_A_NAME : TopT K t.q_ASKED_OF_A_NAME (["cloth", "layers", "draft", "shifts", "floats"] : List Str)
  g_THINGS : mg "THINGS" = some (.ref t.q_THINGS)
  d_THINGS : Top K t.q_THINGS ([("twill", "nn"), ("satin", "nn"), ("beside", "pp"), ("above", "pp"), ("mirror", "p"), ("upend", "p"), ("back", "p"), ("quarter", "p"), ("tile", "pnn"), ("blocks", "ppp"), ("lay", "pp")] : List (Str × Str))
  m_Reader___init__ : Mf K "__init__" "Reader.__init__" s_Reader___init__ ["self", "text"] t.e_Reader t.f_Reader___init__ t.d_Reader___init__
  m_Reader_ended : Mf K "ended" "Reader.ended" s_Reader_ended ["self"] t.e_Reader t.f_Reader_ended t.d_Reader_ended
  m_Reader_took : Mf K "took" "Reader.took" s_Reader_took ["self", "wanted"] t.e_Reader t.f_Reader_took t.d_Reader_took
  m_Reader_stretch : Mf K "stretch" "Reader.stretch" s_Reader_stretch ["self", "signs"] t.e_Reader t.f_Reader_stretch t.d_Reader_stretch
  m_Reader_number : Mf K "number" "Reader.number" s_Reader_number ["self"] t.e_Reader t.f_Reader_number t.d_Reader_number
  m_Piece___init__ : Mf K "__init__" "Piece.__init__" s_Piece___init__ ["self", "texts", "writing"] t.e_Piece t.f_Piece___init__ t.d_Piece___init__
  m_Piece_cloth : Mf K "cloth" "Piece.cloth" s_Piece_cloth ["self"] t.e_Piece t.f_Piece_cloth t.d_Piece_cloth
  m_Rows___init__ : Mf K "__init__" "Rows.__init__" s_Rows___init__ ["self", "runs"] t.e_Rows t.f_Rows___init__ t.d_Rows___init__
theorem bl1 {fd : FuncData} {ps : List Str} (h : ∀ a0 : Value, bindArgs fd ⟨[a0], []⟩ = pure (ps.zip [a0])) (us : List Value) (hl : us.length = 1) : bindArgs fd ⟨us, []⟩ = pure (ps.zip us) := by
  rcases us with _ | ⟨a0, us⟩
  · cases hl
  rcases us with _ | ⟨b, us⟩
  · exact h a0
  · cases hl
theorem bl2 {fd : FuncData} {ps : List Str} (h : ∀ a0 a1 : Value, bindArgs fd ⟨[a0, a1], []⟩ = pure (ps.zip [a0, a1])) (us : List Value) (hl : us.length = 2) : bindArgs fd ⟨us, []⟩ = pure (ps.zip us) := by
  rcases us with _ | ⟨a0, us⟩
  · cases hl
  rcases us with _ | ⟨a1, us⟩
  · cases hl
  rcases us with _ | ⟨b, us⟩
  · exact h a0 a1
  · cases hl
theorem bl3 {fd : FuncData} {ps : List Str} (h : ∀ a0 a1 a2 : Value, bindArgs fd ⟨[a0, a1, a2], []⟩ = pure (ps.zip [a0, a1, a2])) (us : List Value) (hl : us.length = 3) : bindArgs fd ⟨us, []⟩ = pure (ps.zip us) := by
  rcases us with _ | ⟨a0, us⟩
  · cases hl
  rcases us with _ | ⟨a1, us⟩
  · cases hl
  rcases us with _ | ⟨a2, us⟩
  · cases hl
  rcases us with _ | ⟨b, us⟩
  · exact h a0 a1 a2
  · cases hl
theorem bl4 {fd : FuncData} {ps : List Str} (h : ∀ a0 a1 a2 a3 : Value, bindArgs fd ⟨[a0, a1, a2, a3], []⟩ = pure (ps.zip [a0, a1, a2, a3])) (us : List Value) (hl : us.length = 4) : bindArgs fd ⟨us, []⟩ = pure (ps.zip us) := by
  rcases us with _ | ⟨a0, us⟩
  · cases hl
  rcases us with _ | ⟨a1, us⟩
  · cases hl
  rcases us with _ | ⟨a2, us⟩
  · cases hl
  rcases us with _ | ⟨a3, us⟩
  · cases hl
  rcases us with _ | ⟨b, us⟩
  · exact h a0 a1 a2 a3
  · cases hl
theorem bl5 {fd : FuncData} {ps : List Str} (h : ∀ a0 a1 a2 a3 a4 : Value, bindArgs fd ⟨[a0, a1, a2, a3, a4], []⟩ = pure (ps.zip [a0, a1, a2, a3, a4])) (us : List Value) (hl : us.length = 5) : bindArgs fd ⟨us, []⟩ = pure (ps.zip us) := by
  rcases us with _ | ⟨a0, us⟩
  · cases hl
  rcases us with _ | ⟨a1, us⟩
  · cases hl
  rcases us with _ | ⟨a2, us⟩
  · cases hl
  rcases us with _ | ⟨a3, us⟩
  · cases hl
  rcases us with _ | ⟨a4, us⟩
  · cases hl
  rcases us with _ | ⟨b, us⟩
  · exact h a0 a1 a2 a3 a4
  · cases hl
section
variable {P : Program} {w : World} {K : PySem.W.Frag} {mg : Str → Option Value} {base : Heap} {t : Adr}
def sp_called (z : Str) : Sp := fun vs H Q _ => ∃ v, vs = [v] ∧ Q (.str z) H
theorem okH_NoPattern_called (T : Txt K mg t) : FnOkH P w K mg base t.f_NoPattern_called t.d_NoPattern_called ["self"] (sp_called "NoPattern") :=
  T.m_NoPattern.F.okH sc_NoPattern_called (fun vs H Q E h => by obtain ⟨v, rfl, _⟩ := h; rfl) fun cdv A outer s H vs Q E h => by
    obtain ⟨v, rfl, k⟩ := h
    exact ⟨_, pss_one (ps_ret pe_str), k⟩
theorem okH_Unknown_called (T : Txt K mg t) : FnOkH P w K mg base t.f_Unknown_called t.d_Unknown_called ["self"] (sp_called "Unknown") :=
  T.m_Unknown.F.okH sc_Unknown_called (fun vs H Q E h => by obtain ⟨v, rfl, _⟩ := h; rfl) fun cdv A outer s H vs Q E h => by
    obtain ⟨v, rfl, k⟩ := h
    exact ⟨_, pss_one (ps_ret pe_str), k⟩
end
seal PE PT PW PA PS PSs PC PG PGs PSet PIp PGet PIE PI PO PEX PSX PSXs
section
variable {P : Program} {w : World} {K : PySem.W.Frag} {mg : Str → Option Value} {base : Heap} {t : Adr}
def rf (u : List Nat) (p : Nat) : List (Str × V) := [("text", .str (tx u)), ("place", .int (p : Int))]
def Rd (t : Adr) (H : Hp) (r dx : Addr) (u : List Nat) (p : Nat) : Prop := H r = some (.ins t.e_Reader dx (rf u p)) ∧ p ≤ u.length ∧ u.length ≤ 1000000
theorem rf_text (u : List Nat) (p : Nat) : (rf u p).lookup ("text" : Str) = some (V.str (tx u)) := rfl
theorem rf_place (u : List Nat) (p : Nat) : (rf u p).lookup ("place" : Str) = some (V.int (p : Int)) := rfl
theorem rf_put (u : List Nat) (p q : Nat) : putF "place" (.int (q : Int)) (rf u p) = rf u q := rfl
theorem big {n : Nat} (h : n ≤ 1000000) : n ≤ sizeLine := Nat.le_trans h (by decide)
def sp_ended (t : Adr) : Sp := fun vs H Q _ => ∃ r dx u p, vs = [.ref r] ∧ Rd t H r dx u p ∧ Q (.bl (decide (p = u.length))) H
theorem ok_Reader_ended (T : Txt K mg t) : FnOk P w K mg base CX0 1 t.f_Reader_ended t.d_Reader_ended ["self"] (sp_ended t) := by
  refine T.m_Reader_ended.F.ok sc_Reader_ended (fun vs H Q E h => ?_) (fun cdv A outer s H vs Q E hr h => ?_)
  · obtain ⟨r, dx, u, p, rfl, _⟩ := h
    rfl
  · obtain ⟨r, dx, u, p, rfl, ⟨hr1, hp, hu⟩, k⟩ := h
    refine ⟨_, (pss_one (ps_ret (pe_cmpR op_eq (pe_fldK (K := K) (pv 0) rfl) (pe_callB call_len_str rfl T.b_len bt_len (pa_cons (pe_fldK (K := K) (pv 0) rfl) pa_nil)) (nomark _)))), ?_⟩
    refine ⟨_, rfl, _, _, _, _, _, rfl, hr1, T.o_Reader.c, T.na_Reader_place, rf_place u p, ?_⟩
    refine ⟨_, rfl, _, _, _, _, _, rfl, hr1, T.o_Reader.c, T.na_Reader_text, rf_text u p, ?_⟩
    refine ⟨_, rfl, (by rw [tx_len]; exact big hu), rfl, ?_⟩
    have e : decide (V.int (p : Int) = V.int ((tx u).length : Int)) = decide (p = u.length) := by
      rw [tx_len]
      apply decide_eq_decide.mpr
      constructor
      · intro z; injection z with z; omega
      · intro z; rw [z]
    rw [e]
    exact k
def sp_took (t : Adr) : Sp := fun vs H Q _ => ∃ r dx u p v, vs = [.ref r, .str (tx v)] ∧ Rd t H r dx u p ∧ v.length ≤ 100 ∧
  ((u.drop p).take v.length = v → Q (.bl true) (upd H r (.ins t.e_Reader dx (rf u (p + v.length))))) ∧ ((u.drop p).take v.length ≠ v → Q (.bl false) H)
theorem cut_seg {u : List Nat} {p n : Nat} (h : p ≤ u.length) : cutT u (some (p : Int)) (some ((p : Int) + (n : Int))) = (u.drop p).take n := by
  unfold cutT
  rw [show ((p : Int) + (n : Int)) = ((p + n : Nat) : Int) by omega, HT.sIx_nat, HT.sIx_nat, Nat.min_eq_left h]
  by_cases h2 : p + n ≤ u.length
  · rw [Nat.min_eq_left h2, Nat.add_sub_cancel_left]
  · rw [Nat.min_eq_right (by omega), List.take_of_length_le (by rw [List.length_drop]; omega), List.take_of_length_le (by rw [List.length_drop]; omega)]
theorem ok_Reader_took (T : Txt K mg t) : FnOk P w K mg base CX0 1 t.f_Reader_took t.d_Reader_took ["self", "wanted"] (sp_took t) := by
  refine T.m_Reader_took.F.ok sc_Reader_took (fun vs H Q E h => ?_) (fun cdv A outer s H vs Q E hr h => ?_)
  · obtain ⟨r, dx, u, p, v, rfl, _⟩ := h
    rfl
  · obtain ⟨r, dx, u, p, v, rfl, ⟨hr1, hp, hu⟩, hv, k1, k2⟩ := h
    refine ⟨_, (pss_cons (ps_set (i := 2) sc_Reader_took.nd rfl (Or.inl rfl) (pe_op op_add (pe_fldK (K := K) (pv 0) rfl) (pe_callB call_len_str rfl T.b_len bt_len (pa_cons (pv 1) pa_nil))))
      (pss_cons (ps_if (pt_cmpR op_ne (pe_slice sl_str (pe_fldK (K := K) (pv 0) rfl) (po_some (pe_fldK (K := K) (pv 0) rfl)) (po_some (pv 2))) (pv 1) (nomark _))
        (pss_one (ps_ret pe_bl))
        pss_nil)
      (pss_cons (ps_fldK (K := K) (pv 0) (pv 2))
      (pss_one (ps_ret pe_bl))))), ?_⟩
    refine ⟨_, rfl, _, _, _, _, _, rfl, hr1, T.o_Reader.c, T.na_Reader_place, rf_place u p, _, rfl, _, rfl, (by rw [tx_len]; exact big (by omega)), _, _, rfl, rfl, ?_⟩
    rw [tx_len]
    refine ⟨_, rfl, _, _, _, _, _, rfl, hr1, T.o_Reader.c, T.na_Reader_text, rf_text u p, ?_⟩
    refine ⟨_, rfl, _, _, _, _, _, rfl, hr1, T.o_Reader.c, T.na_Reader_place, rf_place u p, _, rfl, _, rfl, _, rfl, u, rfl, big hu, _, rfl, rfl, _, rfl, ?_⟩
    rw [cut_seg hp]
    by_cases hc : (u.drop p).take v.length = v
    · refine iteNS (by rw [hc]) ?_
      refine ⟨_, rfl, _, rfl, _, _, _, _, rfl, hr1, T.o_Reader.c, T.na_Reader_place, (by show 2 < 1000; decide), ?_⟩
      show Q (.bl true) (upd H r (.ins t.e_Reader dx (putF ("place" : Str) (.int ((p : Int) + (v.length : Int))) (rf u p))))
      rw [show ((p : Int) + (v.length : Int)) = ((p + v.length : Nat) : Int) by omega, rf_put]
      exact k1 hc
    · refine iteNp (fun z => hc (by injection z with z; exact tx_inj z)) ?_
      exact k2 hc
def dg (c : Nat) : Bool := decide (48 ≤ c ∧ c ≤ 57)
def figs (l : List Nat) : List Nat := l.takeWhile dg
def numV (v : List Nat) : V := if (1 ≤ v.length ∧ v.length ≤ 2) ∧ ¬ (v.length = 2 ∧ v[0]? = some 48) then .int ((PySem.NumText.digitsVal v : Nat) : Int) else .non
theorem upd_self {H : Hp} {r : Addr} {o : HO} (h : H r = some o) : upd H r o = H := by
  funext b
  unfold upd
  split
  next e => rw [e, h]
  next => rfl
theorem z48 (c : Nat) : (V.str ⟨#[c]⟩ : V) = V.str "0" ↔ c = 48 := by
  have e : (("0" : Str)) = tx [48] := by decide +kernel
  rw [e]
  exact ⟨fun z => by injection z with z; exact (List.cons.inj (tx_inj (a := [c]) (b := [48]) z)).1, fun z => by rw [z]; rfl⟩
def sp_numof : Sp := fun vs H Q _ => ∃ v : List Nat, vs = [.str (tx v)] ∧ (∀ c ∈ v, 48 ≤ c ∧ c ≤ 57) ∧ v.length ≤ 1000000 ∧ Q (numV v) H
theorem ok_number_of (T : Txt K mg t) : FnOk P w K mg base CX0 1 t.f_number_of t.d_number_of ["figures"] sp_numof := by
  refine T.number_of.F.ok sc_number_of (fun vs H Q E h => ?_) (fun cdv A outer s H vs Q E hr h => ?_)
  · obtain ⟨v, rfl, _⟩ := h
    rfl
  · obtain ⟨v, rfl, hd, hl, k⟩ := h
    have sz : (tx v).length ≤ sizeLine := by rw [tx_len]; exact big hl
    refine ⟨_, (pss_cons (ps_if (PW.pt (pw_or (pt_cmpR op_lt (pe_callB call_len_str rfl T.b_len bt_len (pa_cons (pv 0) pa_nil)) pe_int (nomark _)) (pw_or1 (pt_cmpR op_gt (pe_callB call_len_str rfl T.b_len bt_len (pa_cons (pv 0) pa_nil)) pe_int (nomark _)))))
        (pss_one (ps_ret pe_non))
        pss_nil)
      (pss_cons (ps_if (PW.pt (pw_and (pt_cmpR op_eq (pe_callB call_len_str rfl T.b_len bt_len (pa_cons (pv 0) pa_nil)) pe_int (nomark _)) (pw_and1 (pt_cmpR op_eq (pe_ix ix_str (pv 0) pe_int (fun _ _ => rfl)) pe_str (nomark _)))))
        (pss_one (ps_ret pe_non))
        pss_nil)
      (pss_one (ps_ret (pe_callTy call_intT rfl T.b_int bt_int (pa_cons (pv 0) pa_nil)))))), ?_⟩
    unfold numV at k
    refine ⟨_, rfl, _, rfl, sz, _, _, rfl, rfl, _, rfl, ?_⟩
    rw [tx_len]
    refine ite2D (fun c1 => ?_) (fun c1 => ?_)
    · refine iteT ?_
      rw [if_neg (by omega)] at k
      exact k
    · refine ⟨_, rfl, _, rfl, sz, _, _, rfl, rfl, _, rfl, ?_⟩
      rw [tx_len]
      refine ite2D (fun c2 => ?_) (fun c2 => ?_)
      · rw [if_neg (by omega)] at k
        exact k
      · refine ⟨_, rfl, _, rfl, sz, rfl, _, rfl, ?_⟩
        rw [tx_len]
        have fin : ¬ (v.length = 2 ∧ v[0]? = some 48) → ∃ z n, [V.str (tx v)] = [V.str z] ∧ PySem.intText? z = some n ∧ z.length ≤ 640 ∧ Q (.int n) H := fun c3 => by
          rw [if_pos ⟨by omega, c3⟩] at k
          refine ⟨tx v, _, rfl, PySem.intText_digits (x := tx v) (by rw [tx_list]; exact hd) (by rw [tx_list]; intro z; rw [z] at c1; simp at c1) (by rw [tx_len]; omega), by rw [tx_len]; omega, ?_⟩
          rw [tx_list]
          exact k
        refine ite2D (fun c3 => ?_) (fun c3 => ?_)
        · have l2 : v.length = 2 := by injection c3 with c3; omega
          have h0 : 0 < v.length := by omega
          refine ⟨_, rfl, _, _, v[0], rfl, rfl, sz, atI_of (by decide) (by rw [tx_list]; exact List.getElem?_eq_getElem h0), rfl, _, rfl, ?_⟩
          refine ite2D (fun c4 => ?_) (fun c4 => ?_)
          · rw [if_neg (fun z => z.2 ⟨l2, by rw [List.getElem?_eq_getElem h0, (z48 _).mp c4]⟩)] at k
            exact k
          · exact ⟨_, rfl, fin fun z => c4 ((z48 _).mpr (by have := z.2; rw [List.getElem?_eq_getElem h0] at this; exact Option.some.inj this))⟩
        · exact iteF ⟨_, rfl, fin fun z => c3 (by rw [z.1]; rfl)⟩
theorem rf_meth (u : List Nat) (p : Nat) : (rf u p).lookup ("ended" : Str) = none ∧ (rf u p).lookup ("took" : Str) = none ∧ (rf u p).lookup ("number" : Str) = none ∧ (rf u p).lookup ("stretch" : Str) = none := ⟨rfl, rfl, rfl, rfl⟩
def sp_init : Sp := fun vs H Q _ => ∃ (C r dx : Addr) (u : List Nat), vs = [.ref r, .str (tx u)] ∧ H r = some (.ins C dx []) ∧ Q .non (upd H r (.ins C dx (rf u 0)))
theorem ok_Reader___init__ (T : Txt K mg t) : FnOk P w K mg base CX0 1 t.f_Reader___init__ t.d_Reader___init__ ["self", "text"] (fun vs H Q E => ∃ (r dx : Addr) (u : List Nat), vs = [.ref r, .str (tx u)] ∧ H r = some (.ins t.e_Reader dx []) ∧ Q .non (upd H r (.ins t.e_Reader dx (rf u 0)))) := by
  refine T.m_Reader___init__.F.ok sc_Reader___init__ (fun vs H Q E h => ?_) (fun cdv A outer s H vs Q E hr h => ?_)
  · obtain ⟨r, dx, u, rfl, _⟩ := h
    rfl
  · obtain ⟨r, dx, u, rfl, h1, k⟩ := h
    refine ⟨_, (pss_cons (ps_fldK (K := K) (pv 0) (pv 1))
      (pss_one (ps_fldK (K := K) (pv 0) pe_int))), ?_⟩
    refine ⟨_, rfl, _, rfl, _, _, _, _, rfl, h1, T.o_Reader.c, T.na_Reader_text, (by decide), ?_⟩
    refine ⟨_, rfl, _, _, _, _, rfl, upd_same, T.o_Reader.c, T.na_Reader_place, (by show 1 < 1000; decide), ?_⟩
    rw [upd_upd]
    exact k
def stp (sg l : List Nat) : List Nat := l.takeWhile fun c => decide (c ∈ sg)
theorem stp_eq {sg : List Nat} : ∀ (l : List Nat) (n : Nat), n ≤ l.length → (∀ c ∈ l.take n, c ∈ sg) → (∀ c, l[n]? = some c → c ∉ sg) → stp sg l = l.take n
  | [], n, h, _, _ => by simp [stp]
  | c :: l, 0, _, _, h2 => by
    unfold stp
    rw [List.takeWhile_cons, if_neg (by rw [decide_eq_true_eq]; exact h2 c rfl)]
    rfl
  | c :: l, n + 1, h, h1, h2 => by
    have hc : c ∈ sg := h1 c (by simp)
    have := stp_eq (sg := sg) l n (by simpa using h) (fun d hd => h1 d (by rw [List.take_succ_cons]; exact List.mem_cons_of_mem _ hd)) (fun d hd => h2 d (by simpa using hd))
    unfold stp at this ⊢
    rw [List.takeWhile_cons, if_pos (decide_eq_true hc), this, List.take_succ_cons]
theorem stp_all (sg : List Nat) : ∀ (l : List Nat), (∀ c ∈ stp sg l, c ∈ sg) ∧ (stp sg l).length ≤ l.length
  | [] => ⟨fun c hc => (by cases hc), Nat.le_refl _⟩
  | a :: l => by
    have ih := stp_all sg l
    unfold stp at ih ⊢
    rw [List.takeWhile_cons]
    by_cases h : a ∈ sg
    · rw [if_pos (decide_eq_true h)]
      refine ⟨fun c hc => ?_, by simp only [List.length_cons]; omega⟩
      rcases List.mem_cons.mp hc with e | e
      · rw [e]; exact h
      · exact ih.1 c e
    · rw [if_neg (by rw [decide_eq_true_eq]; exact h)]
      exact ⟨fun c hc => (by cases hc), Nat.zero_le _⟩
theorem in_signs (sg : List Nat) (c : Nat) : (!(Builtin.Str.occurrences (tx sg) ⟨#[c]⟩ 0 (tx sg).length 1).isEmpty) = decide (c ∈ sg) := by
  rw [StrLaws.found_one, tx_list]
def sp_stretch (t : Adr) : Sp := fun vs H Q _ => ∃ r dx u p sg, vs = [.ref r, .str (tx sg)] ∧ Rd t H r dx u p ∧ sg.length ≤ 1000 ∧ Q (.str (tx (stp sg (u.drop p)))) (upd H r (.ins t.e_Reader dx (rf u (p + (stp sg (u.drop p)).length))))
theorem ok_Reader_stretch (T : Txt K mg t) : FnOk P w K mg base CX0 2 t.f_Reader_stretch t.d_Reader_stretch ["self", "signs"] (sp_stretch t) := by
  refine T.m_Reader_stretch.F.ok sc_Reader_stretch (fun vs H Q E h => ?_) (fun cdv A outer s H vs Q E hr h => ?_)
  · obtain ⟨r, dx, u, p, sg, rfl, _⟩ := h
    rfl
  · obtain ⟨r, dx, u, p, sg, rfl, ⟨hr1, hp, hu⟩, hsg, k⟩ := h
    refine ⟨_, (pss_cons (ps_set (i := 2) sc_Reader_stretch.nd rfl (Or.inl rfl) (pe_fldK (K := K) (pv 0) rfl))
      (pss_cons (ps_while PassesOwn.never (PW.pt (pw_and (pt_not (pt_val (pe_meth0 (pv 0) T.o_Reader.c T.m_Reader_ended.m ((ok_Reader_ended T).mono (by decide)) hr T.m_Reader_ended.b .nil pass0))) (pw_and1 (pt_cmpR op_in_str (pe_ix ix_str (pe_fldK (K := K) (pv 0) rfl) (pe_fldK (K := K) (pv 0) rfl) (fun _ _ => rfl)) (pv 1) rfl))))
        (pss_one (ps_fldaugK (K := K) (pv 0) pe_int in_add)))
      (pss_one (ps_ret (pe_slice sl_str (pe_fldK (K := K) (pv 0) rfl) (po_some (pv 2)) (po_some (pe_fldK (K := K) (pv 0) rfl))))))), ?_⟩
    refine ⟨_, rfl, _, _, _, _, _, rfl, hr1, T.o_Reader.c, T.na_Reader_place, rf_place u p, ?_⟩
    refine ⟨fun m σ H2 => ∃ n, σ = [some (.ref r), some (.str (tx sg)), some (.int (p : Int))] ∧ H2 = upd H r (.ins t.e_Reader dx (rf u (p + n))) ∧ p + n ≤ u.length ∧ (∀ c ∈ (u.drop p).take n, c ∈ sg) ∧ m = u.length - (p + n),
      ⟨_, 0, rfl, (upd_self hr1).symm, hp, (fun c hc => by simp at hc), rfl⟩, ?_⟩
    rintro m σ H2 ⟨n, rfl, rfl, hn, ha, rfl⟩
    have hS : (upd H r (.ins t.e_Reader dx (rf u (p + n)))) r = some (.ins t.e_Reader dx (rf u (p + n))) := upd_same
    have done : (∀ c, (u.drop p)[n]? = some c → c ∉ sg) → (u.drop p).take n = stp sg (u.drop p) := fun hs => (stp_eq _ n (by rw [List.length_drop]; omega) ha hs).symm
    have ln : ((u.drop p).take n).length = n := by rw [List.length_take, List.length_drop]; omega
    have e3 : cutT u (some (p : Int)) (some ((p + n : Nat) : Int)) = (u.drop p).take n := by rw [Int.natCast_add]; exact cut_seg hp
    have fin : (u.drop p).take n = stp sg (u.drop p) → Q (.str (tx (cutT u (some (p : Int)) (some ((p + n : Nat) : Int))))) (upd H r (.ins t.e_Reader dx (rf u (p + n)))) := fun e2 => by
      have e1 : (stp sg (u.drop p)).length = n := by rw [← e2, ln]
      rw [e3, e2]; rw [e1] at k; exact k
    refine ⟨_, rfl, r, dx, rf u (p + n), rfl, hS, (rf_meth u _).1, r, dx, u, p + n, rfl, ⟨hS, hn, hu⟩, _, rfl, ?_⟩
    by_cases c1 : p + n = u.length
    · rw [decide_eq_true c1]
      refine iteF ?_
      refine iteF ?_
      exact ⟨_, rfl, _, _, _, _, _, rfl, hS, T.o_Reader.c, T.na_Reader_text, rf_text u _, _, rfl, _, rfl, _, rfl, _, _, _, _, _, rfl, hS, T.o_Reader.c, T.na_Reader_place, rf_place u _, _, rfl, u, rfl, big hu,
        fin (done fun c hc => by rw [List.getElem?_eq_none (by rw [List.length_drop]; omega)] at hc; cases hc)⟩
    · rw [decide_eq_false c1]
      refine iteT ?_
      have hlt : p + n < u.length := by omega
      refine ⟨_, rfl, _, _, _, _, _, rfl, hS, T.o_Reader.c, T.na_Reader_text, rf_text u _, _, rfl, _, _, _, _, _, rfl, hS, T.o_Reader.c, T.na_Reader_place, rf_place u _, _, _, u[p + n], rfl, rfl, (by rw [tx_len]; exact big hu),
        atI_of (by omega) (by rw [Int.toNat_natCast, tx_list]; exact List.getElem?_eq_getElem hlt), _, rfl, _, _, rfl, rfl, _, rfl, ?_⟩
      rw [in_signs]
      refine ite2D (fun c2 => ?_) (fun c2 => ?_)
      · refine ⟨_, fun σ' H' h => h, ?_⟩
        refine ⟨_, rfl, _, _, _, _, _, rfl, hS, T.o_Reader.c, T.na_Reader_place, rf_place u _, _, _, rfl, rfl, dx, rf u (p + n), hS, (by show 2 < 1000; decide), ?_⟩
        refine ⟨u.length - (p + (n + 1)), by omega, n + 1, rfl, ?_, by omega, fun c hc => ?_, rfl⟩
        · rw [upd_upd]
          rfl
        · rw [List.take_add_one, List.getElem?_drop, List.getElem?_eq_getElem hlt] at hc
          rcases List.mem_append.mp hc with h | h
          · exact ha c h
          · rw [show c = u[p + n] by simpa using h]
            exact c2
      · exact ⟨_, rfl, _, _, _, _, _, rfl, hS, T.o_Reader.c, T.na_Reader_text, rf_text u _, _, rfl, _, rfl, _, rfl, _, _, _, _, _, rfl, hS, T.o_Reader.c, T.na_Reader_place, rf_place u _, _, rfl, u, rfl, big hu,
          fin (done fun c hc => by rw [List.getElem?_drop, List.getElem?_eq_getElem hlt] at hc; cases hc; exact c2)⟩
def tenF : List Nat := [48, 49, 50, 51, 52, 53, 54, 55, 56, 57]
theorem ten_is : (("0123456789" : Str)) = tx tenF := by decide +kernel
theorem tenF_iff {c : Nat} : c ∈ tenF ↔ 48 ≤ c ∧ c ≤ 57 := by
  rw [show tenF = List.range' 48 10 from rfl, List.mem_range'_1]
  omega
def sp_number (t : Adr) : Sp := fun vs H Q _ => ∃ r dx u p, vs = [.ref r] ∧ Rd t H r dx u p ∧ Q (numV (stp tenF (u.drop p))) (upd H r (.ins t.e_Reader dx (rf u (p + (stp tenF (u.drop p)).length))))
theorem ok_Reader_number (T : Txt K mg t) : FnOk P w K mg base CX0 3 t.f_Reader_number t.d_Reader_number ["self"] (sp_number t) := by
  refine T.m_Reader_number.F.ok sc_Reader_number (fun vs H Q E h => ?_) (fun cdv A outer s H vs Q E hr h => ?_)
  · obtain ⟨r, dx, u, p, rfl, _⟩ := h
    rfl
  · obtain ⟨r, dx, u, p, rfl, hR, k⟩ := h
    refine ⟨_, (pss_one (ps_ret (pe_call ((ok_number_of T).mono (by decide)) hr rfl T.number_of.m T.number_of.F.kp T.number_of.b .nil pass0 (pa_cons (pe_meth (pv 0) T.o_Reader.c T.m_Reader_stretch.m ((ok_Reader_stretch T).mono (by decide)) hr T.m_Reader_stretch.b .nil pass0 (pa_cons (pe_glob (v := .str "0123456789") rfl T.c_FIGURES.choose_spec ⟨_, rfl⟩) pa_nil)) pa_nil)))), ?_⟩
    have hf := stp_all tenF (u.drop p)
    refine ⟨_, rfl, r, dx, rf u p, rfl, hR.1, (rf_meth u p).2.2.2, r, dx, u, p, tenF, (by rw [ten_is]; rfl), hR, (by decide), ?_⟩
    exact ⟨_, rfl, fun c hc => tenF_iff.mp (hf.1 c hc), by have := hR.2.2; have := hf.2; rw [List.length_drop] at this; omega, k⟩
def SameB (r : Addr) (H H' : Hp) : Prop := ∀ b o, b ≠ r → H b = some o → H' b = some o
theorem SameB.trans {r : Addr} {H H1 H2 : Hp} (a : SameB r H H1) (b : SameB r H1 H2) : SameB r H H2 := fun c o n e => b c o n (a c o n e)
theorem SameB.upd {r : Addr} {H : Hp} {o : HO} : SameB r H (L2.upd H r o) := fun b o' n e => by rw [upd_ne n]; exact e
def rdAt (t : Adr) (H : Hp) (r dx : Addr) (u : List Nat) (p : Nat) : Hp := upd H r (.ins t.e_Reader dx (rf u p))
theorem rd_at {H : Hp} {r dx : Addr} {u : List Nat} {p q : Nat} (h : Rd t H r dx u p) (hq : q ≤ u.length) : Rd t (rdAt t H r dx u q) r dx u q := ⟨upd_same, hq, h.2.2⟩
theorem drop_tw (f : Nat → Bool) : ∀ l : List Nat, l.drop (l.takeWhile f).length = l.dropWhile f
  | [] => rfl
  | a :: l => by
    rw [List.takeWhile_cons, List.dropWhile_cons]
    by_cases h : f a = true
    · rw [if_pos h, if_pos h, List.length_cons, List.drop_succ_cons]
      exact drop_tw f l
    · rw [if_neg h, if_neg h]
      rfl
theorem stp_of {sg : List Nat} {f : Nat → Bool} (h : ∀ c, decide (c ∈ sg) = f c) (l : List Nat) : stp sg l = l.takeWhile f := by
  unfold stp
  rw [show (fun c => decide (c ∈ sg)) = f from funext h]
theorem fig_of (c : Nat) : decide (c ∈ tenF) = Pat.figure c := decide_eq_decide.mpr tenF_iff
theorem sp_of (c : Nat) : decide (c ∈ [32]) = decide (c = 32) := decide_eq_decide.mpr List.mem_singleton
theorem one_sp : ((" " : Str)) = tx [32] := by decide +kernel
theorem behind {u : List Nat} {p : Nat} (f : Nat → Bool) (hp : p ≤ u.length) : u.drop (p + ((u.drop p).takeWhile f).length) = (u.drop p).dropWhile f ∧ p + ((u.drop p).takeWhile f).length ≤ u.length := by
  refine ⟨by rw [← List.drop_drop, drop_tw], ?_⟩
  have h := (List.takeWhile_prefix f (l := u.drop p)).length_le
  rw [List.length_drop] at h
  omega
theorem okNum_iff {f : List Nat} : Pat.okNum f = true ↔ ((1 ≤ f.length ∧ f.length ≤ 2) ∧ ¬ (f.length = 2 ∧ f[0]? = some 48)) := by unfold Pat.okNum; exact decide_eq_true_iff
def sp_xnum (t : Adr) : Sp := fun vs H Q E => ∃ r dx u p, vs = [.ref r] ∧ Rd t H r dx u p ∧
  (∀ n l p', Pat.num (u.drop p) = some (n, l) → p ≤ p' → p' ≤ u.length → u.drop p' = l → Q (.int ((n : Nat) : Int)) (rdAt t H r dx u p')) ∧ (Pat.num (u.drop p) = none → ∀ H', SameB r H H' → E (.ref t.e_NoPattern) none H')
theorem okx_read_number_reader (T : Txt K mg t) : FnOk P w K mg base (CX1 P w) 4 t.f_read_number_reader t.d_read_number_reader ["reader"] (sp_xnum t) := by
  refine T.read_number_reader.F.okX sc_read_number_reader (fun vs H Q E h => ?_) (fun cdv A outer s H vs Q E hr h => ?_)
  · obtain ⟨r, dx, u, p, rfl, _⟩ := h
    rfl
  · obtain ⟨r, dx, u, p, rfl, hR, k1, k2⟩ := h
    refine ⟨_, (pss_cons (ps_set (i := 1) sc_read_number_reader.nd rfl (Or.inl rfl) (pe_meth0 (pv 0) T.o_Reader.c T.m_Reader_number.m ((ok_Reader_number T).mono (by decide)) hr T.m_Reader_number.b .nil pass0))
      (pss_cons (ps_if (pt_cmpR op_isN (pv 1) pe_non (nomark _))
        (pss_one (ps_raise body1 rfl (fun _ _ z => z) PySem.F.excBase_ValueError has_ve PySem.F.excBase_ValueError T.x_NoPattern.q rfl T.k_NoPattern (pa_cons pe_str pa_nil)))
        pss_nil)
      (pss_cons (ps_expr (pe_meth (pv 0) T.o_Reader.c T.m_Reader_stretch.m ((ok_Reader_stretch T).mono (by decide)) hr T.m_Reader_stretch.b .nil pass0 (pa_cons pe_str pa_nil)))
      (pss_one (ps_ret (pv 1)))))), ?_⟩
    refine ⟨_, rfl, r, dx, rf u p, rfl, hR.1, (rf_meth u p).2.2.1, r, dx, u, p, rfl, hR, ?_⟩
    show ∃ _, _
    rw [stp_of fig_of]
    have b1 := behind Pat.figure hR.2.1
    unfold Pat.num at k1 k2
    by_cases c : Pat.okNum ((u.drop p).takeWhile Pat.figure) = true
    · rw [if_pos c] at k1
      rw [show numV ((u.drop p).takeWhile Pat.figure) = .int ((PySem.NumText.digitsVal ((u.drop p).takeWhile Pat.figure) : Nat) : Int) from if_pos (okNum_iff.mp c)]
      refine ⟨_, rfl, rfl, _, rfl, ?_⟩
      refine iteDn (fun z => nomatch z) ?_
      have hR2 := rd_at hR b1.2
      refine ⟨_, rfl, r, dx, rf u _, rfl, hR2.1, (rf_meth u _).2.2.2, r, dx, u, _, [32], (by rw [one_sp]; rfl), hR2, (by decide), ?_⟩
      rw [stp_of sp_of, upd_upd]
      have b2 := behind (fun c => decide (c = 32)) b1.2
      show ∃ _, _
      refine ⟨_, rfl, ?_⟩
      exact k1 _ _ _ rfl (by omega) b2.2 (by rw [b2.1, b1.1]; rfl)
    · rw [if_neg c] at k2
      rw [show numV ((u.drop p).takeWhile Pat.figure) = .non from if_neg fun z => c (okNum_iff.mpr z)]
      refine ⟨_, rfl, rfl, _, rfl, ?_⟩
      refine iteDp rfl ?_
      exact ⟨by decide, k2 rfl _ SameB.upd⟩
theorem one_comma : (("," : Str)) = tx [44] := by decide +kernel
theorem one_cons {c a : Nat} {v : List Nat} : Pat.one c (a :: v) = if a = c then some v else none := rfl
theorem took_one {u : List Nat} {p c : Nat} : (u.drop p).take [c].length = [c] ↔ ∃ l, Pat.one c (u.drop p) = some l := by
  cases e : u.drop p with
  | nil => exact ⟨fun z => by simp at z, fun ⟨l, z⟩ => by simp [Pat.one] at z⟩
  | cons a v =>
    constructor
    · intro z
      have h : a = c := by simpa using z
      exact ⟨v, by rw [one_cons, if_pos h]⟩
    · rintro ⟨l, z⟩
      rw [one_cons] at z
      by_cases h : a = c
      · rw [h]; rfl
      · rw [if_neg h] at z; cases z
theorem one_drop {u l : List Nat} {p c : Nat} (h : Pat.one c (u.drop p) = some l) : u.drop (p + [c].length) = l ∧ p + [c].length ≤ u.length := by
  cases e : u.drop p with
  | nil => rw [e] at h; simp [Pat.one] at h
  | cons a v =>
    rw [e] at h
    rw [one_cons] at h
    by_cases ha : a = c
    · rw [if_pos ha] at h
      have hl := congrArg List.length e
      rw [List.length_drop, List.length_cons] at hl
      refine ⟨?_, by simp only [List.length_cons, List.length_nil]; omega⟩
      rw [← List.drop_drop, e]
      exact Option.some.inj h
    · rw [if_neg ha] at h; cases h
theorem one_none {u : List Nat} {p c : Nat} (h : (u.drop p).take [c].length ≠ [c]) : Pat.one c (u.drop p) = none := by
  cases e : Pat.one c (u.drop p) with
  | none => rfl
  | some l => exact absurd (took_one.mpr ⟨l, e⟩) h
def sp_xcomma (t : Adr) : Sp := fun vs H Q E => ∃ r dx u p, vs = [.ref r] ∧ Rd t H r dx u p ∧
  (∀ l p', Pat.comma (u.drop p) = some l → p ≤ p' → p' ≤ u.length → u.drop p' = l → Q .non (rdAt t H r dx u p')) ∧ (Pat.comma (u.drop p) = none → ∀ H', SameB r H H' → E (.ref t.e_NoPattern) none H')
theorem okx_read_comma (T : Txt K mg t) : FnOk P w K mg base (CX1 P w) 3 t.f_read_comma t.d_read_comma ["reader"] (sp_xcomma t) := by
  refine T.read_comma.F.okX sc_read_comma (fun vs H Q E h => ?_) (fun cdv A outer s H vs Q E hr h => ?_)
  · obtain ⟨r, dx, u, p, rfl, _⟩ := h
    rfl
  · obtain ⟨r, dx, u, p, rfl, hR, k1, k2⟩ := h
    refine ⟨_, (pss_cons (ps_if (pt_not (pt_val (pe_meth (pv 0) T.o_Reader.c T.m_Reader_took.m ((ok_Reader_took T).mono (by decide)) hr T.m_Reader_took.b .nil pass0 (pa_cons pe_str pa_nil))))
        (pss_one (ps_raise body1 rfl (fun _ _ z => z) PySem.F.excBase_ValueError has_ve PySem.F.excBase_ValueError T.x_NoPattern.q rfl T.k_NoPattern (pa_cons pe_str pa_nil)))
        pss_nil)
      (pss_one (ps_expr (pe_meth (pv 0) T.o_Reader.c T.m_Reader_stretch.m ((ok_Reader_stretch T).mono (by decide)) hr T.m_Reader_stretch.b .nil pass0 (pa_cons pe_str pa_nil))))), ?_⟩
    unfold Pat.comma at k1 k2
    refine ⟨_, rfl, r, dx, rf u p, rfl, hR.1, (rf_meth u p).2.1, r, dx, u, p, [44], (by rw [one_comma]; rfl), hR, (by decide), fun hyes => ?_, fun hno => ?_⟩
    · obtain ⟨l, e⟩ := took_one.mp hyes
      have d := one_drop e
      have hR2 := rd_at hR d.2
      refine ⟨_, rfl, ?_⟩
      refine iteF ?_
      refine ⟨_, rfl, r, dx, rf u _, rfl, hR2.1, (rf_meth u _).2.2.2, r, dx, u, _, [32], (by rw [one_sp]; rfl), hR2, (by decide), ?_⟩
      rw [stp_of sp_of, upd_upd]
      have b2 := behind (fun c => decide (c = 32)) d.2
      rw [e] at k1
      exact k1 _ _ rfl (by omega) b2.2 (by rw [b2.1, d.1]; rfl)
    · refine ⟨_, rfl, ?_⟩
      refine iteT ?_
      exact ⟨by decide, k2 (by rw [one_none hno]; rfl) _ (fun b o _ e => e)⟩
theorem knot_is : (("#." : Str)) = tx [35, 46] := by decide +kernel
theorem knot_of (c : Nat) : decide (c ∈ [35, 46]) = Pat.knot c := decide_eq_decide.mpr (by simp only [List.mem_cons, List.not_mem_nil, or_false])
def sp_xrun (t : Adr) : Sp := fun vs H Q E => ∃ r dx u p, vs = [.ref r] ∧ Rd t H r dx u p ∧
  (∀ z l p', Pat.run (u.drop p) = some (z, l) → p < p' → p' ≤ u.length → u.drop p' = l → Q (.str (tx z)) (rdAt t H r dx u p')) ∧ (Pat.run (u.drop p) = none → ∀ H', SameB r H H' → E (.ref t.e_NoPattern) none H')
theorem okx_read_run (T : Txt K mg t) : FnOk P w K mg base (CX1 P w) 3 t.f_read_run t.d_read_run ["reader"] (sp_xrun t) := by
  refine T.read_run.F.okX sc_read_run (fun vs H Q E h => ?_) (fun cdv A outer s H vs Q E hr h => ?_)
  · obtain ⟨r, dx, u, p, rfl, _⟩ := h
    rfl
  · obtain ⟨r, dx, u, p, rfl, hR, k1, k2⟩ := h
    refine ⟨_, (pss_cons (ps_set (i := 1) sc_read_run.nd rfl (Or.inl rfl) (pe_meth (pv 0) T.o_Reader.c T.m_Reader_stretch.m ((ok_Reader_stretch T).mono (by decide)) hr T.m_Reader_stretch.b .nil pass0 (pa_cons pe_str pa_nil)))
      (pss_cons (ps_if (pt_cmpR op_eq (pv 1) pe_str (nomark _))
        (pss_one (ps_raise body1 rfl (fun _ _ z => z) PySem.F.excBase_ValueError has_ve PySem.F.excBase_ValueError T.x_NoPattern.q rfl T.k_NoPattern (pa_cons pe_str pa_nil)))
        pss_nil)
      (pss_cons (ps_expr (pe_meth (pv 0) T.o_Reader.c T.m_Reader_stretch.m ((ok_Reader_stretch T).mono (by decide)) hr T.m_Reader_stretch.b .nil pass0 (pa_cons pe_str pa_nil)))
      (pss_one (ps_ret (pv 1)))))), ?_⟩
    unfold Pat.run at k1 k2
    have b1 := behind Pat.knot hR.2.1
    refine ⟨_, rfl, r, dx, rf u p, rfl, hR.1, (rf_meth u p).2.2.2, r, dx, u, p, [35, 46], (by rw [knot_is]; rfl), hR, (by decide), ?_⟩
    rw [stp_of knot_of]
    refine ⟨_, rfl, rfl, _, rfl, ?_⟩
    by_cases c : (u.drop p).takeWhile Pat.knot = []
    · rw [if_pos c] at k2
      refine iteDp (by rw [c]; decide +kernel) ?_
      exact ⟨by decide, k2 rfl _ SameB.upd⟩
    · rw [if_neg c] at k1
      have hR2 := rd_at hR b1.2
      refine iteDn (fun z => c ?_) ?_
      · have e : (("" : Str)) = tx [] := by decide +kernel
        rw [e] at z
        injection z with z
        exact tx_inj z
      refine ⟨_, rfl, r, dx, rf u _, rfl, hR2.1, (rf_meth u _).2.2.2, r, dx, u, _, [32], (by rw [one_sp]; rfl), hR2, (by decide), ?_⟩
      rw [stp_of sp_of, upd_upd]
      have b2 := behind (fun c => decide (c = 32)) b1.2
      have l0 : 0 < ((u.drop p).takeWhile Pat.knot).length := List.length_pos_iff.mpr c
      refine ⟨_, rfl, ?_⟩
      exact k1 _ _ _ rfl (by omega) b2.2 (by rw [b2.1, b1.1]; rfl)
theorem sk_le (l : List Nat) : (Pat.sk l).length ≤ l.length := (List.dropWhile_suffix _).length_le
theorem one_lt {c : Nat} {l l1 : List Nat} (h : Pat.one c l = some l1) : l1.length < l.length := by
  cases l with
  | nil => simp [Pat.one] at h
  | cons a v =>
    rw [one_cons] at h
    by_cases ha : a = c
    · rw [if_pos ha] at h
      rw [← Option.some.inj h, List.length_cons]
      omega
    · rw [if_neg ha] at h; cases h
theorem run_le {l z l2 : List Nat} (h : Pat.run l = some (z, l2)) : l2.length ≤ l.length := by
  unfold Pat.run at h
  split at h
  · cases h
  · injection h with h
    injection h with _ h
    rw [← h]
    exact Nat.le_trans (sk_le _) (List.dropWhile_suffix _).length_le
theorem more_fuel : ∀ (k k' : Nat) (l : List Nat), l.length < k → l.length < k' → Pat.runsMore k l = Pat.runsMore k' l
  | 0, _, _, h, _ => by omega
  | _ + 1, 0, _, _, h => by omega
  | k + 1, k' + 1, l, h1, h2 => by
    unfold Pat.runsMore
    cases e : Pat.one 44 l with
    | none => rfl
    | some l1 =>
      cases e2 : Pat.run (Pat.sk l1) with
      | none => simp only [e2]
      | some q =>
        obtain ⟨z, l2⟩ := q
        have a := one_lt e
        have b := run_le e2
        have c := sk_le l1
        simp only [e2]
        rw [more_fuel k k' l2 (by omega) (by omega)]
def more (l : List Nat) : Option (List (List Nat) × List Nat) := Pat.runsMore (l.length + 1) l
theorem more_end {l : List Nat} (h : Pat.one 44 l = none) : more l = some ([], l) := by
  unfold more Pat.runsMore
  rw [h]
theorem more_bad {l l1 : List Nat} (h : Pat.one 44 l = some l1) (h2 : Pat.run (Pat.sk l1) = none) : more l = none := by
  unfold more Pat.runsMore
  rw [h]
  simp only [h2]
theorem more_step {l l1 z l2 : List Nat} (h : Pat.one 44 l = some l1) (h2 : Pat.run (Pat.sk l1) = some (z, l2)) : more l = (more l2).map fun p => (z :: p.1, p.2) := by
  have a := one_lt h
  have b := run_le h2
  have c := sk_le l1
  unfold more
  rw [more_fuel (l2.length + 1) l.length l2 (by omega) (by omega)]
  conv => lhs; unfold Pat.runsMore
  rw [h]
  simp only [h2]
def fin40 (done : List (List Nat)) (l : List Nat) : Option (List (List Nat) × List Nat) := match more l with
  | none => none
  | some (rs, l2) => if (done ++ rs).length > 40 then none else some (done ++ rs, l2)
theorem runs_is {l z l1 : List Nat} (h : Pat.run l = some (z, l1)) : Pat.runs l = fin40 [z] l1 := by
  unfold Pat.runs fin40 more
  rw [h]
  rfl
theorem fin_step {done : List (List Nat)} {l l1 z l2 : List Nat} (h : Pat.one 44 l = some l1) (h2 : Pat.run (Pat.sk l1) = some (z, l2)) : fin40 done l = fin40 (done ++ [z]) l2 := by
  unfold fin40
  rw [more_step h h2]
  cases more l2 with
  | none => rfl
  | some q =>
    obtain ⟨rs, l3⟩ := q
    simp only [Option.map_some, List.append_assoc, List.singleton_append]
def sp_xruns (t : Adr) : Sp := fun vs H Q E => ∃ r dx u p, vs = [.ref r] ∧ Rd t H r dx u p ∧
  (∀ zs l p' q, Pat.runs (u.drop p) = some (zs, l) → p ≤ p' → p' ≤ u.length → u.drop p' = l → H q = none → q ≠ r → Q (.ref q) (upd (rdAt t H r dx u p') q (.lst (vS zs)))) ∧ (Pat.runs (u.drop p) = none → ∀ H', SameB r H H' → E (.ref t.e_NoPattern) none H')
theorem swp {H : Hp} {r dx q : Addr} {u : List Nat} {p1 p2 : Nat} {o : HO} (h : q ≠ r) : upd (upd (rdAt t H r dx u p1) q o) r (.ins t.e_Reader dx (rf u p2)) = upd (rdAt t H r dx u p2) q o := by
  funext b
  show upd (upd (upd H r _) q _) r _ b = upd (upd H r _) q _ b
  by_cases e1 : b = r
  · rw [e1, upd_same, upd_ne h.symm, upd_same]
  · by_cases e2 : b = q
    · rw [e2, upd_ne h, upd_same, upd_same]
    · rw [upd_ne e1, upd_ne e2, upd_ne e1, upd_ne e2, upd_ne e1]
theorem okx_read_runs (T : Txt K mg t) : FnOk P w K mg base (CX1 P w) 4 t.f_read_runs t.d_read_runs ["reader"] (sp_xruns t) := by
  refine T.read_runs.F.okX sc_read_runs (fun vs H Q E h => ?_) (fun cdv A outer s H vs Q E hr h => ?_)
  · obtain ⟨r, dx, u, p, rfl, _⟩ := h
    rfl
  · obtain ⟨r, dx, u, p, rfl, hR, k1, k2⟩ := h
    refine ⟨_, (pss_cons (ps_set (i := 1) sc_read_runs.nd rfl (Or.inl rfl) (pe_lst (pa_cons (pe_call ((okx_read_run T).mono (by decide)) hr rfl T.read_run.m T.read_run.F.kp T.read_run.b .nil pass1 (pa_cons (pv 0) pa_nil)) pa_nil)))
      (pss_cons (ps_fr fun hfr => (ps_while (ownX body1 hfr) (pt_val (pe_meth (pv 0) T.o_Reader.c T.m_Reader_took.m ((ok_Reader_took T).mono (by decide)) hr T.m_Reader_took.b .nil pass0 (pa_cons pe_str pa_nil)))
        (pss_cons (ps_expr (pe_meth (pv 0) T.o_Reader.c T.m_Reader_stretch.m ((ok_Reader_stretch T).mono (by decide)) hr T.m_Reader_stretch.b .nil pass0 (pa_cons pe_str pa_nil)))
        (pss_one (ps_expr (pe_bmK (K := K) PySem.F.plainAttrs_list PySem.F.slot_list_append PySem.F.type_list_append mt_append (pv 1) (pa_cons (pe_call ((okx_read_run T).mono (by decide)) hr rfl T.read_run.m T.read_run.F.kp T.read_run.b .nil pass1 (pa_cons (pv 0) pa_nil)) pa_nil)))))))
      (pss_cons (ps_if (pt_cmpR op_gt (pe_callB (call_len_seqK (K := K)) rfl T.b_len bt_len (pa_cons (pv 1) pa_nil)) (pe_glob (v := .int 40) rfl T.c_MOST_RUNS.choose_spec ⟨_, rfl⟩) (nomark _))
        (pss_one (ps_raise body1 rfl (fun _ _ z => z) PySem.F.excBase_ValueError has_ve PySem.F.excBase_ValueError T.x_NoPattern.q rfl T.k_NoPattern (pa_cons pe_str pa_nil)))
        pss_nil)
      (pss_one (ps_ret (pv 1)))))), ?_⟩
    refine ⟨_, rfl, r, dx, u, p, rfl, hR, fun z l p1 hz hp1 hl1 hd1 => ?_, fun hz H' sb => k2 (by unfold Pat.runs; rw [hz]) H' sb⟩
    rw [runs_is hz] at k1 k2
    refine ⟨(by show 1 ≤ sizeLine; decide), fun q hq => ?_⟩
    have nqr : q ≠ r := fun z => by rw [z, show rdAt t H r dx u p1 r = some _ from upd_same] at hq; cases hq
    rw [show rdAt t H r dx u p1 q = H q from upd_ne nqr] at hq
    have hH : ∀ p9 o, (upd (rdAt t H r dx u p9) q o) r = some (.ins t.e_Reader dx (rf u p9)) := fun p9 o => by rw [upd_ne nqr.symm]; exact upd_same
    have sbq : ∀ p9 o, SameB r H (upd (rdAt t H r dx u p9) q o) := fun p9 o b o' hb e => by rw [upd_ne (ne_of_none e hq)]; show (upd H r _) b = _; rw [upd_ne hb]; exact e
    have ulen := hR.2.2
    refine ⟨fun m σ H2 => ∃ done p2, σ = [some (.ref r), some (.ref q)] ∧ H2 = upd (rdAt t H r dx u p2) q (.lst (vS done)) ∧ fin40 [z] l = fin40 done (u.drop p2) ∧ p ≤ p2 ∧ p2 ≤ u.length ∧ done.length ≤ p2 ∧ m = u.length - p2,
      ⟨_, [z], p1, rfl, rfl, by rw [hd1], by omega, hl1, by simp only [List.length_cons, List.length_nil]; omega, rfl⟩, ?_⟩
    rintro m σ H2 ⟨done, p2, rfl, rfl, hf, hp2, hl2, hdl, rfl⟩
    refine ⟨_, rfl, r, dx, rf u p2, rfl, hH _ _, (rf_meth u _).2.1, r, dx, u, p2, [44], (by rw [one_comma]; rfl), ⟨hH _ _, hl2, ulen⟩, (by decide), fun hyes => ?_, fun hno => ?_⟩
    · obtain ⟨l1, e1⟩ := took_one.mp hyes
      have d := one_drop e1
      rw [swp nqr]
      refine ⟨_, rfl, ?_⟩
      refine iteT ?_
      refine ⟨_, fun σ' H' h => h, ?_⟩
      refine ⟨_, rfl, r, dx, rf u _, rfl, hH _ _, (rf_meth u _).2.2.2, r, dx, u, _, [32], (by rw [one_sp]; rfl), ⟨hH _ _, d.2, ulen⟩, (by decide), ?_⟩
      rw [stp_of sp_of, swp nqr]
      have b2 := behind (fun c => decide (c = 32)) d.2
      rw [d.1] at b2
      rw [d.1]
      obtain ⟨p3, e3⟩ : ∃ p3, p3 = p2 + [44].length + (l1.takeWhile fun c => decide (c = 32)).length := ⟨_, rfl⟩
      rw [← e3] at b2
      have d3 : u.drop p3 = Pat.sk l1 := b2.1
      have p23 : p2 < p3 := by rw [e3]; simp only [List.length_cons, List.length_nil]; omega
      rw [← e3]
      refine ⟨_, rfl, .inl ⟨rfl, _, SqL.of upd_same⟩, _, rfl, r, dx, u, p3, rfl, ⟨hH _ _, b2.2, ulen⟩, fun z2 l2 p4 hz2 hp4 hl4 hd4 => ?_, fun hz2 H' sb => ?_⟩
      · rw [d3] at hz2
        rw [show ∀ p8 p9 o, rdAt t (upd (rdAt t H r dx u p8) q o) r dx u p9 = upd (rdAt t H r dx u p9) q o from fun _ _ _ => swp nqr]
        refine ⟨_, _, _, rfl, rfl, upd_same, (by rw [vS_len]; exact Nat.lt_of_lt_of_le (show done.length < 1000001 by omega) (by decide)), ?_⟩
        rw [upd_upd, vS_app]
        exact ⟨u.length - p4, by omega, done ++ [z2], p4, rfl, rfl, by rw [hf, fin_step e1 hz2, hd4], by omega, hl4, by rw [List.length_append, List.length_singleton]; omega, rfl⟩
      · rw [d3] at hz2
        refine k2 (by rw [hf]; unfold fin40; rw [more_bad e1 hz2]) H' (fun b o hb e => sb b o hb (sbq _ _ b o hb e))
    · have e1 := one_none hno
      refine ⟨_, rfl, ?_⟩
      refine iteF ?_
      have hf2 : fin40 done (u.drop p2) = if (done ++ []).length > 40 then none else some (done ++ [], u.drop p2) := by unfold fin40; rw [more_end e1]
      rw [List.append_nil] at hf2
      refine ⟨_, rfl, _, _, rfl, .inl (SqL.of upd_same), _, _, rfl, rfl, _, rfl, ?_⟩
      rw [vS_len]
      refine ite2D (fun c1 => ?_) (fun c1 => ?_)
      · exact ⟨by decide, k2 (by rw [hf, hf2, if_pos (by omega)]) _ (sbq _ _)⟩
      · refine ⟨_, rfl, ?_⟩
        exact k1 done _ p2 q (by rw [hf, hf2, if_neg (by omega)]) hp2 hl2 rfl hq nqr
def words12 : List (List Nat) := [[114, 111, 119, 115], [116, 119, 105, 108, 108], [115, 97, 116, 105, 110], [98, 101, 115, 105, 100, 101], [97, 98, 111, 118, 101], [109, 105, 114, 114, 111, 114], [117, 112, 101, 110, 100], [98, 97, 99, 107], [113, 117, 97, 114, 116, 101, 114], [116, 105, 108, 101], [98, 108, 111, 99, 107, 115], [108, 97, 121]]
theorem words_tx : (["rows", "twill", "satin", "beside", "above", "mirror", "upend", "back", "quarter", "tile", "blocks", "lay"] : List Str) = words12.map tx := by decide +kernel
theorem isWord_is (u : List Nat) : Pat.isWord u = decide (u ∈ words12) := by
  by_cases h : u ∈ words12
  · rw [decide_eq_true h]
    simp only [words12, List.mem_cons, List.not_mem_nil, or_false] at h
    rcases h with rfl | rfl | rfl | rfl | rfl | rfl | rfl | rfl | rfl | rfl | rfl | rfl <;> decide
  · rw [decide_eq_false h]
    simp only [words12, List.mem_cons, List.not_mem_nil, or_false, not_or] at h
    obtain ⟨h1, h2, h3, h4, h5, h6, h7, h8, h9, h10, h11, h12⟩ := h
    unfold Pat.isWord Pat.wants Pat.rowsW
    rw [decide_eq_false h1, if_neg (fun z => z.elim h2 h3), if_neg (fun z => z.elim h4 fun z => z.elim h5 h12), if_neg (fun z => z.elim h6 fun z => z.elim h7 fun z => z.elim h8 h9), if_neg h10, if_neg h11]
    rfl
def letF : List Nat := [97, 98, 99, 100, 101, 102, 103, 104, 105, 106, 107, 108, 109, 110, 111, 112, 113, 114, 115, 116, 117, 118, 119, 120, 121, 122]
theorem let_is : (("abcdefghijklmnopqrstuvwxyz" : Str)) = tx letF := by decide +kernel
theorem let_of (c : Nat) : decide (c ∈ letF) = Pat.letter c := decide_eq_decide.mpr (by
  rw [show letF = List.range' 97 26 from rfl, List.mem_range'_1]
  omega)
theorem in_words (u : List Nat) : ∀ ls : List (List Nat), inV (V.str (tx u)) ((ls.map tx).map V.str) = decide (u ∈ ls)
  | [] => rfl
  | a :: ls => by
    have ih := in_words u ls
    unfold inV at ih ⊢
    rw [List.map_cons, List.map_cons, List.any_cons, ih]
    by_cases h : u = a
    · rw [h, decide_eq_true (List.mem_cons_self)]
      have : eqV (V.str (tx a)) (V.str (tx a)) = true := eqV_refl rfl
      rw [this, Bool.true_or]
    · have e1 : (eqV (V.str (tx a)) (V.str (tx u)) = false) ∧ (eqV (V.str (tx u)) (V.str (tx a)) = false) := ⟨beq_eq_false_iff_ne.mpr fun z => h (tx_inj z).symm, beq_eq_false_iff_ne.mpr fun z => h (tx_inj z)⟩
      first | rw [e1.1] | rw [e1.2]
      rw [Bool.false_or]
      exact decide_eq_decide.mpr ⟨fun z => List.mem_cons_of_mem _ z, fun z => (List.mem_cons.mp z).elim (fun z => absurd z h) id⟩
def sp_isname : Sp := fun vs H Q _ => ∃ u, vs = [.str (tx u)] ∧ u.length ≤ 1000000 ∧ ∀ H', Same H H' → Q (.bl (Pat.isName u)) H'
theorem ok_is_name (T : Txt K mg t) : FnOk P w K mg base CX0 1 t.f_is_name t.d_is_name ["text"] sp_isname := by
  refine T.is_name.F.ok sc_is_name (fun vs H Q E h => ?_) (fun cdv A outer s H vs Q E hr h => ?_)
  · obtain ⟨u, rfl, _⟩ := h
    rfl
  · obtain ⟨u, rfl, hu, k⟩ := h
    refine ⟨_, (pss_cons (ps_if (PW.pt (pw_or (pt_cmpR op_lt (pe_callB call_len_str rfl T.b_len bt_len (pa_cons (pv 0) pa_nil)) pe_int (nomark _)) (pw_or1 (pt_cmpR op_gt (pe_callB call_len_str rfl T.b_len bt_len (pa_cons (pv 0) pa_nil)) (pe_glob (v := .int 20) rfl T.c_MOST_LETTERS.choose_spec ⟨_, rfl⟩) (nomark _)))))
        (pss_one (ps_ret pe_bl))
        pss_nil)
      (pss_one (ps_ret (pe_and (pe_cmpR (op_notIn_seqK (K := K)) (pv 0) (pe_glob (v := .ref t.q_WORDS) rfl T.g_WORDS rfl) rfl) (pe_one (pe_callB (call_allB (K := K)) rfl T.b_all bt_all (pa_cons (pe_comp (CompOk.mk (caps := []) (Nc := ["sign"]) rfl (by decide +kernel) (by decide +kernel) (comp_fr (sc0 := defScope s_is_name) rfl (by decide +kernel)) rfl rfl rfl (by decide +kernel) (fun _ _ h => by simp at h)) rfl (pi_str (pv 0)) (fun _ _ _ _ _ => .nil) (fun _ _ _ _ _ => (pe_cmpR op_in_str (pv 0) (pe_glob (v := .str "abcdefghijklmnopqrstuvwxyz") rfl T.c_LETTERS.choose_spec ⟨_, rfl⟩) rfl))) pa_nil))))))), ?_⟩
    have zl : (tx u).length ≤ sizeLine := by rw [tx_len]; exact big hu
    refine ⟨_, rfl, _, rfl, zl, _, _, rfl, rfl, _, rfl, ?_⟩
    rw [tx_len]
    unfold Pat.isName at k
    refine ite2D (fun c1 => ?_) (fun c1 => ?_)
    · refine iteT ?_
      rw [decide_eq_false (show ¬ (1 ≤ u.length ∧ u.length ≤ 20) by omega)] at k
      exact k _ (.refl _)
    · refine ⟨_, rfl, _, rfl, zl, _, _, rfl, rfl, _, rfl, ?_⟩
      rw [tx_len]
      refine ite2D (fun c2 => ?_) (fun c2 => ?_)
      · rw [decide_eq_false (show ¬ (1 ≤ u.length ∧ u.length ≤ 20) by omega)] at k
        exact k _ (.refl _)
      · rw [decide_eq_true (show 1 ≤ u.length ∧ u.length ≤ 20 by omega), Bool.true_and, isWord_is] at k
        refine ⟨_, rfl, _, _, rfl, .inr (T.d_WORDS H), rfl, (by decide), _, rfl, ?_⟩
        rw [words_tx, in_words]
        show if (!decide (u ∈ words12)) = true then _ else _
        by_cases cw : u ∈ words12
        · rw [decide_eq_true cw] at k ⊢
          refine iteF ?_
          rw [Bool.not_true, Bool.and_false] at k
          exact k _ (.refl _)
        · rw [decide_eq_false cw] at k ⊢
          refine iteT ?_
          rw [Bool.not_false, Bool.and_true] at k
          refine ⟨_, rfl, _, rfl, ?_⟩
          refine comp_str (z := tx u) (fun i ys H2 => H2 = H ∧ ys = vB ((u.take i).map Pat.letter)) ⟨rfl, rfl⟩ ?_ ?_ ?_ ?_
          · rintro i ys H2 hi ⟨rfl, rfl⟩
            rw [vB_len, List.length_map, List.length_take]
            exact Nat.min_le_left _ _
          · exact zl
          · rintro i c ys H2 hi hc ⟨rfl, rfl⟩
            refine CTurn.no ?_
            have hu' : u[i]? = some c := by
              rw [← tx_list u, Array.getElem?_toList]
              exact hc
            refine ⟨_, rfl, _, _, rfl, rfl, ?_⟩
            rw [let_is, in_signs, let_of]
            exact CN.of hi ⟨rfl, by rw [vB_app, List.take_add_one, hu', List.map_append]; rfl⟩
          · rintro ys H2 q ⟨rfl, rfl⟩ hq
            refine ⟨_, _, rfl, SqL.of upd_same, ?_⟩
            have e9 : (((u.take (tx u).cps.size).map Pat.letter).all id) = u.all Pat.letter := by
              rw [show (tx u).cps.size = u.length from tx_len u, List.take_length, List.all_map]
              rfl
            rw [e9]
            exact k _ (.upd hq)
inductive AtN (H : Hp) : Nd → V → Prop
  | num {n : Nat} : AtN H (.num n) (.int (n : Int))
  | run {r : List Nat} : AtN H (.run r) (.str (tx r))
  | nam {z : List Nat} {a : Addr} : H a = some (.tup [.str (tx z), .non]) → AtN H (.nam z) (.ref a)
  | node {z : List Nat} {ts : List Nd} {a q : Addr} {vs : List V} : H a = some (.tup [.str (tx z), .ref q]) → H q = some (.lst vs) → vs.length = ts.length → (∀ (i : Nat) (x : Nd) (v : V), ts[i]? = some x → vs[i]? = some v → AtN H x v) → AtN H (.node z ts) (.ref a)
theorem AtN.mono {H H' : Hp} (s : ∀ b o, H b = some o → H' b = some o) {x : Nd} {v : V} (h : AtN H x v) : AtN H' x v := by
  induction h with
  | num => exact .num
  | run => exact .run
  | nam h => exact .nam (s _ _ h)
  | node h1 h2 h3 _ ih => exact .node (s _ _ h1) (s _ _ h2) h3 ih
def nw (H H' : Hp) : Hp := fun b => match H b with
  | none => H' b
  | some _ => none
theorem nw_eq {H H' : Hp} {b : Addr} (h : H b = none) : nw H H' b = H' b := by unfold nw; rw [h]
theorem nw_of {H H' : Hp} {b : Addr} {o : HO} (h : nw H H' b = some o) : H b = none ∧ H' b = some o := by
  unfold nw at h
  cases e : H b with
  | none => rw [e] at h; exact ⟨rfl, h⟩
  | some o' => rw [e] at h; cases h
theorem nw_step {A H2 H3 : Hp} {r : Addr} (hr : A r ≠ none) (s : SameB r H2 H3) : ∀ b o, nw A H2 b = some o → nw A H3 b = some o := fun b o h => by
  have g := nw_of h
  rw [nw_eq g.1]
  exact s b o (fun z => hr (by rw [← z]; exact g.1)) g.2
theorem nw_in {A B H3 : Hp} (h : ∀ b, B b = none → A b = none) : ∀ b o, nw B H3 b = some o → nw A H3 b = some o := fun b o g => by
  have g := nw_of g
  rw [nw_eq (h b g.1)]
  exact g.2
theorem nw_upd {A H : Hp} {q : Addr} {o : HO} (h : A q ≠ none) : nw A (upd H q o) = nw A H := by
  funext b
  unfold nw
  cases e : A b with
  | none =>
    show upd H q o b = H b
    exact upd_ne fun z => h (by rw [← z]; exact e)
  | some o' => rfl
def AtNs (H : Hp) (ts : List Nd) (vs : List V) : Prop := vs.length = ts.length ∧ ∀ (i : Nat) (x : Nd) (v : V), ts[i]? = some x → vs[i]? = some v → AtN H x v
theorem AtNs.snoc {H : Hp} {ts : List Nd} {vs : List V} {x : Nd} {v : V} (h : AtNs H ts vs) (hx : AtN H x v) : AtNs H (ts ++ [x]) (vs ++ [v]) := by
  refine ⟨by rw [List.length_append, List.length_append, h.1]; rfl, fun i y w g1 g2 => ?_⟩
  by_cases c : i < ts.length
  · rw [List.getElem?_append_left c] at g1
    rw [List.getElem?_append_left (by rw [h.1]; exact c)] at g2
    exact h.2 i y w g1 g2
  · have e : i = ts.length := by
      have := (List.getElem?_eq_some_iff.mp g1).1
      rw [List.length_append, List.length_singleton] at this
      omega
    subst e
    rw [List.getElem?_append_right (Nat.le_refl _), Nat.sub_self] at g1
    rw [List.getElem?_append_right (by rw [h.1]; exact Nat.le_refl _), h.1, Nat.sub_self] at g2
    cases g1
    cases g2
    exact hx
theorem AtNs.mono {H H' : Hp} (s : ∀ b o, H b = some o → H' b = some o) {ts : List Nd} {vs : List V} (h : AtNs H ts vs) : AtNs H' ts vs := ⟨h.1, fun i x v g1 g2 => (h.2 i x v g1 g2).mono s⟩
theorem args_nil {sub : List Nat → Option (Nd × List Nat)} {b : Bool} {l : List Nat} : Pat.args sub b [] l = some ([], l) := by unfold Pat.args; rfl
def finA (sub : List Nat → Option (Nd × List Nat)) (done : List Nd) (ks l : List Nat) : Option (List Nd × List Nat) := (Pat.args sub done.isEmpty ks l).map fun p => (done ++ p.1, p.2)
theorem finA_end {sub : List Nat → Option (Nd × List Nat)} {done : List Nd} {l : List Nat} : finA sub done [] l = some (done, l) := by unfold finA; rw [args_nil]; simp
def sp_xnode (t : Adr) (d : Nat) : Sp := fun vs H Q E => ∃ r dx u p dep, vs = [.ref r, .int ((dep : Nat) : Int)] ∧ dep + d = 13 ∧ Rd t H r dx u p ∧
  (∀ x l p' v H', Pat.node d (u.drop p) = some (x, l) → p ≤ p' → u.drop p' = l → SameB r H H' → Rd t H' r dx u p' → AtN (nw H H') x v → Q v H') ∧ (Pat.node d (u.drop p) = none → ∀ H', SameB r H H' → E (.ref t.e_NoPattern) none H')
def sp_xthings (t : Adr) (d : Nat) : Sp := fun vs H Q E => ∃ r dx u p dep z, vs = [.ref r, .str (tx z), .int ((dep : Nat) : Int)] ∧ dep + d = 13 ∧ Rd t H r dx u p ∧
  (∀ ts l p' q vs' H', Pat.things (Pat.node d) z (u.drop p) = some (ts, l) → p ≤ p' → u.drop p' = l → SameB r H H' → Rd t H' r dx u p' → H q = none → H' q = some (.lst vs') → AtNs (nw H H') ts vs' → Q (.ref q) H') ∧ (Pat.things (Pat.node d) z (u.drop p) = none → ∀ H', SameB r H H' → E (.ref t.e_NoPattern) none H')
theorem lk_wants (z : List Nat) : lk [("twill", "nn"), ("satin", "nn"), ("beside", "pp"), ("above", "pp"), ("mirror", "p"), ("upend", "p"), ("back", "p"), ("quarter", "p"), ("tile", "pnn"), ("blocks", "ppp"), ("lay", "pp")] (tx z) = (Pat.wants z).map tx := by
  by_cases h : z ∈ words12.tail
  · simp only [words12, List.tail_cons, List.mem_cons, List.not_mem_nil, or_false] at h
    rcases h with rfl | rfl | rfl | rfl | rfl | rfl | rfl | rfl | rfl | rfl | rfl <;> decide +kernel
  · have hn : lk [("twill", "nn"), ("satin", "nn"), ("beside", "pp"), ("above", "pp"), ("mirror", "p"), ("upend", "p"), ("back", "p"), ("quarter", "p"), ("tile", "pnn"), ("blocks", "ppp"), ("lay", "pp")] (tx z) = none := by
      unfold lk
      rw [Option.map_eq_none_iff, List.find?_eq_none]
      intro q hq
      rw [decide_eq_true_eq]
      intro e
      have hm : tx z ∈ words12.tail.map tx := by
        rw [← e]
        have : ∀ q ∈ ([("twill", "nn"), ("satin", "nn"), ("beside", "pp"), ("above", "pp"), ("mirror", "p"), ("upend", "p"), ("back", "p"), ("quarter", "p"), ("tile", "pnn"), ("blocks", "ppp"), ("lay", "pp")] : List (Str × Str)), q.1 ∈ words12.tail.map tx := by decide +kernel
        exact this q hq
      obtain ⟨y, hy, ey⟩ := List.mem_map.mp hm
      exact h (tx_inj ey ▸ hy)
    rw [hn]
    simp only [words12, List.tail_cons, List.mem_cons, List.not_mem_nil, or_false, not_or] at h
    obtain ⟨h2, h3, h4, h5, h6, h7, h8, h9, h10, h11, h12⟩ := h
    unfold Pat.wants
    rw [if_neg (fun z => z.elim h2 h3), if_neg (fun z => z.elim h4 fun z => z.elim h5 h12), if_neg (fun z => z.elim h6 fun z => z.elim h7 fun z => z.elim h8 h9), if_neg h10, if_neg h11]
    rfl
theorem rows_tx : (("rows" : Str)) = tx Pat.rowsW := by decide +kernel
theorem wants_len {z ks : List Nat} (h : Pat.wants z = some ks) : ks.length ≤ 3 := by
  unfold Pat.wants at h
  split at h
  · cases h; decide
  · split at h
    · cases h; decide
    · split at h
      · cases h; decide
      · split at h
        · cases h; decide
        · split at h
          · cases h; decide
          · cases h
theorem rd_same {H : Hp} {r dx : Addr} {u : List Nat} {p : Nat} (_ : Rd t H r dx u p) (p4 : Nat) : SameB r H (rdAt t H r dx u p4) := SameB.upd
def thing (sub : List Nat → Option (Nd × List Nat)) (c : Nat) (l : List Nat) : Option (Nd × List Nat) := if c = 112 then sub l else (Pat.num l).map fun p => (Nd.num p.1, p.2)
theorem finA_cons {sub : List Nat → Option (Nd × List Nat)} {done : List Nd} {c : Nat} {ks l : List Nat} : finA sub done (c :: ks) l = match (if done.isEmpty = true then some l else Pat.comma l) with
    | none => none
    | some l1 => match thing sub c l1 with
      | none => none
      | some (a, l2) => finA sub (done ++ [a]) ks l2 := by
  unfold finA thing
  conv => lhs; unfold Pat.args
  cases (if done.isEmpty = true then some l else Pat.comma l) with
  | none => rfl
  | some l1 =>
    dsimp only
    cases (if c = 112 then sub l1 else (Pat.num l1).map fun p => (Nd.num p.1, p.2)) with
    | none => rfl
    | some q =>
      obtain ⟨a, l2⟩ := q
      dsimp only
      rw [show (done ++ [a]).isEmpty = false by cases done <;> rfl, Option.map_map]
      congr 1
      funext p
      simp
theorem okx_read_things {d k : Nat} (hk : 4 ≤ k) (T : Txt K mg t) (G_read_node : FnOk P w K mg base (CX1 P w) k t.f_read_node t.d_read_node ["reader", "depth"] (sp_xnode t d)) : FnOk P w K mg base (CX1 P w) (k + 1) t.f_read_things t.d_read_things ["reader", "word", "depth"] (sp_xthings t d) := by
  refine T.read_things.F.okX sc_read_things (fun vs H Q E h => ?_) (fun cdv A outer s H vs Q E hr h => ?_)
  · obtain ⟨r, dx, u, p, dep, z, rfl, _⟩ := h
    rfl
  · obtain ⟨r, dx, u, p, dep, z, rfl, hdep, hR, k1, k2⟩ := h
    refine ⟨_, (pss_cons (ps_if (pt_cmpR op_eq (pv 1) pe_str (nomark _))
        (pss_one (ps_ret (pe_call ((okx_read_runs T).mono (by omega)) hr rfl T.read_runs.m T.read_runs.F.kp T.read_runs.b .nil pass1 (pa_cons (pv 0) pa_nil))))
        pss_nil)
      (pss_cons (ps_if (pt_cmp (pc_topNotin T.d_THINGS (pv 1) (pe_glob (v := .ref t.q_THINGS) rfl T.g_THINGS rfl)))
        (pss_one (ps_raise body1 rfl (fun _ _ z => z) PySem.F.excBase_ValueError has_ve PySem.F.excBase_ValueError T.x_NoPattern.q rfl T.k_NoPattern (pa_cons pe_str pa_nil)))
        pss_nil)
      (pss_cons (ps_set (i := 3) sc_read_things.nd rfl (Or.inl rfl) (pe_lst pa_nil))
      (pss_cons (ps_fr fun hfr => (ps_for (ownX body1 hfr) rfl (pi_str (pe_topGet T.d_THINGS (pe_glob (v := .ref t.q_THINGS) rfl T.g_THINGS rfl) (pv 1) (fun _ _ => rfl))) (pg_name (i := 4) sc_read_things.nd rfl (Or.inl rfl))
        (pss_cons (ps_if (pt_truthK (K := K) (pv 3) (fun _ => rfl))
          (pss_one (ps_expr (pe_call ((okx_read_comma T).mono (by omega)) hr rfl T.read_comma.m T.read_comma.F.kp T.read_comma.b .nil pass1 (pa_cons (pv 0) pa_nil))))
          pss_nil)
        (pss_one (ps_expr (pe_bmK (K := K) PySem.F.plainAttrs_list PySem.F.slot_list_append PySem.F.type_list_append mt_append (pv 3) (pa_cons (pe_ifExp (pt_cmpR op_eq (pv 4) pe_str (nomark _)) (pe_call (G_read_node.mono (by omega)) hr rfl T.read_node.m T.read_node.F.kp T.read_node.b .nil pass1 (pa_cons (pv 0) (pa_cons (pv 2) pa_nil))) (pe_call ((okx_read_number_reader T).mono (by omega)) hr rfl T.read_number_reader.m T.read_number_reader.F.kp T.read_number_reader.b .nil pass1 (pa_cons (pv 0) pa_nil))) pa_nil)))))))
      (pss_one (ps_ret (pv 3))))))), ?_⟩
    refine ⟨_, rfl, rfl, _, rfl, ?_⟩
    unfold Pat.things at k1 k2
    by_cases c : z = Pat.rowsW
    · refine iteDp (by rw [c, rows_tx]) ?_
      rw [if_pos c] at k1 k2
      refine ⟨_, rfl, r, dx, u, p, rfl, hR, fun zs l p' q hz hp hp' hd hq nqr => ?_, fun hz H' sb => k2 (by rw [hz]; rfl) H' sb⟩
      have hn : nw H (upd (rdAt t H r dx u p') q (.lst (vS zs))) = nw H (upd (rdAt t H r dx u p') q (.lst (vS zs))) := rfl
      refine k1 (zs.map Nd.run) l p' q (vS zs) _ (by rw [hz]; rfl) hp hd (fun b o hb e => by rw [upd_ne (ne_of_none e hq)]; show (upd H r _) b = _; rw [upd_ne hb]; exact e) ⟨by rw [upd_ne nqr.symm]; exact upd_same, hp', hR.2.2⟩ hq upd_same ⟨by rw [vS_len, List.length_map], fun i x v g1 g2 => ?_⟩
      rw [List.getElem?_map] at g1
      unfold vS at g2
      rw [List.getElem?_map] at g2
      cases e : zs[i]? with
      | none => rw [e] at g1; cases g1
      | some y =>
        rw [e] at g1 g2
        cases g1
        cases g2
        exact .run
    · refine iteDn (fun y => c ?_) ?_
      · rw [rows_tx] at y
        injection y with y
        exact tx_inj y
      rw [if_neg c] at k1 k2
      refine ⟨_, rfl, tx z, rfl, rfl, _, rfl, ?_⟩
      rw [lk_wants]
      cases ew : Pat.wants z with
      | none =>
        rw [ew] at k2
        refine iteT ?_
        exact ⟨by decide, k2 rfl _ (fun b o _ e => e)⟩
      | some ks =>
        rw [ew] at k1 k2
        dsimp only at k1 k2
        refine iteF ?_
        refine ⟨(by decide), fun q hq => ?_⟩
        have nqr : q ≠ r := fun z => by rw [z, hR.1] at hq; cases hq
        have hlk : lk [("twill", "nn"), ("satin", "nn"), ("beside", "pp"), ("above", "pp"), ("mirror", "p"), ("upend", "p"), ("back", "p"), ("quarter", "p"), ("tile", "pnn"), ("blocks", "ppp"), ("lay", "pp")] (tx z) = some (tx ks) := by rw [lk_wants, ew]; rfl
        have hq0 : (upd H q (.lst [])) q ≠ none := by rw [upd_same]; exact fun z => nomatch z
        have hr0 : (upd H q (.lst [])) r ≠ none := by rw [upd_ne nqr.symm, hR.1]; exact fun z => nomatch z
        have sk0 : ∀ b o, H b = some o → (upd H q (.lst [])) b = some o := fun b o e => by rw [upd_ne (ne_of_none e hq)]; exact e
        refine ⟨_, rfl, tx z, _, rfl, rfl, hlk, _, rfl, ?_⟩
        have ksl := wants_len ew
        have hksc : (tx ks).cps.size = ks.length := tx_len ks
        refine for_str (z := tx ks) (fun i σ H2 => ∃ v done vs p2, σ = [some (.ref r), some (.str (tx z)), some (.int (dep : Int)), some (.ref q), v] ∧ SameB r H H2 ∧ (∀ b, H2 b = none → (upd H q (.lst [])) b = none) ∧ Rd t H2 r dx u p2 ∧ H2 q = some (.lst vs) ∧ AtNs (nw (upd H q (.lst [])) H2) done vs ∧ done.length = i ∧ p ≤ p2 ∧ Pat.args (Pat.node d) true ks (u.drop p) = finA (Pat.node d) done (ks.drop i) (u.drop p2)) ⟨none, [], [], p, rfl, (fun b o _ e => sk0 b o e), (fun b e => e), ⟨by rw [upd_ne nqr.symm]; exact hR.1, hR.2⟩, upd_same, ⟨rfl, fun i x v g => by simp at g⟩, rfl, Nat.le_refl _, ?_⟩ ?_ ?_
        · unfold finA
          simp
        · rintro i c' σ H2 hc ⟨v, done, vs, p2, rfl, sb2, dom2, hR2, hq2, hN2, hl2, hp2, hA⟩
          have hci : ks[i]? = some c' := by
            rw [← tx_list ks, Array.getElem?_toList]
            exact hc
          have hik : i < ks.length := (List.getElem?_eq_some_iff.mp hci).1
          have hdk : ks.drop i = c' :: ks.drop (i + 1) := by
            rw [List.drop_eq_getElem_cons hik, (List.getElem?_eq_some_iff.mp hci).2]
          rw [hdk, finA_cons] at hA
          have hvl := hN2.1
          refine ⟨_, rfl, !vs.isEmpty, .inl ⟨vs, SqL.of hq2, rfl⟩, ?_⟩
          by_cases ce : done = []
          case' pos =>
            have ve : vs = [] := List.length_eq_zero_iff.mp (by rw [hvl, ce]; rfl)
            rw [if_pos (by rw [ce]; rfl)] at hA
            rw [show (!vs.isEmpty) = false by rw [ve]; rfl]
            refine iteF ?_
            obtain ⟨p3, ep3⟩ : ∃ p3, p3 = p2 := ⟨_, rfl⟩
            rw [← ep3] at hR2 hp2 hA
            have hR3 := hR2
            have sb3 := sb2
            have dom3 := dom2
            have hq3 := hq2
            have hN3 := hN2
            have hA3 := hA
            have hp3 := hp2
          case' neg =>
            have ve : vs.isEmpty = false := by
              cases vs with
              | nil => exact absurd (List.length_eq_zero_iff.mp hvl.symm) ce
              | cons _ _ => rfl
            rw [if_neg (by cases done with | nil => exact absurd rfl ce | cons _ _ => exact fun z => nomatch z)] at hA
            rw [ve]
            refine iteT ?_
            refine ⟨_, rfl, r, dx, u, p2, rfl, hR2, fun l p3 hz hp hpl hd => ?_, fun hz H' sb => k2 (by rw [hA, hz]) H' (sb2.trans sb)⟩
            have hR3 := rd_at hR2 hpl
            have s23 : SameB r H2 (rdAt t H2 r dx u p3) := SameB.upd
            have sb3 := sb2.trans s23
            have dom3 : ∀ b, rdAt t H2 r dx u p3 b = none → (upd H q (.lst [])) b = none := fun b e => dom2 b (by
              have nb : b ≠ r := fun z => by rw [z, show rdAt t H2 r dx u p3 r = some _ from upd_same] at e; cases e
              rw [show rdAt t H2 r dx u p3 b = H2 b from upd_ne nb] at e
              exact e)
            have hq3 := s23 _ _ nqr hq2
            have hN3 := hN2.mono (nw_step hr0 s23)
            rw [hz, ← hd] at hA
            have hA3 := hA
            have hp3 : p ≤ p3 := Nat.le_trans hp2 hp
            generalize rdAt t H2 r dx u p3 = H3 at hR3 sb3 dom3 hq3 hN3 ⊢
          all_goals
            have small : vs.length < sizeLine := Nat.lt_of_lt_of_le (show vs.length < 1000 by omega) (by decide)
            refine ⟨_, rfl, .inl ⟨rfl, _, SqL.of hq3⟩, _, rfl, rfl, _, rfl, ?_⟩
            unfold thing at hA3
            dsimp only at hA3
            by_cases cp : c' = 112
            · rw [if_pos cp] at hA3
              refine iteDp (by rw [cp]; decide +kernel) ?_
              refine ⟨_, rfl, _, rfl, r, dx, u, p3, dep, rfl, hdep, hR3, fun x l p4 v4 H4 hz4 hp4 hd4 sb4 hR4 hN4 => ?_, fun hz4 H' sb => k2 (by rw [hA3, hz4]) H' (sb3.trans sb)⟩
              have hq4 := sb4 _ _ nqr hq3
              refine ⟨_, _, _, rfl, rfl, hq4, small, ?_⟩
              refine ⟨_, done ++ [x], vs ++ [v4], p4, rfl, ?_, ?_, ?_, upd_same, ?_, by rw [List.length_append, hl2]; rfl, by omega, by rw [hA3, hz4, hd4]⟩
              · intro b o hb e
                rw [upd_ne (ne_of_none e hq)]
                exact sb4 b o hb (sb3 b o hb e)
              · intro b e
                have nb : b ≠ q := fun z => by rw [z, upd_same] at e; cases e
                rw [upd_ne nb] at e
                refine dom3 b (Option.eq_none_iff_forall_ne_some.mpr fun o e3 => ?_)
                by_cases hb : b = r
                · rw [hb, hR4.1] at e; cases e
                · rw [sb4 b o hb e3] at e; cases e
              · exact ⟨by rw [upd_ne nqr.symm]; exact hR4.1, hR4.2⟩
              · rw [nw_upd hq0]
                exact (hN3.mono (nw_step hr0 sb4)).snoc (hN4.mono (nw_in dom3))
            · rw [if_neg cp] at hA3
              refine iteDn (fun y => cp ?_) ?_
              · have e : (("p" : Str)) = tx [112] := by decide +kernel
                rw [e] at y
                injection y with y
                exact (List.cons.inj (tx_inj (a := [c']) (b := [112]) y)).1
              refine ⟨_, rfl, r, dx, u, p3, rfl, hR3, fun n l p4 hz4 hp4 hl4 hd4 => ?_, fun hz4 H' sb => k2 (by rw [hA3, hz4]; rfl) H' (sb3.trans sb)⟩
              have hR4 := rd_at hR3 hl4
              have sb4 := rd_same hR3 p4
              have hq4 := sb4 _ _ nqr hq3
              refine ⟨_, _, _, rfl, rfl, hq4, small, ?_⟩
              refine ⟨_, done ++ [Nd.num n], vs ++ [.int (n : Int)], p4, rfl, ?_, ?_, ?_, upd_same, ?_, by rw [List.length_append, hl2]; rfl, by omega, by rw [hA3, hz4, hd4]; rfl⟩
              · intro b o hb e
                rw [upd_ne (ne_of_none e hq)]
                exact sb4 b o hb (sb3 b o hb e)
              · intro b e
                have nb : b ≠ q := fun z => by rw [z, upd_same] at e; cases e
                rw [upd_ne nb] at e
                refine dom3 b (Option.eq_none_iff_forall_ne_some.mpr fun o e3 => ?_)
                by_cases hb : b = r
                · rw [hb] at e; rw [hR4.1] at e; cases e
                · rw [sb4 b o hb e3] at e; cases e
              · exact ⟨by rw [upd_ne nqr.symm]; exact hR4.1, hR4.2⟩
              · rw [nw_upd hq0]
                exact (hN3.mono (nw_step hr0 sb4)).snoc .num
        · rintro σ H2 ⟨v, done, vs, p2, rfl, sb2, dom2, hR2, hq2, hN2, hl2, hp2, hA⟩
          rw [hksc, List.drop_length, finA_end] at hA
          refine ⟨_, rfl, ?_⟩
          exact k1 done _ p2 q vs H2 hA hp2 rfl sb2 hR2 hq hq2 (hN2.mono (nw_in (fun b e => by
            by_cases eb : b = q
            · rw [eb, upd_same] at e; cases e
            · rw [upd_ne eb] at e; exact e)))
theorem one_open : (("(" : Str)) = tx [40] := by decide +kernel
theorem one_close : ((")" : Str)) = tx [41] := by decide +kernel
theorem node_succ (d : Nat) (l : List Nat) : Pat.node (d + 1) l = match Pat.one 40 (Pat.sk (l.dropWhile Pat.letter)) with
    | none => if Pat.isName (l.takeWhile Pat.letter) = true then some (.nam (l.takeWhile Pat.letter), Pat.sk (l.dropWhile Pat.letter)) else none
    | some l1 => match Pat.things (Pat.node d) (l.takeWhile Pat.letter) (Pat.sk l1) with
      | none => none
      | some (ts, l2) => match Pat.one 41 l2 with
        | none => none
        | some l3 => some (.node (l.takeWhile Pat.letter) ts, Pat.sk l3) := by
  (conv => lhs; unfold Pat.node) <;> rfl
theorem okx_read_node {d k : Nat} (hk : 2 ≤ k) (T : Txt K mg t) (G_read_things : FnOk P w K mg base (CX1 P w) k t.f_read_things t.d_read_things ["reader", "word", "depth"] (sp_xthings t d)) : FnOk P w K mg base (CX1 P w) (k + 1) t.f_read_node t.d_read_node ["reader", "depth"] (sp_xnode t (d + 1)) := by
  refine T.read_node.F.okX sc_read_node (fun vs H Q E h => ?_) (fun cdv A outer s H vs Q E hr h => ?_)
  · obtain ⟨r, dx, u, p, dep, rfl, _⟩ := h
    rfl
  · obtain ⟨r, dx, u, p, dep, rfl, hdep, hR, k1, k2⟩ := h
    refine ⟨_, (pss_cons (ps_if (pt_cmpR op_gt (pv 1) (pe_glob (v := .int 12) rfl T.c_MOST_DEEP_reader.choose_spec ⟨_, rfl⟩) (nomark _))
        (pss_one (ps_raise body1 rfl (fun _ _ z => z) PySem.F.excBase_ValueError has_ve PySem.F.excBase_ValueError T.x_NoPattern.q rfl T.k_NoPattern (pa_cons pe_str pa_nil)))
        pss_nil)
      (pss_cons (ps_set (i := 2) sc_read_node.nd rfl (Or.inl rfl) (pe_meth (pv 0) T.o_Reader.c T.m_Reader_stretch.m ((ok_Reader_stretch T).mono (by omega)) hr T.m_Reader_stretch.b .nil pass0 (pa_cons (pe_glob (v := .str "abcdefghijklmnopqrstuvwxyz") rfl T.c_LETTERS.choose_spec ⟨_, rfl⟩) pa_nil)))
      (pss_cons (ps_expr (pe_meth (pv 0) T.o_Reader.c T.m_Reader_stretch.m ((ok_Reader_stretch T).mono (by omega)) hr T.m_Reader_stretch.b .nil pass0 (pa_cons pe_str pa_nil)))
      (pss_cons (ps_if (pt_not (pt_val (pe_meth (pv 0) T.o_Reader.c T.m_Reader_took.m ((ok_Reader_took T).mono (by omega)) hr T.m_Reader_took.b .nil pass0 (pa_cons pe_str pa_nil))))
        (pss_cons (ps_if (pt_not (pt_val (pe_call ((ok_is_name T).mono (by omega)) hr rfl T.is_name.m T.is_name.F.kp T.is_name.b .nil pass0 (pa_cons (pv 2) pa_nil))))
          (pss_one (ps_raise body1 rfl (fun _ _ z => z) PySem.F.excBase_ValueError has_ve PySem.F.excBase_ValueError T.x_NoPattern.q rfl T.k_NoPattern (pa_cons pe_str pa_nil)))
          pss_nil)
        (pss_one (ps_ret (pe_tup (pa_cons (pv 2) (pa_cons pe_non pa_nil))))))
        pss_nil)
      (pss_cons (ps_expr (pe_meth (pv 0) T.o_Reader.c T.m_Reader_stretch.m ((ok_Reader_stretch T).mono (by omega)) hr T.m_Reader_stretch.b .nil pass0 (pa_cons pe_str pa_nil)))
      (pss_cons (ps_set (i := 3) sc_read_node.nd rfl (Or.inl rfl) (pe_call (G_read_things.mono (by omega)) hr rfl T.read_things.m T.read_things.F.kp T.read_things.b .nil pass1 (pa_cons (pv 0) (pa_cons (pv 2) (pa_cons (pe_op op_add (pv 1) pe_int) pa_nil)))))
      (pss_cons (ps_if (pt_not (pt_val (pe_meth (pv 0) T.o_Reader.c T.m_Reader_took.m ((ok_Reader_took T).mono (by omega)) hr T.m_Reader_took.b .nil pass0 (pa_cons pe_str pa_nil))))
        (pss_one (ps_raise body1 rfl (fun _ _ z => z) PySem.F.excBase_ValueError has_ve PySem.F.excBase_ValueError T.x_NoPattern.q rfl T.k_NoPattern (pa_cons pe_str pa_nil)))
        pss_nil)
      (pss_cons (ps_expr (pe_meth (pv 0) T.o_Reader.c T.m_Reader_stretch.m ((ok_Reader_stretch T).mono (by omega)) hr T.m_Reader_stretch.b .nil pass0 (pa_cons pe_str pa_nil)))
      (pss_one (ps_ret (pe_tup (pa_cons (pv 2) (pa_cons (pv 3) pa_nil))))))))))))), ?_⟩
    rw [node_succ] at k1 k2
    refine ⟨_, rfl, _, _, rfl, rfl, _, rfl, ?_⟩
    refine iteDn (by omega) ?_
    have b1 := behind Pat.letter hR.2.1
    obtain ⟨p1, e1⟩ : ∃ p1, p1 = p + ((u.drop p).takeWhile Pat.letter).length := ⟨_, rfl⟩
    rw [← e1] at b1
    have b2 := behind (fun c => decide (c = 32)) b1.2
    obtain ⟨p2, e2⟩ : ∃ p2, p2 = p1 + ((u.drop p1).takeWhile fun c => decide (c = 32)).length := ⟨_, rfl⟩
    rw [← e2] at b2
    have d2 : u.drop p2 = Pat.sk ((u.drop p).dropWhile Pat.letter) := by rw [b2.1, b1.1]; rfl
    rw [← d2] at k1 k2
    have hR1 := rd_at hR b1.2
    have hR2 := rd_at hR b2.2
    have hz : ((u.drop p).takeWhile Pat.letter).length ≤ 1000000 := by have := hR.2.2; omega
    refine ⟨_, rfl, r, dx, rf u p, rfl, hR.1, (rf_meth u p).2.2.2, r, dx, u, p, letF, (by rw [let_is]; rfl), hR, (by decide), ?_⟩
    rw [stp_of let_of, ← e1]
    refine ⟨_, rfl, r, dx, rf u _, rfl, hR1.1, (rf_meth u _).2.2.2, r, dx, u, _, [32], (by rw [one_sp]; rfl), hR1, (by decide), ?_⟩
    rw [stp_of sp_of, upd_upd, ← e2]
    generalize hzz : (u.drop p).takeWhile Pat.letter = z at k1 k2 hz ⊢
    refine ⟨_, rfl, r, dx, rf u _, rfl, hR2.1, (rf_meth u _).2.1, r, dx, u, _, [40], (by rw [one_open]; rfl), hR2, (by decide), fun hyes => ?_, fun hno => ?_⟩
    · obtain ⟨l1, el⟩ := took_one.mp hyes
      have d := one_drop el
      rw [el] at k1 k2
      dsimp only at k1 k2
      have b3 := behind (fun c => decide (c = 32)) d.2
      obtain ⟨p3, e3⟩ : ∃ p3, p3 = p2 + [40].length + ((u.drop (p2 + [40].length)).takeWhile fun c => decide (c = 32)).length := ⟨_, rfl⟩
      rw [← e3] at b3
      have d3 : u.drop p3 = Pat.sk l1 := by rw [b3.1, d.1]; rfl
      rw [← d3] at k1 k2
      have hRa := rd_at hR d.2
      have hR3 := rd_at hR b3.2
      rw [upd_upd]
      refine ⟨_, rfl, ?_⟩
      refine iteF ?_
      refine ⟨_, rfl, r, dx, rf u _, rfl, hRa.1, (rf_meth u _).2.2.2, r, dx, u, _, [32], (by rw [one_sp]; rfl), hRa, (by decide), ?_⟩
      rw [stp_of sp_of, upd_upd, ← e3]
      refine ⟨_, rfl, _, rfl, _, rfl, _, _, rfl, rfl, r, dx, u, p3, dep + 1, z, rfl, by omega, hR3, fun ts l p4 q vs' H4 hz4 hp4 hd4 sb4 hR4 hqn hq4 hN4 => ?_, fun hz4 H' sb => k2 (by rw [hz4]) H' ((rd_same hR p3).trans sb)⟩
      rw [hz4] at k1 k2
      dsimp only at k1 k2
      have sH4 : SameB r H H4 := (rd_same hR p3).trans sb4
      refine ⟨_, rfl, r, dx, rf u p4, rfl, hR4.1, (rf_meth u _).2.1, r, dx, u, p4, [41], (by rw [one_close]; rfl), hR4, (by decide), fun hyes2 => ?_, fun hno2 => ?_⟩
      · obtain ⟨l5, el5⟩ := took_one.mp hyes2
        have d5 := one_drop el5
        rw [hd4] at el5
        rw [el5] at k1
        dsimp only at k1
        have b6 := behind (fun c => decide (c = 32)) d5.2
        obtain ⟨p6, e6⟩ : ∃ p6, p6 = p4 + [41].length + ((u.drop (p4 + [41].length)).takeWhile fun c => decide (c = 32)).length := ⟨_, rfl⟩
        rw [← e6] at b6
        have hR5 := rd_at hR4 d5.2
        refine ⟨_, rfl, ?_⟩
        refine iteF ?_
        refine ⟨_, rfl, r, dx, rf u _, rfl, hR5.1, (rf_meth u _).2.2.2, r, dx, u, _, [32], (by rw [one_sp]; rfl), hR5, (by decide), ?_⟩
        rw [stp_of sp_of, upd_upd, ← e6]
        have s6 := rd_same hR4 p6
        have hR6 := rd_at hR4 b6.2
        have hqn : rdAt t H r dx u p3 q = none := hqn
        have hN4 : AtNs (nw (rdAt t H r dx u p3) H4) ts vs' := hN4
        have nqr : q ≠ r := fun y => by rw [y, hR3.1] at hqn; cases hqn
        have hqH : H q = none := by rw [show rdAt t H r dx u p3 q = H q from upd_ne nqr] at hqn; exact hqn
        have hN6 : AtNs (nw H (rdAt t H4 r dx u p6)) ts vs' := (hN4.mono (nw_step (by rw [hR3.1]; exact fun y => nomatch y) s6)).mono (nw_in fun b e => by
          by_cases eb : b = r
          · rw [eb, hR3.1] at e; cases e
          · rw [show rdAt t H r dx u p3 b = H b from upd_ne eb] at e; exact e)
        have sH6 := sH4.trans s6
        have hq6 := s6 _ _ nqr hq4
        have heq : upd H4 r (.ins t.e_Reader dx (rf u p6)) = rdAt t H4 r dx u p6 := rfl
        rw [heq]
        generalize rdAt t H4 r dx u p6 = H6 at hR6 hN6 sH6 hq6 ⊢
        refine ⟨_, rfl, _, rfl, (by show 2 ≤ sizeLine; decide), fun a ha => ?_⟩
        have nar : a ≠ r := fun y => by rw [y, hR6.1] at ha; cases ha
        have naq : a ≠ q := fun y => by rw [y, hq6] at ha; cases ha
        have haH : H a = none := by
          cases e : H a with
          | none => rfl
          | some o => rw [sH6 a o nar e] at ha; cases ha
        refine k1 (.node z ts) _ p6 (.ref a) _ rfl (by omega) (by rw [b6.1, d5.1]; rfl) (fun b o hb e => by rw [upd_ne (ne_of_none (sH6 b o hb e) ha)]; exact sH6 b o hb e) ⟨by rw [upd_ne nar.symm]; exact hR6.1, hR6.2⟩ (.node (q := q) (vs := vs') ?_ ?_ hN6.1 (fun i x v g1 g2 => (hN6.2 i x v g1 g2).mono fun b o e => ?_))
        · rw [nw_eq haH]; exact upd_same
        · rw [nw_eq hqH, upd_ne naq.symm]; exact hq6
        · have g := nw_of e
          rw [nw_eq g.1, upd_ne (ne_of_none g.2 ha)]
          exact g.2
      · rw [hd4] at hno2
        have e9 := one_none (u := u) (p := p4) (c := 41) (by rw [hd4]; exact hno2)
        rw [hd4] at e9
        rw [e9] at k2
        refine ⟨_, rfl, ?_⟩
        refine iteT ?_
        exact ⟨by decide, k2 rfl _ sH4⟩
    · rw [one_none hno] at k1 k2
      dsimp only at k1 k2
      refine ⟨_, rfl, ?_⟩
      refine iteT ?_
      refine ⟨_, rfl, z, rfl, hz, fun H1 s1 => ?_⟩
      refine ⟨_, rfl, ?_⟩
      cases cn : Pat.isName z with
      | true =>
        rw [cn, if_pos rfl] at k1
        refine iteF ?_
        refine ⟨_, rfl, (by show 2 ≤ sizeLine; decide), fun a ha => ?_⟩
        have sH : SameB r H H1 := (rd_same hR p2).trans fun b o _ e => s1 b o e
        have hr1 : H1 r = some (.ins t.e_Reader dx (rf u p2)) := s1 _ _ hR2.1
        have nar : a ≠ r := fun y => by rw [y, hr1] at ha; cases ha
        have haH : H a = none := by
          cases e : H a with
          | none => rfl
          | some o => rw [sH a o nar e] at ha; cases ha
        refine k1 (.nam z) _ p2 (.ref a) _ rfl (by omega) rfl (fun b o hb e => by rw [upd_ne (ne_of_none (sH b o hb e) ha)]; exact sH b o hb e) ⟨by rw [upd_ne nar.symm]; exact hr1, b2.2, hR.2.2⟩ (.nam ?_)
        rw [nw_eq haH]
        exact upd_same
      | false =>
        rw [cn] at k2
        refine iteT ?_
        exact ⟨by decide, k2 (if_neg (fun y => nomatch y)) _ ((rd_same hR p2).trans fun b o _ e => s1 b o e)⟩
theorem fn_no {k : Nat} {CX : CXT} {f : Addr} {fd : FuncData} {ps : List Str} : FnOk P w K mg base CX k f fd ps (fun _ _ _ _ => False) := ⟨fun _ _ _ _ h => h.elim, fun _ _ _ _ _ _ _ _ _ _ _ _ _ h => h.elim⟩
theorem okx_read_node0 {k : Nat} (hk : 2 ≤ k) (T : Txt K mg t) : FnOk P w K mg base (CX1 P w) (k + 1) t.f_read_node t.d_read_node ["reader", "depth"] (sp_xnode t 0) := by
  have G_read_things : FnOk P w K mg base (CX1 P w) 1 t.f_read_things t.d_read_things ["reader", "word", "depth"] _ := fn_no
  refine T.read_node.F.okX sc_read_node (fun vs H Q E h => ?_) (fun cdv A outer s H vs Q E hr h => ?_)
  · obtain ⟨r, dx, u, p, dep, rfl, _⟩ := h
    rfl
  · obtain ⟨r, dx, u, p, dep, rfl, hdep, hR, k1, k2⟩ := h
    refine ⟨_, (pss_cons (ps_if (pt_cmpR op_gt (pv 1) (pe_glob (v := .int 12) rfl T.c_MOST_DEEP_reader.choose_spec ⟨_, rfl⟩) (nomark _))
        (pss_one (ps_raise body1 rfl (fun _ _ z => z) PySem.F.excBase_ValueError has_ve PySem.F.excBase_ValueError T.x_NoPattern.q rfl T.k_NoPattern (pa_cons pe_str pa_nil)))
        pss_nil)
      (pss_cons (ps_set (i := 2) sc_read_node.nd rfl (Or.inl rfl) (pe_meth (pv 0) T.o_Reader.c T.m_Reader_stretch.m ((ok_Reader_stretch T).mono (by omega)) hr T.m_Reader_stretch.b .nil pass0 (pa_cons (pe_glob (v := .str "abcdefghijklmnopqrstuvwxyz") rfl T.c_LETTERS.choose_spec ⟨_, rfl⟩) pa_nil)))
      (pss_cons (ps_expr (pe_meth (pv 0) T.o_Reader.c T.m_Reader_stretch.m ((ok_Reader_stretch T).mono (by omega)) hr T.m_Reader_stretch.b .nil pass0 (pa_cons pe_str pa_nil)))
      (pss_cons (ps_if (pt_not (pt_val (pe_meth (pv 0) T.o_Reader.c T.m_Reader_took.m ((ok_Reader_took T).mono (by omega)) hr T.m_Reader_took.b .nil pass0 (pa_cons pe_str pa_nil))))
        (pss_cons (ps_if (pt_not (pt_val (pe_call ((ok_is_name T).mono (by omega)) hr rfl T.is_name.m T.is_name.F.kp T.is_name.b .nil pass0 (pa_cons (pv 2) pa_nil))))
          (pss_one (ps_raise body1 rfl (fun _ _ z => z) PySem.F.excBase_ValueError has_ve PySem.F.excBase_ValueError T.x_NoPattern.q rfl T.k_NoPattern (pa_cons pe_str pa_nil)))
          pss_nil)
        (pss_one (ps_ret (pe_tup (pa_cons (pv 2) (pa_cons pe_non pa_nil))))))
        pss_nil)
      (pss_cons (ps_expr (pe_meth (pv 0) T.o_Reader.c T.m_Reader_stretch.m ((ok_Reader_stretch T).mono (by omega)) hr T.m_Reader_stretch.b .nil pass0 (pa_cons pe_str pa_nil)))
      (pss_cons (ps_set (i := 3) sc_read_node.nd rfl (Or.inl rfl) (pe_call (G_read_things.mono (by omega)) hr rfl T.read_things.m T.read_things.F.kp T.read_things.b .nil pass1 (pa_cons (pv 0) (pa_cons (pv 2) (pa_cons (pe_op op_add (pv 1) pe_int) pa_nil)))))
      (pss_cons (ps_if (pt_not (pt_val (pe_meth (pv 0) T.o_Reader.c T.m_Reader_took.m ((ok_Reader_took T).mono (by omega)) hr T.m_Reader_took.b .nil pass0 (pa_cons pe_str pa_nil))))
        (pss_one (ps_raise body1 rfl (fun _ _ z => z) PySem.F.excBase_ValueError has_ve PySem.F.excBase_ValueError T.x_NoPattern.q rfl T.k_NoPattern (pa_cons pe_str pa_nil)))
        pss_nil)
      (pss_cons (ps_expr (pe_meth (pv 0) T.o_Reader.c T.m_Reader_stretch.m ((ok_Reader_stretch T).mono (by omega)) hr T.m_Reader_stretch.b .nil pass0 (pa_cons pe_str pa_nil)))
      (pss_one (ps_ret (pe_tup (pa_cons (pv 2) (pa_cons (pv 3) pa_nil))))))))))))), ?_⟩
    refine ⟨_, rfl, _, _, rfl, rfl, _, rfl, ?_⟩
    refine iteDp (by omega) ?_
    exact ⟨by decide, k2 rfl _ (fun b o _ e => e)⟩
theorem okx_nodes (T : Txt K mg t) : ∀ d, FnOk P w K mg base (CX1 P w) (2 * d + 5) t.f_read_node t.d_read_node ["reader", "depth"] (sp_xnode t d)
  | 0 => okx_read_node0 (k := 4) (by decide) T
  | d + 1 => okx_read_node (k := 2 * d + 6) (by omega) T (okx_read_things (k := 2 * d + 5) (by omega) T (okx_nodes T d))
def sp_xwhole (t : Adr) : Sp := fun vs H Q E => ∃ u, vs = [.str (tx u)] ∧ u.length ≤ 1000000 ∧
  (∀ x v H', Pat.whole u = some x → Same H H' → AtN (nw H H') x v → Q v H') ∧ (Pat.whole u = none → ∀ H', Same H H' → E (.ref t.e_NoPattern) none H')
theorem okx_read_whole (T : Txt K mg t) : FnOk P w K mg base (CX1 P w) 30 t.f_read_whole t.d_read_whole ["text"] (sp_xwhole t) := by
  refine T.read_whole.F.okX sc_read_whole (fun vs H Q E h => ?_) (fun cdv A outer s H vs Q E hr h => ?_)
  · obtain ⟨u, rfl, _⟩ := h
    rfl
  · obtain ⟨u, rfl, hu, k1, k2⟩ := h
    refine ⟨_, (pss_cons (ps_set (i := 1) sc_read_whole.nd rfl (Or.inl rfl) (pe_make T.o_Reader.m ((ok_Reader___init__ T).mono (by decide)) hr rfl T.k_Reader T.m_Reader___init__.b .nil pass0 (pa_cons (pv 0) pa_nil)))
      (pss_cons (ps_expr (pe_meth (pv 1) T.o_Reader.c T.m_Reader_stretch.m ((ok_Reader_stretch T).mono (by decide)) hr T.m_Reader_stretch.b .nil pass0 (pa_cons pe_str pa_nil)))
      (pss_cons (ps_set (i := 2) sc_read_whole.nd rfl (Or.inl rfl) (pe_call ((okx_nodes T 12).mono (by decide)) hr rfl T.read_node.m T.read_node.F.kp T.read_node.b .nil pass1 (pa_cons (pv 1) (pa_cons pe_int pa_nil))))
      (pss_cons (ps_if (pt_not (pt_val (pe_meth0 (pv 1) T.o_Reader.c T.m_Reader_ended.m ((ok_Reader_ended T).mono (by decide)) hr T.m_Reader_ended.b .nil pass0)))
        (pss_one (ps_raise body1 rfl (fun _ _ z => z) PySem.F.excBase_ValueError has_ve PySem.F.excBase_ValueError T.x_NoPattern.q rfl T.k_NoPattern (pa_cons pe_str pa_nil)))
        pss_nil)
      (pss_one (ps_ret (pv 2))))))), ?_⟩
    refine ⟨_, rfl, fun r dx hr1 hdx hne => ⟨r, dx, u, rfl, upd_same, ?_⟩⟩
    rw [upd_upd]
    refine ⟨rfl, ?_⟩
    have hR0 : Rd t (rdAt t (upd H dx (.own r)) r dx u 0) r dx u 0 := ⟨upd_same, Nat.zero_le _, hu⟩
    have b1 := behind (u := u) (p := 0) (fun c => decide (c = 32)) (Nat.zero_le _)
    refine ⟨_, rfl, r, dx, rf u 0, rfl, hR0.1, (rf_meth u _).2.2.2, r, dx, u, 0, [32], (by rw [one_sp]; rfl), hR0, (by decide), ?_⟩
    rw [stp_of sp_of, upd_upd]
    obtain ⟨p1, e1⟩ : ∃ p1, p1 = 0 + ((u.drop 0).takeWhile fun c => decide (c = 32)).length := ⟨_, rfl⟩
    rw [← e1] at b1 ⊢
    have hR1 : Rd t (rdAt t (upd H dx (.own r)) r dx u p1) r dx u p1 := ⟨upd_same, b1.2, hu⟩
    have d1 : u.drop p1 = Pat.sk u := b1.1
    unfold Pat.whole at k1 k2
    rw [← d1] at k1 k2
    have sH : ∀ H', SameB r (rdAt t (upd H dx (.own r)) r dx u p1) H' → Same H H' := fun H' sb b o e => by
      have n1 := ne_of_none e hr1
      refine sb b o n1 ?_
      show (upd (upd H dx _) r _) b = _
      rw [upd_ne n1, upd_ne (ne_of_none e hdx)]
      exact e
    refine ⟨_, rfl, r, dx, u, p1, 1, rfl, rfl, hR1, fun x l p4 v H4 hz4 hp4 hd4 sb4 hR4 hN4 => ?_, fun hz4 H' sb => k2 (by rw [hz4]) H' (sH H' sb)⟩
    have hN4 : AtN (nw (rdAt t (upd H dx (.own r)) r dx u p1) H4) x v := hN4
    rw [hz4] at k1 k2
    refine ⟨_, rfl, r, dx, rf u p4, rfl, hR4.1, (rf_meth u _).1, r, dx, u, p4, rfl, hR4, ?_⟩
    refine ⟨_, rfl, ?_⟩
    by_cases c : p4 = u.length
    · rw [decide_eq_true c]
      refine iteF ?_
      have el : l = [] := by rw [← hd4, c, List.drop_length]
      refine ⟨_, rfl, k1 x v H4 (by rw [el]) (sH H4 sb4) (hN4.mono (nw_in fun b e => ?_))⟩
      by_cases e1 : b = r
      · rw [e1]; exact hr1
      · by_cases e2 : b = dx
        · rw [e2]; exact hdx
        · have e : (upd (upd H dx (.own r)) r (.ins t.e_Reader dx (rf u p1))) b = none := e
          rw [upd_ne e1, upd_ne e2] at e
          exact e
    · rw [decide_eq_false c]
      refine iteT ?_
      have el : l ≠ [] := fun y => by
        rw [y] at hd4
        have := congrArg List.length hd4
        rw [List.length_drop] at this
        have := hR4.2.1
        simp only [List.length_nil] at *
        omega
      refine ⟨by decide, k2 ?_ _ (sH H4 sb4)⟩
      cases l with
      | nil => exact absurd rfl el
      | cons _ _ => rfl
end
theorem glue_sep (z : List Nat) : ∀ (ys : List (List Nat)) (acc : Array Nat), (ys.map tx).foldl (fun acc p => acc ++ (tx z).cps ++ p.cps) acc = acc ++ ((ys.map fun y => z ++ y).flatten).toArray
  | [], acc => by simp
  | y :: ys, acc => by
    rw [List.map_cons, List.foldl_cons, glue_sep z ys]
    simp [tx]
theorem tx_joinS (z y : List Nat) (ys : List (List Nat)) : Txt.join (tx z) ((y :: ys).map tx) = tx (y ++ (ys.map fun y => z ++ y).flatten) := by
  show Str.mk _ = _
  simp only [List.map_cons, List.drop_one, List.tail_cons, List.headD_cons]
  rw [glue_sep]
  simp [tx]
section
variable {P : Program} {w : World} {K : PySem.W.Frag} {mg : Str → Option Value} {base : Heap} {t : Adr}
def pf (l : Addr) (z : Str) : List (Str × V) := [("texts", .ref l), ("writing", .str z)]
def sp_pinit (K : PySem.W.Frag) : Sp := fun vs H Q _ => ∃ (C r dx a : Addr) (ts : List (List Nat)) (z : Str), vs = [.ref r, .ref a, .str z] ∧ H r = some (.ins C dx []) ∧ Cls K C ∧ NoAttr K C "texts" ∧ NoAttr K C "writing" ∧ SqL K H a (vS ts) ∧
  ∀ l, H l = none → Q .non (upd (upd H l (.lst (vS ts))) r (.ins C dx (pf l z)))
theorem ok_Piece___init__ (T : Txt K mg t) : FnOk P w K mg base CX0 1 t.f_Piece___init__ t.d_Piece___init__ ["self", "texts", "writing"] (sp_pinit K) := by
  refine T.m_Piece___init__.F.ok sc_Piece___init__ (fun vs H Q E h => ?_) (fun cdv A outer s H vs Q E hr h => ?_)
  · obtain ⟨C, r, dx, a, ts, z, rfl, _⟩ := h
    rfl
  · obtain ⟨C, r, dx, a, ts, z, rfl, h1, hc, hn1, hn2, hS, k⟩ := h
    refine ⟨_, (pss_cons (ps_fldK (K := K) (pv 0) (pe_callTy (call_list_ofK (K := K)) rfl T.b_list bt_list (pa_cons (pv 1) pa_nil)))
      (pss_one (ps_fldK (K := K) (pv 0) (pv 2)))), ?_⟩
    refine ⟨_, rfl, _, _, rfl, .inl hS, fun l hl => ?_⟩
    have nlr : r ≠ l := ne_of_none h1 hl
    have h1' : (upd H l (.lst (vS ts))) r = some (.ins C dx []) := by rw [upd_ne nlr]; exact h1
    refine ⟨_, rfl, _, _, _, _, rfl, h1', hc, hn1, (by decide), ?_⟩
    refine ⟨_, rfl, _, rfl, _, _, _, _, rfl, upd_same, hc, hn2, (by show 1 < 1000; decide), ?_⟩
    rw [upd_upd]
    exact k l hl
def pcs (t : Adr) : List Addr := [t.e_Rows]
structure PcC (K : PySem.W.Frag) (t : Adr) (C : Addr) : Prop where
  c : Cls K C
  n1 : NoAttr K C "texts"
  n2 : NoAttr K C "writing"
  cloth : Meth K C "cloth" t.f_Piece_cloth
theorem pcC (T : Txt K mg t) {C : Addr} (h : C ∈ pcs t) : PcC K t C := by
  simp only [pcs, List.mem_cons, List.not_mem_nil, or_false] at h
  subst h
  exact ⟨T.o_Rows.c, T.na_Rows_texts, T.na_Rows_writing, T.im_Rows_cloth⟩
def Pc (t : Adr) (H : Hp) (p : Addr) (x : List (List Nat)) (z : List Nat) : Prop := ∃ C dx l, C ∈ pcs t ∧ H p = some (.ins C dx (pf l (tx z))) ∧ H l = some (.lst (vS x))
theorem Pc.mono {H H' : Hp} {p : Addr} {x : List (List Nat)} {z : List Nat} (h : Pc t H p x z) (s : ∀ b o, H b = some o → H' b = some o) : Pc t H' p x z := by
  obtain ⟨C, dx, l, hC, h1, h2⟩ := h
  exact ⟨C, dx, l, hC, s _ _ h1, s _ _ h2⟩
theorem pf_texts (l : Addr) (z : Str) : (pf l z).lookup ("texts" : Str) = some (V.ref l) := rfl
theorem pf_meth (l : Addr) (z : Str) : (pf l z).lookup ("wide" : Str) = none ∧ (pf l z).lookup ("high" : Str) = none ∧ (pf l z).lookup ("sign" : Str) = none ∧ (pf l z).lookup ("cloth" : Str) = none ∧ (pf l z).lookup ("told" : Str) = none := ⟨rfl, rfl, rfl, rfl, rfl⟩
theorem vS_at {cl : List (List Nat)} {i : Nat} {x : List Nat} (h : cl[i]? = some x) : atI (vS cl) (i : Int) = some (.str (tx x)) := atI_of (by omega) (by rw [Int.toNat_natCast]; unfold vS; rw [List.getElem?_map, h]; rfl)
def sp_cloth (t : Adr) : Sp := fun vs H Q _ => ∃ p x z, vs = [.ref p] ∧ Pc t H p x z ∧ ∀ l, H l = none → Q (.ref l) (upd H l (.lst (vS x)))
theorem ok_Piece_cloth (T : Txt K mg t) : FnOk P w K mg base CX0 1 t.f_Piece_cloth t.d_Piece_cloth ["self"] (sp_cloth t) := by
  refine T.m_Piece_cloth.F.ok sc_Piece_cloth (fun vs H Q E h => ?_) (fun cdv A outer s H vs Q E hr h => ?_)
  · obtain ⟨p, x, z, rfl, _⟩ := h
    rfl
  · obtain ⟨p, x, z, rfl, ⟨C, dx, l, hC, hp, hl⟩, k⟩ := h
    have C := pcC T hC
    refine ⟨_, (pss_one (ps_ret (pe_callTy (call_list_ofK (K := K)) rfl T.b_list bt_list (pa_cons (pe_fldK (K := K) (pv 0) rfl) pa_nil)))), ?_⟩
    exact ⟨_, rfl, _, _, _, _, _, rfl, hp, C.c, C.n1, pf_texts _ _, _, _, rfl, .inl (SqL.of hl), fun q hq => k q hq⟩
def sp_csize (t : Adr) : Sp := fun vs H Q E => ∃ m n : Nat, vs = [.int (m : Int), .int (n : Int)] ∧ (m ≤ 40 ∧ n ≤ 40 → Q .non H) ∧ (40 < m ∨ 40 < n → ∀ H', Same H H' → E (.ref t.e_TooLarge) none H')
theorem okx_check_size (T : Txt K mg t) : FnOk P w K mg base (CX1 P w) 2 t.f_check_size t.d_check_size ["ends", "picks"] (sp_csize t) := by
  refine T.check_size.F.okX sc_check_size (fun vs H Q E h => ?_) (fun cdv A outer s H vs Q E hr h => ?_)
  · obtain ⟨m, n, rfl, _⟩ := h
    rfl
  · obtain ⟨m, n, rfl, k1, k2⟩ := h
    refine ⟨_, (pss_one (ps_if (PW.pt (pw_or (pt_cmpR op_gt (pv 0) (pe_glob (v := .int 40) rfl T.c_MOST_STRANDS.choose_spec ⟨_, rfl⟩) (nomark _)) (pw_or1 (pt_cmpR op_gt (pv 1) (pe_glob (v := .int 40) rfl T.c_MOST_STRANDS.choose_spec ⟨_, rfl⟩) (nomark _)))))
        (pss_one (ps_raise body1 rfl (fun _ _ z => z) PySem.F.excBase_ValueError has_ve PySem.F.excBase_ValueError T.x_TooLarge.q rfl T.k_TooLarge (pa_cons pe_str pa_nil)))
        pss_nil)), ?_⟩
    refine ⟨_, rfl, _, _, rfl, rfl, _, rfl, ?_⟩
    refine ite2D (fun c1 => ?_) (fun c1 => ?_)
    · refine iteT ?_
      exact ⟨by decide, k2 (.inl (by omega)) _ (.refl _)⟩
    · refine ⟨_, rfl, _, _, rfl, rfl, _, rfl, ?_⟩
      refine ite2D (fun c2 => ?_) (fun c2 => ?_)
      · exact ⟨by decide, k2 (.inr (by omega)) _ (.refl _)⟩
      · exact k1 (by omega)
theorem cj_len : ∀ (ys : List (List Nat)), ((ys.map tx).map (·.length)).sum + ys.length ≤ (cj ys).length + 1
  | [] => by simp [cj]
  | y :: ys => by
    have h : ∀ ys : List (List Nat), ((ys.map tx).map (·.length)).sum + ys.length = ((ys.map fun y => [44] ++ y).flatten).length := fun ys => by
      induction ys with
      | nil => rfl
      | cons x ys ih =>
        rw [List.map_cons, List.map_cons, List.sum_cons, List.map_cons, List.flatten_cons, List.length_append, List.length_append, ← ih, tx_len, List.length_cons, List.length_singleton]
        omega
    have := h ys
    unfold cj
    rw [List.map_cons, List.map_cons, List.sum_cons, List.length_append, tx_len, List.length_cons, ← this]
    omega
theorem wz_len (z : List Nat) (ys : List (List Nat)) : (wz z ys).length = z.length + (cj ys).length + 2 := by
  unfold wz
  rw [List.length_append, List.length_cons, List.length_append, List.length_singleton]
  omega
def sp_written (K : PySem.W.Frag) : Sp := fun vs H Q _ => ∃ (a : Addr) (ws : List Nat) (ys : List (List Nat)), vs = [.str (tx ws), .ref a] ∧ SqL K H a (vS ys) ∧ ys ≠ [] ∧ (wz ws ys).length ≤ 1000000 ∧ Q (.str (tx (wz ws ys))) H
theorem ok_written (T : Txt K mg t) : FnOk P w K mg base CX0 1 t.f_written t.d_written ["word", "things"] (sp_written K) := by
  refine T.written.F.ok sc_written (fun vs H Q E h => ?_) (fun cdv A outer s H vs Q E hr h => ?_)
  · obtain ⟨a, ws, ys, rfl, _⟩ := h
    rfl
  · obtain ⟨a, ws, ys, rfl, hS, hne, hw, k⟩ := h
    refine ⟨_, (pss_one (ps_ret (pe_op op_add_str (pe_op op_add_str (pe_op op_add_str (pv 0) pe_str) (pe_bmK (K := K) PySem.F.plainAttrs_str PySem.F.slot_str_join PySem.F.type_str_join (mt_joinK (K := K)) pe_str (pa_cons (pv 1) pa_nil))) pe_str))), ?_⟩
    have e1 : (("," : Str)).length = 1 := by decide +kernel
    have cl := cj_len ys
    rw [wz_len] at hw
    refine ⟨_, rfl, _, _, rfl, rfl, (by rw [one_open, tx_len, tx_len]; exact big (by simp only [List.length_cons, List.length_nil]; omega)), rfl, _, rfl, _, _, ys.map tx, rfl, rfl, (by rw [← vS_map]; exact hS), ?_, ?_⟩
    · rw [e1, List.length_map, Nat.mul_one]
      have : sizeLine = 16777216 := sizeLine_eq
      omega
    · have ej : Txt.join (tx [44]) (ys.map tx) = tx (cj ys) := by
        cases ys with
        | nil => exact absurd rfl hne
        | cons y ys => exact tx_joinS [44] y ys
      rw [one_open, one_comma, one_close, ej, tx_app]
      refine ⟨_, _, rfl, rfl, (by rw [tx_len, tx_len]; exact big (by simp only [List.length_append, List.length_cons, List.length_nil]; omega)), ?_⟩
      rw [tx_app]
      refine ⟨_, _, rfl, rfl, (by rw [tx_len, tx_len]; exact big (by simp only [List.length_append, List.length_cons, List.length_nil]; omega)), ?_⟩
      rw [tx_app, show (ws ++ [40] ++ cj ys) ++ [41] = wz ws ys by unfold wz; simp]
      exact k
theorem z0 (i : Nat) : (0 + (i : Int)).toNat = i := by omega
theorem kit_same (K : PySem.W.Frag) (n : String) : PySem.W.kitOne K (.type n) (.type n) = some true := if_pos (beq_self_eq_true _)
theorem sg_eq {c d : Nat} : (V.str ⟨#[c]⟩ : V) = V.str ⟨#[d]⟩ ↔ c = d :=
  ⟨fun z => by injection z with z; exact (List.cons.inj (tx_inj (a := [c]) (b := [d]) z)).1, fun z => by rw [z]⟩
theorem e35 : (V.str ⟨#[35]⟩ : V) = V.str "#" := congrArg V.str (by decide +kernel)
theorem small40 {n : Nat} (h : n ≤ 40) : n ≤ sizeLine := Nat.le_trans h (by decide)
theorem occ {c : Nat} (h : Sg c) : (!(!(Builtin.Str.occurrences "#." ⟨#[c]⟩ 0 (Str.length "#.") 1).isEmpty)) = false := by
  rcases h with h | h <;> subst h <;> decide +kernel
def sp_check_pick : Sp := fun vs H Q _ => ∃ (t : List Nat), vs = [.str (tx t), .int (t.length : Int), .str "#."] ∧ (∀ c ∈ t, Sg c) ∧ t.length ≤ 40 ∧ Q .non H
theorem ok_check_pick (T : Txt K mg t) : FnOk P w K mg base CX0 1 t.f_check_pick t.d_check_pick ["text", "ends", "signs"] sp_check_pick := by
  refine T.check_pick.F.ok sc_check_pick (fun vs H Q E h => ?_) (fun cdv A outer s H vs Q E hr h => ?_)
  · obtain ⟨t, rfl, _⟩ := h
    rfl
  · obtain ⟨t, rfl, hsg, hl, k⟩ := h
    refine ⟨_, (pss_cons (ps_if (pt_cmpR op_ne (pe_callB call_len_str rfl T.b_len bt_len (pa_cons (pv 0) pa_nil)) (pv 1) (nomark _))
        (pss_one ps_never)
        pss_nil)
      (pss_one (ps_for PassesOwn.never rfl (pi_str (pv 0)) (pg_name (i := 3) sc_check_pick.nd rfl (Or.inl rfl))
        (pss_one (ps_if (pt_cmpR op_notin_str (pv 3) (pv 2) rfl)
          (pss_one ps_never)
          pss_nil))))), ?_⟩
    refine ⟨_, rfl, _, rfl, (by rw [tx_len]; exact small40 hl), _, rfl, rfl, _, rfl, ?_⟩
    refine iteNS (by rw [tx_len]) ?_
    refine ⟨_, rfl, _, rfl, for_str (z := tx t) (fun i σ H2 => ∃ v, σ = [some (.str (tx t)), some (.int (t.length : Int)), some (.str "#."), v] ∧ H2 = H) ⟨none, rfl, rfl⟩ ?_ ?_⟩
    · rintro i c σ H2 hc ⟨v, rfl, rfl⟩
      rw [tx_get] at hc
      refine ⟨_, rfl, _, rfl, _, _, rfl, rfl, _, rfl, ?_⟩
      rw [occ (hsg c (List.mem_of_getElem? hc))]
      exact iteF ⟨_, rfl, rfl⟩
    · rintro σ H2 ⟨v, rfl, rfl⟩
      exact k
def sp_measured_texts (K : PySem.W.Frag) : Sp := fun vs H Q _ => ∃ (a : Addr) (cl : List (List Nat)) (m n : Nat), vs = [.ref a, .int 1, .str "#."] ∧ SqL K H a (vS cl) ∧ Cl cl m n ∧ ∀ p, H p = none → Q (.ref p) (upd H p (.tup [.int (m : Int), .int (n : Int)]))
theorem ok_measured_texts (T : Txt K mg t) : FnOk P w K mg base CX0 2 t.f_measured_texts t.d_measured_texts ["texts", "least", "signs"] (sp_measured_texts K) := by
  refine T.measured_texts.F.ok sc_measured_texts (fun vs H Q E h => ?_) (fun cdv A outer s H vs Q E hr h => ?_)
  · obtain ⟨a, cl, m, n, rfl, _⟩ := h
    rfl
  · obtain ⟨a, cl, m, n, rfl, hS, C, k⟩ := h
    have hlen : (vS cl).length = n := by rw [vS_len, C.hn]
    have h0 : 0 < cl.length := by rw [C.hn]; exact C.n1
    have hm0 := C.hm cl[0] (List.getElem_mem h0)
    have c1 := C.n1
    have c2 := C.n40
    have c3 := C.m1
    have c4 := C.m40
    refine ⟨_, (pss_cons (ps_if (PW.pt (pw_or (pt_cmpR op_lt (pe_callB (call_len_seqK (K := K)) rfl T.b_len bt_len (pa_cons (pv 0) pa_nil)) (pv 1) (nomark _)) (pw_or1 (pt_cmpR op_gt (pe_callB (call_len_seqK (K := K)) rfl T.b_len bt_len (pa_cons (pv 0) pa_nil)) (pe_glob (v := .int 40) rfl T.c_MOST_STRANDS.choose_spec ⟨_, rfl⟩) (nomark _)))))
        (pss_one ps_never)
        pss_nil)
      (pss_cons (ps_set (i := 3) sc_measured_texts.nd rfl (Or.inl rfl) (pe_callB call_len_str rfl T.b_len bt_len (pa_cons (pe_ix (ix_listK (K := K)) (pv 0) pe_int (fun _ _ => rfl)) pa_nil)))
      (pss_cons (ps_if (PW.pt (pw_or (pt_cmpR op_lt (pv 3) (pv 1) (nomark _)) (pw_or1 (pt_cmpR op_gt (pv 3) (pe_glob (v := .int 40) rfl T.c_MOST_STRANDS.choose_spec ⟨_, rfl⟩) (nomark _)))))
        (pss_one ps_never)
        pss_nil)
      (pss_cons (ps_for PassesOwn.never rfl (pi_listK (K := K) (pv 0)) (pg_name (i := 4) sc_measured_texts.nd rfl (Or.inl rfl))
        (pss_one (ps_expr (pe_call ((ok_check_pick T).mono (by decide)) hr rfl T.check_pick.m T.check_pick.F.kp T.check_pick.b .nil pass0 (pa_cons (pv 4) (pa_cons (pv 3) (pa_cons (pv 2) pa_nil)))))))
      (pss_one (ps_ret (pe_tup (pa_cons (pv 3) (pa_cons (pe_callB (call_len_seqK (K := K)) rfl T.b_len bt_len (pa_cons (pv 0) pa_nil)) pa_nil))))))))), ?_⟩
    refine ⟨_, rfl, _, _, rfl, .inl hS, _, rfl, _, _, rfl, rfl, _, rfl, ?_⟩
    refine iteDn (by rw [hlen]; omega) ?_
    refine ⟨_, rfl, _, _, rfl, .inl hS, _, _, rfl, rfl, _, rfl, ?_⟩
    refine iteDn (by rw [hlen]; omega) ?_
    refine ⟨_, rfl, _, _, _, _, rfl, rfl, hS, atI_of (by decide) (vS_get (List.getElem?_eq_getElem h0)), _, rfl, (by rw [tx_len, hm0]; exact small40 c4), ?_⟩
    rw [tx_len, hm0]
    refine ⟨_, rfl, _, rfl, _, _, rfl, rfl, _, rfl, ?_⟩
    refine iteDn (by omega) ?_
    refine ⟨_, rfl, _, _, rfl, rfl, _, rfl, ?_⟩
    refine iteDn (by omega) ?_
    refine ⟨_, rfl, _, rfl, ⟨_, hS⟩, for_list (K := K) (a := a) (xs := vS cl) (fun i σ H2 => ∃ v, σ = [some (.ref a), some (.int 1), some (.str "#."), some (.int (m : Int)), v] ∧ H2 = H) ⟨none, rfl, rfl⟩ (fun i σ H2 _ ⟨_, _, e⟩ => e ▸ hS) ?_ ?_⟩
    · rintro i x σ H2 hx ⟨v, rfl, rfl⟩
      obtain ⟨t, ht, rfl⟩ := vS_got hx
      have htm := List.mem_of_getElem? ht
      refine ⟨_, rfl, _, rfl, _, rfl, t, ?_, C.sg t htm, ?_, ⟨_, rfl, rfl⟩⟩
      · rw [C.hm t htm]; rfl
      · rw [C.hm t htm]; exact c4
    · rintro σ H2 ⟨v, rfl, rfl⟩
      refine ⟨_, rfl, _, rfl, _, _, rfl, .inl hS, (by show 2 ≤ sizeLine; decide), fun p hp => ?_⟩
      rw [hlen]
      exact k p hp
def sp_measured (K : PySem.W.Frag) : Sp := fun vs H Q _ => ∃ (a : Addr) (cl : List (List Nat)) (m n : Nat), vs = [.ref a] ∧ SqL K H a (vS cl) ∧ Cl cl m n ∧ ∀ p, H p = none → Q (.ref p) (upd H p (.tup [.int (m : Int), .int (n : Int)]))
theorem ok_measured (T : Txt K mg t) : FnOk P w K mg base CX0 3 t.f_measured t.d_measured ["cloth"] (sp_measured K) := by
  refine T.measured.F.ok sc_measured (fun vs H Q E h => ?_) (fun cdv A outer s H vs Q E hr h => ?_)
  · obtain ⟨a, cl, m, n, rfl, _⟩ := h
    rfl
  · obtain ⟨a, cl, m, n, rfl, hS, C, k⟩ := h
    exact ⟨_, (pss_one (ps_ret (pe_call ((ok_measured_texts T).mono (by decide)) hr rfl T.measured_texts.m T.measured_texts.F.kp T.measured_texts.b .nil pass0 (pa_cons (pv 0) (pa_cons pe_int (pa_cons pe_str pa_nil)))))), _, rfl, a, cl, m, n, rfl, hS, C, k⟩
def sp_met : Sp := fun vs H Q _ => ∃ (st ln c s : Int), vs = [.int st, .int ln, .int c, .int s] ∧ 0 < c ∧ c ≤ 40 ∧ Q (.int (met st ln c s)) H
theorem ok_times_met (T : Txt K mg t) : FnOk P w K mg base CX0 1 t.f_times_met t.d_times_met ["start", "length", "count", "strand"] sp_met := by
  refine T.times_met.F.ok sc_times_met (fun vs H Q E h => ?_) (fun cdv A outer s H vs Q E hr h => ?_)
  · obtain ⟨st, ln, c, s, rfl, _⟩ := h
    rfl
  · obtain ⟨st, ln, c, s, rfl, h1, h2, k⟩ := h
    refine ⟨_, (pss_cons (ps_set (i := 4) sc_times_met.nd rfl (Or.inl rfl) (pe_cmpR op_lt (pe_op op_mod (pe_op op_sub (pv 3) (pv 0)) (pv 2)) (pe_op op_mod (pv 1) (pv 2)) (nomark _)))
      (pss_one (ps_ret (pe_op op_add (pe_op op_fdiv (pv 1) (pv 2)) (pe_ifExp (pt_truthK (K := K) (pv 4) (fun _ => rfl)) pe_int pe_int))))), ?_⟩
    refine ⟨_, rfl, _, rfl, _, _, rfl, rfl, _, rfl, _, _, rfl, rfl, h1, ?_⟩
    refine ⟨_, rfl, _, rfl, _, _, rfl, rfl, h1, _, _, rfl, rfl, ?_⟩
    refine ⟨_, rfl, _, rfl, _, _, rfl, rfl, ⟨h1, by omega⟩, ?_⟩
    refine ⟨_, rfl, _, rfl, ?_⟩
    unfold met at k
    refine ite2D (fun h3 => ?_) (fun h3 => ?_)
    · rw [if_pos h3] at k
      exact ⟨_, _, rfl, rfl, k⟩
    · rw [if_neg h3] at k
      exact ⟨_, _, rfl, rfl, k⟩
def mets (m : Nat) (left wide : Int) (k : Nat) : List Int := (List.range k).map fun e => met left wide (m : Int) ((e : Nat) : Int)
theorem mets_len (m : Nat) (left wide : Int) (k : Nat) : (mets m left wide k).length = k := by unfold mets; rw [List.length_map, List.length_range]
def sp_overs (K : PySem.W.Frag) : Sp := fun vs H Q _ => ∃ (a : Addr) (cl : List (List Nat)) (m n : Nat) (left first wide high : Int), vs = [.ref a, .int left, .int first, .int wide, .int high] ∧ SqL K H a (vS cl) ∧ Cl cl m n ∧
  0 ≤ wide ∧ wide < 10 ^ 70 ∧ 0 ≤ high ∧ high < 10 ^ 70 ∧ ∀ H', Same H H' → Q (.int (overs cl m n left first wide high)) H'
theorem ok_overs_within (T : Txt K mg t) : FnOk P w K mg base CX0 4 t.f_overs_within t.d_overs_within ["cloth", "left", "first", "wide", "high"] (sp_overs K) := by
  refine T.overs_within.F.ok sc_overs_within (fun vs H Q E h => ?_) (fun cdv A outer s H vs Q E hr h => ?_)
  · obtain ⟨a, cl, m, n, left, first, wide, high, rfl, _⟩ := h
    rfl
  · obtain ⟨a, cl, m, n, left, first, wide, high, rfl, hS, C, w0, w1, h0, h1, k⟩ := h
    have c1 := C.n1
    have c2 := C.n40
    have c3 := C.m1
    have c4 := C.m40
    refine ⟨_, (pss_cons (ps_set (i := 5) sc_overs_within.nd rfl (Or.inr rfl) (pe_call ((ok_measured T).mono (by decide)) hr rfl T.measured.m T.measured.F.kp T.measured.b .nil pass0 (pa_cons (pv 0) pa_nil)))
      (pss_cons (ps_set (i := 6) sc_overs_within.nd rfl (Or.inr rfl) (pe_comp (CompOk.mk (caps := [1, 3, 5]) (Nc := ["end", "left", "wide", "size"]) rfl (by decide +kernel) (by decide +kernel) (comp_fr (sc0 := defScope s_overs_within) rfl (by decide +kernel)) rfl rfl rfl (by decide +kernel) (fun k j h => match k, h with | 0, h => by obtain rfl := Option.some.inj h; exact ⟨_, rfl, rfl, rfl⟩ | 1, h => by obtain rfl := Option.some.inj h; exact ⟨_, rfl, rfl, rfl⟩ | 2, h => by obtain rfl := Option.some.inj h; exact ⟨_, rfl, rfl, rfl⟩ | _ + 3, h => by simp at h)) rfl (pi_range1 rfl T.b_range (pa_cons (pe_ix (ix_tupK (K := K)) (pv 5) pe_int (fun _ _ => rfl)) pa_nil)) (fun _ _ _ _ _ => .nil) (fun _ _ _ _ _ => (pe_call ((ok_times_met T).mono (by decide)) hr rfl T.times_met.m T.times_met.F.kp T.times_met.b .nil pass0 (pa_cons (pv 1) (pa_cons (pv 2) (pa_cons (pe_ix (ix_tupK (K := K)) (pv 3) pe_int (fun _ _ => rfl)) (pa_cons (pv 0) pa_nil))))))))
      (pss_cons (ps_set (i := 7) sc_overs_within.nd rfl (Or.inl rfl) pe_int)
      (pss_cons (ps_for PassesOwn.never rfl (pi_range1 rfl T.b_range (pa_cons (pe_ix (ix_tupK (K := K)) (pv 5) pe_int (fun _ _ => rfl)) pa_nil)) (pg_name (i := 8) sc_overs_within.nd rfl (Or.inr rfl))
        (pss_cons (ps_set (i := 9) sc_overs_within.nd rfl (Or.inl rfl) (pe_callB (call_sumI (K := K)) rfl T.b_sum bt_sum (pa_cons (pe_comp (CompOk.mk (caps := [0, 6, 8]) (Nc := ["end", "cloth", "columns", "pick"]) rfl (by decide +kernel) (by decide +kernel) (comp_fr (sc0 := defScope s_overs_within) rfl (by decide +kernel)) rfl rfl rfl (by decide +kernel) (fun k j h => match k, h with | 0, h => by obtain rfl := Option.some.inj h; exact ⟨_, rfl, rfl, rfl⟩ | 1, h => by obtain rfl := Option.some.inj h; exact ⟨_, rfl, rfl, rfl⟩ | 2, h => by obtain rfl := Option.some.inj h; exact ⟨_, rfl, rfl, rfl⟩ | _ + 3, h => by simp at h)) rfl (pi_range1 rfl T.b_range (pa_cons (pe_ix (ix_tupK (K := K)) (pv 5) pe_int (fun _ _ => rfl)) pa_nil)) (fun _ _ _ _ _ => .one (pt_cmpR op_eq (pe_ix ix_str (pe_ix (ix_listK (K := K)) (pv 1) (pv 3) (fun _ _ => rfl)) (pv 0) (fun _ _ => rfl)) pe_str (nomark _))) (fun _ _ _ _ _ => (pe_ix (ix_listK (K := K)) (pv 2) (pv 0) (fun _ _ => rfl)))) pa_nil)))
        (pss_one (ps_aug (i := 7) sc_overs_within.nd rfl (Or.inl rfl) (pe_op op_mulW (pv 9) (pe_call ((ok_times_met T).mono (by decide)) hr rfl T.times_met.m T.times_met.F.kp T.times_met.b .nil pass0 (pa_cons (pv 2) (pa_cons (pv 4) (pa_cons (pe_ix (ix_tupK (K := K)) (pv 5) pe_int (fun _ _ => rfl)) (pa_cons (pv 8) pa_nil)))))) ip_add))))
      (pss_one (ps_ret (pv 7))))))), ?_⟩
    refine ⟨_, rfl, a, cl, m, n, rfl, hS, C, fun p hp => ?_⟩
    have s1 : Same H (upd H p (.tup [.int (m : Int), .int (n : Int)])) := .upd hp
    have gp : SqT K (upd H p (.tup [.int (m : Int), .int (n : Int)])) p [.int (m : Int), .int (n : Int)] := SqT.of upd_same
    refine ⟨_, rfl, _, _, _, _, rfl, rfl, gp, atI_of (by decide) rfl, _, rfl, (by omega), (by omega), ?_⟩
    rw [Int.toNat_natCast]
    refine comp_range (lo := 0) (n := m) (fun i ys H2 => H2 = upd H p (.tup [.int (m : Int), .int (n : Int)]) ∧ ys = vI (mets m left wide i)) ⟨rfl, rfl⟩ ?_ ?_ ?_ ?_
    · rintro i ys H2 hi ⟨rfl, rfl⟩
      rw [vI_len, mets_len]
      exact Nat.le_refl _
    · exact small40 c4
    · rintro i ys H2 hi ⟨rfl, rfl⟩
      refine CTurn.no ?_
      refine ⟨_, rfl, _, rfl, _, rfl, _, _, _, _, rfl, rfl, gp, atI_of (by decide) rfl, _, rfl, left, wide, (m : Int), 0 + (i : Int), rfl, (by omega), (by omega), ?_⟩
      refine CN.of hi ⟨rfl, ?_⟩
      rw [vI_app, Int.zero_add]
      unfold mets
      rw [List.range_succ, List.map_append]
      rfl
    · rintro ys H2 lc ⟨rfl, rfl⟩ hlc
      have s2 : Same H (upd (upd H p (.tup [.int (m : Int), .int (n : Int)])) lc (.lst (vI (mets m left wide m)))) := s1.new hlc
      have gp2 : SqT K (upd (upd H p (.tup [.int (m : Int), .int (n : Int)])) lc (.lst (vI (mets m left wide m)))) p [.int (m : Int), .int (n : Int)] := (Same.upd hlc).tup gp
      obtain ⟨H2, eH2⟩ : ∃ H2, H2 = upd (upd H p (.tup [.int (m : Int), .int (n : Int)])) lc (.lst (vI (mets m left wide m))) := ⟨_, rfl⟩
      have hlc2 : H2 lc = some (.lst (vI (mets m left wide m))) := by rw [eH2]; exact upd_same
      rw [← eH2] at s2 gp2 ⊢
      refine ⟨_, rfl, _, _, _, _, rfl, rfl, gp2, atI_of (by decide) rfl, _, rfl, (by omega), (by omega), ?_⟩
      rw [Int.toNat_natCast]
      refine for_range (lo := 0) (n := n) (fun i σ H3 => ∃ (v1 v2 : Option V), σ = [some (.ref a), some (.int left), some (.int first), some (.int wide), some (.int high), some (.ref p), some (.ref lc), some (.int (sumN (fun q => inPick cl m left wide q * met first high (n : Int) (q : Int)) i)), v1, v2] ∧ Same H2 H3)
        ⟨none, none, rfl, .refl _⟩ ?_ ?_
      · rintro i σ H3 hi ⟨v1, v2, rfl, s3⟩
        have hic : i < cl.length := by rw [C.hn]; exact hi
        have lci := C.hm cl[i] (List.getElem_mem hic)
        have ec : atI (vS cl) (0 + (i : Int)) = some (.str (tx cl[i])) := atI_of (by omega) (by rw [z0]; exact vS_get (List.getElem?_eq_getElem hic))
        have gd : cl.getD i [] = cl[i] := by simp [List.getD, hic]
        refine ⟨_, rfl, _, _, _, _, rfl, rfl, s3.tup gp2, atI_of (by decide) rfl, _, rfl, (by omega), (by omega), ?_⟩
        rw [Int.toNat_natCast]
        refine comp_range (lo := 0) (n := m) (fun j ys H4 => H4 = H3 ∧ ∃ zs : List Int, ys = vI zs ∧ zs.length ≤ j ∧ zs.sum = sumN (fun e => if (cl.getD i []).getD e 0 = 35 then met left wide (m : Int) (e : Int) else 0) j) ⟨rfl, [], rfl, Nat.le_refl _, rfl⟩ ?_ ?_ ?_ ?_
        · rintro j ys H4 hj ⟨rfl, zs, rfl, hz, _⟩
          rw [vI_len]
          exact hz
        · exact small40 c4
        · rintro j ys H4 hj ⟨rfl, zs, rfl, hz, hsum⟩
          have hjc : j < cl[i].length := by rw [lci]; exact hj
          have ec2 : atI (tx cl[i]).cps.toList (0 + (j : Int)) = some cl[i][j] := atI_of (by omega) (by rw [z0, tx_list]; exact List.getElem?_eq_getElem hjc)
          have gd2 : (cl.getD i []).getD j 0 = cl[i][j] := by rw [gd]; simp [List.getD, hjc]
          refine ⟨_, rfl, _, rfl, _, _, _, _, rfl, rfl, (s2.trans s3).seq hS, ec, _, rfl, _, _, _, rfl, rfl, (by rw [tx_len, lci]; exact small40 c4), ec2, rfl, _, rfl, ?_⟩
          refine ite2D (fun h => ?_) (fun h => ?_)
          · have h35 : cl[i][j] = 35 := sg_eq.mp (h.trans e35.symm)
            have hjm : j < (mets m left wide m).length := by rw [mets_len]; exact hj
            refine ⟨_, rfl, _, rfl, _, _, _, _, rfl, rfl, SqL.of (s3 _ _ hlc2), atI_of (by omega) (by rw [z0]; exact vI_get (List.getElem?_eq_getElem hjm)), ?_⟩
            refine CN.of hj ⟨rfl, zs ++ [_], vI_app _ _, by rw [List.length_append, List.length_singleton]; omega, ?_⟩
            rw [List.sum_append, hsum]
            show _ + List.sum [_] = sumN _ j + (if (cl.getD i []).getD j 0 = 35 then met left wide (m : Int) (j : Int) else 0)
            rw [gd2, if_pos h35]
            simp [mets]
          · have h35 : cl[i][j] ≠ 35 := fun z => h (by rw [z]; exact e35)
            refine CN.of hj ⟨rfl, zs, rfl, by omega, ?_⟩
            rw [hsum]
            show _ = sumN _ j + (if (cl.getD i []).getD j 0 = 35 then met left wide (m : Int) (j : Int) else 0)
            rw [gd2, if_neg h35]
            omega
        · rintro ys H4 q ⟨rfl, zs, rfl, hz, hsum⟩ hq
          refine ⟨q, zs, rfl, SqL.of upd_same, ?_⟩
          have hsum' : zs.sum = inPick cl m left wide i := hsum
          rw [hsum']
          have s4 : Same H4 (upd H4 q (.lst (vI zs))) := .upd hq
          have b1 := inPick_bound cl c3 (left := left) w0 i
          have b2 := met_bound (st := first) (c := (n : Int)) (s := ((i : Nat) : Int)) (n := high) (by omega) h0
          have b3 : (m : Int) * (wide + 1) ≤ 40 * (wide + 1) := Int.mul_le_mul_of_nonneg_right (by omega) (by omega)
          refine ⟨_, rfl, _, rfl, _, rfl, _, rfl, _, rfl, _, _, _, _, rfl, rfl, s4.tup (s3.tup gp2), atI_of (by decide) rfl, _, rfl, first, high, (n : Int), 0 + (i : Int), rfl, (by omega), (by omega), ?_⟩
          rw [Int.zero_add]
          refine ⟨_, _, rfl, rfl, ⟨by omega, by omega⟩, _, _, rfl, rfl, ?_⟩
          exact ⟨_, _, rfl, s3.trans s4⟩
      · rintro σ H3 ⟨v1, v2, rfl, s3⟩
        exact ⟨_, rfl, k H3 (s2.trans s3)⟩
def rfa (t : Adr) : Rf → Addr
  | .nop => t.e_NoPattern
  | .big => t.e_TooLarge
  | .unk => t.e_Unknown
def Oi (t : Adr) (C dx r : Addr) (H : Hp) (Q : VK) (E : XK) (R : Res) (z : List Nat) : Prop := match R with
  | .ok x => ∀ l H', SameB r H H' → H l = none → H' l = some (.lst (vS x)) → H' r = some (.ins C dx (pf l (tx z))) → Q .non H'
  | .no f => ∀ H', SameB r H H' → E (.ref (rfa t f)) none H'
theorem sameB_of {r : Addr} {H H' : Hp} (s : Same H H') : SameB r H H' := fun b o _ e => s b o e
theorem Oi.fin {C dx r l : Addr} {H H3 : Hp} {Q : VK} {E : XK} {x : List (List Nat)} {z : List Nat} (k : Oi t C dx r H Q E (.ok x) z) (sb : Same H H3) (h1 : H r = some (.ins C dx [])) (hl : H3 l = none) : Q .non (upd (upd H3 l (.lst (vS x))) r (.ins C dx (pf l (tx z)))) := by
  have hr : H3 r = some (.ins C dx []) := sb _ _ h1
  have nlr : l ≠ r := fun y => by rw [y, hr] at hl; cases hl
  have hlH : H l = none := by
    cases e : H l with
    | none => rfl
    | some o => rw [sb _ _ e] at hl; cases hl
  refine k l _ (fun b o hb e => ?_) hlH (by rw [upd_ne nlr]; exact upd_same) upd_same
  rw [upd_ne hb, upd_ne (ne_of_none (sb b o e) hl)]
  exact sb b o e
def sp_rows (K : PySem.W.Frag) (t : Adr) : Sp := fun vs H Q E => ∃ (r dx a : Addr) (rs : List (List Nat)), vs = [.ref r, .ref a] ∧ H r = some (.ins t.e_Rows dx []) ∧ SqL K H a (vS rs) ∧ rs ≠ [] ∧ rs.length ≤ 40 ∧ (wz Pat.rowsW rs).length ≤ 1000000 ∧ Oi t t.e_Rows dx r H Q E (mRows rs) (wz Pat.rowsW rs)
theorem okx_Rows___init__ (T : Txt K mg t) : FnOk P w K mg base (CX1 P w) 3 t.f_Rows___init__ t.d_Rows___init__ ["self", "runs"] (sp_rows K t) := by
  refine T.m_Rows___init__.F.okX sc_Rows___init__ (fun vs H Q E h => ?_) (fun cdv A outer s H vs Q E hr h => ?_)
  · obtain ⟨r, dx, a, rs, rfl, _⟩ := h
    rfl
  · obtain ⟨r, dx, a, rs, rfl, h1, hS, hne, hl40, hw, k⟩ := h
    refine ⟨_, (pss_cons (ps_if (pt_val (pe_callB (call_anyB (K := K)) rfl T.b_any bt_any (pa_cons (PE.nox (pe_comp (CompOk.mk (caps := [1]) (Nc := ["run", "runs"]) rfl (by decide +kernel) (by decide +kernel) (comp_fr (sc0 := defScope s_Rows___init__) rfl (by decide +kernel)) rfl rfl rfl (by decide +kernel) (fun k j h => match k, h with | 0, h => by obtain rfl := Option.some.inj h; exact ⟨_, rfl, rfl, rfl⟩ | _ + 1, h => by simp at h)) rfl (pi_listK (K := K) (pv 1)) (fun _ _ _ _ _ => .nil) (fun _ _ _ _ _ => (pe_cmpR op_ne (pe_callB call_len_str rfl T.b_len bt_len (pa_cons (pv 0) pa_nil)) (pe_callB call_len_str rfl T.b_len bt_len (pa_cons (pe_ix (ix_listK (K := K)) (pv 1) pe_int (fun _ _ => rfl)) pa_nil)) (nomark _))))) pa_nil)))
        (pss_one (ps_raise body1 rfl (fun _ _ z => z) PySem.F.excBase_ValueError has_ve PySem.F.excBase_ValueError T.x_NoPattern.q rfl T.k_NoPattern (pa_cons pe_str pa_nil)))
        pss_nil)
      (pss_cons (ps_expr (pe_call ((okx_check_size T).mono (by decide)) hr rfl T.check_size.m T.check_size.F.kp T.check_size.b .nil pass1 (pa_cons (pe_callB call_len_str rfl T.b_len bt_len (pa_cons (pe_ix (ix_listK (K := K)) (pv 1) pe_int (fun _ _ => rfl)) pa_nil)) (pa_cons (pe_callB (call_len_seqK (K := K)) rfl T.b_len bt_len (pa_cons (pv 1) pa_nil)) pa_nil))))
      (pss_one (ps_expr (pe_clsM (pe_glob (v := .ref t.e_Piece) rfl T.k_Piece rfl) T.cf_Piece ((ok_Piece___init__ T).mono (by decide)) hr T.m_Piece___init__.b .nil pass0 (pa_cons (pv 0) (pa_cons (pv 1) (pa_cons (pe_call ((ok_written T).mono (by decide)) hr rfl T.written.m T.written.F.kp T.written.b .nil pass0 (pa_cons pe_str (pa_cons (pv 1) pa_nil))) pa_nil)))))))), ?_⟩
    have hb : ∀ u ∈ rs, u.length ≤ 1000000 := fun u hu => by
      have := cj_le hu
      rw [wz_len] at hw
      omega
    obtain ⟨u0, hu0, e0⟩ : ∃ u0, rs[0]? = some u0 ∧ u0.length = wdt rs := by
      cases rs with
      | nil => exact absurd rfl hne
      | cons u rs => exact ⟨u, rfl, rfl⟩
    have b0 := hb u0 (List.mem_of_getElem? hu0)
    refine ⟨_, rfl, _, rfl, ⟨_, hS⟩, comp_list (K := K) (a := a) (xs := vS rs) (fun i ys H2 => H2 = H ∧ ys = vB ((rs.take i).map fun r => decide (¬ r.length = wdt rs))) ⟨rfl, rfl⟩ ?_ ?_ ?_ ?_⟩
    · rintro i ys H2 hi ⟨rfl, rfl⟩
      refine ⟨hS, ?_⟩
      rw [vB_len, List.length_map, List.length_take]
      omega
    · rw [vS_len]; exact small40 hl40
    · rintro i x ys H2 hi hx ⟨rfl, rfl⟩
      obtain ⟨u, hu, rfl⟩ := vS_got hx
      have bu := hb u (List.mem_of_getElem? hu)
      refine CTurn.no ?_
      refine ⟨_, rfl, _, rfl, (by rw [tx_len]; exact big bu), _, rfl, _, _, _, _, rfl, rfl, hS, vS_at (i := 0) hu0, _, rfl, (by rw [tx_len]; exact big b0), rfl, ?_⟩
      rw [show (!decide (V.int ((tx u).length : Int) = V.int ((tx u0).length : Int))) = decide (¬ u.length = wdt rs) by
        rw [tx_len, tx_len, e0, ← decide_not]
        exact decide_eq_decide.mpr ⟨fun z y => z (by rw [y]), fun z y => z (by injection y with y; omega)⟩]
      exact CN.of hi ⟨rfl, by rw [vB_app, List.take_add_one, hu, List.map_append]; rfl⟩
    · rintro ys H2 q ⟨rfl, rfl⟩ hq
      rw [vS_len, List.take_length]
      refine ⟨_, _, rfl, SqL.of upd_same, _, rfl, ?_⟩
      have s3 : Same H2 (upd H2 q (.lst (vB (rs.map fun r => decide (¬ r.length = wdt rs))))) := .upd hq
      generalize upd H2 q (.lst (vB (rs.map fun r => decide (¬ r.length = wdt rs)))) = H3 at s3 ⊢
      unfold mRows at k
      refine iteB (fun c => ?_) (fun c => ?_)
      · rw [if_pos c] at k
        exact ⟨by decide, k _ (sameB_of s3)⟩
      · rw [if_neg (by rw [c]; exact fun z => nomatch z)] at k
        refine ⟨_, rfl, _, _, _, _, rfl, rfl, s3.seq hS, vS_at (i := 0) hu0, _, rfl, (by rw [tx_len]; exact big b0), _, rfl, _, _, rfl, .inl (s3.seq hS), wdt rs, rs.length, (by rw [tx_len, e0, vS_len]; rfl), fun c2 => ?_, fun c2 H' s' => ?_⟩
        · rw [if_neg (by omega)] at k
          refine ⟨rfl, _, rfl, _, rfl, _, rfl, a, Pat.rowsW, rs, (by rw [rows_tx]; rfl), s3.seq hS, hne, hw, ?_⟩
          refine ⟨t.e_Rows, r, dx, a, rs, _, rfl, s3 _ _ h1, T.o_Rows.c, T.na_Rows_texts, T.na_Rows_writing, s3.seq hS, fun l hl => ?_⟩
          exact k.fin s3 h1 hl
        · rw [if_pos (by omega)] at k
          exact k _ (sameB_of (s3.trans s'))
def Oc (t : Adr) (H : Hp) (Q : VK) (E : XK) (R : Res) (z : List Nat) : Prop := match R with
  | .ok x => ∀ p H', Same H H' → Pc t (nw H H') p x z → Q (.ref p) H'
  | .no f => ∀ H', Same H H' → E (.ref (rfa t f)) none H'
theorem same_made {r dx C : Addr} {H H' : Hp} (h1 : H r = none) (h2 : H dx = none) (s : SameB r (upd (upd H dx (.own r)) r (.ins C dx [])) H') : Same H H' := fun b o e => by
  have n1 := ne_of_none e h1
  refine s b o n1 ?_
  rw [upd_ne n1, upd_ne (ne_of_none e h2)]
  exact e
theorem nw_same {H H1 H2 : Hp} (s : Same H H1) : ∀ b o, nw H1 H2 b = some o → nw H H2 b = some o := nw_in fun b e => by
  cases e2 : H b with
  | none => rfl
  | some o => rw [s _ _ e2] at e; cases e
theorem Oc.same {H H1 : Hp} {Q : VK} {E : XK} {R : Res} {z : List Nat} (k : Oc t H Q E R z) (s : Same H H1) : Oc t H1 Q E R z := by
  cases R with
  | ok x => exact fun p H' s' hp => k p H' (s.trans s') (hp.mono (nw_same s))
  | no f => exact fun H' s' => k H' (s.trans s')
theorem Oc.make {C r dx : Addr} {H : Hp} {Q : VK} {E : XK} {R : Res} {z : List Nat} (k : Oc t H Q E R z) (hC : C ∈ pcs t) (h1 : H r = none) (h2 : H dx = none) : Oi t C dx r (upd (upd H dx (.own r)) r (.ins C dx [])) (fun v H2 => v = .non ∧ Q (.ref r) H2) E R z := by
  cases R with
  | ok x =>
    intro l H' sb hl hl' hr'
    have nl : H l = none := by
      by_cases e1 : l = r
      · rw [e1]; exact h1
      · rw [upd_ne e1] at hl
        by_cases e2 : l = dx
        · rw [e2]; exact h2
        · rw [upd_ne e2] at hl; exact hl
    exact ⟨rfl, k r H' (same_made h1 h2 sb) ⟨C, dx, l, hC, by rw [nw_eq h1]; exact hr', by rw [nw_eq nl]; exact hl'⟩⟩
  | no f => exact fun H' sb => k H' (same_made h1 h2 sb)
theorem same_own {r dx C : Addr} {H : Hp} (h1 : H r = none) (h2 : H dx = none) : Same H (upd (upd H dx (.own r)) r (.ins C dx [])) := fun b o e => by
  rw [upd_ne (ne_of_none e h1), upd_ne (ne_of_none e h2)]
  exact e
theorem tx_ne {a b : List Nat} (h : ¬ a = b) : ¬ (V.str (tx a) : V) = V.str (tx b) := fun z => h (by injection z with z; exact tx_inj z)
def Kn (H : Hp) (kp : Addr) (kn : Kns) : Prop := ∃ as : List Addr, H kp = some (.lst (as.map V.ref)) ∧ as.length = kn.length ∧ ∀ (i : Nat) (a : Addr) (p : List Nat × List (List Nat)), as[i]? = some a → kn[i]? = some p → ∃ q, H a = some (.tup [.str (tx p.1), .ref q]) ∧ H q = some (.lst (vS p.2))
theorem Kn.same {H H' : Hp} {kp : Addr} {kn : Kns} (h : Kn H kp kn) (s : Same H H') : Kn H' kp kn := by
  obtain ⟨as, h1, h2, h3⟩ := h
  refine ⟨as, s _ _ h1, h2, fun i a p g1 g2 => ?_⟩
  obtain ⟨q, e1, e2⟩ := h3 i a p g1 g2
  exact ⟨q, s _ _ e1, s _ _ e2⟩
def sp_known (t : Adr) : Sp := fun vs H Q E => ∃ (z : List Nat) (kp : Addr) (kn : Kns), vs = [.str (tx z), .ref kp] ∧ Kn H kp kn ∧ (∀ x q, known kn z = .ok x → H q = some (.lst (vS x)) → Q (.ref q) H) ∧ (known kn z = .no .unk → E (.ref t.e_Unknown) none H)
theorem okx_known_cloth (T : Txt K mg t) : FnOk P w K mg base (CX1 P w) 1 t.f_known_cloth t.d_known_cloth ["name", "known"] (sp_known t) := by
  refine T.known_cloth.F.okX sc_known_cloth (fun vs H Q E h => ?_) (fun cdv A outer s H vs Q E hr h => ?_)
  · obtain ⟨z, kp, kn, rfl, _⟩ := h
    rfl
  · obtain ⟨z, kp, kn, rfl, ⟨as, h1, h2, h3⟩, k1, k2⟩ := h
    refine ⟨_, (pss_cons (PS.nox (ps_for PassesOwn.never rfl (pi_listK (K := K) (pv 1)) (pg_tup rfl (pgs_cons (pg_name (i := 2) sc_known_cloth.nd rfl (Or.inl rfl)) (pgs_cons (pg_name (i := 3) sc_known_cloth.nd rfl (Or.inl rfl)) pgs_nil)))
        (pss_one (ps_if (pt_cmpR op_eq (pv 2) (pv 0) (nomark _))
          (pss_one (ps_ret (pv 3)))
          pss_nil))))
      (pss_one (ps_raise body1 rfl (fun _ _ z => z) PySem.F.excBase_ValueError has_ve PySem.F.excBase_ValueError T.x_Unknown.q rfl T.k_Unknown (pa_cons pe_str pa_nil)))), ?_⟩
    refine ⟨_, rfl, _, rfl, ⟨_, SqL.of h1⟩, for_list (K := K) (a := kp) (xs := as.map V.ref) (fun i σ H2 => ∃ v1 v2, σ = [some (.str (tx z)), some (.ref kp), v1, v2] ∧ H2 = H ∧ ∀ p ∈ kn.take i, ¬ p.1 = z) ⟨none, none, rfl, rfl, fun p hp => by simp at hp⟩ (fun i σ H2 _ ⟨_, _, _, e, _⟩ => by rw [e]; exact SqL.of h1) ?_ ?_⟩
    · rintro i xv σ H2 hx ⟨v1, v2, rfl, rfl, no⟩
      rw [List.getElem?_map] at hx
      cases ea : as[i]? with
      | none => rw [ea] at hx; cases hx
      | some a =>
        rw [ea] at hx
        cases hx
        have hi : i < kn.length := by rw [← h2]; exact (List.getElem?_eq_some_iff.mp ea).1
        have ep := List.getElem?_eq_getElem hi
        obtain ⟨q, e1, e2⟩ := h3 i a _ ea ep
        refine ⟨a, _, rfl, SqT.of e1, rfl, _, _, rfl, _, _, rfl, rfl, ?_⟩
        refine ⟨_, rfl, _, rfl, rfl, _, rfl, ?_⟩
        by_cases c : kn[i].1 = z
        · refine iteDp (by rw [c]) ?_
          refine ⟨_, rfl, k1 kn[i].2 q ?_ e2⟩
          unfold known
          have : kn.find? (fun p => decide (p.1 = z)) = some kn[i] := by
            rw [List.find?_eq_some_iff_getElem]
            refine ⟨by simpa using c, i, hi, rfl, fun j hj => ?_⟩
            have := no kn[j] (List.mem_iff_getElem?.mpr ⟨j, by rw [List.getElem?_take_of_lt hj]; exact List.getElem?_eq_getElem (by omega)⟩)
            simpa using this
          rw [this]
        · refine iteDn (tx_ne c) ?_
          refine ⟨_, _, rfl, rfl, fun p hp => ?_⟩
          rw [List.take_add_one, ep] at hp
          rcases List.mem_append.mp hp with hp | hp
          · exact no p hp
          · rw [Option.toList_some, List.mem_singleton] at hp
            rw [hp]
            exact c
    · rintro σ H2 ⟨v1, v2, rfl, rfl, no⟩
      rw [List.length_map, h2, List.take_length] at no
      refine ⟨by decide, k2 ?_⟩
      unfold known
      have : kn.find? (fun p => decide (p.1 = z)) = none := List.find?_eq_none.mpr fun p hp => by simpa using no p hp
      rw [this]
def sp_wl (t : Adr) : Sp := fun vs H Q E => ∃ (rs : List (List Nat)) (v : V) (kp : Addr), vs = [v, .ref kp] ∧ Wd 12 (.node Pat.rowsW (rs.map Nd.run)) ∧ AtN H (.node Pat.rowsW (rs.map Nd.run)) v ∧ (wz Pat.rowsW rs).length ≤ 1000000 ∧ Oc t H Q E (mRows rs) (wz Pat.rowsW rs)
theorem wd_rows {rs : List (List Nat)} (h : Wd 12 (.node Pat.rowsW (rs.map Nd.run))) : rs ≠ [] ∧ rs.length ≤ 40 := by
  generalize hz : Nd.node Pat.rowsW (rs.map Nd.run) = x at h
  cases h with
  | nam _ => cases hz
  | rows h1 h2 h3 =>
    rename_i rs'
    injection hz with _ e
    have : rs = rs' := by
      have := congrArg (List.map fun x : Nd => match x with | .run r => r | _ => []) e
      rw [List.map_map, List.map_map] at this
      simpa [Function.comp_def] using this
    rw [this]
    exact ⟨h1, h2⟩
  | nums w _ _ => injection hz with e _; rcases w with rfl | rfl <;> exact absurd e (by decide)
  | one w _ => injection hz with e _; rcases w with rfl | rfl | rfl | rfl <;> exact absurd e (by decide)
  | two w _ _ => injection hz with e _; rcases w with rfl | rfl | rfl <;> exact absurd e (by decide)
  | tile _ _ _ => injection hz with e _; exact absurd e (by decide)
  | blk _ _ _ => injection hz with e _; exact absurd e (by decide)
theorem wr_rows {d : Nat} {rs : List (List Nat)} : wr (d + 1) (.node Pat.rowsW (rs.map Nd.run)) = wz Pat.rowsW rs := by
  show wz Pat.rowsW ((rs.map Nd.run).map (wr d)) = _
  rw [List.map_map]
  congr 1
  exact (List.map_congr_left fun r _ => wr_run).trans (List.map_id _)
theorem fn_none {k : Nat} {f : Addr} {d : FuncData} {ps : List Str} : FnOk P w K mg base (CX1 P w) k f d ps (fun _ _ _ _ => False) := ⟨fun _ _ _ _ h => h.elim, fun _ _ _ _ _ _ _ _ _ _ _ _ _ h => h.elim⟩
theorem okx_worked_out (T : Txt K mg t) : FnOk P w K mg base (CX1 P w) 5 t.f_worked_out t.d_worked_out ["node", "known"] (sp_wl t) := by
  have G_worked_out : FnOk P w K mg base (CX1 P w) 1 t.f_worked_out t.d_worked_out ["node", "known"] (fun _ _ _ _ => False) := fn_none
  refine T.worked_out.F.okX sc_worked_out (fun vs H Q E h => ?_) (fun cdv A outer s H vs Q E hr h => ?_)
  · obtain ⟨rs, v, kp, rfl, _⟩ := h
    rfl
  · obtain ⟨rs, v, kp, rfl, W, hv, hw, k0⟩ := h
    refine ⟨_, (pss_cons (ps_if (pt_cmpR op_isN (pe_ix (ix_tupK (K := K)) (pv 0) pe_int (fun _ _ => rfl)) pe_non (nomark _))
        (pss_one ps_never)
        pss_nil)
      (pss_cons (ps_setCX (i := 2) (E' := E) body1 (fun _ _ z => z) (CompOk.mk (caps := [1]) (Nc := ["thing", "known"]) rfl (by decide +kernel) (by decide +kernel) (comp_fr (sc0 := defScope s_worked_out) rfl (by decide +kernel)) rfl rfl rfl (by decide +kernel) (fun k j h => match k, h with | 0, h => by obtain rfl := Option.some.inj h; exact ⟨_, rfl, rfl, rfl⟩ | _ + 1, h => by simp at h)) rfl sc_worked_out.nd rfl rfl (pi_listK (K := K) (pe_ix (ix_tupK (K := K)) (pv 0) pe_int (fun _ _ => rfl))) (fun _ _ _ _ _ => .nil) (fun _ _ _ _ _ => (pe_ifExp (pt_val (pe_callB (call_isiK (K := K)) rfl T.b_isinstance bt_isinstance (pa_cons (pv 0) (pa_cons (pe_bltn (v := .ty "tuple") rfl T.b_tuple bt_tuple rfl) pa_nil)))) (pe_call (G_worked_out.mono (by omega)) hr rfl T.worked_out.m T.worked_out.F.kp T.worked_out.b .nil passC (pa_cons (pv 0) (pa_cons (pv 1) pa_nil))) (pv 0))) rfl)
      (pss_cons (ps_if (pt_cmpR op_eq (pe_ix (ix_tupK (K := K)) (pv 0) pe_int (fun _ _ => rfl)) pe_str (nomark _))
        (pss_one (ps_ret (pe_make T.o_Rows.m ((okx_Rows___init__ T).mono (by omega)) hr rfl T.k_Rows T.m_Rows___init__.b .nil pass1 (pa_cons (pv 2) pa_nil))))
        pss_nil)
      (pss_cons (ps_if (pt_cmpR op_eq (pe_callB (call_len_seqK (K := K)) rfl T.b_len bt_len (pa_cons (pv 2) pa_nil)) pe_int (nomark _))
        (pss_one ps_never)
        pss_nil)
      (pss_cons (ps_if (pt_cmpR op_eq (pe_callB (call_len_seqK (K := K)) rfl T.b_len bt_len (pa_cons (pv 2) pa_nil)) pe_int (nomark _))
        (pss_one ps_never)
        pss_nil)
      (pss_one ps_never)))))), ?_⟩
    obtain ⟨r1, r2⟩ := wd_rows W
    generalize hz : Nd.node Pat.rowsW (rs.map Nd.run) = x at hv
    cases hv with
    | num => cases hz
    | run => cases hz
    | nam ha => cases hz
    | node ha hq hl hN =>
      rename_i z ts a q vs
      injection hz with ez et
      subst ez et
      have a0 : atI [V.str (tx Pat.rowsW), V.ref q] 0 = some (.str (tx Pat.rowsW)) := atI_of (by decide) rfl
      have a1 : atI [V.str (tx Pat.rowsW), V.ref q] 1 = some (.ref q) := atI_of (by decide) rfl
      have ev : vs = vS rs := by
        apply List.ext_getElem?
        intro i
        unfold vS
        rw [List.getElem?_map]
        rw [List.length_map] at hl
        cases e1 : rs[i]? with
        | none => exact List.getElem?_eq_none (by have := List.getElem?_eq_none_iff.mp e1; omega)
        | some r =>
          have hy : i < vs.length := by have := (List.getElem?_eq_some_iff.mp e1).1; omega
          have := hN i (.run r) vs[i] (by rw [List.getElem?_map, e1]; rfl) (List.getElem?_eq_getElem hy)
          rw [List.getElem?_eq_getElem hy]
          generalize vs[i] = yv at this ⊢
          cases this
          rfl
      subst ev
      refine ⟨_, rfl, _, _, _, _, rfl, rfl, SqT.of ha, a1, rfl, _, rfl, ?_⟩
      refine iteDn (fun z => nomatch z) ?_
      refine ⟨_, rfl, _, _, _, _, rfl, rfl, SqT.of ha, a1, _, rfl, ⟨_, SqL.of hq⟩, ?_⟩
      refine comp_list (K := K) (a := q) (xs := vS rs) (fun i ys H2 => H2 = H ∧ ys = vS (rs.take i)) ⟨rfl, rfl⟩ ?_ ?_ ?_ ?_
      · rintro i ys H2 hi ⟨rfl, rfl⟩
        refine ⟨SqL.of hq, ?_⟩
        rw [vS_len, List.length_take]
        exact Nat.min_le_left _ _
      · rw [vS_len]
        exact small40 r2
      · rintro i xv ys H2 hi hx ⟨rfl, rfl⟩
        refine CTurn.no ?_
        obtain ⟨u, hu, rfl⟩ := vS_got hx
        refine ⟨_, rfl, _, _, false, .str _, .inl ⟨_, rfl, rfl⟩, _, rfl, ?_⟩
        refine iteF ?_
        refine ⟨_, rfl, ?_⟩
        exact CN.of hi ⟨rfl, by rw [List.take_add_one, hu]; unfold vS; rw [List.map_append]; rfl⟩
      · rintro ys H2 l ⟨rfl, rfl⟩ hlN
        rw [vS_len, List.take_length]
        have u3 : Same H2 (upd H2 l (.lst (vS rs))) := .upd hlN
        have hl3 : (upd H2 l (.lst (vS rs))) l = some (.lst (vS rs)) := upd_same
        have k3 := k0.same u3
        generalize upd H2 l (.lst (vS rs)) = H3 at u3 hl3 k3 ⊢
        refine ⟨_, rfl, _, _, _, _, rfl, rfl, SqT.of (u3 _ _ ha), a0, rfl, _, rfl, ?_⟩
        rw [rows_tx]
        refine iteDp rfl ?_
        exact ⟨_, rfl, fun r dx hr1 hdx hne => ⟨r, dx, l, rs, rfl, upd_same, SqL.of (same_own hr1 hdx _ _ hl3), r1, r2, hw, Oc.make k3 (by simp [pcs]) hr1 hdx⟩⟩
def sp_rpat (t : Adr) : Sp := fun vs H Q E => ∃ (u : List Nat) (kp : Addr) (rs : List (List Nat)), vs = [.str (tx u), .ref kp] ∧ u.length ≤ 1000000 ∧ Pat.whole u = some (.node Pat.rowsW (rs.map Nd.run)) ∧ Oc t H Q E (mRows rs) (wz Pat.rowsW rs)
theorem okx_read_pattern (T : Txt K mg t) : FnOk P w K mg base (CX1 P w) 31 t.f_read_pattern t.d_read_pattern ["text", "known"] (sp_rpat t) := by
  refine T.read_pattern.F.okX sc_read_pattern (fun vs H Q E h => ?_) (fun cdv A outer s H vs Q E hr h => ?_)
  · obtain ⟨u, kp, rs, rfl, _⟩ := h
    rfl
  · obtain ⟨u, kp, rs, rfl, hu, hw, k⟩ := h
    refine ⟨_, (pss_one (ps_ret (pe_call ((okx_worked_out T).mono (by decide)) hr rfl T.worked_out.m T.worked_out.F.kp T.worked_out.b .nil pass1 (pa_cons (pe_call ((okx_read_whole T).mono (by decide)) hr rfl T.read_whole.m T.read_whole.F.kp T.read_whole.b .nil pass1 (pa_cons (pv 0) pa_nil)) (pa_cons (pv 1) pa_nil))))), ?_⟩
    have W := whole_is hw
    have wl : (wz Pat.rowsW rs).length ≤ 1000000 := by
      have := W.2
      rw [show wr 12 (.node Pat.rowsW (rs.map Nd.run)) = wz Pat.rowsW rs from wr_rows] at this
      omega
    refine ⟨_, rfl, u, rfl, hu, fun x v H1 e s1 hN => ?_, fun e H1 s1 => ?_⟩
    · rw [hw] at e
      injection e with e
      subst e
      exact ⟨_, rfl, rs, v, kp, rfl, W.1, hN.mono (fun b o e => (nw_of e).2), wl, k.same s1⟩
    · rw [hw] at e
      cases e
end
def prts (c : Nat) : List Nat → List (List Nat)
  | [] => [[]]
  | a :: u => if a = c then [] :: prts c u else match prts c u with
    | [] => [[a]]
    | w :: ws => (a :: w) :: ws
theorem prts_ne (c : Nat) : ∀ u, prts c u ≠ []
  | [] => by unfold prts; simp
  | a :: u => by
    unfold prts
    split
    · simp
    · split <;> simp
theorem prts_jn (c : Nat) : ∀ u, jn c (prts c u) = u
  | [] => rfl
  | a :: u => by
    have ih := prts_jn c u
    have ne := prts_ne c u
    unfold prts
    split
    · rename_i h
      cases e : prts c u with
      | nil => exact absurd e ne
      | cons w ws => rw [e] at ih; show [] ++ c :: jn c (w :: ws) = _; rw [ih, h]; rfl
    · cases e : prts c u with
      | nil => exact absurd e ne
      | cons w ws =>
        rw [e] at ih
        cases ws with
        | nil => have ih : w = u := ih; show a :: w = _; rw [ih]
        | cons v r => have ih : w ++ c :: jn c (v :: r) = u := ih; show (a :: w) ++ c :: jn c (v :: r) = _; rw [List.cons_append, ih]
theorem prts_no (c : Nat) : ∀ u, ∀ w ∈ prts c u, c ∉ w
  | [], w, h => by unfold prts at h; rw [List.mem_singleton.mp h]; simp
  | a :: u, w, h => by
    have ih := prts_no c u
    unfold prts at h
    split at h
    · rcases List.mem_cons.mp h with rfl | h
      · simp
      · exact ih w h
    · rename_i ha
      split at h
      · rw [List.mem_singleton.mp h]
        simp
        exact fun z => ha z.symm
      · rename_i v ws e
        rcases List.mem_cons.mp h with rfl | h
        · rw [List.mem_cons, not_or]
          exact ⟨fun z => ha z.symm, ih v (by rw [e]; simp)⟩
        · exact ih w (by rw [e]; simp [h])
theorem prts_one {c : Nat} : ∀ {w : List Nat}, c ∉ w → prts c w = [w]
  | [], _ => rfl
  | a :: w, h => by
    rw [List.mem_cons, not_or] at h
    unfold prts
    rw [if_neg (fun z => h.1 z.symm), prts_one h.2]
theorem prts_app {c : Nat} : ∀ {w : List Nat} (u : List Nat), c ∉ w → prts c (w ++ c :: u) = w :: prts c u
  | [], u, _ => by show prts c (c :: u) = _; rw [prts, if_pos rfl]
  | a :: w, u, h => by
    rw [List.mem_cons, not_or] at h
    show prts c (a :: (w ++ c :: u)) = _
    rw [prts, if_neg (fun z => h.1 z.symm), prts_app u h.2]
theorem prts_sum (c : Nat) (u : List Nat) : ((prts c u).map List.length).sum + (prts c u).length = u.length + 1 := by
  have : ∀ ws : List (List Nat), ws ≠ [] → (ws.map List.length).sum + ws.length = (jn c ws).length + 1 := fun ws => by
    induction ws with
    | nil => exact fun h => absurd rfl h
    | cons w r ih =>
      intro _
      cases r with
      | nil => simp [jn]
      | cons v r =>
        have := ih (by simp)
        show ((w :: v :: r).map List.length).sum + _ = (w ++ c :: jn c (v :: r)).length + 1
        rw [List.map_cons, List.sum_cons, List.length_append, List.length_cons (as := v :: r), List.length_cons (as := jn c (v :: r))]
        omega
  have h := this (prts c u) (prts_ne c u)
  rw [prts_jn] at h
  exact h
def wrds (u : List Nat) : List (List Nat) := (prts 32 u).filter fun w => decide (¬ w = [])
theorem wrds_app {w : List Nat} (u : List Nat) (h : 32 ∉ w) (hw : w ≠ []) : wrds (w ++ 32 :: u) = w :: wrds u := by
  unfold wrds
  rw [prts_app u h, List.filter_cons_of_pos (by simpa using hw)]
theorem wrds_bl (u : List Nat) : wrds (32 :: u) = wrds u := by
  unfold wrds
  rw [show (32 :: u) = [] ++ 32 :: u from rfl, prts_app u (by simp), List.filter_cons_of_neg (by simp)]
theorem wrds_one {w : List Nat} (h : 32 ∉ w) (hw : w ≠ []) : wrds w = [w] := by
  unfold wrds
  rw [prts_one h, List.filter_cons_of_pos (by simpa using hw)]
  rfl
theorem trim_id {u : List Nat} (h1 : u.head? ≠ some 32) (h2 : u.getLast? ≠ some 32) : trim u = u := by
  unfold trim
  have e1 : u.dropWhile (fun c => decide (c = 32)) = u := by
    cases u with
    | nil => rfl
    | cons a u => rw [List.dropWhile_cons_of_neg (by simpa using h1)]
  rw [e1]
  have e2 : u.reverse.dropWhile (fun c => decide (c = 32)) = u.reverse := by
    cases e : u.reverse with
    | nil => rfl
    | cons a v =>
      rw [List.dropWhile_cons_of_neg]
      have : u.getLast? = some a := by rw [← List.head?_reverse, e]; rfl
      rw [this] at h2
      simpa using h2
  rw [e2, List.reverse_reverse]
theorem trim_len (u : List Nat) : (trim u).length ≤ u.length := by
  unfold trim
  rw [List.length_reverse]
  refine Nat.le_trans (List.dropWhile_suffix _).length_le ?_
  rw [List.length_reverse]
  exact (List.dropWhile_suffix _).length_le
def isD (c : Nat) : Bool := decide (48 ≤ c) && decide (c ≤ 57)
theorem isD_iff {c : Nat} : isD c = true ↔ 48 ≤ c ∧ c ≤ 57 := by unfold isD; rw [Bool.and_eq_true, decide_eq_true_iff, decide_eq_true_iff]
def num? (w : List Nat) : Option Nat := if w.length < 1 ∨ 60 < w.length ∨ w.any (fun c => !isD c) = true then none else if ¬ w = [48] ∧ w.head? = some 48 then none else some (NumText.digitsVal w)
def far? (w : List Nat) : Option Int := if w = [45, 48] then none else if w.head? = some 45 then Option.map (fun n : Nat => -(n : Int)) (num? w.tail) else Option.map (fun n : Nat => (n : Int)) (num? w)
theorem val_lt : ∀ (w : List Nat), (∀ c ∈ w, 48 ≤ c ∧ c ≤ 57) → NumText.digitsVal w < 10 ^ w.length := by
  intro w
  induction h : w.length generalizing w with
  | zero => intro _; rw [List.length_eq_zero_iff.mp h]; decide
  | succ n ih =>
    intro hd
    have hne : w ≠ [] := fun z => by rw [z] at h; simp at h
    have e := List.dropLast_concat_getLast hne
    have hl : w.dropLast.length = n := by rw [List.length_dropLast]; omega
    have h1 := ih w.dropLast hl (fun c hc => hd c (List.dropLast_subset w hc))
    have h2 := hd _ (List.getLast_mem hne)
    rw [← e, NumText.digitsVal_snoc, Nat.pow_succ]
    omega
theorem num_lt60 {w : List Nat} {n : Nat} (h : num? w = some n) : n < 10 ^ 60 := by
  unfold num? at h
  split at h
  · cases h
  · rename_i c
    split at h
    · cases h
    · injection h with h
      rw [not_or, not_or] at c
      have hd : ∀ c ∈ w, 48 ≤ c ∧ c ≤ 57 := fun x hx => by
        have := c.2.2
        rw [Bool.not_eq_true, List.any_eq_false] at this
        have := this x hx
        rw [Bool.not_eq_true, Bool.not_eq_false'] at this
        exact isD_iff.mp this
      have := val_lt w hd
      have : 10 ^ w.length ≤ 10 ^ 60 := Nat.pow_le_pow_right (by decide) (by omega)
      omega
def decN (n : Nat) : List Nat := (Nat.toDigits 10 n).map Char.toNat
def decI (i : Int) : List Nat := if i < 0 then 45 :: decN i.natAbs else decN i.natAbs
theorem decN_dg {n c : Nat} (h : c ∈ decN n) : 48 ≤ c ∧ c ≤ 57 := by
  obtain ⟨ch, hch, e⟩ := List.mem_map.mp h
  have r := PyProof.Rows.digit_range (Nat.isDigit_of_mem_toDigits (by decide) (by decide) hch)
  rw [← e]
  exact r
theorem decN_snoc {n : Nat} (h : 10 ≤ n) : decN n = decN (n / 10) ++ [(Nat.digitChar (n % 10)).toNat] := by
  unfold decN
  have hm : n % 10 < 10 := Nat.mod_lt n (by decide)
  have t : Nat.toDigits 10 (n / 10) ++ Nat.toDigits 10 (n % 10) = Nat.toDigits 10 (10 * (n / 10) + n % 10) := Nat.toDigits_append_toDigits (by decide) (by omega) hm
  rw [Nat.div_add_mod] at t
  rw [← t, List.map_append, Nat.toDigits_of_lt_base hm]
  rfl
theorem decN_small {n : Nat} (h : n < 10) : decN n = [48 + n] := by
  unfold decN
  rw [Nat.toDigits_of_lt_base h]
  have : ∀ d : Nat, d < 10 → [(Nat.digitChar d).toNat] = [48 + d] := by decide
  exact this n h
theorem decN_ne (n : Nat) : decN n ≠ [] := by
  by_cases h : n < 10
  · rw [decN_small h]; simp
  · rw [decN_snoc (by omega)]; simp
theorem decN_len : ∀ (k n : Nat), n < 10 ^ (k + 1) → (decN n).length ≤ k + 1
  | 0, n, h => by rw [decN_small (by simpa using h)]; simp
  | k + 1, n, h => by
    by_cases h10 : n < 10
    · rw [decN_small h10]; simp
    · rw [decN_snoc (by omega), List.length_append, List.length_singleton]
      have := decN_len k (n / 10) (by rw [Nat.pow_succ] at h; omega)
      omega
theorem decN_head : ∀ (n : Nat), 0 < n → (decN n).head? ≠ some 48 := by
  intro n
  induction n using Nat.strongRecOn with
  | _ n ih =>
    intro h
    by_cases h10 : n < 10
    · rw [decN_small h10]
      simp
      omega
    · rw [decN_snoc (by omega)]
      have := ih (n / 10) (by omega) (by omega)
      cases e : decN (n / 10) with
      | nil => exact absurd e (decN_ne _)
      | cons a l => rw [e] at this; simpa using this
theorem num_dec {n : Nat} (h : n < 10 ^ 60) : num? (decN n) = some n := by
  have h1 : 1 ≤ (decN n).length := List.length_pos_iff.mpr (decN_ne n)
  have h2 := decN_len 59 n h
  have h3 : (decN n).any (fun c => !isD c) = false := by
    rw [List.any_eq_false]
    intro x hx
    rw [isD_iff.mpr (decN_dg hx)]
    decide
  unfold num?
  rw [if_neg (by rw [h3]; simp only [Bool.false_eq_true, or_false]; omega), if_neg, show NumText.digitsVal (decN n) = n from PySem.W.KIN.val_back n]
  rintro ⟨a, b⟩
  by_cases z : n = 0
  · subst z; exact a (by decide)
  · exact decN_head n (by omega) b
theorem far_dec {i : Int} (h : i.natAbs < 10 ^ 60) : far? (decI i) = some i := by
  unfold far? decI
  by_cases c : i < 0
  · rw [if_pos c]
    have hn : 0 < i.natAbs := by omega
    rw [if_neg, if_pos List.head?_cons, List.tail_cons, num_dec h]
    · simp; omega
    · intro z
      injection z with _ z
      have := decN_head _ hn
      rw [z] at this
      exact this rfl
  · rw [if_neg c]
    have hh : (decN i.natAbs).head? ≠ some 45 := fun z => by
      cases e : decN i.natAbs with
      | nil => exact absurd e (decN_ne _)
      | cons a l =>
        rw [e] at z
        have := decN_dg (n := i.natAbs) (c := a) (by rw [e]; simp)
        injection z with z
        omega
    rw [if_neg (fun z => hh (by rw [z]; rfl)), if_neg hh, num_dec h]
    simp; omega
theorem decI_dg {i : Int} {c : Nat} (h : c ∈ decI i) : c = 45 ∨ 48 ≤ c ∧ c ≤ 57 := by
  unfold decI at h
  split at h
  · rcases List.mem_cons.mp h with h | h
    · exact .inl h
    · exact .inr (decN_dg h)
  · exact .inr (decN_dg h)
theorem decI_ne (i : Int) : decI i ≠ [] := by
  unfold decI
  split
  · simp
  · exact decN_ne _
theorem decI_len {i : Int} (h : i.natAbs < 10 ^ 60) : (decI i).length ≤ 61 := by
  have := decN_len 59 _ h
  unfold decI
  split
  · rw [List.length_cons]; omega
  · omega
theorem met_floor {st ln c s : Int} (hc : 0 < c) (hl : 0 ≤ ln) : met st ln c s = (st + ln - 1 - s) / c - (st - 1 - s) / c := by
  unfold met
  have r1 := Int.emod_nonneg (s - st) (show c ≠ 0 by omega)
  have r2 := Int.emod_lt_of_pos (s - st) hc
  have p1 := Int.emod_nonneg ln (show c ≠ 0 by omega)
  have p2 := Int.emod_lt_of_pos ln hc
  have d1 := Int.emod_add_mul_ediv (s - st) c
  have d2 := Int.emod_add_mul_ediv ln c
  generalize (s - st) % c = r at *
  generalize (s - st) / c = q at *
  generalize ln % c = v at *
  generalize ln / c = u at *
  have e1 : (st - 1 - s) / c = -q - 1 := by
    have : st - 1 - s = (c - 1 - r) + c * (-q - 1) := by rw [Int.mul_sub, Int.mul_neg, Int.mul_one]; omega
    rw [this, Int.add_mul_ediv_left _ _ (by omega), Int.ediv_eq_zero_of_lt (by omega) (by omega)]
    omega
  have e2 : (st + ln - 1 - s) / c = -q - 1 + u + (if r < v then 1 else 0) := by
    by_cases h : r < v
    · rw [if_pos h]
      have : st + ln - 1 - s = (v - 1 - r) + c * (-q - 1 + u + 1) := by rw [Int.mul_add, Int.mul_add, Int.mul_sub, Int.mul_neg, Int.mul_one]; omega
      rw [this, Int.add_mul_ediv_left _ _ (by omega), Int.ediv_eq_zero_of_lt (by omega) (by omega)]
      omega
    · rw [if_neg h]
      have : st + ln - 1 - s = (c + v - 1 - r) + c * (-q - 1 + u) := by rw [Int.mul_add, Int.mul_sub, Int.mul_neg, Int.mul_one]; omega
      rw [this, Int.add_mul_ediv_left _ _ (by omega), Int.ediv_eq_zero_of_lt (by omega) (by omega)]
      omega
  rw [e1, e2]
  omega
section
variable {P : Program} {w : World} {K : PySem.W.Frag} {mg : Str → Option Value} {base : Heap} {t : Adr}
theorem at_val {i : Nat} {v v' : V} {σ σ' : St} {H : Hp} {Kt : St → Hp → Prop} (ev : v = v') (h : σ.set i (some v') = σ') (k : Kt σ' H) : gName i v σ H Kt := by subst ev; subst h; exact k
theorem one_of_bl : (Str.ofString " ") = tx [32] := by decide +kernel
theorem one_of_nl : (Str.ofString "\n") = tx [10] := by decide +kernel
theorem one_of_q : (Str.ofString "?") = tx [63] := by decide +kernel
theorem one_of_sc : (Str.ofString ";") = tx [59] := by decide +kernel
theorem one_of_eq : (Str.ofString "=") = tx [61] := by decide +kernel
theorem one_of_mi : (Str.ofString "-") = tx [45] := by decide +kernel
theorem one_of_0 : (Str.ofString "0") = tx [48] := by decide +kernel
theorem one_of_m0 : (Str.ofString "-0") = tx [45, 48] := by decide +kernel
theorem one_of_pp : (Str.ofString "=:") = tx [61, 58] := by decide +kernel
theorem one_of_no : (Str.ofString "") = tx [] := by decide +kernel
theorem cut_tail9 {u : List Nat} {k : Nat} (h : k ≤ u.length) : cutT u (some (k : Int)) none = u.drop k := by
  unfold cutT
  rw [HT.sIx_nat, Nat.min_eq_left h]
  exact List.take_of_length_le (by rw [List.length_drop]; exact Nat.le_refl _)
theorem cut1 (u : List Nat) : cutT u (some 1) none = u.tail := by
  cases u with
  | nil => decide +kernel
  | cons a u => exact cut_tail9 (k := 1) (by simp)
theorem iteNN9 {c A B : Prop} [Decidable c] (hc : ¬ c) (h : A) : if (!decide c) = true then A else B := by rw [decide_eq_false hc]; exact iteT h
def sp_dwn (t : Adr) : Sp := fun vs H Q E => ∃ (u : List Nat), vs = [.str (tx u)] ∧ u.length ≤ 1000000 ∧ (∀ n H', num? u = some n → Same H H' → Q (.int (n : Int)) H') ∧ (∀ H', num? u = none → Same H H' → E (.ref t.e_NoPattern) none H')
theorem okx_whole_number (T : Txt K mg t) : FnOk P w K mg base (CX1 P w) 1 t.f_whole_number t.d_whole_number ["word"] (sp_dwn t) := by
  refine T.whole_number.F.okX sc_whole_number (fun vs H Q E h => ?_) (fun cdv A outer s H vs Q E hr h => ?_)
  · obtain ⟨u, rfl, _⟩ := h
    rfl
  · obtain ⟨u, rfl, hu, k1, k2⟩ := h
    refine ⟨_, (pss_cons (ps_if (PW.pt (pw_or (pt_cmpR op_lt (pe_callB call_len_str rfl T.b_len bt_len (pa_cons (pv 0) pa_nil)) pe_int (nomark _)) (pw_or (pt_cmpR op_gt (pe_callB call_len_str rfl T.b_len bt_len (pa_cons (pv 0) pa_nil)) (pe_glob (v := .int 60) rfl T.c_MOST_FIGURES.choose_spec ⟨_, rfl⟩) (nomark _)) (pw_or1 (pt_val (pe_callB (call_anyB (K := K)) rfl T.b_any bt_any (pa_cons (PE.nox (pe_comp (CompOk.mk (caps := []) (Nc := ["sign"]) rfl (by decide +kernel) (by decide +kernel) (comp_fr (sc0 := defScope s_whole_number) rfl (by decide +kernel)) rfl rfl rfl (by decide +kernel) (fun _ _ h => by simp at h)) rfl (pi_str (pv 0)) (fun _ _ _ _ _ => .nil) (fun _ _ _ _ _ => (pe_cmpR op_notin_str (pv 0) (pe_glob (v := .str "0123456789") rfl T.c_FIGURES.choose_spec ⟨_, rfl⟩) rfl)))) pa_nil)))))))
        (pss_one (ps_raise body1 rfl (fun _ _ z => z) PySem.F.excBase_ValueError has_ve PySem.F.excBase_ValueError T.x_NoPattern.q rfl T.k_NoPattern (pa_cons pe_str pa_nil)))
        pss_nil)
      (pss_cons (ps_if (PW.pt (pw_and (pt_cmpR op_ne (pv 0) pe_str (nomark _)) (pw_and1 (pt_val (pe_bmK (K := K) PySem.F.plainAttrs_str PySem.F.slot_str_startswith PySem.F.type_str_startswith mt_starts (pv 0) (pa_cons pe_str pa_nil))))))
        (pss_one (ps_raise body1 rfl (fun _ _ z => z) PySem.F.excBase_ValueError has_ve PySem.F.excBase_ValueError T.x_NoPattern.q rfl T.k_NoPattern (pa_cons pe_str pa_nil)))
        pss_nil)
      (pss_one (ps_ret (pe_callTy call_intT rfl T.b_int bt_int (pa_cons (pv 0) pa_nil)))))), ?_⟩
    have sz : (tx u).length ≤ sizeLine := by rw [tx_len]; exact big hu
    unfold num? at k1 k2
    rw [one_of_0]
    refine ⟨_, rfl, _, rfl, sz, _, _, rfl, rfl, _, rfl, ?_⟩
    rw [tx_len]
    refine ite2D (fun c1 => ?_) (fun c1 => ?_)
    · refine iteT ⟨by decide, k2 _ (if_pos (.inl (by omega))) (.refl _)⟩
    refine ⟨_, rfl, _, rfl, sz, _, _, rfl, rfl, _, rfl, ?_⟩
    rw [tx_len]
    refine ite2D (fun c2 => ?_) (fun c2 => ?_)
    · refine iteT ⟨by decide, k2 _ (if_pos (.inr (.inl (by omega)))) (.refl _)⟩
    refine ⟨_, rfl, _, rfl, comp_str (z := tx u) (fun i ys H2 => H2 = H ∧ ys = vB ((u.take i).map fun c => !isD c)) ⟨rfl, rfl⟩ ?_ ?_ ?_ ?_⟩
    · rintro i ys H2 hi ⟨rfl, rfl⟩
      rw [vB_len, List.length_map, List.length_take]
      exact Nat.min_le_left _ _
    · exact sz
    · rintro i c ys H2 hi hc ⟨rfl, rfl⟩
      refine CTurn.no ?_
      have hu' : u[i]? = some c := by
        rw [← tx_list u, Array.getElem?_toList]
        exact hc
      refine ⟨_, rfl, _, _, rfl, rfl, ?_⟩
      rw [ten_is, in_signs]
      refine CN.of hi ⟨rfl, ?_⟩
      rw [vB_app, List.take_add_one, hu', List.map_append, show decide (c ∈ tenF) = isD c by
        rw [Bool.eq_iff_iff, isD_iff, decide_eq_true_iff]; exact tenF_iff]
      rfl
    · rintro ys H2 q ⟨rfl, rfl⟩ hq
      refine ⟨_, _, rfl, SqL.of upd_same, ?_⟩
      have e9 : (((u.take (tx u).cps.size).map fun c => !isD c).any id) = u.any fun c => !isD c := by
        rw [show (tx u).cps.size = u.length from tx_len u, List.take_length, List.any_map]
        rfl
      rw [e9]
      have s3 : Same H2 (upd H2 q (.lst (vB ((u.take (tx u).cps.size).map fun c => !isD c)))) := .upd hq
      generalize upd H2 q (.lst (vB ((u.take (tx u).cps.size).map fun c => !isD c))) = H3 at s3 ⊢
      refine ⟨_, rfl, ?_⟩
      refine iteB (fun c3 => ?_) (fun c3 => ?_)
      · exact ⟨by decide, k2 _ (if_pos (.inr (.inr c3))) s3⟩
      have cc : ¬ (u.length < 1 ∨ 60 < u.length ∨ (u.any fun c => !isD c) = true) := by rw [c3]; simp only [Bool.false_eq_true, or_false]; omega
      rw [if_neg cc] at k1 k2
      have fin : ¬ (¬ u = [48] ∧ u.head? = some 48) → ∃ z n, [V.str (tx u)] = [V.str z] ∧ PySem.intText? z = some n ∧ z.length ≤ 640 ∧ Q (.int n) H3 := fun c4 => by
        refine ⟨tx u, _, rfl, PySem.intText_digits (x := tx u) (fun c hc => ?_) (by rw [tx_list]; intro z; rw [z] at c1; exact c1 (by decide)) (by rw [tx_len]; omega), by rw [tx_len]; omega, ?_⟩
        · rw [tx_list] at hc
          rw [List.any_eq_false] at c3
          have := c3 c hc
          rw [Bool.not_eq_true, Bool.not_eq_false'] at this
          exact isD_iff.mp this
        · rw [tx_list]
          exact k1 _ _ (if_neg c4) s3
      refine ⟨_, rfl, rfl, _, rfl, ?_⟩
      by_cases c5 : u = [48]
      · subst c5
        exact iteNS rfl ⟨_, rfl, fin (fun z => z.1 rfl)⟩
      refine iteNN9 (tx_ne c5) ?_
      refine ⟨_, rfl, rfl, _, _, rfl, rfl, ?_⟩
      rw [starts_tx]
      refine ⟨_, rfl, ?_⟩
      by_cases c6 : u.head? = some 48
      · rw [decide_eq_true c6]
        exact iteT ⟨by decide, k2 _ (if_pos ⟨c5, c6⟩) s3⟩
      · rw [decide_eq_false c6]
        exact iteF ⟨_, rfl, fin (fun z => c6 z.2)⟩
def sp_dfn (t : Adr) : Sp := fun vs H Q E => ∃ (u : List Nat), vs = [.str (tx u)] ∧ u.length ≤ 1000000 ∧ (∀ n H', far? u = some n → Same H H' → Q (.int n) H') ∧ (∀ H', far? u = none → Same H H' → E (.ref t.e_NoPattern) none H')
theorem okx_far_number (T : Txt K mg t) : FnOk P w K mg base (CX1 P w) 2 t.f_far_number t.d_far_number ["word"] (sp_dfn t) := by
  refine T.far_number.F.okX sc_far_number (fun vs H Q E h => ?_) (fun cdv A outer s H vs Q E hr h => ?_)
  · obtain ⟨u, rfl, _⟩ := h
    rfl
  · obtain ⟨u, rfl, hu, k1, k2⟩ := h
    refine ⟨_, (pss_cons (ps_if (pt_cmpR op_eq (pv 0) pe_str (nomark _))
        (pss_one (ps_raise body1 rfl (fun _ _ z => z) PySem.F.excBase_ValueError has_ve PySem.F.excBase_ValueError T.x_NoPattern.q rfl T.k_NoPattern (pa_cons pe_str pa_nil)))
        pss_nil)
      (pss_cons (ps_if (pt_val (pe_bmK (K := K) PySem.F.plainAttrs_str PySem.F.slot_str_startswith PySem.F.type_str_startswith mt_starts (pv 0) (pa_cons pe_str pa_nil)))
        (pss_one (ps_ret (pe_un un_neg (pe_call ((okx_whole_number T).mono (by decide)) hr rfl T.whole_number.m T.whole_number.F.kp T.whole_number.b .nil pass1 (pa_cons (pe_slice sl_str (pv 0) (po_some pe_int) po_none) pa_nil)))))
        pss_nil)
      (pss_one (ps_ret (pe_call ((okx_whole_number T).mono (by decide)) hr rfl T.whole_number.m T.whole_number.F.kp T.whole_number.b .nil pass1 (pa_cons (pv 0) pa_nil)))))), ?_⟩
    unfold far? at k1 k2
    rw [one_of_m0, one_of_mi]
    refine ⟨_, rfl, rfl, _, rfl, ?_⟩
    by_cases c1 : u = [45, 48]
    · subst c1
      exact iteDp rfl ⟨by decide, k2 _ (if_pos rfl) (.refl _)⟩
    refine iteDn (tx_ne c1) ?_
    rw [if_neg c1] at k1 k2
    refine ⟨_, rfl, rfl, _, _, rfl, rfl, ?_⟩
    rw [starts_tx]
    refine ⟨_, rfl, ?_⟩
    by_cases c2 : u.head? = some 45
    · rw [if_pos c2] at k1 k2
      refine iteDp c2 ?_
      refine ⟨_, rfl, _, rfl, u, rfl, big hu, ?_⟩
      rw [cut1]
      refine ⟨_, rfl, (by rw [List.length_tail]; omega), fun n H' e s' => ?_, fun H' e s' => ?_⟩
      · exact ⟨_, rfl, k1 _ _ (by rw [e]; rfl) s'⟩
      · exact k2 _ (by rw [e]; rfl) s'
    · rw [if_neg c2] at k1 k2
      refine iteDn c2 ?_
      exact ⟨_, rfl, u, rfl, hu, fun n H' e s' => k1 _ _ (by rw [e]; rfl) s', fun H' e s' => k2 _ (by rw [e]; rfl) s'⟩
def sp_dcc (t : Adr) : Sp := fun vs H Q E => ∃ (b : Bool), vs = [.bl b] ∧ (b = true → Q .non H) ∧ (b = false → E (.ref t.e_NoPattern) none H)
theorem okx_check_count_desk (T : Txt K mg t) : FnOk P w K mg base (CX1 P w) 1 t.f_check_count_desk t.d_check_count_desk ["fits"] (sp_dcc t) := by
  refine T.check_count_desk.F.okX sc_check_count_desk (fun vs H Q E h => ?_) (fun cdv A outer s H vs Q E hr h => ?_)
  · obtain ⟨b, rfl, _⟩ := h
    rfl
  · obtain ⟨b, rfl, k1, k2⟩ := h
    refine ⟨_, (pss_one (ps_if (pt_not (pt_truthK (K := K) (pv 0) (fun _ => rfl)))
        (pss_one (ps_raise body1 rfl (fun _ _ z => z) PySem.F.excBase_ValueError has_ve PySem.F.excBase_ValueError T.x_NoPattern.q rfl T.k_NoPattern (pa_cons pe_str pa_nil)))
        pss_nil)), ?_⟩
    cases b with
    | true => exact ⟨_, rfl, _, rfl, iteF (k1 rfl)⟩
    | false => exact ⟨_, rfl, _, rfl, iteT ⟨by decide, k2 rfl⟩⟩
def sp_dcn (t : Adr) : Sp := fun vs H Q E => ∃ (u : List Nat), vs = [.str (tx u)] ∧ u.length ≤ 1000000 ∧ (∀ H', Pat.isName u = true → Same H H' → Q .non H') ∧ (∀ H', Pat.isName u = false → Same H H' → E (.ref t.e_NoPattern) none H')
theorem okx_check_name (T : Txt K mg t) : FnOk P w K mg base (CX1 P w) 2 t.f_check_name t.d_check_name ["word"] (sp_dcn t) := by
  refine T.check_name.F.okX sc_check_name (fun vs H Q E h => ?_) (fun cdv A outer s H vs Q E hr h => ?_)
  · obtain ⟨u, rfl, _⟩ := h
    rfl
  · obtain ⟨u, rfl, hu, k1, k2⟩ := h
    refine ⟨_, (pss_one (ps_if (pt_not (pt_val (pe_call ((ok_is_name T).mono (by decide)) hr rfl T.is_name.m T.is_name.F.kp T.is_name.b .nil pass0 (pa_cons (pv 0) pa_nil))))
        (pss_one (ps_raise body1 rfl (fun _ _ z => z) PySem.F.excBase_ValueError has_ve PySem.F.excBase_ValueError T.x_NoPattern.q rfl T.k_NoPattern (pa_cons pe_str pa_nil)))
        pss_nil)), ?_⟩
    refine ⟨_, rfl, u, rfl, hu, fun H' s' => ⟨_, rfl, ?_⟩⟩
    cases e : Pat.isName u with
    | true => exact iteF (k1 _ e s')
    | false => exact iteT ⟨by decide, k2 _ e s'⟩
def sp_dwo : Sp := fun vs H Q _ => ∃ (u : List Nat), vs = [.str (tx u)] ∧ u.length ≤ 1000000 ∧ ∀ q H', Same H H' → H' q = some (.lst (vS (wrds u))) → Q (.ref q) H'
theorem ok_words_of (T : Txt K mg t) : FnOk P w K mg base CX0 1 t.f_words_of t.d_words_of ["text"] sp_dwo := by
  refine T.words_of.F.ok sc_words_of (fun vs H Q E h => ?_) (fun cdv A outer s H vs Q E hr h => ?_)
  · obtain ⟨u, rfl, _⟩ := h
    rfl
  · obtain ⟨u, rfl, hu, k⟩ := h
    refine ⟨_, (pss_one (ps_ret (pe_comp (CompOk.mk (caps := []) (Nc := ["word"]) rfl (by decide +kernel) (by decide +kernel) (comp_fr (sc0 := defScope s_words_of) rfl (by decide +kernel)) rfl rfl rfl (by decide +kernel) (fun _ _ h => by simp at h)) rfl (pi_listK (K := K) (pe_bmK (K := K) PySem.F.plainAttrs_str PySem.F.slot_str_split PySem.F.type_str_split mt_split (pv 0) (pa_cons pe_str pa_nil))) (fun _ _ _ _ _ => .one (pt_cmpR op_ne (pv 0) pe_str (nomark _))) (fun _ _ _ _ _ => (pv 0))))), ?_⟩
    rw [one_of_bl, one_of_no]
    have hsz : sizeLine = 16777216 := sizeLine_eq
    refine ⟨_, rfl, rfl, u, 32, prts 32 u, rfl, rfl, (by decide), (by omega), prts_ne _ _, prts_jn _ _, prts_no _ _, fun l hl => ?_⟩
    have s1 : Same H (upd H l (.lst (vS (prts 32 u)))) := .upd hl
    have h1 : (upd H l (.lst (vS (prts 32 u)))) l = some (.lst (vS (prts 32 u))) := upd_same
    generalize upd H l (.lst (vS (prts 32 u))) = H1 at s1 h1 ⊢
    have pl : (prts 32 u).length ≤ u.length + 1 := by have := prts_sum 32 u; omega
    refine ⟨_, rfl, ⟨_, SqL.of h1⟩, comp_list (K := K) (a := l) (xs := vS (prts 32 u)) (fun i ys H2 => H2 = H1 ∧ ys = vS (((prts 32 u).take i).filter fun w => decide (¬ w = []))) ⟨rfl, rfl⟩ ?_ ?_ ?_ ?_⟩
    · rintro i ys H2 hi ⟨rfl, rfl⟩
      refine ⟨SqL.of h1, ?_⟩
      rw [vS_len]
      exact Nat.le_trans (List.length_filter_le _ _) (by rw [List.length_take]; exact Nat.min_le_left _ _)
    · rw [vS_len]; omega
    · rintro i xv ys H2 hi hx ⟨rfl, rfl⟩
      obtain ⟨x, hx2, rfl⟩ := vS_got hx
      have et : (prts 32 u).take (i + 1) = (prts 32 u).take i ++ [x] := by rw [List.take_add_one, hx2]; rfl
      unfold CTurn
      refine ⟨_, rfl, rfl, _, rfl, ?_⟩
      by_cases c : x = []
      · subst c
        refine iteNS rfl ?_
        exact CN.of hi ⟨rfl, by rw [et, List.filter_append]; simp⟩
      · refine iteNN9 (tx_ne c) ?_
        refine ⟨_, rfl, CN.of hi ⟨rfl, ?_⟩⟩
        rw [et, List.filter_append, List.filter_cons_of_pos (by simpa using c)]
        unfold vS
        rw [List.map_append]
        rfl
    · rintro ys H2 q ⟨rfl, rfl⟩ hq
      rw [vS_len, List.take_length]
      exact k q _ (s1.new hq) upd_same
def sp_dpp : Sp := fun vs H Q _ => ∃ (a b : List Nat) (c : Nat), vs = [.str (tx (a ++ c :: b))] ∧ (∀ x ∈ a, ¬ (x = 61 ∨ x = 58)) ∧ (c = 61 ∨ c = 58) ∧ ∀ H', Same H H' → Q (.int (a.length : Int)) H'
theorem okx_parting_place (T : Txt K mg t) : FnOk P w K mg base (CX1 P w) 1 t.f_parting_place t.d_parting_place ["line"] sp_dpp := by
  refine T.parting_place.F.okX sc_parting_place (fun vs H Q E h => ?_) (fun cdv A outer s H vs Q E hr h => ?_)
  · obtain ⟨a, b, c, rfl, _⟩ := h
    rfl
  · obtain ⟨a, b, c, rfl, ha, hc, k⟩ := h
    refine ⟨_, (pss_cons (PS.nox (ps_for PassesOwn.never rfl (pi_enumT rfl T.b_enumerate (pa_cons (pv 0) pa_nil)) (pg_tup rfl (pgs_cons (pg_name (i := 1) sc_parting_place.nd rfl (Or.inl rfl)) (pgs_cons (pg_name (i := 2) sc_parting_place.nd rfl (Or.inl rfl)) pgs_nil)))
        (pss_one (ps_if (pt_cmpR op_in_str (pv 2) pe_str rfl)
          (pss_one (ps_ret (pv 1)))
          pss_nil))))
      (pss_one (ps_raise body1 rfl (fun _ _ z => z) PySem.F.excBase_ValueError has_ve PySem.F.excBase_ValueError T.x_NoPattern.q rfl T.k_NoPattern (pa_cons pe_str pa_nil)))), ?_⟩
    rw [one_of_pp]
    refine ⟨_, rfl, _, rfl, for_enumT (u := a ++ c :: b) (fun i σ H2 => ∃ v1 v2, σ = [some (.str (tx (a ++ c :: b))), v1, v2] ∧ Same H H2 ∧ i ≤ a.length) ⟨none, none, rfl, .refl _, Nat.zero_le _⟩ ?_ ?_⟩
    · rintro i x σ H2 T0 hx ⟨v1, v2, rfl, s2, hi⟩ hT
      refine ⟨T0, _, rfl, SqT.of upd_same, rfl, _, _, rfl, _, _, rfl, rfl, ?_⟩
      have s3 : Same H (upd H2 T0 (.tup [.int (i : Int), .str (tx [x])])) := s2.new hT
      generalize upd H2 T0 (.tup [.int (i : Int), .str (tx [x])]) = H3 at s3 ⊢
      refine ⟨_, rfl, _, _, rfl, rfl, ?_⟩
      rw [← tx_one, in_signs]
      refine ⟨_, rfl, ?_⟩
      by_cases e : i = a.length
      · subst e
        rw [List.getElem?_append_right (Nat.le_refl _), Nat.sub_self] at hx
        injection hx with hx
        subst hx
        refine iteDp (by rcases hc with rfl | rfl <;> decide) ?_
        exact ⟨_, rfl, k _ s3⟩
      · have hi2 : i < a.length := by omega
        rw [List.getElem?_append_left hi2] at hx
        have := ha x (List.mem_of_getElem? hx)
        refine iteDn (fun z => this ?_) ⟨_, _, rfl, s3, hi2⟩
        simpa using z
    · rintro σ H2 ⟨v1, v2, rfl, s2, hi⟩
      rw [List.length_append, List.length_cons] at hi
      omega
theorem rd_cloth (T : Txt K mg t) {H : Hp} {p : Addr} {x : List (List Nat)} {z : List Nat} {Q : VK} {E : XK} (hp : Pc t H p x z) (k : ∀ l, H l = none → Q (.ref l) (upd H l (.lst (vS x)))) : ∃ a dx fs C, (V.ref p) = .ref a ∧ H a = some (.ins C dx fs) ∧ fs.lookup ("cloth" : Str) = none ∧ Cls K C ∧ Meth K C "cloth" t.f_Piece_cloth ∧ sp_cloth t [.ref p] H Q E := by
  obtain ⟨D, dx, l, hC, h1, h2⟩ := id hp
  exact ⟨p, dx, _, D, rfl, h1, (pf_meth _ _).2.2.2.1, (pcC T hC).c, (pcC T hC).cloth, p, x, z, rfl, hp, k⟩
def Lok (kn : Kns) (l : List Nat) (p : List Nat × List (List Nat)) : Prop := ∃ a b, l = a ++ 61 :: b ∧ (∀ x ∈ a, ¬ (x = 61 ∨ x = 58)) ∧ trim a = p.1 ∧ Pat.isName p.1 = true ∧ (∀ q ∈ kn, ¬ q.1 = p.1) ∧ Pat.whole (trim b) = some (.node Pat.rowsW (p.2.map Nd.run)) ∧ mRows p.2 = .ok p.2
inductive Bk : Kns → List (List Nat) → Kns → Prop
  | nil {kn : Kns} : Bk kn [] kn
  | skip {kn kn' : Kns} {l : List Nat} {ls : List (List Nat)} : trim l = [] ∨ (trim l).head? = some 59 → Bk kn ls kn' → Bk kn (l :: ls) kn'
  | line {kn kn' : Kns} {l : List Nat} {ls : List (List Nat)} {p : List Nat × List (List Nat)} : ¬ (trim l).head? = some 59 → Lok kn (trim l) p → Bk (kn ++ [p]) ls kn' → Bk kn (l :: ls) kn'
def sp_rline (t : Adr) : Sp := fun vs H Q _ => ∃ (l : List Nat) (kp : Addr) (kn : Kns) (p : List Nat × List (List Nat)), vs = [.str (tx l), .ref kp] ∧ l.length ≤ 1000000 ∧ Kn H kp kn ∧ kn.length ≤ 1000 ∧ Lok kn l p ∧ ∀ a q H', Same H H' → nw H H' a = some (.tup [.str (tx p.1), .ref q]) → nw H H' q = some (.lst (vS p.2)) → Q (.ref a) H'
theorem okx_read_line (T : Txt K mg t) : FnOk P w K mg base (CX1 P w) 32 t.f_read_line t.d_read_line ["line", "known"] (sp_rline t) := by
  refine T.read_line.F.okX sc_read_line (fun vs H Q E h => ?_) (fun cdv A outer s H vs Q E hr h => ?_)
  · obtain ⟨l, kp, kn, p, rfl, _⟩ := h
    rfl
  · obtain ⟨l, kp, kn, ⟨nm, rs⟩, rfl, hl, hK, hkl, ⟨a, b, rfl, ha, ena, hnm, hno, hw, hr2⟩, k⟩ := h
    refine ⟨_, (pss_cons (ps_set (i := 2) sc_read_line.nd rfl (Or.inl rfl) (pe_call ((okx_parting_place T).mono (by decide)) hr rfl T.parting_place.m T.parting_place.F.kp T.parting_place.b .nil pass1 (pa_cons (pv 0) pa_nil)))
      (pss_cons (ps_set (i := 3) sc_read_line.nd rfl (Or.inr rfl) (pe_bmK (K := K) PySem.F.plainAttrs_str PySem.F.slot_str_strip PySem.F.type_str_strip mt_strip (pe_slice sl_str (pv 0) po_none (po_some (pv 2))) (pa_cons pe_str pa_nil)))
      (pss_cons (ps_if (pt_not (pt_val (pe_call ((ok_is_name T).mono (by decide)) hr rfl T.is_name.m T.is_name.F.kp T.is_name.b .nil pass0 (pa_cons (pv 3) pa_nil))))
        (pss_one (ps_raise body1 rfl (fun _ _ z => z) PySem.F.excBase_ValueError has_ve PySem.F.excBase_ValueError T.x_NoPattern.q rfl T.k_NoPattern (pa_cons pe_str pa_nil)))
        pss_nil)
      (pss_cons (ps_if (pt_val (pe_callB (call_anyB (K := K)) rfl T.b_any bt_any (pa_cons (PE.nox (pe_comp (CompOk.mk (caps := [3]) (Nc := ["pair", "name"]) rfl (by decide +kernel) (by decide +kernel) (comp_fr (sc0 := defScope s_read_line) rfl (by decide +kernel)) rfl rfl rfl (by decide +kernel) (fun k j h => match k, h with | 0, h => by obtain rfl := Option.some.inj h; exact ⟨_, rfl, rfl, rfl⟩ | _ + 1, h => by simp at h)) rfl (pi_listK (K := K) (pv 1)) (fun _ _ _ _ _ => .nil) (fun _ _ _ _ _ => (pe_cmpR op_eq (pe_ix (ix_tupK (K := K)) (pv 0) pe_int (fun _ _ => rfl)) (pv 1) (nomark _))))) pa_nil)))
        (pss_one ps_never)
        pss_nil)
      (pss_cons (ps_set (i := 4) sc_read_line.nd rfl (Or.inl rfl) (pe_bmK (K := K) PySem.F.plainAttrs_str PySem.F.slot_str_strip PySem.F.type_str_strip mt_strip (pe_slice sl_str (pv 0) (po_some (pe_op op_add (pv 2) pe_int)) po_none) (pa_cons pe_str pa_nil)))
      (pss_cons (ps_if (pt_cmpR op_eq (pe_ix ix_str (pv 0) (pv 2) (fun _ _ => rfl)) pe_str (nomark _))
        (pss_one (ps_ret (pe_tup (pa_cons (pv 3) (pa_cons (pe_methA (K := K) rfl (pe_call ((okx_read_pattern T).mono (by decide)) hr rfl T.read_pattern.m T.read_pattern.F.kp T.read_pattern.b .nil pass1 (pa_cons (pv 4) (pa_cons (pv 1) pa_nil))) ((ok_Piece_cloth T).mono (by decide)) hr T.m_Piece_cloth.b pass0) pa_nil)))))
        pss_nil)
      (pss_one ps_never))))))), ?_⟩
    dsimp only at ena hnm hno hw hr2 k
    rw [one_of_bl, one_of_eq]
    have hsz : sizeLine = 16777216 := sizeLine_eq
    have hl2 := hl
    rw [List.length_append, List.length_cons] at hl2
    refine ⟨_, rfl, a, b, 61, rfl, ha, .inl rfl, fun H1 s1 => ?_⟩
    refine at_val rfl rfl ?_
    have ec : cutT (a ++ 61 :: b) none (some (a.length : Int)) = a := by
      unfold cutT
      rw [HT.sIx_none, HT.sIx_nat, Nat.min_eq_left (by simp), Nat.sub_zero, List.drop_zero, List.take_append_of_le_length (Nat.le_refl _), List.take_length]
    refine ⟨_, rfl, _, rfl, _, rfl, _, rfl, big hl, ?_⟩
    rw [ec]
    refine ⟨rfl, _, _, rfl, rfl, (by rw [tx_len]; omega), ?_⟩
    rw [trim_tx, ena]
    refine at_val rfl rfl ?_
    have hnl : nm.length ≤ 1000000 := by have := trim_len a; rw [ena] at this; omega
    refine ⟨_, rfl, nm, rfl, hnl, fun H2 s2 => ⟨_, rfl, ?_⟩⟩
    rw [hnm]
    refine iteF ?_
    have u2 := s1.trans s2
    obtain ⟨as, k1, k2, k3⟩ := hK.same u2
    refine ⟨_, rfl, _, rfl, ⟨_, SqL.of k1⟩, comp_list (K := K) (a := kp) (xs := as.map V.ref) (fun i ys G => G = H2 ∧ ys = vB (List.replicate i false)) ⟨rfl, rfl⟩ ?_ ?_ ?_ ?_⟩
    · rintro i ys G hi ⟨rfl, rfl⟩
      refine ⟨SqL.of k1, ?_⟩
      rw [vB_len, List.length_replicate]
      exact Nat.le_refl _
    · rw [List.length_map, k2]; omega
    · rintro i xv ys G hi hx ⟨rfl, rfl⟩
      rw [List.getElem?_map] at hx
      cases ea : as[i]? with
      | none => rw [ea] at hx; cases hx
      | some q =>
        rw [ea] at hx
        cases hx
        have hi2 : i < kn.length := by rw [← k2]; exact (List.getElem?_eq_some_iff.mp ea).1
        obtain ⟨q2, e1, e2⟩ := k3 i q _ ea (List.getElem?_eq_getElem hi2)
        have := hno kn[i] (List.getElem_mem hi2)
        refine CTurn.no ?_
        refine ⟨_, rfl, _, _, _, _, rfl, rfl, SqT.of e1, atI_of (by decide) rfl, _, rfl, rfl, ?_⟩
        rw [decide_eq_false (tx_ne this)]
        exact CN.of hi ⟨rfl, by rw [vB_app, List.replicate_succ']⟩
    · rintro ys G q ⟨rfl, rfl⟩ hq
      refine ⟨_, _, rfl, SqL.of upd_same, ?_⟩
      rw [show ((List.replicate (as.map V.ref).length false).any id) = false by rw [List.any_eq_false]; intro x hx; rw [List.eq_of_mem_replicate hx]; decide]
      have u3 : Same H (upd G q (.lst (vB (List.replicate (as.map V.ref).length false)))) := u2.new hq
      generalize upd G q (.lst (vB (List.replicate (as.map V.ref).length false))) = H3 at u3 ⊢
      refine ⟨_, rfl, iteF ?_⟩
      have ed : cutT (a ++ 61 :: b) (some ((a.length : Int) + 1)) none = b := by
        rw [show ((a.length : Int) + 1) = ((a.length + 1 : Nat) : Int) by omega, cut_tail9 (by simp), List.drop_append]
        simp
      refine ⟨_, rfl, _, rfl, _, _, rfl, rfl, _, rfl, _, rfl, big hl, ?_⟩
      rw [ed]
      refine ⟨rfl, _, _, rfl, rfl, (by rw [tx_len]; omega), ?_⟩
      rw [trim_tx]
      refine at_val rfl rfl ?_
      refine ⟨_, rfl, _, rfl, _, _, 61, rfl, rfl, (by rw [tx_len]; exact big hl), atI_of (by omega) (by rw [tx_list, Int.toNat_natCast, List.getElem?_append_right (Nat.le_refl _), Nat.sub_self]; rfl), rfl, _, rfl, ?_⟩
      refine iteDp rfl ?_
      have tb := trim_len b
      refine ⟨_, rfl, _, rfl, _, rfl, trim b, kp, rs, rfl, (by omega), hw, ?_⟩
      rw [hr2]
      intro pc H4 s4 hp
      have hp' := hp.mono (fun b o e => (nw_of e).2)
      refine rd_cloth T hp' fun l9 hl9 => ?_
      have u4 := u3.trans s4
      have u5 : Same H (upd H4 l9 (.lst (vS rs))) := u4.new hl9
      have h5 : (upd H4 l9 (.lst (vS rs))) l9 = some (.lst (vS rs)) := upd_same
      have n9 : H l9 = none := u4.free hl9
      generalize upd H4 l9 (.lst (vS rs)) = H5 at u5 h5 ⊢
      refine ⟨(by show 2 ≤ sizeLine; decide), fun q9 hq9 => ?_⟩
      have u6 : Same H (upd H5 q9 (.tup [.str (tx nm), .ref l9])) := u5.new hq9
      refine k q9 l9 _ u6 ?_ ?_
      · rw [nw_eq (u5.free hq9)]; exact upd_same
      · rw [nw_eq n9, upd_ne (ne_of_none h5 hq9)]; exact h5
def sp_rbook (t : Adr) : Sp := fun vs H Q _ => ∃ (u : List Nat) (bs : List (List Nat)) (kn : Kns), vs = [.str (tx u)] ∧ u.length ≤ 1000000 ∧ bs ≠ [] ∧ jn 10 bs = u ∧ (∀ b ∈ bs, 10 ∉ b) ∧ bs.length ≤ 900 ∧ Bk [] bs kn ∧ ∀ q H', Same H H' → Kn (nw H H') q kn → Q (.ref q) H'
theorem bk_cons {kn kn' : Kns} {l : List Nat} {ls : List (List Nat)} (h : Bk kn (l :: ls) kn') : ((trim l = [] ∨ (trim l).head? = some 59) ∧ Bk kn ls kn') ∨ ∃ p, ¬ (trim l).head? = some 59 ∧ Lok kn (trim l) p ∧ Bk (kn ++ [p]) ls kn' := by
  cases h with
  | skip h1 h2 => exact .inl ⟨h1, h2⟩
  | line h1 h2 h3 => exact .inr ⟨_, h1, h2, h3⟩
theorem jn_le {c : Nat} {w : List Nat} : ∀ {ws : List (List Nat)}, w ∈ ws → w.length ≤ (jn c ws).length
  | [], h => by simp at h
  | [v], h => by rw [List.mem_singleton.mp h]; exact Nat.le_refl _
  | v :: x :: r, h => by
    show _ ≤ (v ++ c :: jn c (x :: r)).length
    rw [List.length_append, List.length_cons]
    rcases List.mem_cons.mp h with rfl | h
    · omega
    · have := jn_le (c := c) h
      omega
theorem okx_read_book (T : Txt K mg t) : FnOk P w K mg base (CX1 P w) 33 t.f_read_book t.d_read_book ["text"] (sp_rbook t) := by
  refine T.read_book.F.okX sc_read_book (fun vs H Q E h => ?_) (fun cdv A outer s H vs Q E hr h => ?_)
  · obtain ⟨u, bs, kn, rfl, _⟩ := h
    rfl
  · obtain ⟨u, bs, kn, rfl, hu, hne, hj, hno, hbl, hB, k⟩ := h
    refine ⟨_, (pss_cons (ps_set (i := 1) sc_read_book.nd rfl (Or.inl rfl) (pe_lst pa_nil))
      (pss_cons (ps_fr fun hfr => (ps_for (ownX body1 hfr) rfl (pi_listK (K := K) (pe_bmK (K := K) PySem.F.plainAttrs_str PySem.F.slot_str_split PySem.F.type_str_split mt_split (pv 0) (pa_cons pe_str pa_nil))) (pg_name (i := 2) sc_read_book.nd rfl (Or.inl rfl))
        (pss_cons (ps_set (i := 3) sc_read_book.nd rfl (Or.inl rfl) (pe_bmK (K := K) PySem.F.plainAttrs_str PySem.F.slot_str_strip PySem.F.type_str_strip mt_strip (pv 2) (pa_cons pe_str pa_nil)))
        (pss_one (ps_if (PW.pt (pw_and (pt_cmpR op_ne (pv 3) pe_str (nomark _)) (pw_and1 (pt_not (pt_val (pe_bmK (K := K) PySem.F.plainAttrs_str PySem.F.slot_str_startswith PySem.F.type_str_startswith mt_starts (pv 3) (pa_cons pe_str pa_nil)))))))
          (pss_one (ps_expr (pe_bmK (K := K) PySem.F.plainAttrs_list PySem.F.slot_list_append PySem.F.type_list_append mt_append (pv 1) (pa_cons (pe_call ((okx_read_line T).mono (by decide)) hr rfl T.read_line.m T.read_line.F.kp T.read_line.b .nil pass1 (pa_cons (pv 3) (pa_cons (pv 1) pa_nil))) pa_nil))))
          pss_nil)))))
      (pss_one (ps_ret (pv 1))))), ?_⟩
    rw [one_of_nl, one_of_bl, one_of_sc, one_of_no]
    have hsz : sizeLine = 16777216 := sizeLine_eq
    refine ⟨(by show 0 ≤ sizeLine; decide), fun q hq => ?_⟩
    have s1 : Same H (upd H q (.lst [])) := .upd hq
    have h1 : (upd H q (.lst [])) q = some (.lst []) := upd_same
    generalize upd H q (.lst []) = H1 at s1 h1 ⊢
    refine at_val rfl rfl ?_
    refine ⟨_, rfl, rfl, u, 10, bs, rfl, rfl, (by decide), (by omega), hne, hj, hno, fun l hl => ?_⟩
    have s2 : Same H1 (upd H1 l (.lst (vS bs))) := .upd hl
    have h2 : (upd H1 l (.lst (vS bs))) l = some (.lst (vS bs)) := upd_same
    have nql : q ≠ l := ne_of_none h1 hl
    have hlH : H l = none := s1.free hl
    generalize upd H1 l (.lst (vS bs)) = H2 at s2 h2 ⊢
    refine ⟨_, rfl, ⟨_, SqL.of h2⟩, for_list (K := K) (a := l) (xs := vS bs) (fun i σ G => ∃ (v2 v3 : Option V) (kq : Kns), σ = [some (.str (tx u)), some (.ref q), v2, v3] ∧ Same H G ∧ G l = some (.lst (vS bs)) ∧ Kn (nw H G) q kq ∧ kq.length ≤ i ∧ Bk kq (bs.drop i) kn) ⟨none, none, [], rfl, s1.trans s2, h2, ⟨[], by rw [nw_eq hq]; exact s2 _ _ h1, rfl, fun i a p g => by simp at g⟩, Nat.zero_le _, hB⟩ (fun i σ G _ ⟨_, _, _, _, _, h, _⟩ => SqL.of h) ?_ ?_⟩
    · rintro i xv σ G hx ⟨v2, v3, kq, rfl, sG, hG, hK, hkl, hB⟩
      obtain ⟨b, hb, rfl⟩ := vS_got hx
      have hi := (List.getElem?_eq_some_iff.mp hb).1
      have ed : bs.drop i = b :: bs.drop (i + 1) := by
        rw [List.drop_eq_getElem_cons hi]
        have := List.getElem?_eq_getElem hi
        rw [hb] at this
        injection this with this
        rw [← this]
      rw [ed] at hB
      have bl := jn_le (c := 10) (List.mem_of_getElem? hb)
      rw [hj] at bl
      have tl := trim_len b
      refine at_val rfl rfl ?_
      refine ⟨_, rfl, rfl, _, _, rfl, rfl, (by rw [tx_len]; omega), ?_⟩
      rw [trim_tx]
      refine at_val rfl rfl ?_
      refine ⟨_, rfl, rfl, _, rfl, ?_⟩
      rcases bk_cons hB with ⟨sk, hB⟩ | ⟨p, h59, hL, hB⟩
      · by_cases c1 : trim b = []
        · rw [c1]
          refine iteNS rfl ?_
          exact iteF ⟨_, _, kq, rfl, sG, hG, hK, by omega, hB⟩
        · refine iteNN9 (tx_ne c1) ?_
          have c2 := sk.resolve_left c1
          refine ⟨_, rfl, rfl, _, _, rfl, rfl, ?_⟩
          rw [starts_tx]
          refine ⟨_, rfl, ?_⟩
          rw [decide_eq_true c2]
          exact iteF ⟨_, _, kq, rfl, sG, hG, hK, by omega, hB⟩
      · have c1 : ¬ trim b = [] := fun z => by
          obtain ⟨a, b', e, _⟩ := hL
          rw [z] at e
          simp at e
        refine iteNN9 (tx_ne c1) ?_
        refine ⟨_, rfl, rfl, _, _, rfl, rfl, ?_⟩
        rw [starts_tx]
        refine ⟨_, rfl, ?_⟩
        rw [decide_eq_false h59]
        refine iteT ?_
        have hK2 : Kn G q kq := hK.same (fun b o e => (nw_of e).2)
        have hqG : ∃ zs, G q = some (.lst zs) := by obtain ⟨as, g, _⟩ := hK2; exact ⟨_, g⟩
        refine ⟨_, rfl, hqG.elim fun zs hz => .inl ⟨rfl, _, SqL.of hz⟩, _, rfl, _, rfl, trim b, q, kq, p, rfl, (by omega), hK2, (by omega), hL, fun a9 q9 G' s' n1 n2 => ?_⟩
        obtain ⟨as, g1, g2, g3⟩ := hK
        have g1' := nw_of g1
        have sG' := sG.trans s'
        have hq' : G' q = some (.lst (as.map V.ref)) := s' _ _ g1'.2
        refine ⟨q, _, _, rfl, rfl, hq', (by rw [List.length_map, g2]; omega), ?_⟩
        have n1' := nw_of n1
        have n2' := nw_of n2
        have hqa : a9 ≠ q := fun z => by rw [z, g1'.2] at n1'; cases n1'.1
        have hqq : q9 ≠ q := fun z => by rw [z, g1'.2] at n2'; cases n2'.1
        have sF : Same H (upd G' q (.lst (as.map V.ref ++ [.ref a9]))) := fun b o e => by
          rw [upd_ne (ne_of_none e hq)]; exact sG' b o e
        have lq : l ≠ q := fun z => nql z.symm
        refine ⟨_, _, kq ++ [p], rfl, sF, by rw [upd_ne lq]; exact s' _ _ hG, ⟨as ++ [a9], by rw [nw_eq hq, upd_same, List.map_append]; rfl, by rw [List.length_append, List.length_append, g2]; rfl, fun j a p' e1 e2 => ?_⟩, by rw [List.length_append, List.length_singleton]; omega, hB⟩
        by_cases cj : j < as.length
        · rw [List.getElem?_append_left cj] at e1
          rw [List.getElem?_append_left (by rw [← g2]; exact cj)] at e2
          obtain ⟨q8, f1, f2⟩ := g3 j a p' e1 e2
          have f1' := nw_of f1
          have f2' := nw_of f2
          have aq : a ≠ q := fun z => by rw [z, g1'.2] at f1'; cases f1'.2
          refine ⟨q8, by rw [nw_eq f1'.1, upd_ne aq]; exact s' _ _ f1'.2, ?_⟩
          rw [nw_eq f2'.1, upd_ne]
          · exact s' _ _ f2'.2
          · intro z
            have e := f2'.2
            rw [z, g1'.2] at e
            injection e with e
            injection e with e
            have h0 : (as.map V.ref)[j]? = some (.ref a) := by rw [List.getElem?_map, e1]; rfl
            rw [e] at h0
            unfold vS at h0
            rw [List.getElem?_map] at h0
            cases h : p'.2[j]? with
            | none => rw [h] at h0; cases h0
            | some x => rw [h] at h0; cases h0
        · rw [List.getElem?_append_right (by omega)] at e1
          rw [List.getElem?_append_right (by rw [← g2]; omega), ← g2] at e2
          have j0 : j - as.length = 0 := by
            have := (List.getElem?_eq_some_iff.mp e1).1
            rw [List.length_singleton] at this
            omega
          rw [j0] at e1 e2
          cases e1
          cases e2
          exact ⟨q9, by rw [nw_eq (sG.free n1'.1), upd_ne hqa]; exact n1'.2, by rw [nw_eq (sG.free n2'.1), upd_ne hqq]; exact n2'.2⟩
    · rintro σ G ⟨v2, v3, kq, rfl, sG, hG, hK, hkl, hB⟩
      rw [vS_len, List.drop_length] at hB
      cases hB
      exact ⟨_, rfl, k q G sG hK⟩
def preO (ths : List (List Nat)) : Option (List Nat × Int × Int × Nat × Nat) := match ths with
  | [nm, a, b, c, d] => if Pat.isName nm = true then match far? a, far? b, num? c, num? d with
    | some l, some f, some w, some h => some (nm, l, f, w, h)
    | _, _, _, _ => none
    else none
  | _ => none
theorem preO_5 {nm a b c d : List Nat} : preO [nm, a, b, c, d] = if Pat.isName nm = true then match far? a, far? b, num? c, num? d with
    | some l, some f, some w, some h => some (nm, l, f, w, h)
    | _, _, _, _ => none
    else none := rfl
def ovR (kn : Kns) (ths : List (List Nat)) : Rf ⊕ Int := match preO ths with
  | some (nm, l, f, w, h) => match known kn nm with
    | .ok x => .inr (overs x (wdt x) x.length l f w h)
    | .no r => .inl r
  | none => .inl .nop
def sp_dov (K : PySem.W.Frag) (t : Adr) : Sp := fun vs H Q E => ∃ (tp kp : Addr) (ths : List (List Nat)) (kn : Kns), vs = [.ref tp, .ref kp] ∧ SqL K H tp (vS ths) ∧ (∀ u ∈ ths, u.length ≤ 1000000) ∧ Kn H kp kn ∧ (∀ p ∈ kn, Clo p.2) ∧
  (∀ n q H', ovR kn ths = .inr n → Same H H' → H' q = some (.tup [.str "overs", .int n]) → Q (.ref q) H') ∧ (∀ f H', ovR kn ths = .inl f → Same H H' → E (.ref (rfa t f)) none H')
theorem known_no {kn : Kns} {z : List Nat} {r : Rf} (h : known kn z = .no r) : r = .unk := by
  unfold known at h
  split at h
  · cases h
  · injection h with h; exact h.symm
theorem okx_overs (T : Txt K mg t) : FnOk P w K mg base (CX1 P w) 5 t.f_overs t.d_overs ["things", "book"] (sp_dov K t) := by
  refine T.overs.F.okX sc_overs (fun vs H Q E h => ?_) (fun cdv A outer s H vs Q E hr h => ?_)
  · obtain ⟨tp, kp, ths, kn, rfl, _⟩ := h
    rfl
  · obtain ⟨tp, kp, ths, kn, rfl, hS, hle, hK, hC, k1, k2⟩ := h
    refine ⟨_, (pss_cons (ps_expr (pe_call ((okx_check_count_desk T).mono (by decide)) hr rfl T.check_count_desk.m T.check_count_desk.F.kp T.check_count_desk.b .nil pass1 (pa_cons (pe_cmpR op_eq (pe_callB (call_len_seqK (K := K)) rfl T.b_len bt_len (pa_cons (pv 0) pa_nil)) pe_int (nomark _)) pa_nil)))
      (pss_cons (ps_expr (pe_call ((okx_check_name T).mono (by decide)) hr rfl T.check_name.m T.check_name.F.kp T.check_name.b .nil pass1 (pa_cons (pe_ix (ix_listK (K := K)) (pv 0) pe_int (fun _ _ => rfl)) pa_nil)))
      (pss_cons (ps_set (i := 2) sc_overs.nd rfl (Or.inl rfl) (pe_call ((okx_far_number T).mono (by decide)) hr rfl T.far_number.m T.far_number.F.kp T.far_number.b .nil pass1 (pa_cons (pe_ix (ix_listK (K := K)) (pv 0) pe_int (fun _ _ => rfl)) pa_nil)))
      (pss_cons (ps_set (i := 3) sc_overs.nd rfl (Or.inl rfl) (pe_call ((okx_far_number T).mono (by decide)) hr rfl T.far_number.m T.far_number.F.kp T.far_number.b .nil pass1 (pa_cons (pe_ix (ix_listK (K := K)) (pv 0) pe_int (fun _ _ => rfl)) pa_nil)))
      (pss_cons (ps_set (i := 4) sc_overs.nd rfl (Or.inl rfl) (pe_call ((okx_whole_number T).mono (by decide)) hr rfl T.whole_number.m T.whole_number.F.kp T.whole_number.b .nil pass1 (pa_cons (pe_ix (ix_listK (K := K)) (pv 0) pe_int (fun _ _ => rfl)) pa_nil)))
      (pss_cons (ps_set (i := 5) sc_overs.nd rfl (Or.inl rfl) (pe_call ((okx_whole_number T).mono (by decide)) hr rfl T.whole_number.m T.whole_number.F.kp T.whole_number.b .nil pass1 (pa_cons (pe_ix (ix_listK (K := K)) (pv 0) pe_int (fun _ _ => rfl)) pa_nil)))
      (pss_one (ps_ret (pe_tup (pa_cons pe_str (pa_cons (pe_call ((ok_overs_within T).mono (by decide)) hr rfl T.overs_within.m T.overs_within.F.kp T.overs_within.b .nil pass0 (pa_cons (pe_call ((okx_known_cloth T).mono (by decide)) hr rfl T.known_cloth.m T.known_cloth.F.kp T.known_cloth.b .nil pass1 (pa_cons (pe_ix (ix_listK (K := K)) (pv 0) pe_int (fun _ _ => rfl)) (pa_cons (pv 1) pa_nil))) (pa_cons (pv 2) (pa_cons (pv 3) (pa_cons (pv 4) (pa_cons (pv 5) pa_nil)))))) pa_nil))))))))))), ?_⟩
    refine ⟨_, rfl, _, _, rfl, .inl hS, rfl, _, rfl, fun c5 => ?_, fun c5 => ?_⟩
    · have hl : ths.length = 5 := by
        have := of_decide_eq_true c5
        injection this with this
        rw [vS_len] at this
        omega
      rcases ths with _ | ⟨nm, _ | ⟨a, _ | ⟨b, _ | ⟨c, _ | ⟨d, _ | ⟨e, r⟩⟩⟩⟩⟩⟩ <;> simp at hl
      have bad : preO [nm, a, b, c, d] = none → ∀ H', Same H H' → E (.ref t.e_NoPattern) none H' := fun e H' s' => k2 .nop H' (by unfold ovR; rw [e]) s'
      have g : ∀ {H'}, Same H H' → SqL K H' tp (vS [nm, a, b, c, d]) := fun s' => s'.seq hS
      refine ⟨_, rfl, _, _, _, _, rfl, rfl, hS, atI_of (by decide) rfl, nm, rfl, hle _ (by simp), fun H1 e1 s1 => ?_, fun H1 e1 s1 => bad (by rw [preO_5, if_neg (by rw [e1]; decide)]) _ s1⟩
      refine ⟨_, rfl, _, _, _, _, rfl, rfl, g s1, atI_of (by decide) rfl, a, rfl, hle _ (by simp), fun fl H2 e2 s2 => ?_, fun H2 e2 s2 => bad (by rw [preO_5, if_pos e1, e2]) _ (s1.trans s2)⟩
      refine at_val rfl rfl ?_
      have u2 := s1.trans s2
      refine ⟨_, rfl, _, _, _, _, rfl, rfl, g u2, atI_of (by decide) rfl, b, rfl, hle _ (by simp), fun ff H3 e3 s3 => ?_, fun H3 e3 s3 => bad (by rw [preO_5, if_pos e1, e2, e3]) _ (u2.trans s3)⟩
      refine at_val rfl rfl ?_
      have u3 := u2.trans s3
      refine ⟨_, rfl, _, _, _, _, rfl, rfl, g u3, atI_of (by decide) rfl, c, rfl, hle _ (by simp), fun fw H4 e4 s4 => ?_, fun H4 e4 s4 => bad (by rw [preO_5, if_pos e1, e2, e3, e4]) _ (u3.trans s4)⟩
      refine at_val rfl rfl ?_
      have u4 := u3.trans s4
      refine ⟨_, rfl, _, _, _, _, rfl, rfl, g u4, atI_of (by decide) rfl, d, rfl, hle _ (by simp), fun fh H5 e5 s5 => ?_, fun H5 e5 s5 => bad (by rw [preO_5, if_pos e1, e2, e3, e4, e5]) _ (u4.trans s5)⟩
      refine at_val rfl rfl ?_
      have u5 := u4.trans s5
      have ep : preO [nm, a, b, c, d] = some (nm, fl, ff, fw, fh) := by rw [preO_5, if_pos e1, e2, e3, e4, e5]
      refine ⟨_, rfl, _, _, _, _, rfl, rfl, g u5, atI_of (by decide) rfl, _, rfl, nm, kp, kn, rfl, hK.same u5, fun x q ek hq => ?_, fun ek => ?_⟩
      · have C := known_clo hC ek
        have w1 := num_lt60 e4
        have w2 := num_lt60 e5
        refine ⟨_, rfl, _, rfl, _, rfl, _, rfl, q, x, wdt x, x.length, fl, ff, fw, fh, rfl, SqL.of hq, C, (by omega), (by omega), (by omega), (by omega), fun H6 s6 => ?_⟩
        refine ⟨(by show 2 ≤ sizeLine; decide), fun q9 hq9 => ?_⟩
        exact k1 _ q9 _ (by unfold ovR; rw [ep]; show (match known kn nm with | .ok x => _ | .no r => _) = _; rw [ek]) ((u5.trans s6).new hq9) upd_same
      · exact k2 .unk _ (by unfold ovR; rw [ep]; show (match known kn nm with | .ok x => _ | .no r => _) = _; rw [ek]) u5
    · refine k2 .nop _ ?_ (.refl _)
      have hl : ¬ ths.length = 5 := fun z => by
        rw [vS_len, z] at c5
        exact absurd c5 (by decide)
      have : preO ths = none := by
        unfold preO
        split
        · simp at hl
        · rfl
      unfold ovR
      rw [this]
def ovW : List Nat := [111, 118, 101, 114, 115]
theorem ov_word : (Str.ofString "overs") = tx ovW := by decide +kernel
def askd : List (List Nat) := [[99, 108, 111, 116, 104], [108, 97, 121, 101, 114, 115], [100, 114, 97, 102, 116], [115, 104, 105, 102, 116, 115], [102, 108, 111, 97, 116, 115]]
theorem askd_tx : (["cloth", "layers", "draft", "shifts", "floats"] : List Str) = askd.map tx := by decide +kernel
def sp_dan (K : PySem.W.Frag) (t : Adr) : Sp := fun vs H Q E => ∃ (wp kp : Addr) (ths : List (List Nat)) (kn : Kns), vs = [.ref wp, .ref kp] ∧ SqL K H wp (vS (ovW :: ths)) ∧ ths.length ≤ 1000000 ∧ (∀ u ∈ ths, u.length ≤ 1000000) ∧ Kn H kp kn ∧ (∀ p ∈ kn, Clo p.2) ∧
  (∀ n q H', ovR kn ths = .inr n → Same H H' → H' q = some (.tup [.str "overs", .int n]) → Q (.ref q) H') ∧ (∀ f H', ovR kn ths = .inl f → Same H H' → E (.ref (rfa t f)) none H')
theorem okx_answered (T : Txt K mg t) : FnOk P w K mg base (CX1 P w) 6 t.f_answered t.d_answered ["words", "book"] (sp_dan K t) := by
  refine T.answered.F.okX sc_answered (fun vs H Q E h => ?_) (fun cdv A outer s H vs Q E hr h => ?_)
  · obtain ⟨wp, kp, ths, kn, rfl, _⟩ := h
    rfl
  · obtain ⟨wp, kp, ths, kn, rfl, hS, hl, hle, hK, hC, k1, k2⟩ := h
    refine ⟨_, (pss_cons (ps_set (i := 2) sc_answered.nd rfl (Or.inl rfl) (pe_ifExp (pt_truthK (K := K) (pv 0) (fun _ => rfl)) (pe_ix (ix_listK (K := K)) (pv 0) pe_int (fun _ _ => rfl)) pe_str))
      (pss_cons (ps_if (pt_cmpR (op_in_seqK (K := K)) (pv 2) (pe_glob (v := .ref t.q_ASKED_OF_A_NAME) rfl T.g_ASKED_OF_A_NAME rfl) rfl)
        (pss_one ps_never)
        pss_nil)
      (pss_cons (ps_if (pt_cmpR op_eq (pv 2) pe_str (nomark _))
        (pss_one (ps_ret (pe_call ((okx_overs T).mono (by decide)) hr rfl T.overs.m T.overs.F.kp T.overs.b .nil pass1 (pa_cons (pe_slice (sl_listK (K := K)) (pv 0) (po_some pe_int) po_none) (pa_cons (pv 1) pa_nil)))))
        pss_nil)
      (pss_cons (ps_if (pt_cmpR op_eq (pv 2) pe_str (nomark _))
        (pss_one ps_never)
        pss_nil)
      (pss_cons (ps_if (pt_cmpR op_eq (pv 2) pe_str (nomark _))
        (pss_one ps_never)
        pss_nil)
      (pss_cons (ps_if (pt_cmpR op_eq (pv 2) pe_str (nomark _))
        (pss_one ps_never)
        pss_nil)
      (pss_one (ps_raise body1 rfl (fun _ _ z => z) PySem.F.excBase_ValueError has_ve PySem.F.excBase_ValueError T.x_NoPattern.q rfl T.k_NoPattern (pa_cons pe_str pa_nil))))))))), ?_⟩
    have hsz : sizeLine = 16777216 := sizeLine_eq
    refine ⟨_, rfl, true, .inl ⟨_, hS, rfl⟩, ?_⟩
    refine iteT ?_
    refine ⟨_, rfl, _, _, _, _, rfl, rfl, hS, atI_of (by decide) rfl, ?_⟩
    refine at_val rfl rfl ?_
    refine ⟨_, rfl, _, _, rfl, .inr (T.d_ASKED_OF_A_NAME H), rfl, (by decide), _, rfl, ?_⟩
    rw [askd_tx, in_words]
    refine iteDn (c := ovW ∈ askd) (by decide) ?_
    refine ⟨_, rfl, rfl, _, rfl, ?_⟩
    rw [ov_word]
    refine iteDp rfl ?_
    refine ⟨_, rfl, _, rfl, _, _, rfl, hS, fun l hl9 => ?_⟩
    have ec : cutV (vS (ovW :: ths)) (some 1) none = vS ths := by
      unfold cutV
      rw [show (1 : Int) = ((1 : Nat) : Int) from rfl, HT.sIx_nat, HT.sIx_none, vS_len, List.length_cons, Nat.min_eq_left (by omega)]
      unfold vS
      rw [List.map_cons]
      show List.take _ (ths.map _) = _
      exact List.take_of_length_le (by rw [List.length_map]; omega)
    rw [ec]
    have s1 : Same H (upd H l (.lst (vS ths))) := .upd hl9
    exact ⟨_, rfl, l, kp, ths, kn, rfl, SqL.of upd_same, hle, hK.same s1, hC, fun n q H' e s' hq => k1 n q H' e (s1.trans s') hq, fun f H' e s' => k2 f H' e (s1.trans s')⟩
def ansV (kn : Kns) (ths : List (List Nat)) : List V := match ovR kn ths with
  | .inr n => [.str "overs", .int n]
  | .inl .unk => [.str "refused", .str "Unknown"]
  | .inl _ => [.str "refused", .str "NoPattern"]
theorem ovR_big {kn : Kns} {ths : List (List Nat)} : ovR kn ths ≠ .inl .big := by
  unfold ovR
  split
  · split
    · simp
    · rename_i e
      rw [known_no e]
      simp
  · simp
def sp_dat (K : PySem.W.Frag) (t : Adr) : Sp := fun vs H Q _ => ∃ (wp kp : Addr) (ths : List (List Nat)) (kn : Kns), vs = [.ref wp, .ref kp] ∧ SqL K H wp (vS (ovW :: ths)) ∧ ths.length ≤ 1000000 ∧ (∀ u ∈ ths, u.length ≤ 1000000) ∧ Kn H kp kn ∧ (∀ p ∈ kn, Clo p.2) ∧
  ∀ q H', Same H H' → H' q = some (.tup (ansV kn ths)) → Q (.ref q) H'
theorem ok_answer_to (T : Txt K mg t) : FnOk P w K mg base CX0 7 t.f_answer_to t.d_answer_to ["words", "book"] (sp_dat K t) := by
  refine T.answer_to.F.ok sc_answer_to (fun vs H Q E h => ?_) (fun cdv A outer s H vs Q E hr h => ?_)
  · obtain ⟨wp, kp, ths, kn, rfl, _⟩ := h
    rfl
  · obtain ⟨wp, kp, ths, kn, rfl, hS, hl, hle, hK, hC, k⟩ := h
    unfold ansV at k
    cases eo : ovR kn ths with
    | inr n =>
      rw [eo] at k
      refine ⟨_, (pss_one (ps_try (j := 2) ⟨rfl, rfl, rfl⟩ rfl (psxs_one (psx_ret (pex_call ((okx_answered T).mono (by decide)) hr rfl T.answered.m T.answered.F.kp T.answered.b .nil (pa_cons (pv 0) (pa_cons (pv 1) pa_nil))))) sc_answer_to.nd rfl rfl rfl T.k_WeaveError T.x_WeaveError.q has_base (fun _ => (pss_one (ps_ret (pe_tup (pa_cons pe_str (pa_cons (pe_methEH (pv 2) T.x_NoPattern.c T.m_NoPattern.m (okH_NoPattern_called T) hr.hd9 T.m_NoPattern.b) pa_nil)))))))), ?_⟩
      refine ⟨_, rfl, _, rfl, wp, kp, ths, kn, rfl, hS, hl, hle, hK, hC, fun m q H' e s' hq => ?_, fun f H' e s' => ?_⟩
      · rw [eo] at e
        injection e with e
        rw [← e] at hq
        exact k q H' s' hq
      · rw [eo] at e
        cases e
    | inl f =>
      rw [eo] at k
      cases f with
      | big => exact absurd eo ovR_big
      | nop =>
        refine ⟨_, (pss_one (ps_try (j := 2) ⟨rfl, rfl, rfl⟩ rfl (psxs_one (psx_ret (pex_call ((okx_answered T).mono (by decide)) hr rfl T.answered.m T.answered.F.kp T.answered.b .nil (pa_cons (pv 0) (pa_cons (pv 1) pa_nil))))) sc_answer_to.nd rfl rfl rfl T.k_WeaveError T.x_WeaveError.q has_base (fun _ => (pss_one (ps_ret (pe_tup (pa_cons pe_str (pa_cons (pe_methEH (pv 2) T.x_NoPattern.c T.m_NoPattern.m (okH_NoPattern_called T) hr.hd9 T.m_NoPattern.b) pa_nil)))))))), ?_⟩
        refine ⟨_, rfl, _, rfl, wp, kp, ths, kn, rfl, hS, hl, hle, hK, hC, fun m q H' e s' hq => ?_, fun f H' e s' => ?_⟩
        · rw [eo] at e
          cases e
        · rw [eo] at e
          cases e
          refine ⟨_, rfl, T.x_NoPattern.sub T.r_NoPattern_WeaveError, fun ea hea => ?_⟩
          refine ⟨_, rfl, ea, rfl, upd_same, _, rfl, ?_⟩
          refine ⟨(by show 2 ≤ sizeLine; decide), fun q9 hq9 => ?_⟩
          exact k q9 _ ((s'.new hea).new hq9) upd_same
      | unk =>
        refine ⟨_, (pss_one (ps_try (j := 2) ⟨rfl, rfl, rfl⟩ rfl (psxs_one (psx_ret (pex_call ((okx_answered T).mono (by decide)) hr rfl T.answered.m T.answered.F.kp T.answered.b .nil (pa_cons (pv 0) (pa_cons (pv 1) pa_nil))))) sc_answer_to.nd rfl rfl rfl T.k_WeaveError T.x_WeaveError.q has_base (fun _ => (pss_one (ps_ret (pe_tup (pa_cons pe_str (pa_cons (pe_methEH (pv 2) T.x_Unknown.c T.m_Unknown.m (okH_Unknown_called T) hr.hd9 T.m_Unknown.b) pa_nil)))))))), ?_⟩
        refine ⟨_, rfl, _, rfl, wp, kp, ths, kn, rfl, hS, hl, hle, hK, hC, fun m q H' e s' hq => ?_, fun f H' e s' => ?_⟩
        · rw [eo] at e
          cases e
        · rw [eo] at e
          cases e
          refine ⟨_, rfl, T.x_Unknown.sub T.r_Unknown_WeaveError, fun ea hea => ?_⟩
          refine ⟨_, rfl, ea, rfl, upd_same, _, rfl, ?_⟩
          refine ⟨(by show 2 ≤ sizeLine; decide), fun q9 hq9 => ?_⟩
          exact k q9 _ ((s'.new hea).new hq9) upd_same
def isQ (l : List Nat) : Bool := decide (l.head? = some 63)
def Qok (l : List Nat) (ths : List (List Nat)) : Prop := wrds l.tail = ovW :: ths
def sp_dall (t : Adr) : Sp := fun vs H Q _ => ∃ (u : List Nat) (ls : List (List Nat)) (kn : Kns) (qs : List (List (List Nat))), vs = [.str (tx u)] ∧ u.length ≤ 100000 ∧ ls ≠ [] ∧ jn 10 ls = u ∧ (∀ l ∈ ls, 10 ∉ l) ∧ ls.length ≤ 900 ∧
  Bk [] ((ls.map trim).filter fun l => !isQ l) kn ∧ ((ls.map trim).filter fun l => !isQ l) ≠ [] ∧ (∀ p ∈ kn, Clo p.2) ∧ ((ls.map trim).filter isQ).length = qs.length ∧ (∀ (i : Nat) l ths, ((ls.map trim).filter isQ)[i]? = some l → qs[i]? = some ths → Qok l ths) ∧
  ∀ q (as : List Addr) H', Same H H' → H' q = some (.lst (as.map V.ref)) → as.length = qs.length → (∀ (i : Nat) a ths, as[i]? = some a → qs[i]? = some ths → H' a = some (.tup (ansV kn ths))) → Q (.ref q) H'
theorem join_jn (c : Nat) : ∀ us : List (List Nat), Txt.join (tx [c]) (us.map tx) = tx (jn c us)
  | [] => by simp [Txt.join, Builtin.Str.glued, tx, Str.empty, jn]
  | u :: us => by
    have key : ∀ (us : List (List Nat)) (u : List Nat), u ++ (us.map fun y => [c] ++ y).flatten = jn c (u :: us) := fun us => by
      induction us with
      | nil => intro u; simp [jn]
      | cons v r ih =>
        intro u
        rw [List.map_cons, List.flatten_cons, List.append_assoc, ih v]
        rfl
    rw [tx_joinS, key]
theorem jn_sum (c : Nat) : ∀ ws : List (List Nat), ws ≠ [] → (ws.map List.length).sum + ws.length = (jn c ws).length + 1
  | [], h => absurd rfl h
  | [w], _ => by simp [jn]
  | w :: v :: r, _ => by
    have := jn_sum c (v :: r) (by simp)
    show ((w :: v :: r).map List.length).sum + _ = (w ++ c :: jn c (v :: r)).length + 1
    rw [List.map_cons, List.sum_cons, List.length_append, List.length_cons (as := v :: r), List.length_cons (as := jn c (v :: r))]
    omega
theorem sum_tx (ws : List (List Nat)) : (((ws.map tx)).map (·.length)).sum = (ws.map List.length).sum := by
  rw [List.map_map]
  exact congrArg List.sum (List.map_congr_left fun w _ => tx_len w)
theorem sum_flt (p : List Nat → Bool) : ∀ ws : List (List Nat), ((ws.filter p).map List.length).sum ≤ (ws.map List.length).sum
  | [] => Nat.le_refl _
  | w :: ws => by
    have := sum_flt p ws
    rw [List.filter_cons]
    split
    · simp only [List.map_cons, List.sum_cons]; omega
    · simp only [List.map_cons, List.sum_cons]; omega
theorem sum_trim : ∀ ws : List (List Nat), ((ws.map trim).map List.length).sum ≤ (ws.map List.length).sum
  | [] => Nat.le_refl _
  | w :: ws => by
    have := sum_trim ws
    have := trim_len w
    simp only [List.map_cons, List.sum_cons]
    omega
theorem mem_len {w : List Nat} : ∀ {ws : List (List Nat)}, w ∈ ws → w.length ≤ (ws.map List.length).sum
  | [], h => by simp at h
  | v :: ws, h => by
    simp only [List.map_cons, List.sum_cons]
    rcases List.mem_cons.mp h with rfl | h
    · omega
    · have := mem_len h
      omega
theorem trim_mem {u : List Nat} {c : Nat} (h : c ∈ trim u) : c ∈ u := by
  unfold trim at h
  rw [List.mem_reverse] at h
  have := (List.dropWhile_suffix _).subset h
  rw [List.mem_reverse] at this
  exact (List.dropWhile_suffix _).subset this
theorem wrds_mem {u w : List Nat} (h : w ∈ wrds u) : w.length ≤ u.length := by
  unfold wrds at h
  have h1 := (List.mem_filter.mp h).1
  have h2 := mem_len h1
  have h3 := prts_sum 32 u
  have : 0 < (prts 32 u).length := List.length_pos_iff.mpr (prts_ne _ _)
  omega
theorem flt_take {p : List Nat → Bool} {ws : List (List Nat)} {i : Nat} {x : List Nat} (h : ws[i]? = some x) : (ws.take (i + 1)).filter p = (ws.take i).filter p ++ (if p x = true then [x] else []) := by
  rw [List.take_add_one, h, List.filter_append]
  congr 1
  simp only [Option.toList_some, List.filter_cons, List.filter_nil]
theorem ok_dall_len {ws : List (List Nat)} (p : List Nat → Bool) (i : Nat) : ((ws.take i).filter p).length ≤ i := Nat.le_trans (List.length_filter_le _ _) (by rw [List.length_take]; exact Nat.min_le_left _ _)
theorem okx_answers_to (T : Txt K mg t) : FnOk P w K mg base (CX1 P w) 35 t.f_answers_to t.d_answers_to ["paper"] (sp_dall t) := by
  refine T.answers_to.F.okX sc_answers_to (fun vs H Q E h => ?_) (fun cdv A outer s H vs Q E hr h => ?_)
  · obtain ⟨u, ls, kn, qs, rfl, _⟩ := h
    rfl
  · obtain ⟨u, ls, kn, qs, rfl, hu, hne, hj, hno, hll, hB, hBn, hC, hql, hQ, k⟩ := h
    refine ⟨_, (pss_cons (PS.nox (ps_setC (i := 1) (CompOk.mk (caps := []) (Nc := ["line"]) rfl (by decide +kernel) (by decide +kernel) (comp_fr (sc0 := defScope s_answers_to) rfl (by decide +kernel)) rfl rfl rfl (by decide +kernel) (fun _ _ h => by simp at h)) rfl sc_answers_to.nd rfl rfl (pi_listK (K := K) (pe_bmK (K := K) PySem.F.plainAttrs_str PySem.F.slot_str_split PySem.F.type_str_split mt_split (pv 0) (pa_cons pe_str pa_nil))) (fun _ _ _ _ _ => .nil) (fun _ _ _ _ _ => (pe_bmK (K := K) PySem.F.plainAttrs_str PySem.F.slot_str_strip PySem.F.type_str_strip mt_strip (pv 0) (pa_cons pe_str pa_nil))) rfl))
      (pss_cons (ps_set (i := 2) sc_answers_to.nd rfl (Or.inr rfl) (pe_call ((okx_read_book T).mono (by decide)) hr rfl T.read_book.m T.read_book.F.kp T.read_book.b .nil pass1 (pa_cons (pe_bmK (K := K) PySem.F.plainAttrs_str PySem.F.slot_str_join PySem.F.type_str_join (mt_joinK (K := K)) pe_str (pa_cons (PE.nox (pe_comp (CompOk.mk (caps := []) (Nc := ["line"]) rfl (by decide +kernel) (by decide +kernel) (comp_fr (sc0 := defScope s_answers_to) rfl (by decide +kernel)) rfl rfl rfl (by decide +kernel) (fun _ _ h => by simp at h)) rfl (pi_listK (K := K) (pv 1)) (fun _ _ _ _ _ => .one (pt_not (pt_val (pe_bmK (K := K) PySem.F.plainAttrs_str PySem.F.slot_str_startswith PySem.F.type_str_startswith mt_starts (pv 0) (pa_cons pe_str pa_nil))))) (fun _ _ _ _ _ => (pv 0)))) pa_nil)) pa_nil)))
      (pss_one (ps_ret (PE.nox (pe_comp (CompOk.mk (caps := [2]) (Nc := ["line", "book"]) rfl (by decide +kernel) (by decide +kernel) (comp_fr (sc0 := defScope s_answers_to) rfl (by decide +kernel)) rfl rfl rfl (by decide +kernel) (fun k j h => match k, h with | 0, h => by obtain rfl := Option.some.inj h; exact ⟨_, rfl, rfl, rfl⟩ | _ + 1, h => by simp at h)) rfl (pi_listK (K := K) (pv 1)) (fun _ _ _ _ _ => .one (pt_val (pe_bmK (K := K) PySem.F.plainAttrs_str PySem.F.slot_str_startswith PySem.F.type_str_startswith mt_starts (pv 0) (pa_cons pe_str pa_nil)))) (fun _ _ _ _ _ => (pe_call ((ok_answer_to T).mono (by decide)) hr rfl T.answer_to.m T.answer_to.F.kp T.answer_to.b .nil pass0 (pa_cons (pe_call ((ok_words_of T).mono (by decide)) hr rfl T.words_of.m T.words_of.F.kp T.words_of.b .nil pass0 (pa_cons (pe_slice sl_str (pv 0) (po_some pe_int) po_none) pa_nil)) (pa_cons (pv 1) pa_nil)))))))))), ?_⟩
    rw [one_of_nl, one_of_bl, one_of_q]
    have hsz : sizeLine = 16777216 := sizeLine_eq
    have sl := jn_sum 10 ls hne
    rw [hj] at sl
    have st := sum_trim ls
    refine ⟨_, rfl, rfl, u, 10, ls, rfl, rfl, (by decide), (by omega), hne, hj, hno, fun l hl => ?_⟩
    have s1 : Same H (upd H l (.lst (vS ls))) := .upd hl
    have h1 : (upd H l (.lst (vS ls))) l = some (.lst (vS ls)) := upd_same
    generalize upd H l (.lst (vS ls)) = H1 at s1 h1 ⊢
    refine ⟨_, rfl, ⟨_, SqL.of h1⟩, comp_list (K := K) (a := l) (xs := vS ls) (fun i ys G => G = H1 ∧ ys = vS ((ls.take i).map trim)) ⟨rfl, rfl⟩ ?_ ?_ ?_ ?_⟩
    · rintro i ys G hi ⟨rfl, rfl⟩
      refine ⟨SqL.of h1, ?_⟩
      rw [vS_len, List.length_map, List.length_take]
      exact Nat.min_le_left _ _
    · rw [vS_len]; omega
    · rintro i xv ys G hi hx ⟨rfl, rfl⟩
      obtain ⟨b, hb, rfl⟩ := vS_got hx
      refine CTurn.no ?_
      have := mem_len (List.mem_of_getElem? hb)
      refine ⟨_, rfl, rfl, _, _, rfl, rfl, (by rw [tx_len]; omega), ?_⟩
      rw [trim_tx]
      refine CN.of hi ⟨rfl, ?_⟩
      rw [List.take_add_one, hb, List.map_append]
      unfold vS
      rw [List.map_append]
      rfl
    · rintro ys G p1 ⟨rfl, rfl⟩ hp1
      rw [vS_len, List.take_length]
      generalize hts : ls.map trim = ts at hB hBn hql hQ st ⊢
      have tl : ts.length = ls.length := by rw [← hts, List.length_map]
      have s2 : Same H (upd G p1 (.lst (vS ts))) := s1.new hp1
      have h2 : (upd G p1 (.lst (vS ts))) p1 = some (.lst (vS ts)) := upd_same
      generalize upd G p1 (.lst (vS ts)) = H2 at s2 h2 ⊢
      refine at_val rfl rfl ?_
      refine ⟨rfl, _, rfl, _, rfl, ⟨_, SqL.of h2⟩, comp_list (K := K) (a := p1) (xs := vS ts) (fun i ys G => G = H2 ∧ ys = vS ((ts.take i).filter fun l => !isQ l)) ⟨rfl, rfl⟩ ?_ ?_ ?_ ?_⟩
      · rintro i ys G hi ⟨rfl, rfl⟩
        refine ⟨SqL.of h2, ?_⟩
        rw [vS_len]
        exact ok_dall_len _ _
      · rw [vS_len]; omega
      · rintro i xv ys G hi hx ⟨rfl, rfl⟩
        obtain ⟨b, hb, rfl⟩ := vS_got hx
        unfold CTurn
        refine ⟨_, rfl, rfl, _, _, rfl, rfl, ?_⟩
        rw [starts_tx]
        refine ⟨_, rfl, ?_⟩
        show if (!isQ b) = true then _ else _
        refine iteB (fun c => ?_) (fun c => ?_)
        · refine ⟨_, rfl, CN.of hi ⟨rfl, ?_⟩⟩
          rw [flt_take hb, if_pos c]
          unfold vS
          rw [List.map_append]
          rfl
        · exact CN.of hi ⟨rfl, by rw [flt_take hb, if_neg (by rw [c]; decide), List.append_nil]⟩
      · rintro ys G p2 ⟨rfl, rfl⟩ hp2
        rw [vS_len, List.take_length]
        generalize hbs : (ts.filter fun l => !isQ l) = bs at hB hBn ⊢
        have bl : bs.length ≤ ts.length := by rw [← hbs]; exact List.length_filter_le _ _
        have sb : (bs.map List.length).sum ≤ (ts.map List.length).sum := by rw [← hbs]; exact sum_flt _ _
        have s3 : Same H (upd G p2 (.lst (vS bs))) := s2.new hp2
        have h3 : (upd G p2 (.lst (vS bs))) p2 = some (.lst (vS bs)) := upd_same
        have h23 : (upd G p2 (.lst (vS bs))) p1 = some (.lst (vS ts)) := by rw [upd_ne (ne_of_none h2 hp2)]; exact h2
        generalize upd G p2 (.lst (vS bs)) = H3 at s3 h3 h23 ⊢
        refine ⟨_, p2, bs.map tx, rfl, rfl, (by rw [← vS_map]; exact SqL.of h3), ?_, ?_⟩
        · rw [sum_tx, List.length_map, tx_len]
          show _ + _ * 1 ≤ _
          omega
        rw [join_jn]
        have sj := jn_sum 10 bs hBn
        refine ⟨_, bs, kn, rfl, (by omega), hBn, rfl, fun b hb z => ?_, (by omega), hB, fun kp H4 s4 hK => ?_⟩
        · rw [← hbs, List.mem_filter, ← hts, List.mem_map] at hb
          obtain ⟨⟨l0, hl0, rfl⟩, _⟩ := hb
          exact hno l0 hl0 (trim_mem z)
        refine at_val rfl rfl ?_
        have hK4 : Kn H4 kp kn := hK.same (fun b o e => (nw_of e).2)
        have u4 := s3.trans s4
        have h4 : H4 p1 = some (.lst (vS ts)) := s4 _ _ h23
        have nt : (ts.filter isQ).length ≤ 900 := by have := List.length_filter_le isQ ts; omega
        refine ⟨_, rfl, _, rfl, ⟨_, SqL.of h4⟩, comp_list (K := K) (a := p1) (xs := vS ts) (fun i ys G => ∃ as : List Addr, ys = as.map V.ref ∧ Same H4 G ∧ as.length = ((ts.take i).filter isQ).length ∧ ∀ (j : Nat) a ths, as[j]? = some a → qs[j]? = some ths → G a = some (.tup (ansV kn ths))) ⟨[], rfl, .refl _, rfl, fun j a ths g => by simp at g⟩ ?_ ?_ ?_ ?_⟩
        · rintro i ys G hi ⟨as, rfl, sG, hal, _⟩
          refine ⟨SqL.of (sG _ _ h4), ?_⟩
          rw [List.length_map, hal]
          exact ok_dall_len _ _
        · rw [vS_len]; omega
        · rintro i xv ys G hi hx ⟨as, rfl, sG, hal, hA⟩
          obtain ⟨b, hb, rfl⟩ := vS_got hx
          have bl9 := mem_len (List.mem_of_getElem? hb)
          unfold CTurn
          refine ⟨_, rfl, rfl, _, _, rfl, rfl, ?_⟩
          rw [starts_tx]
          refine ⟨_, rfl, ?_⟩
          show if isQ b = true then _ else _
          refine iteB (fun c => ?_) (fun c => ?_)
          · have hlt : ((ts.take i).filter isQ).length < qs.length := by
              have e1 : (ts.take (i + 1)).filter isQ = (ts.take i).filter isQ ++ [b] := by rw [flt_take hb, if_pos c]
              have e2 : ((ts.take (i + 1)).filter isQ).length ≤ (ts.filter isQ).length := ((List.take_sublist _ _).filter _).length_le
              rw [e1, List.length_append, List.length_singleton] at e2
              omega
            have hqb : (ts.filter isQ)[as.length]? = some b := by
              have e1 : ts.filter isQ = (ts.take i).filter isQ ++ (b :: (ts.drop (i + 1)).filter isQ) := by
                have hi2 : i < ts.length := (List.getElem?_eq_some_iff.mp hb).1
                have hbe : ts[i] = b := by have := List.getElem?_eq_getElem hi2; rw [hb] at this; injection this with this; exact this.symm
                conv => lhs; rw [← List.take_append_drop i ts]
                rw [List.filter_append, List.drop_eq_getElem_cons hi2, hbe, List.filter_cons_of_pos c]
              rw [e1, hal, List.getElem?_append_right (Nat.le_refl _), Nat.sub_self]
              rfl
            have hths := List.getElem?_eq_getElem (hal ▸ hlt)
            generalize qs[as.length] = ths at hths
            have qk := hQ _ _ _ hqb hths
            unfold Qok at qk
            refine ⟨_, rfl, _, rfl, b, rfl, big (by omega), ?_⟩
            rw [cut1]
            refine ⟨_, rfl, (by rw [List.length_tail]; omega), fun wp G1 g1 hw => ?_⟩
            rw [qk] at hw
            have wb : ∀ x ∈ ovW :: ths, x.length ≤ b.tail.length := fun x hx => wrds_mem (by rw [qk]; exact hx)
            have wn : (ovW :: ths).length ≤ b.length + 1 := by
              rw [← qk]
              have := prts_sum 32 b.tail
              have : (wrds b.tail).length ≤ (prts 32 b.tail).length := List.length_filter_le _ _
              rw [List.length_tail] at *
              omega
            have wt : ths.length ≤ 1000000 := by rw [List.length_cons] at wn; omega
            refine ⟨_, rfl, wp, kp, ths, kn, rfl, SqL.of hw, wt, fun x hx => ?_, hK4.same (sG.trans g1), hC, fun q9 G2 g2 hq9 => ?_⟩
            · have := wb x (List.mem_cons_of_mem _ hx)
              rw [List.length_tail] at this
              omega
            have gg := g1.trans g2
            refine CN.of hi ⟨as ++ [q9], by rw [List.map_append]; rfl, sG.trans gg, by rw [flt_take hb, if_pos c, List.length_append, List.length_append, hal]; rfl, fun j a ths' e1 e2 => ?_⟩
            by_cases cj : j < as.length
            · rw [List.getElem?_append_left cj] at e1
              exact gg _ _ (hA j a ths' e1 e2)
            · rw [List.getElem?_append_right (by omega)] at e1
              have j0 : j - as.length = 0 := by
                have := (List.getElem?_eq_some_iff.mp e1).1
                rw [List.length_singleton] at this
                omega
              rw [j0] at e1
              cases e1
              have jj : j = as.length := by omega
              rw [jj, hths] at e2
              cases e2
              exact hq9
          · exact CN.of hi ⟨as, rfl, sG, by rw [flt_take hb, if_neg (by rw [c]; decide), List.append_nil]; exact hal, hA⟩
        · rintro ys G q ⟨as, rfl, sG, hal, hA⟩ hq
          rw [vS_len, List.take_length, hql] at hal
          refine k q as _ ((u4.trans sG).new hq) upd_same hal fun j a ths g1 g2 => ?_
          have := hA j a ths g1 g2
          rw [upd_ne (ne_of_none this hq)]
          exact this
theorem rep_vI (m : Nat) (z : Int) : (List.replicate m [V.int z]).flatten = vI (List.replicate m z) := by
  induction m with
  | zero => rfl
  | succ m ih => rw [List.replicate_succ, List.flatten_cons, ih, List.replicate_succ]; rfl
def sp_at (K : PySem.W.Frag) : Sp := fun vs H Q _ => ∃ (a : Addr) (ns : List Int) (i : Int), vs = [.ref a, .int i] ∧ SqL K H a (vI ns) ∧ 0 ≤ i ∧ ∀ c : Int, Q (.int c) H
theorem ok_law_at (T : Txt K mg t) : FnOk P w K mg base CX0 1 t.f_law_at t.d_law_at ["script", "k"] (sp_at K) := by
  refine T.law_at.F.ok sc_law_at (fun vs H Q E h => ?_) (fun cdv A outer s H vs Q E hr h => ?_)
  · obtain ⟨a, ns, i, rfl, _⟩ := h
    rfl
  · obtain ⟨a, ns, i, rfl, hS, hi, k⟩ := h
    refine ⟨_, (pss_cons (ps_if (pt_cmpR op_lt (pv 1) (pe_callB (call_len_seqK (K := K)) rfl T.b_len bt_len (pa_cons (pv 0) pa_nil)) (nomark _))
        (pss_one (ps_ret (pe_ix (ix_listK (K := K)) (pv 0) (pv 1) (fun _ _ => rfl))))
        pss_nil)
      (pss_one (ps_ret pe_int))), ?_⟩
    refine ⟨_, rfl, _, rfl, _, _, rfl, .inl hS, _, _, rfl, rfl, _, rfl, ?_⟩
    refine ite2D (fun h1 => ?_) (fun h1 => ?_)
    · rw [vI_len] at h1
      have hlt : i.toNat < ns.length := by omega
      exact ⟨_, rfl, _, rfl, _, _, _, _, rfl, rfl, hS, atI_of hi (vI_get (List.getElem?_eq_getElem hlt)), k _⟩
    · exact k 0
def sp_lnumbers (K : PySem.W.Frag) : Sp := fun vs H Q _ => ∃ (a : Addr) (ns : List Int) (m : Nat), vs = [.ref a, .int (m : Int)] ∧ SqL K H a (vI ns) ∧ ns.length ≤ 63 ∧ 1 ≤ m ∧ m ≤ 1000 ∧
  ∀ (l : Addr) (ks : List Int) (H' : Hp), Same H H' → H' l = some (.lst (vI ks)) → ks.length = m → Q (.ref l) H'
theorem ok_law_numbers (T : Txt K mg t) : FnOk P w K mg base CX0 1 t.f_law_numbers t.d_law_numbers ["script", "picks"] (sp_lnumbers K) := by
  refine T.law_numbers.F.ok sc_law_numbers (fun vs H Q E h => ?_) (fun cdv A outer s H vs Q E hr h => ?_)
  · obtain ⟨a, ns, m, rfl, _⟩ := h
    rfl
  · obtain ⟨a, ns, m, rfl, hS, hl, hm, hm2, k⟩ := h
    have hsz : sizeLine = 16777216 := sizeLine_eq
    refine ⟨_, (pss_cons (ps_set (i := 2) sc_law_numbers.nd rfl (Or.inl rfl) (pe_op op_rep (pe_lst (pa_cons pe_int pa_nil)) (pv 1)))
      (pss_cons (ps_for PassesOwn.never rfl (pi_range1 rfl T.b_range (pa_cons (pe_callB (call_len_seqK (K := K)) rfl T.b_len bt_len (pa_cons (pv 0) pa_nil)) pa_nil)) (pg_name (i := 3) sc_law_numbers.nd rfl (Or.inl rfl))
        (pss_cons (ps_set (i := 4) sc_law_numbers.nd rfl (Or.inl rfl) (pe_op op_mod (pv 3) (pv 1)))
        (pss_cons (ps_set (i := 5) sc_law_numbers.nd rfl (Or.inl rfl) (pe_op op_add (pe_op op_mul (pe_ix (ix_listK (K := K)) (pv 2) (pv 4) (fun _ _ => rfl)) pe_int) (pe_ix (ix_listK (K := K)) (pv 0) (pv 3) (fun _ _ => rfl))))
        (pss_one (ps_asg (pe_op op_mod (pv 5) pe_int) (pg_sub (pv 2) (pv 4) set_list))))))
      (pss_one (ps_ret (pv 2))))), ?_⟩
    refine ⟨(by show 1 ≤ sizeLine; decide), fun p hp => ?_⟩
    refine ⟨_, rfl, _, _, _, rfl, rfl, upd_same, (by omega), (by omega), (by show 1 * ((m : Int).toNat) ≤ sizeLine; omega), fun q hq => ?_⟩
    rw [Int.toNat_natCast, rep_vI]
    have s1 : Same H (upd H p (.lst [.int 0])) := .upd hp
    have nq : H q = none := s1.free hq
    have s2 : Same H (upd (upd H p (.lst [.int 0])) q (.lst (vI (List.replicate m 0)))) := s1.new hq
    refine ⟨_, rfl, _, _, rfl, .inl (s2.seq hS), _, rfl, (by omega), (by rw [vI_len]; omega), ?_⟩
    rw [Int.toNat_natCast, vI_len]
    refine for_range (lo := 0) (n := ns.length) (fun i σ H2 => ∃ (ks : List Int) (v1 v2 v3 : Option V), σ = [some (.ref a), some (.int (m : Int)), some (.ref q), v1, v2, v3] ∧ Same H H2 ∧ H2 q = some (.lst (vI ks)) ∧ ks.length = m)
      ⟨_, none, none, none, rfl, s2, upd_same, by rw [List.length_replicate]⟩ ?_ ?_
    · rintro i σ H2 hi ⟨ks, v1, v2, v3, rfl, s3, hq2, hkl⟩
      have hix : (0 + (i : Int)) % (m : Int) = ((i % m : Nat) : Int) := by rw [Int.zero_add]; omega
      have hlt : i % m < ks.length := by rw [hkl]; exact Nat.mod_lt _ (by omega)
      have e1 : (vI ks)[((0 + (i : Int)) % (m : Int)).toNat]? = some (.int ks[i % m]) := by
        rw [hix, Int.toNat_natCast]
        exact vI_get (List.getElem?_eq_getElem hlt)
      have e2 : (vI ns)[(0 + (i : Int)).toNat]? = some (.int ns[i]) := by
        rw [Int.zero_add, Int.toNat_natCast]
        exact vI_get (List.getElem?_eq_getElem hi)
      have n1 : 0 ≤ (0 + (i : Int)) % (m : Int) := by rw [hix]; omega
      refine ⟨_, rfl, _, rfl, _, _, rfl, rfl, (by show (0 : Int) < m; omega), ?_⟩
      refine ⟨_, rfl, _, rfl, _, _, _, _, rfl, rfl, SqL.of hq2, atI_of n1 e1, _, _, rfl, rfl, .inr ⟨by decide, by decide⟩, ?_⟩
      refine ⟨_, rfl, _, rfl, _, _, _, _, rfl, rfl, s3.seq hS, atI_of (by omega) e2, _, _, rfl, rfl, ?_⟩
      refine ⟨_, rfl, _, _, rfl, rfl, (by show (0 : Int) < 1099511627776; decide), ?_⟩
      refine ⟨_, rfl, _, rfl, _, _, _, _, rfl, rfl, hq2, ixN_of n1 (by rw [vI_len, hkl, hix]; omega), ?_⟩
      rw [vI_set]
      exact ⟨_, _, _, _, rfl, s3.over nq, upd_same, by rw [List.length_set]; exact hkl⟩
    · rintro σ H2 ⟨ks, v1, v2, v3, rfl, s3, hq2, hkl⟩
      exact ⟨_, rfl, k q ks H2 s3 hq2 hkl⟩
theorem dot2 (z : Int) : atI ((".#" : Str)).cps.toList (z % 2) = some (if z % 2 = 1 then 35 else 46) := by
  rcases Int.emod_two_eq z with h | h <;> rw [h] <;> decide +kernel
theorem sg_2 (z : Int) : Sg (if z % 2 = 1 then 35 else 46) := by split; exact .inl rfl; exact .inr rfl
theorem sg_add {u : List Nat} {c : Nat} (h : ∀ d ∈ u, Sg d) (hc : Sg c) : ∀ d ∈ u ++ [c], Sg d := fun d hd => by
  rcases List.mem_append.mp hd with h1 | h1
  · exact h d h1
  · rw [List.mem_singleton.mp h1]; exact hc
def sp_lcloth (K : PySem.W.Frag) : Sp := fun vs H Q _ => ∃ (a : Addr) (ns : List Int), vs = [.ref a] ∧ SqL K H a (vI ns) ∧ ns.length ≤ 63 ∧ ∀ (l : Addr) (cl : List (List Nat)) (m n : Nat) (H' : Hp), Same H H' → H' l = some (.lst (vS cl)) → Cl cl m n → m ≤ 7 → n ≤ 7 → Q (.ref l) H'
theorem ok_law_cloth (T : Txt K mg t) : FnOk P w K mg base CX0 2 t.f_law_cloth t.d_law_cloth ["script"] (sp_lcloth K) := by
  refine T.law_cloth.F.ok sc_law_cloth (fun vs H Q E h => ?_) (fun cdv A outer s H vs Q E hr h => ?_)
  · obtain ⟨a, ns, rfl, _⟩ := h
    rfl
  · obtain ⟨a, ns, rfl, hS, hl, k⟩ := h
    have hsz : sizeLine = 16777216 := sizeLine_eq
    refine ⟨_, (pss_cons (ps_set (i := 1) sc_law_cloth.nd rfl (Or.inl rfl) (pe_op op_add pe_int (pe_op op_mod (pe_call ((ok_law_at T).mono (by decide)) hr rfl T.law_at.m T.law_at.F.kp T.law_at.b .nil pass0 (pa_cons (pv 0) (pa_cons pe_int pa_nil))) pe_int)))
      (pss_cons (ps_set (i := 2) sc_law_cloth.nd rfl (Or.inl rfl) (pe_op op_add pe_int (pe_op op_mod (pe_call ((ok_law_at T).mono (by decide)) hr rfl T.law_at.m T.law_at.F.kp T.law_at.b .nil pass0 (pa_cons (pv 0) (pa_cons pe_int pa_nil))) pe_int)))
      (pss_cons (ps_set (i := 3) sc_law_cloth.nd rfl (Or.inl rfl) (pe_lst pa_nil))
      (pss_cons (ps_for PassesOwn.never rfl (pi_listK (K := K) (pe_call ((ok_law_numbers T).mono (by decide)) hr rfl T.law_numbers.m T.law_numbers.F.kp T.law_numbers.b .nil pass0 (pa_cons (pv 0) (pa_cons (pv 2) pa_nil)))) (pg_name (i := 4) sc_law_cloth.nd rfl (Or.inl rfl))
        (pss_cons (ps_set (i := 5) sc_law_cloth.nd rfl (Or.inl rfl) pe_str)
        (pss_cons (ps_for PassesOwn.never rfl (pi_range1 rfl T.b_range (pa_cons (pv 1) pa_nil)) (pg_name (i := 6) sc_law_cloth.nd rfl (Or.inl rfl))
          (pss_cons (ps_set (i := 5) sc_law_cloth.nd rfl (Or.inl rfl) (pe_op op_add_str (pv 5) (pe_ix ix_str pe_str (pe_op op_mod (pv 4) pe_int) (fun _ _ => rfl))))
          (pss_one (ps_set (i := 4) sc_law_cloth.nd rfl (Or.inl rfl) (pe_op op_fdiv (pv 4) pe_int)))))
        (pss_one (ps_expr (pe_bmK (K := K) PySem.F.plainAttrs_list PySem.F.slot_list_append PySem.F.type_list_append mt_append (pv 3) (pa_cons (pv 5) pa_nil)))))))
      (pss_one (ps_ret (pv 3))))))), ?_⟩
    rw [one_of_no]
    refine ⟨_, rfl, a, ns, 0, rfl, hS, (by decide), fun c1 => ?_⟩
    refine ⟨_, _, rfl, rfl, (by show (0 : Int) < 7; decide), _, _, rfl, rfl, ?_⟩
    obtain ⟨m, em, m1, m7⟩ : ∃ m : Nat, 1 + c1 % 7 = (m : Int) ∧ 1 ≤ m ∧ m ≤ 7 := ⟨(1 + c1 % 7).toNat, by omega, by omega, by omega⟩
    refine at_val (congrArg V.int em) rfl ?_
    refine ⟨_, rfl, a, ns, 1, rfl, hS, (by decide), fun c2 => ?_⟩
    refine ⟨_, _, rfl, rfl, (by show (0 : Int) < 7; decide), _, _, rfl, rfl, ?_⟩
    obtain ⟨n, en, n1, n7⟩ : ∃ n : Nat, 1 + c2 % 7 = (n : Int) ∧ 1 ≤ n ∧ n ≤ 7 := ⟨(1 + c2 % 7).toNat, by omega, by omega, by omega⟩
    refine at_val (congrArg V.int en) rfl ?_
    refine ⟨(by show 0 ≤ sizeLine; decide), fun q hq => ?_⟩
    have s1 : Same H (upd H q (.lst [])) := .upd hq
    have h1 : (upd H q (.lst [])) q = some (.lst []) := upd_same
    generalize upd H q (.lst []) = H1 at s1 h1 ⊢
    refine at_val rfl rfl ?_
    refine ⟨_, rfl, _, rfl, a, ns, n, rfl, s1.seq hS, hl, n1, (by omega), fun l ks H2 s2 hl2 hkl => ?_⟩
    have nql : l ≠ q := fun z => by
      have := s2 _ _ h1
      rw [← z, hl2] at this
      injection this with this
      injection this with this
      have := congrArg List.length this
      rw [vI_len, hkl] at this
      simp at this
      omega
    refine ⟨_, rfl, ⟨_, SqL.of hl2⟩, for_list (K := K) (a := l) (xs := vI ks) (fun i σ G => ∃ (v4 v5 v6 : Option V) (cl : List (List Nat)), σ = [some (.ref a), some (.int (m : Int)), some (.int (n : Int)), some (.ref q), v4, v5, v6] ∧ Same H G ∧ G l = some (.lst (vI ks)) ∧ G q = some (.lst (vS cl)) ∧ cl.length = i ∧ (∀ r ∈ cl, r.length = m) ∧ ∀ r ∈ cl, ∀ c ∈ r, Sg c) ⟨none, none, none, [], rfl, s1.trans s2, hl2, s2 _ _ h1, rfl, by simp, by simp⟩ (fun i σ G _ ⟨_, _, _, _, _, _, h, _⟩ => SqL.of h) ?_ ?_⟩
    · rintro i xv σ G hx ⟨v4, v5, v6, cl, rfl, sG, hGl, hGq, hcl, hm, hsg⟩
      obtain ⟨z0, rfl⟩ : ∃ z, xv = .int z := by
        unfold vI at hx
        rw [List.getElem?_map] at hx
        obtain ⟨z, _, rfl⟩ := Option.map_eq_some_iff.mp hx
        exact ⟨z, rfl⟩
      refine at_val rfl rfl ?_
      refine at_val rfl rfl ?_
      have hin : i < n := by have := (List.getElem?_eq_some_iff.mp hx).1; rw [vI_len, hkl] at this; exact this
      refine ⟨_, rfl, _, rfl, (by omega), (by omega), ?_⟩
      rw [Int.toNat_natCast]
      refine for_range (lo := 0) (n := m) (fun j σ G2 => ∃ (z : Int) (u : List Nat) (v6 : Option V), σ = [some (.ref a), some (.int (m : Int)), some (.int (n : Int)), some (.ref q), some (.int z), some (.str (tx u)), v6] ∧ G2 = G ∧ u.length = j ∧ ∀ c ∈ u, Sg c) ⟨z0, [], v6, rfl, rfl, rfl, by simp⟩ ?_ ?_
      · rintro j σ G2 hj ⟨z, u, v6, rfl, rfl, hu, hs⟩
        refine at_val rfl rfl ?_
        refine ⟨_, rfl, _, rfl, _, _, rfl, rfl, (by show (0 : Int) < 2; decide), _, _, _, rfl, rfl, (by show 2 ≤ sizeLine; decide), dot2 z, _, _, rfl, rfl, (by rw [tx_len]; show u.length + 1 ≤ sizeLine; omega), ?_⟩
        rw [tx_one, tx_app]
        refine at_val rfl rfl ?_
        refine ⟨_, rfl, _, _, rfl, rfl, ⟨by decide, by decide⟩, ?_⟩
        exact ⟨_, _, _, rfl, rfl, by rw [List.length_append, hu]; rfl, sg_add hs (sg_2 z)⟩
      · rintro σ G2 ⟨z, u, v6, rfl, rfl, hu, hs⟩
        refine ⟨_, rfl, .inl ⟨rfl, _, SqL.of hGq⟩, _, rfl, q, _, _, rfl, rfl, hGq, (by rw [vS_len, hcl]; omega), ?_⟩
        have ev : vS cl ++ [.str (tx u)] = vS (cl ++ [u]) := by unfold vS; rw [List.map_append]; rfl
        rw [ev]
        refine ⟨_, _, _, cl ++ [u], rfl, sG.over hq, by rw [upd_ne nql]; exact hGl, upd_same, by rw [List.length_append, hcl]; rfl, fun r hr => ?_, fun r hr => ?_⟩
        · rcases List.mem_append.mp hr with h | h
          · exact hm r h
          · rw [List.mem_singleton.mp h]; exact hu
        · rcases List.mem_append.mp hr with h | h
          · exact hsg r h
          · rw [List.mem_singleton.mp h]; exact hs
    · rintro σ G ⟨v4, v5, v6, cl, rfl, sG, hGl, hGq, hcl, hm, hsg⟩
      rw [vI_len, hkl] at hcl
      exact ⟨_, rfl, k q cl m n G sG hGq ⟨hcl, hm, hsg, m1, by omega, n1, by omega⟩ m7 n7⟩
def sp_place : Sp := fun vs H Q _ => ∃ c : Int, vs = [.int c] ∧ ∀ p : Int, p.natAbs < 10 ^ 60 → Q (.int p) H
theorem ok_law_place (T : Txt K mg t) : FnOk P w K mg base CX0 1 t.f_law_place t.d_law_place ["cell"] sp_place := by
  refine T.law_place.F.ok sc_law_place (fun vs H Q E h => ?_) (fun cdv A outer s H vs Q E hr h => ?_)
  · obtain ⟨c, rfl, _⟩ := h
    rfl
  · obtain ⟨c, rfl, k⟩ := h
    refine ⟨_, (pss_cons (ps_if (pt_cmpR op_eq (pe_op op_mod (pv 0) pe_int) pe_int (nomark _))
        (pss_one (ps_ret (pe_op op_sub (pe_op op_mod (pe_op op_fdiv (pv 0) pe_int) pe_int) pe_int)))
        pss_nil)
      (pss_cons (ps_set (i := 1) sc_law_place.nd rfl (Or.inl rfl) (pe_op op_mod (pe_op op_fdiv (pv 0) pe_int) (pe_op op_pow pe_int pe_int)))
      (pss_cons (ps_if (pt_cmpR op_eq (pe_op op_mod (pe_op op_fdiv (pv 0) pe_int) pe_int) pe_int (nomark _))
        (pss_one (ps_ret (pv 1)))
        pss_nil)
      (pss_one (ps_ret (pe_un un_neg (pv 1))))))), ?_⟩
    have b1 := Int.emod_nonneg (c / 4) (show (10 : Int) ^ 60 ≠ 0 by decide)
    have b2 := Int.emod_lt_of_pos (c / 4) (show (0 : Int) < 10 ^ 60 by decide)
    have e9 : (10 : Int) ^ 60 = ((10 ^ 60 : Nat) : Int) := by decide
    refine ⟨_, rfl, _, _, rfl, rfl, (by show (0 : Int) < 2; decide), rfl, _, rfl, ?_⟩
    refine ite2D (fun c1 => ?_) (fun c1 => ?_)
    · refine ⟨_, rfl, _, _, rfl, rfl, ⟨by decide, by decide⟩, _, _, rfl, rfl, (by show (0 : Int) < 80; decide), _, _, rfl, rfl, k _ ?_⟩
      have h1 := Int.emod_nonneg (c / 2) (show (80 : Int) ≠ 0 by decide)
      have h2 := Int.emod_lt_of_pos (c / 2) (show (0 : Int) < 80 by decide)
      have : (100 : Nat) < 10 ^ 60 := by decide
      omega
    · refine ⟨_, rfl, _, _, rfl, rfl, ⟨by decide, by decide⟩, _, _, rfl, rfl, ⟨by decide, by decide, by decide⟩, _, _, rfl, rfl, (by show (0 : Int) < 10 ^ 60; decide), ?_⟩
      refine at_val (v' := .int (c / 4 % 10 ^ 60)) rfl rfl ?_
      generalize c / 4 % 10 ^ 60 = far at b1 b2 ⊢
      refine ⟨_, rfl, _, _, rfl, rfl, ⟨by decide, by decide⟩, _, _, rfl, rfl, (by show (0 : Int) < 2; decide), rfl, _, rfl, ?_⟩
      refine ite2D (fun c2 => ?_) (fun c2 => ?_)
      · exact ⟨_, rfl, k _ (by omega)⟩
      · exact ⟨_, rfl, _, rfl, k _ (by omega)⟩
def sp_span : Sp := fun vs H Q _ => ∃ c : Int, vs = [.int c] ∧ ∀ p : Int, 0 ≤ p → p < 10 ^ 60 → Q (.int p) H
theorem ok_law_span (T : Txt K mg t) : FnOk P w K mg base CX0 1 t.f_law_span t.d_law_span ["cell"] sp_span := by
  refine T.law_span.F.ok sc_law_span (fun vs H Q E h => ?_) (fun cdv A outer s H vs Q E hr h => ?_)
  · obtain ⟨c, rfl, _⟩ := h
    rfl
  · obtain ⟨c, rfl, k⟩ := h
    refine ⟨_, (pss_cons (ps_if (pt_cmpR op_eq (pe_op op_mod (pv 0) pe_int) pe_int (nomark _))
        (pss_one (ps_ret (pe_op op_mod (pe_op op_fdiv (pv 0) pe_int) pe_int)))
        pss_nil)
      (pss_one (ps_ret (pe_op op_mod (pe_op op_fdiv (pv 0) pe_int) (pe_op op_pow pe_int pe_int))))), ?_⟩
    refine ⟨_, rfl, _, _, rfl, rfl, (by show (0 : Int) < 2; decide), rfl, _, rfl, ?_⟩
    refine ite2D (fun c1 => ?_) (fun c1 => ?_)
    · refine ⟨_, rfl, _, _, rfl, rfl, ⟨by decide, by decide⟩, _, _, rfl, rfl, (by show (0 : Int) < 40; decide), k _ (Int.emod_nonneg _ (by decide)) ?_⟩
      have h2 := Int.emod_lt_of_pos (c / 2) (show (0 : Int) < 40 by decide)
      have : (40 : Int) < 10 ^ 60 := by decide
      omega
    · exact ⟨_, rfl, _, _, rfl, rfl, ⟨by decide, by decide⟩, _, _, rfl, rfl, ⟨by decide, by decide, by decide⟩, _, _, rfl, rfl, (by show (0 : Int) < 10 ^ 60; decide), k _ (Int.emod_nonneg _ (by decide)) (Int.emod_lt_of_pos _ (by decide))⟩
def sp_ltimes : Sp := fun vs H Q _ => ∃ (c s st ln : Int), vs = [.int c, .int s, .int st, .int ln] ∧ 0 < c ∧ c ≤ 40 ∧ 0 ≤ ln ∧ Q (.int (met st ln c s)) H
theorem ok_law_times (T : Txt K mg t) : FnOk P w K mg base CX0 1 t.f_law_times t.d_law_times ["size", "k", "start", "span"] sp_ltimes := by
  refine T.law_times.F.ok sc_law_times (fun vs H Q E h => ?_) (fun cdv A outer s H vs Q E hr h => ?_)
  · obtain ⟨c, s, st, ln, rfl, _⟩ := h
    rfl
  · obtain ⟨c, s, st, ln, rfl, h1, h2, h3, k⟩ := h
    refine ⟨_, (pss_one (ps_ret (pe_op op_sub (pe_op op_fdiv (pe_op op_sub (pe_op op_sub (pe_op op_add (pv 2) (pv 3)) pe_int) (pv 1)) (pv 0)) (pe_op op_fdiv (pe_op op_sub (pe_op op_sub (pv 2) pe_int) (pv 1)) (pv 0))))), ?_⟩
    rw [met_floor h1 h3] at k
    exact ⟨_, rfl, _, rfl, _, _, rfl, rfl, _, _, rfl, rfl, _, rfl, _, _, rfl, rfl, _, rfl, _, _, rfl, rfl, ⟨h1, by omega⟩, _, rfl, _, _, rfl, rfl, _, rfl, _, _, rfl, rfl, _, rfl, _, _, rfl, rfl, ⟨h1, by omega⟩, _, _, rfl, rfl, k⟩
def sp_lcount (K : PySem.W.Frag) : Sp := fun vs H Q _ => ∃ (a f : Addr) (cl : List (List Nat)) (m n : Nat) (l1 f1 w1 h1 : Int), vs = [.ref a, .ref f] ∧ SqL K H a (vS cl) ∧ Cl cl m n ∧ SqL K H f (vI [l1, f1, w1, h1]) ∧ 0 ≤ w1 ∧ w1 < 10 ^ 60 ∧ 0 ≤ h1 ∧ h1 < 10 ^ 60 ∧ Q (.int (overs cl m n l1 f1 w1 h1)) H
theorem ok_law_count (T : Txt K mg t) : FnOk P w K mg base CX0 2 t.f_law_count t.d_law_count ["rows", "field"] (sp_lcount K) := by
  refine T.law_count.F.ok sc_law_count (fun vs H Q E h => ?_) (fun cdv A outer s H vs Q E hr h => ?_)
  · obtain ⟨a, f, cl, m, n, l1, f1, w1, h1, rfl, _⟩ := h
    rfl
  · obtain ⟨a, f, cl, m, n, l1, f1, w1, h1, rfl, hS, C, hF, w0, w2, h0, h2, k⟩ := h
    have hsz : sizeLine = 16777216 := sizeLine_eq
    have c1 := C.n1
    have c2 := C.n40
    have c3 := C.m1
    have c4 := C.m40
    have hc0 : 0 < cl.length := by rw [C.hn]; exact c1
    have l0 := C.hm cl[0] (List.getElem_mem hc0)
    have ec0 : atI (vS cl) 0 = some (.str (tx cl[0])) := atI_of (by decide) (vS_get (List.getElem?_eq_getElem hc0))
    refine ⟨_, (pss_cons (ps_set (i := 2) sc_law_count.nd rfl (Or.inl rfl) pe_int)
      (pss_cons (ps_for PassesOwn.never rfl (pi_range1 rfl T.b_range (pa_cons (pe_callB (call_len_seqK (K := K)) rfl T.b_len bt_len (pa_cons (pv 0) pa_nil)) pa_nil)) (pg_name (i := 3) sc_law_count.nd rfl (Or.inl rfl))
        (pss_cons (ps_set (i := 4) sc_law_count.nd rfl (Or.inl rfl) (pe_call ((ok_law_times T).mono (by decide)) hr rfl T.law_times.m T.law_times.F.kp T.law_times.b .nil pass0 (pa_cons (pe_callB (call_len_seqK (K := K)) rfl T.b_len bt_len (pa_cons (pv 0) pa_nil)) (pa_cons (pv 3) (pa_cons (pe_ix (ix_listK (K := K)) (pv 1) pe_int (fun _ _ => rfl)) (pa_cons (pe_ix (ix_listK (K := K)) (pv 1) pe_int (fun _ _ => rfl)) pa_nil))))))
        (pss_cons (ps_set (i := 5) sc_law_count.nd rfl (Or.inl rfl) pe_int)
        (pss_cons (ps_for PassesOwn.never rfl (pi_range1 rfl T.b_range (pa_cons (pe_callB call_len_str rfl T.b_len bt_len (pa_cons (pe_ix (ix_listK (K := K)) (pv 0) pe_int (fun _ _ => rfl)) pa_nil)) pa_nil)) (pg_name (i := 6) sc_law_count.nd rfl (Or.inl rfl))
          (pss_one (ps_if (pt_cmpR op_eq (pe_ix ix_str (pe_ix (ix_listK (K := K)) (pv 0) (pv 3) (fun _ _ => rfl)) (pv 6) (fun _ _ => rfl)) pe_str (nomark _))
            (pss_one (ps_set (i := 5) sc_law_count.nd rfl (Or.inl rfl) (pe_op op_add (pv 5) (pe_call ((ok_law_times T).mono (by decide)) hr rfl T.law_times.m T.law_times.F.kp T.law_times.b .nil pass0 (pa_cons (pe_callB call_len_str rfl T.b_len bt_len (pa_cons (pe_ix (ix_listK (K := K)) (pv 0) pe_int (fun _ _ => rfl)) pa_nil)) (pa_cons (pv 6) (pa_cons (pe_ix (ix_listK (K := K)) (pv 1) pe_int (fun _ _ => rfl)) (pa_cons (pe_ix (ix_listK (K := K)) (pv 1) pe_int (fun _ _ => rfl)) pa_nil))))))))
            pss_nil)))
        (pss_one (ps_set (i := 2) sc_law_count.nd rfl (Or.inl rfl) (pe_op op_add (pv 2) (pe_op op_mulW (pv 4) (pv 5)))))))))
      (pss_one (ps_ret (pv 2))))), ?_⟩
    refine at_val rfl rfl ?_
    refine ⟨_, rfl, _, _, rfl, .inl hS, _, rfl, (by omega), (by rw [vS_len, C.hn]; omega), ?_⟩
    rw [Int.toNat_natCast, vS_len, C.hn]
    refine for_range (lo := 0) (n := n) (fun i σ H3 => ∃ (v3 v4 v5 v6 : Option V), σ = [some (.ref a), some (.ref f), some (.int (sumN (fun q => inPick cl m l1 w1 q * met f1 h1 (n : Int) (q : Int)) i)), v3, v4, v5, v6] ∧ H3 = H) ⟨none, none, none, none, rfl, rfl⟩ ?_ ?_
    · rintro i σ H3 hi ⟨v3, v4, v5, v6, rfl, rfl⟩
      have hic : i < cl.length := by rw [C.hn]; exact hi
      have lci := C.hm cl[i] (List.getElem_mem hic)
      have ec : atI (vS cl) (0 + (i : Int)) = some (.str (tx cl[i])) := atI_of (by omega) (by rw [z0]; exact vS_get (List.getElem?_eq_getElem hic))
      have gd : cl.getD i [] = cl[i] := by simp [List.getD, hic]
      have b1 := inPick_bound cl c3 (left := l1) w0 i
      have b2 := met_bound (st := f1) (c := (n : Int)) (s := ((i : Nat) : Int)) (n := h1) (by omega) h0
      have b3 : (m : Int) * (w1 + 1) ≤ 40 * (w1 + 1) := Int.mul_le_mul_of_nonneg_right (by omega) (by omega)
      refine at_val rfl rfl ?_
      refine ⟨_, rfl, _, _, rfl, .inl hS, _, rfl, _, rfl, _, _, _, _, rfl, rfl, hF, atI_of (by decide) rfl, _, rfl, _, _, _, _, rfl, rfl, hF, atI_of (by decide) rfl, _, _, _, _, rfl, (by rw [vS_len, C.hn]; omega), (by rw [vS_len, C.hn]; omega), h0, ?_⟩
      rw [vS_len, C.hn, Int.zero_add]
      refine at_val rfl rfl ?_
      refine at_val rfl rfl ?_
      refine ⟨_, rfl, _, _, _, _, rfl, rfl, hS, ec0, _, rfl, (by rw [tx_len, l0]; exact small40 c4), _, rfl, (by omega), (by rw [tx_len, l0]; omega), ?_⟩
      rw [Int.toNat_natCast, tx_len, l0]
      refine for_range (lo := 0) (n := m) (fun j σ H4 => ∃ (v6 : Option V), σ = [some (.ref a), some (.ref f), some (.int (sumN (fun q => inPick cl m l1 w1 q * met f1 h1 (n : Int) (q : Int)) i)), some (.int (i : Int)), some (.int (met f1 h1 (n : Int) (i : Int))), some (.int (sumN (fun e => if (cl.getD i []).getD e 0 = 35 then met l1 w1 (m : Int) (e : Int) else 0) j)), v6] ∧ H4 = H3) ⟨v6, rfl, rfl⟩ ?_ ?_
      · rintro j σ H4 hj ⟨v6, rfl, rfl⟩
        have hjc : j < cl[i].length := by rw [lci]; exact hj
        have ec2 : atI (tx cl[i]).cps.toList (0 + (j : Int)) = some cl[i][j] := atI_of (by omega) (by rw [z0, tx_list]; exact List.getElem?_eq_getElem hjc)
        have gd2 : (cl.getD i []).getD j 0 = cl[i][j] := by rw [gd]; simp [List.getD, hjc]
        have ec' : atI (vS cl) (i : Int) = some (.str (tx cl[i])) := by rw [Int.zero_add] at ec; exact ec
        refine at_val rfl rfl ?_
        refine ⟨_, rfl, _, rfl, _, _, _, _, rfl, rfl, hS, ec', _, rfl, _, _, _, rfl, rfl, (by rw [tx_len, lci]; exact small40 c4), ec2, rfl, _, rfl, ?_⟩
        refine ite2D (fun h => ?_) (fun h => ?_)
        · have h35 : cl[i][j] = 35 := sg_eq.mp (h.trans e35.symm)
          refine ⟨_, rfl, _, rfl, _, _, _, _, rfl, rfl, hS, ec0, _, rfl, (by rw [tx_len, l0]; exact small40 c4), _, rfl, _, rfl, _, _, _, _, rfl, rfl, hF, atI_of (by decide) rfl, _, rfl, _, _, _, _, rfl, rfl, hF, atI_of (by decide) rfl, _, _, _, _, rfl, (by rw [tx_len, l0]; omega), (by rw [tx_len, l0]; omega), w0, ?_⟩
          rw [tx_len, l0, Int.zero_add]
          refine ⟨_, _, rfl, rfl, ?_⟩
          refine ⟨some (.int (j : Int)), ?_, rfl⟩
          rw [show sumN (fun e => if (cl.getD i []).getD e 0 = 35 then met l1 w1 (m : Int) (e : Int) else 0) (j + 1) = sumN (fun e => if (cl.getD i []).getD e 0 = 35 then met l1 w1 (m : Int) (e : Int) else 0) j + met l1 w1 (m : Int) (j : Int) by
            show _ + (if (cl.getD i []).getD j 0 = 35 then met l1 w1 (m : Int) (j : Int) else 0) = _
            rw [gd2, if_pos h35]]
          rfl
        · have h35 : cl[i][j] ≠ 35 := fun z => h (by rw [z]; exact e35)
          refine ⟨some (.int (0 + (j : Int))), ?_, rfl⟩
          rw [show sumN (fun e => if (cl.getD i []).getD e 0 = 35 then met l1 w1 (m : Int) (e : Int) else 0) (j + 1) = sumN (fun e => if (cl.getD i []).getD e 0 = 35 then met l1 w1 (m : Int) (e : Int) else 0) j by
            show _ + (if (cl.getD i []).getD j 0 = 35 then met l1 w1 (m : Int) (j : Int) else 0) = _
            rw [gd2, if_neg h35, Int.add_zero]]
          rfl
      · rintro σ H4 ⟨v6, rfl, rfl⟩
        have b4 : (inPick cl m l1 w1 i) = sumN (fun e => if (cl.getD i []).getD e 0 = 35 then met l1 w1 (m : Int) (e : Int) else 0) m := rfl
        rw [← b4]
        have p1 : (10 : Int) ^ 60 * 50 < 2 ^ 250 := by decide
        have p2 : (2 : Int) ^ 250 = ((2 ^ 250 : Nat) : Int) := by decide
        refine ⟨_, rfl, _, rfl, _, rfl, _, _, rfl, rfl, ⟨by omega, by omega⟩, _, _, rfl, rfl, ?_⟩
        refine ⟨some (.int (i : Int)), some (.int (met f1 h1 (n : Int) (i : Int))), some (.int (inPick cl m l1 w1 i)), v6, ?_, rfl⟩
        rw [show sumN (fun q => inPick cl m l1 w1 q * met f1 h1 (n : Int) (q : Int)) (i + 1) = sumN (fun q => inPick cl m l1 w1 q * met f1 h1 (n : Int) (q : Int)) i + met f1 h1 (n : Int) (i : Int) * inPick cl m l1 w1 i by
          show _ + inPick cl m l1 w1 i * met f1 h1 (n : Int) (i : Int) = _
          rw [Int.mul_comm (inPick cl m l1 w1 i)]]
        rfl
    · rintro σ H3 ⟨v3, v4, v5, v6, rfl, rfl⟩
      exact ⟨_, rfl, k⟩
theorem at_new {i : Nat} {v : V} {σ σ' : St} {G B : Hp} {a : Addr} {o : HO} {Kt : St → Hp → Prop} (s : Same G B) (n : B a = none) (h : σ.set i (some v) = σ') (k : ∀ N, Same G N → N a = some o → Kt σ' N) : gName i v σ (upd B a o) Kt := by subst h; exact k _ (s.new n) upd_same
def zz60 : List Nat := List.replicate 60 48
def odds : List Str := ["-0 0 1 1", "0 -0 1 1", "0 0 -1 1", "0 0 1 -1", "00 0 1 1", "0 0 1 01", "+1 0 1 1", "0 0 1", "0 0 1 1 1",
  "0 0 1 x", ("0 0 1 1" : Str) ++ tx zz60, "-- 0 1 1", "- 0 1 1", "0 -01 1 1", "0 1_0 1 1", "",
  tx (49 :: zz60) ++ (" 0 1 1" : Str), ("0 -" : Str) ++ tx (49 :: zz60) ++ (" 1 1" : Str), ("0 0 " : Str) ++ tx (49 :: zz60) ++ (" 1" : Str)]
def sp_lodd : Sp := fun vs H Q _ => ∃ c : Int, vs = [.int c] ∧ ∀ z H', z ∈ odds → Same H H' → Q (.str z) H'
theorem ok_law_odd (T : Txt K mg t) : FnOk P w K mg base CX0 1 t.f_law_odd t.d_law_odd ["cell"] sp_lodd := by
  refine T.law_odd.F.ok sc_law_odd (fun vs H Q E h => ?_) (fun cdv A outer s H vs Q E hr h => ?_)
  · obtain ⟨c, rfl, _⟩ := h
    rfl
  · obtain ⟨c, rfl, k⟩ := h
    have hsz : sizeLine = 16777216 := sizeLine_eq
    refine ⟨_, (pss_cons (ps_set (i := 1) sc_law_odd.nd rfl (Or.inl rfl) (pe_lst (pa_cons pe_str (pa_cons pe_str (pa_cons pe_str (pa_cons pe_str (pa_cons pe_str (pa_cons pe_str (pa_cons pe_str (pa_cons pe_str (pa_cons pe_str pa_nil)))))))))))
      (pss_cons (ps_set (i := 1) sc_law_odd.nd rfl (Or.inl rfl) (pe_op op_cat (pv 1) (pe_lst (pa_cons pe_str (pa_cons (pe_op op_add_str pe_str (pe_op op_repS pe_str pe_int)) (pa_cons pe_str (pa_cons pe_str (pa_cons pe_str (pa_cons pe_str (pa_cons pe_str pa_nil))))))))))
      (pss_cons (ps_set (i := 2) sc_law_odd.nd rfl (Or.inl rfl) (pe_op op_add_str pe_str (pe_op op_repS pe_str pe_int)))
      (pss_cons (ps_set (i := 1) sc_law_odd.nd rfl (Or.inl rfl) (pe_op op_cat (pv 1) (pe_lst (pa_cons (pe_op op_add_str (pv 2) pe_str) (pa_cons (pe_op op_add_str (pe_op op_add_str pe_str (pv 2)) pe_str) (pa_cons (pe_op op_add_str (pe_op op_add_str pe_str (pv 2)) pe_str) pa_nil))))))
      (pss_one (ps_ret (pe_ix (ix_listK (K := K)) (pv 1) (pe_op op_mod (pv 0) (pe_callB (call_len_seqK (K := K)) rfl T.b_len bt_len (pa_cons (pv 1) pa_nil))) (fun _ _ => rfl)))))))), ?_⟩
    refine ⟨(by show 9 ≤ sizeLine; decide), fun q0 n0 => ?_⟩
    refine at_new (.refl H) n0 rfl fun H1 s1 h1 => ?_
    have e60 : (List.replicate (60 : Int).toNat [48]).flatten = zz60 := by decide
    refine ⟨_, rfl, [48], 60, rfl, rfl, (by decide), (by decide), (by show 1 * 60 ≤ sizeLine; decide), ?_⟩
    rw [e60]
    refine ⟨_, _, rfl, rfl, (by show 7 + 60 ≤ sizeLine; decide), (by show 7 ≤ sizeLine; decide), fun q1 n1 => ?_⟩
    refine ⟨q0, q1, _, _, rfl, rfl, by rw [upd_ne (ne_of_none h1 n1)]; exact h1, upd_same, (by show 9 + 7 ≤ sizeLine; decide), fun q2 n2 => ?_⟩
    refine at_new (s1.new n1) n2 rfl fun H2 s2 h2 => ?_
    refine ⟨[48], 60, rfl, rfl, (by decide), (by decide), (by show 1 * 60 ≤ sizeLine; decide), ?_⟩
    rw [e60]
    refine ⟨_, _, rfl, rfl, (by show 1 + 60 ≤ sizeLine; decide), ?_⟩
    refine at_val (v' := .str (tx (49 :: zz60))) (congrArg V.str (by decide +kernel)) rfl ?_
    refine ⟨_, rfl, _, rfl, _, _, rfl, rfl, (by show 61 + 6 ≤ sizeLine; decide), ?_⟩
    refine ⟨_, rfl, _, _, rfl, rfl, (by show 3 + 61 ≤ sizeLine; decide), _, _, rfl, rfl, (by show 64 + 4 ≤ sizeLine; decide), ?_⟩
    refine ⟨_, rfl, _, _, rfl, rfl, (by show 4 + 61 ≤ sizeLine; decide), _, _, rfl, rfl, (by show 65 + 2 ≤ sizeLine; decide), ?_⟩
    refine ⟨(by show 3 ≤ sizeLine; decide), fun q3 n3 => ?_⟩
    refine ⟨q2, q3, _, _, rfl, rfl, by rw [upd_ne (ne_of_none h2 n3)]; exact h2, upd_same, (by show 16 + 3 ≤ sizeLine; decide), fun q4 n4 => ?_⟩
    refine at_new (s2.new n3) n4 rfl fun H4 s4 h4 => ?_
    have h4' : H4 q4 = some (.lst (odds.map V.str)) := h4
    have c1 := Int.emod_nonneg c (show (19 : Int) ≠ 0 by decide)
    have c2 := Int.emod_lt_of_pos c (show (0 : Int) < 19 by decide)
    have hlt : (c % 19).toNat < odds.length := by show _ < 19; omega
    have ea : atI (odds.map V.str) (c % 19) = some (.str odds[(c % 19).toNat]) := atI_of c1 (by rw [List.getElem?_map, List.getElem?_eq_getElem hlt]; rfl)
    refine ⟨_, rfl, _, rfl, _, rfl, _, _, rfl, .inl (SqL.of h4'), _, _, rfl, rfl, (by show (0 : Int) < 19; decide), _, _, _, _, rfl, rfl, SqL.of h4', ea, ?_⟩
    exact k _ _ (List.getElem_mem hlt) s4
end
theorem str_decI (i : Int) : Str.ofString (toString i) = tx (decI i) := by
  have e : (Str.ofString (toString i)).cps.toList = decI i := by
    rw [PyProof.Rows.signs_ofString, Int.toString_eq_repr, Int.repr_eq_if]
    unfold decI decN
    by_cases h : i < 0
    · rw [if_pos h]
      split
      · omega
      · rw [String.toList_append, Nat.toList_repr, List.map_append, show (-i).toNat = i.natAbs by omega]
        rfl
    · rw [if_neg h]
      split
      · rw [Nat.toList_repr, show i.toNat = i.natAbs by omega]
      · omega
  rw [← e]
  exact (tx_of _).symm
theorem log_dec {i : Int} (h : i.natAbs < 10 ^ 60) : i.natAbs.log2 < 1920 := by
  by_cases z : i.natAbs = 0
  · rw [z]; decide
  · rw [Nat.log2_lt z]
    refine Nat.lt_of_lt_of_le h ?_
    exact Nat.le_trans (show 10 ^ 60 ≤ 2 ^ 200 by decide) (Nat.pow_le_pow_right (by decide) (by decide))
section
variable {P : Program} {w : World} {K : PySem.W.Frag} {mg : Str → Option Value} {base : Heap} {t : Adr}
def clW : List Nat := [99, 108, 111, 116, 104]
def QL (l : List Nat) (ths : List (List Nat)) : Prop := 10 ∉ l ∧ isQ (trim l) = true ∧ Qok (trim l) ths ∧ l.length ≤ 400
def Wd4 (a : List Nat) : Prop := a ≠ [] ∧ a.length ≤ 61 ∧ ∀ c ∈ a, c = 45 ∨ 48 ≤ c ∧ c ≤ 57
theorem wd4 {i : Int} (h : i.natAbs < 10 ^ 60) : Wd4 (decI i) := ⟨decI_ne i, decI_len h, fun _ hc => decI_dg hc⟩
theorem ql_line {a b c d : List Nat} (ha : Wd4 a) (hb : Wd4 b) (hc : Wd4 c) (hd : Wd4 d) : QL ([63, 32] ++ ovW ++ [32] ++ clW ++ [32] ++ jn 32 [a, b, c, d]) [clW, a, b, c, d] := by
  have n32 : ∀ {x : List Nat}, Wd4 x → 32 ∉ x ∧ 10 ∉ x := fun hx => ⟨fun z => by have := hx.2.2 _ z; omega, fun z => by have := hx.2.2 _ z; omega⟩
  have ej : jn 32 [a, b, c, d] = a ++ 32 :: (b ++ 32 :: (c ++ 32 :: d)) := rfl
  rw [ej]
  have et : trim ([63, 32] ++ ovW ++ [32] ++ clW ++ [32] ++ (a ++ 32 :: (b ++ 32 :: (c ++ 32 :: d)))) = [63, 32] ++ ovW ++ [32] ++ clW ++ [32] ++ (a ++ 32 :: (b ++ 32 :: (c ++ 32 :: d))) := by
    refine trim_id (by show (some 63 : Option Nat) ≠ some 32; decide) ?_
    rw [show [63, 32] ++ ovW ++ [32] ++ clW ++ [32] ++ (a ++ 32 :: (b ++ 32 :: (c ++ 32 :: d))) = ([63, 32] ++ ovW ++ [32] ++ clW ++ [32] ++ (a ++ 32 :: (b ++ 32 :: (c ++ [32])))) ++ d by simp, List.getLast?_append, List.getLast?_eq_some_getLast hd.1]
    intro z
    have z : some (d.getLast hd.1) = some 32 := z
    injection z with z
    exact (n32 hd).1 (z ▸ List.getLast_mem hd.1)
  refine ⟨?_, by rw [et]; rfl, ?_, ?_⟩
  · simp only [List.mem_append, List.mem_cons, List.not_mem_nil, or_false, not_or]
    exact ⟨⟨⟨⟨⟨⟨by decide, by decide⟩, by decide⟩, by decide⟩, by decide⟩, by decide⟩, (n32 ha).2, by decide, (n32 hb).2, by decide, (n32 hc).2, by decide, (n32 hd).2⟩
  · unfold Qok
    rw [et]
    show wrds (32 :: (ovW ++ 32 :: (clW ++ 32 :: (a ++ 32 :: (b ++ 32 :: (c ++ 32 :: d)))))) = _
    rw [wrds_bl, wrds_app _ (by decide) (by decide), wrds_app _ (by decide) (by decide), wrds_app _ (n32 ha).1 ha.1, wrds_app _ (n32 hb).1 hb.1, wrds_app _ (n32 hc).1 hc.1, wrds_one (n32 hd).1 hd.1]
  · have h1 := ha.2.1
    have h2 := hb.2.1
    have h3 := hc.2.1
    have h4 := hd.2.1
    have h5 : ovW.length = 5 := rfl
    have h6 : clW.length = 5 := rfl
    simp only [List.length_append, List.length_cons, List.length_nil]
    omega
theorem ovR_ok {kn : Kns} {ths : List (List Nat)} {nm : List Nat} {l f : Int} {w h : Nat} {x : List (List Nat)} (ep : preO ths = some (nm, l, f, w, h)) (ek : known kn nm = .ok x) : ovR kn ths = .inr (overs x (wdt x) x.length l f w h) := by
  unfold ovR
  simp only [ep, ek]
theorem ovR_no {kn : Kns} {ths : List (List Nat)} {nm : List Nat} {l f : Int} {w h : Nat} {r : Rf} (ep : preO ths = some (nm, l, f, w, h)) (ek : known kn nm = .no r) : ovR kn ths = .inl r := by
  unfold ovR
  simp only [ep, ek]
theorem ans_field {cl : List (List Nat)} {m n : Nat} (C : Cl cl m n) {l f w h : Int} (hl : l.natAbs < 10 ^ 60) (hf : f.natAbs < 10 ^ 60) (w0 : 0 ≤ w) (w1 : w < 10 ^ 60) (h0 : 0 ≤ h) (h1 : h < 10 ^ 60) : ansV [(clW, cl)] [clW, decI l, decI f, decI w, decI h] = [.str "overs", .int (overs cl m n l f w h)] := by
  have e9 : (10 : Int) ^ 60 = ((10 ^ 60 : Nat) : Int) := by decide
  have nd : ∀ {i : Int}, 0 ≤ i → i < 10 ^ 60 → num? (decI i) = some i.natAbs := fun a b => by
    unfold decI
    rw [if_neg (by omega), num_dec (by omega)]
  have ep : preO [clW, decI l, decI f, decI w, decI h] = some (clW, l, f, w.natAbs, h.natAbs) := by
    rw [preO_5, if_pos (by decide), far_dec hl, far_dec hf, nd w0 w1, nd h0 h1]
  have ek : known [(clW, cl)] clW = .ok cl := by
    unfold known
    rw [List.find?_cons_of_pos (by simp)]
  have ew : wdt cl = m := by
    have hc0 : 0 < cl.length := by rw [C.hn]; exact C.n1
    unfold wdt
    cases cl with
    | nil => simp at hc0
    | cons r cl => exact C.hm r (by simp)
  have eo : ovR [(clW, cl)] [clW, decI l, decI f, decI w, decI h] = .inr (overs cl m n l f w h) := by
    rw [ovR_ok ep ek]
    show Sum.inr (overs cl (wdt cl) cl.length l f (w.natAbs : Int) (h.natAbs : Int)) = _
    rw [ew, C.hn, show (w.natAbs : Int) = w by omega, show (h.natAbs : Int) = h by omega]
  unfold ansV
  rw [eo]
def oddB (u : List Nat) : Bool := match wrds (trim ([63] ++ ovW ++ [32] ++ clW ++ [32] ++ u)).tail with
  | a :: ths => decide (a = ovW) && (preO ths).isNone && isQ (trim ([63] ++ ovW ++ [32] ++ clW ++ [32] ++ u)) && !u.contains 10 && decide (u.length ≤ 100)
  | [] => false
theorem odd_all : (odds.all fun z => oddB z.cps.toList) = true := by decide +kernel
theorem odd_ql {z : Str} (h : z ∈ odds) (kn : Kns) : ∃ ths, QL ([63] ++ ovW ++ [32] ++ clW ++ [32] ++ z.cps.toList) ths ∧ ansV kn ths = [.str "refused", .str "NoPattern"] := by
  have := List.all_eq_true.mp odd_all z h
  unfold oddB at this
  split at this
  · rename_i a ths e
    simp only [Bool.and_eq_true, decide_eq_true_eq, Bool.not_eq_true', List.contains_eq_mem, decide_eq_false_iff_not] at this
    obtain ⟨⟨⟨⟨h1, h2⟩, h3⟩, h4⟩, h5⟩ := this
    refine ⟨ths, ⟨?_, h3, by unfold Qok; rw [e, h1], ?_⟩, ?_⟩
    · simp only [List.mem_append, not_or]
      exact ⟨⟨⟨⟨⟨by decide, by decide⟩, by decide⟩, by decide⟩, by decide⟩, h4⟩
    · have h6 : ovW.length = 5 := rfl
      have h7 : clW.length = 5 := rfl
      simp only [List.length_append, List.length_cons, List.length_nil]
      omega
    · unfold ansV ovR
      rw [Option.isNone_iff_eq_none.mp h2]
  · cases this
theorem oth_ql (cl : List (List Nat)) : ∃ ths, QL [32, 63, 111, 118, 101, 114, 115, 32, 32, 99, 108, 111, 116, 104, 115, 32, 49, 32, 49, 32, 49, 32, 49, 32] ths ∧ ansV [(clW, cl)] ths = [.str "refused", .str "Unknown"] := by
  refine ⟨[[99, 108, 111, 116, 104, 115], [49], [49], [49], [49]], ⟨by decide, by decide, by unfold Qok; decide, by decide⟩, ?_⟩
  have ek : known [(clW, cl)] [99, 108, 111, 116, 104, 115] = .no .unk := by
    unfold known
    have hne : ¬ clW = [99, 108, 111, 116, 104, 115] := by decide
    rw [List.find?_cons_of_neg (by simpa using hne)]
    rfl
  unfold ansV
  rw [ovR_no (show preO [[99, 108, 111, 116, 104, 115], [49], [49], [49], [49]] = some ([99, 108, 111, 116, 104, 115], 1, 1, 1, 1) by decide +kernel) ek]
structure Qs (H : Hp) (kn : Kns) (lp dp : Addr) (ls : List (List Nat)) (qs : List (List (List Nat))) (as : List Addr) : Prop where
  l : H lp = some (.lst (vS ls))
  d : H dp = some (.lst (as.map V.ref))
  n1 : ls.length = qs.length
  n2 : as.length = qs.length
  q : ∀ (i : Nat) l ths, ls[i]? = some l → qs[i]? = some ths → QL l ths
  a : ∀ (i : Nat) a ths, as[i]? = some a → qs[i]? = some ths → H a = some (.tup (ansV kn ths))
theorem snoc_at {α : Type} {xs : List α} {x y : α} {i : Nat} (h : (xs ++ [x])[i]? = some y) : xs[i]? = some y ∨ (i = xs.length ∧ x = y) := by
  by_cases c : i < xs.length
  · rw [List.getElem?_append_left c] at h; exact .inl h
  · rw [List.getElem?_append_right (by omega)] at h
    have j0 : i - xs.length = 0 := by
      have := (List.getElem?_eq_some_iff.mp h).1
      rw [List.length_singleton] at this
      omega
    rw [j0] at h
    injection h with h
    exact .inr ⟨by omega, h⟩
theorem Qs.more {H H1 : Hp} {kn : Kns} {lp dp a9 : Addr} {ls : List (List Nat)} {qs : List (List (List Nat))} {as : List Addr} {l : List Nat} {ths : List (List Nat)} (S : Qs H kn lp dp ls qs as) (ne : lp ≠ dp) (hq : QL l ths)
    (h1 : ∀ b o, b ≠ lp → H b = some o → H1 b = some o) (h2 : H1 lp = some (.lst (vS (ls ++ [l])))) (h3 : H1 a9 = some (.tup (ansV kn ths))) : Qs (upd H1 dp (.lst (as.map V.ref ++ [.ref a9]))) kn lp dp (ls ++ [l]) (qs ++ [ths]) (as ++ [a9]) where
  l := by rw [upd_ne ne]; exact h2
  d := by rw [upd_same, List.map_append]; rfl
  n1 := by rw [List.length_append, List.length_append, S.n1]; rfl
  n2 := by rw [List.length_append, List.length_append, S.n2]; rfl
  q := fun i l' ths' e1 e2 => by
    rcases snoc_at e1 with e1 | ⟨rfl, rfl⟩
    · rcases snoc_at e2 with e2 | ⟨e, _⟩
      · exact S.q i _ _ e1 e2
      · have := (List.getElem?_eq_some_iff.mp e1).1
        have := S.n1
        omega
    · rcases snoc_at e2 with e2 | ⟨_, rfl⟩
      · have := (List.getElem?_eq_some_iff.mp e2).1
        have := S.n1
        omega
      · exact hq
  a := fun i a ths' e1 e2 => by
    have nd : ∀ {b : Addr} {xs : List V}, H1 b = some (.tup xs) → b ≠ dp := fun {b xs} hb z => by
      rw [z, h1 dp _ (fun z => ne z.symm) S.d] at hb
      cases hb
    rcases snoc_at e1 with e1 | ⟨rfl, rfl⟩
    · rcases snoc_at e2 with e2 | ⟨e, _⟩
      · have g := S.a i _ _ e1 e2
        have nl : a ≠ lp := fun z => by rw [z, S.l] at g; cases g
        have g1 := h1 _ _ nl g
        rw [upd_ne (nd g1)]
        exact g1
      · have := (List.getElem?_eq_some_iff.mp e1).1
        have := S.n2
        omega
    · rcases snoc_at e2 with e2 | ⟨_, rfl⟩
      · have := (List.getElem?_eq_some_iff.mp e2).1
        have := S.n2
        omega
      · rw [upd_ne (nd h3)]; exact h3
theorem Qs.same {H H1 : Hp} {kn : Kns} {lp dp : Addr} {ls : List (List Nat)} {qs : List (List (List Nat))} {as : List Addr} (S : Qs H kn lp dp ls qs as) (s : Same H H1) : Qs H1 kn lp dp ls qs as := ⟨s _ _ S.l, s _ _ S.d, S.n1, S.n2, S.q, fun i a ths e1 e2 => s _ _ (S.a i a ths e1 e2)⟩
def sp_lques (K : PySem.W.Frag) : Sp := fun vs H Q _ => ∃ (a r : Addr) (ns : List Int) (cl : List (List Nat)) (m n : Nat), vs = [.ref a, .ref r] ∧ SqL K H a (vI ns) ∧ ns.length ≤ 63 ∧ SqL K H r (vS cl) ∧ Cl cl m n ∧
  ∀ p lp dp ls qs as H', Same H H' → H' p = some (.tup [.ref lp, .ref dp]) → Qs H' [(clW, cl)] lp dp ls qs as → 1 ≤ ls.length → ls.length ≤ 20 → H lp = none → H dp = none → Q (.ref p) H'
theorem qpre_tx : (Str.ofString "? overs cloth ") = tx ([63, 32] ++ ovW ++ [32] ++ clW ++ [32]) := by decide +kernel
theorem qpre2_tx : (Str.ofString "?overs cloth ") = tx ([63] ++ ovW ++ [32] ++ clW ++ [32]) := by decide +kernel
theorem qoth_tx : (Str.ofString " ?overs  cloths 1 1 1 1 ") = tx [32, 63, 111, 118, 101, 114, 115, 32, 32, 99, 108, 111, 116, 104, 115, 32, 49, 32, 49, 32, 49, 32, 49, 32] := by decide +kernel
theorem ok_law_questions (T : Txt K mg t) : FnOk P w K mg base CX0 3 t.f_law_questions t.d_law_questions ["script", "rows"] (sp_lques K) := by
  refine T.law_questions.F.ok sc_law_questions (fun vs H Q E h => ?_) (fun cdv A outer s H vs Q E hr h => ?_)
  · obtain ⟨a, r, ns, cl, m, n, rfl, _⟩ := h
    rfl
  · obtain ⟨a, r, ns, cl, m, n, rfl, hS, hl, hR, C, k⟩ := h
    have hsz : sizeLine = 16777216 := sizeLine_eq
    refine ⟨_, (pss_cons (ps_set (i := 2) sc_law_questions.nd rfl (Or.inl rfl) (pe_lst pa_nil))
      (pss_cons (ps_set (i := 3) sc_law_questions.nd rfl (Or.inl rfl) (pe_lst pa_nil))
      (pss_cons (ps_for PassesOwn.never rfl (pi_range1 rfl T.b_range (pa_cons (pe_op op_fdiv (pe_op op_add (pe_callB (call_len_seqK (K := K)) rfl T.b_len bt_len (pa_cons (pe_slice (sl_listK (K := K)) (pv 0) po_none (po_some pe_int)) pa_nil)) pe_int) pe_int) pa_nil)) (pg_name (i := 4) sc_law_questions.nd rfl (Or.inl rfl))
        (pss_cons (ps_set (i := 5) sc_law_questions.nd rfl (Or.inl rfl) (pe_lst (pa_cons (pe_call ((ok_law_place T).mono (by decide)) hr rfl T.law_place.m T.law_place.F.kp T.law_place.b .nil pass0 (pa_cons (pe_ix (ix_listK (K := K)) (pv 0) (pe_op op_mul pe_int (pv 4)) (fun _ _ => rfl)) pa_nil)) (pa_cons (pe_call ((ok_law_place T).mono (by decide)) hr rfl T.law_place.m T.law_place.F.kp T.law_place.b .nil pass0 (pa_cons (pe_call ((ok_law_at T).mono (by decide)) hr rfl T.law_at.m T.law_at.F.kp T.law_at.b .nil pass0 (pa_cons (pv 0) (pa_cons (pe_op op_add (pe_op op_mul pe_int (pv 4)) pe_int) pa_nil))) pa_nil)) pa_nil))))
        (pss_cons (ps_set (i := 5) sc_law_questions.nd rfl (Or.inl rfl) (pe_op op_cat (pv 5) (pe_lst (pa_cons (pe_call ((ok_law_span T).mono (by decide)) hr rfl T.law_span.m T.law_span.F.kp T.law_span.b .nil pass0 (pa_cons (pe_call ((ok_law_at T).mono (by decide)) hr rfl T.law_at.m T.law_at.F.kp T.law_at.b .nil pass0 (pa_cons (pv 0) (pa_cons (pe_op op_add (pe_op op_mul pe_int (pv 4)) pe_int) pa_nil))) pa_nil)) (pa_cons (pe_call ((ok_law_span T).mono (by decide)) hr rfl T.law_span.m T.law_span.F.kp T.law_span.b .nil pass0 (pa_cons (pe_call ((ok_law_at T).mono (by decide)) hr rfl T.law_at.m T.law_at.F.kp T.law_at.b .nil pass0 (pa_cons (pv 0) (pa_cons (pe_op op_add (pe_op op_mul pe_int (pv 4)) pe_int) pa_nil))) pa_nil)) pa_nil)))))
        (pss_cons (ps_expr (pe_bmK (K := K) PySem.F.plainAttrs_list PySem.F.slot_list_append PySem.F.type_list_append mt_append (pv 2) (pa_cons (pe_op op_add_str pe_str (pe_bmK (K := K) PySem.F.plainAttrs_str PySem.F.slot_str_join PySem.F.type_str_join (mt_joinK (K := K)) pe_str (pa_cons (pe_comp (CompOk.mk (caps := []) (Nc := ["number"]) rfl (by decide +kernel) (by decide +kernel) (comp_fr (sc0 := defScope s_law_questions) rfl (by decide +kernel)) rfl rfl rfl (by decide +kernel) (fun _ _ h => by simp at h)) rfl (pi_listK (K := K) (pv 5)) (fun _ _ _ _ _ => .nil) (fun _ _ _ _ _ => (pe_callTy call_str_int rfl T.b_str bt_str (pa_cons (pv 0) pa_nil)))) pa_nil))) pa_nil)))
        (pss_one (ps_expr (pe_bmK (K := K) PySem.F.plainAttrs_list PySem.F.slot_list_append PySem.F.type_list_append mt_append (pv 3) (pa_cons (pe_tup (pa_cons pe_str (pa_cons (pe_call ((ok_law_count T).mono (by decide)) hr rfl T.law_count.m T.law_count.F.kp T.law_count.b .nil pass0 (pa_cons (pv 1) (pa_cons (pv 5) pa_nil))) pa_nil))) pa_nil))))))))
      (pss_cons (ps_if (pt_cmpR op_eq (pe_op op_mod (pe_call ((ok_law_at T).mono (by decide)) hr rfl T.law_at.m T.law_at.F.kp T.law_at.b .nil pass0 (pa_cons (pv 0) (pa_cons pe_int pa_nil))) pe_int) pe_int (nomark _))
        (pss_cons (ps_expr (pe_bmK (K := K) PySem.F.plainAttrs_list PySem.F.slot_list_append PySem.F.type_list_append mt_append (pv 2) (pa_cons pe_str pa_nil)))
        (pss_one (ps_expr (pe_bmK (K := K) PySem.F.plainAttrs_list PySem.F.slot_list_append PySem.F.type_list_append mt_append (pv 3) (pa_cons (pe_tup (pa_cons pe_str (pa_cons pe_str pa_nil))) pa_nil)))))
        (pss_cons (ps_expr (pe_bmK (K := K) PySem.F.plainAttrs_list PySem.F.slot_list_append PySem.F.type_list_append mt_append (pv 2) (pa_cons (pe_op op_add_str pe_str (pe_call ((ok_law_odd T).mono (by decide)) hr rfl T.law_odd.m T.law_odd.F.kp T.law_odd.b .nil pass0 (pa_cons (pe_call ((ok_law_at T).mono (by decide)) hr rfl T.law_at.m T.law_at.F.kp T.law_at.b .nil pass0 (pa_cons (pv 0) (pa_cons pe_int pa_nil))) pa_nil))) pa_nil)))
        (pss_one (ps_expr (pe_bmK (K := K) PySem.F.plainAttrs_list PySem.F.slot_list_append PySem.F.type_list_append mt_append (pv 3) (pa_cons (pe_tup (pa_cons pe_str (pa_cons pe_str pa_nil))) pa_nil))))))
      (pss_one (ps_ret (pe_tup (pa_cons (pv 2) (pa_cons (pv 3) pa_nil))))))))), ?_⟩
    rw [qpre_tx, qpre2_tx, qoth_tx, one_of_bl]
    refine ⟨(by show 0 ≤ sizeLine; decide), fun lp nl => ?_⟩
    refine at_new (.refl H) nl rfl fun H1 s1 h1 => ?_
    refine ⟨(by show 0 ≤ sizeLine; decide), fun dp nd => ?_⟩
    have nld : lp ≠ dp := ne_of_none h1 nd
    have ndH : H dp = none := s1.free nd
    refine at_new (.refl H1) nd rfl fun H2 t2 h2 => ?_
    have s2 := s1.trans t2
    have S0 : Qs H2 [(clW, cl)] lp dp [] [] [] := ⟨t2 _ _ h1, h2, rfl, rfl, fun i l ths e => by simp at e, fun i a ths e => by simp at e⟩
    refine ⟨_, rfl, _, rfl, _, _, rfl, s2.seq hS, fun p0 n0 => ?_⟩
    obtain ⟨zs, ez, zl, zn⟩ : ∃ zs : List Int, cutV (vI ns) none (some 36) = vI zs ∧ zs.length ≤ 36 ∧ zs.length ≤ ns.length := by
      unfold cutV vI
      refine ⟨(ns.drop (HT.sIx (ns.map V.int).length 0 none)).take (HT.sIx (ns.map V.int).length (ns.map V.int).length (some 36) - HT.sIx (ns.map V.int).length 0 none), by rw [← List.map_drop, ← List.map_take], ?_, ?_⟩
      · rw [show (36 : Int) = ((36 : Nat) : Int) from rfl, HT.sIx_nat, HT.sIx_none, List.length_take]
        omega
      · rw [List.length_take, List.length_drop]
        omega
    rw [ez]
    have S1 : Qs (upd H2 p0 (.lst (vI zs))) [(clW, cl)] lp dp [] [] [] := S0.same (.upd n0)
    have s3 : Same H (upd H2 p0 (.lst (vI zs))) := s2.new n0
    have h3 : (upd H2 p0 (.lst (vI zs))) p0 = some (.lst (vI zs)) := upd_same
    generalize upd H2 p0 (.lst (vI zs)) = H3 at S1 s3 h3 ⊢
    refine ⟨_, _, rfl, .inl (SqL.of h3), _, _, rfl, rfl, _, _, rfl, rfl, ⟨by decide, by decide⟩, _, rfl, ?_, ?_, ?_⟩
    · rw [vI_len]; omega
    · rw [vI_len]; omega
    rw [vI_len, show (((zs.length : Int) + 3) / 4).toNat = (zs.length + 3) / 4 by omega]
    refine for_range (lo := 0) (n := (zs.length + 3) / 4) (fun i σ G => ∃ (v4 v5 : Option V) (ls : List (List Nat)) (qs : List (List (List Nat))) (as : List Addr), σ = [some (.ref a), some (.ref r), some (.ref lp), some (.ref dp), v4, v5] ∧ Same H G ∧ Qs G [(clW, cl)] lp dp ls qs as ∧ ls.length = i) ⟨none, none, [], [], [], rfl, s3, S1, rfl⟩ ?_ ?_
    · rintro i σ G hi ⟨v4, v5, ls, qs, as, rfl, sG, S, hli⟩
      refine at_val rfl rfl ?_
      have hlt : 4 * i < ns.length := by omega
      have e2 : (vI ns)[(4 * (0 + (i : Int))).toNat]? = some (.int ns[4 * i]) := by
        rw [show (4 * (0 + (i : Int))).toNat = 4 * i by omega]
        exact vI_get (List.getElem?_eq_getElem hlt)
      refine ⟨_, rfl, _, rfl, _, _, rfl, rfl, .inl ⟨by decide, by decide⟩, _, _, _, _, rfl, rfl, sG.seq hS, atI_of (by omega) e2, _, rfl, fun f1 b1 => ?_⟩
      refine ⟨_, rfl, _, rfl, _, _, rfl, rfl, .inl ⟨by decide, by decide⟩, _, _, rfl, rfl, a, ns, _, rfl, sG.seq hS, (by omega), fun c2 => ?_⟩
      refine ⟨_, rfl, fun f2 b2 => ?_⟩
      refine ⟨(by show 2 ≤ sizeLine; decide), fun fp nf => ?_⟩
      refine at_new (.refl G) nf rfl fun G1 t1 g1 => ?_
      refine ⟨_, rfl, _, rfl, _, rfl, _, _, rfl, rfl, .inl ⟨by decide, by decide⟩, _, _, rfl, rfl, a, ns, _, rfl, (sG.trans t1).seq hS, (by omega), fun c3 => ⟨_, rfl, fun w1 w0 w9 => ?_⟩⟩
      refine ⟨_, rfl, _, rfl, _, _, rfl, rfl, .inl ⟨by decide, by decide⟩, _, _, rfl, rfl, a, ns, _, rfl, (sG.trans t1).seq hS, (by omega), fun c4 => ⟨_, rfl, fun z1 z0 z9 => ?_⟩⟩
      refine ⟨(by show 2 ≤ sizeLine; decide), fun gp ng => ?_⟩
      refine ⟨fp, gp, _, _, rfl, rfl, by rw [upd_ne (ne_of_none g1 ng)]; exact g1, upd_same, (by show 2 + 2 ≤ sizeLine; decide), fun hp nh => ?_⟩
      refine at_new (Same.upd ng) nh rfl fun G2 t2 g2 => ?_
      have g2 : G2 hp = some (.lst (vI [f1, f2, w1, z1])) := g2
      have u2 := t1.trans t2
      have sG2 := sG.trans u2
      have S2 := S.same u2
      have e9 : (10 : Int) ^ 60 = ((10 ^ 60 : Nat) : Int) := by decide
      have d1 := wd4 b1
      have d2 := wd4 b2
      have d3 := wd4 (i := w1) (by omega)
      have d4 := wd4 (i := z1) (by omega)
      have hb : ∀ x ∈ [f1, f2, w1, z1], x.natAbs < 10 ^ 60 := by
        intro x hx
        simp only [List.mem_cons, List.not_mem_nil, or_false] at hx
        rcases hx with rfl | rfl | rfl | rfl
        · exact b1
        · exact b2
        · omega
        · omega
      refine ⟨_, rfl, .inl ⟨rfl, _, SqL.of S2.l⟩, rfl, _, rfl, _, rfl, ⟨_, SqL.of g2⟩, comp_list (K := K) (a := hp) (xs := vI [f1, f2, w1, z1]) (fun j ys G3 => G3 = G2 ∧ ys = vS (([f1, f2, w1, z1].take j).map decI)) ⟨rfl, rfl⟩ ?_ ?_ ?_ ?_⟩
      · rintro j ys G3 hj ⟨rfl, rfl⟩
        refine ⟨SqL.of g2, ?_⟩
        rw [vS_len, List.length_map, List.length_take]
        exact Nat.min_le_left _ _
      · show 4 ≤ sizeLine; decide
      · rintro j xv ys G3 hj hx ⟨rfl, rfl⟩
        obtain ⟨z, hz, rfl⟩ : ∃ z, [f1, f2, w1, z1][j]? = some z ∧ xv = .int z := by
          unfold vI at hx
          rw [List.getElem?_map] at hx
          obtain ⟨z, e, rfl⟩ := Option.map_eq_some_iff.mp hx
          exact ⟨z, e, rfl⟩
        refine CTurn.no ?_
        refine ⟨_, rfl, _, rfl, log_dec (hb z (List.mem_of_getElem? hz)), ?_⟩
        rw [str_decI]
        refine CN.of hj ⟨rfl, ?_⟩
        rw [List.take_add_one, hz, List.map_append]
        unfold vS
        rw [List.map_append]
        rfl
      · rintro ys G3 cp ⟨rfl, rfl⟩ ncp
        have e4 : ([f1, f2, w1, z1].take (vI [f1, f2, w1, z1]).length).map decI = [decI f1, decI f2, decI w1, decI z1] := rfl
        rw [e4]
        have t4 : Same G3 (upd G3 cp (.lst (vS [decI f1, decI f2, decI w1, decI z1]))) := .upd ncp
        have g4 : (upd G3 cp (.lst (vS [decI f1, decI f2, decI w1, decI z1]))) cp = some (.lst (vS [decI f1, decI f2, decI w1, decI z1])) := upd_same
        generalize upd G3 cp (.lst (vS [decI f1, decI f2, decI w1, decI z1])) = G4 at t4 g4 ⊢
        have S4 := S2.same t4
        have sG4 := sG2.trans t4
        have jl : (jn 32 [decI f1, decI f2, decI w1, decI z1]).length ≤ 300 := by
          show (decI f1 ++ 32 :: (decI f2 ++ 32 :: (decI w1 ++ 32 :: decI z1))).length ≤ 300
          have h1 := d1.2.1
          have h2 := d2.2.1
          have h3 := d3.2.1
          have h4 := d4.2.1
          simp only [List.length_append, List.length_cons]
          omega
        refine ⟨_, cp, [decI f1, decI f2, decI w1, decI z1].map tx, rfl, rfl, (by rw [← vS_map]; exact SqL.of g4), ?_, ?_⟩
        · have h1 := d1.2.1
          have h2 := d2.2.1
          have h3 := d3.2.1
          have h4 := d4.2.1
          rw [sum_tx, List.length_map, tx_len]
          simp only [List.map_cons, List.map_nil, List.sum_cons, List.sum_nil, List.length_cons, List.length_nil]
          omega
        rw [join_jn]
        have ql := ql_line d1 d2 d3 d4
        refine ⟨_, _, rfl, rfl, (by rw [tx_len, tx_len]; exact big (by show 14 + _ ≤ _; omega)), ?_⟩
        rw [tx_app]
        generalize [63, 32] ++ ovW ++ [32] ++ clW ++ [32] ++ jn 32 [decI f1, decI f2, decI w1, decI z1] = ln at ql ⊢
        refine ⟨lp, _, _, rfl, rfl, S4.l, (by rw [vS_len]; omega), ?_⟩
        have ev : vS ls ++ [.str (tx ln)] = vS (ls ++ [ln]) := by unfold vS; rw [List.map_append]; rfl
        rw [ev]
        have g5 : (upd G4 lp (.lst (vS (ls ++ [ln])))) lp = some (.lst (vS (ls ++ [ln]))) := upd_same
        have t5 : ∀ b o, b ≠ lp → G4 b = some o → (upd G4 lp (.lst (vS (ls ++ [ln])))) b = some o := fun b o hb e => by rw [upd_ne hb]; exact e
        have sG5 : Same H (upd G4 lp (.lst (vS (ls ++ [ln])))) := sG4.over nl
        have nhl : hp ≠ lp := fun z => by
          have e := t4 _ _ g2
          rw [z, S4.l] at e
          injection e with e
          injection e with e
          have := congrArg (fun l : List V => l[0]?) e
          cases ls with
          | nil => simp [vS, vI] at this
          | cons x ls => simp [vS, vI] at this
        have hF := t5 _ _ nhl (t4 _ _ g2)
        generalize upd G4 lp (.lst (vS (ls ++ [ln]))) = G5 at g5 t5 sG5 hF ⊢
        have hdp : G5 dp = some (.lst (as.map V.ref)) := t5 _ _ (fun z => nld z.symm) S4.d
        refine ⟨_, rfl, .inl ⟨rfl, _, SqL.of hdp⟩, _, rfl, _, rfl, r, hp, cl, m, n, f1, f2, w1, z1, rfl, sG5.seq hR, C, SqL.of hF, w0, w9, z0, z9, ?_⟩
        refine ⟨(by show 2 ≤ sizeLine; decide), fun a9 n9 => ?_⟩
        have sn : ∀ b o, G5 b = some o → (upd G5 a9 (.tup [.str "overs", .int (overs cl m n f1 f2 w1 z1)])) b = some o := Same.upd n9
        refine ⟨dp, _, _, rfl, rfl, sn _ _ hdp, (by rw [List.length_map, S4.n2, ← S4.n1]; omega), ?_⟩
        refine ⟨_, _, ls ++ [ln], _, _, rfl, (sG5.new n9).over ndH, S4.more nld ql (fun b o hb e => sn _ _ (t5 b o hb e)) (sn _ _ g5) (by rw [upd_same, ans_field C b1 b2 w0 w9 z0 z9]), by rw [List.length_append, hli]; rfl⟩
    · rintro σ G ⟨v4, v5, ls, qs, as, rfl, sG, S, hli⟩
      have put : ∀ (ln : List Nat) (ths : List (List Nat)) (x y : Str), QL ln ths → ansV [(clW, cl)] ths = [.str x, .str y] → ∀ (G' : Hp), Same G G' → ∀ a9, (upd G' lp (.lst (vS ls ++ [.str (tx ln)]))) a9 = none →
          (upd G' lp (.lst (vS ls ++ [.str (tx ln)]))) dp = some (.lst (as.map V.ref)) ∧ Same H (upd (upd (upd G' lp (.lst (vS ls ++ [.str (tx ln)]))) a9 (.tup [.str x, .str y])) dp (.lst (as.map V.ref ++ [.ref a9]))) ∧ (upd (upd G' lp (.lst (vS ls ++ [.str (tx ln)]))) a9 (.tup [.str x, .str y])) dp = some (.lst (as.map V.ref)) ∧
          Qs (upd (upd (upd G' lp (.lst (vS ls ++ [.str (tx ln)]))) a9 (.tup [.str x, .str y])) dp (.lst (as.map V.ref ++ [.ref a9]))) [(clW, cl)] lp dp (ls ++ [ln]) (qs ++ [ths]) (as ++ [a9]) := fun ln ths x y ql ea G' t' a9 n9 => by
        have S' := S.same t'
        have ev : vS ls ++ [.str (tx ln)] = vS (ls ++ [ln]) := by unfold vS; rw [List.map_append]; rfl
        rw [ev] at n9 ⊢
        have g5 : (upd G' lp (.lst (vS (ls ++ [ln])))) lp = some (.lst (vS (ls ++ [ln]))) := upd_same
        have t5 : ∀ b o, b ≠ lp → G' b = some o → (upd G' lp (.lst (vS (ls ++ [ln])))) b = some o := fun b o hb e => by rw [upd_ne hb]; exact e
        have sG5 : Same H (upd G' lp (.lst (vS (ls ++ [ln])))) := (sG.trans t').over nl
        generalize upd G' lp (.lst (vS (ls ++ [ln]))) = G5 at g5 t5 sG5 n9 ⊢
        have hdp : G5 dp = some (.lst (as.map V.ref)) := t5 _ _ (fun z => nld z.symm) S'.d
        have sn : ∀ b o, G5 b = some o → (upd G5 a9 (.tup [.str x, .str y])) b = some o := Same.upd n9
        exact ⟨hdp, (sG5.new n9).over ndH, sn _ _ hdp, S'.more nld ql (fun b o hb e => sn _ _ (t5 b o hb e)) (sn _ _ g5) (by rw [upd_same, ea])⟩
      have lb : ls.length + 1 ≤ 20 := by omega
      have sd : as.length < sizeLine := by rw [S.n2, ← S.n1]; omega
      refine ⟨_, rfl, a, ns, 2, rfl, sG.seq hS, (by decide), fun c => ⟨_, _, rfl, rfl, (by show (0 : Int) < 3; decide), rfl, _, rfl, ?_⟩⟩
      refine ite2D (fun c1 => ?_) (fun c1 => ?_)
      · obtain ⟨ths, ql, ea⟩ := oth_ql cl
        have pt := put _ _ _ _ ql ea G (.refl G)
        refine ⟨_, rfl, .inl ⟨rfl, _, SqL.of S.l⟩, lp, _, _, rfl, rfl, S.l, (by rw [vS_len]; omega), ?_⟩
        have hd0 : (upd G lp (.lst (vS ls ++ [.str (tx [32, 63, 111, 118, 101, 114, 115, 32, 32, 99, 108, 111, 116, 104, 115, 32, 49, 32, 49, 32, 49, 32, 49, 32])]))) dp = some (.lst (as.map V.ref)) := by rw [upd_ne (fun z => nld z.symm)]; exact S.d
        refine ⟨_, rfl, .inl ⟨rfl, _, SqL.of hd0⟩, (by show 2 ≤ sizeLine; decide), fun a9 n9 => ?_⟩
        obtain ⟨p1, p2, p3, p4⟩ := pt a9 n9
        refine ⟨dp, _, _, rfl, rfl, p3, (by rw [List.length_map]; exact sd), ?_⟩
        refine ⟨_, rfl, _, rfl, (by show 2 ≤ sizeLine; decide), fun p np => ?_⟩
        exact k p lp dp _ _ _ _ (p2.new np) upd_same (p4.same (.upd np)) (by rw [List.length_append]; simp) (by rw [List.length_append]; exact lb) nl ndH
      · refine ⟨_, rfl, .inl ⟨rfl, _, SqL.of S.l⟩, _, rfl, a, ns, 3, rfl, sG.seq hS, (by decide), fun c3 => ⟨_, rfl, fun z G' hz t' => ?_⟩⟩
        obtain ⟨ths, ql, ea⟩ := odd_ql hz [(clW, cl)]
        have S' := S.same t'
        obtain ⟨u, eu⟩ : ∃ u, z.cps.toList = u := ⟨_, rfl⟩
        have zu : z = tx u := by rw [← eu]; exact (tx_of z).symm
        rw [eu] at ql
        have ul : u.length ≤ 400 := by have := ql.2.2.2; rw [List.length_append] at this; omega
        subst zu
        refine ⟨_, _, rfl, rfl, (by rw [tx_len, tx_len]; exact big (by show 13 + _ ≤ _; omega)), ?_⟩
        rw [tx_app]
        have pt := put _ _ _ _ ql ea G' t'
        generalize [63] ++ ovW ++ [32] ++ clW ++ [32] ++ u = ln at ql pt ⊢
        refine ⟨lp, _, _, rfl, rfl, S'.l, (by rw [vS_len]; omega), ?_⟩
        have hd0 : (upd G' lp (.lst (vS ls ++ [.str (tx ln)]))) dp = some (.lst (as.map V.ref)) := by rw [upd_ne (fun z => nld z.symm)]; exact S'.d
        refine ⟨_, rfl, .inl ⟨rfl, _, SqL.of hd0⟩, (by show 2 ≤ sizeLine; decide), fun a9 n9 => ?_⟩
        obtain ⟨p1, p2, p3, p4⟩ := pt a9 n9
        refine ⟨dp, _, _, rfl, rfl, p3, (by rw [List.length_map]; exact sd), ?_⟩
        refine ⟨_, rfl, _, rfl, (by show 2 ≤ sizeLine; decide), fun p np => ?_⟩
        exact k p lp dp _ _ _ _ (p2.new np) upd_same (p4.same (.upd np)) (by rw [List.length_append]; simp) (by rw [List.length_append]; exact lb) nl ndH
theorem cj_jn : ∀ ys : List (List Nat), ys ≠ [] → cj ys = jn 44 ys := fun ys h => by
  cases ys with
  | nil => exact absurd rfl h
  | cons y ys =>
    have key : ∀ (us : List (List Nat)) (u : List Nat), u ++ (us.map fun y => [44] ++ y).flatten = jn 44 (u :: us) := fun us => by
      induction us with
      | nil => intro u; simp [jn]
      | cons v r ih =>
        intro u
        rw [List.map_cons, List.flatten_cons, List.append_assoc, ih v]
        rfl
    exact key ys y
def bln (cl : List (List Nat)) : List Nat := [99, 108, 111, 116, 104, 32, 61, 32, 114, 111, 119, 115, 40] ++ jn 44 cl ++ [41]
theorem bln_tx : (Str.ofString "cloth = rows(") = tx [99, 108, 111, 116, 104, 32, 61, 32, 114, 111, 119, 115, 40] := by decide +kernel
theorem sg_jn {cl : List (List Nat)} (h : ∀ r ∈ cl, ∀ c ∈ r, Sg c) : ∀ c ∈ jn 44 cl, c = 35 ∨ c = 46 ∨ c = 44 := by
  induction cl with
  | nil => intro c hc; simp [jn] at hc
  | cons r cl ih =>
    intro c hc
    have h1 : ∀ c ∈ r, c = 35 ∨ c = 46 ∨ c = 44 := fun c hc => by rcases h r (by simp) c hc with e | e <;> simp [e]
    cases cl with
    | nil => exact h1 c hc
    | cons v cl =>
      have hc : c ∈ r ++ 44 :: jn 44 (v :: cl) := hc
      rcases List.mem_append.mp hc with e | e
      · exact h1 c e
      · rcases List.mem_cons.mp e with e | e
        · exact .inr (.inr e)
        · exact ih (fun r hr => h r (by simp [hr])) c e
theorem bln_trim (cl : List (List Nat)) : trim (bln cl) = bln cl := by
  refine trim_id (by show (some 99 : Option Nat) ≠ some 32; decide) ?_
  unfold bln
  rw [List.getLast?_append]
  show (some 41 : Option Nat) ≠ some 32
  decide
theorem bln_ok {cl : List (List Nat)} {m n : Nat} (C : Cl cl m n) : Lok [] (bln cl) (clW, cl) := by
  have ne : cl ≠ [] := fun z => by have := C.hn; rw [z] at this; have := C.n1; simp at *; omega
  have W : Wd 12 (.node Pat.rowsW (cl.map Nd.run)) := .rows ne (by rw [C.hn]; exact C.n40) fun r hr => ⟨fun z => by have := C.hm r hr; rw [z] at this; have := C.m1; simp at *; omega, C.sg r hr⟩
  have wh := whole_wt (g := 0) W (wt_wr W)
  have ew : wr 12 (.node Pat.rowsW (cl.map Nd.run)) = wz Pat.rowsW cl := wr_rows
  have eb : wz Pat.rowsW cl = [114, 111, 119, 115, 40] ++ jn 44 cl ++ [41] := by
    unfold wz
    rw [cj_jn cl ne]
    show _ = _
    simp [Pat.rowsW]
  rw [ew, eb] at wh
  refine ⟨[99, 108, 111, 116, 104, 32], 32 :: ([114, 111, 119, 115, 40] ++ jn 44 cl ++ [41]), by unfold bln; simp, by decide, by show trim _ = clW; decide, by show Pat.isName clW = true; decide, by simp, ?_, ?_⟩
  · have et : trim (32 :: ([114, 111, 119, 115, 40] ++ jn 44 cl ++ [41])) = [114, 111, 119, 115, 40] ++ jn 44 cl ++ [41] := by
      have e1 : trim (32 :: ([114, 111, 119, 115, 40] ++ jn 44 cl ++ [41])) = trim ([114, 111, 119, 115, 40] ++ jn 44 cl ++ [41]) := by
        unfold trim
        rw [List.dropWhile_cons_of_pos (by decide)]
      rw [e1]
      refine trim_id (by show (some 114 : Option Nat) ≠ some 32; decide) ?_
      rw [List.getLast?_append]
      show (some 41 : Option Nat) ≠ some 32
      decide
    rw [et]
    exact wh
  · have ewd : wdt cl = m := by
      have hc0 : 0 < cl.length := by rw [C.hn]; exact C.n1
      unfold wdt
      cases cl with
      | nil => simp at hc0
      | cons r cl => exact C.hm r (by simp)
    unfold mRows
    rw [if_neg, if_neg (by rw [ewd, C.hn]; have := C.m40; have := C.n40; omega)]
    rw [ewd, Bool.not_eq_true, List.any_eq_false]
    intro b hb
    obtain ⟨r, hr, rfl⟩ := List.mem_map.mp hb
    rw [C.hm r hr]
    simp
theorem bln_no {cl : List (List Nat)} {m n : Nat} (C : Cl cl m n) : 10 ∉ bln cl ∧ isQ (bln cl) = false := by
  refine ⟨fun z => ?_, rfl⟩
  unfold bln at z
  rcases List.mem_append.mp z with z | z
  · rcases List.mem_append.mp z with z | z
    · exact absurd z (by decide)
    · have := sg_jn C.sg 10 z; omega
  · exact absurd z (by decide)
theorem bln_len {cl : List (List Nat)} {m n : Nat} (C : Cl cl m n) (h1 : m ≤ 7) (h2 : n ≤ 7) : (bln cl).length ≤ 400 := by
  have ne : cl ≠ [] := fun z => by have := C.hn; rw [z] at this; have := C.n1; simp at *; omega
  have e := jn_sum 44 cl ne
  have : ∀ l : List (List Nat), (∀ r ∈ l, r.length = m) → (l.map List.length).sum = l.length * m := fun l => by
    induction l with
    | nil => intro _; simp
    | cons r l ih =>
      intro h
      rw [List.map_cons, List.sum_cons, ih (fun r hr => h r (by simp [hr])), h r (by simp), List.length_cons, Nat.succ_mul]
      omega
  rw [this cl C.hm, C.hn] at e
  have : n * m ≤ 7 * 7 := Nat.mul_le_mul h2 h1
  unfold bln
  simp only [List.length_append, List.length_cons, List.length_nil]
  omega
theorem vS_cat9 (x y : List (List Nat)) : vS x ++ vS y = vS (x ++ y) := List.map_append.symm
theorem cut_to9 {ls : List (List Nat)} {k : Nat} (h : k ≤ ls.length) : cutV (vS ls) none (some (k : Int)) = vS (ls.take k) := by
  unfold cutV
  rw [HT.sIx_none, HT.sIx_nat, List.drop_zero, vS_len, Nat.min_eq_left h, Nat.sub_zero]
  unfold vS
  rw [List.map_take]
theorem cut_of9 {ls : List (List Nat)} {k : Nat} (h : k ≤ ls.length) : cutV (vS ls) (some (k : Int)) none = vS (ls.drop k) := by
  unfold cutV
  rw [HT.sIx_none, HT.sIx_nat, vS_len, Nat.min_eq_left h]
  unfold vS
  rw [← List.map_drop]
  exact List.take_of_length_le (by rw [List.length_map, List.length_drop]; exact Nat.le_refl _)
theorem ans_len (kn : Kns) (ths : List (List Nat)) : ∃ x y, ansV kn ths = [.str x, y] ∧ ((∃ i, y = .int i) ∨ ∃ z, y = .str z) := by
  unfold ansV
  split
  · exact ⟨_, _, rfl, .inl ⟨_, rfl⟩⟩
  · exact ⟨_, _, rfl, .inr ⟨_, rfl⟩⟩
  · exact ⟨_, _, rfl, .inr ⟨_, rfl⟩⟩
def sp_law (K : PySem.W.Frag) : Sp := fun vs H Q _ => ∃ (a : Addr) (ns : List Int), vs = [.ref a] ∧ SqL K H a (vI ns) ∧ ns.length ≤ 63 ∧ ∀ H', Q (.bl true) H'
theorem sp_law_holds {K : PySem.W.Frag} {H : Hp} {a : Addr} {ns : List Int} (hl : ns.length ≤ 63) (hS : SqL K H a (ns.map V.int)) : sp_law K [.ref a] H (fun v _ => v = .bl true) fun _ _ _ => False := ⟨a, ns, rfl, hS, hl, fun _ => rfl⟩
theorem ok_law (T : Txt K mg t) : FnOk P w K mg base CX0 36 t.f_law t.d_law ["script"] (sp_law K) := by
  have G_law_at : FnOk P w K mg base CX0 1 t.f_law_at t.d_law_at _ _ := ok_law_at T
  have G_law_cloth : FnOk P w K mg base CX0 2 t.f_law_cloth t.d_law_cloth _ _ := ok_law_cloth T
  have G_law_questions : FnOk P w K mg base CX0 3 t.f_law_questions t.d_law_questions _ _ := ok_law_questions T
  have G_answers_to : FnOk P w K mg base (CX1 P w) 35 t.f_answers_to t.d_answers_to _ _ := okx_answers_to T
  refine T.law.F.ok sc_law (fun vs H Q E h => ?_) (fun cdv A outer s H vs Q E hr h => ?_)
  · obtain ⟨a, ns, rfl, _⟩ := h
    rfl
  · obtain ⟨a, ns, rfl, hS, hl, k⟩ := h
    have hsz : sizeLine = 16777216 := sizeLine_eq
    refine ⟨_, (pss_cons (ps_set (i := 1) sc_law.nd rfl (Or.inl rfl) (pe_call (G_law_cloth.mono (by decide)) hr rfl T.law_cloth.m T.law_cloth.F.kp T.law_cloth.b .nil pass0 (pa_cons (pv 0) pa_nil)))
      (pss_cons (ps_asg (pe_call (G_law_questions.mono (by decide)) hr rfl T.law_questions.m T.law_questions.F.kp T.law_questions.b .nil pass0 (pa_cons (pv 0) (pa_cons (pv 1) pa_nil))) (pg_tup rfl (pgs_cons (pg_name (i := 2) sc_law.nd rfl (Or.inl rfl)) (pgs_cons (pg_name (i := 3) sc_law.nd rfl (Or.inl rfl)) pgs_nil))))
      (pss_cons (ps_set (i := 4) sc_law.nd rfl (Or.inl rfl) (pe_op op_mod (pe_call (G_law_at.mono (by decide)) hr rfl T.law_at.m T.law_at.F.kp T.law_at.b .nil pass0 (pa_cons (pv 0) (pa_cons pe_int pa_nil))) (pe_op op_add (pe_callB (call_len_seqK (K := K)) rfl T.b_len bt_len (pa_cons (pv 2) pa_nil)) pe_int)))
      (pss_cons (ps_set (i := 2) sc_law.nd rfl (Or.inl rfl) (pe_op op_cat (pe_op op_cat (pe_slice (sl_listK (K := K)) (pv 2) po_none (po_some (pv 4))) (pe_lst (pa_cons (pe_op op_add_str (pe_op op_add_str pe_str (pe_bmK (K := K) PySem.F.plainAttrs_str PySem.F.slot_str_join PySem.F.type_str_join (mt_joinK (K := K)) pe_str (pa_cons (pv 1) pa_nil))) pe_str) pa_nil))) (pe_slice (sl_listK (K := K)) (pv 2) (po_some (pv 4)) po_none)))
      (pss_cons (ps_set (i := 5) sc_law.nd rfl (Or.inl rfl) (pe_call (G_answers_to.mono (by decide)) hr rfl T.answers_to.m T.answers_to.F.kp T.answers_to.b .nil passF (pa_cons (pe_bmK (K := K) PySem.F.plainAttrs_str PySem.F.slot_str_join PySem.F.type_str_join (mt_joinK (K := K)) pe_str (pa_cons (pv 2) pa_nil)) pa_nil)))
      (pss_cons (ps_if (PW.pt (pw_or (pt_not (pt_val (pe_callB (call_isiK (K := K)) rfl T.b_isinstance bt_isinstance (pa_cons (pv 5) (pa_cons (pe_bltn (v := .ty "list") rfl T.b_list bt_list rfl) pa_nil))))) (pw_or1 (pt_cmpR op_ne (pe_callB (call_len_seqK (K := K)) rfl T.b_len bt_len (pa_cons (pv 5) pa_nil)) (pe_callB (call_len_seqK (K := K)) rfl T.b_len bt_len (pa_cons (pv 3) pa_nil)) (nomark _)))))
        (pss_one (ps_ret pe_bl))
        pss_nil)
      (pss_cons (ps_for PassesOwn.never rfl (pi_listK (K := K) (pv 5)) (pg_name (i := 6) sc_law.nd rfl (Or.inl rfl))
        (pss_one (ps_if (PW.pt (pw_or (pt_not (pt_val (pe_callB (call_isiK (K := K)) rfl T.b_isinstance bt_isinstance (pa_cons (pv 6) (pa_cons (pe_bltn (v := .ty "tuple") rfl T.b_tuple bt_tuple rfl) pa_nil))))) (pw_or (pt_cmpR op_ne (pe_callB (call_len_seqK (K := K)) rfl T.b_len bt_len (pa_cons (pv 6) pa_nil)) pe_int (nomark _)) (pw_or1 (pt_val (pe_callB (call_isiK (K := K)) rfl T.b_isinstance bt_isinstance (pa_cons (pe_ix (ix_tupK (K := K)) (pv 6) pe_int (fun _ _ => rfl)) (pa_cons (pe_bltn (v := .ty "bool") rfl T.b_bool bt_bool rfl) pa_nil))))))))
          (pss_one (ps_ret pe_bl))
          pss_nil)))
      (pss_one (ps_ret (pe_cmpR (op_eqS (K := K) (hr.units100)) (pv 5) (pv 3) (nomark _))))))))))), ?_⟩
    rw [bln_tx, one_of_nl, show (Str.ofString ",") = tx [44] by decide +kernel, show (Str.ofString ")") = tx [41] by decide +kernel]
    refine ⟨_, rfl, a, ns, rfl, hS, hl, fun r cl m n H1 s1 hr1 C m7 n7 => ?_⟩
    refine at_val rfl rfl ?_
    refine ⟨_, rfl, _, rfl, a, r, ns, cl, m, n, rfl, s1.seq hS, hl, SqL.of hr1, C, fun p lp dp ls qs as H2 s2 hp S l1 l20 nlp ndp => ?_⟩
    refine ⟨p, _, rfl, SqT.of hp, rfl, _, _, rfl, _, _, rfl, rfl, ?_⟩
    have s12 := s1.trans s2
    refine ⟨_, rfl, a, ns, 4, rfl, s12.seq hS, (by decide), fun c => ?_⟩
    refine ⟨_, rfl, _, _, rfl, .inl (SqL.of S.l), _, _, rfl, rfl, _, _, rfl, rfl, (by rw [vS_len]; omega), ?_⟩
    rw [vS_len]
    have c1 := Int.emod_nonneg c (show ((ls.length : Int) + 1) ≠ 0 by omega)
    have c2 := Int.emod_lt_of_pos c (show (0 : Int) < (ls.length : Int) + 1 by omega)
    obtain ⟨kk, ek⟩ : ∃ kk : Nat, c % ((ls.length : Int) + 1) = (kk : Int) := ⟨_, (Int.toNat_of_nonneg c1).symm⟩
    have hk : kk ≤ ls.length := by omega
    refine at_val (congrArg V.int ek) rfl ?_
    refine ⟨_, rfl, _, rfl, _, rfl, _, _, rfl, SqL.of S.l, fun p1 n1 => ?_⟩
    rw [cut_to9 hk]
    have S3 := S.same (.upd (o := .lst (vS (ls.take kk))) n1)
    have s3 : Same H1 (upd H2 p1 (.lst (vS (ls.take kk)))) := s2.new n1
    have h3 : (upd H2 p1 (.lst (vS (ls.take kk)))) p1 = some (.lst (vS (ls.take kk))) := upd_same
    generalize upd H2 p1 (.lst (vS (ls.take kk))) = H3 at S3 s3 h3 ⊢
    have cne : cl ≠ [] := fun z => by have := C.hn; rw [z] at this; have := C.n1; simp at *; omega
    have js := jn_sum 44 cl cne
    have bl := bln_len C m7 n7
    have bl2 : (jn 44 cl).length ≤ 400 := by unfold bln at bl; rw [List.length_append, List.length_append] at bl; omega
    refine ⟨rfl, _, rfl, _, r, cl.map tx, rfl, rfl, (by rw [← vS_map]; exact SqL.of (s3 _ _ hr1)), ?_, ?_⟩
    · rw [sum_tx, List.length_map, tx_len]
      show _ + _ * 1 ≤ _
      omega
    rw [join_jn]
    refine ⟨_, _, rfl, rfl, (by rw [tx_len, tx_len]; exact big (by show 13 + _ ≤ _; omega)), ?_⟩
    rw [tx_app]
    refine ⟨_, _, rfl, rfl, (by rw [tx_len, tx_len]; exact big (by rw [List.length_append]; show 13 + _ + 1 ≤ _; omega)), ?_⟩
    rw [tx_app]
    rw [show [99, 108, 111, 116, 104, 32, 61, 32, 114, 111, 119, 115, 40] ++ jn 44 cl ++ [41] = bln cl from rfl]
    refine ⟨(by show 1 ≤ sizeLine; decide), fun p2 n2 => ?_⟩
    have S4 := S3.same (.upd (o := .lst [.str (tx (bln cl))]) n2)
    have t4 : Same H3 (upd H3 p2 (.lst [.str (tx (bln cl))])) := .upd n2
    have h4 : (upd H3 p2 (.lst [.str (tx (bln cl))])) p2 = some (.lst (vS [bln cl])) := upd_same
    generalize upd H3 p2 (.lst [.str (tx (bln cl))]) = H4 at S4 t4 h4 ⊢
    have tk : (ls.take kk).length ≤ 20 := by rw [List.length_take]; omega
    have dk : (ls.drop kk).length ≤ 20 := by rw [List.length_drop]; omega
    refine ⟨p1, p2, _, _, rfl, rfl, t4 _ _ h3, h4, (by rw [vS_len, vS_len]; show _ + 1 ≤ _; omega), fun p3 n3 => ?_⟩
    rw [vS_cat9]
    have S5 := S4.same (.upd (o := .lst (vS (ls.take kk ++ [bln cl]))) n3)
    have t5 : Same H4 (upd H4 p3 (.lst (vS (ls.take kk ++ [bln cl])))) := .upd n3
    have h5 : (upd H4 p3 (.lst (vS (ls.take kk ++ [bln cl])))) p3 = some (.lst (vS (ls.take kk ++ [bln cl]))) := upd_same
    generalize upd H4 p3 (.lst (vS (ls.take kk ++ [bln cl]))) = H5 at S5 t5 h5 ⊢
    refine ⟨_, rfl, _, rfl, _, rfl, _, _, rfl, SqL.of S5.l, fun p4 n4 => ?_⟩
    rw [cut_of9 hk]
    have S6 := S5.same (.upd (o := .lst (vS (ls.drop kk))) n4)
    have t6 : Same H5 (upd H5 p4 (.lst (vS (ls.drop kk)))) := .upd n4
    have h6 : (upd H5 p4 (.lst (vS (ls.drop kk)))) p4 = some (.lst (vS (ls.drop kk))) := upd_same
    generalize upd H5 p4 (.lst (vS (ls.drop kk))) = H6 at S6 t6 h6 ⊢
    refine ⟨p3, p4, _, _, rfl, rfl, t6 _ _ h5, h6, (by rw [vS_len, vS_len, List.length_append, List.length_singleton]; omega), fun p5 n5 => ?_⟩
    rw [vS_cat9]
    refine at_new (.refl H6) n5 rfl fun H7 t7 h7 => ?_
    have S7 := S6.same t7
    have lsn : ∀ l ∈ ls, ∃ ths, QL l ths := fun l hl => by
      obtain ⟨i, hi⟩ := List.mem_iff_getElem?.mp hl
      have hq : i < qs.length := by rw [← S.n1]; exact (List.getElem?_eq_some_iff.mp hi).1
      exact ⟨_, S.q i l _ hi (List.getElem?_eq_getElem hq)⟩
    have hmem : ∀ l ∈ ls.take kk ++ [bln cl] ++ ls.drop kk, l ∈ ls ∨ l = bln cl := fun l hl => by
      rcases List.mem_append.mp hl with h | h
      · rcases List.mem_append.mp h with h | h
        · exact .inl (List.mem_of_mem_take h)
        · exact .inr (List.mem_singleton.mp h)
      · exact .inl (List.mem_of_mem_drop h)
    have l400 : ∀ l ∈ ls.take kk ++ [bln cl] ++ ls.drop kk, l.length ≤ 400 := fun l hl => by
      rcases hmem l hl with h | h
      · obtain ⟨ths, q⟩ := lsn l h; exact q.2.2.2
      · rw [h]; exact bl
    have len21 : (ls.take kk ++ [bln cl] ++ ls.drop kk).length ≤ 21 := by
      rw [List.length_append, List.length_append, List.length_singleton, List.length_take, List.length_drop]
      omega
    have sum9 : ∀ l : List (List Nat), (∀ r ∈ l, r.length ≤ 400) → (l.map List.length).sum ≤ l.length * 400 := fun l => by
      induction l with
      | nil => intro _; simp
      | cons r l ih =>
        intro h
        have h1 := ih (fun r hr => h r (by simp [hr]))
        have h2 := h r (by simp)
        rw [List.map_cons, List.sum_cons, List.length_cons, Nat.succ_mul]
        omega
    have sm := sum9 _ l400
    have nne : ls.take kk ++ [bln cl] ++ ls.drop kk ≠ [] := by simp
    have jl := jn_sum 10 _ nne
    have tq : ∀ l ∈ ls, isQ (trim l) = true := fun l hl => by obtain ⟨ths, q⟩ := lsn l hl; exact q.2.1
    have fq : ∀ l' : List (List Nat), (∀ l ∈ l', l ∈ ls) → (l'.map trim).filter (fun l => !isQ l) = [] ∧ (l'.map trim).filter isQ = l'.map trim := fun l' h => by
      constructor
      · rw [List.filter_eq_nil_iff]
        intro x hx
        obtain ⟨l, hl, rfl⟩ := List.mem_map.mp hx
        rw [tq l (h l hl)]
        decide
      · rw [List.filter_eq_self]
        intro x hx
        obtain ⟨l, hl, rfl⟩ := List.mem_map.mp hx
        exact tq l (h l hl)
    have f1 := fq (ls.take kk) (fun l h => List.mem_of_mem_take h)
    have f2 := fq (ls.drop kk) (fun l h => List.mem_of_mem_drop h)
    have bn := bln_no C
    have eB : ((ls.take kk ++ [bln cl] ++ ls.drop kk).map trim).filter (fun l => !isQ l) = [bln cl] := by
      rw [List.map_append, List.map_append, List.filter_append, List.filter_append, f1.1, f2.1]
      show [] ++ List.filter _ [trim (bln cl)] ++ [] = _
      rw [bln_trim, List.filter_cons_of_pos (by rw [bn.2]; rfl)]
      rfl
    have eQ : ((ls.take kk ++ [bln cl] ++ ls.drop kk).map trim).filter isQ = ls.map trim := by
      rw [List.map_append, List.map_append, List.filter_append, List.filter_append, f1.2, f2.2]
      show (ls.take kk).map trim ++ List.filter _ [trim (bln cl)] ++ (ls.drop kk).map trim = _
      rw [bln_trim, List.filter_cons_of_neg (by rw [bn.2]; decide), List.filter_nil, List.append_nil, ← List.map_append, List.take_append_drop]
    refine ⟨rfl, _, rfl, _, p5, (ls.take kk ++ [bln cl] ++ ls.drop kk).map tx, rfl, rfl, (by rw [← vS_map]; exact SqL.of h7), ?_, ?_⟩
    · rw [sum_tx, List.length_map, tx_len]
      show _ + _ * 1 ≤ _
      omega
    rw [join_jn]
    refine ⟨_, _, [(clW, cl)], qs, rfl, (by omega), nne, rfl, fun l hl => ?_, (by omega), (by rw [eB]; exact .line (by rw [bln_trim]; show ¬ (some 99 : Option Nat) = some 59; decide) (by rw [bln_trim]; exact bln_ok C) .nil), (by rw [eB]; simp), fun q hq => ?_, (by rw [eQ, List.length_map]; exact S.n1), fun i l ths e1 e2 => ?_, fun fp as2 H8 s8 h8 n8 a8 => ?_⟩
    · rcases hmem l hl with h | h
      · obtain ⟨ths, q⟩ := lsn l h; exact q.1
      · rw [h]; exact bn.1
    · rw [List.mem_singleton.mp hq]
      exact C.clo
    · rw [eQ, List.getElem?_map] at e1
      obtain ⟨l0, e0, rfl⟩ := Option.map_eq_some_iff.mp e1
      exact (S.q i l0 ths e0 e2).2.2.1
    refine at_val rfl rfl ?_
    have S8 := S7.same s8
    refine ⟨_, rfl, _, _, true, .lst h8, .inl ⟨_, rfl, kit_same K "list"⟩, _, rfl, ?_⟩
    refine iteF ?_
    refine ⟨_, rfl, _, _, rfl, .inl (SqL.of h8), _, rfl, _, _, rfl, .inl (SqL.of S8.d), rfl, _, rfl, ?_⟩
    refine iteNS (by rw [List.length_map, List.length_map, n8, S.n2]) ?_
    refine ⟨_, rfl, _, rfl, ⟨_, SqL.of h8⟩, for_list (K := K) (a := fp) (xs := as2.map V.ref) (fun i σ G => ∃ v6, σ = [some (.ref a), some (.ref r), some (.ref p5), some (.ref dp), some (.int (kk : Int)), some (.ref fp), v6] ∧ G = H8) ⟨none, rfl, rfl⟩ (fun i σ G _ ⟨_, _, e⟩ => by rw [e]; exact SqL.of h8) ?_ ?_⟩
    · rintro i xv σ G hx ⟨v6, rfl, rfl⟩
      rw [List.getElem?_map] at hx
      obtain ⟨a9, e9, rfl⟩ := Option.map_eq_some_iff.mp hx
      have hq : i < qs.length := by rw [← n8]; exact (List.getElem?_eq_some_iff.mp e9).1
      have g9 := a8 i a9 _ e9 (List.getElem?_eq_getElem hq)
      obtain ⟨x, y, exy, hy⟩ := ans_len [(clW, cl)] qs[i]
      rw [exy] at g9
      refine at_val rfl rfl ?_
      refine ⟨_, rfl, _, _, true, .tup g9, .inl ⟨_, rfl, kit_same K "tuple"⟩, _, rfl, ?_⟩
      refine iteF ?_
      refine ⟨_, rfl, _, _, rfl, .inr (SqT.of g9), rfl, _, rfl, ?_⟩
      refine iteNS rfl ?_
      refine ⟨_, rfl, _, _, _, _, rfl, rfl, SqT.of g9, atI_of (by decide) rfl, ?_⟩
      rcases hy with ⟨z, rfl⟩ | ⟨z, rfl⟩
      · exact ⟨_, _, false, .int _, .inl ⟨_, rfl, kit_ib K⟩, _, rfl, iteF ⟨_, rfl, rfl⟩⟩
      · exact ⟨_, _, false, .str _, .inl ⟨_, rfl, rfl⟩, _, rfl, iteF ⟨_, rfl, rfl⟩⟩
    · rintro σ G ⟨v6, rfl, rfl⟩
      refine ⟨_, rfl, _, rfl, fp, dp, rfl, rfl, ⟨_, _, SqL.of h8, SqL.of S8.d, by rw [List.length_map, List.length_map, n8, S.n2], fun i x y g1 g2 => ?_⟩, k _⟩
      rw [List.getElem?_map] at g1 g2
      obtain ⟨b1, e1, rfl⟩ := Option.map_eq_some_iff.mp g1
      obtain ⟨b2, e2, rfl⟩ := Option.map_eq_some_iff.mp g2
      have hq : i < qs.length := by rw [← n8]; exact (List.getElem?_eq_some_iff.mp e1).1
      have q1 := a8 i b1 _ e1 (List.getElem?_eq_getElem hq)
      have q2 := S8.a i b2 _ e2 (List.getElem?_eq_getElem hq)
      obtain ⟨x, y, exy, hy⟩ := ans_len [(clW, cl)] qs[i]
      rw [exy] at q1 q2
      refine .tup (SqT.of q1) (SqT.of q2) rfl fun j u v f1 f2 => ?_
      rw [f1] at f2
      cases f2
      rcases j with _ | _ | j
      · cases f1; exact .flat rfl
      · cases f1; rcases hy with ⟨z, rfl⟩ | ⟨z, rfl⟩ <;> exact .flat rfl
      · simp at f1
end
theorem law_go {P : Program} {w : World} {K : PySem.W.Frag} {mg : Str → Option Value} {fa : Addr} {t : Adr} (hfa : mg "law" = some (.ref fa)) (T : Txt K mg t) : ∃ fd : FuncData, (∀ (s : Shared) (v : Value), BindsTo s fd ⟨[v], []⟩ [("script", v)]) ∧ ∀ base : Heap, K.In base → base.Ns mainGlobals mg → FnOk P w K mg base CX0 36 fa fd ["script"] (sp_law K) := by
  have e := hfa.symm.trans T.law.m
  injection e with e
  injection e with e
  subst e
  obtain ⟨oc, od, kV, doc, pm, an, cdv, ct, osl, e1, lk, hcd⟩ := T.law.F.ex
  exact ⟨t.d_law, fun s v => by rw [e1]; exact .of_eq rfl, fun base _ _ => ok_law T⟩
end Mine
open PySem PySem.W PyProof.Rows
def PySem.W.Fast.tw9333833628694140778 := ()
def PySem.W.Fast.tw17177766793506382719 := ()
def PySem.W.Fast.tw11043076380047477468 := ()
def PySem.W.Fast.tw5464976313928898628 := ()
def PySem.W.Fast.tw11611535610481208219 := ()
def PySem.W.Fast.tw8604564201915321712 := ()
def PySem.W.Fast.tw1927046114568538353 := ()
def PySem.W.Fast.tw14556383292171780701 := ()
def PySem.W.Fast.tw14562172357279293479 := ()
def PySem.W.Fast.tw3130424298716595805 := ()
def PySem.W.Fast.tw867510895869909028 := ()
def PySem.W.Fast.tw2993222513677869255 := ()
def PySem.W.Fast.tw13344039440784900042 := ()
def PySem.W.Fast.tw14545632127502549428 := ()
def PySem.W.Fast.tw7430610453860014739 := ()
def PySem.W.Fast.tw2739663019857074153 := ()
def PySem.W.Fast.tw15160601077818824839 := ()
def PySem.W.Fast.tw2963313625027938230 := ()
def PySem.W.Fast.tw9779788648863706557 := ()
def PySem.W.Fast.tw13021141702137796403 := ()
def PySem.W.Fast.tw17061167069794338776 := ()
def PySem.W.Fast.tw9325661650064913427 := ()
def PySem.W.Fast.tw17086992929213738944 := ()
def PySem.W.Fast.tw9169400787879349622 := ()
def PySem.W.Fast.tw15392429469206262366 := ()
def PySem.W.Fast.tw773398967297152681 := ()
def PySem.W.Fast.tw6729284609524407940 := ()
def PySem.W.Fast.tw14299125574535728543 := ()
def PySem.W.Fast.tw14459804767195075365 := ()
def PySem.W.Fast.tw6740569432424924892 := ()
def PySem.W.Fast.tw16509187470744263280 := ()
def PySem.W.Fast.tw9501161199084546031 := ()
def PySem.W.Fast.tw15989735387653950792 := ()
def PySem.W.Fast.tw141606085624230 := ()
def PySem.W.Fast.tw8269148139537355856 := ()
def PySem.W.Fast.tw6788446541209443398 := ()
def PySem.W.Fast.tw10919972490604681070 := ()
def PySem.W.Fast.tw16845903846245937916 := ()
def PySem.W.Fast.tw13881494331727607038 := ()
def PySem.W.Fast.tw11400447884841704571 := ()
def PySem.W.Fast.tw18305571996589400588 := ()
def PySem.W.Fast.tw15506163188849668360 := ()
def PySem.W.Fast.tw17711852171348889170 := ()
def PySem.W.Fast.tw13214130436559460385 := ()
def PySem.W.Fast.tw2632176799822769638 := ()
def PySem.W.Fast.tw1952096470394329082 := ()
def PySem.W.Fast.tw4333363070910727809 := ()
def PySem.W.Fast.tw3704185278140838204 := ()
def PySem.W.Fast.tw10138827116019451685 := ()
def PySem.W.Fast.tw16721857279269868183 := ()
def PySem.W.Fast.tw3989703329712623639 := ()
def PySem.W.Fast.tw1567606799654165159 := ()
def PySem.W.Fast.tw2172168986411850012 := ()
def PySem.W.Fast.tw16269824892682403578 := ()
def PySem.W.Fast.tw6696989361594392463 := ()
def PySem.W.Fast.tw419629033325284681 := ()
def PySem.W.Fast.tw1675160247460660442 := ()
def PySem.W.Fast.tw9821354436811661521 := ()
def PySem.W.Fast.tw15155998108195257795 := ()
def PySem.W.Fast.tw5538095753109174188 := ()
def PySem.W.Fast.tw1672006184452882216 := ()
def PySem.W.Fast.tw4530895842012528904 := ()
def PySem.W.Fast.tw856628738758980789 := ()
def PySem.W.Fast.tw1109663335440016037 := ()
def PySem.W.Fast.tw13604973410567311918 := ()
def PySem.W.Fast.tw14249611732238943978 := ()
def PySem.W.Fast.tw8936966275105481022 := ()
def PySem.W.Fast.tw661887666235187490 := ()
def PySem.W.Fast.tw1853350614305180724 := ()
def PySem.W.Fast.tw9604701712920806160 := ()
def PySem.W.Fast.tw4158861380586390659 := ()
def PySem.W.Fast.tw11615258612593656922 := ()
def PySem.W.Fast.tw4208301626551851477 := ()
def PySem.W.Fast.tw8652202476288882373 := ()
def PySem.W.Fast.tw6414291062235725292 := ()
def PySem.W.Fast.tw12810499707910567710 := ()
def PySem.W.Fast.tw14775864761079888515 := ()
def PySem.W.Fast.tw14073648632134864548 := ()
def PySem.W.Fast.tw10683396444444661329 := ()
def PySem.W.Fast.tw18183916632362878071 := ()
def PySem.W.Fast.tw2386208052384405935 := ()
def PySem.W.Fast.tw10041455498641688153 := ()
def PySem.W.Fast.tw16392156184073006985 := ()
def PySem.W.Fast.tw5339263520965504906 := ()
def PySem.W.Fast.tw11685342501490283944 := ()
def PySem.W.Fast.tw13556335523222311676 := ()
def PySem.W.Fast.tw15275883338581785959 := ()
def PySem.W.Fast.tw16514065181033563939 := ()
def PySem.W.Fast.tw14666250907043170115 := ()
def PySem.W.Fast.tw15650960296705531568 := ()
def PySem.W.Fast.tw7306284163322443214 := ()
def PySem.W.Fast.tw10008584212753388683 := ()
def PySem.W.Fast.tw9276125906459750610 := ()
def PySem.W.Fast.tw5902758433331562008 := ()
def PySem.W.Fast.tw12421198645782693306 := ()
def PySem.W.Fast.tw12877017900139076780 := ()
def PySem.W.Fast.tw7075848161323893319 := ()
def PySem.W.Fast.tw1613037928137363184 := ()
def PySem.W.Fast.tw5657373039878584626 := ()
def PySem.W.Fast.tw13796073429201550346 := ()
def PySem.W.Fast.tw541892489119241557 := ()
def PySem.W.Fast.tw2390845169780166174 := ()
def PySem.W.Fast.tw11272253796159126803 := ()
def PySem.W.Fast.tw13820531309300724818 := ()
def PySem.W.Fast.tw15554192207624314498 := ()
def PySem.W.Fast.tw122622721213013877 := ()
def PySem.W.Fast.tw10129638524375873168 := ()
def PySem.W.Fast.tw5329843560312685986 := ()
def PySem.W.Fast.tw14495965176880173458 := ()
def PySem.W.Fast.tw12720579320535094946 := ()
def PySem.W.Fast.tw3700062723582105136 := ()
def PySem.W.Fast.tw13613157585108264823 := ()
def PySem.W.Fast.tw5264247641538212776 := ()
def PySem.W.Fast.tw946945246816404624 := ()
def PySem.W.Fast.tw14775284204205236935 := ()
def PySem.W.Fast.tw6748300365050978408 := ()
def PySem.W.Fast.tw14563840985579075418 := ()
def PySem.W.Fast.tw14730531094849208543 := ()
def PySem.W.Fast.tw12838172229285277655 := ()
def PySem.W.Fast.tw10618139917302463017 := ()
def PySem.W.Fast.tw1263729741093009600 := ()
def PySem.W.Fast.tw1321952041996144253 := ()
def PySem.W.Fast.tw7576769018072166182 := ()
def PySem.W.Fast.tw18391637726172520540 := ()
def PySem.W.Fast.tw2476649357879756716 := ()
def PySem.W.Fast.tw6306499476895177024 := ()
def PySem.W.Fast.tw8218501035255797647 := ()
def PySem.W.Fast.tw9843128243222350472 := ()
def PySem.W.Fast.tw15001004381685446688 := ()
def PySem.W.Fast.tw16282908081928228423 := ()
def PySem.W.Fast.tw9010721707545314611 := ()
def PySem.W.Fast.tw17502860551771826359 := ()
def PySem.W.Fast.tw13422152643926650431 := ()
def PySem.W.Fast.tw16695953793308198779 := ()
def PySem.W.Fast.tw2298726591282762586 := ()
def PySem.W.Fast.tw15967988340755319501 := ()
def PySem.W.Fast.tw10054918200536019172 := ()
def PySem.W.Fast.tw17968506212606279992 := ()
def PySem.W.Fast.tw3843258425997322612 := ()
def PySem.W.Fast.tw6251495384309692959 := ()
def PySem.W.Fast.tw17344473019020613806 := ()
def PySem.W.Fast.tw5213342616096342408 := ()
def PySem.W.Fast.tw18277308244563923862 := ()
def PySem.W.Fast.tw16461641674905565809 := ()
def PySem.W.Fast.tw9991853036248914497 := ()
def PySem.W.Fast.tw17816620687832963425 := ()
def PySem.W.Fast.tw3216855079200780300 := ()
def PySem.W.Fast.tw16696179024856915466 := ()
def PySem.W.Fast.tw4336431560772473782 := ()
def PySem.W.Fast.tw6684863260241996964 := ()
def PySem.W.Fast.tw12044883966449476053 := ()
def PySem.W.Fast.tw9414611224696714976 := ()
def PySem.W.Fast.tw13280106949455894284 := ()
def PySem.W.Fast.tw6334844293359075589 := ()
def PySem.W.Fast.tw413826997255749664 := ()
def PySem.W.Fast.tw15653848698912238181 := ()
def PySem.W.Fast.tw17470286619614689133 := ()
def PySem.W.Fast.tw17374636366669017149 := ()
def PySem.W.Fast.tw14211592181796590665 := ()
def PySem.W.Fast.tw4616139958554697386 := ()
def PySem.W.Fast.tw10062379074747817217 := ()
def PySem.W.Fast.tw4749387466477988816 := ()
def PySem.W.Fast.tw9655404784404364820 := ()
def PySem.W.Fast.tw10404499603332537002 := ()
def PySem.W.Fast.tw5110959390741042230 := ()
def PySem.W.Fast.tw2752757026193874432 := ()
def PySem.W.Fast.tw11022800832719694596 := ()
def PySem.W.Fast.tw13335500810297400609 := ()
def PySem.W.Fast.tw8362813934477117615 := ()
def PySem.W.Fast.tw2493736631072914608 := ()
def PySem.W.Fast.tw15539240402652426633 := ()
def PySem.W.Fast.tw15439190336292425164 := ()
def PySem.W.Fast.tw9350439661130565853 := ()
def PySem.W.Fast.tw8157895734590932980 := ()
def PySem.W.Fast.tw5009543337995140529 := ()
def PySem.W.Fast.tw10749833362104147172 := ()
def PySem.W.Fast.tw1435590068070853454 := ()
def PySem.W.Fast.tw9459517042063267644 := ()
def PySem.W.Fast.tw17949073144698081584 := ()
def PySem.W.Fast.tw16302108686238884320 := ()
def PySem.W.Fast.tw14419002867614950812 := ()
def PySem.W.Fast.tw762917198043707379 := ()
def PySem.W.Fast.tw6408479908101385368 := ()
def PySem.W.Fast.tw4783620721225115177 := ()
def PySem.W.Fast.tw16157304255271295491 := ()
def PySem.W.Fast.tw12824081665741325905 := ()
def PySem.W.Fast.tw14973820504257902151 := ()
def PySem.W.Fast.tw15288195226437272647 := ()
def PySem.W.Fast.tw10793757418642991609 := ()
def PySem.W.Fast.tw6277597703460593834 := ()
def PySem.W.Fast.tw17706216453105450065 := ()
def PySem.W.Fast.tw5252344580458396310 := ()
def PySem.W.Fast.tw14262328412096196896 := ()
def PySem.W.Fast.tw1251936385834491659 := ()
def PySem.W.Fast.tw15530064986628511554 := ()
def PySem.W.Fast.tw2306428580407428097 := ()
def PySem.W.Fast.tw15078616520548922128 := ()
def PySem.W.Fast.tw12058107338483474906 := ()
def PySem.W.Fast.tw10924389743081990552 := ()
def PySem.W.Fast.tw5492489444525366152 := ()
def PySem.W.Fast.tw16995164087199581051 := ()
def PySem.W.Fast.tw12172623607716583905 := ()
def PySem.W.Fast.tw7387654936073743313 := ()
def PySem.W.Fast.tw5648661204943108181 := ()
def PySem.W.Fast.tw11606746963267887023 := ()
def PySem.W.Fast.tw14108538695131813109 := ()
def PySem.W.Fast.tw6157915899548716054 := ()
def PySem.W.Fast.tw12333072818395581661 := ()
def PySem.W.Fast.tw12967413438800287433 := ()
def PySem.W.Fast.tw5310995585345111527 := ()
def PySem.W.Fast.tw13527172445692210985 := ()
def PySem.W.Fast.tw5844558528096064771 := ()
def PySem.W.Fast.tw4390951837326423728 := ()
def PySem.W.Fast.tw8168084873941447915 := ()
def PySem.W.Fast.tw15080900172676240743 := ()
def PySem.W.Fast.tw5697957972537748630 := ()
def PySem.W.Fast.tw11804916720449211787 := ()
def PySem.W.Fast.tw8196563173032203367 := ()
def PySem.W.Fast.tw8277380695183611328 := ()
def PySem.W.Fast.tw14913599345985282415 := ()
def PySem.W.Fast.tw8586794845912723851 := ()
def PySem.W.Fast.tw15635520912686109796 := ()
def PySem.W.Fast.tw3711241438263275485 := ()
def PySem.W.Fast.tw4687086121372895938 := ()
def PySem.W.Fast.tw12299679153845430836 := ()
def PySem.W.Fast.tw7112541920793321117 := ()
def PySem.W.Fast.tw17227677305943964711 := ()
def PySem.W.Fast.tw5920116421500390425 := ()
def PySem.W.Fast.tw343030748142856370 := ()
def PySem.W.Fast.tw10970916204349817317 := ()
def PySem.W.Fast.tw6938651764886117183 := ()
def PySem.W.Fast.tw16592404855723308608 := ()
def PySem.W.Fast.tw18308022254264934424 := ()
def PySem.W.Fast.tw4073613920688720687 := ()
def PySem.W.Fast.tw9330124229801030758 := ()
def PySem.W.Fast.tw10404071140136847237 := ()
def PySem.W.Fast.tw15534969173671707748 := ()
def PySem.W.Fast.tw934403980413636599 := ()
def PySem.W.Fast.tw7686621551157998931 := ()
def PySem.W.Fast.tw4431175296836835681 := ()
def PySem.W.Fast.tw12022439107840014519 := ()
def PySem.W.Fast.tw15221295687631564945 := ()
def PySem.W.Fast.tw16958527466456298566 := ()
def PySem.W.Fast.tw5849036489009813760 := ()
def PySem.W.Fast.tw12668281601740842530 := ()
def PySem.W.Fast.tw3267014551156500986 := ()
def PySem.W.Fast.tw12896608987718983573 := ()
def PySem.W.Fast.tw16957646582730292911 := ()
def PySem.W.Fast.tw2059328490279513201 := ()
def PySem.W.Fast.tw16973442453071161327 := ()
def PySem.W.Fast.tw15405045014767341126 := ()
def PySem.W.Fast.tw11663079377368770092 := ()
def PySem.W.Fast.tw15909390080650543956 := ()
def PySem.W.Fast.tw9362708935411049520 := ()
def PySem.W.Fast.tw2587845669648188297 := ()
def PySem.W.Fast.tw6424767225313392877 := ()
def PySem.W.Fast.tw1846003521803873401 := ()
def PySem.W.Fast.tw7039586012421577016 := ()
def PySem.W.Fast.tw5384340087752245563 := ()
def PySem.W.Fast.tw3356618557590153623 := ()
def PySem.W.Fast.tw7613596195769734617 := ()
def PySem.W.Fast.tw9338964589140118773 := ()
def PySem.W.Fast.tw1075879752726453761 := ()
def PySem.W.Fast.tw5618247485072680718 := ()
def PySem.W.Fast.tw15615937545171288702 := ()
def PySem.W.Fast.tw11735561209476342738 := ()
def PySem.W.Fast.tw10566309213645691774 := ()
def PySem.W.Fast.tw17240995700198178409 := ()
def PySem.W.Fast.tw7806500726714411071 := ()
def PySem.W.Fast.tw5514610618729684920 := ()
def PySem.W.Fast.tw14634771984898295528 := ()
def PySem.W.Fast.tw4468890947763710593 := ()
def PySem.W.Fast.tw15383696941017594436 := ()
def PySem.W.Fast.tw17239322852465988850 := ()
def PySem.W.Fast.tw15297948019436561455 := ()
def PySem.W.Fast.tw3145575126833851246 := ()
def PySem.W.Fast.tw13423775912183900211 := ()
def PySem.W.Fast.tw3712896568718765838 := ()
def PySem.W.Fast.tw3697629044792120738 := ()
def PySem.W.Fast.tw812183457002215526 := ()
def PySem.W.Fast.tw15537122878462323808 := ()
def PySem.W.Fast.tw7260119179490849053 := ()
def PySem.W.Fast.tw706038597608407825 := ()
def PySem.W.Fast.tw2848285997373958314 := ()
def PySem.W.Fast.tw3173330394185205971 := ()
def PySem.W.Fast.tw15009673159458536674 := ()
def PySem.W.Fast.tw10365597944531105321 := ()
def PySem.W.Fast.tw12990669521558494515 := ()
def PySem.W.Fast.tw1243344341502712823 := ()
def PySem.W.Fast.tw10604628030231744615 := ()
def PySem.W.Fast.tw18383476034426812081 := ()
def PySem.W.Fast.tw18008325174515448339 := ()
def PySem.W.Fast.tw14208011593319189491 := ()
def PySem.W.Fast.tw12859163969554607949 := ()
def PySem.W.Fast.tw9320625528826407360 := ()
def PySem.W.Fast.tw3678646308328524818 := ()
def PySem.W.Fast.tw8527573715983990744 := ()
def PySem.W.Fast.tw1657185082784336885 := ()
def PySem.W.Fast.tw4116969881272470928 := ()
def PySem.W.Fast.tw14885390731215124108 := ()
def PySem.W.Fast.tw17804082219855764268 := ()
def PySem.W.Fast.tw3044205261581177189 := ()
def PySem.W.Fast.tw7835971678261868660 := ()
def PySem.W.Fast.tw16196899728263264399 := ()
def PySem.W.Fast.tw473946113720928215 := ()
def PySem.W.Fast.tw8190292365311130822 := ()
def PySem.W.Fast.tw12243122396827595069 := ()
def PySem.W.Fast.tw9323520635234824470 := ()
def PySem.W.Fast.tw1002843355480396818 := ()
def PySem.W.Fast.tw14772117346414887336 := ()
def PySem.W.Fast.tw14385557830191068682 := ()
def PySem.W.Fast.tw3280590574506625689 := ()
def PySem.W.Fast.tw9631280278514792149 := ()
def PySem.W.Fast.tw7891649389083838413 := ()
def PySem.W.Fast.tw4412881608422086557 := ()
def PySem.W.Fast.tw17328135100281436284 := ()
def PySem.W.Fast.tw13183026172098913381 := ()
def PySem.W.Fast.tw7086845949904964047 := ()
def PySem.W.Fast.tw10084165420614844039 := ()
def PySem.W.Fast.tw11502081877715097417 := ()
def PySem.W.Fast.tw7636760423225716182 := ()
def PySem.W.Fast.tw9156335916430802639 := ()
def PySem.W.Fast.tw6261739331762047508 := ()
def PySem.W.Fast.tw9227395376981579263 := ()
def PySem.W.Fast.tw7214648934451301873 := ()
def PySem.W.Fast.tw15708216171381898053 := ()
def PySem.W.Fast.tw9292421617400782585 := ()
def PySem.W.Fast.tw8508625710355642701 := ()
def PySem.W.Fast.tw14104939584006157964 := ()
def PySem.W.Fast.tw12323156022201175075 := ()
def PySem.W.Fast.tw3551573697869818385 := ()
def PySem.W.Fast.tw7486233460307047114 := ()
def PySem.W.Fast.tw4807921112704986149 := ()
def PySem.W.Fast.tw4486596205495156012 := ()
def PySem.W.Fast.tw1700181163425783259 := ()
def PySem.W.Fast.tw13143812029317630075 := ()
def PySem.W.Fast.tw13825685610387574231 := ()
def PySem.W.Fast.tw11975404815221757245 := ()
def PySem.W.Fast.tw12400036289138693009 := ()
def PySem.W.Fast.tw2054887900450808989 := ()
def PySem.W.Fast.tw18153396534861156274 := ()
def PySem.W.Fast.tw15126775566138526612 := ()
def PySem.W.Fast.tw706145539209025924 := ()
def PySem.W.Fast.tw11820733768837929154 := ()
def PySem.W.Fast.tw2913707527953001243 := ()
def PySem.W.Fast.tw6378361725945198001 := ()
def PySem.W.Fast.tw779259643206303346 := ()
def PySem.W.Fast.tw15179692258720504948 := ()
def PySem.W.Fast.tw2814842350583510599 := ()
def PySem.W.Fast.tw4884238932768830376 := ()
def PySem.W.Fast.tw11834165069263007597 := ()
def PySem.W.Fast.tw336245649558052853 := ()
def PySem.W.Fast.tw13058994791931365557 := ()
def PySem.W.Fast.tw9047354892965207833 := ()
def PySem.W.Fast.tw10699931862407529192 := ()
def PySem.W.Fast.tw13747466786792891107 := ()
def PySem.W.Fast.tw4280938361770132075 := ()
def PySem.W.Fast.tw4107432610398677715 := ()
def PySem.W.Fast.tw13547035901935209373 := ()
def PySem.W.Fast.tw12688420027687183396 := ()
def PySem.W.Fast.tw928149925103715284 := ()
def PySem.W.Fast.tw966936497153631389 := ()
def PySem.W.Fast.tw4135019092034743934 := ()
def PySem.W.Fast.tw14144269168033586773 := ()
def PySem.W.Fast.tw12667096365169867134 := ()
def PySem.W.Fast.tw14270275831395650847 := ()
def PySem.W.Fast.tw12784674966635668975 := ()
def PySem.W.Fast.tw17768171461000273917 := ()
def PySem.W.Fast.tw843198223354148825 := ()
def PySem.W.Fast.tw6370462931727072714 := ()
def PySem.W.Fast.tw6547277945450966934 := ()
def PySem.W.Fast.tw11391229472517578157 := ()
def PySem.W.Fast.tw2184065256679732840 := ()
def PySem.W.Fast.tw16615656910264774936 := ()
def PySem.W.Fast.tw6829730230216895593 := ()
def PySem.W.Fast.tw15836935040200983603 := ()
def PySem.W.Fast.tw636671673176213408 := ()
def PySem.W.Fast.tw16216370608721541193 := ()
def PySem.W.Fast.tw6403378040827257379 := ()
def PySem.W.Fast.tw12137038518596551342 := ()
def PySem.W.Fast.tw15648947400771280681 := ()
def PySem.W.Fast.tw3136267784905865608 := ()
def PySem.W.Fast.tw6235829420189933605 := ()
def PySem.W.Fast.tw8717190186021159915 := ()
def PySem.W.Fast.tw16261576167479077851 := ()
def PySem.W.Fast.tw14384686017746886072 := ()
def PySem.W.Fast.tw13926754014737163820 := ()
def PySem.W.Fast.tw10481716892510626478 := ()
def PySem.W.Fast.tw13161094291128640387 := ()
def PySem.W.Fast.tw6586730402506744593 := ()
def PySem.W.Fast.tw8204244539568544108 := ()
def PySem.W.Fast.tw4852674728576659257 := ()
def PySem.W.Fast.tw1360212472028297847 := ()
def PySem.W.Fast.tw15542433207679581492 := ()
def PySem.W.Fast.tw10779003968233105267 := ()
def PySem.W.Fast.tw14263979954456093910 := ()
def PySem.W.Fast.tw4810783264710781903 := ()
def PySem.W.Fast.tw9392272413902612699 := ()
def PySem.W.Fast.tw10819981438905286610 := ()
def PySem.W.Fast.tw1761752728616816466 := ()
def PySem.W.Fast.tw3604594866445485715 := ()
def PySem.W.Fast.tw10721762977100366777 := ()
def PySem.W.Fast.tw4499248327323999115 := ()
def PySem.W.Fast.tw11398115654286430322 := ()
def PySem.W.Fast.tw10157929301921179969 := ()
def PySem.W.Fast.tw10753304599976666491 := ()
def PySem.W.Fast.tw14821769114795542535 := ()
def PySem.W.Fast.tw5292677383211510220 := ()
def PySem.W.Fast.tw1659413343165956256 := ()
def PySem.W.Fast.tw18011656391024489309 := ()
def PySem.W.Fast.tw11770410467403637413 := ()
def PySem.W.Fast.tw10126981751950034776 := ()
def PySem.W.Fast.tw2803288288086304673 := ()
def PySem.W.Fast.tw4282260705082842365 := ()
def PySem.W.Fast.tw1475692889660394241 := ()
def PySem.W.Fast.tw9207862025253012780 := ()
def PySem.W.Fast.tw3831230406186584712 := ()
def PySem.W.Fast.tw12558469476574708053 := ()
def PySem.W.Fast.tw9270410517377955669 := ()
def PySem.W.Fast.tw223670851725737996 := ()
def PySem.W.Fast.tw12553565045868213740 := ()
def PySem.W.Fast.tw4785937856105014640 := ()
def PySem.W.Fast.tw3101535208136013155 := ()
def PySem.W.Fast.tw11733991499134011080 := ()
def PySem.W.Fast.tw9209172767984434847 := ()
def PySem.W.Fast.tw4371559407316833491 := ()
def PySem.W.Fast.tw5438723111941305790 := ()
def PySem.W.Fast.tw5199422172805510374 := ()
def PySem.W.Fast.tw10878201653025417108 := ()
def PySem.W.Fast.tw10359831013900973290 := ()
def PySem.W.Fast.tw3908147643628774488 := ()
def PySem.W.Fast.tw8565091887147595953 := ()
def PySem.W.Fast.tw4763060085100917453 := ()
def PySem.W.Fast.tw11688253659958485882 := ()
def PySem.W.Fast.tw8167978436087841840 := ()
def PySem.W.Fast.tw1225919662546310012 := ()
def PySem.W.Fast.tw1813763844791624142 := ()
def PySem.W.Fast.tw12283891996579732185 := ()
def PySem.W.Fast.tw15099349614034602340 := ()
def PySem.W.Fast.tw17147501496700017180 := ()
def PySem.W.Fast.tw15139909327195252772 := ()
def PySem.W.Fast.tw2612670799508237884 := ()
def PySem.W.Fast.tw11818599986695085903 := ()
def PySem.W.Fast.tw2995741570463293059 := ()
def PySem.W.Fast.tw188980097924218528 := ()
def PySem.W.Fast.tw2295781019333931543 := ()
def PySem.W.Fast.tw15112323041357822927 := ()
def PySem.W.Fast.tw11183313633180841030 := ()
def PySem.W.Fast.tw1185022830017466345 := ()
def PySem.W.Fast.tw14049144469641305469 := ()
def PySem.W.Fast.tw6166266374224356417 := ()
def PySem.W.Fast.tw10403399096200809500 := ()
def PySem.W.Fast.tw9621956580734413184 := ()
def PySem.W.Fast.tw8635630242855506083 := ()
def PySem.W.Fast.tw6878543404583111908 := ()
def PySem.W.Fast.tw17443418556029395396 := ()
def PySem.W.Fast.tw15782924405855939891 := ()
def PySem.W.Fast.tw9762990279625419097 := ()
def PySem.W.Fast.tw15411433266767429473 := ()
def PySem.W.Fast.tw10741404241222208501 := ()
def PySem.W.Fast.tw1323030472619107277 := ()
def PySem.W.Fast.tw1467193256801540201 := ()
def PySem.W.Fast.tw15153945673877735576 := ()
def PySem.W.Fast.tw10384591037159351647 := ()
def PySem.W.Fast.tw18208913008902209501 := ()
def PySem.W.Fast.tw2947001994753100433 := ()
def PySem.W.Fast.tw17523851970655265086 := ()
def PySem.W.Fast.tw14646893009532674885 := ()
def PySem.W.Fast.tw145193955371417827 := ()
def PySem.W.Fast.tw10582518335623503234 := ()
def PySem.W.Fast.tw11852910306345592902 := ()
def PySem.W.Fast.tw8211481322580092743 := ()
def PySem.W.Fast.tw3004611692282128801 := ()
def PySem.W.Fast.tw6382243529064799842 := ()
def PySem.W.Fast.tw3918555220237683233 := ()
def PySem.W.Fast.tw7161160015794659220 := ()
def PySem.W.Fast.tw3527829810281198311 := ()
def PySem.W.Fast.tw840391552653106110 := ()
def PySem.W.Fast.tw9343954794099003154 := ()
def PySem.W.Fast.tw12108276884435365866 := ()
def PySem.W.Fast.tw10561798927723726588 := ()
def PySem.W.Fast.tw12471526546699250974 := ()
def PySem.W.Fast.tw5607777289664615752 := ()
def PySem.W.Fast.tw659813420175757252 := ()
def PySem.W.Fast.tw5228130272277986902 := ()
def PySem.W.Fast.tw9066155736328079780 := ()
def PySem.W.Fast.tw8872043537384101581 := ()
def PySem.W.Fast.tw7573399178286226019 := ()
def PySem.W.Fast.tw2474847410370649695 := ()
def PySem.W.Fast.tw3839274702446578327 := ()
def PySem.W.Fast.tw9202333214873253595 := ()
def PySem.W.Fast.tw9712574339804866871 := ()
def PySem.W.Fast.tw11213413938119925043 := ()
def PySem.W.Fast.tw4209661639498979337 := ()
def PySem.W.Fast.tw17312552115891505687 := ()
def PySem.W.Fast.tw8549007467568435028 := ()
def PySem.W.Fast.tw7176609538660323686 := ()
def PySem.W.Fast.tw5286418272313031705 := ()
def PySem.W.Fast.tw17698811488558913211 := ()
def PySem.W.Fast.tw16841346163602645719 := ()
def PySem.W.Fast.tw5139773902446987343 := ()
def PySem.W.Fast.tw13425881872433290813 := ()
def PySem.W.Fast.tw201840717094022942 := ()
def PySem.W.Fast.tw9832325153372338575 := ()
def PySem.W.Fast.tw7367495830259084427 := ()
def PySem.W.Fast.tw6183317203633442120 := ()
def PySem.W.Fast.tw872750708564258569 := ()
def PySem.W.Fast.tw17836795946217559721 := ()
def PySem.W.Fast.tw1321352792805174240 := ()
def PySem.W.Fast.tw8975841623891174713 := ()
def PySem.W.Fast.tw9413874632181469860 := ()
def PySem.W.Fast.tw3004717646856874342 := ()
def PySem.W.Fast.tw7736775184715001650 := ()
def PySem.W.Fast.tw14043853646968928172 := ()
def PySem.W.Fast.tw13604587775197130885 := ()
def PySem.W.Fast.tw12550894784445270399 := ()
def PySem.W.Fast.tw15347662539505061532 := ()
def PySem.W.Fast.tw7318791421624945231 := ()
def PySem.W.Fast.tw6827736003979048131 := ()
def PySem.W.Fast.tw14088721044096407017 := ()
def PySem.W.Fast.tw10175688433868260062 := ()
def PySem.W.Fast.tw4593607553958680185 := ()
def PySem.W.Fast.tw2777190770507287730 := ()
def PySem.W.Fast.tw11188894878519213047 := ()
def PySem.W.Fast.tw1641360383823084397 := ()
def PySem.W.Fast.tw16639685966825578726 := ()
def PySem.W.Fast.tw7656980837674998411 := ()
def PySem.W.Fast.tw6026544567755000826 := ()
def PySem.W.Fast.tw1682693749090889789 := ()
def PySem.W.Fast.tw740934962234255117 := ()
def PySem.W.Fast.tw10680378184461062137 := ()
def PySem.W.Fast.tw14087939645487828597 := ()
def PySem.W.Fast.tw265922702348493777 := ()
def PySem.W.Fast.tw10689895289658713546 := ()
def PySem.W.Fast.tw15813401560003166175 := ()
def PySem.W.Fast.tw8038622689356425475 := ()
def PySem.W.Fast.tw7742870394280776309 := ()
def PySem.W.Fast.tw14603273432418251329 := ()
def PySem.W.Fast.tw3213212908556227365 := ()
def PySem.W.Fast.tw12434336463759595223 := ()
def PySem.W.Fast.tw183448850762701442 := ()
def PySem.W.Fast.tw6720612079067351201 := ()
def PySem.W.Fast.tw805603594907990607 := ()
def PySem.W.Fast.tw10499504826739615155 := ()
def PySem.W.Fast.tw5281293529462434611 := ()
def PySem.W.Fast.tw15452735641956246644 := ()
def PySem.W.Fast.tw1518546840325099884 := ()
def PySem.W.Fast.tw16171061417301001276 := ()
def PySem.W.Fast.tw6030612801019893015 := ()
def PySem.W.Fast.tw8158587089851081555 := ()
def PySem.W.Fast.tw7662621812994553017 := ()
def PySem.W.Fast.tw2613029719332407364 := ()
def PySem.W.Fast.tw7593407336569624743 := ()
def PySem.W.Fast.tw4227406768750526509 := ()
def PySem.W.Fast.tw17520988506210716118 := ()
def PySem.W.Fast.tw308709805824885723 := ()
def PySem.W.Fast.tw3538154960717510975 := ()
def PySem.W.Fast.tw1325849571036024412 := ()
def PySem.W.Fast.tw14221111337102069149 := ()
def PySem.W.Fast.tw12465986120346007979 := ()
def PySem.W.Fast.tw1396977229629947938 := ()
def PySem.W.Fast.tw16805432494536061531 := ()
def PySem.W.Fast.tw307713630358086838 := ()
def PySem.W.Fast.tw10037563801535664234 := ()
def PySem.W.Fast.tw3398862144757381163 := ()
def PySem.W.Fast.tw6484228349559786969 := ()
def PySem.W.Fast.tw13255575797215786086 := ()
def PySem.W.Fast.tw10947105595900685856 := ()
def PySem.W.Fast.tw1226552686494726323 := ()
def PySem.W.Fast.tw6569227728164602624 := ()
def PySem.W.Fast.tw10432996407667836010 := ()
def PySem.W.Fast.tw2963260829372914313 := ()
def PySem.W.Fast.tw4214076971387138041 := ()
def PySem.W.Fast.tw5000136411021193 := ()
def PySem.W.Fast.tw10240127660574485936 := ()
def PySem.W.Fast.tw16938095573090190130 := ()
def PySem.W.Fast.tw6940308680398463975 := ()
def PySem.W.Fast.tw1095647383334660519 := ()
def PySem.W.Fast.tw6470417057089753326 := ()
def PySem.W.Fast.tw4265797626268311697 := ()
def PySem.W.Fast.tw18313567945540419861 := ()
def PySem.W.Fast.tw10091039523537185346 := ()
def PySem.W.Fast.tw13324616718497955993 := ()
def PySem.W.Fast.tw10074788119947681090 := ()
def PySem.W.Fast.tw6339961612185873589 := ()
def PySem.W.Fast.tw1842146260862728886 := ()
def PySem.W.Fast.tw11287545471107886687 := ()
def PySem.W.Fast.tw838557513342633669 := ()
def PySem.W.Fast.tw14378606675516013763 := ()
def PySem.W.Fast.tw279019174550284231 := ()
def PySem.W.Fast.tw853770864540146698 := ()
def PySem.W.Fast.tw5111128199828990447 := ()
def PySem.W.Fast.tw8453476734453897003 := ()
def PySem.W.Fast.tw8677200846522790967 := ()
def PySem.W.Fast.tw10617833593069685037 := ()
def PySem.W.Fast.tw6308211289372560908 := ()
def PySem.W.Fast.tw8315883572345113551 := ()
def PySem.W.Fast.tw2360187279122914429 := ()
def PySem.W.Fast.tw9453546121399538510 := ()
def PySem.W.Fast.tw4122365963931226826 := ()
def PySem.W.Fast.tw2620211931015035597 := ()
def PySem.W.Fast.tw17422964729125173917 := ()
def PySem.W.Fast.tw13681954225143623824 := ()
def PySem.W.Fast.tw17518296024821594182 := ()
def PySem.W.Fast.tw9755280728897261533 := ()
def PySem.W.Fast.tw12351462527487370535 := ()
def PySem.W.Fast.tw15608416790954270619 := ()
def PySem.W.Fast.tw5016599080212861810 := ()
def PySem.W.Fast.tw17166390929962077535 := ()
def PySem.W.Fast.tw18031826534217170748 := ()
def PySem.W.Fast.tw11330073372219977163 := ()
def PySem.W.Fast.tw5635519449208702119 := ()
def PySem.W.Fast.tw12694403218066122500 := ()
def PySem.W.Fast.tw9814197622130301423 := ()
def PySem.W.Fast.tw13524176305791680852 := ()
def PySem.W.Fast.tw14459098525915688381 := ()
def PySem.W.Fast.tw1788209686744304921 := ()
def PySem.W.Fast.tw3833127379636547261 := ()
def PySem.W.Fast.tw17659533891925921979 := ()
def PySem.W.Fast.tw11220243654115435218 := ()
def PySem.W.Fast.tw698154861778469706 := ()
def PySem.W.Fast.tw289266543883756690 := ()
def PySem.W.Fast.tw6709655005351413311 := ()
def PySem.W.Fast.tw14790107564930875992 := ()
def PySem.W.Fast.tw1044343022405237820 := ()
def PySem.W.Fast.tw12625111062834667845 := ()
def PySem.W.Fast.tw9530910280309658451 := ()
def PySem.W.Fast.tw10822213822319729710 := ()
def PySem.W.Fast.tw12117898750631881030 := ()
def PySem.W.Fast.tw4545605763058800287 := ()
def PySem.W.Fast.tw16210844839881654625 := ()
def PySem.W.Fast.tw3745366680482067143 := ()
def PySem.W.Fast.tw13559189697903040515 := ()
def PySem.W.Fast.tw16345060948932141622 := ()
def PySem.W.Fast.tw2868259238623549801 := ()
def PySem.W.Fast.tw8121497632578741590 := ()
def PySem.W.Fast.tw16694421937882364200 := ()
def PySem.W.Fast.tw12592196416133198310 := ()
def PySem.W.Fast.tw653277338895015211 := ()
def PySem.W.Fast.tw6505059067669383171 := ()
def PySem.W.Fast.tw16932619416497833196 := ()
def PySem.W.Fast.tw8477327749542876172 := ()
def PySem.W.Fast.tw10815245786089870546 := ()
def PySem.W.Fast.tw18187139262253688619 := ()
def PySem.W.Fast.tw16216082233716344362 := ()
def PySem.W.Fast.tw17887501290473304715 := ()
def PySem.W.Fast.tw13509022615005517165 := ()
def PySem.W.Fast.tw6583016552689707761 := ()
def PySem.W.Fast.tw12887576966073267345 := ()
def PySem.W.Fast.tw14100775894237054222 := ()
def PySem.W.Fast.tw786157115595723024 := ()
def PySem.W.Fast.tw460767400207523203 := ()
def PySem.W.Fast.tw7543401440077740659 := ()
def PySem.W.Fast.tw7697231827707348072 := ()
def PySem.W.Fast.tw2740469206225437424 := ()
def PySem.W.Fast.tw13686014644107553664 := ()
def PySem.W.Fast.tw12664048611039630670 := ()
def PySem.W.Fast.tw13583040662590634486 := ()
def PySem.W.Fast.tw7163079783562260154 := ()
def PySem.W.Fast.tw14512866922481554704 := ()
def PySem.W.Fast.tw16669332331033926746 := ()
def PySem.W.Fast.tw13647369301336181490 := ()
def PySem.W.Fast.tw7806831385066605521 := ()
def PySem.W.Fast.tw7677484938501985079 := ()
def PySem.W.Fast.tw1592139218703731325 := ()
def PySem.W.Fast.tw2561458280645401854 := ()
def PySem.W.Fast.tw4430457423913151602 := ()
def PySem.W.Fast.tw18197343988067669073 := ()
def PySem.W.Fast.tw8174916308136867706 := ()
def PySem.W.Fast.tw12976625331011531494 := ()
def PySem.W.Fast.tw11879457020727210006 := ()
def PySem.W.Fast.tw6081089355303360241 := ()
def PySem.W.Fast.tw15571925584579576522 := ()
def PySem.W.Fast.tw7794694366250654819 := ()
def PySem.W.Fast.tw12756298102118476758 := ()
def PySem.W.Fast.tw11647225563502979952 := ()
def PySem.W.Fast.tw13505814619585604284 := ()
def PySem.W.Fast.tw3747729945646343622 := ()
def PySem.W.Fast.tw1990868231897590400 := ()
def PySem.W.Fast.tw14599323351950943363 := ()
def PySem.W.Fast.tw7334291012711250112 := ()
def PySem.W.Fast.tw8342011431034890449 := ()
def PySem.W.Fast.tw13132057081253782715 := ()
def PySem.W.Fast.tw3042528259407961527 := ()
def PySem.W.Fast.tw9815505633542824620 := ()
def PySem.W.Fast.tw4743074057572888157 := ()
def PySem.W.Fast.tw6873807607761316247 := ()
def PySem.W.Fast.tw11813877542620117400 := ()
def PySem.W.Fast.tw13079388212234919095 := ()
def PySem.W.Fast.tw3403633183725681651 := ()
def PySem.W.Fast.tw7852623499297134365 := ()
def PySem.W.Fast.tw11340292983946397832 := ()
def PySem.W.Fast.tw7112854788889676156 := ()
def PySem.W.Fast.tw13183714261432370146 := ()
def PySem.W.Fast.tw7916040248691860485 := ()
def PySem.W.Fast.tw11017883677947321824 := ()
def PySem.W.Fast.tw12929702746675692177 := ()
def PySem.W.Fast.tw5666531312330997531 := ()
def PySem.W.Fast.tw10054616779430148815 := ()
def PySem.W.Fast.tw13236787040792514382 := ()
def PySem.W.Fast.tw18406009116096831416 := ()
def PySem.W.Fast.tw8659704840920830710 := ()
def PySem.W.Fast.tw11772312686468605195 := ()
def PySem.W.Fast.tw1208650217893595357 := ()
def PySem.W.Fast.tw3821409194632404714 := ()
def PySem.W.Fast.tw14351161386947818306 := ()
def PySem.W.Fast.tw15629401499591135748 := ()
def PySem.W.Fast.tw16805339945798175504 := ()
def PySem.W.Fast.tw4418290010815420809 := ()
def PySem.W.Fast.tw4925271898397296497 := ()
def PySem.W.Fast.tw10709132576620427889 := ()
def PySem.W.Fast.tw266342717118252715 := ()
def PySem.W.Fast.tw14195484909694124719 := ()
def PySem.W.Fast.tw9735309692573051503 := ()
def PySem.W.Fast.tw2102520057681508037 := ()
def PySem.W.Fast.tw3623061320360390079 := ()
def PySem.W.Fast.tw501068317261131804 := ()
def PySem.W.Fast.tw15778010414752576530 := ()
def PySem.W.Fast.tw7255507969756536720 := ()
def PySem.W.Fast.tw11065598534294005512 := ()
def PySem.W.Fast.tw13556509430064617303 := ()
def PySem.W.Fast.tw12476822544787391928 := ()
def PySem.W.Fast.tw57537595138947707 := ()
def PySem.W.Fast.tw3846140847395614968 := ()
def PySem.W.Fast.tw8224771317011214094 := ()
def PySem.W.Fast.tw5993137133638982777 := ()
def PySem.W.Fast.tw11909215087560928218 := ()
def PySem.W.Fast.tw12846389977780958188 := ()
def PySem.W.Fast.tw2683375719542246365 := ()
def PySem.W.Fast.tw14320570768851466227 := ()
def PySem.W.Fast.tw6697780346575137320 := ()
def PySem.W.Fast.tw8617453604629269426 := ()
def PySem.W.Fast.tw543911972173491677 := ()
def PySem.W.Fast.tw316379645647932709 := ()
def PySem.W.Fast.tw6236675800340024476 := ()
def PySem.W.Fast.tw1170794691161909596 := ()
def PySem.W.Fast.tw11728996372400844993 := ()
def PySem.W.Fast.tw16282962491976864144 := ()
def PySem.W.Fast.tw3328656602150039523 := ()
def PySem.W.Fast.tw16955250007306876823 := ()
def PySem.W.Fast.tw18379867416096257760 := ()
def PySem.W.Fast.tw10631347123363968152 := ()
def PySem.W.Fast.tw17437065445569536605 := ()
def PySem.W.Fast.tw8940467811590044440 := ()
def PySem.W.Fast.tw17699361183607928408 := ()
def PySem.W.Fast.tw286153346818932183 := ()
def PySem.W.Fast.tw6727156440298115818 := ()
def PySem.W.Fast.tw3014276966729640947 := ()
def PySem.W.Fast.tw125696806279595209 := ()
def PySem.W.Fast.tw16562460533929016353 := ()
def PySem.W.Fast.tw1550271142010368928 := ()
def PySem.W.Fast.tw4929428152017781329 := ()
def PySem.W.Fast.tw11738984222306037274 := ()
def PySem.W.Fast.tw11202369073564769773 := ()
def PySem.W.Fast.tw4313876337515146280 := ()
def PySem.W.Fast.tw1554692744741678548 := ()
def PySem.W.Fast.tw8458348603172178426 := ()
def PySem.W.Fast.tw14057260573247227207 := ()
def PySem.W.Fast.tw12496537112027655425 := ()
def PySem.W.Fast.tw1616836099695232850 := ()
def PySem.W.Fast.tw13479849619830692303 := ()
def PySem.W.Fast.tw7046086368975780560 := ()
def PySem.W.Fast.tw17876828270112314384 := ()
def PySem.W.Fast.tw4149351783415423209 := ()
def PySem.W.Fast.tw11694757890707370760 := ()
def PySem.W.Fast.tw14720198359820976982 := ()
def PySem.W.Fast.tw12115932072419382243 := ()
def PySem.W.Fast.tw11202827328090165814 := ()
def PySem.W.Fast.tw16015578194061408688 := ()
def PySem.W.Fast.tw16780422261546059685 := ()
def PySem.W.Fast.tw10963788643942718639 := ()
def PySem.W.Fast.tw15148891089828015220 := ()
def PySem.W.Fast.tw998938960484608932 := ()
def PySem.W.Fast.tw17133163866240545057 := ()
def PySem.W.Fast.tw17820702756475502093 := ()
def PySem.W.Fast.tw17954771064933638565 := ()
def PySem.W.Fast.tw8532911409352977991 := ()
def PySem.W.Fast.tw3209226119805293527 := ()
def PySem.W.Fast.tw17809086779830094948 := ()
def PySem.W.Fast.tw12180609853104217941 := ()
def PySem.W.Fast.tw9449675592867600168 := ()
def PySem.W.Fast.tw820530014410322525 := ()
def PySem.W.Fast.tw18188518517885049727 := ()
def PySem.W.Fast.tw16483128745216961431 := ()
def PySem.W.Fast.tw17662783742104131701 := ()
def PySem.W.Fast.tw17914083385245827704 := ()
def PySem.W.Fast.tw8424111883046231964 := ()
def PySem.W.Fast.tw15642943771698857198 := ()
def PySem.W.Fast.tw8764884420297692990 := ()
def PySem.W.Fast.tw15489917912341925283 := ()
def PySem.W.Fast.tw9165763813390646169 := ()
def PySem.W.Fast.tw15631826512231135805 := ()
def PySem.W.Fast.tw8892776957567883004 := ()
def PySem.W.Fast.tw11621869804985114073 := ()
def PySem.W.Fast.tw18405281363142636209 := ()
def PySem.W.Fast.tw3828530627915652658 := ()
def PySem.W.Fast.tw17434183735029344126 := ()
def PySem.W.Fast.tw1755007491145221145 := ()
def PySem.W.Fast.tw10992517602434960399 := ()
def PySem.W.Fast.tw4196866821237128881 := ()
def PySem.W.Fast.tw12710625717411715836 := ()
def PySem.W.Fast.tw14833307070653621952 := ()
def PySem.W.Fast.tw17625562086983249268 := ()
def PySem.W.Fast.tw17833452309288804593 := ()
def PySem.W.Fast.tw12487600853646373657 := ()
def PySem.W.Fast.tw5794044557758578985 := ()
def PySem.W.Fast.tw2130408329156039566 := ()
def PySem.W.Fast.tw1337359211813161210 := ()
def PySem.W.Fast.tw682560470252871345 := ()
def PySem.W.Fast.tw18374706783745274132 := ()
def PySem.W.Fast.tw13848208312436623283 := ()
def PySem.W.Fast.tw7838424621334024271 := ()
def PySem.W.Fast.tw7021093508682122332 := ()
def PySem.W.Fast.tw2407660764340250878 := ()
def PySem.W.Fast.tw1546965932009792798 := ()
def PySem.W.Fast.tw15189669957215352350 := ()
def PySem.W.Fast.tw6447699952054152855 := ()
def PySem.W.Fast.tw2431924053084582513 := ()
def PySem.W.Fast.tw15033271483933112173 := ()
def PySem.W.Fast.tw9442350022386489073 := ()
def PySem.W.Fast.tw524059520266398869 := ()
def PySem.W.Fast.tw13493565058350404771 := ()
def PySem.W.Fast.tw18229695216363352188 := ()
def PySem.W.Fast.tw11031887914950629306 := ()
def PySem.W.Fast.tw6593865933359887674 := ()
def PySem.W.Fast.tw1938757474869181048 := ()
def PySem.W.Fast.tw11948171664149532632 := ()
def PySem.W.Fast.tw15865002029205667454 := ()
def PySem.W.Fast.tw2903442336636132487 := ()
def PySem.W.Fast.tw12114082436936034339 := ()
def PySem.W.Fast.tw7442761787253182977 := ()
def PySem.W.Fast.tw7695423652252108158 := ()
def PySem.W.Fast.tw9108512904885170486 := ()
def PySem.W.Fast.tw1518335590509444690 := ()
def PySem.W.Fast.tw10620212526272417245 := ()
def PySem.W.Fast.tw15321055472455043644 := ()
def PySem.W.Fast.tw14529070322095468545 := ()
def PySem.W.Fast.tw7767651864682987584 := ()
def PySem.W.Fast.tw5431813773457936604 := ()
def PySem.W.Fast.tw2756807200954050901 := ()
def PySem.W.Fast.tw16573282185630681647 := ()
def PySem.W.Fast.tw160148584860944129 := ()
def PySem.W.Fast.tw14529135581214738002 := ()
def PySem.W.Fast.tw1937324216818363367 := ()
def PySem.W.Fast.tw17552752757989180266 := ()
def PySem.W.Fast.tw14358046164684775039 := ()
def PySem.W.Fast.tw14071116431888494299 := ()
def PySem.W.Fast.tw13880386904851796908 := ()
def PySem.W.Fast.tw15859335580582648076 := ()
def PySem.W.Fast.tw16600204501580615364 := ()
def PySem.W.Fast.tw9539971572805140644 := ()
def PySem.W.Fast.tw13198993633734590753 := ()
def PySem.W.Fast.tw14392637271242856603 := ()
def PySem.W.Fast.tw6513403163378402801 := ()
def PySem.W.Fast.tw6537521231126704809 := ()
def PySem.W.Fast.tw8038361156993909218 := ()
def PySem.W.Fast.tw5231385792626618751 := ()
def PySem.W.Fast.tw13462044942124314966 := ()
def PySem.W.Fast.tw10990037735674090380 := ()
def PySem.W.Fast.tw18029090443341836497 := ()
def PySem.W.Fast.tw17964836743044519231 := ()
def PySem.W.Fast.tw17445333962430767554 := ()
def PySem.W.Fast.tw10274454853551395952 := ()
def PySem.W.Fast.tw13274381847141534281 := ()
def PySem.W.Fast.tw5946849154566406488 := ()
def PySem.W.Fast.tw7285141113764818291 := ()
def PySem.W.Fast.tw7535883962435946616 := ()
def PySem.W.Fast.tw17740364661454303484 := ()
def PySem.W.Fast.tw9286548381145089964 := ()
def PySem.W.Fast.tw2097859509901607566 := ()
def PySem.W.Fast.tw11248182149060049850 := ()
def PySem.W.Fast.tw13045600048414100128 := ()
def PySem.W.Fast.tw17907521456870433004 := ()
def PySem.W.Fast.tw9432267842269154921 := ()
def PySem.W.Fast.tw15899026287398076668 := ()
def PySem.W.Fast.tw10363688048515309824 := ()
def PySem.W.Fast.tw4730628783457558459 := ()
def PySem.W.Fast.tw8216863096969102306 := ()
def PySem.W.Fast.tw92633454365424860 := ()
def PySem.W.Fast.tw17940884673248148377 := ()
def PySem.W.Fast.tw2453745136342892024 := ()
def PySem.W.Fast.tw3103091387119318824 := ()
def PySem.W.Fast.tw12443940901229069716 := ()
def PySem.W.Fast.tw7929027585878519834 := ()
def PySem.W.Fast.tw12278953485863299266 := ()
def PySem.W.Fast.tw14972535408024210780 := ()
def PySem.W.Fast.tw13866707075983278376 := ()
def PySem.W.Fast.tw809274104413845855 := ()
def PySem.W.Fast.tw13764432930435192519 := ()
def PySem.W.Fast.tw13393697967053624381 := ()
def PySem.W.Fast.tw7312318496249662681 := ()
def PySem.W.Fast.tw17350956911944331156 := ()
def PySem.W.Fast.tw5257698219054118977 := ()
def PySem.W.Fast.tw711164246717697545 := ()
def PySem.W.Fast.tw17482801163169915586 := ()
def PySem.W.Fast.tw9321827358677393382 := ()
def PySem.W.Fast.tw8104745877979277902 := ()
def PySem.W.Fast.tw773531342934558351 := ()
def PySem.W.Fast.tw11240636618738385688 := ()
def PySem.W.Fast.tw377158146716046053 := ()
def PySem.W.Fast.tw11768077410584850207 := ()
def PySem.W.Fast.tw10416493533471480078 := ()
def PySem.W.Fast.tw16389074688039459336 := ()
def PySem.W.Fast.tw9557898421899758791 := ()
def PySem.W.Fast.tw10680369025618150261 := ()
def PySem.W.Fast.tw16482546245745694519 := ()
def PySem.W.Fast.tw14977483216928433636 := ()
def PySem.W.Fast.tw7637357500657729693 := ()
def PySem.W.Fast.tw16357062439254903993 := ()
def PySem.W.Fast.tw9071499057295327107 := ()
def PySem.W.Fast.tw7625817467969682919 := ()
def PySem.W.Fast.tw13817611549196563159 := ()
def PySem.W.Fast.tw6729042869230218686 := ()
def PySem.W.Fast.tw1337163117084157895 := ()
def PySem.W.Fast.tw10123997125915202589 := ()
def PySem.W.Fast.tw8785238841993750554 := ()
def PySem.W.Fast.tw17339540833592994070 := ()
def PySem.W.Fast.tw9420190888796248867 := ()
def PySem.W.Fast.tw12912914821655847789 := ()
def PySem.W.Fast.tw12790822023221142249 := ()
def PySem.W.Fast.tw16217490033521511586 := ()
def PySem.W.Fast.tw8144008750383118440 := ()
def PySem.W.Fast.tw3471084475736772436 := ()
def PySem.W.Fast.tw5056874716690471002 := ()
def PySem.W.Fast.tw17487966807936051932 := ()
def PySem.W.Fast.tw10575938374501327322 := ()
def PySem.W.Fast.tw10060895289815525433 := ()
def PySem.W.Fast.tw8082667770630004912 := ()
def PySem.W.Fast.tw8983472192269792429 := ()
def PySem.W.Fast.tw9377688952782416931 := ()
def PySem.W.Fast.tw15898630256814290904 := ()
def PySem.W.Fast.tw7908848703086814934 := ()
def PySem.W.Fast.tw12614858364177553123 := ()
def PySem.W.Fast.tw540512805449249951 := ()
def PySem.W.Fast.tw1910133014102666626 := ()
def PySem.W.Fast.tw7701023890072508688 := ()
def PySem.W.Fast.tw9346393828348928853 := ()
def PySem.W.Fast.tw11436656980002471931 := ()
def PySem.W.Fast.tw8988084400255328665 := ()
def PySem.W.Fast.tw3022436022154546053 := ()
def PySem.W.Fast.tw6222629454707547737 := ()
def PySem.W.Fast.tw17306613853225920276 := ()
def PySem.W.Fast.tw14082640781076542010 := ()
def PySem.W.Fast.tw6624532597847763870 := ()
def PySem.W.Fast.tw16817447215392996509 := ()
def PySem.W.Fast.tw2405112606389053338 := ()
def PySem.W.Fast.tw555665542498642267 := ()
def PySem.W.Fast.tw48825827973454028 := ()
def PySem.W.Fast.tw13588850102667177564 := ()
def PySem.W.Fast.tw6965941480498765959 := ()
def PySem.W.Fast.tw14066529446500681482 := ()
def PySem.W.Fast.tw5696713476298688846 := ()
def PySem.W.Fast.tw17248002107327482854 := ()
def PySem.W.Fast.tw6877470655162363540 := ()
def PySem.W.Fast.tw2256321557522578645 := ()
def PySem.W.Fast.tw2542374794783401409 := ()
def PySem.W.Fast.tw8653069102191764547 := ()
def PySem.W.Fast.tw17191726113295639202 := ()
def PySem.W.Fast.tw4648970809222410772 := ()
def PySem.W.Fast.tw16372845250281315004 := ()
def PySem.W.Fast.tw14490700480226004552 := ()
def PySem.W.Fast.tw932905137755046238 := ()
def PySem.W.Fast.tw4083708079519671462 := ()
def PySem.W.Fast.tw5796879960667581919 := ()
def PySem.W.Fast.tw512792264494074619 := ()
def PySem.W.Fast.tw11349312043691874822 := ()
def PySem.W.Fast.tw17170064823437124111 := ()
def PySem.W.Fast.tw3408864428742070023 := ()
def PySem.W.Fast.tw5069624817520949553 := ()
def PySem.W.Fast.tw10211639287800017519 := ()
def PySem.W.Fast.tw2366400029543292365 := ()
def PySem.W.Fast.tw3153457288143832373 := ()
def PySem.W.Fast.tw17587021246725442857 := ()
def PySem.W.Fast.tw8474322911998448770 := ()
def PySem.W.Fast.tw2184619759743181922 := ()
def PySem.W.Fast.tw2796404796205903093 := ()
def PySem.W.Fast.tw16719646736187921267 := ()
def PySem.W.Fast.tw549979760912230684 := ()
def PySem.W.Fast.tw3698665583077835339 := ()
def PySem.W.Fast.tw6868540044201596470 := ()
def PySem.W.Fast.tw12053603226072349128 := ()
def PySem.W.Fast.tw9547022305902642903 := ()
def PySem.W.Fast.tw3837308407558091515 := ()
def PySem.W.Fast.tw16057843900346105383 := ()
def PySem.W.Fast.tw7460628067759380946 := ()
def PySem.W.Fast.tw2559374221334978814 := ()
def PySem.W.Fast.tw17856906299867216254 := ()
def PySem.W.Fast.tw13547083120903531868 := ()
def PySem.W.Fast.tw389146733958316499 := ()
def PySem.W.Fast.tw17426886552798341452 := ()
def PySem.W.Fast.tw13874719411637213033 := ()
def PySem.W.Fast.tw7459144162555367022 := ()
def PySem.W.Fast.tw16156967381435059926 := ()
def PySem.W.Fast.tw540709424798649020 := ()
def PySem.W.Fast.tw4370682254534882564 := ()
def PySem.W.Fast.tw1689141111052152313 := ()
def PySem.W.Fast.tw2804807682747591318 := ()
def PySem.W.Fast.tw17423400264256749988 := ()
def PySem.W.Fast.tw4213964161936245621 := ()
def PySem.W.Fast.tw10330482897888424702 := ()
def PySem.W.Fast.tw10980423926309672744 := ()
def PySem.W.Fast.tw1785703385250459260 := ()
def PySem.W.Fast.tw1251016212933208263 := ()
def PySem.W.Fast.tw13775818352525065565 := ()
def PySem.W.Fast.tw11068059372091804162 := ()
def PySem.W.Fast.tw2737539134344817879 := ()
def PySem.W.Fast.tw520063079497601812 := ()
def PySem.W.Fast.tw13933861055824307523 := ()
def PySem.W.Fast.tw2635653795938586327 := ()
def PySem.W.Fast.tw11073738394397990106 := ()
def PySem.W.Fast.tw14655295558481674351 := ()
def PySem.W.Fast.tw8321965989083073895 := ()
def PySem.W.Fast.tw1213738929333673532 := ()
def PySem.W.Fast.tw17570980486593978862 := ()
def PySem.W.Fast.tw9714811632028175365 := ()
def PySem.W.Fast.tw16683796269338834079 := ()
def PySem.W.Fast.tw988631254794825323 := ()
def PySem.W.Fast.tw5570915456548286917 := ()
def PySem.W.Fast.tw11886118526448803936 := ()
def PySem.W.Fast.tw9165819331723117836 := ()
def PySem.W.Fast.tw1040987403696569356 := ()
def PySem.W.Fast.tw1128366189501520877 := ()
def PySem.W.Fast.tw227970829787000886 := ()
def PySem.W.Fast.tw2815032786561337610 := ()
def PySem.W.Fast.tw5806703984943160769 := ()
def PySem.W.Fast.tw12025460589455175254 := ()
def PySem.W.Fast.tw15943470696053517086 := ()
def PySem.W.Fast.tw684070186234425982 := ()
def PySem.W.Fast.tw908921994784230307 := ()
def PySem.W.Fast.tw11052277304984727019 := ()
def PySem.W.Fast.tw3377197766388040473 := ()
def PySem.W.Fast.tw11548996023800146266 := ()
def PySem.W.Fast.tw10853601112517904008 := ()
def PySem.W.Fast.tw915538579149478952 := ()
def PySem.W.Fast.tw2187608976654834187 := ()
def PySem.W.Fast.tw194954614971904062 := ()
def PySem.W.Fast.tw7622236339258509250 := ()
def PySem.W.Fast.tw943649224204550389 := ()
def PySem.W.Fast.tw14580504653108588747 := ()
def PySem.W.Fast.tw16081031126408635824 := ()
def PySem.W.Fast.tw11483007136416823789 := ()
def PySem.W.Fast.tw10635105412663149997 := ()
def PySem.W.Fast.tw6487186950924193381 := ()
def PySem.W.Fast.tw4858366189875003786 := ()
def PySem.W.Fast.tw11378928594380819719 := ()
def PySem.W.Fast.tw2821250117835446562 := ()
def PySem.W.Fast.tw500687608028734141 := ()
def PySem.W.Fast.tw6471114593227261815 := ()
def PySem.W.Fast.tw17932953077890819404 := ()
def PySem.W.Fast.tw16491090849531902597 := ()
def PySem.W.Fast.tw9906357669222285825 := ()
def PySem.W.Fast.tw4092053368348405036 := ()
def PySem.W.Fast.tw12744045080282888218 := ()
def PySem.W.Fast.tw827182965606518116 := ()
def PySem.W.Fast.tw5170470639930637297 := ()
def PySem.W.Fast.tw14562183966967698510 := ()
def PySem.W.Fast.tw13903918290695465225 := ()
def PySem.W.Fast.tw8080376583123584687 := ()
def PySem.W.Fast.tw6176925157879925317 := ()
def PySem.W.Fast.tw16670183746706947514 := ()
def PySem.W.Fast.tw9150409148769151301 := ()
def PySem.W.Fast.tw326511681561592821 := ()
def PySem.W.Fast.tw17406340924569120944 := ()
def PySem.W.Fast.tw9707030094977346497 := ()
def PySem.W.Fast.tw1378612577353068172 := ()
def PySem.W.Fast.tw6946934531985511608 := ()
def PySem.W.Fast.tw6459333436798189474 := ()
def PySem.W.Fast.tw3360384436999224104 := ()
def PySem.W.Fast.tw831927359923394144 := ()
def PySem.W.Fast.tw13656047275486591227 := ()
def PySem.W.Fast.tw2881405764773573316 := ()
def PySem.W.Fast.tw11398340217709174129 := ()
def PySem.W.Fast.tw8849625882629606670 := ()
def PySem.W.Fast.tw813014871874919020 := ()
def PySem.W.Fast.tw13128939174745469210 := ()
def PySem.W.Fast.tw7402832993920253550 := ()
def PySem.W.Fast.tw878432809740023827 := ()
def PySem.W.Fast.tw18276578854441168872 := ()
def PySem.W.Fast.tw14026942367150883481 := ()
def PySem.W.Fast.tw2904551331390650304 := ()
def PySem.W.Fast.tw5046782673505656391 := ()
def PySem.W.Fast.tw11486056783283753808 := ()
def PySem.W.Fast.tw13504706674571250246 := ()
def PySem.W.Fast.tw3628675186541660051 := ()
def PySem.W.Fast.tw6603278861380026902 := ()
def PySem.W.Fast.tw14700457118000250719 := ()
def PySem.W.Fast.tw8353029472786926683 := ()
def PySem.W.Fast.tw6625536134815172322 := ()
def PySem.W.Fast.tw9706961465926207774 := ()
def PySem.W.Fast.tw391851982697706657 := ()
def PySem.W.Fast.tw16232558673614346225 := ()
def PySem.W.Fast.tw10194123919125230910 := ()
def PySem.W.Fast.tw9162776665708227389 := ()
def PySem.W.Fast.tw14423978943428700184 := ()
def PySem.W.Fast.tw5216501769257836803 := ()
def PySem.W.Fast.tw16428542188995991097 := ()
def PySem.W.Fast.tw10663413091832202907 := ()
def PySem.W.Fast.tw16885586761363719737 := ()
def PySem.W.Fast.tw8922539336281455218 := ()
def PySem.W.Fast.tw6388328536360979040 := ()
def PySem.W.Fast.tw13882783522309033573 := ()
def PySem.W.Fast.tw10628775489067691387 := ()
def PySem.W.Fast.tw3039416328619333004 := ()
def PySem.W.Fast.tw2776570040159873393 := ()
def PySem.W.Fast.tw18240290804108511585 := ()
def PySem.W.Fast.tw6215333561085384883 := ()
def PySem.W.Fast.tw9486442162002071127 := ()
def PySem.W.Fast.tw2077128617922923350 := ()
def PySem.W.Fast.tw696861677768781500 := ()
def PySem.W.Fast.tw5226409213073202886 := ()
def PySem.W.Fast.tw12055222102090898203 := ()
def PySem.W.Fast.tw8163425124989700475 := ()
def PySem.W.Fast.tw11981914645458233262 := ()
def PySem.W.Fast.tw4607439919071138569 := ()
def PySem.W.Fast.tw12173180485401946178 := ()
def PySem.W.Fast.tw17175415258452896890 := ()
def PySem.W.Fast.tw3692146041970485869 := ()
def PySem.W.Fast.tw13535529448390007816 := ()
def PySem.W.Fast.tw10283926606764692748 := ()
def PySem.W.Fast.tw6826668710578281079 := ()
def PySem.W.Fast.tw12600395978289078427 := ()
def PySem.W.Fast.tw14467649682983929135 := ()
def PySem.W.Fast.tw13759482998467887177 := ()
def PySem.W.Fast.tw8971877144908664711 := ()
def PySem.W.Fast.tw461941131128373358 := ()
def PySem.W.Fast.tw6452838145704197538 := ()
def PySem.W.Fast.tw16866596646066674791 := ()
def PySem.W.Fast.tw3708044141092647926 := ()
def PySem.W.Fast.tw15815170261512834387 := ()
def PySem.W.Fast.tw15231943735644834936 := ()
def PySem.W.Fast.tw16607431738243820208 := ()
def PySem.W.Fast.tw6108981603299528762 := ()
def PySem.W.Fast.tw13907343918726229215 := ()
def PySem.W.Fast.tw17302538494983161503 := ()
def PySem.W.Fast.tw17534385716862395738 := ()
def PySem.W.Fast.tw9349500770155121393 := ()
def PySem.W.Fast.tw9526022601827815523 := ()
def PySem.W.Fast.tw4441088007834589239 := ()
def PySem.W.Fast.tw13449421823145240976 := ()
def PySem.W.Fast.tw9920955854939815800 := ()
def PySem.W.Fast.tw15203875420138585765 := ()
def PySem.W.Fast.tw7730862892704577616 := ()
def PySem.W.Fast.tw6817722971684300631 := ()
def PySem.W.Fast.tw16471647492327403870 := ()
def PySem.W.Fast.tw8181636349015374205 := ()
def PySem.W.Fast.tw8390024146772876292 := ()
def PySem.W.Fast.tw8394038718840255105 := ()
def PySem.W.Fast.tw12579280872814218140 := ()
def PySem.W.Fast.tw8938078012178667871 := ()
def PySem.W.Fast.tw14682304348445577118 := ()
def PySem.W.Fast.tw2501445651036568730 := ()
def PySem.W.Fast.tw17863710569563388960 := ()
def PySem.W.Fast.tw3454884761474455283 := ()
def PySem.W.Fast.tw1018212099099594453 := ()
def PySem.W.Fast.tw10384741905620359031 := ()
def PySem.W.Fast.tw579741790955111702 := ()
def PySem.W.Fast.tw5847400119186179350 := ()
def PySem.W.Fast.tw18061601488010185585 := ()
def PySem.W.Fast.tw3708709144505678831 := ()
def PySem.W.Fast.tw10917853554270967179 := ()
def PySem.W.Fast.tw9524435996571481221 := ()
def PySem.W.Fast.tw6192448655967914200 := ()
def PySem.W.Fast.tw6457742252375898101 := ()
def PySem.W.Fast.tw8558016584839270787 := ()
def PySem.W.Fast.tw18347958831052220982 := ()
def PySem.W.Fast.tw13056894506994159840 := ()
def PySem.W.Fast.tw13910192414995773041 := ()
def PySem.W.Fast.tw1938180285128523036 := ()
def PySem.W.Fast.tw17939775543314144391 := ()
def PySem.W.Fast.tw13950269164920919226 := ()
def PySem.W.Fast.tw15624500126870162667 := ()
def PySem.W.Fast.tw3351084027085344679 := ()
def PySem.W.Fast.tw4137014528260958 := ()
def PySem.W.Fast.tw13093007531193702446 := ()
def PySem.W.Fast.tw13371404142197725667 := ()
def PySem.W.Fast.tw7699151675397598811 := ()
def PySem.W.Fast.tw5532470701563424613 := ()
def PySem.W.Fast.tw5641469097121208283 := ()
def PySem.W.Fast.tw7037815403573564066 := ()
def PySem.W.Fast.tw7567420751847379521 := ()
def PySem.W.Fast.tw7532660859330866491 := ()
def PySem.W.Fast.tw7357375159968359989 := ()
def PySem.W.Fast.tw298914328199193390 := ()
def PySem.W.Fast.tw17679562632930869073 := ()
def PySem.W.Fast.tw11152389338428719212 := ()
def PySem.W.Fast.tw4616422151797857600 := ()
def PySem.W.Fast.tw9689570744650361617 := ()
def PySem.W.Fast.tw12624509417256508575 := ()
def PySem.W.Fast.tw3708489732760551540 := ()
def PySem.W.Fast.tw12859311054688136831 := ()
def PySem.W.Fast.tw3618425208643589185 := ()
def PySem.W.Fast.tw8664599642806072754 := ()
def PySem.W.Fast.tw16410812071176540347 := ()
def PySem.W.Fast.tw2610442371312792959 := ()
def PySem.W.Fast.tw14121773087992912901 := ()
def PySem.W.Fast.tw13109899437833773485 := ()
def PySem.W.Fast.tw11954833681231469034 := ()
def PySem.W.Fast.tw9345786598787271670 := ()
def PySem.W.Fast.tw10488008801663225197 := ()
def PySem.W.Fast.tw8307968533138910396 := ()
def PySem.W.Fast.tw10447099477037371612 := ()
def PySem.W.Fast.tw9121111477515249852 := ()
def PySem.W.Fast.tw13988148478521687343 := ()
def PySem.W.Fast.tw6193943671058925550 := ()
def PySem.W.Fast.tw4738342662368920743 := ()
def PySem.W.Fast.tw2426395122201913698 := ()
def PySem.W.Fast.tw9996606924697997599 := ()
def PySem.W.Fast.tw14871257723946315921 := ()
def PySem.W.Fast.tw13430831303129640904 := ()
def PySem.W.Fast.tw1754756713677996079 := ()
def PySem.W.Fast.tw130079244956894173 := ()
def PySem.W.Fast.tw3371782911930917976 := ()
def PySem.W.Fast.tw15937744268583287689 := ()
def PySem.W.Fast.tw2961161767832626835 := ()
def PySem.W.Fast.tw744091062890230792 := ()
def PySem.W.Fast.tw13300698353107161617 := ()
def PySem.W.Fast.tw744233599586296756 := ()
def PySem.W.Fast.tw13728981188246249465 := ()
def PySem.W.Fast.tw7523011610250565798 := ()
def PySem.W.Fast.tw13463772464764788915 := ()
def PySem.W.Fast.tw14549526510075074629 := ()
def PySem.W.Fast.tw9372022530800201432 := ()
def PySem.W.Fast.tw12919609070442249288 := ()
def PySem.W.Fast.tw12110474150226861451 := ()
def PySem.W.Fast.tw4193820900603513005 := ()
def PySem.W.Fast.tw6886105272255421361 := ()
def PySem.W.Fast.tw9954219462362687356 := ()
def PySem.W.Fast.tw10936546014244789809 := ()
def PySem.W.Fast.tw14282905689414249758 := ()
def PySem.W.Fast.tw2093965268414906897 := ()
def PySem.W.Fast.tw3688783445566232074 := ()
def PySem.W.Fast.tw4048177286307344655 := ()
def PySem.W.Fast.tw957930795733071549 := ()
def PySem.W.Fast.tw13648522430534865704 := ()
def PySem.W.Fast.tw18287568769355906914 := ()
def PySem.W.Fast.tw15142505168220930820 := ()
def PySem.W.Fast.tw18308494597031536919 := ()
def PySem.W.Fast.tw14911113066529670196 := ()
def PySem.W.Fast.tw2137765481783976770 := ()
def PySem.W.Fast.tw6132763764346314926 := ()
def PySem.W.Fast.tw12672152586600451756 := ()
def PySem.W.Fast.tw2223224153128228582 := ()
def PySem.W.Fast.tw17964367717401525942 := ()
def PySem.W.Fast.tw3702650176915043012 := ()
def PySem.W.Fast.tw1273995685910709955 := ()
def PySem.W.Fast.tw7279639399438253169 := ()
def PySem.W.Fast.tw3740268803718217824 := ()
def PySem.W.Fast.tw10063741818155728159 := ()
def PySem.W.Fast.tw12739440972434054142 := ()
def PySem.W.Fast.tw14712635080962780610 := ()
def PySem.W.Fast.tw11044841216556951478 := ()
def PySem.W.Fast.tw9978381263374912323 := ()
def PySem.W.Fast.tw6107305623416705715 := ()
def PySem.W.Fast.tw12946288441656236513 := ()
def PySem.W.Fast.tw4059872441418015739 := ()
def PySem.W.Fast.tw17924901452114251552 := ()
def PySem.W.Fast.tw3485243385880070793 := ()
def PySem.W.Fast.tw4729401544556795654 := ()
def PySem.W.Fast.tw12131262166711388588 := ()
def PySem.W.Fast.tw1427180673129163791 := ()
def PySem.W.Fast.tw12392523265051818771 := ()
def PySem.W.Fast.tw1188937353550649659 := ()
def PySem.W.Fast.tw12827002778434528091 := ()
def PySem.W.Fast.tw13513149775183339491 := ()
def PySem.W.Fast.tw9049020469747927761 := ()
def PySem.W.Fast.tw7718020482271840594 := ()
def PySem.W.Fast.tw13731793368160545582 := ()
def PySem.W.Fast.tw9267576644889877823 := ()
def PySem.W.Fast.tw17986640102721890520 := ()
def PySem.W.Fast.tw16516124638166436145 := ()
def PySem.W.Fast.tw4760973642277795118 := ()
def PySem.W.Fast.tw2084056818221588487 := ()
def PySem.W.Fast.tw13161360641598052080 := ()
def PySem.W.Fast.tw457570015435118566 := ()
def PySem.W.Fast.tw7805443822551555752 := ()
def PySem.W.Fast.tw4904847555988863889 := ()
def PySem.W.Fast.tw15690128142295850272 := ()
def PySem.W.Fast.tw11383958260787188736 := ()
def PySem.W.Fast.tw7431871913190966812 := ()
def PySem.W.Fast.tw2727114327296145272 := ()
def PySem.W.Fast.tw14838708699624304201 := ()
def PySem.W.Fast.tw10504860614909517949 := ()
def PySem.W.Fast.tw13520060238287009842 := ()
def PySem.W.Fast.tw2006550997191661127 := ()
def PySem.W.Fast.tw12169187458604556496 := ()
def PySem.W.Fast.tw13923930559957306790 := ()
def PySem.W.Fast.tw9791423126841223586 := ()
def PySem.W.Fast.tw11573233038303017400 := ()
def PySem.W.Fast.tw2367455612575727941 := ()
def PySem.W.Fast.tw13790394309793457780 := ()
def PySem.W.Fast.tw10212426204601065374 := ()
def PySem.W.Fast.tw1240722977495336972 := ()
def PySem.W.Fast.tw14498033055622089367 := ()
def PySem.W.Fast.tw7917374014754483170 := ()
def PySem.W.Fast.tw2853235325942257983 := ()
def PySem.W.Fast.tw14952540768127983114 := ()
def PySem.W.Fast.tw17779229791052851913 := ()
def PySem.W.Fast.tw10890505907700908375 := ()
def PySem.W.Fast.tw11449694973604365414 := ()
def PySem.W.Fast.tw14410833235888663719 := ()
def PySem.W.Fast.tw17236720563606777678 := ()
def PySem.W.Fast.tw11185073901682987036 := ()
def PySem.W.Fast.tw13386625576308254709 := ()
def PySem.W.Fast.tw4879763455919247620 := ()
def PySem.W.Fast.tw6867943637736225403 := ()
def PySem.W.Fast.tw17699232374256436989 := ()
def PySem.W.Fast.tw13934643388196231846 := ()
def PySem.W.Fast.tw2020348172413367000 := ()
def PySem.W.Fast.tw2190881337916243017 := ()
def PySem.W.Fast.tw7705340531478232389 := ()
def PySem.W.Fast.tw15219244684213091009 := ()
def PySem.W.Fast.tw3577733904932713945 := ()
def PySem.W.Fast.tw1893871640089209938 := ()
def PySem.W.Fast.tw15545918620885183059 := ()
def PySem.W.Fast.tw9006507014644826447 := ()
def PySem.W.Fast.tw7216870900861075771 := ()
def PySem.W.Fast.tw729766965047964872 := ()
def PySem.W.Fast.tw17405549494290222653 := ()
def PySem.W.Fast.tw18088055974681909362 := ()
def PySem.W.Fast.tw4339047752035026091 := ()
def PySem.W.Fast.tw16409747681978070684 := ()
def PySem.W.Fast.tw2430378694931324761 := ()
def PySem.W.Fast.tw17186348384084062120 := ()
def PySem.W.Fast.tw8045448085134833114 := ()
def PySem.W.Fast.tw8652342151305099102 := ()
def PySem.W.Fast.tw11694168925862278845 := ()
def PySem.W.Fast.tw12308548173188725451 := ()
def PySem.W.Fast.tw17988570714430189447 := ()
def PySem.W.Fast.tw8085864412092290466 := ()
def PySem.W.Fast.tw12081880385306849902 := ()
def PySem.W.Fast.tw13009436384872865231 := ()
def PySem.W.Fast.tw12152800031315863884 := ()
def PySem.W.Fast.tw10697761042545413466 := ()
def PySem.W.Fast.tw10116715401974224337 := ()
def PySem.W.Fast.tw2071846695362747343 := ()
def PySem.W.Fast.tw14757151485111965894 := ()
def PySem.W.Fast.tw13071798400342524987 := ()
def PySem.W.Fast.tw1247128975263341889 := ()
def PySem.W.Fast.tw2531777496199679747 := ()
def PySem.W.Fast.tw14035915996862478629 := ()
def PySem.W.Fast.tw6479415080111745407 := ()
def PySem.W.Fast.tw12186367536798343450 := ()
def PySem.W.Fast.tw2108502152442604349 := ()
def PySem.W.Fast.tw7886237705423668295 := ()
def PySem.W.Fast.tw10967822975633213523 := ()
def PySem.W.Fast.tw11036856046376865564 := ()
def PySem.W.Fast.tw2057312343029332870 := ()
def PySem.W.Fast.tw14887018861506196134 := ()
def PySem.W.Fast.tw282185630352424337 := ()
def PySem.W.Fast.tw12005737008522346781 := ()
def PySem.W.Fast.tw3941824247952048361 := ()
def PySem.W.Fast.tw12825776181960462702 := ()
def PySem.W.Fast.tw2367494320512396395 := ()
def PySem.W.Fast.tw3641443722984803127 := ()
def PySem.W.Fast.tw1150456174663663735 := ()
def PySem.W.Fast.tw11214994030538256735 := ()
def PySem.W.Fast.tw16511622857491510790 := ()
def PySem.W.Fast.tw14566291015374055537 := ()
def PySem.W.Fast.tw4873791445766922744 := ()
def PySem.W.Fast.tw9140484428448418380 := ()
def PySem.W.Fast.tw9705320112013155880 := ()
def PySem.W.Fast.tw237971604083680841 := ()
def PySem.W.Fast.tw15405173952763300294 := ()
def PySem.W.Fast.tw11715802667527955531 := ()
def PySem.W.Fast.tw17567975666881306251 := ()
def PySem.W.Fast.tw6229746775379781216 := ()
def PySem.W.Fast.tw13104994927364754093 := ()
def PySem.W.Fast.tw1199460154069636453 := ()
def PySem.W.Fast.tw3362697394493877346 := ()
def PySem.W.Fast.tw209665894065807133 := ()
def PySem.W.Fast.tw16174689898468778735 := ()
def PySem.W.Fast.tw7718568381638057548 := ()
def PySem.W.Fast.tw16289265636951674916 := ()
def PySem.W.Fast.tw9801731822335220421 := ()
def PySem.W.Fast.tw7246264729670213246 := ()
def PySem.W.Fast.tw3706523971097903852 := ()
def PySem.W.Fast.tw9810429092030481373 := ()
def PySem.W.Fast.tw13544302147583698635 := ()
def PySem.W.Fast.tw18024843938906378960 := ()
def PySem.W.Fast.tw4780978450331607674 := ()
def PySem.W.Fast.tw15526892603705220879 := ()
def PySem.W.Fast.tw16066577645377177358 := ()
def PySem.W.Fast.tw15997748835551729777 := ()
def PySem.W.Fast.tw3521904340849632323 := ()
def PySem.W.Fast.tw10763022849294299056 := ()
def PySem.W.Fast.tw5050403612351719493 := ()
def PySem.W.Fast.tw12408052583637770075 := ()
def PySem.W.Fast.tw3789203720708459409 := ()
def PySem.W.Fast.tw6979435613051885626 := ()
def PySem.W.Fast.tw3147902656263350448 := ()
def PySem.W.Fast.tw15399435438339178845 := ()
def PySem.W.Fast.tw15138098513534127952 := ()
def PySem.W.Fast.tw2753562215935915474 := ()
def PySem.W.Fast.tw1886739243149404755 := ()
def PySem.W.Fast.tw5137226379023565559 := ()
def PySem.W.Fast.tw14208823011519449237 := ()
def PySem.W.Fast.tw5016687872079783658 := ()
def PySem.W.Fast.tw13353346716529031119 := ()
def PySem.W.Fast.tw11622898663251456 := ()
def PySem.W.Fast.tw17521578041922730372 := ()
def PySem.W.Fast.tw8763006278081919790 := ()
def PySem.W.Fast.tw3230294789715094730 := ()
def PySem.W.Fast.tw4354020536546869690 := ()
def PySem.W.Fast.tw18313144807152241455 := ()
def PySem.W.Fast.tw3269402140331190524 := ()
def PySem.W.Fast.tw4332031688383780241 := ()
def PySem.W.Fast.tw12760572605097967546 := ()
def PySem.W.Fast.tw8229381287347425479 := ()
def PySem.W.Fast.tw16614142510680894298 := ()
def PySem.W.Fast.tw12238316504381687741 := ()
def PySem.W.Fast.tw11563952769089082534 := ()
def PySem.W.Fast.tw9076611000818977265 := ()
def PySem.W.Fast.tw16029309541478686914 := ()
def PySem.W.Fast.tw15261814569965651889 := ()
def PySem.W.Fast.tw4459895721918889419 := ()
def PySem.W.Fast.tw5846477371083068136 := ()
def PySem.W.Fast.tw8898380312331290967 := ()
def PySem.W.Fast.tw482379187016767373 := ()
def PySem.W.Fast.tw7311399391905165419 := ()
def PySem.W.Fast.tw14067838974955744035 := ()
def PySem.W.Fast.tw6966849846858214422 := ()
def PySem.W.Fast.tw17410858235604397286 := ()
def PySem.W.Fast.tw15372415487925831568 := ()
def PySem.W.Fast.tw12130166762445324414 := ()
def PySem.W.Fast.tw10589056279305568671 := ()
def PySem.W.Fast.tw6809818852154204257 := ()
def PySem.W.Fast.tw13374182054723895868 := ()
def PySem.W.Fast.tw2922989897213840453 := ()
def PySem.W.Fast.tw14964942110907305505 := ()
namespace HdQ
open PySem PySem.W
def live (o : Obj) : Bool := match o.data with
  | .freed => false
  | _ => true
noncomputable def pick (l : List Obj) : Nat → List Nat → List (Obj × Bool) :=
  @List.rec Obj (fun _ => Nat → List Nat → List (Obj × Bool)) (fun _ _ => [])
    (fun o _ ih i as => @List.rec Nat (fun _ => List (Obj × Bool)) [] (fun a as' _ => @Bool.rec (fun _ => List (Obj × Bool)) (ih (i + 1) (a :: as')) ((o, live o) :: ih (i + 1) as') (Nat.beq i a)) as) l
theorem pick_is : ∀ (l : List Obj) (i : Nat) (as : List Nat), (pick l i as).length = as.length → ∀ (k a : Nat) (o : Obj × Bool), as[k]? = some a → (pick l i as)[k]? = some o → i ≤ a ∧ l[a - i]? = some o.1 ∧ o.2 = live o.1
  | [], i, as, h, k, a, o, h1, h2 => by
    exfalso
    have : (pick [] i as)[k]? = none := rfl
    rw [this] at h2
    cases h2
  | x :: l, i, [], h, k, a, o, h1, h2 => by simp at h1
  | x :: l, i, b :: as, h, k, a, o, h1, h2 => by
    have e : pick (x :: l) i (b :: as) = @Bool.rec (fun _ => List (Obj × Bool)) (pick l (i + 1) (b :: as)) ((x, live x) :: pick l (i + 1) as) (Nat.beq i b) := rfl
    rw [e] at h h2
    cases q : Nat.beq i b with
    | true =>
      have ib := Nat.eq_of_beq_eq_true q
      rw [q] at h h2
      have h' : (pick l (i + 1) as).length + 1 = as.length + 1 := h
      cases k with
      | zero =>
        cases h1
        cases h2
        exact ⟨by omega, by rw [ib, Nat.sub_self]; rfl, rfl⟩
      | succ k =>
        obtain ⟨g1, g2, g3⟩ := pick_is l (i + 1) as (by omega) k a o h1 h2
        exact ⟨by omega, by rw [show a - i = (a - (i + 1)) + 1 by omega]; exact g2, g3⟩
    | false =>
      rw [q] at h h2
      obtain ⟨g1, g2, g3⟩ := pick_is l (i + 1) (b :: as) h k a o h1 h2
      exact ⟨by omega, by rw [show a - i = (a - (i + 1)) + 1 by omega]; exact g2, g3⟩
theorem get_live {h : Heap} {a : Addr} {o : Obj} (e : h.objs[a]? = some o) (l : live o = true) : h.get? a = some o := by
  unfold Heap.get?
  rw [e]
  obtain ⟨c, d, dt, sl⟩ := o
  cases dt <;> first | rfl | (exact absurd l Bool.false_ne_true)
theorem pick_get {K : Frag} {as : List Addr} {h : Heap} (e : as = K.map (·.1)) (x : pick h.objs.toList 0 as = K.map fun p => (p.2, true)) : as.map h.get? = K.map fun p => some p.2 := by
  have hl : (pick h.objs.toList 0 as).length = as.length := by rw [x, e, List.length_map, List.length_map]
  refine List.ext_getElem? fun k => ?_
  rw [List.getElem?_map, List.getElem?_map]
  cases q : K[k]? with
  | none =>
    have : as[k]? = none := by rw [e, List.getElem?_map, q]; rfl
    rw [this]; rfl
  | some p =>
    have h1 : as[k]? = some p.1 := by rw [e, List.getElem?_map, q]; rfl
    have h2 : (pick h.objs.toList 0 as)[k]? = some (p.2, true) := by rw [x, List.getElem?_map, q]; rfl
    obtain ⟨_, g, gl⟩ := pick_is _ _ _ hl k p.1 _ h1 h2
    rw [h1]
    show some (h.get? p.1) = some (some p.2)
    rw [Nat.sub_zero, Array.getElem?_toList] at g
    rw [get_live g gl.symm]
noncomputable def hk (K : Params → Frag) (as : List Addr) (e : ∀ P, as = (K P).map (·.1)) : Hook :=
  ⟨List (Obj × Bool), fun s => pick s.heap.objs.toList 0 as, fun w => (K w.params).map fun p => (p.2, true), InK K, fun w s x => InK.of e w s (pick_get (e _) x), InK.keeps⟩
theorem hk_in {K : Params → Frag} {as : List Addr} {e : ∀ P, as = (K P).map (·.1)} {w : World} {h : Heap} (Y : (hk K as e).says w h) : (K w.params).In h := Y
end HdQ
namespace HdQ
open PySem PySem.W
def q0 : Program := { PySem.Challenge.rw_heddle_k62_far_fields_asked.prog with main := { PySem.Challenge.rw_heddle_k62_far_fields_asked.prog.main with body := PySem.Challenge.rw_heddle_k62_far_fields_asked.prog.main.body.drop 202 } }
def l0 : List Str := [Str.ofString "WeaveError", Str.ofString "NoRow", Str.ofString "TooLarge", Str.ofString "NoCloth", Str.ofString "NoDraft", Str.ofString "NoStrand", Str.ofString "NoLaying", Str.ofString "NoShuttle", Str.ofString "NoColour", Str.ofString "NoBlock", Str.ofString "NoPattern", Str.ofString "Unknown", Str.ofString "Twice", Str.ofString "MOST_STRANDS", Str.ofString "measured", Str.ofString "back_of", Str.ofString "quarter_of", Str.ofString "measured_texts", Str.ofString "check_pick", Str.ofString "check_strand", Str.ofString "end_signs", Str.ofString "turned_signs", Str.ofString "MOST_SHAFTS", Str.ofString "Draft", Str.ofString "woven", Str.ofString "least_draft", Str.ofString "check_setting", Str.ofString "check_count", Str.ofString "check_count_drafts", Str.ofString "check_shaft", Str.ofString "check_tie", Str.ofString "check_treading", Str.ofString "shed_over", Str.ofString "shafts_over", Str.ofString "unlike", Str.ofString "LETTERS", Str.ofString "MOST_LETTERS", Str.ofString "WORDS", Str.ofString "is_name", Str.ofString "FIGURES", Str.ofString "Reader", Str.ofString "number_of", Str.ofString "MOST_NUMBERS", Str.ofString "MOST_DEEP_rows", Str.ofString "Path", Str.ofString "Times", Str.ofString "unfolded", Str.ofString "shown", Str.ofString "whole_size", Str.ofString "all_numbers", Str.ofString "steps_between", Str.ofString "read_row", Str.ofString "read_items", Str.ofString "read_item", Str.ofString "read_times", Str.ofString "read_path", Str.ofString "read_number", Str.ofString "read_number_rows", Str.ofString "parted", Str.ofString "written_path", Str.ofString "is_stop", Str.ofString "BETWEEN_PARTS", Str.ofString "BETWEEN_TIES", Str.ofString "written_draft", Str.ofString "read_draft", Str.ofString "filled_blocks", Str.ofString "unit_size", Str.ofString "overs_within", Str.ofString "tiled", Str.ofString "times_met", Str.ofString "scores_of", Str.ofString "tops_of", Str.ofString "layers_of", Str.ofString "layer_numbers", Str.ofString "laid_together", Str.ofString "check_owners", Str.ofString "check_piece", Str.ofString "places_within", Str.ofString "sign_at", Str.ofString "Piece", Str.ofString "Named", Str.ofString "Rows", Str.ofString "Twill", Str.ofString "Satin", Str.ofString "Beside", Str.ofString "Above", Str.ofString "Mirror", Str.ofString "Upend", Str.ofString "Back", Str.ofString "Quarter", Str.ofString "Tile", Str.ofString "Blocks", Str.ofString "Lay", Str.ofString "check_size", Str.ofString "check_one_size", Str.ofString "prime_to", Str.ofString "written", Str.ofString "MOST_DEEP_reader", Str.ofString "MOST_RUNS", Str.ofString "THINGS", Str.ofString "read_pattern", Str.ofString "read_whole", Str.ofString "read_node", Str.ofString "read_things", Str.ofString "read_runs", Str.ofString "read_run", Str.ofString "read_number_reader", Str.ofString "read_comma", Str.ofString "worked_out", Str.ofString "known_cloth", Str.ofString "made_of_one", Str.ofString "made_of_two", Str.ofString "made_of_three", Str.ofString "read_book", Str.ofString "read_line", Str.ofString "parting_place", Str.ofString "check_set", Str.ofString "lower_strands", Str.ofString "lower_within", Str.ofString "ways_from", Str.ofString "way_to", Str.ofString "upper_part", Str.ofString "measured_half", Str.ofString "finished_cloth", Str.ofString "settle", Str.ofString "longest_float", Str.ofString "COLOURS", Str.ofString "free_half", Str.ofString "measured_picture", Str.ofString "check_threads", Str.ofString "free_pick", Str.ofString "free_sign", Str.ofString "first_colouring", Str.ofString "crossings_of", Str.ofString "settle_strand", Str.ofString "chain_from", Str.ofString "made_draft", Str.ofString "shifts_of", Str.ofString "least_across", Str.ofString "stays", Str.ofString "moved", Str.ofString "SHUTTLES", Str.ofString "seams_of", Str.ofString "tubes_of", Str.ofString "sheets_of", Str.ofString "check_shuttles", Str.ofString "seams_along", Str.ofString "bearers", Str.ofString "round_way", Str.ofString "web_of_set", Str.ofString "MOST_FIGURES", Str.ofString "ASKED_OF_A_NAME", Str.ofString "answers_to", Str.ofString "words_of", Str.ofString "answer_to", Str.ofString "answered", Str.ofString "of_a_name", Str.ofString "overs", Str.ofString "sheets", Str.ofString "paint", Str.ofString "check_count_desk", Str.ofString "check_name", Str.ofString "far_number", Str.ofString "whole_number", Str.ofString "_law_at", Str.ofString "_law_numbers", Str.ofString "_law_cloth", Str.ofString "_law_place", Str.ofString "_law_span", Str.ofString "_law_times", Str.ofString "_law_count", Str.ofString "_law_odd", Str.ofString "_law_questions"]
end HdQ
open Lean in
local macro_rules
  | `(tactic| refine $f:ident $args*) => do
    unless f.getId == `PySem.W.holds_open do Macro.throwUnsupported
    let some qa := args.find? fun a => a.raw.isOfKind ``Lean.Parser.Term.namedArgument && a.raw[1].getId.eraseMacroScopes == `q | Macro.throwUnsupported
    let qs := qa.raw[3]
    if qs.isIdent && qs.getId == `HdQ.q0 then Macro.throwUnsupported
    let q0 := (mkIdent `HdQ.q0).raw
    let args := args.map fun a => ⟨Id.run do
      if a.raw.isOfKind ``Lean.Parser.Term.namedArgument then
        if a.raw[1].getId.eraseMacroScopes == `loose then return a.raw.setArg 3 (mkIdent `HdQ.l0)
        return Id.run (a.raw.replaceM fun s => pure (if s.structEq qs then some q0 else none))
      return a.raw⟩
    `(tactic| refine $f:ident $args*)
open Lean in
local macro_rules
  | `(tactic| o_head ($h:ident $a $b $c $_ds*)) => do
    unless [`kHook, `kmHook, `PySem.W.kHook, `PySem.W.kmHook].contains h.getId.eraseMacroScopes do Macro.throwUnsupported
    `(tactic| o_head (HdQ.hk $a $b $c))
set_option maxRecDepth 100000 in
set_option maxHeartbeats 0 in
theorem PySem.Challenge.cw_heddle_k62_far_fields_asked_holds : PySem.Challenge.rw_heddle_k62_far_fields_asked.Holds := by
  w_on; o_law; k_head; (case hw => w_witness2)
  k_fill
  refine L2.walk_ofK (l := PySem.Challenge.rw_heddle_k62_far_fields_asked) (n := 63) (k := 36) (x := "script") (CX := L2.CX0) (sp := Mine.sp_law) rfl (by decide) rfl ⟨rfl, by decide, by decide⟩ (fun w h Y => HdQ.hk_in Y) ?F ?S ?C
  case F =>
    intro w mg fa h KX G hmg
    refine' Mine.law_go (t := Mine.Adr.mk) hmg ?T
    case T =>
      constructor <;> (try dsimp only) <;> first
      | (refine' L2.DfH.df ⟨?a, ?b⟩ KX G ?c; (case a => k_is); (case b => (apply L2.fun_mk <;> k_is)); (case c => (intro _ _ _ _ _ _ us hl; first | exact Mine.bl1 (fun _ => rfl) us hl | exact Mine.bl2 (fun _ _ => rfl) us hl | exact Mine.bl3 (fun _ _ _ => rfl) us hl | exact Mine.bl4 (fun _ _ _ _ => rfl) us hl | exact Mine.bl5 (fun _ _ _ _ _ => rfl) us hl)))
      | (refine' L2.DfA.of ?a ?b KX G ?c; (case a => k_is); (case b => (apply L2.fun_mk <;> k_is)); (case c => (intro _ _ _ _ _ _ us hl; first | exact Mine.bl1 (fun _ => rfl) us hl | exact Mine.bl2 (fun _ _ => rfl) us hl | exact Mine.bl3 (fun _ _ _ => rfl) us hl | exact Mine.bl4 (fun _ _ _ _ => rfl) us hl | exact Mine.bl5 (fun _ _ _ _ _ => rfl) us hl)))
      | exact PySem.W.mg_none_of KX G (by k_is)
      | exact ⟨_, PySem.W.mg_of KX G (by k_is)⟩
      | exact PySem.W.mg_of KX G (by k_is)
      | (refine' L2.MfH.mf ⟨?a, ?b, ?d⟩ ?c; (case a => k_is); (case b => k_is); (case d => (apply L2.fun_mk <;> k_is)); (case c => (intro _ _ _ _ _ _ us hl; first | exact Mine.bl1 (fun _ => rfl) us hl | exact Mine.bl2 (fun _ _ => rfl) us hl | exact Mine.bl3 (fun _ _ _ => rfl) us hl | exact Mine.bl4 (fun _ _ _ _ => rfl) us hl | exact Mine.bl5 (fun _ _ _ _ _ => rfl) us hl)))
      | (apply L2.own_mk <;> k_is)
      | (unfold L2.NoAttr; k_is)
      | (apply L2.exn_mk <;> first | k_exc | k_is)
      | k_is
      | kernel_rfl
      | (refine L2.topT_of (by k_is) rfl rfl (by decide) ?_; repeat (first | exact .nil | refine .cons ⟨_, rfl⟩ ?_))
      | (refine L2.top_of ?_; kernel_rfl)
      | (constructor <;> first | k_is | rfl)
  case S => exact fun K H a ns hl hO hS => Mine.sp_law_holds hl hS
  case C => exact fun _ _ _ _ z => z
