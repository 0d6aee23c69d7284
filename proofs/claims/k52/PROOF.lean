import PyProof.Rows.All
import Wide.All
import OpenK.AllK
import Wide.FinOn
import Lean
import PyProof.EqAt
import PyProof.EqKinds
import PyProof.TupleCall
import PyProof.StrBlockL
import PyProof.EnumMake
import PyProof.CollectIter
import PyProof.JoinWalk
import PyProof.StrOps
import PyProof.StrLawsIdx
import PyProof.StrLawsIn
import PyProof.ListRange
import PyProof.Rows.Range3
import PyProof.Rows.SumAny
import KE.KIntText
import KE.LcSums
import PyProof.LongRange
import PyProof.StrOps2
import PyProof.FitsBits
import PyProof.NeKinds
import PyProof.Rows.SortRev
import PyProof.Rows.SortWalk
import PyProof.Rows.CallKwBuiltin
import PyProof.Rows.MinMaxN
import PyProof.Rows.SetFrom
import PyProof.CollectWalk
import PyProof.DictWalks
import PyProof.Rows.ZipGen
import PyProof.Draws
import PyProof.Rows.SeqMore
import KE.KItemsList
import PySem.Challenge.RW_heddle_k52_filled
set_option Elab.async false
set_option linter.all false
set_option maxRecDepth 100000
namespace L2
open PySem PySem.Spec PyProof.Rows
abbrev Key := Sum Int Str
def keyIs : Key → Value → Bool
  | .inl k, v => Value.isInt k v
  | .inr x, v => Value.isStrOf x v
def keyH (w : World) : Key → Int
  | .inl k => hashInt k
  | .inr x => hashStr w x
theorem keyIs_shape : ∀ {k : Key} {v : Value}, keyIs k v = true → (∃ i t, k = Sum.inl i ∧ v = Value.int i t) ∨ (∃ x t, k = Sum.inr x ∧ v = Value.str x t)
  | .inl i, v, h => by
    obtain ⟨t, e⟩ := Value.isInt_shape (k := i) (v := v) h
    exact .inl ⟨i, t, rfl, e⟩
  | .inr x, v, h => by
    obtain ⟨t, e⟩ := Value.isStrOf_shape (x := x) (v := v) h
    exact .inr ⟨x, t, rfl, e⟩
theorem key_ll (a b : Int) : decide ((Sum.inl a : Key) = Sum.inl b) = (a == b) := by
  by_cases e : a = b
  · subst e; simp
  · have h : ¬ (Sum.inl a : Key) = Sum.inl b := fun q => e (Sum.inl.inj q)
    rw [decide_eq_false h]
    exact (beq_eq_false_iff_ne.mpr e).symm
theorem key_rr (a b : Str) : decide ((Sum.inr a : Key) = Sum.inr b) = decide (a = b) := by
  by_cases e : a = b
  · subst e; simp
  · have h : ¬ (Sum.inr a : Key) = Sum.inr b := fun q => e (Sum.inr.inj q)
    rw [decide_eq_false h, decide_eq_false e]
theorem key_lr (a : Int) (b : Str) : decide ((Sum.inl a : Key) = Sum.inr b) = false := decide_eq_false (fun q => nomatch q)
theorem key_rl (a : Str) (b : Int) : decide ((Sum.inr a : Key) = Sum.inl b) = false := decide_eq_false (fun q => nomatch q)
def mixKind (prog : Program) (w : World) : PySem.KeyKind prog w Key where
  is := keyIs
  hash := keyH w
  inj := fun v a b ha hb => by
    rcases keyIs_shape ha with ⟨i, t, rfl, rfl⟩ | ⟨x, t, rfl, rfl⟩
    · rcases keyIs_shape hb with ⟨j, u, rfl, e⟩ | ⟨y, u, rfl, e⟩
      · injection e with e1 _; rw [e1]
      · exact nomatch e
    · rcases keyIs_shape hb with ⟨j, u, rfl, e⟩ | ⟨y, u, rfl, e⟩
      · exact nomatch e
      · injection e with e1 _; rw [e1]
  byValue := fun k v h => by
    rcases keyIs_shape h with ⟨i, t, rfl, rfl⟩ | ⟨x, t, rfl, rfl⟩ <;> rfl
  pyHash := fun hv h => by
    rcases keyIs_shape hv with ⟨i, t, rfl, rfl⟩ | ⟨x, t, rfl, rfl⟩
    · exact wpAny_pyHash_int h
    · exact wpAny_pyHash_str h
  eqBool := fun hu hv h => by
    rcases keyIs_shape hu with ⟨i, t, rfl, rfl⟩ | ⟨x, t, rfl, rfl⟩
    · rcases keyIs_shape hv with ⟨j, u, rfl, rfl⟩ | ⟨y, u, rfl, rfl⟩
      · rw [key_ll] at h; exact wpAny_eqBool_int h
      · rw [key_lr] at h; exact SeqAt.EqAt.int_str i t y u _ _ _ _ h
    · rcases keyIs_shape hv with ⟨j, u, rfl, rfl⟩ | ⟨y, u, rfl, rfl⟩
      · rw [key_rl] at h; exact SeqAt.EqAt.str_int x t j u _ _ _ _ h
      · rw [key_rr] at h; exact wpAny_eqBool_str h
  «strs» := fun k x t v h => by
    rcases keyIs_shape h with ⟨i, u, rfl, e⟩ | ⟨y, u, rfl, e⟩
    · exact nomatch e
    · injection e with e1 _
      subst e1
      cases v <;> rfl
open PySem PySem.Spec PyProof.Rows
inductive V where
  | non | bl (b : Bool) | int (i : Int) | str (x : Str) | byt (b : Array UInt8) | flt (b : UInt64) | ref (a : Addr) | ty (n : String)
  deriving DecidableEq
def RelV : V → Value → Prop
  | .non, u => u = Value.none
  | .bl b, u => u = Value.bool b
  | .int i, u => ∃ t, u = Value.int i t
  | .str x, u => ∃ t, u = Value.str x t
  | .byt b, u => ∃ t, u = Value.bytes b t
  | .flt b, u => ∃ t, u = Value.float b t
  | .ref a, u => u = Value.ref a
  | .ty n, u => u = Value.type n
abbrev Vals : List V → List Value → Prop := Paired RelV
theorem Vals.length {xs : List V} {us : List Value} (r : Vals xs us) : xs.length = us.length := Paired.length r
theorem Vals.get : ∀ {xs : List V} {us : List Value} {i : Nat} {x : V}, Vals xs us → xs[i]? = some x → ∃ u, us[i]? = some u ∧ RelV x u
  | _, _, _, _, .nil, e => by simp at e
  | _, _, 0, _, .cons r _, e => by simp at e; subst e; exact ⟨_, rfl, r⟩
  | _, _, i + 1, x, .cons _ t, e => by
    obtain ⟨u, h1, h2⟩ := Vals.get (i := i) (x := x) t (by simpa using e)
    exact ⟨u, by simpa using h1, h2⟩
theorem Vals.set {x : V} {u : Value} (r : RelV x u) : ∀ {xs : List V} {us : List Value} (i : Nat), Vals xs us → Vals (xs.set i x) (us.set i u)
  | _, _, _, .nil => .nil
  | _, _, 0, .cons _ t => .cons r t
  | _, _, i + 1, .cons q t => .cons q (Vals.set r i t)
theorem Vals.append : ∀ {xs ys : List V} {us ws : List Value}, Vals xs us → Vals ys ws → Vals (xs ++ ys) (us ++ ws)
  | _, _, _, _, .nil, s => s
  | _, _, _, _, .cons r t, s => .cons r (Vals.append t s)
theorem Vals.take : ∀ {xs : List V} {us : List Value} (n : Nat), Vals xs us → Vals (xs.take n) (us.take n)
  | _, _, 0, _ => .nil
  | _, _, _ + 1, .nil => .nil
  | _, _, n + 1, .cons r t => .cons r (Vals.take n t)
theorem Vals.drop : ∀ {xs : List V} {us : List Value} (n : Nat), Vals xs us → Vals (xs.drop n) (us.drop n)
  | _, _, 0, r => r
  | _, _, _ + 1, .nil => .nil
  | _, _, n + 1, .cons _ t => Vals.drop n t
def RelO : Option V → Option Value → Prop
  | some v, some u => RelV v u
  | none, none => True
  | _, _ => False
def KV {κ : Type} : List (κ × V) → List (κ × Value) → Prop := Paired fun (p : κ × V) (q : κ × Value) => p.1 = q.1 ∧ RelV p.2 q.2
def kV : Key → V
  | .inl i => .int i
  | .inr x => .str x
inductive HO where
  | lst (xs : List V)
  | tup (xs : List V)
  | dK (kvs : List (Key × V)) | dT (kvs : List (List Key × V))
  | set (S : Int → Bool) (n : Nat)
  | ins (C dx : Addr) (fs : List (Str × V))
  | own (x : Addr)
  | xd (fs : List (Str × V))
  | met (f x : Addr)
  | rng (lo hi : Int)
  | frz (o : Obj) (u : HO)
  | tbl (ps : Array Value)
  | ext (φ : Heap → Prop)
abbrev Hp := Addr → Option HO
def upd (H : Hp) (a : Addr) (o : HO) : Hp := fun b => if b = a then some o else H b
theorem upd_same {H : Hp} {a : Addr} {o : HO} : upd H a o a = some o := by unfold upd; rw [if_pos rfl]
theorem upd_ne {H : Hp} {a b : Addr} {o : HO} (h : b ≠ a) : upd H a o b = H b := by unfold upd; rw [if_neg h]
theorem ne_of_none {H : Hp} {a b : Addr} {o : HO} (h : H a = some o) (h' : H b = none) : a ≠ b := by
  intro e; subst e; rw [h] at h'; cases h'
section
variable (P : Program) (w : World)
def ObjOk (H : Hp) (h : Heap) (a : Addr) : HO → Prop
  | .lst xs => xs.length ≤ sizeLine ∧ ∃ (its : List Value) (n : Nat), Vals xs its ∧ h.get? a = some { cls := .type "list", data := .seq its.toArray n }
  | .tup xs => xs.length ≤ sizeLine ∧ ∃ its : List Value, Vals xs its ∧ IsTup h a its.toArray
  | .dK kvs => kvs.length ≤ sizeLine ∧ (a == sysModules) = false ∧ ∃ vs, KV kvs vs ∧ h.DictOf (mixKind P w) a vs
  | .dT kvs => kvs.length ≤ sizeLine ∧ (a == sysModules) = false ∧ ∃ xs : List (List Key × Addr × Value),
      Paired (fun (p : List Key × V) (q : List Key × Addr × Value) => p.1 = q.1 ∧ H q.2.1 = some (.tup (p.1.map kV)) ∧ RelV p.2 q.2.2) kvs xs ∧
      ∃ o es ep, h.get? a = some o ∧ o.ExactDict ∧ o.data = .dict es ep ∧ es.toList = xs.map (entryOfKey (tupleKind (mixKind P w))) ∧ (xs.map (·.1)).Nodup
  | .set S n => h.SetOf (intKind P w) a S n
  | .ins C dx fs => H dx = some (.own a) ∧ fs.length ≤ 1000 ∧ dx ≠ a ∧ h.get? a = some (PySem.W.instObj C dx) ∧
      ∃ mA, h.Ns1 dx mA ∧ (∀ f, RelO (fs.lookup f) (mA f)) ∧ PySem.Within mA (fs.map (·.1))
  | .own _ => ∃ o, h.get? a = some o
  | .xd fs => ∃ mA, h.Ns1 a mA ∧ ∀ f, RelO (fs.lookup f) (mA f)
  | .rng lo hi => ∃ t u v, h.get? a = some { cls := .type "range", data := .fields #[.int lo t, .int hi u, .int 1 v] }
  | .frz o u => h.get? a = some o ∧ ObjOk H h a u
  | .tbl ps => h.get? a = some { cls := .none, data := .fields ps }
  | .met f x => h.get? a = some (PySem.W.methodObj (.ref f) (.ref x))
  | .ext φ => φ h ∧ (∃ o, h.get? a = some o) ∧ ∀ h1 h2 : Heap, φ h1 → (∀ o, h1.get? a = some o → h2.get? a = some o) → φ h2
def HOk (H : Hp) (h : Heap) : Prop := ∀ a o, H a = some o → ObjOk P w H h a o
end
section
variable {P : Program} {w : World} {H H' : Hp} {h h' : Heap} {a : Addr} {o : HO}
theorem ObjOk.lt (x : ObjOk P w H h a o) : a < h.objs.size := by
  cases o with
  | lst xs => obtain ⟨_, _, _, _, e⟩ := x; exact Heap.lt_size e
  | tup xs => obtain ⟨_, _, _, p⟩ := x; exact p.lt
  | dK kvs => obtain ⟨_, _, _, _, o, _, _, e, _⟩ := x; exact Heap.lt_size e
  | dT kvs => obtain ⟨_, _, _, _, o, _, _, e, _⟩ := x; exact Heap.lt_size e
  | set S n => obtain ⟨o, _, _, _, e, _⟩ := x; exact Heap.lt_size e
  | ins C dx fs => obtain ⟨_, _, _, e, _⟩ := x; exact Heap.lt_size e
  | own y => obtain ⟨_, e⟩ := x; exact Heap.lt_size e
  | xd fs => obtain ⟨_, ⟨_, _, _, e, _⟩, _⟩ := x; exact Heap.lt_size e
  | rng lo hi => obtain ⟨_, _, _, e⟩ := x; exact Heap.lt_size e
  | frz ob u => obtain ⟨e, _⟩ := x; exact Heap.lt_size e
  | tbl ps => exact Heap.lt_size (show h.get? a = some _ from x)
  | met f y => exact Heap.lt_size (show h.get? a = some _ from x)
  | ext φ => obtain ⟨_, ⟨_, e⟩, _⟩ := x; exact Heap.lt_size e
theorem Paired.mapP {α β : Type} {F G : α → β → Prop} : ∀ {l₁ : List α} {l₂ : List β}, Paired F l₁ l₂ → (∀ a b, F a b → G a b) → Paired G l₁ l₂
  | _, _, .nil, _ => .nil
  | _, _, .cons r t, f => .cons (f _ _ r) (Paired.mapP t f)
theorem ObjOk.stay (x : ObjOk P w H h a o) (k : ∀ b u, (b = a ∨ H b = some (.own a)) → h.get? b = some u → h'.get? b = some u)
    (ho : ∀ b, H b = some (.own a) → H' b = some (.own a)) (ht : ∀ b xs, H b = some (.tup xs) → H' b = some (.tup xs)) : ObjOk P w H' h' a o := by
  induction o with
  | lst xs => obtain ⟨z, its, n, r, e⟩ := x; exact ⟨z, its, n, r, k _ _ (.inl rfl) e⟩
  | tup xs => obtain ⟨z, its, r, ob, e, c⟩ := x; exact ⟨z, its, r, ob, k _ _ (.inl rfl) e, c⟩
  | dK kvs => obtain ⟨z, y, vs, r, ob, es, ep, e, c⟩ := x; exact ⟨z, y, vs, r, ob, es, ep, k _ _ (.inl rfl) e, c⟩
  | dT kvs =>
    obtain ⟨z, y, xs, r, ob, es, ep, e, c⟩ := x
    exact ⟨z, y, xs, Paired.mapP r fun p q z => ⟨z.1, ht _ _ z.2.1, z.2.2⟩, ob, es, ep, k _ _ (.inl rfl) e, c⟩
  | set S n => obtain ⟨ob, es, ep, t, e, c⟩ := x; exact ⟨ob, es, ep, t, k _ _ (.inl rfl) e, c⟩
  | ins C dx fs =>
    obtain ⟨d, z, ne, e, mA, ⟨od, es, ep, e2, c⟩, r⟩ := x
    exact ⟨ho _ d, z, ne, k _ _ (.inl rfl) e, mA, ⟨od, es, ep, k _ _ (.inr d) e2, c⟩, r⟩
  | own y => obtain ⟨ob, e⟩ := x; exact ⟨ob, k _ _ (.inl rfl) e⟩
  | xd fs => obtain ⟨mA, ⟨od, es, ep, e, c⟩, r⟩ := x; exact ⟨mA, ⟨od, es, ep, k _ _ (.inl rfl) e, c⟩, r⟩
  | rng lo hi => obtain ⟨t, u, v, e⟩ := x; exact ⟨t, u, v, k _ _ (.inl rfl) e⟩
  | frz ob u ih => obtain ⟨e, q⟩ := x; exact ⟨k _ _ (.inl rfl) e, ih q⟩
  | tbl ps =>
    have e : h.get? a = some { cls := .none, data := .fields ps } := x
    show h'.get? a = some { cls := .none, data := .fields ps }
    exact k a _ (.inl rfl) e
  | met f y =>
    have e : h.get? a = some (PySem.W.methodObj (.ref f) (.ref y)) := x
    show h'.get? a = some (PySem.W.methodObj (.ref f) (.ref y))
    exact k a _ (.inl rfl) e
  | ext φ => obtain ⟨p, ⟨o, e⟩, st⟩ := x; exact ⟨st _ _ p fun o q => k _ _ (.inl rfl) q, ⟨o, k _ _ (.inl rfl) e⟩, st⟩
theorem HOk.lt (x : HOk P w H h) (e : H a = some o) : a < h.objs.size := (x a o e).lt
theorem HOk.fresh (x : HOk P w H h) (e : h.objs.size ≤ a) : H a = none := by
  cases q : H a with
  | none => rfl
  | some u => exact absurd (Nat.lt_of_lt_of_le (x.lt q) e) (Nat.lt_irrefl _)
theorem HOk.kept (x : HOk P w H h) (k : ∀ b u, h.get? b = some u → h'.get? b = some u) : HOk P w H h' := fun a o e =>
  (x a o e).stay (fun b u _ q => k b u q) (fun _ q => q) fun _ _ q => q
theorem HOk.laid (x : HOk P w H h) (k : ∀ b u, h.get? b = some u → h'.get? b = some u) (hp : h.objs.size ≤ a) (new : ObjOk P w (upd H a o) h' a o) : HOk P w (upd H a o) h' := fun b u e => by
  have hn := x.fresh hp
  by_cases hb : b = a
  · subst hb; rw [upd_same] at e; cases e; exact new
  · rw [upd_ne hb] at e
    exact (x b u e).stay (fun c v _ q => k c v q) (fun c q => by rw [upd_ne (ne_of_none q hn)]; exact q) fun c xs q => by rw [upd_ne (ne_of_none q hn)]; exact q
end
def Rd (H : Hp) (a : Addr) (u : HO) : Prop := H a = some u ∨ ∃ o, H a = some (.frz o u)
theorem Rd.ok {P : Program} {w : World} {H : Hp} {h : Heap} {a : Addr} {u : HO} (r : Rd H a u) (x : HOk P w H h) : ObjOk P w H h a u := by
  rcases r with r | ⟨o, r⟩
  · exact x a u r
  · obtain ⟨_, q⟩ := x a _ r
    exact q
def Mut : Option HO → Prop
  | some (.lst _) => True
  | some (.dK _) => True
  | some (.dT _) => True
  | some (.set _ _) => True
  | some (.ins _ _ _) => True
  | some (.ext _) => True
  | _ => False
section
variable {P : Program} {w : World} {H : Hp} {h h' : Heap} {x e : Addr} {o' : HO}
theorem HOk.write (ok : HOk P w H h) (mu : Mut (H x)) (he : e = x ∨ H e = some (.own x)) (k : ∀ b u, b ≠ e → h.get? b = some u → h'.get? b = some u) (heo : ∃ u, h'.get? e = some u)
    (new : ObjOk P w (upd H x o') h' x o') : HOk P w (upd H x o') h' := fun b u q => by
  have nown : ∀ c y, H c = some (.own y) → c ≠ x := fun c y r z => by subst z; rw [r] at mu; exact mu
  have ntup : ∀ c xs, H c = some (.tup xs) → c ≠ x := fun c xs r z => by subst z; rw [r] at mu; exact mu
  by_cases hb : b = x
  · subst hb; rw [upd_same] at q; cases q; exact new
  · rw [upd_ne hb] at q
    by_cases hbe : b = e
    · have q' : H b = some (.own x) := by
        rcases he with z | z
        · exact absurd (hbe.trans z) hb
        · rw [hbe]; exact z
      rw [q] at q'; cases q'
      obtain ⟨v, hv⟩ := heo
      exact ⟨v, by rw [hbe]; exact hv⟩
    · refine (ok b u q).stay (fun c v hc r => k c v ?_ r) (fun c r => by rw [upd_ne (nown c b r)]; exact r) fun c xs r => by rw [upd_ne (ntup c xs r)]; exact r
      rcases hc with rfl | hc
      · exact hbe
      · rintro rfl
        rcases he with z | z
        · exact nown c b hc z
        · rw [hc] at z; cases z; exact hb rfl
end
structure Un (fs ex : List Addr) (H H' : Hp) (h h' : Heap) : Prop where
  keep : ∀ b o, h.get? b = some o → H b = none → b ∉ fs → b ∉ ex → h'.get? b = some o
  slot : ∀ b o, h.get? b = some o → H b = none → b ∈ fs → b ∉ ex → ∃ sl, h'.get? b = some { o with slots := sl }
  free : ∀ b o, h.get? b = some o → H b = none → b ∉ ex → H' b = none
  there : ∀ b o, h.get? b = some o → b ∉ ex → ∃ o', h'.get? b = some o'
  tups : ∀ b xs, H b = some (.tup xs) → H' b = some (.tup xs)
  frzs : ∀ b o u, H b = some (.frz o u) → H' b = some (.frz o u)
  tbls : ∀ b ps, H b = some (.tbl ps) → ∃ more, H' b = some (.tbl (ps ++ more))
section
variable {fs fs' ex ex' : List Addr} {H H1 H2 : Hp} {h h1 h2 h' : Heap} {a x e : Addr} {o : HO}
theorem Un.any (u : Un fs ex H H1 h h1) {b : Addr} {ob : Obj} (q : h.get? b = some ob) (n : H b = none) (hx : b ∉ ex) : ∃ sl, h1.get? b = some { ob with slots := sl } := by
  by_cases hb : b ∈ fs
  · exact u.slot b ob q n hb hx
  · exact ⟨ob.slots, u.keep b ob q n hb hx⟩
theorem Un.kept (k : ∀ b u, h.get? b = some u → h'.get? b = some u) : Un fs ex H H h h' :=
  ⟨fun b ob q _ _ _ => k b ob q, fun b ob q _ _ _ => ⟨ob.slots, k b ob q⟩, fun _ _ _ n _ => n, fun b ob q _ => ⟨ob, k b ob q⟩, fun _ _ q => q, fun _ _ _ q => q, fun _ ps q => ⟨#[], by rw [q]; simp⟩⟩
theorem Un.refl : Un fs ex H H h h := Un.kept fun _ _ q => q
theorem Un.laid (k : ∀ b u, h.get? b = some u → h'.get? b = some u) (hp : h.objs.size ≤ a) (hn : H a = none) : Un fs ex H (upd H a o) h h' where
  keep := fun b u q _ _ _ => k b u q
  slot := fun b u q _ _ _ => ⟨u.slots, k b u q⟩
  free := fun b u q n _ => by rw [upd_ne (Nat.ne_of_lt (Nat.lt_of_lt_of_le (Heap.lt_size q) hp))]; exact n
  there := fun b u q _ => ⟨u, k b u q⟩
  tups := fun b xs q => by rw [upd_ne (ne_of_none q hn)]; exact q
  frzs := fun b u xs q => by rw [upd_ne (ne_of_none q hn)]; exact q
  tbls := fun b ps q => ⟨#[], by rw [upd_ne (ne_of_none q hn), q]; simp⟩
theorem Un.write (mu : Mut (H x)) (he : e = x ∨ H e = some (.own x)) (k : ∀ b u, b ≠ e → h.get? b = some u → h'.get? b = some u) (heo : ∃ u, h'.get? e = some u) : Un fs ex H (upd H x o) h h' := by
  have hx : ∀ b, H b = none → b ≠ x := fun b n z => by subst z; rw [n] at mu; exact mu
  have hb : ∀ b, H b = none → b ≠ e := fun b n z => by
    subst z
    rcases he with r | r
    · exact hx b n r
    · rw [n] at r; cases r
  have hm : ∀ b u, H b = some u → ¬ Mut (some u) → b ≠ x := fun b u q nm z => by subst z; rw [q] at mu; exact nm mu
  refine ⟨fun b u q n _ _ => k b u (hb b n) q, fun b u q n _ _ => ⟨u.slots, k b u (hb b n) q⟩, fun b u q n _ => by rw [upd_ne (hx b n)]; exact n, fun b u q _ => ?_,
    fun b xs q => by rw [upd_ne (hm b _ q fun z => z)]; exact q, fun b u xs q => by rw [upd_ne (hm b _ q fun z => z)]; exact q, fun b ps q => ⟨#[], by rw [upd_ne (hm b _ q fun z => z), q]; simp⟩⟩
  by_cases hbe : b = e
  · subst hbe; exact heo
  · exact ⟨u, k b u hbe q⟩
end
def trk (h : Heap) (H : Hp) : List Addr := (List.range h.objs.size).filter fun a => (H a).isSome
def hidT (h : Heap) (H : Hp) : Heap := PySem.W.hideAll h (trk h H)
theorem hidT_size (h : Heap) (H : Hp) : (hidT h H).objs.size = h.objs.size := PySem.W.hideAll_size _ _
theorem hidT_get {h : Heap} {H : Hp} {b : Addr} {o : Obj} (e : h.get? b = some o) (n : H b = none) : (hidT h H).get? b = some o :=
  PySem.W.hideAll_get _ e fun hm => by
    have q : (H b).isSome = true := (List.mem_filter.mp hm).2
    rw [n] at q; simp at q
theorem of_hidT {h : Heap} {H : Hp} {b : Addr} {o : Obj} (e : (hidT h H).get? b = some o) : h.get? b = some o ∧ H b = none := by
  have e' : h.get? b = some o := PySem.W.of_hideAll (trk h H) e
  refine ⟨e', ?_⟩
  cases q : H b with
  | none => rfl
  | some x =>
    have hm : b ∈ trk h H := List.mem_filter.mpr ⟨List.mem_range.mpr (Heap.lt_size e'), by simp [q]⟩
    have z : (hidT h H).get? b = none := PySem.W.hideAll_none (trk h H) hm
    rw [z] at e; cases e
def allNews (g h : Heap) (L : Addr) : List (Addr × Obj) := (List.range h.objs.size).filterMap fun a => if a = L ∨ (g.get? a).isSome = true then none else (h.get? a).map fun o => (a, o)
def rest (g h : Heap) (L d : Addr) : List (Addr × Obj) := (allNews g h L).filter fun p => decide (p.1 ≠ d)
open PySem PySem.Spec PyProof.Rows
structure Mod (K : PySem.W.Frag) (mg : Str → Option Value) (base : Heap) : Prop where
  kin : K.In base
  glob : base.Ns mainGlobals mg
  blt : ∃ mb, base.Ns builtinsNs mb ∧ ∀ x : Str, x ≠ "__name__" → mb x = bootBuiltins x
  nolimit : base.NoLimit
structure Cx where
  prog : Program
  w : World
  K : PySem.W.Frag
  mg : Str → Option Value
  base : Heap
  A : Around
  N : List Str
  s₀ : Shared
  H₀ : Hp
  env : Env
  outer : List Env
  stack : List Env
  ex : List Addr
  fn : Str → Bool
  calm : Bool
  pn : List (Addr × Obj)
  xe : Value → Shared → Prop
def frs (l : List Env) : List Addr := l.filterMap (·.frame)
abbrev Cx.fs (X : Cx) : List Addr := frs X.outer
def Vis (sc : Scope) (x : Str) : Prop := sc.names.lookup x = some .local ∨ sc.names.lookup x = some .cell ∨ sc.names.lookup x = some .free
def Loc (sc : Scope) (x : Str) : Prop := sc.names.lookup x = some .local ∨ sc.names.lookup x = some .cell
def Look (env : Env) (h : Heap) (m : Str → Option Value) (x : Str) (u : Value) : Prop :=
  (env.kindOf x = some .local ∧ m x = some u) ∨ ((env.kindOf x = some .cell ∨ env.kindOf x = some .free) ∧ ∃ c, env.cells.lookup x = some c ∧ h.IsCell c (some u))
structure Cx.Ok (X : Cx) : Prop where
  mod : Mod X.K X.mg X.base
  kind : X.env.scope.kind = .function
  glob : X.env.globals = mainGlobals
  blt : X.env.builtins = builtinsNs
  above : X.s₀.heap.objs.size ≤ X.env.locals
  inj : ∀ x y c, X.env.cells.lookup x = some c → X.env.cells.lookup y = some c → x = y
  has : ∀ x, (X.env.kindOf x = some .cell ∨ X.env.kindOf x = some .free) → ∃ c, X.env.cells.lookup x = some c
  cab : ∀ x c, X.fn x = true → X.env.cells.lookup x = some c → X.s₀.heap.objs.size ≤ c
  hd : X.calm = true → X.A.handled = none
  frames : X.A.frames = some X.stack
  stk : X.stack = X.outer ∨ (X.stack = X.env :: X.outer ∧ X.env.frame = some X.env.locals)
  exf : ∀ b ∈ X.ex, b ≠ X.env.locals ∧ ∀ x c, X.env.cells.lookup x = some c → c ≠ b
  bs : ∀ b o, X.base.get? b = some o → X.s₀.heap.get? b = some o ∧ X.H₀ b = none
  bsz : X.base.objs.size ≤ X.s₀.heap.objs.size
  noex : ∀ b o, X.base.get? b = some o → b ∉ X.ex
  exfs : ∀ b ∈ X.ex, b ∉ X.fs
  funs : X.s₀.heap.FunFrames X.base X.outer
  frf : ∀ b ∈ X.fs, X.H₀ b = none
structure Inv (X : Cx) (pins : List (Addr × Obj)) (σ : List (Option V)) (H : Hp) (s : Shared) : Prop where
  ok : X.Ok
  os : s.os = X.s₀.os
  bare : AllBare s.gens
  base : Un X.fs X.ex X.H₀ H X.s₀.heap s.heap
  loc : ∃ m, s.heap.Ns X.env.locals m ∧ ∀ (i : Nat) (x : Str) (v : V), X.N[i]? = some x → σ[i]? = some (some v) → Vis X.env.scope x → ∃ u, RelV v u ∧ Look X.env s.heap m x u
  cell : ∀ x c, X.env.cells.lookup x = some c → ∃ v, s.heap.IsCell c v
  free : H X.env.locals = none
  freeC : ∀ x c, X.env.cells.lookup x = some c → H c = none
  pin : ∀ p ∈ X.pn ++ pins, s.heap.get? p.1 = some p.2 ∧ H p.1 = none ∧ p.1 ≠ X.env.locals ∧ p.1 ∉ X.fs ∧ ∀ v, p.2.data ≠ .cell v
  hok : HOk X.prog X.w H s.heap
  len : σ.length = X.N.length
section
variable {X : Cx} {pins : List (Addr × Obj)} {σ : List (Option V)} {H H' : Hp} {s : Shared} {h' : Heap}
theorem Cx.Ok.nofr (ok : X.Ok) {b : Addr} {o : Obj} (e : X.base.get? b = some o) : b ∉ X.fs := fun hb => by
  have := (ok.funs.mem hb).1
  rw [e] at this; cases this
theorem Inv.bs (I : Inv X pins σ H s) : ∀ b o, X.base.get? b = some o → s.heap.get? b = some o ∧ H b = none := fun b o e =>
  ⟨I.base.keep b o (I.ok.bs b o e).1 (I.ok.bs b o e).2 (I.ok.nofr e) (I.ok.noex b o e), I.base.free b o (I.ok.bs b o e).1 (I.ok.bs b o e).2 (I.ok.noex b o e)⟩
theorem Inv.bk (I : Inv X pins σ H s) : ∀ b o, X.base.get? b = some o → s.heap.get? b = some o := fun b o e => (I.bs b o e).1
theorem Inv.mod (I : Inv X pins σ H s) : Mod X.K X.mg X.base := I.ok.mod
theorem Inv.kIn (I : Inv X pins σ H s) : X.K.In s.heap := I.ok.mod.kin.keeps I.bk
theorem Inv.lt (I : Inv X pins σ H s) : X.env.locals < s.heap.objs.size := let ⟨_, hn, _⟩ := I.loc; hn.lt
theorem Inv.sz (I : Inv X pins σ H s) : X.s₀.heap.objs.size ≤ s.heap.objs.size := Nat.le_trans I.ok.above (Nat.le_of_lt I.lt)
theorem Inv.nofs (I : Inv X pins σ H s) {a : Addr} (h : s.heap.objs.size ≤ a) : a ∉ X.fs := fun hb => by
  obtain ⟨_, o, ho, _⟩ := I.ok.funs.mem hb
  exact absurd (Nat.lt_of_lt_of_le (Heap.lt_size ho) (Nat.le_trans I.sz h)) (Nat.lt_irrefl _)
theorem Inv.cne (I : Inv X pins σ H s) : ∀ x c, X.env.cells.lookup x = some c → c ≠ X.env.locals := fun x c e z => by
  obtain ⟨v, o, ho, hd⟩ := I.cell x c e
  obtain ⟨m, ⟨o', es, ep, ho', hd', _⟩, _⟩ := I.loc
  rw [z, ho'] at ho; cases ho; rw [hd'] at hd; cases hd
theorem Inv.funs (I : Inv X pins σ H s) : s.heap.FunFrames X.base X.outer := by
  have all : ∀ (l : List Env), (∀ b ∈ frs l, b ∈ X.fs) → X.s₀.heap.FunFrames X.base l → s.heap.FunFrames X.base l := by
    intro l
    induction l with
    | nil => intro _ _; trivial
    | cons env r ih =>
      intro hs hl
      obtain ⟨hk, ⟨L, o, hf, hn, ho, hd⟩, hr⟩ := hl
      have hL : L ∈ X.fs := hs L (by unfold frs; rw [List.filterMap_cons, hf]; exact List.mem_cons_self)
      obtain ⟨sl, e⟩ := I.base.slot L o ho (I.ok.frf L hL) hL fun z => I.ok.exfs L z hL
      exact ⟨hk, ⟨L, _, hf, hn, e, hd⟩, ih (fun b hb => hs b (by unfold frs; rw [List.filterMap_cons, hf]; exact List.mem_cons_of_mem _ hb)) hr⟩
  exact all X.outer (fun _ hb => hb) I.ok.funs
theorem Inv.stack (I : Inv X pins σ H s) : s.heap.FunFrames X.base X.stack := by
  rcases I.ok.stk with e | ⟨e, hf⟩
  · rw [e]; exact I.funs
  · rw [e]
    obtain ⟨m, hn, _⟩ := I.loc
    refine .cons (by rw [I.ok.kind]; decide) hf hn ?_ I.funs
    exact Heap.get?_none_of_le (Nat.le_trans I.ok.bsz I.ok.above)
theorem Inv.stkSub (I : Inv X pins σ H s) : ∀ b ∈ frs X.stack, b ∈ X.env.locals :: X.fs := fun b hb => by
  rcases I.ok.stk with e | ⟨e, hf⟩
  · rw [e] at hb; exact List.mem_cons_of_mem _ hb
  · rw [e] at hb
    unfold frs at hb
    rw [List.filterMap_cons, hf] at hb
    exact hb
theorem Inv.stkFree (I : Inv X pins σ H s) : ∀ b ∈ frs X.stack, H b = none := fun b hb => by
  rcases List.mem_cons.mp (I.stkSub b hb) with e | hb
  · rw [e]; exact I.free
  · obtain ⟨_, o, ho, _⟩ := I.ok.funs.mem hb
    exact I.base.free b o ho (I.ok.frf b hb) fun z => I.ok.exfs b z hb
theorem Inv.step {g' : Array GenState} {t' : Nat} {d' : Drawn} {ch : List Addr} (I : Inv X pins σ H s)
    (hch : ∀ b ∈ ch, (b ∈ X.ex ∨ X.s₀.heap.objs.size ≤ b) ∧ b ≠ X.env.locals ∧ (∀ x c, X.env.cells.lookup x = some c → c ≠ b) ∧ ∀ p ∈ X.pn ++ pins, p.1 ≠ b)
    (keep : ∀ b o, b ≠ X.env.locals → b ∉ X.fs → b ∉ ch → s.heap.get? b = some o → H b = none → h'.get? b = some o)
    (slot : ∀ b o, b ≠ X.env.locals → b ∈ X.fs → b ∉ ch → s.heap.get? b = some o → H b = none → ∃ sl, h'.get? b = some { o with slots := sl }) (free : ∀ b o, b ∉ ch → s.heap.get? b = some o → H b = none → H' b = none)
    (there : ∀ b o, b ∉ ch → s.heap.get? b = some o → ∃ o', h'.get? b = some o')
    (tups : ∀ b xs, H b = some (.tup xs) → H' b = some (.tup xs)) (frzs : ∀ b o u, H b = some (.frz o u) → H' b = some (.frz o u)) (tbls : ∀ b ps, H b = some (.tbl ps) → ∃ more, H' b = some (.tbl (ps ++ more)))
    (ns : ∀ m, s.heap.Ns X.env.locals m → h'.Ns X.env.locals m) (hok : HOk X.prog X.w H' h') (hg : AllBare g') :
    Inv X pins σ H' { s with heap := h', gens := g', drawn := d', toks := t' } := by
  have neL : ∀ b o, X.s₀.heap.get? b = some o → b ≠ X.env.locals := fun b o e => Nat.ne_of_lt (Nat.lt_of_lt_of_le (Heap.lt_size e) I.ok.above)
  have neC : ∀ b o, X.s₀.heap.get? b = some o → b ∉ X.ex → b ∉ ch := fun b o e hx hb => by
    rcases (hch b hb).1 with z | z
    · exact hx z
    · exact absurd (Nat.lt_of_lt_of_le (Heap.lt_size e) z) (Nat.lt_irrefl _)
  have cellK : ∀ x c, X.env.cells.lookup x = some c → ∀ v, s.heap.IsCell c v → h'.IsCell c v := fun x c e v ⟨o, ho, hd⟩ => by
    have nch : c ∉ ch := fun z => (hch c z).2.2.1 x c e rfl
    by_cases hc : c ∈ X.fs
    · obtain ⟨sl, q⟩ := slot c o (I.cne x c e) hc nch ho (I.freeC x c e)
      exact ⟨_, q, hd⟩
    · exact ⟨o, keep c o (I.cne x c e) hc nch ho (I.freeC x c e), hd⟩
  refine ⟨I.ok, I.os, hg, ⟨fun b o e n hb hx => ?_, fun b o e n hb hx => ?_, fun b o e n hx => ?_, fun b o e hx => ?_, fun b xs e => tups b xs (I.base.tups b xs e), fun b o xs e => frzs b o xs (I.base.frzs b o xs e), fun b ps e => ?_⟩, ?_, fun x c e => ?_, ?_, fun x c e => ?_, fun p hp => ?_, hok, I.len⟩
  · exact keep b o (neL b o e) hb (neC b o e hx) (I.base.keep b o e n hb hx) (I.base.free b o e n hx)
  · obtain ⟨sl, e1⟩ := I.base.slot b o e n hb hx
    obtain ⟨sl', e2⟩ := slot b _ (neL b o e) hb (neC b o e hx) e1 (I.base.free b o e n hx)
    exact ⟨sl', e2⟩
  · obtain ⟨o', e1⟩ := I.base.there b o e hx
    exact free b o' (neC b o e hx) e1 (I.base.free b o e n hx)
  · obtain ⟨o', e1⟩ := I.base.there b o e hx
    exact there b o' (neC b o e hx) e1
  · obtain ⟨m1, e1⟩ := I.base.tbls b ps e
    obtain ⟨m2, e2⟩ := tbls b _ e1
    exact ⟨m1 ++ m2, by rw [e2, Array.append_assoc]⟩
  · obtain ⟨m, hn, hl⟩ := I.loc
    refine ⟨m, ns m hn, fun i x v e1 e2 e3 => ?_⟩
    obtain ⟨u, r, l⟩ := hl i x v e1 e2 e3
    refine ⟨u, r, ?_⟩
    rcases l with l | ⟨k, c, e, z⟩
    · exact .inl l
    · exact .inr ⟨k, c, e, cellK x c e _ z⟩
  · obtain ⟨v, z⟩ := I.cell x c e
    exact ⟨v, cellK x c e v z⟩
  · obtain ⟨m, ⟨o, _, _, ho, _⟩, _⟩ := I.loc
    exact free _ o (fun z => (hch _ z).2.1 rfl) ho I.free
  · obtain ⟨v, o, ho, hd⟩ := I.cell x c e
    exact free c o (fun z => (hch c z).2.2.1 x c e rfl) ho (I.freeC x c e)
  · obtain ⟨e, n, ne, nf, d⟩ := I.pin p hp
    have nch : p.1 ∉ ch := fun z => (hch p.1 z).2.2.2 p hp rfl
    exact ⟨keep p.1 p.2 ne nf nch e n, free p.1 p.2 nch e n, ne, nf, d⟩
theorem Inv.un {t' : Nat} (I : Inv X pins σ H s) (u : Un X.fs [] H H' s.heap h') (hok : HOk X.prog X.w H' h') : Inv X pins σ H' { s with heap := h', toks := t' } := by
  obtain ⟨m, ⟨o, es, ep, ho, r⟩, _⟩ := id I.loc
  obtain ⟨sl, hL⟩ := u.any ho I.free (by simp)
  exact I.step (g' := s.gens) (d' := s.drawn) (ch := []) (fun _ z => nomatch z) (fun b o _ hb _ e n => u.keep b o e n hb (by simp)) (fun b o _ hb _ e n => u.slot b o e n hb (by simp)) (fun b o _ e n => u.free b o e n (by simp)) (fun b o _ e => u.there b o e (by simp)) u.tups u.frzs u.tbls (fun m' hm => by
    obtain ⟨o', es', ep', ho', r'⟩ := hm
    rw [ho] at ho'; cases ho'
    exact ⟨_, es', ep', hL, r'⟩) hok I.bare
theorem Inv.call {g' : Array GenState} {t' : Nat} {d' : Drawn} {ch : List Addr} (I : Inv X pins σ H s) (u : Un (frs X.stack) ch H H' s.heap h') (hok : HOk X.prog X.w H' h') (hg : AllBare g')
    (hch : ∀ b ∈ ch, (b ∈ X.ex ∨ X.s₀.heap.objs.size ≤ b) ∧ b ≠ X.env.locals ∧ (∀ x c, X.env.cells.lookup x = some c → c ≠ b) ∧ ∀ p ∈ X.pn ++ pins, p.1 ≠ b) :
    Inv X pins σ H' { s with heap := h', gens := g', drawn := d', toks := t' } := by
  obtain ⟨m, ⟨o, es, ep, ho, r⟩, _⟩ := id I.loc
  obtain ⟨sl, hL⟩ := u.any ho I.free fun z => (hch _ z).2.1 rfl
  exact I.step (ch := ch) hch (fun b o hL hb hc e n => u.keep b o e n (fun z => (List.mem_cons.mp (I.stkSub b z)).elim hL hb) hc) (fun b o _ _ hc e n => u.any e n hc) (fun b o hc e n => u.free b o e n hc) (fun b o hc e => u.there b o e hc) u.tups u.frzs u.tbls (fun m' hm => by
    obtain ⟨o', es', ep', ho', r'⟩ := hm
    rw [ho] at ho'; cases ho'
    exact ⟨_, es', ep', hL, r'⟩) hok hg
theorem Inv.turned {t' : Nat} {it : Addr} (I : Inv X pins σ H s) (k : ∀ b o, b ≠ it → s.heap.get? b = some o → h'.get? b = some o) (hn : H it = none) (hL : it ≠ X.env.locals)
    (h1 : it ∈ X.ex ∨ X.s₀.heap.objs.size ≤ it) (h2 : ∀ x c, X.env.cells.lookup x = some c → c ≠ it) (h3 : ∀ p ∈ X.pn ++ pins, p.1 ≠ it) : Inv X pins σ H { s with heap := h', toks := t' } := by
  have nit : ∀ b u, H b = some u → b ≠ it := fun b u e z => by rw [z, hn] at e; cases e
  refine I.step (g' := s.gens) (d' := s.drawn) (ch := [it]) (fun b hb => ?_) (fun b o _ _ hc e _ => k b o (fun z => hc (by simp [z])) e) (fun b o _ _ hc e _ => ⟨o.slots, k b o (fun z => hc (by simp [z])) e⟩) (fun _ _ _ _ n => n)
    (fun b o hc e => ⟨o, k b o (fun z => hc (by simp [z])) e⟩) (fun _ _ e => e) (fun _ _ _ e => e) (fun b ps e => ⟨#[], by rw [e]; simp⟩) (fun m hm => ?_) (fun b u e => ?_) I.bare
  · have e : b = it := by simpa using hb
    subst e
    exact ⟨h1, hL, h2, h3⟩
  · obtain ⟨o, es, ep, ho, r⟩ := hm
    exact ⟨o, es, ep, k _ o (Ne.symm hL) ho, r⟩
  · refine (I.hok b u e).stay (fun c v hc q => k c v ?_ q) (fun _ q => q) fun _ _ q => q
    rcases hc with z | z
    · rw [z]; exact nit b u e
    · exact nit c _ z
theorem Inv.tok (I : Inv X pins σ H s) (t : Nat) : Inv X pins σ H { s with toks := t } := I.un (h' := s.heap) (t' := t) Un.refl I.hok
theorem Inv.kept {t' : Nat} (I : Inv X pins σ H s) (k : ∀ b u, s.heap.get? b = some u → h'.get? b = some u) : Inv X pins σ H { s with heap := h', toks := t' } := I.un (Un.kept k) (I.hok.kept k)
theorem Inv.laid {a : Addr} {o : HO} {t' : Nat} (I : Inv X pins σ H s) (k : ∀ b u, s.heap.get? b = some u → h'.get? b = some u) (hp : s.heap.objs.size ≤ a) (new : ObjOk X.prog X.w (upd H a o) h' a o) :
    Inv X pins σ (upd H a o) { s with heap := h', toks := t' } := I.un (Un.laid k hp (I.hok.fresh hp)) (I.hok.laid k hp new)
theorem Inv.write {x e : Addr} {o : HO} {t' : Nat} (I : Inv X pins σ H s) (mu : Mut (H x)) (he : e = x ∨ H e = some (.own x)) (k : ∀ b u, b ≠ e → s.heap.get? b = some u → h'.get? b = some u) (heo : ∃ u, h'.get? e = some u)
    (new : ObjOk X.prog X.w (upd H x o) h' x o) : Inv X pins σ (upd H x o) { s with heap := h', toks := t' } := I.un (Un.write mu he k heo) (I.hok.write mu he k heo new)
theorem Inv.pins_of {pins' : List (Addr × Obj)} (I : Inv X pins σ H s) (h : ∀ p ∈ pins', s.heap.get? p.1 = some p.2 ∧ H p.1 = none ∧ p.1 ≠ X.env.locals ∧ p.1 ∉ X.fs ∧ ∀ v, p.2.data ≠ .cell v) : Inv X pins' σ H s :=
  ⟨I.ok, I.os, I.bare, I.base, I.loc, I.cell, I.free, I.freeC, fun p hp => (List.mem_append.mp hp).elim (fun z => I.pin p (List.mem_append_left _ z)) (h p), I.hok, I.len⟩
theorem nodup_ix {N : List Str} (hN : N.Nodup) {i j : Nat} {x : Str} (a : N[i]? = some x) (b : N[j]? = some x) : i = j := by
  obtain ⟨h1, e1⟩ := List.getElem?_eq_some_iff.mp a
  obtain ⟨h2, e2⟩ := List.getElem?_eq_some_iff.mp b
  exact (List.getElem_inj hN).mp (e1.trans e2.symm)
theorem store_ok2 {M : Model} {A : Around} {E : Value → Shared → Prop} {i : Nat} {x : Str} {v : V} {u : Value} {Q : Unit → Shared → Prop} (I : Inv X pins σ H s) (hN : X.N.Nodup) (hi : X.N[i]? = some x) (hx : Loc X.env.scope x) (r : RelV v u)
    (h : ∀ s', Inv X pins (σ.set i (some v)) H s' → (∃ a, Heap.SameBut a s.heap s'.heap ∧ (a = X.env.locals ∨ X.env.cells.lookup x = some a)) → Q () s') (hf : X.fn x = true ∨ X.env.scope.names.lookup x = some .local := by first | exact .inl rfl | exact .inr rfl | assumption) : wpAny M A (storeName X.env x u) Q E s := by
  obtain ⟨m, hn, hl⟩ := id I.loc
  have hcls : (X.env.scope.kind == .class || (X.env.scope.kind == .module && X.env.locals != X.env.globals)) = false := by rw [I.ok.kind]; rfl
  have hiσ : i < σ.length := by rw [I.len]; exact (List.getElem?_eq_some_iff.mp hi).1
  have cne := I.cne
  have tracked : ∀ {a : Addr} {h' : Heap}, (∃ o, s.heap.get? a = some o ∧ H a = none) → Heap.SameBut a s.heap h' → HOk X.prog X.w H h' := fun {a h'} ha hs b ob e => by
    obtain ⟨_, _, hfree⟩ := ha
    refine (I.hok b ob e).stay (fun c w' hc q => (hs.2 c ?_).trans q) (fun _ q => q) fun _ _ q => q
    rintro rfl
    rcases hc with rfl | hc
    · rw [hfree] at e; cases e
    · rw [hfree] at hc; cases hc
  rcases hx with hk | hk
  · refine wpAny_storeName_local hk hn (fun h' hn' hs => ?_) hcls
    obtain ⟨oL, _, _, hoL, _⟩ := id hn
    refine h _ ⟨I.ok, I.os, I.bare, ⟨fun b o e n hb hx => ?_, fun b o e n hb hx => ?_, I.base.free, fun b o e hx => ?_, I.base.tups, I.base.frzs, I.base.tbls⟩, ⟨_, hn', fun j y v' e1 e2 e3 => ?_⟩, fun y c e => ?_, I.free, I.freeC, fun p hp => ?_, tracked ⟨oL, hoL, I.free⟩ hs, by simpa using I.len⟩ ⟨_, hs, .inl rfl⟩
    · exact (hs.2 b (Nat.ne_of_lt (Nat.lt_of_lt_of_le (Heap.lt_size e) I.ok.above))).trans (I.base.keep b o e n hb hx)
    · obtain ⟨sl, e1⟩ := I.base.slot b o e n hb hx
      exact ⟨sl, (hs.2 b (Nat.ne_of_lt (Nat.lt_of_lt_of_le (Heap.lt_size e) I.ok.above))).trans e1⟩
    · obtain ⟨o', e1⟩ := I.base.there b o e hx
      exact ⟨o', (hs.2 b (Nat.ne_of_lt (Nat.lt_of_lt_of_le (Heap.lt_size e) I.ok.above))).trans e1⟩
    · by_cases hj : j = i
      · subst hj
        rw [hi] at e1; cases e1
        rw [List.getElem?_set_self hiσ] at e2
        cases e2
        exact ⟨u, r, .inl ⟨hk, by simp⟩⟩
      · rw [List.getElem?_set_ne (Ne.symm hj)] at e2
        obtain ⟨u', r', q⟩ := hl j y v' e1 e2 e3
        refine ⟨u', r', ?_⟩
        rcases q with ⟨k, e⟩ | ⟨k, c, e, z⟩
        · refine .inl ⟨k, ?_⟩
          have : y ≠ x := fun e => hj (nodup_ix hN e1 (e ▸ hi))
          simp [this, e]
        · exact .inr ⟨k, c, e, z.sameBut hs (cne y c e)⟩
    · obtain ⟨w', z⟩ := I.cell y c e
      exact ⟨w', z.sameBut hs (cne y c e)⟩
    · obtain ⟨e, n, ne, nf, d⟩ := I.pin p hp
      exact ⟨(hs.2 p.1 ne).trans e, n, ne, nf, d⟩
  · have hfn : X.fn x = true := by
      rcases hf with z | z
      · exact z
      · rw [z] at hk; cases hk
    obtain ⟨c, hc⟩ := I.ok.has x (.inl hk)
    obtain ⟨w', z⟩ := I.cell x c hc
    refine wpAny_storeName_cell I.ok.kind hk hc z (fun h' hc' hs => ?_)
    obtain ⟨oc, hoc, hocd⟩ := id z
    refine h { s with heap := h' } ⟨I.ok, I.os, I.bare, ⟨fun b o e n hb hx => ?_, fun b o e n hb hx => ?_, I.base.free, fun b o e hx => ?_, I.base.tups, I.base.frzs, I.base.tbls⟩, ⟨m, hn.sameBut hs (Ne.symm (cne x c hc)), fun j y v' e1 e2 e3 => ?_⟩, fun y c' e => ?_, I.free, I.freeC, fun p hp => ?_, tracked ⟨oc, hoc, I.freeC x c hc⟩ hs, by simpa using I.len⟩ ⟨c, hs, .inr hc⟩
    · exact (hs.2 b (Nat.ne_of_lt (Nat.lt_of_lt_of_le (Heap.lt_size e) (I.ok.cab x c hfn hc)))).trans (I.base.keep b o e n hb hx)
    · obtain ⟨sl, e1⟩ := I.base.slot b o e n hb hx
      exact ⟨sl, (hs.2 b (Nat.ne_of_lt (Nat.lt_of_lt_of_le (Heap.lt_size e) (I.ok.cab x c hfn hc)))).trans e1⟩
    · obtain ⟨o', e1⟩ := I.base.there b o e hx
      exact ⟨o', (hs.2 b (Nat.ne_of_lt (Nat.lt_of_lt_of_le (Heap.lt_size e) (I.ok.cab x c hfn hc)))).trans e1⟩
    · by_cases hj : j = i
      · subst hj
        rw [hi] at e1; cases e1
        rw [List.getElem?_set_self hiσ] at e2
        cases e2
        exact ⟨u, r, .inr ⟨.inl hk, c, hc, hc'⟩⟩
      · rw [List.getElem?_set_ne (Ne.symm hj)] at e2
        obtain ⟨u', r', q⟩ := hl j y v' e1 e2 e3
        refine ⟨u', r', ?_⟩
        rcases q with q | ⟨k, c', e, z'⟩
        · exact .inl q
        · refine .inr ⟨k, c', e, z'.sameBut hs ?_⟩
          rintro rfl
          exact hj (nodup_ix hN e1 (I.ok.inj _ _ _ e hc ▸ hi))
    · by_cases hcc : c' = c
      · subst hcc; exact ⟨_, hc'⟩
      · obtain ⟨w2, z2⟩ := I.cell y c' e
        exact ⟨w2, z2.sameBut hs hcc⟩
    · obtain ⟨e, n, ne, nf, d⟩ := I.pin p hp
      refine ⟨(hs.2 p.1 ?_).trans e, n, ne, nf, d⟩
      intro q
      rw [q, hoc] at e
      have q' : oc = p.2 := Option.some.inj e
      exact d w' (by rw [← q']; exact hocd)
theorem store_ok {M : Model} {A : Around} {E : Value → Shared → Prop} {i : Nat} {x : Str} {v : V} {u : Value} {Q : Unit → Shared → Prop} (I : Inv X pins σ H s) (hN : X.N.Nodup) (hi : X.N[i]? = some x) (hx : Loc X.env.scope x) (r : RelV v u)
    (h : ∀ s', Inv X pins (σ.set i (some v)) H s' → Q () s') (hf : X.fn x = true ∨ X.env.scope.names.lookup x = some .local := by first | exact .inl rfl | exact .inr rfl | assumption) : wpAny M A (storeName X.env x u) Q E s :=
  store_ok2 I hN hi hx r (fun s' I' _ => h s' I') hf
theorem Inv.call' {s' : Shared} {ch : List Addr} (I : Inv X pins σ H s) (ho : s'.os = s.os) (u : Un (frs X.stack) ch H H' s.heap s'.heap) (hok : HOk X.prog X.w H' s'.heap) (hg : AllBare s'.gens)
    (hch : ∀ b ∈ ch, (b ∈ X.ex ∨ X.s₀.heap.objs.size ≤ b) ∧ b ≠ X.env.locals ∧ (∀ x c, X.env.cells.lookup x = some c → c ≠ b) ∧ ∀ p ∈ X.pn ++ pins, p.1 ≠ b) : Inv X pins σ H' s' := by
  obtain ⟨h', g', d', t', o'⟩ := s'
  have e : o' = s.os := ho
  subst e
  exact I.call (g' := g') (t' := t') (d' := d') u hok hg hch
end
abbrev XK := Value → Option Addr → Hp → Prop
abbrev St := List (Option V)
abbrev VK := V → Hp → Prop
abbrev TE := St → Hp → VK → Prop
abbrev TT := St → Hp → (Bool → Hp → Prop) → Prop
abbrev TA := St → Hp → (List V → Hp → Prop) → Prop
structure Ends where
  nx : St → Hp → Prop
  rt : VK
  bk : St → Hp → Prop := fun _ _ => False
  ct : St → Hp → Prop := fun _ _ => False
abbrev TS := Ends → St → Hp → Prop
def EP (X : Cx) (pins : List (Addr × Obj)) (σ : St) (Q : VK) (u : Value) (s' : Shared) : Prop := ∃ v H', Inv X pins σ H' s' ∧ RelV v u ∧ Q v H'
def TP (X : Cx) (pins : List (Addr × Obj)) (σ : St) (Q : Bool → Hp → Prop) (b : Bool) (s' : Shared) : Prop := ∃ H', Inv X pins σ H' s' ∧ Q b H'
def AP (X : Cx) (pins : List (Addr × Obj)) (σ : St) (Q : List V → Hp → Prop) (us : List Value) (s' : Shared) : Prop := ∃ vs H', Inv X pins σ H' s' ∧ Vals vs us ∧ Q vs H'
def SP (X : Cx) (pins : List (Addr × Obj)) (D : Ends) (f : Flow) (s' : Shared) : Prop :=
  match f with
  | .next => ∃ σ' H', Inv X pins σ' H' s' ∧ D.nx σ' H'
  | .brk => ∃ σ' H', Inv X pins σ' H' s' ∧ D.bk σ' H'
  | .cont => ∃ σ' H', Inv X pins σ' H' s' ∧ D.ct σ' H'
  | .ret u => ∃ v σ' H', Inv X pins σ' H' s' ∧ RelV v u ∧ D.rt v H'
def PE (X : Cx) (e : Expr) (t : TE) : Prop :=
  ∀ (pins : List (Addr × Obj)) (s : Shared) (σ : St) (H : Hp) (Q : VK), Inv X pins σ H s → t σ H Q → wpAny (model X.prog X.w) X.A (eval e X.env) (EP X pins σ Q) X.xe s
def PT (X : Cx) (e : Expr) (t : TT) : Prop :=
  ∀ (pins : List (Addr × Obj)) (s : Shared) (σ : St) (H : Hp) (Q : Bool → Hp → Prop), Inv X pins σ H s → t σ H Q → wpAny (model X.prog X.w) X.A (isTrue e X.env (eval e X.env)) (TP X pins σ Q) X.xe s
def PW (X : Cx) (e : Expr) (t : TT) : Prop :=
  ∀ (whole : Sem Value) (pins : List (Addr × Obj)) (s : Shared) (σ : St) (H : Hp) (Q : Bool → Hp → Prop), Inv X pins σ H s → t σ H Q → wpAny (model X.prog X.w) X.A (isTrue e X.env whole) (TP X pins σ Q) X.xe s
theorem PW.pt {X : Cx} {e : Expr} {t : TT} (h : PW X e t) : PT X e t := h _
def PA (X : Cx) (es : List Expr) (t : TA) : Prop :=
  ∀ (pos : Pos) (pins : List (Addr × Obj)) (s : Shared) (σ : St) (H : Hp) (Q : List V → Hp → Prop), Inv X pins σ H s → t σ H Q → wpAny (model X.prog X.w) X.A (spliced (backTo pos (starEach es X.env))) (AP X pins σ Q) X.xe s
def PS (X : Cx) (st : Stmt) (t : TS) : Prop :=
  ∀ (pins : List (Addr × Obj)) (s : Shared) (σ : St) (H : Hp) (D : Ends), Inv X pins σ H s → t D σ H → wpAny (model X.prog X.w) X.A (exec st X.env) (SP X pins D) X.xe s
def PSs (X : Cx) (st : List Stmt) (t : TS) : Prop :=
  ∀ (pins : List (Addr × Obj)) (s : Shared) (σ : St) (H : Hp) (D : Ends), Inv X pins σ H s → t D σ H → wpAny (model X.prog X.w) X.A (execs st X.env) (SP X pins D) X.xe s
theorem thn {α : Type} {t : Sem α} {Q Q' : α → Shared → Prop} {M : Model} {A : Around} {E : Value → Shared → Prop} {s : Shared} (h : wpAny M A t Q E s) (hQ : ∀ a s, Q a s → Q' a s) : wpAny M A t Q' E s := wpAny_mono h hQ fun _ _ x => x
open PySem PySem.Spec PyProof.Rows
section
variable {X : Cx}
def tVar (i : Nat) : TE := fun σ H Q => ∃ v, σ[i]? = some (some v) ∧ Q v H
def tC (v : V) : TE := fun _ H Q => Q v H
theorem pe_var {i : Nat} {x : Str} {pos : Pos} (hN : X.N[i]? = some x) (hv : Vis X.env.scope x) (hd : (x == ("__debug__" : Str)) = false := by decide) (hcd : (x == ("__classdict__" : Str)) = false := by decide) : PE X (.Name x pos) (tVar i) := by
  intro pins s σ H Q I h
  obtain ⟨v, e, h⟩ := h
  obtain ⟨m, hn, hl⟩ := I.loc
  obtain ⟨u, r, l⟩ := hl i x v hN e hv
  have fin : EP X pins σ Q u s := ⟨v, H, I, r, h⟩
  rcases l with ⟨hk, hm⟩ | ⟨hk, c, hc, hcell⟩
  · exact wpAny_Name (wpAny_loadName_local I.ok.kind hk hn hm fin) hd
  · rcases hk with hk | hk
    · exact wpAny_Name (wpAny_loadName_cell I.ok.kind hk hc hcell fin) hd
    · exact wpAny_Name (wpAny_loadName_free I.ok.kind hk hc hcell fin hcd) hd
theorem pe_int {i j pos} : PE X (.Constant (.int i) j pos) (tC (.int i)) := fun _ _ _ H _ I h => wpAny_Constant_int ⟨.int i, H, I.tok _, ⟨_, rfl⟩, h⟩
theorem pe_bl {b j pos} : PE X (.Constant (.bool b) j pos) (tC (.bl b)) := fun _ _ _ H _ I h => Constant_bool ⟨.bl b, H, I, rfl, h⟩
theorem pe_non {j pos} : PE X (.Constant .none j pos) (tC .non) := fun _ _ _ H _ I h => Constant_none ⟨.non, H, I, rfl, h⟩
theorem pe_str {x j pos} : PE X (.Constant (.str x) j pos) (tC (.str x)) := fun _ _ _ H _ I h => Calls.Constant_str ⟨.str x, H, I.tok _, ⟨_, rfl⟩, h⟩
def Gl (X : Cx) (x : Str) : Prop := X.env.kindOf x = some .globalImplicit
theorem ld_glob {E : Value → Shared → Prop} {pins : List (Addr × Obj)} {s : Shared} {σ : St} {H : Hp} {x : Str} {u : Value} {pos : Pos} {Q : Value → Shared → Prop} (I : Inv X pins σ H s) (hg : Gl X x) (hm : X.mg x = some u) (h : Q u s)
    (hd : (x == ("__debug__" : Str)) = false := by decide) : wpAny (model X.prog X.w) X.A (eval (.Name x pos) X.env) Q E s :=
  Calls.Name_function_global I.ok.kind hg (Calls.loadGlobal_global (by rw [I.ok.glob]; exact I.mod.glob.keeps I.bk) hm h) hd
theorem ld_blt {E : Value → Shared → Prop} {pins : List (Addr × Obj)} {s : Shared} {σ : St} {H : Hp} {x : Str} {u : Value} {pos : Pos} {Q : Value → Shared → Prop} (I : Inv X pins σ H s) (hg : Gl X x) (hm : X.mg x = none) (hv : bootBuiltins x = some u) (h : Q u s)
    (hn : x ≠ "__name__" := by decide) (hd : (x == ("__debug__" : Str)) = false := by decide) : wpAny (model X.prog X.w) X.A (eval (.Name x pos) X.env) Q E s := by
  obtain ⟨mb, h1, h2⟩ := I.mod.blt
  exact Calls.Name_function_global I.ok.kind hg (Calls.loadGlobal_builtin (by rw [I.ok.glob]; exact I.mod.glob.keeps I.bk) hm (by rw [I.ok.blt]; exact h1.keeps I.bk) ((h2 x hn).trans hv) h) hd
theorem pe_glob {x : Str} {v : V} {u : Value} {pos : Pos} (hg : Gl X x) (hm : X.mg x = some u) (r : RelV v u) (hd : (x == ("__debug__" : Str)) = false := by decide) : PE X (.Name x pos) (tC v) :=
  fun _ _ _ H _ I h => ld_glob I hg hm ⟨v, H, I, r, h⟩ hd
theorem pe_bltn {x : Str} {v : V} {u : Value} {pos : Pos} (hg : Gl X x) (hm : X.mg x = none) (hv : bootBuiltins x = some u) (r : RelV v u) (hn : x ≠ "__name__" := by decide) (hd : (x == ("__debug__" : Str)) = false := by decide) : PE X (.Name x pos) (tC v) :=
  fun _ _ _ H _ I h => ld_blt I hg hm hv ⟨v, H, I, r, h⟩ hn hd
def t2I (ta tb : TE) (k : Int → Int → Hp → Prop) : St → Hp → Prop := fun σ H => ta σ H fun x H1 => tb σ H1 fun y H2 => ∃ i j, x = .int i ∧ y = .int j ∧ k i j H2
def tAdd (ta tb : TE) : TE := fun σ H Q => t2I ta tb (fun i j H2 => Q (.int (i + j)) H2) σ H
def tSub (ta tb : TE) : TE := fun σ H Q => t2I ta tb (fun i j H2 => Q (.int (i - j)) H2) σ H
def tMul (ta tb : TE) : TE := fun σ H Q => t2I ta tb (fun i j H2 => (-(2 ^ 64) < i ∧ i < 2 ^ 64) ∧ Q (.int (i * j)) H2) σ H
variable {a b : Expr} {ta tb : TE} {pos : Pos}
def PC (X : Cx) (op : CmpOp) (a b : Expr) (t : TE) : Prop :=
  ∀ (pins : List (Addr × Obj)) (s : Shared) (σ : St) (H : Hp) (Q : VK), Inv X pins σ H s → t σ H Q →
    wpAny (model X.prog X.w) X.A (eval a X.env) (fun v s₁ => wpAny (model X.prog X.w) X.A (eval b X.env) (fun u s₂ => wpAny (model X.prog X.w) X.A (compareOp op v u) (EP X pins σ Q) X.xe s₂) X.xe s₁) X.xe s
def tCmp (p : Int → Int → Bool) (ta tb : TE) : TE := fun σ H Q => t2I ta tb (fun i j H2 => Q (.bl (p i j)) H2) σ H
abbrev tLt : TE → TE → TE := tCmp fun i j => decide (i < j)
abbrev tLe : TE → TE → TE := tCmp fun i j => decide (i ≤ j)
abbrev tGt : TE → TE → TE := tCmp fun i j => decide (j < i)
abbrev tGe : TE → TE → TE := tCmp fun i j => decide (j ≤ i)
abbrev tEqI : TE → TE → TE := tCmp fun i j => decide (i = j)
abbrev tNeI : TE → TE → TE := tCmp fun i j => !decide (i = j)
def tIsN (ta : TE) : TE := fun σ H Q => ta σ H fun x H1 => Q (.bl (decide (x = .non))) H1
def tNotN (ta : TE) : TE := fun σ H Q => ta σ H fun x H1 => Q (.bl (!decide (x = .non))) H1
def tB (t : TE) : TT := fun σ H Q => t σ H fun x H1 => ∃ c, x = .bl c ∧ Q c H1
theorem pt_val {e : Expr} {t : TE} (h : PE X e t) (he : ∀ whole, isTrue e X.env whole = (do let v ← whole; standAt e.pos; holding [v] (truthy v)) := by intro _; rfl) : PT X e (tB t) := by
  intro pins s σ H Q I hw
  refine isTrue_plain (thn (h pins s σ H _ I hw) fun v s1 ⟨x, H1, I1, r1, q1⟩ => ?_) (he _)
  obtain ⟨d, rfl, q⟩ := q1
  cases r1
  exact wpAny_truthy_bool ⟨H1, I1, q⟩
variable {tA tB' : TT} {rest : List Expr}
def tAnd (t u : TT) : TT := fun σ H Q => t σ H fun c H1 => if c = true then u σ H1 Q else Q false H1
def tOr (t u : TT) : TT := fun σ H Q => t σ H fun c H1 => if c = true then Q true H1 else u σ H1 Q
def tNot (t : TT) : TT := fun σ H Q => t σ H fun c H1 => Q (!c) H1
theorem pw_and1 (ha : PT X a tA) : PW X (.BoolOp .And [a] pos) tA := by
  intro wh pins s σ H Q I h
  refine isTrue_and (thn (ha pins s σ H Q I h) fun c s1 e => ?_)
  cases c with
  | true => exact isTrue_and_nil e
  | false => exact e
theorem pw_or1 (ha : PT X a tA) : PW X (.BoolOp .Or [a] pos) tA := by
  intro wh pins s σ H Q I h
  refine isTrue_or (thn (ha pins s σ H Q I h) fun c s1 e => ?_)
  cases c with
  | false => exact isTrue_or_nil e
  | true => exact e
theorem pw_and (ha : PT X a tA) (hb : PW X (.BoolOp .And (b :: rest) pos) tB') : PW X (.BoolOp .And (a :: b :: rest) pos) (tAnd tA tB') := by
  intro wh pins s σ H Q I h
  refine isTrue_and (thn (ha pins s σ H _ I h) fun c s1 ⟨H1, I1, q1⟩ => ?_)
  cases c with
  | true => exact hb wh pins s1 σ H1 Q I1 q1
  | false => exact ⟨H1, I1, q1⟩
theorem pw_or (ha : PT X a tA) (hb : PW X (.BoolOp .Or (b :: rest) pos) tB') : PW X (.BoolOp .Or (a :: b :: rest) pos) (tOr tA tB') := by
  intro wh pins s σ H Q I h
  refine isTrue_or (thn (ha pins s σ H _ I h) fun c s1 ⟨H1, I1, q1⟩ => ?_)
  cases c with
  | true => exact ⟨H1, I1, q1⟩
  | false => exact hb wh pins s1 σ H1 Q I1 q1
theorem pt_not (ha : PT X a tA) : PT X (.UnaryOp .Not a pos) (tNot tA) := by
  intro pins s σ H Q I h
  exact isTrue_not (ha pins s σ H (fun c H1 => Q (!c) H1) I h)
def tAndV (ta tb : TE) : TE := fun σ H Q => ta σ H fun x H1 => ∃ c, x = .bl c ∧ if c = true then tb σ H1 Q else Q (.bl false) H1
def tOrV (ta tb : TE) : TE := fun σ H Q => ta σ H fun x H1 => ∃ c, x = .bl c ∧ if c = true then Q (.bl true) H1 else tb σ H1 Q
def tNotV (ta : TE) : TE := fun σ H Q => ta σ H fun x H1 => ∃ c, x = .bl c ∧ Q (.bl (!c)) H1
theorem pe_one {op} {t : TE} (h : PE X a t) : PE X (.BoolOp op [a] pos) t := fun pins s σ H Q I hw => BoolOp_one (h pins s σ H Q I hw)
theorem pe_and (ha : PE X a ta) (hb : PE X (.BoolOp .And (b :: rest) pos) tb) : PE X (.BoolOp .And (a :: b :: rest) pos) (tAndV ta tb) := by
  intro pins s σ H Q I h
  refine BoolOp_and (thn (ha pins s σ H _ I h) fun v s1 ⟨x, H1, I1, r1, q1⟩ => ?_)
  obtain ⟨c, rfl, q1⟩ := q1
  cases r1
  refine wpAny_truthy_bool ?_
  cases c with
  | true => exact hb pins s1 σ H1 Q I1 q1
  | false => exact ⟨.bl false, H1, I1, rfl, q1⟩
def tIf (t : TT) (ta tb : TE) : TE := fun σ H Q => t σ H fun c H1 => if c = true then ta σ H1 Q else tb σ H1 Q
theorem pe_ifExp {c : Expr} (hc : PT X c tA) (ha : PE X a ta) (hb : PE X b tb) : PE X (.IfExp c a b pos) (tIf tA ta tb) := by
  intro pins s σ H Q I h
  refine wpAny_IfExp (thn (hc pins s σ H _ I h) fun d s1 ⟨H1, I1, q1⟩ => ?_)
  cases d with
  | true => exact ha pins s1 σ H1 Q I1 q1
  | false => exact hb pins s1 σ H1 Q I1 q1
end
open PySem PySem.Spec PyProof.Rows
def SqL (K : PySem.W.Frag) (H : Hp) (a : Addr) (xs : List V) : Prop :=
  Rd H a (.lst xs) ∨
    ∃ (o : Obj) (its : Array Value) (n : Nat), K.lookup a = some o ∧ o.cls = .type "list" ∧ o.dict = none ∧ o.data = .seq its n ∧ its.size ≤ sizeLine ∧ Vals xs its.toList
def SqT (K : PySem.W.Frag) (H : Hp) (a : Addr) (xs : List V) : Prop :=
  Rd H a (.tup xs) ∨
    ∃ (o : Obj) (its : Array Value) (n : Nat), K.lookup a = some o ∧ o.cls = .type "tuple" ∧ o.data = .seq its n ∧ its.size ≤ sizeLine ∧ Vals xs its.toList
def absV : Value → Option V
  | .none => some .non
  | .bool b => some (.bl b)
  | .int i _ => some (.int i)
  | .str x _ => some (.str x)
  | .bytes b _ => some (.byt b)
  | .float b _ => some (.flt b)
  | .ref a => some (.ref a)
  | .type n => some (.ty n)
  | _ => none
theorem RelV.abs {x : V} {u : Value} (r : RelV x u) : absV u = some x := by
  cases x with
  | non => cases r; rfl
  | bl _ => cases r; rfl
  | int _ => obtain ⟨t, rfl⟩ := r; rfl
  | str _ => obtain ⟨t, rfl⟩ := r; rfl
  | byt _ => obtain ⟨t, rfl⟩ := r; rfl
  | flt _ => obtain ⟨t, rfl⟩ := r; rfl
  | ref _ => cases r; rfl
  | ty _ => cases r; rfl
theorem RelV.inj {x y : V} {u : Value} (r : RelV x u) (q : RelV y u) : x = y := Option.some.inj (r.abs.symm.trans q.abs)
theorem Vals.inj : ∀ {xs ys : List V} {us : List Value}, Vals xs us → Vals ys us → xs = ys
  | _, _, _, .nil, .nil => rfl
  | _, _, _, .cons r t, .cons r' t' => by rw [r.inj r', Vals.inj t t']
section
variable {X : Cx} {pins : List (Addr × Obj)} {σ : St} {H : Hp} {s : Shared} {a : Addr} {xs ys : List V}
theorem SqL.of {K : PySem.W.Frag} (h : H a = some (.lst xs)) : SqL K H a xs := .inl (.inl h)
theorem SqT.of {K : PySem.W.Frag} (h : H a = some (.tup xs)) : SqT K H a xs := .inl (.inl h)
theorem Inv.list (I : Inv X pins σ H s) (h : SqL X.K H a xs) : ∃ its : List Value, Vals xs its ∧ PlainL s.heap a its.toArray ∧ xs.length ≤ sizeLine := by
  rcases h with h | ⟨o, its, n, hk, hc, hd, hs, hz, r⟩
  · obtain ⟨z, its, n, r, e⟩ := h.ok I.hok
    exact ⟨its, r, ⟨_, n, e, rfl, rfl, rfl⟩, z⟩
  · refine ⟨its.toList, r, ⟨o, n, I.kIn a o hk, hc, hd, by simpa using hs⟩, ?_⟩
    have e := r.length
    simp only [Array.length_toList] at e
    omega
theorem Inv.tuple (I : Inv X pins σ H s) (h : SqT X.K H a xs) : ∃ its : List Value, Vals xs its ∧ IsTup s.heap a its.toArray ∧ xs.length ≤ sizeLine := by
  rcases h with h | ⟨o, its, n, hk, hc, hs, hz, r⟩
  · obtain ⟨z, its, r, p⟩ := h.ok I.hok
    exact ⟨its, r, p, z⟩
  · refine ⟨its.toList, r, ⟨o, I.kIn a o hk, hc, n, by simpa using hs⟩, ?_⟩
    have e := r.length
    simp only [Array.length_toList] at e
    omega
theorem Inv.list_inj (I : Inv X pins σ H s) (h : SqL X.K H a xs) (h' : SqL X.K H a ys) : xs = ys := by
  obtain ⟨its, r, ⟨o, n, e, _, _, d⟩, _⟩ := I.list h
  obtain ⟨its', r', ⟨o', n', e', _, _, d'⟩, _⟩ := I.list h'
  rw [e] at e'; cases e'
  rw [d] at d'
  injection d' with d1 _
  have : its = its' := by simpa using congrArg Array.toList d1
  subst this
  exact r.inj r'
theorem Inv.tuple_inj (I : Inv X pins σ H s) (h : SqT X.K H a xs) (h' : SqT X.K H a ys) : xs = ys := by
  obtain ⟨its, r, ⟨o, e, _, n, d⟩, _⟩ := I.tuple h
  obtain ⟨its', r', ⟨o', e', _, n', d'⟩, _⟩ := I.tuple h'
  rw [e] at e'; cases e'
  rw [d] at d'
  injection d' with d1 _
  have : its = its' := by simpa using congrArg Array.toList d1
  subst this
  exact r.inj r'
end
abbrev Cx.wish (X : Cx) (E : Value → Shared → Prop) : Cx := { X with xe := E }
abbrev Cx.nox (X : Cx) : Cx := X.wish fun _ _ => False
theorem Cx.Ok.wish {X : Cx} (ok : X.Ok) (E : Value → Shared → Prop) : (X.wish E).Ok :=
  ⟨ok.mod, ok.kind, ok.glob, ok.blt, ok.above, ok.inj, ok.has, ok.cab, ok.hd, ok.frames, ok.stk, ok.exf, ok.bs, ok.bsz, ok.noex, ok.exfs, ok.funs, ok.frf⟩
theorem Cx.Ok.unwish {X : Cx} {E : Value → Shared → Prop} (ok : (X.wish E).Ok) : X.Ok :=
  ⟨ok.mod, ok.kind, ok.glob, ok.blt, ok.above, ok.inj, ok.has, ok.cab, ok.hd, ok.frames, ok.stk, ok.exf, ok.bs, ok.bsz, ok.noex, ok.exfs, ok.funs, ok.frf⟩
section
variable {X : Cx} {pins : List (Addr × Obj)} {σ : St} {H : Hp} {s : Shared} {E : Value → Shared → Prop}
theorem Inv.wish (I : Inv X pins σ H s) (E : Value → Shared → Prop) : Inv (X.wish E) pins σ H s := ⟨I.ok.wish E, I.os, I.bare, I.base, I.loc, I.cell, I.free, I.freeC, I.pin, I.hok, I.len⟩
theorem Inv.unwish (I : Inv (X.wish E) pins σ H s) : Inv X pins σ H s := ⟨I.ok.unwish, I.os, I.bare, I.base, I.loc, I.cell, I.free, I.freeC, I.pin, I.hok, I.len⟩
theorem SP.unwish {D : Ends} {f : Flow} {s' : Shared} (h : SP (X.wish E) pins D f s') : SP X pins D f s' := by
  cases f with
  | next => obtain ⟨σ', H', I, q⟩ := h; exact ⟨σ', H', I.unwish, q⟩
  | brk => obtain ⟨σ', H', I, q⟩ := h; exact ⟨σ', H', I.unwish, q⟩
  | cont => obtain ⟨σ', H', I, q⟩ := h; exact ⟨σ', H', I.unwish, q⟩
  | ret u => obtain ⟨v, σ', H', I, r, q⟩ := h; exact ⟨v, σ', H', I.unwish, r, q⟩
theorem PSs.nox {st : List Stmt} {t : TS} (h : PSs X.nox st t) : PSs X st t := fun pins s σ H D I hw =>
  wpAny_mono (h pins s σ H D (I.wish _) hw) (fun _ _ q => q.unwish) fun _ _ z => False.elim z
end
section
variable {X : Cx} {st : Stmt} {rest : List Stmt} {t u : TS} {e : Expr} {te : TE} {pos : Pos}
def tNext : TS := fun D σ H => D.nx σ H
def tSeq (t u : TS) : TS := fun D σ H => t { D with nx := u D } σ H
theorem pss_nil : PSs X [] tNext := fun _ _ σ H _ I h => wpAny_execs_nil ⟨σ, H, I, h⟩
theorem pss_cons (h1 : PS X st t) (h2 : PSs X rest u) : PSs X (st :: rest) (tSeq t u) := by
  intro pins s σ H D I h
  refine wpAny_execs_cons (thn (h1 pins s σ H { D with nx := u D } I h) fun f s1 q => ?_)
  cases f with
  | next =>
    obtain ⟨σ', H', I', q⟩ := q
    exact h2 pins s1 σ' H' D I' q
  | ret v => exact q
  | brk => exact q
  | cont => exact q
theorem pss_one (h1 : PS X st t) : PSs X [st] t := by
  intro pins s σ H D I h
  refine wpAny_execs_cons (thn (h1 pins s σ H D I h) fun f s1 q => ?_)
  cases f with
  | next => exact wpAny_execs_nil q
  | ret v => exact q
  | brk => exact q
  | cont => exact q
def tBreak : TS := fun D σ H => D.bk σ H
def tCont : TS := fun D σ H => D.ct σ H
theorem Inv.quiet {pins : List (Addr × Obj)} {σ : St} {H : Hp} {s : Shared} (I : Inv X pins σ H s) : interactive X.env = false := by simp [interactive, I.ok.kind]
def tDrop (te : TE) : TS := fun D σ H => te σ H fun _ H1 => D.nx σ H1
theorem ps_expr (he : PE X e te) (hs : swapsWith e none pos.line X.env = pure false := by rfl) : PS X (.Expr e pos) (tDrop te) := by
  intro pins s σ H D I h
  exact wpAny_Expr_any (thn (he pins s σ H _ I h) fun v s1 ⟨x, H1, I1, r1, q1⟩ => ⟨σ, H1, I1, q1⟩) I.quiet hs
def tRet (te : TE) : TS := fun D σ H => te σ H D.rt
theorem ps_ret (he : PE X e te) : PS X (.Return (some e) pos) (tRet te) := by
  intro pins s σ H D I h
  exact wpAny_Return_some (thn (he pins s σ H _ I h) fun v s1 ⟨x, H1, I1, r1, q1⟩ => ⟨x, σ, H1, I1, r1, q1⟩)
def tRetN : TS := fun D _ H => D.rt .non H
def tIfS (c : TT) (t u : TS) : TS := fun D σ H => c σ H fun b H1 => if b = true then t D σ H1 else u D σ H1
theorem ps_if {c : Expr} {a b : List Stmt} {tc : TT} (hc : PT X c tc) (ha : PSs X a t) (hb : PSs X b u) : PS X (.If c a b pos) (tIfS tc t u) := by
  intro pins s σ H D I h
  refine wpAny_If (thn (hc pins s σ H _ I h) fun d s1 ⟨H1, I1, q1⟩ => ?_)
  cases d with
  | true => exact ha pins s1 σ H1 D I1 q1
  | false => exact hb pins s1 σ H1 D I1 q1
def tNever : TS := fun _ _ _ => False
theorem ps_never : PS X st tNever := fun _ _ _ _ _ _ h => h.elim
theorem pss_never {sts : List Stmt} : PSs X sts tNever := fun _ _ _ _ _ _ h => h.elim
end
abbrev TG := V → St → Hp → (St → Hp → Prop) → Prop
abbrev TGs := List V → St → Hp → (St → Hp → Prop) → Prop
def PG (X : Cx) (target : Expr) (t : TG) : Prop :=
  ∀ (pins : List (Addr × Obj)) (s : Shared) (σ : St) (H : Hp) (v : V) (u : Value) (Q : St → Hp → Prop), Inv X pins σ H s → RelV v u → t v σ H Q →
    wpAny (model X.prog X.w) X.A (assign target X.env u) (fun _ s' => ∃ σ' H', Inv X pins σ' H' s' ∧ Q σ' H') X.xe s
def PGs (X : Cx) (ts : List Expr) (t : TGs) : Prop :=
  ∀ (pins : List (Addr × Obj)) (s : Shared) (σ : St) (H : Hp) (vs : List V) (us : List Value) (Q : St → Hp → Prop), Inv X pins σ H s → Vals vs us → t vs σ H Q →
    wpAny (model X.prog X.w) X.A (assignInOrder ((assignEach ts X.env).map (·.2)) us) (fun _ s' => ∃ σ' H', Inv X pins σ' H' s' ∧ Q σ' H') X.xe s
abbrev TSet := V → V → V → Hp → (Hp → Prop) → Prop
def PSet (X : Cx) (t : TSet) : Prop :=
  ∀ (pins : List (Addr × Obj)) (s : Shared) (σ : St) (H : Hp) (o i v : V) (ov iv u : Value) (Q : Hp → Prop), Inv X pins σ H s → RelV o ov → RelV i iv → RelV v u → t o i v H Q →
    wpAny (model X.prog X.w) X.A (setItem ov iv u) (fun _ s' => ∃ H', Inv X pins σ H' s' ∧ Q H') X.xe s
abbrev TIp := V → V → Hp → VK → Prop
def PIp (X : Cx) (op : Operator) (t : TIp) : Prop :=
  ∀ (pins : List (Addr × Obj)) (s : Shared) (σ : St) (H : Hp) (x y : V) (v u : Value) (Q : VK), Inv X pins σ H s → RelV x v → RelV y u → t x y H Q →
    wpAny (model X.prog X.w) X.A (inplaceOp op v u) (EP X pins σ Q) X.xe s
section
variable {X : Cx} {pos : Pos}
def gName (i : Nat) : TG := fun v σ H Q => Q (σ.set i (some v)) H
theorem pg_name {i : Nat} {x : Str} (hN : X.N.Nodup) (hi : X.N[i]? = some x) (hx : Loc X.env.scope x) (hf : X.fn x = true ∨ X.env.scope.names.lookup x = some .local := by first | exact .inl rfl | exact .inr rfl | assumption) : PG X (.Name x pos) (gName i) := by
  intro pins s σ H v u Q I r h
  exact wpAny_assign_Name (store_ok I hN hi hx r (fun s' I' => ⟨_, H, I', h⟩) hf)
def gNil : TGs := fun vs σ H Q => vs = [] ∧ Q σ H
def gCons (t : TG) (u : TGs) : TGs := fun vs σ H Q => ∃ v r, vs = v :: r ∧ t v σ H fun σ' H' => u r σ' H' Q
theorem pgs_nil : PGs X [] gNil := by
  intro pins s σ H vs us Q I r h
  obtain ⟨e, h⟩ := h
  subst e
  cases r
  exact assignInOrder_nil ⟨σ, H, I, h⟩
theorem pgs_cons {e : Expr} {es : List Expr} {t : TG} {u : TGs} (h1 : PG X e t) (h2 : PGs X es u)
    (hs : (assignEach (e :: es) X.env).map (·.2) = assign e X.env :: (assignEach es X.env).map (·.2) := by rfl) : PGs X (e :: es) (gCons t u) := by
  intro pins s σ H vs us Q I r h
  obtain ⟨v, vr, e1, h⟩ := h
  subst e1
  cases r with
  | cons r rr =>
    rw [hs]
    refine assignInOrder_cons (thn (h1 pins s σ H _ _ _ I r h) fun _ s1 ⟨σ1, H1, I1, q1⟩ => ?_)
    exact h2 pins s1 σ1 H1 _ _ Q I1 rr q1
def gTup (K : PySem.W.Frag) (n : Nat) (t : TGs) : TG := fun v σ H Q => ∃ a xs, v = .ref a ∧ SqT K H a xs ∧ xs.length = n ∧ t xs σ H Q
theorem pg_tup {es : List Expr} {k : Nat} {t : TGs} {n : Nat} (hc : X.calm = true) (h : PGs X es t)
    (hn : (assignEach es X.env).length = n := by rfl) (hst : (assignEach es X.env).findIdx? (·.1) = none := by rfl) : PG X (.Tuple es k pos) (gTup X.K n t) := by
  intro pins s σ H v u Q I r hw
  obtain ⟨a, xs, e1, hq, hl, hw⟩ := hw
  subst e1
  cases r
  obtain ⟨its, rv, ht, hz⟩ := I.tuple hq
  refine assign_Tuple_tuple (I.ok.hd hc) ht (by simp [hn, ← hl, rv.length]) hst fun h' hx => ?_
  have I1 : Inv X pins σ H { s with heap := h' } := I.kept (t' := s.toks) fun b o e => hx b o (Nat.ne_of_lt (Heap.lt_size e)) e
  exact h pins _ σ H xs _ Q I1 (by simpa using rv) hw
def gSub (to ti : TE) (t : TSet) : TG := fun v σ H Q => to σ H fun o H1 => ti σ H1 fun i H2 => t o i v H2 fun H3 => Q σ H3
theorem pg_sub {o i : Expr} {to ti : TE} {t : TSet} (ho : PE X o to) (hi : PE X i ti) (hs : PSet X t)
    (ha : ∀ v, assign (.Subscript o i pos) X.env v = (do
      let ov ← holding [v] (eval o X.env)
      let iv ← holding [v, ov] (eval i X.env)
      standAt pos
      holding [v, ov, iv] (setItem ov iv v)
      release [v, ov, iv] []) := by intro _; rfl) : PG X (.Subscript o i pos) (gSub to ti t) := by
  intro pins s σ H v u Q I r h
  rw [ha]
  refine wpAny_bind (wpAny_holding (thn (ho pins s σ H _ I h) fun ov s1 ⟨x, H1, I1, r1, q1⟩ => ?_))
  refine wpAny_bind (wpAny_holding (thn (hi pins s1 σ H1 _ I1 q1) fun iv s2 ⟨y, H2, I2, r2, q2⟩ => ?_))
  refine wpAny_bind (wpAny_standAt (wpAny_bind (wpAny_holding (thn (hs pins s2 σ H2 x y v ov iv u _ I2 r1 r2 r q2) fun _ s3 ⟨H3, I3, q3⟩ => ?_))))
  exact wpAny_release ⟨σ, H3, I3, q3⟩
def tAsg (te : TE) (g : TG) : TS := fun D σ H => te σ H fun x H1 => g x σ H1 D.nx
theorem ps_asg {tg e : Expr} {te : TE} {g : TG} (he : PE X e te) (hg : PG X tg g) (hs : swapsWithSole [tg] e pos.line X.env = pure false := by rfl) (hw : swappedStores [tg] e X.env = pure none := by rfl)
    (h1 : (assignEach [tg] X.env).map (·.2) = [assign tg X.env] := by rfl) : PS X (.Assign [tg] e pos) (tAsg te g) := by
  intro pins s σ H D I h
  refine wpAny_Assign_stores (thn (he pins s σ H _ I h) fun v s1 ⟨x, H1, I1, r1, q1⟩ => ?_) hs hw
  rw [h1]
  exact thn (hg pins s1 σ H1 x v _ I1 r1 q1) fun _ s2 q => q
theorem ps_set {i : Nat} {x : Str} {e : Expr} {te : TE} {pos' : Pos} (hN : X.N.Nodup) (hi : X.N[i]? = some x) (hx : Loc X.env.scope x) (he : PE X e te) (hs : swapsWith e (some (.Name x pos')) pos.line X.env = pure false := by rfl) (hf : X.fn x = true ∨ X.env.scope.names.lookup x = some .local := by first | exact .inl rfl | exact .inr rfl | assumption) :
    PS X (.Assign [.Name x pos'] e pos) (tAsg te (gName i)) := by
  intro pins s σ H D I h
  refine wpAny_Assign_Name (thn (he pins s σ H _ I h) fun v s1 ⟨y, H1, I1, r1, q1⟩ => ?_) hs
  exact store_ok I1 hN hi hx r1 (fun s2 I2 => ⟨_, H1, I2, q1⟩) hf
def tPar (i j : Nat) (ta : TA) : TS := fun D σ H => ta σ H fun vs H1 => ∃ v w, vs = [v, w] ∧ D.nx ((σ.set i (some v)).set j (some w)) H1
def tAug (i : Nat) (te : TE) (ti : TIp) : TS := fun D σ H => ∃ x, σ[i]? = some (some x) ∧ te σ H fun y H1 => ti x y H1 fun z H2 => D.nx (σ.set i (some z)) H2
def tAugS (to ti te : TE) (tget : V → V → Hp → VK → Prop) (tip : TIp) (tset : TSet) : TS := fun D σ H => to σ H fun o H1 => ti σ H1 fun i H2 => tget o i H2 fun x H3 => te σ H3 fun y H4 => tip x y H4 fun z H5 => tset o i z H5 fun H6 => D.nx σ H6
def PGet (X : Cx) (t : V → V → Hp → VK → Prop) : Prop :=
  ∀ (pins : List (Addr × Obj)) (s : Shared) (σ : St) (H : Hp) (o i : V) (ov iv : Value) (Q : VK), Inv X pins σ H s → RelV o ov → RelV i iv → t o i H Q →
    wpAny (model X.prog X.w) X.A (getItem ov iv) (EP X pins σ Q) X.xe s
def ipI (f : Int → Int → Int) : TIp := fun x y H Q => ∃ i j, x = .int i ∧ y = .int j ∧ Q (.int (f i j)) H
end
section
variable {X : Cx} {pos : Pos}
def tWhile (c : TT) (tb : TS) : TS := fun D σ H => ∃ W : Nat → St → Hp → Prop, (∃ m, W m σ H) ∧ ∀ m σ H, W m σ H →
  c σ H fun b H1 => if b = true then ∃ N : St → Hp → Prop, (∀ σ' H', N σ' H' → ∃ m', m' < m ∧ W m' σ' H') ∧ tb { D with nx := N, ct := N, bk := D.nx } σ H1 else D.nx σ H1
end
structure It where
  go : Nat → Hp → Prop
  yld : Nat → Hp → V → Hp → Prop
  stop : Nat → Hp → Prop
def FpOk (X : Cx) (pins : List (Addr × Obj)) (H : Hp) (b : Addr) : Prop :=
  H b = none ∧ b ≠ X.env.locals ∧ b ∉ X.fs ∧ (b ∈ X.ex ∨ X.s₀.heap.objs.size ≤ b) ∧ (∀ x c, X.env.cells.lookup x = some c → c ≠ b) ∧ ∀ p ∈ X.pn ++ pins, p.1 ≠ b
theorem Inv.fpOk {X : Cx} {pins : List (Addr × Obj)} {σ : St} {H H' : Hp} {s : Shared} {b : Addr} (I : Inv X pins σ H s) (hb : s.heap.objs.size ≤ b) (hn : H' b = none) : FpOk X pins H' b := by
  refine ⟨hn, Nat.ne_of_gt (Nat.lt_of_lt_of_le I.lt hb), I.nofs hb, .inr (Nat.le_trans I.sz hb), fun x c e z => ?_, fun p hp z => ?_⟩
  · obtain ⟨v, q⟩ := I.cell x c e
    exact absurd (Nat.lt_of_lt_of_le q.lt (by rw [z]; exact hb)) (Nat.lt_irrefl _)
  · exact absurd (Nat.lt_of_lt_of_le (Heap.lt_size (I.pin p hp).1) (by rw [z]; exact hb)) (Nat.lt_irrefl _)
structure Turn (P : Program) (w : World) (K : PySem.W.Frag) (tg : Expr) (J : It) (fp : List Addr) (it : Addr) (tn : Nat → Heap → Prop) : Prop where
  mem : it ∈ fp
  obj : ∀ i h, tn i h → ∀ b ∈ fp, ∃ o, h.get? b = some o ∧ ∀ v, o.data ≠ .cell v
  keep : ∀ i h h', tn i h → (∀ b ∈ fp, ∀ o, h.get? b = some o → h'.get? b = some o) → tn i h'
  item : ∀ (X : Cx), X.prog = P → X.w = w → X.K = K → X.calm = true → ∀ (i : Nat) (pins : List (Addr × Obj)) (s : Shared) (σ : St) (H : Hp) (E : Value → Shared → Prop), Inv X pins σ H s → (∀ b ∈ fp, FpOk X pins H b) → tn i s.heap → J.go i H →
    wpAny (model P w) X.A (pyNext (.ref it)) (fun r s1 => ∃ u, r = some u ∧
      wpAny (model P w) X.A (letOwnedTupleGo tg (.ref it) u) (fun _ s2 => ∃ x H', Inv X pins σ H' s2 ∧ RelV x u ∧ J.yld i H x H' ∧ tn (i + 1) s2.heap ∧ ∀ b ∈ fp, H' b = none) E s1) E s
  done : ∀ (X : Cx), X.prog = P → X.w = w → X.K = K → X.calm = true → ∀ (i : Nat) (pins : List (Addr × Obj)) (s : Shared) (σ : St) (H : Hp) (E : Value → Shared → Prop), Inv X pins σ H s → (∀ b ∈ fp, FpOk X pins H b) → tn i s.heap → J.stop i H →
    wpAny (model P w) X.A (pyNext (.ref it)) (fun r s1 => r = none ∧ Inv X pins σ H s1) E s
  self : ∀ (A : Around) (i : Nat) (s : Shared) (Q : Value → Shared → Prop) (E : Value → Shared → Prop), tn i s.heap → Q (.ref it) s → wpAny (model P w) A (pyIter (.ref it)) Q E s
abbrev TI := St → Hp → (It → Hp → Prop) → Prop
def PIE (X : Cx) (pins : List (Addr × Obj)) (σ : St) (tg : Expr) (R : It → Hp → Prop) (itv : Value) (s2 : Shared) : Prop :=
  ∃ (it : Addr) (fp : List Addr) (tn : Nat → Heap → Prop) (J : It) (H' : Hp), itv = .ref it ∧ Inv X pins σ H' s2 ∧ Turn X.prog X.w X.K tg J fp it tn ∧ tn 0 s2.heap ∧ (∀ b ∈ fp, FpOk X pins H' b) ∧ R J H'
def PI (X : Cx) (tg iter : Expr) (wi : TI) : Prop :=
  ∀ (pins : List (Addr × Obj)) (s : Shared) (σ : St) (H : Hp) (R : It → Hp → Prop), Inv X pins σ H s → wi σ H R →
    wpAny (model X.prog X.w) X.A (eval iter X.env) (fun v s1 => wpAny (model X.prog X.w) X.A (pyIter v) (PIE X pins σ tg R) X.xe s1) X.xe s
theorem go_of {M : Model} {A : Around} {E : Value → Shared → Prop} {s : Shared} {tg : Expr} {it : Addr} {u : Value} {o : Obj} {n : String} {vs : Array Value} {Q : Unit → Shared → Prop} (ho : s.heap.get? it = some o) (hc : o.cls = .type n) (hd : o.data = .fields vs)
    (hn : ["enumerate", "zip", "dict_itemiterator", "dict_reverseitemiterator", "odict_iterator", "itertools.zip_longest", "itertools.pairwise"].contains n = false) (hQ : Q () s) : wpAny M A (letOwnedTupleGo tg (.ref it) u) Q E s := by
  unfold letOwnedTupleGo
  cases tg <;> first
    | exact wpAny_pure hQ
    | (cases u <;> first
        | exact wpAny_pure hQ
        | (refine wpAny_bind (wpAny_load ho ?_)
           rw [hc, hd]
           show wpAny M A (if (["enumerate", "zip", "dict_itemiterator", "dict_reverseitemiterator", "odict_iterator", "itertools.zip_longest", "itertools.pairwise"].contains n && vs[0]? == some (rawInt _)) = true then _ else _) Q E s
           rw [if_neg (by intro h; rw [hn, Bool.false_and] at h; cases h)]
           exact wpAny_pure hQ))
def Itl (K : PySem.W.Frag) (a : Addr) : It :=
  ⟨fun i H => ∃ xs x, SqL K H a xs ∧ xs[i]? = some x, fun i H x H' => H' = H ∧ ∀ xs, SqL K H a xs → xs[i]? = some x, fun i H => ∃ xs, SqL K H a xs ∧ xs.length ≤ i⟩
def Itt (K : PySem.W.Frag) (a : Addr) : It :=
  ⟨fun i H => ∃ xs x, SqT K H a xs ∧ xs[i]? = some x, fun i H x H' => H' = H ∧ ∀ xs, SqT K H a xs → xs[i]? = some x, fun i H => ∃ xs, SqT K H a xs ∧ xs.length ≤ i⟩
def Itr (lo : Int) (n : Nat) : It := ⟨fun i _ => i < n, fun i H x H' => H' = H ∧ x = .int (lo + i), fun i _ => n ≤ i⟩
theorem turn_list {P : Program} {w : World} {K : PySem.W.Frag} {tg : Expr} (a it : Addr) : Turn P w K tg (Itl K a) [it] it (fun i h => h.IsListIter it a i) where
  mem := by simp
  obj := fun i h st b hb => by
    have e : b = it := by simpa using hb
    subst e
    obtain ⟨o, e, c, d⟩ := st
    exact ⟨o, e, fun v z => by rw [d] at z; cases z⟩
  keep := fun i h h' st k => st.at fun o e => k it (by simp) o e
  item := by
    intro X hP hw hK hc i pins s σ H E I hf st hg
    subst hP hw hK
    obtain ⟨xs, x, hq, hx⟩ := hg
    obtain ⟨its, rv, p, hz⟩ := I.list hq
    obtain ⟨u, hu, ru⟩ := rv.get hx
    obtain ⟨f0, f1, f2, f3, f4, f5⟩ := hf it (by simp)
    refine wpAny_pyNext_list_item st p.isList (x := u) (by simpa using hu) fun h' st' sb => ?_
    have I1 : Inv X pins σ H { s with heap := h' } := I.turned (t' := s.toks) (fun b o hb e => (sb.2 b hb).trans e) f0 f1 f3 f4 f5
    obtain ⟨o, e, c, d⟩ := id st'
    exact ⟨u, rfl, go_of (s := { s with heap := h' }) e c d (by decide) ⟨x, H, I1, ru, ⟨rfl, fun ys hy => by rw [I.list_inj hy hq]; exact hx⟩, st', fun b hb => (hf b hb).1⟩⟩
  done := by
    intro X hP hw hK hc i pins s σ H E I hf st hg
    subst hP hw hK
    obtain ⟨xs, hq, hx⟩ := hg
    obtain ⟨its, rv, p, hz⟩ := I.list hq
    obtain ⟨f0, f1, f2, f3, f4, f5⟩ := hf it (by simp)
    have hl := rv.length
    exact wpAny_pyNext_list_end (I.ok.hd hc) st p.isList (by simp; omega) fun h' eb => ⟨rfl, I.turned (t' := s.toks) (fun b o hb e => eb b o hb e) f0 f1 f3 f4 f5⟩
  self := fun _ _ _ _ _ st h => wpAny_pyIter_listiter st h
theorem turn_range {P : Program} {w : World} {K : PySem.W.Frag} {tg : Expr} (it : Addr) (lo : Int) (n : Nat) : Turn P w K tg (Itr lo n) [it] it (fun i h => IsRangeIter h it (lo + (i : Nat) * 1) ((n : Int) - (i : Nat)) 1) where
  mem := by simp
  obj := fun i h st b hb => by
    have e : b = it := by simpa using hb
    subst e
    exact ⟨_, st, fun v z => by
      have z' : Data.fields _ = Data.cell v := z
      cases z'⟩
  keep := fun i h h' st k => k it (by simp) _ st
  item := by
    intro X hP hw hK hc i pins s σ H E I hf st hg
    subst hP hw hK
    obtain ⟨f0, f1, f2, f3, f4, f5⟩ := hf it (by simp)
    have W := Walks.range (prog := X.prog) (w := X.w) (I.ok.hd hc) it lo 1 n
    refine W.item i s _ _ hg st fun v h' tk hv st' kk => ?_
    obtain ⟨t, rfl⟩ := hv
    have I1 : Inv X pins σ H { s with heap := h', toks := tk } := I.turned (fun b o hb e => kk b o (by simpa using hb) e) f0 f1 f3 f4 f5
    refine ⟨_, rfl, go_of (s := { s with heap := h', toks := tk }) (n := "range_iterator") st' rfl rfl (by decide) ⟨.int (lo + i), H, I1, ⟨t, ?_⟩, ⟨rfl, rfl⟩, st', fun b hb => (hf b hb).1⟩⟩
    rw [Int.mul_one]
  done := by
    intro X hP hw hK hc i pins s σ H E I hf st hg
    subst hP hw hK
    obtain ⟨f0, f1, f2, f3, f4, f5⟩ := hf it (by simp)
    exact wpAny_pyNext_range_end (I.ok.hd hc) st (by have : n ≤ i := hg; omega) fun h' eb => ⟨rfl, I.turned (t' := s.toks) (fun b o hb e => eb b o hb e) f0 f1 f3 f4 f5⟩
  self := fun _ _ _ _ _ st h => wpAny_pyIter_rangeiter st h
open PySem PySem.Spec PyProof.Rows
section
variable {X : Cx} {tg : Expr}
def iList (K : PySem.W.Frag) (tl : TE) : TI := fun σ H R => tl σ H fun x H1 => ∃ a, x = .ref a ∧ (∃ xs, SqL K H1 a xs) ∧ R (Itl K a) H1
def iTup (K : PySem.W.Frag) (tl : TE) : TI := fun σ H R => tl σ H fun x H1 => ∃ a, x = .ref a ∧ (∃ xs, SqT K H1 a xs) ∧ R (Itt K a) H1
theorem pi_list {l : Expr} {tl : TE} (hl : PE X l tl) : PI X tg l (iList X.K tl) := by
  intro pins s σ H R I h
  refine thn (hl pins s σ H _ I h) fun v s1 ⟨x, H1, I1, r1, q1⟩ => ?_
  obtain ⟨a, e, ⟨xs, hq⟩, q⟩ := q1
  subst e
  cases r1
  obtain ⟨its, rv, p, hz⟩ := I1.list hq
  refine wpAny_pyIter_list p.isList ?_
  refine ⟨s1.heap.objs.size, [s1.heap.objs.size], _, _, H1, rfl, I1.kept (t' := s1.toks) fun b o e => Heap.get?_push_of_some _ e, turn_list a _, ⟨_, Heap.get?_push_size _ rfl, rfl, rfl⟩, fun b hb => ?_, q⟩
  have e : b = s1.heap.objs.size := by simpa using hb
  subst e
  exact I1.fpOk (Nat.le_refl _) (I1.hok.fresh (Nat.le_refl _))
theorem range_it {pins : List (Addr × Obj)} {σ : St} {H : Hp} {s : Shared} {R : It → Hp → Prop} {E : Value → Shared → Prop} {lo hi : Int} {t u v : Tok} {tk : Nat} (I : Inv X pins σ H s) (h1 : -(2 ^ 62) ≤ lo) (h2 : lo < 2 ^ 62) (h3 : -(2 ^ 62) ≤ hi) (h4 : hi < 2 ^ 62)
    (q : R (Itr lo (hi - lo).toNat) H) : wpAny (model X.prog X.w) X.A (pyIter (.ref s.heap.objs.size)) (PIE X pins σ tg R) E { s with heap := s.heap.push { cls := .type "range", data := .fields #[.int lo t, .int hi u, .int 1 v] }, toks := tk } := by
  refine wpAny_pyIter_range (IsRange.new ..) (small_one h1 h2 h3 h4) ?_
  have I1 : Inv X pins σ H { s with heap := s.heap.push { cls := .type "range", data := .fields #[.int lo t, .int hi u, .int 1 v] }, toks := tk } := I.kept fun b o e => Heap.get?_push_of_some _ e
  refine ⟨(s.heap.push { cls := .type "range", data := .fields #[.int lo t, .int hi u, .int 1 v] }).objs.size, [(s.heap.push { cls := .type "range", data := .fields #[.int lo t, .int hi u, .int 1 v] }).objs.size], _, _, H, rfl,
    I1.kept (t' := tk) fun b o e => Heap.get?_push_of_some _ e, turn_range _ lo (hi - lo).toNat, ?_, fun b hb => ?_, q⟩
  · have e1 : lo + ((0 : Nat) : Int) * 1 = lo := by simp
    have e2 : (((hi - lo).toNat : Nat) : Int) - ((0 : Nat) : Int) = Builtin.Range.rangeSize lo hi 1 := by rw [rangeSize_one]; split <;> omega
    show IsRangeIter _ _ (lo + ((0 : Nat) : Int) * 1) ((((hi - lo).toNat : Nat) : Int) - ((0 : Nat) : Int)) 1
    rw [e1, e2]
    exact Heap.get?_push_size _ rfl
  · have e : b = (s.heap.push { cls := .type "range", data := .fields #[.int lo t, .int hi u, .int 1 v] }).objs.size := by simpa using hb
    subst e
    exact I1.fpOk (Nat.le_refl _) (I1.hok.fresh (Nat.le_refl _))
def iRng1 (ta : TA) : TI := fun σ H R => ta σ H fun vs H1 => ∃ j : Int, vs = [.int j] ∧ -(2 ^ 62) ≤ j ∧ j < 2 ^ 62 ∧ R (Itr 0 j.toNat) H1
def iRng2 (ta : TA) : TI := fun σ H R => ta σ H fun vs H1 => ∃ i j : Int, vs = [.int i, .int j] ∧ (-(2 ^ 62) ≤ i ∧ i < 2 ^ 62 ∧ -(2 ^ 62) ≤ j ∧ j < 2 ^ 62) ∧ R (Itr i (j - i).toNat) H1
theorem pi_range1 {a : Expr} {ta : TA} {p pos : Pos} (hg : Gl X "range") (hm : X.mg "range" = none) (ha : PA X [a] ta) (hs : starEach [a] X.env = [(false, eval a X.env)] := by rfl) : PI X tg (.Call (.Name "range" p) [a] [] pos) (iRng1 ta) := by
  intro pins s σ H R I h
  refine Call_ (ld_blt I hg hm boot_range (PyProof.Rows.callWith_type1 (thn (ha pos pins s σ H _ I h) fun us s1 ⟨vs, H1, I1, r1, q1⟩ => ?_) hs rfl))
  obtain ⟨j, e, q1, q2, q⟩ := q1
  subst e
  cases r1 with
  | cons r rr =>
    cases rr
    obtain ⟨t, rfl⟩ := r
    exact call_range_1 (range_it I1 (by omega) (by omega) q1 q2 (by simpa using q))
theorem pi_range2 {a b : Expr} {ta : TA} {p pos : Pos} (hg : Gl X "range") (hm : X.mg "range" = none) (ha : PA X [a, b] ta) (hs : starEach [a, b] X.env = [(false, eval a X.env), (false, eval b X.env)] := by rfl) (hs2 : starEach [b] X.env = [(false, eval b X.env)] := by rfl) :
    PI X tg (.Call (.Name "range" p) [a, b] [] pos) (iRng2 ta) := by
  intro pins s σ H R I h
  refine Call_ (ld_blt I hg hm boot_range (PyProof.Rows.callWith_type1 (thn (ha pos pins s σ H _ I h) fun us s1 ⟨vs, H1, I1, r1, q1⟩ => ?_) (by rw [hs, hs2]) (by rw [hs2]; rfl)))
  obtain ⟨i, j, e, ⟨q1, q2, q3, q4⟩, q⟩ := q1
  subst e
  cases r1 with
  | cons r rr =>
    cases rr with
    | cons r' rr =>
      cases rr
      obtain ⟨t, rfl⟩ := r
      obtain ⟨t', rfl⟩ := r'
      exact call_range_2 (range_it I1 q1 q2 q3 q4 q)
def tFor (wi : TI) (g : TG) (tb : TS) : TS := fun D σ H => wi σ H fun J H1 => ∃ W : Nat → Nat → St → Hp → Prop, (∃ m, W 0 m σ H1) ∧ ∀ i m σ H, W i m σ H →
  (J.stop i H ∧ D.nx σ H) ∨ (J.go i H ∧ ∃ N : St → Hp → Prop, (∀ σ' H', N σ' H' → ∃ m', m' < m ∧ W (i + 1) m' σ' H') ∧ ∀ x H', J.yld i H x H' → g x σ H' fun σ2 H2 => tb { D with nx := N, ct := N, bk := D.nx } σ2 H2)
def pinsAt (fp : List Addr) (h : Heap) : List (Addr × Obj) := fp.filterMap fun b => (h.get? b).map fun o => (b, o)
theorem mem_pinsAt {fp : List Addr} {h : Heap} {b : Addr} {o : Obj} (hb : b ∈ fp) (e : h.get? b = some o) : (b, o) ∈ pinsAt fp h := List.mem_filterMap.mpr ⟨b, hb, by rw [e]; rfl⟩
theorem of_pinsAt {fp : List Addr} {h : Heap} {p : Addr × Obj} (hp : p ∈ pinsAt fp h) : p.1 ∈ fp ∧ h.get? p.1 = some p.2 := by
  obtain ⟨b, hb, e⟩ := List.mem_filterMap.mp hp
  cases q : h.get? b with
  | none => rw [q] at e; cases e
  | some o =>
    rw [q] at e
    have e' : (b, o) = p := Option.some.inj e
    subst e'
    exact ⟨hb, q⟩
theorem Inv.pinned {pins : List (Addr × Obj)} {σ : St} {H : Hp} {s : Shared} {fp : List Addr} (I : Inv X pins σ H s) (hf : ∀ b ∈ fp, FpOk X pins H b) (ho : ∀ b ∈ fp, ∃ o, s.heap.get? b = some o ∧ ∀ v, o.data ≠ .cell v) : Inv X (pins ++ pinsAt fp s.heap) σ H s :=
  I.pins_of fun p hp => (List.mem_append.mp hp).elim (fun z => I.pin p (List.mem_append_right _ z)) fun z => by
    obtain ⟨hb, e⟩ := of_pinsAt z
    obtain ⟨f0, f1, f2, _⟩ := hf p.1 hb
    obtain ⟨o, e', d⟩ := ho p.1 hb
    rw [e] at e'; cases e'
    exact ⟨e, f0, f1, f2, d⟩
theorem Inv.unpinned {pins pl : List (Addr × Obj)} {σ : St} {H : Hp} {s : Shared} (I : Inv X (pins ++ pl) σ H s) : Inv X pins σ H s := I.pins_of fun p hp => I.pin p (List.mem_append_right _ (List.mem_append_left _ hp))
theorem ps_for {iter : Expr} {body : List Stmt} {wi : TI} {g : TG} {tb : TS} {pos : Pos} (hp : PassesOwn (model X.prog X.w) X.A X.env X.xe) (hc : X.calm = true) (hi : PI X tg iter wi) (hg : PG X tg g) (hb : PSs X body tb)
    (hs : ∀ x, foldedSetIterable iter X.env x = pure x := by intro _; rfl) : PS X (.For tg iter body [] pos) (tFor wi g tb) := by
  intro pins s σ H D I h
  refine wpAny_For (thn (hi pins s σ H _ I h) fun v s1 h1 => thn h1 fun itv s2 h2 => ?_) hs
  obtain ⟨it, fp, tn, J, H2, e, I2, T, st2, f2, W, ⟨m0, w0⟩, turn⟩ := h2
  subst e
  have stat : ∀ {H' : Hp}, (∀ b ∈ fp, H' b = none) → ∀ b ∈ fp, FpOk X pins H' b := fun hn b hb => ⟨hn b hb, (f2 b hb).2⟩
  refine codeAny_forLoop_any (fun n s' => ∃ i σ' H', Inv X pins σ' H' s' ∧ tn i s'.heap ∧ (∀ b ∈ fp, H' b = none) ∧ W i n σ' H') ?_ m0 ⟨0, σ, H2, I2, st2, fun b hb => (f2 b hb).1, w0⟩
  rintro n s3 ⟨i, σ3, H3, I3, st3, fr3, w3⟩
  rcases turn i n σ3 H3 w3 with ⟨stop, qn⟩ | ⟨go, N, hN, step⟩
  · refine wpAny_passesOwn hp (thn (T.done X rfl rfl rfl hc i pins s3 σ3 H3 X.xe I3 (stat fr3) st3 stop) fun r s4 ⟨hr, I4⟩ => ?_)
    subst hr
    exact wpAny_execs_nil ⟨σ3, H3, I4, qn⟩
  · refine wpAny_passesOwn hp (thn (T.item X rfl rfl rfl hc i pins s3 σ3 H3 X.xe I3 (stat fr3) st3 go) fun r s4 ⟨u, hr, h4⟩ => ?_)
    subst hr
    refine wpAny_passesOwn hp (thn h4 fun _ s5 ⟨x, H5, I5, r5, y5, st5, fr5⟩ => ?_)
    have I5' := I5.pinned (stat fr5) (T.obj _ _ st5)
    refine wpAny_passesOwn hp (thn (hg _ s5 σ3 H5 x u _ I5' r5 (step x H5 y5)) fun _ s6 ⟨σ6, H6, I6, q6⟩ => ?_)
    refine wpAny_passesOwn hp (thn (hb _ s6 σ6 H6 _ I6 q6) fun f s7 q7 => ?_)
    have again : ∀ {σ7 : St} {H7 : Hp}, Inv X (pins ++ pinsAt fp s5.heap) σ7 H7 s7 → N σ7 H7 → ∃ m, m < n ∧ ∃ i σ' H', Inv X pins σ' H' s7 ∧ tn i s7.heap ∧ (∀ b ∈ fp, H' b = none) ∧ W i m σ' H' := fun {σ7 H7} I7 n7 => by
      obtain ⟨m', hm, w7⟩ := hN σ7 H7 n7
      refine ⟨m', hm, i + 1, σ7, H7, I7.unpinned, T.keep _ _ _ st5 fun b hb o e => (I7.pin (b, o) (List.mem_append_right _ (List.mem_append_right _ (mem_pinsAt hb e)))).1, fun b hb => ?_, w7⟩
      obtain ⟨o, e, d⟩ := T.obj _ _ st5 b hb
      exact (I7.pin (b, o) (List.mem_append_right _ (List.mem_append_right _ (mem_pinsAt hb e)))).2.1
    cases f with
    | next => obtain ⟨σ7, H7, I7, n7⟩ := q7; exact again I7 n7
    | cont => obtain ⟨σ7, H7, I7, n7⟩ := q7; exact again I7 n7
    | brk => obtain ⟨σ7, H7, I7, q7⟩ := q7; exact ⟨σ7, H7, I7.unpinned, q7⟩
    | ret v => obtain ⟨x7, σ7, H7, I7, r7, q7⟩ := q7; exact ⟨x7, σ7, H7, I7.unpinned, r7, q7⟩
end
theorem for_list {K : PySem.W.Frag} {a : Addr} {xs : List V} {g : TG} {tb : TS} {D : Ends} {σ : St} {H : Hp} (Pv : Nat → St → Hp → Prop) (h0 : Pv 0 σ H) (hl : ∀ i σ H, i ≤ xs.length → Pv i σ H → SqL K H a xs)
    (hs : ∀ i x σ H, xs[i]? = some x → Pv i σ H → g x σ H fun σ2 H2 => tb { D with nx := Pv (i + 1), ct := Pv (i + 1), bk := D.nx } σ2 H2) (hd : ∀ σ H, Pv xs.length σ H → D.nx σ H) :
    ∃ W : Nat → Nat → St → Hp → Prop, (∃ m, W 0 m σ H) ∧ ∀ i m σ H, W i m σ H →
      ((Itl K a).stop i H ∧ D.nx σ H) ∨ ((Itl K a).go i H ∧ ∃ N : St → Hp → Prop, (∀ σ' H', N σ' H' → ∃ m', m' < m ∧ W (i + 1) m' σ' H') ∧ ∀ x H', (Itl K a).yld i H x H' → g x σ H' fun σ2 H2 => tb { D with nx := N, ct := N, bk := D.nx } σ2 H2) := by
  refine ⟨fun i m σ H => m = xs.length - i ∧ i ≤ xs.length ∧ Pv i σ H, ⟨xs.length, by simp, Nat.zero_le _, h0⟩, ?_⟩
  rintro i m σ H ⟨rfl, hi, p⟩
  have q := hl i σ H hi p
  by_cases hlt : i < xs.length
  · refine .inr ⟨⟨xs, xs[i], q, by simp [hlt]⟩, Pv (i + 1), fun σ' H' p' => ⟨xs.length - (i + 1), by omega, rfl, hlt, p'⟩, fun x H' y => ?_⟩
    obtain ⟨e, y⟩ := y
    subst e
    exact hs i x σ _ (y xs q) p
  · have e : i = xs.length := by omega
    subst e
    exact .inl ⟨⟨xs, q, Nat.le_refl _⟩, hd σ H p⟩
theorem for_range {lo : Int} {n : Nat} {g : TG} {tb : TS} {D : Ends} {σ : St} {H : Hp} (Pv : Nat → St → Hp → Prop) (h0 : Pv 0 σ H)
    (hs : ∀ i σ H, i < n → Pv i σ H → g (.int (lo + i)) σ H fun σ2 H2 => tb { D with nx := Pv (i + 1), ct := Pv (i + 1), bk := D.nx } σ2 H2) (hd : ∀ σ H, Pv n σ H → D.nx σ H) :
    ∃ W : Nat → Nat → St → Hp → Prop, (∃ m, W 0 m σ H) ∧ ∀ i m σ H, W i m σ H →
      ((Itr lo n).stop i H ∧ D.nx σ H) ∨ ((Itr lo n).go i H ∧ ∃ N : St → Hp → Prop, (∀ σ' H', N σ' H' → ∃ m', m' < m ∧ W (i + 1) m' σ' H') ∧ ∀ x H', (Itr lo n).yld i H x H' → g x σ H' fun σ2 H2 => tb { D with nx := N, ct := N, bk := D.nx } σ2 H2) := by
  refine ⟨fun i m σ H => m = n - i ∧ i ≤ n ∧ Pv i σ H, ⟨n, by simp, Nat.zero_le _, h0⟩, ?_⟩
  rintro i m σ H ⟨rfl, hi, p⟩
  by_cases hlt : i < n
  · refine .inr ⟨hlt, Pv (i + 1), fun σ' H' p' => ⟨n - (i + 1), by omega, rfl, hlt, p'⟩, fun x H' y => ?_⟩
    obtain ⟨e, y⟩ := y
    subst e y
    exact hs i σ _ hlt p
  · have e : i = n := by omega
    subst e
    exact .inl ⟨Nat.le_refl _, hd σ H p⟩
open PySem PySem.Spec PyProof.Rows
abbrev R2 := V → V → Hp → VK → Prop
def OpR (X : Cx) (f : Value → Value → Sem Value) (r : R2) : Prop :=
  ∀ (pins : List (Addr × Obj)) (s : Shared) (σ : St) (H : Hp) (x y : V) (v u : Value) (Q : VK), Inv X pins σ H s → RelV x v → RelV y u → r x y H Q →
    wpAny (model X.prog X.w) X.A (f v u) (EP X pins σ Q) X.xe s
def UnR (X : Cx) (f : Value → Sem Value) (r : V → Hp → VK → Prop) : Prop :=
  ∀ (pins : List (Addr × Obj)) (s : Shared) (σ : St) (H : Hp) (x : V) (v : Value) (Q : VK), Inv X pins σ H s → RelV x v → r x H Q →
    wpAny (model X.prog X.w) X.A (f v) (EP X pins σ Q) X.xe s
def CallR (X : Cx) (f : Value) (r : List V → Hp → VK → Prop) : Prop :=
  ∀ (pins : List (Addr × Obj)) (s : Shared) (σ : St) (H : Hp) (xs : List V) (us : List Value) (Q : VK), Inv X pins σ H s → Vals xs us → r xs H Q →
    wpAny (model X.prog X.w) X.A (call f us) (EP X pins σ Q) X.xe s
def TruR (X : Cx) (r : V → Hp → (Bool → Hp → Prop) → Prop) : Prop :=
  ∀ (pins : List (Addr × Obj)) (s : Shared) (σ : St) (H : Hp) (x : V) (v : Value) (Q : Bool → Hp → Prop), Inv X pins σ H s → RelV x v → r x H Q →
    wpAny (model X.prog X.w) X.A (truthy v) (TP X pins σ Q) X.xe s
def tOp (r : R2) (ta tb : TE) : TE := fun σ H Q => ta σ H fun x H1 => tb σ H1 fun y H2 => r x y H2 Q
def tUn (r : V → Hp → VK → Prop) (ta : TE) : TE := fun σ H Q => ta σ H fun x H1 => r x H1 Q
def rI (C : Int → Int → Prop) (g : Int → Int → V) : R2 := fun x y H Q => ∃ i j, x = .int i ∧ y = .int j ∧ C i j ∧ Q (g i j) H
def rI0 (g : Int → Int → V) : R2 := fun x y H Q => ∃ i j, x = .int i ∧ y = .int j ∧ Q (g i j) H
def rU (g : Int → V) : V → Hp → VK → Prop := fun x H Q => ∃ i, x = .int i ∧ Q (g i) H
section
variable {X : Cx} {a b c : Expr} {ta tb tc : TE} {pos : Pos}
theorem binT (ha : PE X a ta) (hb : PE X b tb) {pins : List (Addr × Obj)} {s : Shared} {σ : St} {H : Hp} {R : V → V → Hp → Prop} (I : Inv X pins σ H s)
    (h : ta σ H fun x H1 => tb σ H1 fun y H2 => R x y H2) {Q : Value → Shared → Prop} {f : Value → Value → Sem Value}
    (hf : ∀ v u s2 x y H2, Inv X pins σ H2 s2 → RelV x v → RelV y u → R x y H2 → wpAny (model X.prog X.w) X.A (f v u) Q X.xe s2) :
    wpAny (model X.prog X.w) X.A (eval a X.env) (fun v s₁ => wpAny (model X.prog X.w) X.A (eval b X.env) (fun u s₂ => wpAny (model X.prog X.w) X.A (f v u) Q X.xe s₂) X.xe s₁) X.xe s := by
  refine thn (ha pins s σ H _ I h) fun v s1 ⟨x, H1, I1, r1, q1⟩ => ?_
  refine thn (hb pins s1 σ H1 _ I1 q1) fun u s2 ⟨y, H2, I2, r2, q2⟩ => ?_
  exact hf v u s2 x y H2 I2 r1 r2 q2
theorem pe_op {op : Operator} {r : R2} (ho : OpR X (binaryOp op) r) (ha : PE X a ta) (hb : PE X b tb) : PE X (.BinOp a op b pos) (tOp r ta tb) := by
  intro pins s σ H Q I h
  exact wpAny_BinOp (binT ha hb I h fun v u s2 x y H2 I2 rx ry q => ho pins s2 σ H2 x y v u Q I2 rx ry q)
theorem opI {f : Value → Value → Sem Value} {C : Int → Int → Prop} {g : Int → Int → Int}
    (rule : ∀ (i j : Int) (t u : Tok) (s : Shared) (Q : Value → Shared → Prop) (E : Value → Shared → Prop), C i j → Q (.int (g i j) s.toks) { s with toks := s.toks + 1 } → wpAny (model X.prog X.w) X.A (f (.int i t) (.int j u)) Q E s) :
    OpR X f (rI C fun i j => .int (g i j)) := by
  intro pins s σ H x y v u Q I rx ry h
  obtain ⟨i, j, rfl, rfl, hc, q⟩ := h
  obtain ⟨t, rfl⟩ := rx
  obtain ⟨t', rfl⟩ := ry
  exact rule i j t t' s _ _ hc ⟨.int (g i j), H, I.tok _, ⟨_, rfl⟩, q⟩
theorem opI0 {f : Value → Value → Sem Value} {g : Int → Int → Int}
    (rule : ∀ (i j : Int) (t u : Tok) (s : Shared) (Q : Value → Shared → Prop) (E : Value → Shared → Prop), Q (.int (g i j) s.toks) { s with toks := s.toks + 1 } → wpAny (model X.prog X.w) X.A (f (.int i t) (.int j u)) Q E s) :
    OpR X f (rI0 fun i j => .int (g i j)) := by
  intro pins s σ H x y v u Q I rx ry h
  obtain ⟨i, j, rfl, rfl, q⟩ := h
  obtain ⟨t, rfl⟩ := rx
  obtain ⟨t', rfl⟩ := ry
  exact rule i j t t' s _ _ ⟨.int (g i j), H, I.tok _, ⟨_, rfl⟩, q⟩
theorem opB0 {f : Value → Value → Sem Value} {g : Int → Int → Bool}
    (rule : ∀ (i j : Int) (t u : Tok) (s : Shared) (Q : Value → Shared → Prop) (E : Value → Shared → Prop), Q (.bool (g i j)) s → wpAny (model X.prog X.w) X.A (f (.int i t) (.int j u)) Q E s) :
    OpR X f (rI0 fun i j => .bl (g i j)) := by
  intro pins s σ H x y v u Q I rx ry h
  obtain ⟨i, j, rfl, rfl, q⟩ := h
  obtain ⟨t, rfl⟩ := rx
  obtain ⟨t', rfl⟩ := ry
  exact rule i j t t' s _ _ ⟨.bl (g i j), H, I, rfl, q⟩
def CDiv (i j : Int) : Prop := 0 < j ∧ j < 1073741824
def CDivN (i j : Int) : Prop := j ≠ 0 ∧ j.natAbs < 1073741824
def CPow (i j : Int) : Prop := 0 ≤ j ∧ j ≤ 1000000 ∧ i.natAbs < 2 ^ 64
def CMul (i j : Int) : Prop := (-(2 ^ 64) < i ∧ i < 2 ^ 64) ∨ (-(2 ^ 64) < j ∧ j < 2 ^ 64)
theorem CMul.ok {i j : Int} (h : CMul i j) : IntMulOk i j := by
  rcases h with ⟨h1, h2⟩ | ⟨h1, h2⟩
  · exact .of_left (intBits_le_64 h1 h2)
  · exact .of_right (intBits_le_64 h1 h2)
theorem op_add : OpR X (binaryOp .Add) (rI0 fun i j => .int (i + j)) := opI0 fun _ _ _ _ _ _ _ q => add_int q
theorem op_sub : OpR X (binaryOp .Sub) (rI0 fun i j => .int (i - j)) := opI0 fun _ _ _ _ _ _ _ q => sub_int q
theorem op_mul : OpR X (binaryOp .Mult) (rI CMul fun i j => .int (i * j)) := opI fun _ _ _ _ _ _ _ hc q => mul_int q hc.ok
theorem op_fdiv : OpR X (binaryOp .FloorDiv) (rI CDiv fun i j => .int (i / j)) := opI fun i j _ _ _ _ _ hc q => by
  have h1 : (0 : Int) < j := hc.1
  have h2 : j < 1073741824 := hc.2
  exact floordiv_int (by omega) (by rw [Int.fdiv_eq_ediv_of_nonneg i (by omega)]; exact q) (.inl (PyProof.noPylong_small (by omega)))
theorem op_mod : OpR X (binaryOp .Mod) (rI (fun _ j => 0 < j) fun i j => .int (i % j)) := opI fun i j _ _ _ _ _ hc q => by
  have h1 : (0 : Int) < j := hc
  exact mod_int' (by omega) (by rw [Int.fmod_eq_emod_of_nonneg i (by omega)]; exact q)
theorem op_pow : OpR X (binaryOp .Pow) (rI CPow fun i j => .int (i ^ j.toNat)) := opI fun _ _ _ _ _ _ _ hc q => pow_int_small hc.1 hc.2.1 hc.2.2 q
end
def scal : V → V → Bool
  | .non, .non => true | .non, .int _ => true | .int _, .non => true | .non, .bl _ => true | .bl _, .non => true | .non, .str _ => true | .str _, .non => true
  | .int _, .int _ => true | .bl _, .bl _ => true | .str _, .str _ => true | .byt _, .byt _ => true
  | .int _, .str _ => true | .str _, .int _ => true | .bl _, .str _ => true | .str _, .bl _ => true
  | _, _ => false
def rEq : R2 := fun x y H Q => scal x y = true ∧ Q (.bl (decide (x = y))) H
def rNe : R2 := fun x y H Q => scal x y = true ∧ Q (.bl (!decide (x = y))) H
theorem dec_int {i j : Int} : decide (V.int i = V.int j) = (i == j) := by
  rw [Bool.eq_iff_iff]
  simp
theorem dec_bl {i j : Bool} : decide (V.bl i = V.bl j) = (i == j) := by
  rw [Bool.eq_iff_iff]
  simp
theorem dec_str {i j : Str} : decide (V.str i = V.str j) = (i == j) := by
  rw [Bool.eq_iff_iff]
  simp
theorem dec_byt {i j : Array UInt8} : decide (V.byt i = V.byt j) = (i.toList == j.toList) := by
  rw [Bool.eq_iff_iff]
  cases i
  cases j
  simp
section
variable {X : Cx} {a b c : Expr} {ta tb tc : TE} {pos : Pos}
theorem fin_bl {pins : List (Addr × Obj)} {σ : St} {H : Hp} {s : Shared} {Q : VK} {k k' : Bool} (I : Inv X pins σ H s) (q : Q (.bl k) H) (e : k = k') : EP X pins σ Q (.bool k') s := by
  subst e
  exact ⟨.bl k, H, I, rfl, q⟩
theorem op_eq : OpR X (compareOp .Eq) rEq := by
  intro pins s σ H x y v u Q I rx ry h
  obtain ⟨hs, q⟩ := h
  cases x with
  | non =>
    cases rx
    cases y with
    | non => cases ry; exact PySem.EqNone.eq_none_none (fin_bl I q (by simp))
    | bl j => cases ry; exact PySem.EqNone.eq_none_bool (fin_bl I q (by simp))
    | int j => obtain ⟨t', rfl⟩ := ry; exact PySem.EqNone.eq_none_int (fin_bl I q (by simp))
    | str j => obtain ⟨t', rfl⟩ := ry; exact PySem.EqNone.eq_none_str (fin_bl I q (by simp))
    | _ => exact absurd (show false = true from hs) Bool.false_ne_true
  | bl i =>
    cases rx
    cases y with
    | non => cases ry; exact PySem.EqNone.eq_bool_none (fin_bl I q (by simp))
    | bl j => cases ry; exact eq_bool (fin_bl I q dec_bl)
    | str j => obtain ⟨t', rfl⟩ := ry; exact PySem.EqMixed.eq_bool_str (fin_bl I q (by simp))
    | _ => exact absurd (show false = true from hs) Bool.false_ne_true
  | int i =>
    obtain ⟨t, rfl⟩ := rx
    cases y with
    | non => cases ry; exact PySem.EqNone.eq_int_none (fin_bl I q (by simp))
    | int j => obtain ⟨t', rfl⟩ := ry; exact eq_int (fin_bl I q dec_int)
    | str j => obtain ⟨t', rfl⟩ := ry; exact PySem.EqMixed.eq_int_str (fin_bl I q (by simp))
    | _ => exact absurd (show false = true from hs) Bool.false_ne_true
  | str i =>
    obtain ⟨t, rfl⟩ := rx
    cases y with
    | non => cases ry; exact PySem.EqNone.eq_str_none (fin_bl I q (by simp))
    | bl j => cases ry; exact PySem.EqMixed.eq_str_bool (fin_bl I q (by simp))
    | int j => obtain ⟨t', rfl⟩ := ry; exact PySem.EqMixed.eq_str_int (fin_bl I q (by simp))
    | str j => obtain ⟨t', rfl⟩ := ry; exact eq_str (fin_bl I q dec_str)
    | _ => exact absurd (show false = true from hs) Bool.false_ne_true
  | byt i =>
    obtain ⟨t, rfl⟩ := rx
    cases y with
    | byt j => obtain ⟨t', rfl⟩ := ry; exact PySem.W.eq_bytes (fin_bl I q dec_byt)
    | _ => exact absurd (show false = true from hs) Bool.false_ne_true
  | _ => cases y <;> exact absurd (show false = true from hs) Bool.false_ne_true
theorem op_ne : OpR X (compareOp .NotEq) rNe := by
  intro pins s σ H x y v u Q I rx ry h
  obtain ⟨hs, q⟩ := h
  cases x with
  | non =>
    cases rx
    cases y with
    | non => cases ry; exact PySem.EqNone.ne_none_none (fin_bl I q (by simp))
    | bl j => cases ry; exact PySem.EqNone.ne_none_bool (fin_bl I q (by simp))
    | int j => obtain ⟨t', rfl⟩ := ry; exact PySem.EqNone.ne_none_int (fin_bl I q (by simp))
    | str j => obtain ⟨t', rfl⟩ := ry; exact PySem.EqNone.ne_none_str (fin_bl I q (by simp))
    | _ => exact absurd (show false = true from hs) Bool.false_ne_true
  | bl i =>
    cases rx
    cases y with
    | non => cases ry; exact PySem.EqNone.ne_bool_none (fin_bl I q (by simp))
    | bl j => cases ry; exact ne_bool (fin_bl I q (congrArg not dec_bl))
    | str j => obtain ⟨t', rfl⟩ := ry; exact PySem.EqMixed.ne_bool_str (fin_bl I q (by simp))
    | _ => exact absurd (show false = true from hs) Bool.false_ne_true
  | int i =>
    obtain ⟨t, rfl⟩ := rx
    cases y with
    | non => cases ry; exact PySem.EqNone.ne_int_none (fin_bl I q (by simp))
    | int j => obtain ⟨t', rfl⟩ := ry; exact ne_int (fin_bl I q (congrArg not dec_int))
    | str j => obtain ⟨t', rfl⟩ := ry; exact PySem.EqMixed.ne_int_str (fin_bl I q (by simp))
    | _ => exact absurd (show false = true from hs) Bool.false_ne_true
  | str i =>
    obtain ⟨t, rfl⟩ := rx
    cases y with
    | non => cases ry; exact PySem.EqNone.ne_str_none (fin_bl I q (by simp))
    | bl j => cases ry; exact PySem.EqMixed.ne_str_bool (fin_bl I q (by simp))
    | int j => obtain ⟨t', rfl⟩ := ry; exact PySem.EqMixed.ne_str_int (fin_bl I q (by simp))
    | str j => obtain ⟨t', rfl⟩ := ry; exact ne_str (fin_bl I q (congrArg not dec_str))
    | _ => exact absurd (show false = true from hs) Bool.false_ne_true
  | byt i =>
    obtain ⟨t, rfl⟩ := rx
    cases y with
    | byt j => obtain ⟨t', rfl⟩ := ry; exact PySem.W.ne_bytes (fin_bl I q (congrArg not dec_byt))
    | _ => exact absurd (show false = true from hs) Bool.false_ne_true
  | _ => cases y <;> exact absurd (show false = true from hs) Bool.false_ne_true
theorem op_lt : OpR X (compareOp .Lt) (rI0 fun i j => .bl (decide (i < j))) := opB0 fun _ _ _ _ _ _ _ q => lt_int q
theorem op_le : OpR X (compareOp .LtE) (rI0 fun i j => .bl (decide (i ≤ j))) := opB0 fun _ _ _ _ _ _ _ q => le_int q
theorem op_gt : OpR X (compareOp .Gt) (rI0 fun i j => .bl (decide (j < i))) := opB0 fun _ _ _ _ _ _ _ q => gt_int q
theorem op_ge : OpR X (compareOp .GtE) (rI0 fun i j => .bl (decide (j ≤ i))) := opB0 fun _ _ _ _ _ _ _ q => ge_int q
theorem op_notN : OpR X (compareOp .IsNot) (fun x y H Q => y = .non ∧ Q (.bl (!decide (x = .non))) H) := by
  intro pins s σ H x y v u Q I rx ry h
  obtain ⟨rfl, q⟩ := h
  cases ry
  refine isnot_none_gen (fin_bl I q ?_)
  cases x <;> first
    | (cases rx; rfl)
    | (obtain ⟨t, rfl⟩ := rx; rfl)
theorem op_notin_str : OpR X (compareOp .NotIn) (fun x y H Q => ∃ i j, x = .str i ∧ y = .str j ∧ Q (.bl (!(!(Builtin.Str.occurrences j i 0 j.length 1).isEmpty))) H) := by
  intro pins s σ H x y v u Q I rx ry h
  obtain ⟨i, j, rfl, rfl, q⟩ := h
  obtain ⟨t, rfl⟩ := rx
  obtain ⟨t', rfl⟩ := ry
  exact notIn_str (fin_bl I q rfl)
def isObj : HO → Bool
  | .lst _ => true
  | .ins _ _ _ => true
  | _ => false
theorem nomark (b : Expr) {op : CmpOp} (h : op ≠ .In := by decide) (h2 : op ≠ .NotIn := by decide) : behindInMarks op b = false := by
  have e1 : (op == CmpOp.In) = false := by cases op <;> first | rfl | exact absurd rfl h
  have e2 : (op == CmpOp.NotIn) = false := by cases op <;> first | rfl | exact absurd rfl h2
  cases b <;> simp [behindInMarks, e1, e2]
theorem pe_cmpR {op : CmpOp} {r : R2} (ho : OpR X (compareOp op) r) (ha : PE X a ta) (hb : PE X b tb) (hm : behindInMarks op b = false) : PE X (.Compare a [op] [b] pos) (tOp r ta tb) := by
  intro pins s σ H Q I h
  exact wpAny_Compare1 (binT ha hb I h fun v u s2 x y H2 I2 rx ry q => ho pins s2 σ H2 x y v u Q I2 rx ry q) hm
def tTest (t : TE) : TT := fun σ H Q => t σ H fun x H' => ∃ k, x = .bl k ∧ Q k H'
theorem pt_cmpR {op : CmpOp} {r : R2} (ho : OpR X (compareOp op) r) (ha : PE X a ta) (hb : PE X b tb) (hm : behindInMarks op b = false) : PT X (.Compare a [op] [b] pos) (tTest (tOp r ta tb)) := by
  intro pins s σ H Q I h
  refine wpAny_isTrue_Compare1 (thn (ha pins s σ H _ I h) fun v s1 ⟨x, H1, I1, r1, q1⟩ => thn (hb pins s1 σ H1 _ I1 q1) fun u s2 ⟨y, H2, I2, r2, q2⟩ =>
    thn (ho pins s2 σ H2 x y v u _ I2 r1 r2 q2) fun c s3 ⟨z, H3, I3, r3, k, e, q3⟩ => ?_) hm
  subst e
  cases r3
  exact wpAny_truthy_bool ⟨H3, I3, q3⟩
def tChain (r r' : R2) (ta tb tc : TE) : TE := fun σ H Q => ta σ H fun x H1 => tb σ H1 fun y H2 => r x y H2 fun z H3 => ∃ k, z = .bl k ∧
  (if k = true then tc σ H3 fun w' H4 => r' y w' H4 Q else Q (.bl false) H3)
def TruV (K : PySem.W.Frag) (x : V) (H : Hp) (k : Bool) : Prop :=
  match x with
  | .non => k = false
  | .bl b => k = b
  | .int i => k = (i != 0)
  | .str y => y.length ≤ sizeLine ∧ k = ((y.length : Int) != 0)
  | .byt y => y.size ≤ sizeLine ∧ k = ((y.size : Int) != 0)
  | .ref p => (∃ xs, SqL K H p xs ∧ k = !xs.isEmpty) ∨ (∃ xs, SqT K H p xs ∧ k = !xs.isEmpty) ∨ ∃ kvs, H p = some (.dK kvs) ∧ k = !kvs.isEmpty
  | _ => False
theorem isEmpty_kv {κ : Type} {kvs : List (κ × V)} {vs : List (κ × Value)} (r : KV kvs vs) : (!vs.isEmpty) = !kvs.isEmpty := by
  cases r <;> rfl
theorem isEmpty_of {xs : List V} {its : List Value} (r : Vals xs its) : (!its.toArray.isEmpty) = !xs.isEmpty := by
  cases r <;> simp
theorem line63 : (sizeLine : Nat) < 2 ^ 63 := by rw [sizeLine_eq]; decide
theorem tru_ok : TruR X (fun x H Q => ∃ k, TruV X.K x H k ∧ Q k H) := by
  intro pins s σ H x v Q I rx h
  obtain ⟨k, e, q⟩ := h
  have hl := line63
  have hs : sizeLine = 16777216 := sizeLine_eq
  cases x with
  | non =>
    cases rx
    have e' : k = false := e
    subst e'
    exact truthy_none ⟨H, I, q⟩
  | bl b =>
    cases rx
    have e' : k = b := e
    subst e'
    exact wpAny_truthy_bool ⟨H, I, q⟩
  | int i =>
    obtain ⟨t, rfl⟩ := rx
    have e' : k = (i != 0) := e
    subst e'
    exact PySem.P.truthy_int ⟨H, I, q⟩
  | str y =>
    obtain ⟨t, rfl⟩ := rx
    obtain ⟨hy, e'⟩ : y.length ≤ sizeLine ∧ k = ((y.length : Int) != 0) := e
    subst e'
    exact PySem.P.truthy_str (by omega) ⟨H, I.tok _, q⟩
  | byt y =>
    obtain ⟨t, rfl⟩ := rx
    obtain ⟨hy, e'⟩ : y.size ≤ sizeLine ∧ k = ((y.size : Int) != 0) := e
    subst e'
    exact PySem.W.truthy_bytes (by omega) ⟨H, I.tok _, q⟩
  | ref p =>
    cases rx
    have e' : (∃ xs, SqL X.K H p xs ∧ k = !xs.isEmpty) ∨ (∃ xs, SqT X.K H p xs ∧ k = !xs.isEmpty) ∨ ∃ kvs, H p = some (.dK kvs) ∧ k = !kvs.isEmpty := e
    rcases e' with ⟨xs, hx, e'⟩ | ⟨xs, hx, e'⟩ | ⟨kvs, hx, e'⟩
    · subst e'
      obtain ⟨its, r, pl, hz⟩ := I.list hx
      have hlen := r.length
      exact wpAny_truthy_list pl.isList (by simp only [List.size_toArray]; omega) ⟨H, I.tok _, by rw [isEmpty_of r]; exact q⟩
    · subst e'
      obtain ⟨its, r, pl, hz⟩ := I.tuple hx
      have hlen := r.length
      exact truthy_tuple pl (by simp only [List.size_toArray]; omega) ⟨H, I.tok _, by rw [isEmpty_of r]; exact q⟩
    · subst e'
      obtain ⟨hz, hS, vs, r, m⟩ : kvs.length ≤ sizeLine ∧ (p == sysModules) = false ∧ ∃ vs, KV kvs vs ∧ s.heap.DictOf (mixKind X.prog X.w) p vs := I.hok p _ hx
      have hlen : kvs.length = vs.length := Paired.length r
      exact wpAny_truthy_dict hS m (by omega) ⟨H, I.tok _, by rw [isEmpty_kv r]; exact q⟩
  | _ => exact (show False from e).elim
theorem pt_truth (ha : PE X a ta) (he : ∀ whole, isTrue a X.env whole = (do let v ← whole; standAt a.pos; holding [v] (truthy v))) :
    PT X a (fun σ H Q => ta σ H fun x H' => ∃ k, TruV X.K x H' k ∧ Q k H') := by
  intro pins s σ H Q I h
  exact isTrue_plain (thn (ha pins s σ H _ I h) fun v s1 ⟨x, H1, I1, r1, q1⟩ => tru_ok pins s1 σ H1 x v Q I1 r1 q1) (he _)
theorem op_add_str : OpR X (binaryOp .Add) (fun x y H Q => ∃ i j, x = .str i ∧ y = .str j ∧ i.length + j.length ≤ sizeLine ∧ Q (.str (i ++ j)) H) := by
  intro pins s σ H x y v u Q I rx ry h
  obtain ⟨i, j, rfl, rfl, hz, q⟩ := h
  obtain ⟨t, rfl⟩ := rx
  obtain ⟨t', rfl⟩ := ry
  exact add_str (fun t' tk => ⟨.str (i ++ j), H, I.tok _, ⟨_, rfl⟩, q⟩) hz
def PlainIxT (b : Expr) : Prop := ∀ o i, subscripted b false o i = operate [o, i] (getItem o i)
theorem vals1 {x : V} {us : List Value} (r : Vals [x] us) : ∃ u, us = [u] ∧ RelV x u := by
  cases r with
  | cons r1 r2 => cases r2; exact ⟨_, rfl, r1⟩
theorem vals2 {x y : V} {us : List Value} (r : Vals [x, y] us) : ∃ u w', us = [u, w'] ∧ RelV x u ∧ RelV y w' := by
  cases r with
  | cons r1 r2 =>
    cases r2 with
    | cons r3 r4 => cases r4; exact ⟨_, _, rfl, r1, r3⟩
theorem call_min2 (hc : X.calm = true) : CallR X (.builtin "min") (fun xs H Q => ∃ i j, xs = [.int i, .int j] ∧ Q (.int (if j < i then j else i)) H) := by
  intro pins s σ H xs us Q I r h
  obtain ⟨i, j, rfl, q⟩ := h
  obtain ⟨u, w', rfl, ⟨t, rfl⟩, ⟨t', rfl⟩⟩ := vals2 r
  refine min_two_ints (I.ok.hd hc) fun h' tk k => ⟨_, H, I.kept k, ?_, q⟩
  by_cases hj : j < i
  · rw [if_pos hj, if_pos hj]; exact ⟨_, rfl⟩
  · rw [if_neg hj, if_neg hj]; exact ⟨_, rfl⟩
def LenV (K : PySem.W.Frag) (x : V) (H : Hp) (n : Nat) : Prop :=
  match x with
  | .str y => y.length ≤ sizeLine ∧ n = y.length
  | .byt y => y.size ≤ sizeLine ∧ n = y.size
  | .ref p => (∃ xs, SqL K H p xs ∧ n = xs.length) ∨ ∃ xs, SqT K H p xs ∧ n = xs.length
  | _ => False
end
open PySem PySem.Spec PyProof.Rows
structure ObjM (h : Heap) (x dx C : Addr) (mA : Str → Option Value) : Prop where
  obj : h.get? x = some (PySem.W.instObj C dx)
  ns : h.Ns1 dx mA
  ne : dx ≠ x
theorem lookIn_ns {h : Heap} {dx : Addr} {mA : Str → Option Value} (n : h.Ns1 dx mA) : ∃ od, h.get? dx = some od ∧ ∀ name, PySem.W.lookIn name od = some (mA name) := by
  obtain ⟨o, es, ep, ho, hd, hk, _, hm⟩ := n
  refine ⟨o, ho, fun name => ?_⟩
  have e := hm name
  unfold nsFind findBy at e
  rw [← Array.find?_toList] at e
  unfold PySem.W.lookIn
  rw [hd]
  dsimp only
  split
  · rename_i y q
    rw [q] at e
    exact congrArg some e
  · rename_i q
    rw [q] at e
    have a : es.toList.any (·.refKey) = false := by
      rw [List.any_eq_false]
      intro y hy
      obtain ⟨z, t, hkey⟩ := hk y (Array.mem_toList_iff.mp hy)
      simp [DictEntry.refKey, hkey]
    have a' : ¬ es.toList.any (·.refKey) = true := by rw [a]; exact Bool.false_ne_true
    rw [if_neg a']
    exact congrArg some e
theorem ObjM.look {h : Heap} {x dx C : Addr} {mA : Str → Option Value} (I : ObjM h x dx C mA) : ∃ od, PySem.W.InstAt h x (PySem.W.instObj C dx) C (some od) ∧ ∀ name, PySem.W.lookIn name od = some (mA name) :=
  let ⟨od, ho, hl⟩ := lookIn_ns I.ns
  ⟨od, ⟨I.obj, rfl, rfl, ho⟩, hl⟩
section
variable {prog : Program} {w : World} {A : Around} {E : Value → Shared → Prop} {s : Shared} {K : PySem.W.Frag} {x dx C f : Addr} {mA : Str → Option Value} {name : Str} {v : Value}
theorem get_map {expr : Bool} {Q : Value → Shared → Prop} (X : K.In s.heap) (I : ObjM s.heap x dx C mA) (hg : PySem.W.plainGet K C name = true) (hh : PySem.W.hasDictIn K C = true)
    (ha : PySem.W.findIn K (.ref C) name = some none) (hv : mA name = some v) (hv' : PySem.W.handedIn v = true) (h : Q v { s with toks := s.toks + 1 }) :
    wpAny (model prog w) A (getAttr (.ref x) name expr) Q E s := by
  obtain ⟨od, J, hl⟩ := I.look
  exact PySem.W.get_value X J (PySem.W.plainGet_of hg).1 (PySem.W.findObj_own hh ha rfl (by rw [hl, hv])) hv' h
theorem set_map {ns : List Str} {Q : Unit → Shared → Prop} (X : K.In s.heap) (I : ObjM s.heap x dx C mA)
    (hs : PySem.W.findIn K (.ref C) "__setattr__" = some (some (.builtin "object.__setattr__"))) (hp : PySem.W.plainOver K C = true) (ht : PySem.W.takerIn K C name = some none) (hh : PySem.W.hasDictIn K C = true)
    (hw : PySem.Within mA ns) (hsz : ns.length ≤ sizeLine)
    (h : ∀ h', ObjM h' x dx C (fun y => if y = name then some v else mA y) → Heap.SameBut dx s.heap h' → Q () { s with heap := h', toks := s.toks + 2 }) :
    wpAny (model prog w) A (setAttr (.ref x) name v) Q E s := by
  obtain ⟨od, J, hl⟩ := I.look
  refine PySem.W.set_plain X J hs (PySem.W.osa_open (s := { s with toks := s.toks + 1 }) (r := none) X J hp ht fun b => ?_)
  obtain ⟨cd, hc, hd'⟩ := PySem.W.any_some hh
  have hx : s.heap.get? x = some ⟨.ref C, some dx, .plain, #[]⟩ := I.obj
  refine wpAny_bind (wpAny_pure (wpAny_bind (wpAny_bind (wpAny_loadPart hx (wpAny_bind (PySem.W.Looks.here (s := { s with toks := s.toks + 1 }) (PySem.W.looks_clsIn X hc) ?_))))))
  rw [hd']
  refine wpAny_pure (a := some dx) (wpAny_bind (wpAny_pure (wpAny_bind ?_)))
  refine wpAny_nsSet1 (s := { s with toks := s.toks + 1 }) I.ns fun h' hn2 hs2 => ?_
  obtain ⟨oD, esD, epD, hoD, hdD, hcD⟩ := hn2.count (PySem.Within.cons name v hw)
  refine wpAny_bind (wpAny_lookBehind hoD (by rw [hdD]; exact pastItsLine_dict (Nat.le_trans hcD (by rw [List.length_cons]; omega))) ?_)
  exact wpAny_pure (h _ ⟨(hs2.2 _ (Ne.symm I.ne)).trans I.obj, hn2, I.ne⟩ hs2)
theorem make_map {R : Result → Shared → Prop} {vs : List Value} {kw : List (Str × Value)} (X : K.In s.heap) (hm : PySem.W.makesIn K C = true)
    (hi : PySem.W.findIn K (.ref C) "__init__" = some (some (.ref f))) (hf : PySem.W.typeIn K (.ref f) = some (.type "function"))
    (h : codeAny (model prog w) (A.under (.builtin "type.__call__" ⟨.ref C :: vs, kw⟩)) (.call (.ref f) ⟨.ref (s.heap.objs.size + 1) :: vs, kw⟩) (PySem.W.InitBack (s.heap.objs.size + 1) R)
      { s with heap := (s.heap.push PySem.W.emptyDict).push (PySem.W.instObj C s.heap.objs.size) }) :
    codeAny (model prog w) A (.call (.ref C) ⟨vs, kw⟩) R s := by
  obtain ⟨hh, g, d, t, os⟩ := s
  exact PySem.W.make_core (PySem.W.makes_of X hm) (PySem.W.looks_findIn X hi) (fun self => PySem.W.bind_fn X self hf) (.inl rfl) h
end
def putF (f : Str) (v : V) : List (Str × V) → List (Str × V)
  | [] => [(f, v)]
  | (g, x) :: r => if g = f then (g, v) :: r else (g, x) :: putF f v r
theorem lookup_putF (f g : Str) (v : V) : ∀ fs : List (Str × V), (putF f v fs).lookup g = if g = f then some v else fs.lookup g
  | [] => by
    show List.lookup g [(f, v)] = _
    by_cases h : g = f
    · have hb : (g == f) = true := beq_iff_eq.mpr h
      simp only [List.lookup, hb, if_pos h]
    · have hb : (g == f) = false := beq_eq_false_iff_ne.mpr h
      simp only [List.lookup, hb, if_neg h]
  | (k, x) :: r => by
    have ih := lookup_putF f g v r
    rw [show putF f v ((k, x) :: r) = (if k = f then (k, v) :: r else (k, x) :: putF f v r) from rfl]
    by_cases hk : k = f
    · rw [if_pos hk]
      by_cases h : g = k
      · have hb : (g == k) = true := beq_iff_eq.mpr h
        simp only [List.lookup, hb, if_pos (h.trans hk)]
      · have hb : (g == k) = false := beq_eq_false_iff_ne.mpr h
        simp only [List.lookup, hb, if_neg (fun e : g = f => h (e.trans hk.symm))]
    · rw [if_neg hk]
      by_cases h : g = k
      · have hb : (g == k) = true := beq_iff_eq.mpr h
        simp only [List.lookup, hb, if_neg (fun e : g = f => hk (h.symm.trans e))]
      · have hb : (g == k) = false := beq_eq_false_iff_ne.mpr h
        simp only [List.lookup, hb]
        exact ih
theorem keys_putF (f : Str) (v : V) : ∀ fs : List (Str × V), f ∈ (putF f v fs).map (·.1) ∧ ∀ g, g ∈ fs.map (·.1) → g ∈ (putF f v fs).map (·.1)
  | [] => ⟨by simp [putF], fun g h => by simp at h⟩
  | (k, x) :: r => by
    obtain ⟨i1, i2⟩ := keys_putF f v r
    rw [show putF f v ((k, x) :: r) = (if k = f then (k, v) :: r else (k, x) :: putF f v r) from rfl]
    by_cases hk : k = f
    · rw [if_pos hk]
      subst hk
      exact ⟨by simp, fun g h => by simpa using h⟩
    · rw [if_neg hk]
      refine ⟨?_, fun g h => ?_⟩
      · rw [List.map_cons]
        exact List.mem_cons_of_mem _ i1
      · rw [List.map_cons] at h ⊢
        rcases List.mem_cons.mp h with e | e
        · exact List.mem_cons.mpr (.inl e)
        · exact List.mem_cons_of_mem _ (i2 g e)
theorem length_putF (f : Str) (v : V) : ∀ fs : List (Str × V), (putF f v fs).length ≤ fs.length + 1
  | [] => by simp [putF]
  | (k, x) :: r => by
    have ih := length_putF f v r
    rw [show putF f v ((k, x) :: r) = (if k = f then (k, v) :: r else (k, x) :: putF f v r) from rfl]
    by_cases hk : k = f
    · rw [if_pos hk, List.length_cons, List.length_cons]; omega
    · rw [if_neg hk, List.length_cons, List.length_cons]; omega
theorem RelO.some_of {v : V} {o : Option Value} (r : RelO (some v) o) : ∃ u, o = some u ∧ RelV v u := by
  cases o with
  | none => exact (show False from r).elim
  | some u => exact ⟨u, rfl, r⟩
theorem handed_of {v : V} {u : Value} (r : RelV v u) : PySem.W.handedIn u = true := by
  cases v with
  | non => cases (show u = Value.none from r); rfl
  | bl b => cases (show u = Value.bool b from r); rfl
  | int i => obtain ⟨t, e⟩ := (show ∃ t, u = Value.int i t from r); cases e; rfl
  | str x => obtain ⟨t, e⟩ := (show ∃ t, u = Value.str x t from r); cases e; rfl
  | byt b => obtain ⟨t, e⟩ := (show ∃ t, u = Value.bytes b t from r); cases e; rfl
  | flt b => obtain ⟨t, e⟩ := (show ∃ t, u = Value.float b t from r); cases e; rfl
  | ref a => cases (show u = Value.ref a from r); rfl
  | ty n => cases (show u = Value.type n from r); rfl
section
variable {P : Program} {w : World} {H H' : Hp} {h h' : Heap} {a C dx : Addr} {fs fs' : List (Str × V)}
theorem ins_get (hok : HOk P w H h) (e : H a = some (.ins C dx fs)) : ∃ mA, ObjM h a dx C mA ∧ (∀ f, RelO (fs.lookup f) (mA f)) ∧ PySem.Within mA (fs.map (·.1)) ∧ fs.length ≤ 1000 ∧ H dx = some (.own a) := by
  obtain ⟨d, z, ne, ob, mA, n, r, q⟩ := (show ObjOk P w H h a (.ins C dx fs) from hok a _ e)
  exact ⟨mA, ⟨ob, n, ne⟩, r, q, z, d⟩
end
structure Cls (K : PySem.W.Frag) (C : Addr) : Prop where
  pg : PySem.W.plainGet K C Str.empty = true
  hd : PySem.W.hasDictIn K C = true
  po : PySem.W.plainOver K C = true
  sa : PySem.W.findIn K (.ref C) "__setattr__" = some (some (.builtin "object.__setattr__"))
theorem Cls.get {K : PySem.W.Frag} {C : Addr} (c : Cls K C) (f : Str) : PySem.W.plainGet K C f = true := c.pg
def NoAttr (K : PySem.W.Frag) (C : Addr) (f : Str) : Prop := PySem.W.findIn K (.ref C) f = some none
theorem NoAttr.taker {K : PySem.W.Frag} {C : Addr} {f : Str} (n : NoAttr K C f) : PySem.W.takerIn K C f = some none := by
  unfold PySem.W.takerIn
  rw [show PySem.W.findIn K (.ref C) f = some none from n]
  rfl
structure Con (K : PySem.W.Frag) (C : Addr) (f : Str) (v : V) (u : Value) : Prop where
  at_ : PySem.W.findIn K (.ref C) f = some (some u)
  rel : RelV v u
  get : PySem.W.specialIn K u "__get__" = some none
  cp : PySem.W.copiedNames.contains f = false
structure Meth (K : PySem.W.Frag) (C : Addr) (m : Str) (f : Addr) : Prop where
  at_ : PySem.W.findIn K (.ref C) m = some (some (.ref f))
  fn : PySem.W.isFn K (.ref f) = true
  kp : PySem.W.keepIn K (.ref f) = true
section
variable {X : Cx} {pins : List (Addr × Obj)} {σ : St} {H : Hp} {s : Shared} {a C dx : Addr} {fs : List (Str × V)} {f : Str} {v : V} {A : Around} {E : Value → Shared → Prop}
theorem getattr_ok {b : Bool} {Q : Value → Shared → Prop} (I : Inv X pins σ H s) (e : H a = some (.ins C dx fs)) (c : Cls X.K C) (n : NoAttr X.K C f) (l : fs.lookup f = some v)
    (h : ∀ u s', Inv X pins σ H s' → RelV v u → Q u s') : wpAny (model X.prog X.w) A (getAttr (.ref a) f b) Q E s := by
  obtain ⟨mA, O, r, _, _, _⟩ := ins_get I.hok e
  obtain ⟨u, hu, ru⟩ := RelO.some_of (v := v) (o := mA f) (by rw [← l]; exact r f)
  exact get_map I.kIn O (c.get f) c.hd n hu (handed_of ru) (h u _ (I.tok _) ru)
theorem setattr_ok {y : V} {u : Value} {Q : Unit → Shared → Prop} (I : Inv X pins σ H s) (e : H a = some (.ins C dx fs)) (c : Cls X.K C) (n : NoAttr X.K C f) (hl : fs.length < 1000) (ry : RelV y u)
    (h : ∀ s', Inv X pins σ (upd H a (.ins C dx (putF f y fs))) s' → Q () s') : wpAny (model X.prog X.w) A (setAttr (.ref a) f u) Q E s := by
  obtain ⟨mA, O, r, wi, _, ho⟩ := ins_get I.hok e
  have hz : (fs.map (·.1)).length ≤ sizeLine := by rw [List.length_map, sizeLine_eq]; omega
  refine set_map I.kIn O c.sa c.po n.taker c.hd wi hz fun h' O' sb => h _ ?_
  have hd : ∃ o, h'.get? dx = some o := let ⟨o, _, _, e', _⟩ := O'.ns; ⟨o, e'⟩
  refine I.write (x := a) (e := dx) (by rw [e]; exact True.intro) (.inr ho) (fun b q hb z => (sb.2 b hb).trans z) hd ?_
  refine ⟨by rw [upd_ne O.ne]; exact ho, ?_, O.ne, O'.obj, _, O'.ns, fun g => ?_, fun g hg => ?_⟩
  · have := length_putF f y fs; omega
  · show RelO ((putF f y fs).lookup g) (if g = f then some u else mA g)
    rw [lookup_putF]
    by_cases q : g = f
    · rw [if_pos q, if_pos q]; exact ry
    · rw [if_neg q, if_neg q]; exact r g
  · by_cases q : g = f
    · rw [q]; exact (keys_putF f y fs).1
    · refine (keys_putF f y fs).2 g (wi g fun z => hg ?_)
      show (if g = f then some u else mA g) = none
      rw [if_neg q]; exact z
theorem Inv.made (I : Inv X pins σ H s) : Inv X pins σ (upd (upd H s.heap.objs.size (.own (s.heap.objs.size + 1))) (s.heap.objs.size + 1) (.ins C s.heap.objs.size []))
    { s with heap := (s.heap.push PySem.W.emptyDict).push (PySem.W.instObj C s.heap.objs.size) } := by
  have e1 : (s.heap.push PySem.W.emptyDict).get? s.heap.objs.size = some PySem.W.emptyDict := Heap.get?_push_size s.heap rfl
  have e2 : ((s.heap.push PySem.W.emptyDict).push (PySem.W.instObj C s.heap.objs.size)).get? (s.heap.objs.size + 1) = some (PySem.W.instObj C s.heap.objs.size) := by
    have := Heap.get?_push_size (s.heap.push PySem.W.emptyDict) (o := PySem.W.instObj C s.heap.objs.size) rfl
    rwa [Heap.size_push] at this
  have e3 : (s.heap.push PySem.W.emptyDict).Ns s.heap.objs.size (fun _ => none) := ⟨PySem.W.emptyDict, #[], _, e1, rfl, (fun e he => absurd he (by simp)), fun _ => rfl⟩
  have I1 := I.laid (a := s.heap.objs.size) (o := .own (s.heap.objs.size + 1)) (h' := s.heap.push PySem.W.emptyDict) (t' := s.toks) (fun b u q => Heap.get?_push_of_some _ q) (Nat.le_refl _) ⟨_, e1⟩
  refine I1.laid (a := s.heap.objs.size + 1) (o := .ins C s.heap.objs.size []) (t' := s.toks) (fun b u q => Heap.get?_push_of_some _ q) (Nat.le_of_eq (Heap.size_push _ _)) ?_
  have ne : s.heap.objs.size ≠ s.heap.objs.size + 1 := Nat.ne_of_lt (Nat.lt_succ_self _)
  refine ⟨by rw [upd_ne ne, upd_same], Nat.zero_le _, ne, e2, fun _ => none, (Heap.Ns1.of_empty e3).at fun o q => Heap.get?_push_of_some _ q, fun _ => True.intro, fun y hy => absurd rfl hy⟩
theorem attr_of {prog : Program} {w : World} {env : Env} {e : Expr} {f : Str} {pos : Pos} {s : Shared} {Q : Value → Shared → Prop} (hb : attributeBase e f env (eval e env) = eval e env)
    (h : wpAny (model prog w) A (eval e env) (fun o s₁ => wpAny (model prog w) A (getAttr o f true) Q E s₁) E s) : wpAny (model prog w) A (eval (.Attribute e f pos) env) Q E s :=
  Attribute_any_ h (by rw [arm_eval_Attribute, hb])
end
def tFld (K : PySem.W.Frag) (ta : TE) (f : Str) : TE := fun σ H Q => ta σ H fun x H1 => ∃ a C dx fs v, x = .ref a ∧ H1 a = some (.ins C dx fs) ∧ Cls K C ∧ NoAttr K C f ∧ fs.lookup f = some v ∧ Q v H1
def tCon (K : PySem.W.Frag) (ta : TE) (f : Str) : TE := fun σ H Q => ta σ H fun x H1 => ∃ a C dx fs v u, x = .ref a ∧ H1 a = some (.ins C dx fs) ∧ Cls K C ∧ Con K C f v u ∧ fs.lookup f = none ∧ Q v H1
def sFld (K : PySem.W.Frag) (ta tv : TE) (f : Str) : TS := fun D σ H => tv σ H fun y H1 => ta σ H1 fun x H2 => ∃ a C dx fs, x = .ref a ∧ H2 a = some (.ins C dx fs) ∧ Cls K C ∧ NoAttr K C f ∧ fs.length < 1000 ∧
  D.nx σ (upd H2 a (.ins C dx (putF f y fs)))
def InOp (X : Cx) (op : Operator) (rd : V → V → Hp → VK → Prop) : Prop :=
  ∀ (pins : List (Addr × Obj)) (s : Shared) (σ : St) (H : Hp) (x y : V) (u v : Value) (Q : VK), Inv X pins σ H s → RelV x u → RelV y v → rd x y H Q → wpAny (model X.prog X.w) X.A (inplaceOp op u v) (EP X pins σ Q) X.xe s
def sFldAug (K : PySem.W.Frag) (ta tv : TE) (rd : V → V → Hp → VK → Prop) (f : Str) : TS := fun D σ H => ta σ H fun x H1 => ∃ a C dx fs v, x = .ref a ∧ H1 a = some (.ins C dx fs) ∧ Cls K C ∧ NoAttr K C f ∧ fs.lookup f = some v ∧
  tv σ H1 fun y H2 => rd v y H2 fun z H3 => ∃ dx' fs', H3 a = some (.ins C dx' fs') ∧ fs'.length < 1000 ∧ D.nx σ (upd H3 a (.ins C dx' (putF f z fs')))
section
variable {X : Cx} {o e value : Expr} {f : Str} {pos pos' tpos : Pos} {ta tv : TE}
theorem pe_fld (he : PE X e ta) (hb : attributeBase e f X.env (eval e X.env) = eval e X.env) : PE X (.Attribute e f pos) (tFld X.K ta f) := by
  intro pins s σ H Q I h
  refine attr_of hb (thn (he pins s σ H _ I h) fun u s1 ⟨x, H1, I1, rx, a, C, dx, fs, v, ex, ea, c, n, l, q⟩ => ?_)
  subst ex
  obtain rfl : u = Value.ref a := rx
  exact getattr_ok I1 ea c n l fun u' s2 I2 ru => ⟨v, H1, I2, ru, q⟩
theorem ps_fld (ha : PE X o ta) (hv : PE X value tv) (hs : swapsWith value (some (.Attribute o f pos')) pos.line X.env = pure false) : PS X (.Assign [.Attribute o f pos'] value pos) (sFld X.K ta tv f) := by
  intro pins s σ H D I h
  refine plainObj_wpAny_Assign_Attribute (thn (hv pins s σ H _ I h) fun u s1 ⟨y, H1, I1, ry, q⟩ => thn (ha pins s1 σ H1 _ I1 q) fun ov s2 ⟨x, H2, I2, rx, a, C, dx, fs, ex, ea, c, n, l, q2⟩ => ?_) hs
  subst ex
  obtain rfl : ov = Value.ref a := rx
  exact setattr_ok I2 ea c n l ry fun s3 I3 => ⟨σ, _, I3, q2⟩
def rAdd : V → V → Hp → VK → Prop := fun x y H Q => ∃ i j, x = .int i ∧ y = .int j ∧ Q (.int (i + j)) H
def rSub : V → V → Hp → VK → Prop := fun x y H Q => ∃ i j, x = .int i ∧ y = .int j ∧ Q (.int (i - j)) H
end
section
variable {X : Cx} {pins : List (Addr × Obj)} {σ : St} {H : Hp} {s : Shared} {A : Around} {E : Value → Shared → Prop} {Q : Value → Shared → Prop} {c : Value} {b : Bool}
inductive TyOf (K : PySem.W.Frag) (H : Hp) : V → Value → Prop where
  | non : TyOf K H .non (.type "NoneType")
  | bl (x : Bool) : TyOf K H (.bl x) (.type "bool")
  | int (i : Int) : TyOf K H (.int i) (.type "int")
  | str (x : Str) : TyOf K H (.str x) (.type "str")
  | flt (x : UInt64) : TyOf K H (.flt x) (.type "float")
  | lst {a : Addr} {xs : List V} (e : H a = some (.lst xs)) : TyOf K H (.ref a) (.type "list")
  | frz {a : Addr} {o : Obj} {xs : List V} (e : H a = some (.frz o (.lst xs))) : TyOf K H (.ref a) (.type "list")
  | tup {a : Addr} {xs : List V} (e : H a = some (.tup xs)) : TyOf K H (.ref a) (.type "tuple")
  | dK {a : Addr} {kvs : List (Key × V)} (e : H a = some (.dK kvs)) : TyOf K H (.ref a) (.type "dict")
  | dT {a : Addr} {kvs : List (List Key × V)} (e : H a = some (.dT kvs)) : TyOf K H (.ref a) (.type "dict")
  | ins {a C dx : Addr} {fs : List (Str × V)} (e : H a = some (.ins C dx fs)) (cl : Cls K C) (ha : PySem.W.findIn K (.ref C) "__class__" = some (some (.builtin "object.__class__")))
      (hn : PySem.W.specialIn K (.builtin "object.__class__") "__get__" = some (some (.builtin "getset_descriptor.__get__"))) (htk : PySem.W.takesIn K (.builtin "object.__class__") = some true)
      (hm : PySem.W.mroIn K C (.type "object") = some true) : TyOf K H (.ref a) (.ref C)
theorem isinst_ok {x : V} {u t : Value} (I : Inv X pins σ H s) (rx : RelV x u) (ty : TyOf X.K H x t) (e : PySem.W.kitOne X.K t c = some b) (h : ∀ tk, Q (.bool b) { s with toks := tk }) :
    wpAny (model X.prog X.w) A (call (.builtin "isinstance") [u, c]) Q E s := by
  cases ty with
  | non => cases (show u = Value.none from rx); exact PySem.W.kia_one PySem.W.kitx_none I.kIn True.intro e (fun z => nomatch z) h
  | bl y => cases (show u = Value.bool y from rx); exact PySem.W.kia_one PySem.W.kitx_bool I.kIn True.intro e (fun z => nomatch z) h
  | int i => obtain ⟨t, q⟩ := (show ∃ t, u = Value.int i t from rx); cases q; exact PySem.W.kia_one PySem.W.kitx_int I.kIn True.intro e (fun z => nomatch z) h
  | str y => obtain ⟨t, q⟩ := (show ∃ t, u = Value.str y t from rx); cases q; exact PySem.W.kia_one PySem.W.kitx_str I.kIn True.intro e (fun z => nomatch z) h
  | flt y => obtain ⟨t, q⟩ := (show ∃ t, u = Value.float y t from rx); cases q; exact PySem.W.kia_one PySem.W.kitx_float I.kIn True.intro e (fun z => nomatch z) h
  | @lst a xs ea =>
    cases (show u = Value.ref a from rx)
    obtain ⟨_, _, n, _, h1⟩ := (show ObjOk X.prog X.w H s.heap a (.lst xs) from I.hok a _ ea)
    exact PySem.W.kia_one PySem.W.kitx_list I.kIn ⟨_, h1, rfl⟩ e (fun z => nomatch z) h
  | @frz a ob xs ea =>
    cases (show u = Value.ref a from rx)
    obtain ⟨_, _, _, n, _, h1⟩ := (show ObjOk X.prog X.w H s.heap a (.frz ob (.lst xs)) from I.hok a _ ea)
    exact PySem.W.kia_one PySem.W.kitx_list I.kIn ⟨_, h1, rfl⟩ e (fun z => nomatch z) h
  | @tup a xs ea =>
    cases (show u = Value.ref a from rx)
    obtain ⟨_, _, _, p⟩ := (show ObjOk X.prog X.w H s.heap a (.tup xs) from I.hok a _ ea)
    obtain ⟨o, h1, h2, _⟩ := p
    exact PySem.W.kia_one PySem.W.kitx_tuple I.kIn ⟨o, h1, h2⟩ e (fun z => nomatch z) h
  | @dK a kvs ea =>
    cases (show u = Value.ref a from rx)
    obtain ⟨_, _, vs, _, p⟩ := (show ObjOk X.prog X.w H s.heap a (.dK kvs) from I.hok a _ ea)
    obtain ⟨o, es, ep, h1, h2, _⟩ := p
    exact PySem.W.kia_one PySem.W.kitx_dict I.kIn ⟨o, h1, h2.1⟩ e (fun z => nomatch z) h
  | @dT a kvs ea =>
    cases (show u = Value.ref a from rx)
    obtain ⟨_, _, xs, _, o, es, ep, h1, h2, _⟩ := (show ObjOk X.prog X.w H s.heap a (.dT kvs) from I.hok a _ ea)
    exact PySem.W.kia_one PySem.W.kitx_dict I.kIn ⟨o, h1, h2.1⟩ e (fun z => nomatch z) h
  | @ins a C dx fs ea cl ha hn htk hm =>
    cases (show u = Value.ref a from rx)
    obtain ⟨mA, O, _⟩ := ins_get I.hok ea
    obtain ⟨od, J, _⟩ := O.look
    exact PySem.W.kia_one (PySem.W.kitx_own (cl.get _) cl.hd ha hn htk hm) I.kIn J e (fun z => nomatch z) h
end
open PySem PySem.Spec PyProof.Rows
structure Room (k : Nat) (A : Around) : Prop where
  hd : A.handled = none
  dp : A.depth + 3 * k + 5 < recursionLimit
  un : A.units + 16 * k + 200 < cLine
theorem Room.mono {j k : Nat} {A : Around} (r : Room k A) (h : j ≤ k) : Room j A := ⟨r.hd, by have := r.dp; omega, by have := r.un; omega⟩
theorem Room.deeper {k : Nat} {A : Around} (r : Room (k + 1) A) (env : Env) : Room k (A.deeper env) :=
  ⟨r.hd, by have := r.dp; show A.depth + 1 + 3 * k + 5 < _; omega, by have := r.un; show A.units + 3 + 16 * k + 200 < _; omega⟩
theorem make_depth {A : Around} {C : Addr} {us : List Value} {kw : List (Str × Value)} : (A.under (.builtin "type.__call__" ⟨.ref C :: us, kw⟩)).depth = A.depth + 1 := by
  first | rfl | simp [Around.under, Code.weight, Code.isCreation, Code.isGuard, Code.isCaller, Code.frames, Code.isFrame, guardIds]
theorem make_units {A : Around} {C : Addr} {us : List Value} {kw : List (Str × Value)} : (A.under (.builtin "type.__call__" ⟨.ref C :: us, kw⟩)).units = A.units + 1 := by
  first | rfl | simp [Around.under, Code.cUnits, Code.frames, Code.isFrame]
theorem Room.make {k : Nat} {A : Around} (r : Room (k + 1) A) (C : Addr) (us : List Value) (kw : List (Str × Value)) : Room k (A.under (.builtin "type.__call__" ⟨.ref C :: us, kw⟩)) :=
  ⟨r.hd, by have := r.dp; rw [make_depth]; omega, by have := r.un; rw [make_units]; omega⟩
theorem Room.depth {k : Nat} {A : Around} (r : Room k A) : A.depth < recursionLimit := by have := r.dp; omega
theorem Room.units0 {k : Nat} {A : Around} (r : Room k A) : A.units < cLine := by have := r.un; omega
def tNil : TA := fun _ H Q => Q [] H
def tCons (ta : TE) (tr : TA) : TA := fun σ H Q => ta σ H fun x H1 => tr σ H1 fun xs H2 => Q (x :: xs) H2
section
variable {X : Cx} {e : Expr} {es : List Expr} {te : TE} {t : TA} {pos : Pos}
theorem pa_nil : PA X [] tNil := fun _ _ _ _ H Q I h => Calls.spliced_nil ⟨[], H, I, .nil, h⟩
theorem pa_cons (ha : PE X e te) (hr : PA X es t) (hs : starEach (e :: es) X.env = (false, eval e X.env) :: starEach es X.env := by rfl) : PA X (e :: es) (tCons te t) := by
  intro pos pins s σ H Q I h
  rw [hs]
  show wpAny _ _ (spliced ((false, eval e X.env) :: backTo pos (starEach es X.env))) _ _ s
  refine Calls.spliced_cons (thn (ha pins s σ H _ I h) fun u s1 ⟨x, H1, I1, r1, q1⟩ => ?_)
  exact thn (hr pos pins s1 σ H1 _ I1 q1) fun us s2 ⟨xs, H2, I2, r2, q2⟩ => ⟨x :: xs, H2, I2, .cons r1 r2, q2⟩
def tTup (t : TA) : TE := fun σ H Q => t σ H fun xs H1 => xs.length ≤ sizeLine ∧ ∀ p, H1 p = none → Q (.ref p) (upd H1 p (.tup xs))
def tLst (t : TA) : TE := fun σ H Q => t σ H fun xs H1 => xs.length ≤ sizeLine ∧ ∀ p, H1 p = none → Q (.ref p) (upd H1 p (.lst xs))
theorem pe_tup {x1} (h : PA X es t) : PE X (.Tuple es x1 pos) (tTup t) := by
  intro pins s σ H Q I hq
  refine wpAny_Tuple_spliced (thn (h pos pins s σ H _ I hq) fun us s1 ⟨xs, H1, I1, r, z, q⟩ => ⟨by rw [← r.length]; exact z, ?_⟩)
  have hf : H1 s1.heap.objs.size = none := I1.hok.fresh (Nat.le_refl _)
  refine ⟨.ref s1.heap.objs.size, upd H1 s1.heap.objs.size (.tup xs), I1.laid (t' := s1.toks) (fun b u e => Heap.get?_push_of_some _ e) (Nat.le_refl _) ?_, rfl, q _ hf⟩
  exact ⟨z, us, r, ⟨_, Heap.get?_push_size _ rfl, rfl, _, rfl⟩⟩
theorem pe_lst (h : PA X es t) : PE X (.List es pos) (tLst t) := by
  intro pins s σ H Q I hq
  refine wpAny_List_spliced (thn (h pos pins s σ H _ I hq) fun us s1 ⟨xs, H1, I1, r, z, q⟩ => ⟨by rw [← r.length]; exact z, ?_⟩)
  have hf : H1 s1.heap.objs.size = none := I1.hok.fresh (Nat.le_refl _)
  refine ⟨.ref s1.heap.objs.size, upd H1 s1.heap.objs.size (.lst xs), I1.laid (t' := s1.toks) (fun b u e => Heap.get?_push_of_some _ e) (Nat.le_refl _) ?_, rfl, q _ hf⟩
  exact ⟨z, us, 0, r, Heap.get?_push_size _ rfl⟩
end
abbrev Sp := List V → Hp → VK → XK → Prop
abbrev CXT := List Env → Hp → Shared → XK → Value → Shared → Prop
structure Env0 (P : Program) (w : World) (K : PySem.W.Frag) (mg : Str → Option Value) (base : Heap) (A : Around) (outer : List Env) (s : Shared) (H : Hp) : Prop where
  frames : A.frames = some outer
  mod : Mod K mg base
  bs : ∀ b o, base.get? b = some o → s.heap.get? b = some o ∧ H b = none
  bsz : base.objs.size ≤ s.heap.objs.size
  funs : s.heap.FunFrames base outer
  frf : ∀ b ∈ frs outer, H b = none
  hok : HOk P w H s.heap
  bare : AllBare s.gens
def CE (outer : List Env) (P : Program) (w : World) (H : Hp) (s : Shared) (Q : VK) (u : Value) (s' : Shared) : Prop :=
  ∃ v H', s'.os = s.os ∧ AllBare s'.gens ∧ Un (frs outer) [] H H' s.heap s'.heap ∧ HOk P w H' s'.heap ∧ RelV v u ∧ Q v H'
def CR (CX : CXT) (outer : List Env) (P : Program) (w : World) (H : Hp) (s : Shared) (Q : VK) (E : XK) (r : Result) (s' : Shared) : Prop :=
  match r with
  | .ok (.ret u) => CE outer P w H s Q u s'
  | .ok _ => False
  | .error e => CX outer H s E e s'
structure FnOk (P : Program) (w : World) (K : PySem.W.Frag) (mg : Str → Option Value) (base : Heap) (CX : CXT) (k : Nat) (f : Addr) (fd : FuncData) (ps : List Str) (sp : Sp) : Prop where
  len : ∀ vs H Q E, sp vs H Q E → vs.length = ps.length
  run : ∀ (A : Around) (outer : List Env) (s : Shared) (H : Hp) (args : Args) (us : List Value) (vs : List V) (Q : VK) (E : XK), Room k A → Env0 P w K mg base A outer s H → BindsTo s fd args (ps.zip us) → Vals vs us → sp vs H Q E →
    codeAny (model P w) A (.call (.ref f) args) (CR CX outer P w H s Q E) s
theorem FnOk.mono {P : Program} {w : World} {K : PySem.W.Frag} {mg : Str → Option Value} {base : Heap} {CX : CXT} {j k : Nat} {f : Addr} {fd : FuncData} {ps : List Str} {sp : Sp} (F : FnOk P w K mg base CX j f fd ps sp) (h : j ≤ k) :
    FnOk P w K mg base CX k f fd ps sp := ⟨F.len, fun A outer s H args us vs Q E hr => F.run A outer s H args us vs Q E (hr.mono h)⟩
theorem Env0.make {P : Program} {w : World} {K : PySem.W.Frag} {mg : Str → Option Value} {base : Heap} {A : Around} {outer : List Env} {s : Shared} {H : Hp} (e : Env0 P w K mg base A outer s H) (C : Addr) (us : List Value) (kw : List (Str × Value)) :
    Env0 P w K mg base (A.under (.builtin "type.__call__" ⟨.ref C :: us, kw⟩)) outer s H := ⟨by first | exact e.frames | (simpa [Around.under, Code.envs, Code.isFrame, pushEnvs] using e.frames), e.mod, e.bs, e.bsz, e.funs, e.frf, e.hok, e.bare⟩
section
variable {X : Cx} {pins : List (Addr × Obj)} {σ : St} {H : Hp} {s s' : Shared}
theorem Inv.env0 (I : Inv X pins σ H s) : Env0 X.prog X.w X.K X.mg X.base X.A X.stack s H :=
  ⟨I.ok.frames, I.ok.mod, I.bs, Nat.le_trans I.ok.bsz I.sz, I.stack, I.stkFree, I.hok, I.bare⟩
theorem Inv.after {Q : VK} {u : Value} (I : Inv X pins σ H s) (h : CE X.stack X.prog X.w H s Q u s') : EP X pins σ Q u s' := by
  obtain ⟨v, H', os, bare, un, hok, r, q⟩ := h
  obtain ⟨hh, g, d, t, os'⟩ := s'
  obtain rfl : os' = s.os := os
  exact ⟨v, H', I.call (h' := hh) (g' := g) (d' := d) (t' := t) (ch := []) un hok bare (fun b z => absurd z (by simp)), r, q⟩
end
def tCall (sp : Sp) (dvs : List V) (E : XK) (t : TA) : TE := fun σ H Q => t σ H fun vs H1 => sp (vs ++ dvs) H1 Q E
def tMeth (C : Addr) (m : Str) (sp : Sp) (dvs : List V) (E : XK) (ta : TE) (t : TA) : TE := fun σ H Q => ta σ H fun x H1 => ∃ a dx fs, x = .ref a ∧ H1 a = some (.ins C dx fs) ∧ fs.lookup m = none ∧
  t σ H1 fun vs H2 => sp (x :: (vs ++ dvs)) H2 Q E
def tMake (C : Addr) (sp : Sp) (dvs : List V) (E : XK) (t : TA) : TE := fun σ H Q => t σ H fun vs H1 => ∀ x dx, H1 x = none → H1 dx = none → dx ≠ x →
  sp (.ref x :: (vs ++ dvs)) (upd (upd H1 dx (.own x)) x (.ins C dx [])) (fun v H2 => v = .non ∧ Q (.ref x) H2) E
def Binds (K : PySem.W.Frag) (fd : FuncData) (ps : List Str) (ds : List Value) : Prop :=
  ∀ (s : Shared) (us : List Value), K.In s.heap → (us ++ ds).length = ps.length → BindsTo s fd ⟨us, []⟩ (ps.zip (us ++ ds))
theorem Binds.all {K : PySem.W.Frag} {fd : FuncData} {ps : List Str} (h : ∀ us : List Value, us.length = ps.length → bindArgs fd ⟨us, []⟩ = pure (ps.zip us)) : Binds K fd ps [] := fun s us _ hl => by
  rw [List.append_nil] at hl ⊢
  exact .of_eq (h us hl)
def Passes (CX : CXT) (X : Cx) (E : XK) : Prop := ∀ (pins : List (Addr × Obj)) (σ : St) (H : Hp) (s : Shared) (e : Value) (s' : Shared), Inv X pins σ H s → CX X.stack H s E e s' → X.xe e s'
section
variable {X : Cx} {CX : CXT} {k : Nat} {f C : Addr} {fd : FuncData} {ps : List Str} {sp : Sp} {dvs : List V} {ds : List Value} {E : XK} {x m : Str} {p pos apos : Pos} {e o : Expr} {es : List Expr} {ta : TE} {t : TA}
theorem run_fn {pins : List (Addr × Obj)} {σ : St} {H : Hp} {s : Shared} {Q : VK} {us : List Value} {vs : List V} (F : FnOk X.prog X.w X.K X.mg X.base CX k f fd ps sp) (hr : Room k X.A) (hb : Binds X.K fd ps ds) (hd : Vals dvs ds) (hx : Passes CX X E)
    (I : Inv X pins σ H s) (r : Vals vs us) (h : sp (vs ++ dvs) H Q E) : wpAny (model X.prog X.w) X.A (call (.ref f) us) (EP X pins σ Q) X.xe s := by
  have r2 : Vals (vs ++ dvs) (us ++ ds) := r.append hd
  have hl : (us ++ ds).length = ps.length := by rw [← r2.length]; exact F.len _ _ _ _ h
  refine wpAny_call (codeAny_mono (F.run X.A X.stack s H ⟨us, []⟩ (us ++ ds) (vs ++ dvs) Q E hr I.env0 (hb s us I.kIn hl) r2 h) fun r s' hq => ?_)
  cases r with
  | error e => exact hx pins σ H s e s' I hq
  | ok fl =>
    cases fl with
    | ret u => exact I.after hq
    | next => exact False.elim hq
    | brk => exact False.elim hq
    | cont => exact False.elim hq
theorem pe_call (F : FnOk X.prog X.w X.K X.mg X.base CX k f fd ps sp) (hr : Room k X.A) (hg : Gl X x) (hm : X.mg x = some (.ref f)) (hk : PySem.W.keepIn X.K (.ref f) = true) (hb : Binds X.K fd ps ds) (hd : Vals dvs ds) (hx : Passes CX X E)
    (ha : PA X (e :: es) t) (hdb : (x == ("__debug__" : Str)) = false := by decide) (he : starEach (e :: es) X.env = (false, eval e X.env) :: starEach es X.env := by rfl) (hpl : (backTo pos (starEach es X.env)).any (·.1) = false := by rfl) :
    PE X (.Call (.Name x p) (e :: es) [] pos) (tCall sp dvs E t) := by
  intro pins s σ H Q I h
  refine wpAny_Call_Name_kw (ld_glob I hg hm ?_ hdb)
  refine PySem.W.callWith_K (h₀ := X.base) I.ok.mod.kin hk (thn (ha pos pins s σ H _ I h) fun us s1 ⟨vs, H1, I1, r, q⟩ => ⟨I1.kIn, ?_⟩) he hpl
  exact run_fn F hr hb hd hx I1 r q
structure Mk (K : PySem.W.Frag) (C f : Addr) : Prop where
  makes : PySem.W.makesIn K C = true
  init : PySem.W.findIn K (.ref C) "__init__" = some (some (.ref f))
  fn : PySem.W.isFn K (.ref f) = true
  kp : PySem.W.keepIn K (.ref C) = true
theorem run_make {pins : List (Addr × Obj)} {σ : St} {H : Hp} {s : Shared} {Q : VK} {us : List Value} {vs : List V} (M : Mk X.K C f) (F : FnOk X.prog X.w X.K X.mg X.base CX k f fd ps sp) (hr : Room (k + 1) X.A) (hb : Binds X.K fd ps ds) (hd : Vals dvs ds)
    (hx : Passes CX X E) (I : Inv X pins σ H s) (r : Vals vs us)
    (h : ∀ x dx, H x = none → H dx = none → dx ≠ x → sp (.ref x :: (vs ++ dvs)) (upd (upd H dx (.own x)) x (.ins C dx [])) (fun v H2 => v = .non ∧ Q (.ref x) H2) E) :
    wpAny (model X.prog X.w) X.A (call (.ref C) us) (EP X pins σ Q) X.xe s := by
  have hq := h (s.heap.objs.size + 1) s.heap.objs.size (I.hok.fresh (Nat.le_succ _)) (I.hok.fresh (Nat.le_refl _)) (Nat.ne_of_lt (Nat.lt_succ_self _))
  have I2 := Inv.made (C := C) I
  have r2 : Vals (V.ref (s.heap.objs.size + 1) :: (vs ++ dvs)) (Value.ref (s.heap.objs.size + 1) :: (us ++ ds)) := .cons rfl (r.append hd)
  have hl : (Value.ref (s.heap.objs.size + 1) :: us ++ ds).length = ps.length := by
    have e := r2.length
    rw [F.len _ _ _ _ hq] at e
    exact e.symm
  refine wpAny_call (make_map (f := f) I.kIn M.makes M.init (beq_iff_eq.mp M.fn) (codeAny_mono (F.run _ X.stack _ _ ⟨Value.ref (s.heap.objs.size + 1) :: us, []⟩ (Value.ref (s.heap.objs.size + 1) :: (us ++ ds)) _ _ E (hr.make C us [])
    (I2.env0.make C us []) (hb _ (Value.ref (s.heap.objs.size + 1) :: us) I2.kIn hl) r2 hq) fun r s' hq' => ?_))
  cases r with
  | error e => exact hx pins σ _ _ e s' I2 hq'
  | ok fl =>
    cases fl with
    | ret u =>
      obtain ⟨v, H', I3, rv, ev, q3⟩ := I2.after hq'
      subst ev
      exact ⟨rv, ⟨V.ref (s.heap.objs.size + 1), H', I3, rfl, q3⟩⟩
    | next => exact False.elim hq'
    | brk => exact False.elim hq'
    | cont => exact False.elim hq'
theorem pe_make (M : Mk X.K C f) (F : FnOk X.prog X.w X.K X.mg X.base CX k f fd ps sp) (hr : Room (k + 1) X.A) (hg : Gl X x) (hm : X.mg x = some (.ref C)) (hb : Binds X.K fd ps ds) (hd : Vals dvs ds) (hx : Passes CX X E)
    (ha : PA X (e :: es) t) (hdb : (x == ("__debug__" : Str)) = false := by decide) (he : starEach (e :: es) X.env = (false, eval e X.env) :: starEach es X.env := by rfl) (hpl : (backTo pos (starEach es X.env)).any (·.1) = false := by rfl) :
    PE X (.Call (.Name x p) (e :: es) [] pos) (tMake C sp dvs E t) := by
  intro pins s σ H Q I h
  refine wpAny_Call_Name_kw (ld_glob I hg hm ?_ hdb)
  refine PySem.W.callWith_K (h₀ := X.base) I.ok.mod.kin M.kp (thn (ha pos pins s σ H _ I h) fun us s1 ⟨vs, H1, I1, r, q⟩ => ⟨I1.kIn, ?_⟩) he hpl
  exact run_make M F hr hb hd hx I1 r q
end
def PK (X : Cx) (kws : List Keyword) (t : TA) : Prop :=
  ∀ (pos : Pos) (pins : List (Addr × Obj)) (s : Shared) (σ : St) (H : Hp) (Q : List V → Hp → Prop), Inv X pins σ H s → t σ H Q → wpAny (model X.prog X.w) X.A (evalAll ((backToKw pos (keywordEach kws X.env)).map (·.2))) (AP X pins σ Q) X.xe s
section
variable {X : Cx} {CX : CXT} {k : Nat} {f C : Addr} {fd : FuncData} {ps ks : List Str} {sp : Sp} {E : XK} {x m : Str} {p pos apos kpos : Pos} {e o : Expr} {es : List Expr} {kws : List Keyword} {te ta : TE} {t tk : TA} {nm : Option Str}
structure KBinds (K : PySem.W.Frag) (fd : FuncData) (ps ks : List Str) (g : List Value → List Value → List Value) (gV : List V → List V → List V) : Prop where
  to : ∀ (s : Shared) (us ws : List Value), K.In s.heap → (g us ws).length = ps.length → BindsTo s fd ⟨us, ks.zip ws⟩ (ps.zip (g us ws))
  rel : ∀ {vs : List V} {us : List Value} {zs : List V} {ws : List Value}, Vals vs us → Vals zs ws → Vals (gV vs zs) (g us ws)
def tCallK (sp : Sp) (gV : List V → List V → List V) (E : XK) (t tk : TA) : TE := fun σ H Q => t σ H fun vs H1 => tk σ H1 fun zs H2 => sp (gV vs zs) H2 Q E
variable {g : List Value → List Value → List Value} {gV : List V → List V → List V}
end
structure FnScope (N P : List Str) (sc : Scope) : Prop where
  kind : sc.kind = .function
  co : sc.isCoroutine = false
  gen : sc.isGenerator = false
  nd : N.Nodup
  pre : N.take P.length = P
  par : ∀ x ∈ P, sc.names.lookup x = some .local ∨ sc.names.lookup x = some .cell
  nofree : ∀ y ∈ sc.names, y.2 ≠ .free
theorem bindL_out {kindOf : Str → Option NameKind} {x : Str} : ∀ {binds : List (Str × Value)} {m : Str → Option Value}, (∀ v, (x, v) ∉ binds) → bindL kindOf binds m x = m x
  | [], _, _ => rfl
  | (n, v) :: r, m, h => by
    unfold bindL
    rw [bindL_out fun w hw => h w (List.mem_cons_of_mem _ hw)]
    split
    · have : x ≠ n := by rintro rfl; exact h v List.mem_cons_self
      simp [this]
    · rfl
theorem bindC_out {kindOf : Str → Option NameKind} {x : Str} : ∀ {binds : List (Str × Value)} {m : Str → Option Value}, (∀ v, (x, v) ∉ binds) → bindC kindOf binds m x = m x
  | [], _, _ => rfl
  | (n, v) :: r, m, h => by
    unfold bindC
    rw [bindC_out fun w hw => h w (List.mem_cons_of_mem _ hw)]
    split
    · rfl
    · have : x ≠ n := by rintro rfl; exact h v List.mem_cons_self
      simp [this]
theorem bindL_get {kindOf : Str → Option NameKind} {x : Str} {v : Value} : ∀ {P : List Str} {vs : List Value} {i : Nat} {m : Str → Option Value}, P.Nodup → P[i]? = some x → vs[i]? = some v → kindOf x = some .local →
    bindL kindOf (P.zip vs) m x = some v
  | [], _, _, _, _, h, _, _ => by simp at h
  | _ :: _, [], _, _, _, _, h, _ => by simp at h
  | p :: P, w :: vs, 0, m, nd, h1, h2, hk => by
    simp at h1 h2; subst h1; subst h2
    show bindL kindOf ((p, w) :: P.zip vs) m p = _
    unfold bindL
    rw [bindL_out fun v hv => (List.nodup_cons.mp nd).1 (List.of_mem_zip hv).1, if_pos hk]
    simp
  | p :: P, w :: vs, i + 1, m, nd, h1, h2, hk => by
    show bindL kindOf ((p, w) :: P.zip vs) m x = _
    unfold bindL
    exact bindL_get (i := i) (List.nodup_cons.mp nd).2 (by simpa using h1) (by simpa using h2) hk
theorem bindC_get {kindOf : Str → Option NameKind} {x : Str} {v : Value} : ∀ {P : List Str} {vs : List Value} {i : Nat} {m : Str → Option Value}, P.Nodup → P[i]? = some x → vs[i]? = some v → kindOf x ≠ some .local →
    bindC kindOf (P.zip vs) m x = some v
  | [], _, _, _, _, h, _, _ => by simp at h
  | _ :: _, [], _, _, _, _, h, _ => by simp at h
  | p :: P, w :: vs, 0, m, nd, h1, h2, hk => by
    simp at h1 h2; subst h1; subst h2
    show bindC kindOf ((p, w) :: P.zip vs) m p = _
    unfold bindC
    rw [bindC_out fun v hv => (List.nodup_cons.mp nd).1 (List.of_mem_zip hv).1, if_neg hk]
    simp
  | p :: P, w :: vs, i + 1, m, nd, h1, h2, hk => by
    show bindC kindOf ((p, w) :: P.zip vs) m x = _
    unfold bindC
    exact bindC_get (i := i) (List.nodup_cons.mp nd).2 (by simpa using h1) (by simpa using h2) hk
def start (N : List Str) (vs : List V) : St := vs.map some ++ List.replicate (N.length - vs.length) none
def cxOf (CX : CXT) (P : Program) (w : World) (K : PySem.W.Frag) (mg : Str → Option Value) (base : Heap) (N : List Str) (qual : Str) (scope : Scope) (f : Addr) (cd : Value) (A : Around) (outer : List Env) (s : Shared) (H : Hp) (E : XK) : Cx where
  prog := P
  w := w
  K := K
  mg := mg
  base := base
  A := A.deeper (envOfC qual scope s.heap.objs.size f cd)
  N := N
  s₀ := s
  H₀ := H
  env := envOfC qual scope s.heap.objs.size f cd
  outer := outer
  stack := envOfC qual scope s.heap.objs.size f cd :: outer
  ex := []
  calm := true
  fn := fun _ => true
  pn := []
  xe := fun e s' => wpAny (model P w) (A.deeper (envOfC qual scope s.heap.objs.size f cd)) (leaving (envOfC qual scope s.heap.objs.size f cd) e) (fun _ s'' => CX outer H s E e s'') (fun e' s'' => CX outer H s E e' s'') s'
theorem cell_has {sc : Scope} {n : Nat} {x : Str} (h : sc.names.lookup x = some .cell) : ∃ c, (cellsFrom n sc.names []).lookup x = some c := by
  have q := PySem.W.cellsFrom_some sc.names n [] (.inl h)
  exact Option.isSome_iff_exists.mp q
theorem inv_start {CX : CXT} {P : Program} {w : World} {K : PySem.W.Frag} {mg : Str → Option Value} {base : Heap} {N ps : List Str} {qual : Str} {scope : Scope} {f : Addr} {cd : Value} {A : Around} {outer : List Env} {s s1 : Shared} {H : Hp} {E : XK} {us : List Value} {vs : List V}
    (S : FnScope N ps scope) (hd : A.handled = none) (e0 : Env0 P w K mg base A outer s H) (hl : vs.length = ps.length) (r : Vals vs us)
    (x : InCallC s s.heap.objs.size (bindL (envOfC qual scope s.heap.objs.size f cd).kindOf (ps.zip us) fun _ => none) (cellsFrom (s.heap.objs.size + 1) scope.names []) (bindC (envOfC qual scope s.heap.objs.size f cd).kindOf (ps.zip us) fun _ => none) s1) :
    Inv (cxOf CX P w K mg base N qual scope f cd A outer s H E) [] (start N vs) H s1 := by
  have hpl : ps.length ≤ N.length := by have := congrArg List.length S.pre; rw [List.length_take] at this; omega
  obtain ⟨h1, tk, rfl, hk⟩ := x.done
  have noA : ∀ b : Addr, b ∉ (cxOf CX P w K mg base N qual scope f cd A outer s H E).ex := fun b z => absurd (show b ∈ ([] : List Addr) from z) (by simp)
  refine ⟨⟨e0.mod, S.kind, rfl, rfl, Nat.le_refl _, fun y z c h1 h2 => ?_, fun y hy => ?_, fun y c _ h => ?_, fun _ => hd, Around.frames_deeper e0.frames, .inr ⟨rfl, rfl⟩, fun b z => absurd z (noA b), e0.bs, e0.bsz, fun b _ _ => noA b, fun b z => absurd z (noA b), e0.funs, e0.frf⟩,
    rfl, e0.bare, Un.kept hk, ⟨_, x.toInCall.ns, fun i y v h1 h2 h3 => ?_⟩, fun y c h => ⟨_, x.cell y c h⟩, e0.hok.fresh (Nat.le_refl _), fun y c h => ?_, fun p hp => absurd (show p ∈ ([] : List (Addr × Obj)) from hp) (by simp), e0.hok.kept hk, ?_⟩
  · exact name_of_addr x.apart (PySem.mem_of_lookup h1) (PySem.mem_of_lookup h2)
  · have hy : scope.names.lookup y = some .cell ∨ scope.names.lookup y = some .free := hy
    rcases hy with hy | hy
    · exact cell_has hy
    · exact absurd rfl (S.nofree _ (PySem.mem_of_lookup hy))
  · exact Nat.le_of_lt (x.above y c (PySem.mem_of_lookup h))
  · have hi : i < vs.length := by
      unfold start at h2
      by_cases hi : i < vs.length
      · exact hi
      · rw [List.getElem?_append_right (by simpa using hi)] at h2
        rw [List.getElem?_replicate] at h2
        split at h2 <;> cases h2
    have ha : vs[i]? = some v := by
      unfold start at h2
      rw [List.getElem?_append_left (by simpa using hi), List.getElem?_map] at h2
      cases e : vs[i]? with
      | none => rw [e] at h2; cases h2
      | some a => rw [e] at h2; cases h2; rfl
    obtain ⟨u, hu, rv⟩ := r.get ha
    have hp : ps[i]? = some y := by
      rw [← S.pre, List.getElem?_take_of_lt (by omega)]; exact h1
    have ndP : ps.Nodup := by rw [← S.pre]; exact S.nd.sublist (List.take_sublist _ _)
    refine ⟨u, rv, ?_⟩
    rcases S.par y (List.mem_of_getElem? hp) with k | k
    · exact .inl ⟨k, bindL_get ndP hp hu k⟩
    · obtain ⟨c, e⟩ := cell_has (n := s.heap.objs.size + 1) k
      refine .inr ⟨.inl k, c, e, ?_⟩
      have q := x.cell y c e
      rw [bindC_get ndP hp hu (by show scope.names.lookup y ≠ _; rw [k]; decide)] at q
      exact q
  · exact e0.hok.fresh (Nat.le_of_lt (x.above y c (PySem.mem_of_lookup h)))
  · unfold start
    show _ = N.length
    rw [List.length_append, List.length_map, List.length_replicate]
    omega
theorem fn_of {CX : CXT} {P : Program} {w : World} {K : PySem.W.Frag} {mg : Str → Option Value} {base : Heap} {k : Nat} {f : Addr} {name qual : Str} {params : Arguments} {body : List Stmt} {scope : Scope} {dV kV doc pm cdv ct oc : Value} {an od : Option Addr}
    {osl : Array (Option Value)} {N ps : List Str} {sp : Sp} (lk : K.lookup f = some ⟨oc, od, .func (PySem.W.fnOf name qual params body scope dV kV doc pm an cdv ct), osl⟩) (hcd : PySem.W.codeIn K cdv qual = true) (S : FnScope N ps scope)
    (len : ∀ vs H Q E, sp vs H Q E → vs.length = ps.length)
    (hbody : ∀ (A : Around) (outer : List Env) (s : Shared) (H : Hp) (vs : List V) (Q : VK) (E : XK), Room k (A.deeper (envOfC qual scope s.heap.objs.size f cdv)) → sp vs H Q E →
      ∃ t, PSs (cxOf CX P w K mg base N qual scope f cdv A outer s H E) body t ∧ t { nx := fun _ H' => Q .non H', rt := Q } (start N vs) H) :
    FnOk P w K mg base CX (k + 1) f (PySem.W.fnOf name qual params body scope dV kV doc pm an cdv ct) ps sp := by
  refine ⟨len, fun A outer s H args us vs Q E hr e0 hb r hsp => ?_⟩
  have hl := len _ _ _ _ hsp
  have KX : K.In s.heap := e0.mod.kin.keeps fun b o e => (e0.bs b o e).1
  have lim : s.heap.NoLimit := e0.mod.nolimit.keeps fun b o e => (e0.bs b o e).1
  have hkind : ∀ y ∈ ps.zip us, scope.names.lookup y.1 = some .local ∨ (scope.names.lookup y.1 = some .cell ∧ ((cellsFrom (s.heap.objs.size + 1) scope.names []).lookup y.1).isSome = true) := fun ⟨n, v⟩ hy => by
    rcases S.par n (List.of_mem_zip hy).1 with q | q
    · exact .inl q
    · exact .inr ⟨q, PySem.W.cellsFrom_some _ _ _ (.inl q)⟩
  refine codeAny_call_function hr.depth (KX _ _ lk) rfl S.co S.gen rfl (PySem.W.codeRec_of KX hcd) (hb _ _ _ _ ?_)
  refine wpAny_newFunctionEnv_cells S.kind hkind fun env he s1 x => ?_
  subst he
  refine ⟨lim.keeps x.toInCall.keep, codeAny_func ?_⟩
  obtain ⟨t, ht, hq⟩ := hbody A outer s H vs Q E (hr.deeper _) hsp
  have I : Inv (cxOf CX P w K mg base N qual scope f cdv A outer s H E) [] (start N vs) H s1 := inv_start S hr.hd e0 hl r x
  refine wpAny_mono (ht [] s1 (start N vs) H _ I hq) (fun fl s' hs => ?_) fun e s' hs => hs
  have fin : ∀ {σ' : St} {H' : Hp} {v : V} {u : Value}, Inv (cxOf CX P w K mg base N qual scope f cdv A outer s H E) [] σ' H' s' → RelV v u → Q v H' → CE outer P w H s Q u s' :=
    fun {σ' H' v u} J rv q => ⟨v, H', J.os, J.bare, J.base, J.hok, rv, q⟩
  cases fl with
  | ret u =>
    obtain ⟨v, σ', H', J, rv, q⟩ := hs
    exact fin J rv q
  | next =>
    obtain ⟨σ', H', J, q⟩ := hs
    exact fin (v := V.non) (u := Value.none) J rfl q
  | brk =>
    obtain ⟨_, _, _, q⟩ := hs
    exact False.elim q
  | cont =>
    obtain ⟨_, _, _, q⟩ := hs
    exact False.elim q
open PySem PySem.Spec PyProof.Rows
section
variable {X : Cx} {x : Str} {p pos : Pos} {e : Expr} {es : List Expr} {t : TA} {id T : String} {r : List V → Hp → VK → Prop}
def tCB (r : List V → Hp → VK → Prop) (t : TA) : TE := fun σ H Q => t σ H fun vs H1 => r vs H1 Q
theorem pe_callB (hc : CallR X (.builtin id) r) (hg : Gl X x) (hm : X.mg x = none) (hv : bootBuiltins x = some (.builtin id)) (ha : PA X (e :: es) t) (hn : x ≠ "__name__" := by decide) (hdb : (x == ("__debug__" : Str)) = false := by decide)
    (he : starEach (e :: es) X.env = (false, eval e X.env) :: starEach es X.env := by rfl) (hpl : (backTo pos (starEach es X.env)).any (·.1) = false := by rfl) : PE X (.Call (.Name x p) (e :: es) [] pos) (tCB r t) := by
  intro pins s σ H Q I h
  refine wpAny_Call_Name_kw (ld_blt I hg hm hv ?_ hn hdb)
  exact PyProof.Rows.callWith_builtin1 (thn (ha pos pins s σ H _ I h) fun us s1 ⟨vs, H1, I1, r1, q1⟩ => hc pins s1 σ H1 vs us Q I1 r1 q1) he hpl
theorem pe_callTy (hc : CallR X (.type T) r) (hg : Gl X x) (hm : X.mg x = none) (hv : bootBuiltins x = some (.type T)) (ha : PA X (e :: es) t) (hn : x ≠ "__name__" := by decide) (hdb : (x == ("__debug__" : Str)) = false := by decide)
    (he : starEach (e :: es) X.env = (false, eval e X.env) :: starEach es X.env := by rfl) (hpl : (backTo pos (starEach es X.env)).any (·.1) = false := by rfl) : PE X (.Call (.Name x p) (e :: es) [] pos) (tCB r t) := by
  intro pins s σ H Q I h
  refine wpAny_Call_Name_kw (ld_blt I hg hm hv ?_ hn hdb)
  exact PyProof.Rows.callWith_type1 (thn (ha pos pins s σ H _ I h) fun us s1 ⟨vs, H1, I1, r1, q1⟩ => hc pins s1 σ H1 vs us Q I1 r1 q1) he hpl
end
end L2
namespace HT
open PySem PyProof.Rows
def lexLt : List Int → List Int → Bool
  | [], [] => false
  | [], _ :: _ => true
  | _ :: _, [] => false
  | x :: xs, y :: ys => if x = y then lexLt xs ys else decide (x < y)
section
open PySem.SeqAt
open PySem.AutoSeq1 (wpAny_loadPart')
open PySem.MeetsSeq PySem.MeetsSeq2 PySem.MeetsSeq3
end
section
variable {prog : Program} {w : World} {A : Around} {E : Value → Shared → Prop} {s : Shared}
def sIx (n d : Nat) : Option Int → Nat
  | none => d
  | some v => if v < 0 then (v + (n : Int)).toNat else min v.toNat n
theorem sIx_none (n d : Nat) : sIx n d none = d := rfl
theorem sIx_nat (n d k : Nat) : sIx n d (some (k : Int)) = min k n := by
  show (if (k : Int) < 0 then ((k : Int) + (n : Int)).toNat else min (k : Int).toNat n) = min k n
  rw [if_neg (by omega), Int.toNat_natCast]
theorem sIx_le (n d : Nat) (hd : d ≤ n) (o : Option Int) : sIx n d o ≤ n := by
  cases o with
  | none => exact hd
  | some v =>
    show (if v < 0 then (v + (n : Int)).toNat else min v.toNat n) ≤ n
    by_cases hv : v < 0
    · rw [if_pos hv]; omega
    · rw [if_neg hv]; exact Nat.min_le_right _ _
end
end HT
namespace L2
open PySem PySem.Spec PyProof.Rows
abbrev TO := St → Hp → (Option Int → Hp → Prop) → Prop
def PO (X : Cx) (e : Option Expr) (t : TO) : Prop :=
  ∀ (pins : List (Addr × Obj)) (s : Shared) (σ : St) (H : Hp) (Q : Option Int → Hp → Prop), Inv X pins σ H s → t σ H Q →
    wpAny (model X.prog X.w) X.A (evalPart e X.env) (fun u s' => ∃ o H', Inv X pins σ H' s' ∧ IsPart u o ∧ Q o H') X.xe s
def tNoPart : TO := fun _ H Q => Q none H
def tPart (t : TE) : TO := fun σ H Q => t σ H fun x H1 => ∃ i, x = .int i ∧ Q (some i) H1
theorem intsAre_of {ns : List Int} : ∀ {us : List Value}, Vals (ns.map V.int) us → IntsAre us ns := by
  induction ns with
  | nil => intro us r; rw [List.map_nil] at r; cases r; exact .nil
  | cons n ns ih =>
    intro us r
    rw [List.map_cons] at r
    cases r with
    | cons r1 r2 =>
      obtain ⟨t, e⟩ := r1
      subst e
      exact .cons n t (ih r2)
section
variable {X : Cx} {e : Expr} {te : TE} {lo hi : Option Expr} {tl th : TO} {pos p2 : Pos}
theorem po_none : PO X none tNoPart := by
  intro pins s σ H Q I h
  rw [evalPart_none]
  exact wpAny_pure ⟨none, H, I, .none, h⟩
theorem po_some (h : PE X e te) : PO X (some e) (tPart te) := by
  intro pins s σ H Q I hw
  rw [evalPart_some]
  refine thn (h pins s σ H _ I hw) fun u s1 ⟨x, H1, I1, r1, q1⟩ => ?_
  obtain ⟨i, rfl, q⟩ := q1
  obtain ⟨t, rfl⟩ := r1
  exact ⟨some i, H1, I1, .int i t, q⟩
def SlR (X : Cx) (r : V → Option Int → Option Int → Hp → VK → Prop) : Prop :=
  ∀ (pins : List (Addr × Obj)) (s : Shared) (σ : St) (H : Hp) (x : V) (v vl vu : Value) (lo hi : Option Int) (sl : Addr) (Q : VK), Inv X pins σ H s → RelV x v → s.heap.IsSliceOf sl vl vu .none → IsPart vl lo → IsPart vu hi → r x lo hi H Q →
    ∃ T id, typeLookup (.type T) "__getitem__" = pure (some (.builtin id)) ∧ s.TypeIs v T ∧ wpAny (model X.prog X.w) X.A (getItem v (.ref sl)) (EP X pins σ Q) X.xe s
def tSl (r : V → Option Int → Option Int → Hp → VK → Prop) (te : TE) (tl th : TO) : TE := fun σ H Q => te σ H fun x H1 => tl σ H1 fun l H2 => th σ H2 fun u H3 => r x l u H3 Q
theorem pe_slice {r : V → Option Int → Option Int → Hp → VK → Prop} (hr : SlR X r) (he : PE X e te) (hl : PO X lo tl) (hu : PO X hi th) : PE X (.Subscript e (.Slice lo hi none p2) pos) (tSl r te tl th) := by
  intro pins s σ H Q I h
  refine Subscript_ (thn (he pins s σ H _ I h) fun v s1 ⟨x, H1, I1, r1, q1⟩ => ?_)
  refine wpAny_Slice (thn (hl pins s1 σ H1 _ I1 q1) fun vl s2 ⟨l, H2, I2, pl, q2⟩ => thn (hu pins s2 σ H2 _ I2 q2) fun vu s3 ⟨u, H3, I3, pu, q3⟩ => ?_)
  rw [evalPart_none]
  refine wpAny_pure ?_
  have I4 : Inv X pins σ H3 { s3 with heap := s3.heap.push { cls := .type "slice", data := .fields #[vl, vu, .none] } } := I3.kept (t' := s3.toks) fun b ob q => Heap.get?_push_of_some _ q
  obtain ⟨T, id, hT, ht, hg⟩ := hr pins { s3 with heap := s3.heap.push { cls := .type "slice", data := .fields #[vl, vu, .none] } } σ H3 x v vl vu l u s3.heap.objs.size Q I4 r1 (Heap.IsSliceOf.new ..) pl pu q3
  show wpAny (model X.prog X.w) X.A (subscriptTail e (.Slice lo hi none p2) v (.ref s3.heap.objs.size)) (EP X pins σ Q) X.xe { s3 with heap := s3.heap.push { cls := .type "slice", data := .fields #[vl, vu, .none] } }
  exact tail_any (ops := [.ref s3.heap.objs.size, v]) ht hT hg (by with_unfolding_all rfl)
def cutV (xs : List V) (lo hi : Option Int) : List V := (xs.drop (HT.sIx xs.length 0 lo)).take (HT.sIx xs.length xs.length hi - HT.sIx xs.length 0 lo)
theorem cutV_length (xs : List V) (lo hi : Option Int) : (cutV xs lo hi).length ≤ xs.length := by
  unfold cutV
  rw [List.length_take, List.length_drop]
  omega
def rSlT (K : PySem.W.Frag) : V → Option Int → Option Int → Hp → VK → Prop := fun x lo hi H Q => ∃ a xs, x = .ref a ∧ SqT K H a xs ∧
  ¬ (HT.sIx xs.length 0 lo = 0 ∧ HT.sIx xs.length xs.length hi = xs.length) ∧ ∀ p, H p = none → Q (.ref p) (upd H p (.tup (cutV xs lo hi)))
def rLtT (K : PySem.W.Frag) : R2 := fun x y H Q => ∃ a b ns ms, x = .ref a ∧ y = .ref b ∧ SqT K H a (ns.map V.int) ∧ SqT K H b (ms.map V.int) ∧ Q (.bl (HT.lexLt ns ms)) H
def rCatT (K : PySem.W.Frag) : R2 := fun x y H Q => ∃ a b xs ys, x = .ref a ∧ y = .ref b ∧ SqT K H a xs ∧ SqT K H b ys ∧ xs ≠ [] ∧ xs.length + ys.length ≤ sizeLine ∧
  (ys = [] → Q (.ref a) H) ∧ (ys ≠ [] → ∀ p, H p = none → Q (.ref p) (upd H p (.tup (xs ++ ys))))
end
open PySem PySem.Spec PyProof.Rows
def ixN (n : Nat) (i : Int) : Option Nat := if 0 ≤ i then (if i < n then some i.toNat else none) else if -(n : Int) ≤ i then some (i + n).toNat else none
def atI {α : Type} (xs : List α) (i : Int) : Option α := (ixN xs.length i).bind fun j => xs[j]?
theorem ixN_seq {n : Nat} {i : Int} {j : Nat} (h : ixN n i = some j) : seqIndex? i n = some j ∧ j < n ∧ -(n : Int) ≤ i ∧ i < n := by
  unfold ixN at h
  by_cases h0 : 0 ≤ i
  · rw [if_pos h0] at h
    by_cases h1 : i < n
    · rw [if_pos h1] at h
      have e : i.toNat = j := Option.some.inj h
      exact ⟨by rw [seqIndex_of h0 h1, e], by omega, by omega, h1⟩
    · rw [if_neg h1] at h; cases h
  · rw [if_neg h0] at h
    by_cases h1 : -(n : Int) ≤ i
    · rw [if_pos h1] at h
      have e : (i + n).toNat = j := Option.some.inj h
      exact ⟨by rw [seqIndex_neg (by omega) h1, e], by omega, h1, by omega⟩
    · rw [if_neg h1] at h; cases h
theorem atI_get {α : Type} {xs : List α} {i : Int} {v : α} (h : atI xs i = some v) : ∃ j, seqIndex? i xs.length = some j ∧ xs[j]? = some v ∧ j < xs.length ∧ -(xs.length : Int) ≤ i ∧ i < xs.length := by
  unfold atI at h
  cases e : ixN xs.length i with
  | none => rw [e] at h; cases h
  | some j =>
    rw [e] at h
    obtain ⟨h1, h2, h3, h4⟩ := ixN_seq e
    exact ⟨j, h1, h, h2, h3, h4⟩
theorem atI_nat {α : Type} {xs : List α} {j : Nat} {v : α} (h : xs[j]? = some v) : atI xs (j : Int) = some v := by
  have hj : j < xs.length := (List.getElem?_eq_some_iff.mp h).1
  have e : ixN xs.length (j : Int) = some j := by
    unfold ixN
    rw [if_pos (by omega), if_pos (by omega)]; simp
  unfold atI; rw [e]; exact h
def PlainIx (b : Expr) : Prop := ∀ o i, subscripted b false o i = operate [o, i] (getItem o i)
def IxR (X : Cx) (r : R2) : Prop :=
  ∀ (value slice : Expr) (pins : List (Addr × Obj)) (s : Shared) (σ : St) (H : Hp) (x y : V) (v u : Value) (Q : VK), Inv X pins σ H s → RelV x v → RelV y u → r x y H Q →
    subscripted slice false v u = operate [v, u] (getItem v u) → wpAny (model X.prog X.w) X.A (subscriptTail value slice v u) (EP X pins σ Q) X.xe s
def MtR (X : Cx) (id : String) (r : V → List V → Hp → VK → Prop) : Prop :=
  ∀ (pins : List (Addr × Obj)) (s : Shared) (σ : St) (H : Hp) (x : V) (xs : List V) (v : Value) (us : List Value) (Q : VK), Inv X pins σ H s → RelV x v → Vals xs us → r x xs H Q →
    wpAny (model X.prog X.w) X.A (call (.builtin id) (v :: us)) (EP X pins σ Q) X.xe s
section
variable {X : Cx} {a b : Expr} {ta tb : TE} {pos : Pos}
theorem pe_ix {r : R2} (hr : IxR X r) (ha : PE X a ta) (hb : PE X b tb) (hs : PlainIx b) : PE X (.Subscript a b pos) (tOp r ta tb) := by
  intro pins s σ H Q I h
  exact Subscript_ (binT ha hb I h fun v u s2 x y H2 I2 rx ry q => hr a b pins s2 σ H2 x y v u Q I2 rx ry q (hs _ _))
def rIxL (K : PySem.W.Frag) : R2 := fun x y H Q => ∃ p xs i v, x = .ref p ∧ y = .int i ∧ SqL K H p xs ∧ atI xs i = some v ∧ Q v H
def rIxT (K : PySem.W.Frag) : R2 := fun x y H Q => ∃ p xs i v, x = .ref p ∧ y = .int i ∧ SqT K H p xs ∧ atI xs i = some v ∧ Q v H
def rIxS : R2 := fun x y H Q => ∃ z i c, x = .str z ∧ y = .int i ∧ z.length ≤ sizeLine ∧ atI z.cps.toList i = some c ∧ Q (.str ⟨#[c]⟩) H
theorem ix_list : IxR X (rIxL X.K) := by
  intro value slice pins s σ H x y v u Q I rx ry h hs
  obtain ⟨p, xs, i, z, rfl, rfl, hq, he, q⟩ := h
  cases rx
  obtain ⟨t, rfl⟩ := ry
  obtain ⟨its, r, pl, hz⟩ := I.list hq
  obtain ⟨j, h1, h2, h3, h4, h5⟩ := atI_get he
  obtain ⟨w, ew, rw'⟩ := r.get h2
  have hl := r.length
  have hn := line63
  have fin : EP X pins σ Q w s := ⟨z, H, I, rw', q⟩
  by_cases h0 : 0 ≤ i
  · have hj : i.toNat = j := by
      rw [seqIndex_of h0 h5] at h1
      exact Option.some.inj h1
    exact item_listR pl.isList h0 (by omega) (by rw [hj]; simpa using ew) fin hs
  · have hj : (i + (its.toArray.size : Int)).toNat = j := by
      rw [seqIndex_neg (by omega) h4] at h1
      rw [List.size_toArray, ← hl]
      exact Option.some.inj h1
    exact subscriptTail_builtinR (x := w) pl.isList.typeIs slot_list_getitem.lookup
      (wpAny_getItem_list_neg (Q := fun r s' => r = w ∧ EP X pins σ Q r s') pl.isList (by omega) (by rw [List.size_toArray] <;> omega) (by omega) (by rw [hj]; simpa using ew) ⟨rfl, fin⟩) hs
theorem ix_tup : IxR X (rIxT X.K) := by
  intro value slice pins s σ H x y v u Q I rx ry h hs
  obtain ⟨p, xs, i, z, rfl, rfl, hq, he, q⟩ := h
  cases rx
  obtain ⟨t, rfl⟩ := ry
  obtain ⟨its, r, pl, hz⟩ := I.tuple hq
  obtain ⟨j, h1, h2, h3, h4, h5⟩ := atI_get he
  obtain ⟨w, ew, rw'⟩ := r.get h2
  have hl := r.length
  have hn := line63
  have fin : EP X pins σ Q w s := ⟨z, H, I, rw', q⟩
  exact subscriptTail_builtinR (x := w) pl.typeIs slot_tuple_getitem.lookup
    (getItem_tuple (j := j) (Q := fun r s' => r = w ∧ EP X pins σ Q r s') pl (by omega) (by omega) (by rw [List.size_toArray, ← hl]; exact h1) (by simpa using ew) ⟨rfl, fin⟩) hs
theorem ix_str : IxR X rIxS := by
  intro value slice pins s σ H x y v u Q I rx ry h hs
  obtain ⟨z, i, c, rfl, rfl, hz, he, q⟩ := h
  obtain ⟨t, rfl⟩ := rx
  obtain ⟨t', rfl⟩ := ry
  obtain ⟨j, h1, h2, h3, h4, h5⟩ := atI_get he
  have hl : z.cps.toList.length = z.length := by simp [Str.length]
  rw [hl] at h1 h4 h5
  have hn := line63
  exact tail_any (typeIs_str s z t) slot_str_getitem.lookup (getItem_str (c := c) (by
    have e1 : decide (i < -(2 ^ 63 : Int)) = false := decide_eq_false (by omega)
    have e2 : decide (i ≥ 2 ^ 63) = false := decide_eq_false (by omega)
    rw [e1, e2, Bool.or_false]) (by rw [h1]; simpa using h2) ⟨.str ⟨#[c]⟩, H, I.tok _, ⟨_, rfl⟩, q⟩) hs
def rIx (K : PySem.W.Frag) : R2 := fun x y H Q => rIxL K x y H Q ∨ rIxT K x y H Q ∨ rIxS x y H Q
theorem mapSeq_set (its : List Value) (n j : Nat) (u : Value) : Obj.mapSeq (·.setIfInBounds j u) { cls := .type "list", data := .seq its.toArray n } = { cls := .type "list", data := .seq (its.set j u).toArray n } := by
  simp [Obj.mapSeq]
theorem Inv.lst {pins : List (Addr × Obj)} {σ : St} {H : Hp} {s : Shared} {p : Addr} {xs : List V} (I : Inv X pins σ H s) (h : H p = some (.lst xs)) :
    ∃ (its : List Value) (n : Nat), Vals xs its ∧ s.heap.get? p = some { cls := .type "list", data := .seq its.toArray n } ∧ xs.length ≤ sizeLine := by
  obtain ⟨z, its, n, r, e⟩ := I.hok p _ h
  exact ⟨its, n, r, e, z⟩
theorem Inv.lstUpd {pins : List (Addr × Obj)} {σ : St} {H : Hp} {s : Shared} {p : Addr} {xs ys : List V} {its its' : List Value} {n n' : Nat} {f : Obj → Obj} (I : Inv X pins σ H s) (h : H p = some (.lst xs))
    (ho : s.heap.get? p = some { cls := .type "list", data := .seq its.toArray n }) (hf : f { cls := .type "list", data := .seq its.toArray n } = { cls := .type "list", data := .seq its'.toArray n' }) (r : Vals ys its') (hz : ys.length ≤ sizeLine) (t : Nat) :
    Inv X pins σ (upd H p (.lst ys)) { s with heap := s.heap.update p f, toks := t } := by
  have e : (s.heap.update p f).get? p = some { cls := .type "list", data := .seq its'.toArray n' } := by
    rw [Heap.get?_update_self f ho (by rw [hf] <;> rfl), hf]
  refine I.write (x := p) (e := p) (by rw [h]; trivial) (.inl rfl) (fun b u hb q => (Heap.get?_update_other _ _ (Ne.symm hb)).trans q) ⟨_, e⟩ ?_
  exact ⟨hz, its', n', r, e⟩
def rSetL : V → V → V → Hp → (Hp → Prop) → Prop := fun o i v H Q => ∃ p xs k j, o = .ref p ∧ i = .int k ∧ H p = some (.lst xs) ∧ ixN xs.length k = some j ∧ Q (upd H p (.lst (xs.set j v)))
theorem set_list : PSet X rSetL := by
  intro pins s σ H o i v ov iv u Q I ro ri rv h
  obtain ⟨p, xs, k, j, rfl, rfl, hp, hj, q⟩ := h
  cases ro
  obtain ⟨t, rfl⟩ := ri
  obtain ⟨its, n, r, ho, hz⟩ := I.lst hp
  obtain ⟨h1, h2, h3, h4⟩ := ixN_seq hj
  have hl := r.length
  have hn := line63
  have I' : Inv X pins σ (upd H p (.lst (xs.set j v))) { s with heap := s.heap.update p (Obj.mapSeq (·.setIfInBounds j u)) } :=
    I.lstUpd hp ho (mapSeq_set its n j u) (r.set rv j) (by rw [List.length_set]; exact hz) s.toks
  by_cases h0 : 0 ≤ k
  · have hk : k.toNat = j := by
      rw [seqIndex_of h0 h4] at h1
      exact Option.some.inj h1
    exact PySem.W.ki_setAt ho h0 (by omega) (by rw [List.size_toArray, ← hl]; exact h4) (by rw [hk]; exact ⟨_, I', q⟩)
  · have hk : (k + (its.toArray.size : Int)).toNat = j := by
      rw [seqIndex_neg (by omega) h3] at h1
      rw [List.size_toArray, ← hl]
      exact Option.some.inj h1
    exact PySem.W.ki_setBack ho (by omega) (by rw [List.size_toArray, ← hl]; exact h3) (by omega) (by rw [hk]; exact ⟨_, I', q⟩)
theorem slice_bounds (lo hi : Option Int) (n : Nat) : (sliceBounds lo hi none n).1 = ((HT.sIx n 0 lo : Nat) : Int) ∧ (sliceBounds lo hi none n).2.1 = ((HT.sIx n n hi : Nat) : Int) ∧ (sliceBounds lo hi none n).2.2 = 1 := by
  refine ⟨?_, ?_, rfl⟩
  · cases lo with
    | none => simp [sliceBounds, HT.sIx]
    | some i =>
      simp only [sliceBounds, HT.sIx, Option.getD_none, show (1 : Int) > 0 by decide, if_true]
      by_cases h : i < 0
      · simp only [h, if_true] <;> omega
      · simp only [h, if_false] <;> omega
  · cases hi with
    | none => simp [sliceBounds, HT.sIx]
    | some i =>
      simp only [sliceBounds, HT.sIx, Option.getD_none, show (1 : Int) > 0 by decide, if_true]
      by_cases h : i < 0
      · simp only [h, if_true] <;> omega
      · simp only [h, if_false] <;> omega
theorem slicePick_cut (its : List Value) (lo hi : Option Int) : slicePick its.toArray lo hi none = ((its.drop (HT.sIx its.length 0 lo)).take (HT.sIx its.length its.length hi - HT.sIx its.length 0 lo)).toArray := by
  obtain ⟨h1, h2, h3⟩ := slice_bounds lo hi its.toArray.size
  unfold slicePick
  rw [h1, h2, h3]
  simp only [sliceRange_one, pick_run, List.size_toArray] <;> rfl
def rSlL (K : PySem.W.Frag) : V → Option Int → Option Int → Hp → VK → Prop := fun x lo hi H Q => ∃ a xs, x = .ref a ∧ SqL K H a xs ∧ ∀ p, H p = none → Q (.ref p) (upd H p (.lst (cutV xs lo hi)))
theorem sl_list : SlR X (rSlL X.K) := by
  intro pins s σ H x v vl vu lo hi sl Q I rx hs pl pu h
  obtain ⟨a, xs, rfl, hx, q⟩ := h
  cases rx
  obtain ⟨its, r, ht, hz⟩ := I.list hx
  have hlen := r.length
  refine ⟨"list", _, slot_list_getitem.lookup, ht.isList.typeIs, ?_⟩
  refine wpAny_getItem_list_slice ht.isList hs pl pu .none (by simp) ?_ (by rw [List.size_toArray] <;> omega)
  rw [slicePick_cut, ← hlen]
  refine ⟨.ref s.heap.objs.size, _, I.laid (t' := s.toks) (o := .lst (cutV xs lo hi)) (fun b ob q => Heap.get?_push_of_some _ q) (Nat.le_refl _) ?_, rfl, q _ (I.hok.fresh (Nat.le_refl _))⟩
  exact ⟨Nat.le_trans (cutV_length xs lo hi) hz, _, 0, (r.drop (HT.sIx xs.length 0 lo)).take (HT.sIx xs.length xs.length hi - HT.sIx xs.length 0 lo), Heap.get?_push_size _ rfl⟩
def flatV : V → Bool
  | .non => true
  | .bl _ => true
  | .int _ => true
  | .str _ => true
  | _ => false
def eqV : V → V → Bool
  | .non, .non => true
  | .bl a, .bl b => a == b
  | .bl a, .int b => (if a then 1 else 0) == b
  | .int a, .bl b => a == (if b then 1 else 0)
  | .int a, .int b => a == b
  | .str a, .str b => a == b
  | _, _ => false
theorem eqAt_V {A : Around} {s : Shared} {y x : V} {u v : Value} (ry : RelV y u) (rx : RelV x v) (fy : flatV y = true) (fx : flatV x = true) : SeqAt.EqAt A s u v (eqV y x) := by
  cases y with
  | non =>
    cases ry
    cases x with
    | non => cases rx; exact SeqAt.EqAt.same _
    | bl b => cases rx; exact SeqAt.EqAt.none_bool b
    | int b => obtain ⟨t, rfl⟩ := rx; exact SeqAt.EqAt.none_int b t
    | str b => obtain ⟨t, rfl⟩ := rx; exact SeqAt.EqAt.none_str b t
    | _ => exact absurd (show false = true from fx) Bool.false_ne_true
  | bl a =>
    cases ry
    cases x with
    | non => cases rx; exact SeqAt.EqAt.bool_none a
    | bl b => cases rx; exact SeqAt.EqAt.bool_bool a b
    | int b => obtain ⟨t, rfl⟩ := rx; exact SeqAt.EqAt.bool_int a b t
    | str b => obtain ⟨t, rfl⟩ := rx; exact SeqAt.EqAt.bool_str a b t
    | _ => exact absurd (show false = true from fx) Bool.false_ne_true
  | int a =>
    obtain ⟨t', rfl⟩ := ry
    cases x with
    | non => cases rx; exact SeqAt.EqAt.int_none a t'
    | bl b => cases rx; exact SeqAt.EqAt.int_bool a t' b
    | int b => obtain ⟨t, rfl⟩ := rx; exact SeqAt.EqAt.int_int a t' b t
    | str b => obtain ⟨t, rfl⟩ := rx; exact SeqAt.EqAt.int_str a t' b t
    | _ => exact absurd (show false = true from fx) Bool.false_ne_true
  | str a =>
    obtain ⟨t', rfl⟩ := ry
    cases x with
    | non => cases rx; exact SeqAt.EqAt.str_none a t'
    | bl b => cases rx; exact SeqAt.EqAt.str_bool a t' b
    | int b => obtain ⟨t, rfl⟩ := rx; exact SeqAt.EqAt.str_int a t' b t
    | str b => obtain ⟨t, rfl⟩ := rx; exact SeqAt.EqAt.str_str a t' b t
    | _ => exact absurd (show false = true from fx) Bool.false_ne_true
  | _ => exact absurd (show false = true from fy) Bool.false_ne_true
def eqU (x : V) (u : Value) : Bool := match u with
  | .none => eqV .non x
  | .bool b => eqV (.bl b) x
  | .int i _ => eqV (.int i) x
  | .str z _ => eqV (.str z) x
  | _ => false
theorem eqU_of {x y : V} {u : Value} (r : RelV y u) (f : flatV y = true) : eqU x u = eqV y x := by
  cases y with
  | non => cases r; rfl
  | bl b => cases r; rfl
  | int i => obtain ⟨t, rfl⟩ := r; rfl
  | str z => obtain ⟨t, rfl⟩ := r; rfl
  | _ => exact absurd (show false = true from f) Bool.false_ne_true
theorem any_eqU {x : V} : ∀ {xs : List V} {us : List Value}, Vals xs us → xs.all flatV = true → us.any (eqU x) = xs.any fun y => eqV y x
  | _, _, .nil, _ => rfl
  | y :: xs, u :: us, .cons r t, f => by
    rw [List.all_cons, Bool.and_eq_true] at f
    rw [List.any_cons, List.any_cons, eqU_of r f.1, any_eqU t f.2]
theorem mem_eqAt {A : Around} {s : Shared} {x : V} {v : Value} (rx : RelV x v) (fx : flatV x = true) : ∀ {xs : List V} {us : List Value}, Vals xs us → xs.all flatV = true → ∀ u ∈ us, SeqAt.EqAt A s u v (eqU x u)
  | _, _, .nil, _ => fun u hu => by cases hu
  | y :: xs, u :: us, .cons r t, f => fun u' hu => by
    rw [List.all_cons, Bool.and_eq_true] at f
    rcases List.mem_cons.mp hu with rfl | hu
    · rw [eqU_of r f.1]; exact eqAt_V r rx f.1 fx
    · exact mem_eqAt rx fx t f.2 u' hu
def inV (x : V) (xs : List V) : Bool := xs.any fun y => eqV y x
def rIn (K : PySem.W.Frag) (neg : Bool) : R2 := fun x y H Q => ∃ p xs, y = .ref p ∧ (SqL K H p xs ∨ SqT K H p xs) ∧ flatV x = true ∧ xs.all flatV = true ∧ Q (.bl (if neg then !inV x xs else inV x xs)) H
theorem op_in_seq : OpR X (compareOp .In) (rIn X.K false) := by
  intro pins s σ H x y v u Q I rx ry h
  obtain ⟨p, xs, rfl, hq, fx, fs, q⟩ := h
  cases ry
  rcases hq with hq | hq
  · obtain ⟨its, r, pl, hz⟩ := I.list hq
    refine SeqAt.in_listAt (eqU x) pl.isList (fun w hw => mem_eqAt rx fx r fs w (by simpa using hw)) ⟨.bl _, H, I, rfl, ?_⟩
    rw [show its.toArray.any (eqU x) = its.any (eqU x) by simp, any_eqU r fs]
    exact q
  · obtain ⟨its, r, pl, hz⟩ := I.tuple hq
    refine SeqAt.in_tupleAt (eqU x) pl (fun w hw => mem_eqAt rx fx r fs w (by simpa using hw)) ⟨.bl _, H, I, rfl, ?_⟩
    rw [show its.toArray.any (eqU x) = its.any (eqU x) by simp, any_eqU r fs]
    exact q
theorem op_notIn_seq : OpR X (compareOp .NotIn) (rIn X.K true) := by
  intro pins s σ H x y v u Q I rx ry h
  obtain ⟨p, xs, rfl, hq, fx, fs, q⟩ := h
  cases ry
  rcases hq with hq | hq
  · obtain ⟨its, r, pl, hz⟩ := I.list hq
    refine SeqAt.notIn_listAt (eqU x) pl.isList (fun w hw => mem_eqAt rx fx r fs w (by simpa using hw)) ⟨.bl _, H, I, rfl, ?_⟩
    rw [show its.toArray.any (eqU x) = its.any (eqU x) by simp, any_eqU r fs]
    exact q
  · obtain ⟨its, r, pl, hz⟩ := I.tuple hq
    refine SeqAt.notIn_tupleAt (eqU x) pl (fun w hw => mem_eqAt rx fx r fs w (by simpa using hw)) ⟨.bl _, H, I, rfl, ?_⟩
    rw [show its.toArray.any (eqU x) = its.any (eqU x) by simp, any_eqU r fs]
    exact q
theorem call_len_seq : CallR X (.builtin "len") (fun xs H Q => ∃ p ys, xs = [.ref p] ∧ (SqL X.K H p ys ∨ SqT X.K H p ys) ∧ Q (.int ys.length) H) := by
  intro pins s σ H xs us Q I r h
  obtain ⟨p, ys, rfl, hq, q⟩ := h
  obtain ⟨u, rfl, rx⟩ := vals1 r
  cases rx
  have hn := line63
  rcases hq with hq | hq
  · obtain ⟨its, r', pl, hz⟩ := I.list hq
    have hlen := r'.length
    exact Calls.call_len_list pl.isList (by simp only [List.size_toArray] <;> omega) ⟨.int ys.length, H, I.tok _, ⟨s.toks + 1, by rw [List.size_toArray, hlen]⟩, q⟩
  · obtain ⟨its, r', pl, hz⟩ := I.tuple hq
    have hlen := r'.length
    exact len_tuple pl (by simp only [List.size_toArray] <;> omega) ⟨.int ys.length, H, I.tok _, ⟨s.toks + 1, by rw [List.size_toArray, hlen]⟩, q⟩
theorem call_len_str : CallR X (.builtin "len") (fun xs H Q => ∃ z, xs = [.str z] ∧ z.length ≤ sizeLine ∧ Q (.int z.length) H) := by
  intro pins s σ H xs us Q I r h
  obtain ⟨z, rfl, hz, q⟩ := h
  obtain ⟨u, rfl, t, rfl⟩ := vals1 r
  have hn := line63
  exact len_str (by omega) ⟨.int z.length, H, I.tok _, ⟨_, rfl⟩, q⟩
theorem call_list_of : CallR X (.type "list") (fun xs H Q => ∃ p ys, xs = [.ref p] ∧ (SqL X.K H p ys ∨ SqT X.K H p ys) ∧ ∀ l, H l = none → Q (.ref l) (upd H l (.lst ys))) := by
  intro pins s σ H xs us Q I r h
  obtain ⟨p, ys, rfl, hq, q⟩ := h
  obtain ⟨u, rfl, rx⟩ := vals1 r
  cases rx
  have fin : ∀ (its : List Value), Vals ys its → ys.length ≤ sizeLine → ∀ (h' : Heap) (c' : Nat), (∀ b o', s.heap.get? b = some o' → h'.get? b = some o') →
      h'.get? s.heap.objs.size = some { cls := .type "list", dict := none, data := .seq its.toArray c', slots := #[] } → EP X pins σ Q (.ref s.heap.objs.size) { s with heap := h' } := fun its r' hz h' c' kp e =>
    ⟨.ref s.heap.objs.size, _, I.laid (t' := s.toks) kp (Nat.le_refl _) (show ObjOk X.prog X.w _ h' _ (.lst ys) from ⟨hz, its, c', r', e⟩), rfl, q _ (I.hok.fresh (Nat.le_refl _))⟩
  rcases hq with hq | hq
  · obtain ⟨its, r', pl, hz⟩ := I.list hq
    have hlen := r'.length
    obtain ⟨o, ho, hc, n, hd⟩ := pl.isList
    exact call_list_seq p (.inl rfl) ho hc hd (fun h' c' kp e => fin its r' hz h' c' kp e) (by simp only [List.size_toArray] <;> omega)
  · obtain ⟨its, r', pl, hz⟩ := I.tuple hq
    have hlen := r'.length
    obtain ⟨o, ho, hc, n, hd⟩ := pl
    exact call_list_seq p (.inr rfl) ho hc hd (fun h' c' kp e => fin its r' hz h' c' kp e) (by simp only [List.size_toArray] <;> omega)
def tyV (K : PySem.W.Frag) (T : String) (x : V) (H : Hp) : Prop := match x with
  | .str _ => T = "str"
  | .int _ => T = "int"
  | .ref p => (T = "list" ∧ ∃ xs, SqL K H p xs) ∨ (T = "tuple" ∧ ∃ o, K.lookup p = some o ∧ o.cls = .type "tuple" ∧ o.dict = none) ∨
      (T = "dict" ∧ ((∃ kvs, H p = some (.dK kvs)) ∨ ∃ kvs, H p = some (.dT kvs))) ∨ (T = "set" ∧ ∃ S n, H p = some (.set S n))
  | _ => False
theorem tyV_is {pins : List (Addr × Obj)} {σ : St} {H : Hp} {s : Shared} {T : String} {x : V} {v : Value} (I : Inv X pins σ H s) (r : RelV x v) (ty : tyV X.K T x H) :
    s.TypeIs v T ∧ ∀ a, v = .ref a → ∃ ob, s.heap.get? a = some ob ∧ ob.dict = none := by
  cases x with
  | str z =>
    obtain ⟨t, rfl⟩ := r
    cases (show T = "str" from ty)
    exact ⟨typeIs_str s z t, fun _ e => nomatch e⟩
  | int i =>
    obtain ⟨t, rfl⟩ := r
    cases (show T = "int" from ty)
    exact ⟨typeIs_int s i t, fun _ e => nomatch e⟩
  | ref p =>
    cases r
    rcases ty with ⟨rfl, xs, hq⟩ | ⟨rfl, o, hk, hc, hd⟩ | ⟨rfl, hk⟩ | ⟨rfl, S, n, hk⟩
    · obtain ⟨its, _, pl, _⟩ := I.list hq
      refine ⟨pl.isList.typeIs, fun a e => ?_⟩
      cases e
      obtain ⟨o, n, e, c, hd, _⟩ := pl
      exact ⟨o, e, hd⟩
    · refine ⟨⟨o, I.kIn p o hk, hc⟩, fun a e => ?_⟩
      cases e
      exact ⟨o, I.kIn _ o hk, hd⟩
    · have z : ∃ o, s.heap.get? p = some o ∧ o.ExactDict := by
        rcases hk with ⟨kvs, hk⟩ | ⟨kvs, hk⟩
        · obtain ⟨_, _, _, _, o, _, _, e, ex, _⟩ := I.hok p _ hk
          exact ⟨o, e, ex⟩
        · obtain ⟨_, _, _, _, o, _, _, e, ex, _⟩ := I.hok p _ hk
          exact ⟨o, e, ex⟩
      obtain ⟨o, e, ex⟩ := z
      refine ⟨⟨o, e, ex.1⟩, fun a e2 => ?_⟩
      cases e2
      exact ⟨o, e, ex.2.1⟩
    · obtain ⟨o, _, _, _, e, ex, _⟩ := I.hok p _ hk
      refine ⟨⟨o, e, ex.1⟩, fun a e2 => ?_⟩
      cases e2
      exact ⟨o, e, ex.2.1⟩
  | _ => exact False.elim ty
def tBM0 (K : PySem.W.Frag) (T : String) (r : V → List V → Hp → VK → Prop) (to : TE) : TE := fun σ H Q => to σ H fun x H1 => tyV K T x H1 ∧ r x [] H1 Q
def tBM (K : PySem.W.Frag) (T : String) (r : V → List V → Hp → VK → Prop) (to : TE) (t : TA) : TE := fun σ H Q => to σ H fun x H1 => tyV K T x H1 ∧ t σ H1 fun xs H2 => r x xs H2 Q
variable {o e : Expr} {es : List Expr} {to : TE} {t : TA} {name : Str} {apos cpos : Pos} {T id : String} {r : V → List V → Hp → VK → Prop}
theorem pe_bm (pa : PlainAttrs T) (slot : Slot T name id) (hty : typeOf (.builtin id) = pure (.type "method_descriptor")) (hm : MtR X id r) (ho : PE X o to) (ha : PA X (e :: es) t)
    (hbase : attributeBase o name X.env (eval o X.env) = eval o X.env := by rfl)
    (hfew : ((backTo cpos (starEach (e :: es) X.env)).all (fun x => !x.1) && (backToKw cpos (keywordEach [] X.env)).all (fun x => x.1.isSome)
      && decide ((e :: es).length + ([] : List Keyword).length + (if ([] : List Keyword).isEmpty then 0 else 1) < 30)) = true := by rfl)
    (hline : (apos.endLine == cpos.line) = true := by rfl) (hs : starEach (e :: es) X.env = (false, eval e X.env) :: starEach es X.env := by rfl) (hplain : (backTo cpos (starEach es X.env)).any (·.1) = false := by rfl) :
    PE X (.Call (.Attribute o name apos) (e :: es) [] cpos) (tBM X.K T r to t) := by
  intro pins s σ H Q I h
  refine wpAny_Call_method_late hbase hfew hline rfl (thn (ho pins s σ H _ I h) fun v s1 ⟨x, H1, I1, r1, ty, q1⟩ => ?_)
  obtain ⟨h1, h2⟩ := tyV_is I1 r1 ty
  refine ⟨T, id, pa, slot, hty, h1, h2, ?_⟩
  have hA := ha cpos pins s1 σ H1 _ I1 q1
  rw [hs] at hA ⊢
  refine Calls.callWith_builtin (by show (false || (backTo cpos (starEach es X.env)).any (·.1)) = false; rw [hplain] <;> rfl) (Calls.evalArgs_plain ?_)
  exact thn hA fun us s2 ⟨vs, H2, I2, r2, q2⟩ => hm pins s2 σ H2 x vs v us Q I2 r1 r2 q2
end
open PySem PySem.Spec PyProof.Rows
def MtM (X : Cx) (id : String) (r : V → List V → Hp → VK → Prop) : Prop :=
  ∀ (pins : List (Addr × Obj)) (s : Shared) (σ : St) (H : Hp) (x : V) (xs : List V) (v : Value) (us : List Value) (Q : VK), Inv X pins σ H s → RelV x v → Vals xs us → r x xs H Q →
    wpAny (model X.prog X.w) X.A (call (.builtin id) (v :: us)) (EP X pins σ Q) X.xe s
theorem Vals.one : ∀ {x : V} {us : List Value}, Vals [x] us → ∃ u, us = [u] ∧ RelV x u
  | _, _, .cons r .nil => ⟨_, rfl, r⟩
theorem Vals.two : ∀ {x y : V} {us : List Value}, Vals [x, y] us → ∃ u v, us = [u, v] ∧ RelV x u ∧ RelV y v
  | _, _, _, .cons r (.cons q .nil) => ⟨_, _, rfl, r, q⟩
theorem Vals.rep {xs : List V} {us : List Value} (h : Vals xs us) : ∀ k : Nat, Vals (List.replicate k xs).flatten (List.replicate k us).flatten
  | 0 => .nil
  | k + 1 => by
    rw [List.replicate_succ, List.replicate_succ, List.flatten_cons, List.flatten_cons]
    exact Vals.append h (Vals.rep h k)
theorem foldl_rep (its : List Value) : ∀ (k : Nat) (acc : List Value),
    List.foldl (fun x1 x2 => x1 ++ x2) acc.toArray (List.replicate k its.toArray) = (acc ++ (List.replicate k its).flatten).toArray
  | 0, acc => by simp
  | k + 1, acc => by
    have e : acc.toArray ++ its.toArray = (acc ++ its).toArray := by simp
    have e2 : (acc ++ its) ++ (List.replicate k its).flatten = acc ++ (List.replicate (k + 1) its).flatten := by
      rw [List.replicate_succ, List.flatten_cons, List.append_assoc]
    rw [← e2, ← foldl_rep its k (acc ++ its), ← e, List.replicate_succ, List.foldl_cons]
section
variable {X : Cx} {pins : List (Addr × Obj)} {σ : St} {H : Hp} {s : Shared} {l b : Addr} {xs ys zs : List V}
theorem Inv.lset {its its' : List Value} {n : Nat} {f : Array Value → Array Value} {t' : Nat} (I : Inv X pins σ H s) (hH : H l = some (.lst xs))
    (e : s.heap.get? l = some { cls := .type "list", data := .seq its.toArray n }) (hf : f its.toArray = its'.toArray) (hv : Vals ys its') (hz : ys.length ≤ sizeLine) :
    Inv X pins σ (upd H l (.lst ys)) { s with heap := s.heap.update l (Obj.mapSeq f), toks := t' } := by
  have q := PySem.IsL.update e f
  rw [hf] at q
  refine I.write (x := l) (e := l) (by rw [hH]; exact trivial) (.inl rfl) (fun b' u hb hu => (Heap.get?_update_other s.heap (Obj.mapSeq f) (Ne.symm hb)).trans hu) ⟨_, q⟩ ?_
  exact ⟨hz, its', _, hv, q⟩
theorem Inv.lnew {its : List Value} {t' : Nat} (I : Inv X pins σ H s) (hv : Vals ys its) (hz : ys.length ≤ sizeLine) :
    Inv X pins σ (upd H s.heap.objs.size (.lst ys)) { s with heap := s.heap.push { cls := .type "list", data := .seq its.toArray }, toks := t' } :=
  I.laid (fun _ _ q => Heap.get?_push_of_some _ q) (Nat.le_refl _) ⟨hz, its, 0, hv, Heap.get?_push_size _ rfl⟩
theorem Inv.fresh (I : Inv X pins σ H s) : H s.heap.objs.size = none := I.hok.fresh (Nat.le_refl _)
theorem Inv.lstM (I : Inv X pins σ H s) (hH : H l = some (.lst xs)) : xs.length ≤ sizeLine ∧ ∃ (its : List Value) (n : Nat), Vals xs its ∧ xs.length = its.length ∧ s.heap.get? l = some { cls := .type "list", data := .seq its.toArray n } := by
  obtain ⟨z, its, n, r, e⟩ := I.hok l _ hH
  exact ⟨z, its, n, r, r.length, e⟩
theorem notLongL {n : Nat} (h : n ≤ sizeLine) : Builtin.List.listTooLong n = false := by
  unfold Builtin.List.listTooLong
  exact decide_eq_false (by omega)
end
section
variable {X : Cx}
def rAppend : V → List V → Hp → VK → Prop := fun x vs H Q => ∃ l xs y, x = .ref l ∧ vs = [y] ∧ H l = some (.lst xs) ∧ xs.length < sizeLine ∧ Q .non (upd H l (.lst (xs ++ [y])))
theorem mt_append : MtM X "list.append" rAppend := by
  intro pins s σ H x vs v us Q I rx rv h
  obtain ⟨l, xs, y, rfl, rfl, hH, hz, q⟩ := h
  cases rx
  obtain ⟨u, rfl, ru⟩ := rv.one
  obtain ⟨z, its, n, r, hl, e⟩ := I.lstM hH
  refine call_meets F.slot_list_append ⟨_, e, rfl⟩ F.entry_list_append (F.args_list_append_2 _ _) (PySem.list_append l its.toArray n u (by rw [List.size_toArray]; omega)) ⟨e, ?_⟩
  refine ⟨.non, _, I.lset (its' := its ++ [u]) hH e (by simp) (r.append (.cons ru .nil)) ?_, rfl, q⟩
  rw [List.length_append, List.length_singleton]
  omega
def rExtend : V → List V → Hp → VK → Prop := fun x vs H Q => ∃ l b xs zs, x = .ref l ∧ vs = [.ref b] ∧ H l = some (.lst xs) ∧ H b = some (.lst zs) ∧ xs.length + zs.length ≤ sizeLine ∧ Q .non (upd H l (.lst (xs ++ zs)))
theorem mt_extend : MtM X "list.extend" rExtend := by
  intro pins s σ H x vs v us Q I rx rv h
  obtain ⟨l, b, xs, zs, rfl, rfl, hH, hB, hz, q⟩ := h
  cases rx
  obtain ⟨u, rfl, ru⟩ := rv.one
  cases ru
  obtain ⟨z, its, n, r, hl, e⟩ := I.lstM hH
  obtain ⟨z2, its2, n2, r2, hl2, e2⟩ := I.lstM hB
  have hsz : its.toArray.size + its2.toArray.size ≤ sizeLine := by rw [List.size_toArray, List.size_toArray]; omega
  have hlong : ¬ (!its.toArray.isEmpty && Builtin.List.listTooLong (its.toArray.size + its2.toArray.size)) = true := by
    rw [notLongL hsz, Bool.and_false]
    exact Bool.false_ne_true
  refine call_meets F.slot_list_extend ⟨_, e, rfl⟩ F.entry_list_extend (F.args_list_extend_2 _ _)
    (AutoSeq1.list_extend_list_list_0 l its.toArray n b its2.toArray n2 hlong (by rw [List.size_toArray]; omega) (by omega)) ⟨e, e2, ?_⟩
  refine ⟨.non, _, I.lset (its' := its ++ its2) hH e (by simp) (r.append r2) ?_, rfl, q⟩
  rw [List.length_append]
  omega
def rPop : V → List V → Hp → VK → Prop := fun x vs H Q => ∃ l xs y, x = .ref l ∧ vs = [] ∧ H l = some (.lst xs) ∧ xs[xs.length - 1]? = some y ∧ Q y (upd H l (.lst xs.dropLast))
def rPopAt : V → List V → Hp → VK → Prop := fun x vs H Q => ∃ l xs i k y, x = .ref l ∧ vs = [.int i] ∧ H l = some (.lst xs) ∧ -(2 ^ 63) ≤ i ∧ i < 2 ^ 63 ∧ seqIndex? i xs.length = some k ∧ xs[k]? = some y ∧ Q y (upd H l (.lst (xs.eraseIdx k)))
def rReverse : V → List V → Hp → VK → Prop := fun x vs H Q => ∃ l xs, x = .ref l ∧ vs = [] ∧ H l = some (.lst xs) ∧ Q .non (upd H l (.lst xs.reverse))
def rClear : V → List V → Hp → VK → Prop := fun x vs H Q => ∃ l xs, x = .ref l ∧ vs = [] ∧ H l = some (.lst xs) ∧ Q .non (upd H l (.lst []))
def rCat : R2 := fun x y H Q => ∃ l b xs zs, x = .ref l ∧ y = .ref b ∧ H l = some (.lst xs) ∧ H b = some (.lst zs) ∧ xs.length + zs.length ≤ sizeLine ∧ ∀ p, H p = none → Q (.ref p) (upd H p (.lst (xs ++ zs)))
theorem op_cat : OpR X (binaryOp .Add) rCat := by
  intro pins s σ H x y v u Q I rx ry h
  obtain ⟨l, b, xs, zs, rfl, rfl, hH, hB, hz, q⟩ := h
  cases rx
  cases ry
  obtain ⟨z, its, n, r, hl, e⟩ := I.lstM hH
  obtain ⟨z2, its2, n2, r2, hl2, e2⟩ := I.lstM hB
  refine PySem.P.add_list e e2 ?_ (by rw [List.size_toArray, List.size_toArray]; omega)
  have ea : its.toArray ++ its2.toArray = (its ++ its2).toArray := by simp
  rw [ea]
  exact ⟨.ref _, _, I.lnew (t' := s.toks) (r.append r2) (by rw [List.length_append]; omega), rfl, q _ I.fresh⟩
def rRep : R2 := fun x y H Q => ∃ l k xs, x = .ref l ∧ y = .int k ∧ H l = some (.lst xs) ∧ -(2 ^ 63) ≤ k ∧ k < 2 ^ 63 ∧ xs.length * k.toNat ≤ sizeLine ∧
  ∀ p, H p = none → Q (.ref p) (upd H p (.lst (List.replicate k.toNat xs).flatten))
theorem len_rep {α : Type} (xs : List α) (k : Nat) : (List.replicate k xs).flatten.length = k * xs.length := by
  induction k with
  | zero => simp
  | succ k ih => rw [List.replicate_succ, List.flatten_cons, List.length_append, ih, Nat.succ_mul, Nat.add_comm]
theorem op_rep : OpR X (binaryOp .Mult) rRep := by
  intro pins s σ H x y v u Q I rx ry h
  obtain ⟨l, k, xs, rfl, rfl, hH, h1, h2, hz, q⟩ := h
  cases rx
  obtain ⟨t, rfl⟩ := ry
  obtain ⟨z, its, n, r, hl, e⟩ := I.lstM hH
  have hlen : its.toArray.size * k.toNat ≤ sizeLine := by rw [List.size_toArray, ← hl]; exact hz
  have hcap : ¬ its.toArray.size * k.toNat > (2 ^ 63 - 1) / 8 := by
    have : (sizeLine : Nat) ≤ (2 ^ 63 - 1) / 8 := by decide
    omega
  have hfit : ¬ (!Builtin.List.listFitsIndex k) = true := by
    rw [fitsIndex_both h1 h2]
    exact Bool.false_ne_true
  have hlong : ¬ Builtin.List.listTooLong (its.toArray.size * k.toNat) = true := by
    rw [notLongL hlen]
    exact Bool.false_ne_true
  have hnew : List.foldl (fun x1 x2 => x1 ++ x2) #[] (List.replicate (if its.toArray.isEmpty = true then 0 else k.toNat) its.toArray) = (List.replicate k.toNat its).flatten.toArray := by
    have f0 : ∀ m : Nat, List.foldl (fun x1 x2 => x1 ++ x2) #[] (List.replicate m its.toArray) = (List.replicate m its).flatten.toArray := fun m => by
      have := foldl_rep its m []
      rw [List.nil_append] at this
      exact this
    rw [f0]
    cases its with
    | nil => simp
    | cons a r' => rw [if_neg (by simp)]
  refine wpAny_binaryOp_repeat_ref (T := "list") (U := "int") (by decide) ⟨_, e, rfl⟩ (fun s' => typeIs_int s' k t) noFill_list_mul F.fills_int_mul F.slot_int_rmul repeat_list F.slot_int_index.lookup
    (call_meets F.slot_int_rmul (typeIs_int s k t) F.entry_int_rmul (F.args_int_rmul_2 _ _) (int___rmul___int_list k t l its.toArray n)
      ⟨e, rfl, ⟨_, e, rfl⟩, call_meets F.slot_list_mul ⟨_, e, rfl⟩ F.entry_list_mul (F.args_list_mul_2 _ _) (AutoListH.list___mul___list_int_3 l its.toArray n k t hfit hcap hlong) ⟨e, ?_⟩⟩)
  rw [hnew]
  exact ⟨.ref _, _, I.lnew (t' := s.toks) (r.rep k.toNat) (by rw [len_rep, Nat.mul_comm]; exact hz), rfl, q _ I.fresh⟩
end
section
variable {prog : Program} {w : World} {A : Around} {E : Value → Shared → Prop} {s : Shared}
end
section
variable {X : Cx}
end
end L2
namespace Att
open PySem PySem.W PySem.Calls PyProof.Rows
theorem ints_of_wellAll {P : Params} {h : Heap} : ∀ (ns : List Int) (vs : List Value), WellAll P h vs (ns.map WData.int) → IntsAre vs ns := by
  intro ns
  induction ns with
  | nil =>
    intro vs w
    rw [List.map_nil] at w
    cases w
    exact .nil
  | cons n ns ih =>
    intro vs w
    rw [List.map_cons] at w
    cases w with
    | cons a b =>
      cases a
      exact .cons _ _ (ih _ b)
theorem script_of {l : OpenLaw} {n : Nat} (hn : l.most = some n) {P : Params} {h : Heap} {args : List WData} {vals : List Value}
    (hpre : l.row.toRowW.claim.pre args = true) (hwl : WellAll P h vals args) :
    ∃ a vs ns, vals = [Value.ref a] ∧ args = [WData.list (ns.map WData.int)] ∧ h.get? a = some { cls := .type "list", data := .seq vs.toArray } ∧ IntsAre vs ns ∧ ns.length ≤ n := by
  have hsh : WShape.hasAll [] args [.list .int] = true := (pre_splitW hpre).1
  have hc : l.pre.holds [] { args := args } = true := (pre_splitW hpre).2
  obtain ⟨d, r, rfl, h1, h2⟩ := hasAllW_cons hsh
  obtain rfl := hasAllW_nil h2
  obtain ⟨xs, rfl, h3⟩ := hasW_list h1
  obtain ⟨ns, rfl⟩ := items_int h3
  have hlen : ns.length ≤ n := by
    unfold OpenLaw.pre at hc
    have h4 : (WTm.not (.lt (.lit (.int (n : Int))) (.len (.arg 0)))).holds [] { args := [.list (ns.map .int)] } = true := by
      have h4 := (holds_andW hc).1
      rw [hn] at h4
      exact h4
    have h5 := condW_of h4 (w_not (w_lt w_lit (w_len_list (w_arg rfl))))
    rw [List.length_map] at h5
    refine Nat.le_of_not_lt fun q => ?_
    have q' : (n : Int) < ((ns.length : Nat) : Int) := by omega
    first
      | (rw [decide_eq_true q'] at h5; exact absurd h5 (by decide))
      | (simp at h5; omega)
  cases hwl with
  | cons w1 w2 =>
    cases w2
    cases w1 with
    | list ho hall => exact ⟨_, _, ns, rfl, rfl, ho, ints_of_wellAll ns _ hall, hlen⟩
theorem post_true (l : OpenLaw) (args : List WData) : l.row.toRowW.claim.post args (.bool true) args = true :=
  postW_of (r := l.row.toRowW) (X := (true == true))
    (show WShape.has [] (.bool true) .bool = true by first | rfl | decide | simp [WShape.has, WShape.arms, WShape.armsAll])
    (show (WTm.eq .res (.lit (.bool true))).value [] { args := args, res := some (.bool true), after := args } = some (.bool (true == true)) from w_eq_bool (w_res rfl) w_lit) rfl
theorem attach_call {l : OpenLaw} {n : Nat} {q : Program} {loose : List Str} {XP : (Str → Option Value) → Heap → Prop} {YP : World → Heap → Prop} {d : DefRec}
    (hn : l.most = some n) (hdf : d.params.defaults = [])
    (call : ∀ (w : World) (s₀ s₁ : Shared) (mg mb : Str → Option Value) (fa : Addr) (o : Obj) (pm cd doc : Value) (a : Addr) (vs : List Value) (ns : List Int),
      Ground q loose [] XP w s₀ mg mb s₁.heap → YP w s₁.heap →
      s₁.heap.get? fa = some o → o.data = .func (docDef d.name d.params d.body d.scope pm cd doc) → s₁.heap.CodeRec cd d.name → mg d.name = some (.ref fa) →
      s₁.heap.get? a = some { cls := .type "list", data := .seq vs.toArray } → IntsAre vs ns → ns.length ≤ n → s₁.gens = #[] →
      codeAny (model l.prog w) callerA (.call (.ref fa) ⟨[.ref a], []⟩) (fun r s' => r = .ok (.ret (.bool true)) ∧ OldK s₁.heap s'.heap ∧ s'.os = s₁.os ∧ AllBare s'.gens) s₁) :
    WalkO q loose XP YP l.row.toRowW d [] (fun f vs => PySem.call f vs) := by
  intro w s₀ s₁ mg mb G Y fa o pm cd doc dV kV ho hd hcd hD hmg hg args vals as hpre hlay hrd hwl hlo
  obtain rfl : dV = .none := Dflts.none hD hdf
  obtain rfl : kV = .none := Dflts.noKw hD
  obtain ⟨a, vs, ns, rfl, rfl, hobj, hints, hlen⟩ := script_of hn hpre hwl
  refine enter_call (codeAny_mono (call w s₀ s₁ mg mb fa o pm cd doc a vs ns G Y ho (fd_plain hd) hcd hmg hobj hints hlen hg) fun r s' hq => ?_)
  obtain ⟨rfl, h2, h3, h4⟩ := hq
  exact ⟨.inl ⟨.bool true, .bool true, [], rfl, fun _ => rfl, .bool true, post_true l _, fun _ => ⟨List.Pairwise.nil, fun _ hm => (nomatch hm)⟩⟩, h2, h3, h4⟩
section
variable {prog : Program} {w : World} {A : Around} {E : Value → Shared → Prop} {s : Shared} {K : Frag}
def noObjs (h : Heap) : Heap := { h with objs := #[] }
def ledger (h : Heap) (L d : Addr) : List (Addr × Obj) := (List.range h.objs.size).filterMap fun a => if a = L ∨ a = d then none else (h.get? a).map fun o => (a, o)
end
end Att
namespace L2
open PySem PySem.Spec PyProof.Rows
theorem vals_ints : ∀ {vs : List Value} {ns : List Int}, IntsAre vs ns → Vals (ns.map V.int) vs
  | _, _, .nil => .nil
  | _, _, .cons n t h => .cons ⟨t, rfl⟩ (vals_ints h)
def Only (H : Hp) : Prop := ∀ b, H b = none ∨ ∃ o xs, H b = some (.frz o (.lst xs))
theorem law_call {P : Program} {w : World} {K : PySem.W.Frag} {mg mb : Str → Option Value} {CX : CXT} {k : Nat} {fa a : Addr} {fd : FuncData} {x : Str} {sp : Sp} {s₁ : Shared} {vs : List Value} {ns : List Int}
    (KX : K.In s₁.heap) (hns : s₁.heap.Ns mainGlobals mg) (hb : s₁.heap.Ns builtinsNs mb) (hbb : ∀ x : Str, x ≠ "__name__" → mb x = bootBuiltins x) (hlim : s₁.heap.NoLimit) (hg : s₁.gens = #[])
    (ha : s₁.heap.get? a = some { cls := .type "list", data := .seq vs.toArray }) (hi : IntsAre vs ns) (hl : ns.length ≤ sizeLine) (hr : Room k callerA)
    (F : ∀ base : Heap, K.In base → base.Ns mainGlobals mg → FnOk P w K mg base CX k fa fd [x] sp) (hbind : ∀ (s : Shared) (u : Value), BindsTo s fd ⟨[u], []⟩ [(x, u)])
    (hsp : ∀ H : Hp, Only H → SqL K H a (ns.map V.int) → sp [.ref a] H (fun v _ => v = .bl true) fun _ _ _ => False)
    (hCX : ∀ H e s', CX [] H s₁ (fun _ _ _ => False) e s' → False) :
    codeAny (model P w) callerA (.call (.ref fa) ⟨[.ref a], []⟩) (fun r s' => r = .ok (.ret (.bool true)) ∧ OldK s₁.heap s'.heap ∧ s'.os = s₁.os ∧ AllBare s'.gens) s₁ := by
  have rv := vals_ints hi
  have lenV := hi.length
  have core : ∀ H : Hp, Only H → SqL K H a (ns.map V.int) → HOk P w H s₁.heap → (∀ b, H b ≠ none → b = a) → (H a ≠ none → K.lookup a = none) →
      codeAny (model P w) callerA (.call (.ref fa) ⟨[.ref a], []⟩) (fun r s' => r = .ok (.ret (.bool true)) ∧ OldK s₁.heap s'.heap ∧ s'.os = s₁.os ∧ AllBare s'.gens) s₁ := by
    intro H hO hS hok hA hK
    have base_of : ∀ {b : Addr} {o : Obj}, s₁.heap.get? b = some o → H b = none → (hidT s₁.heap H).get? b = some o := fun e n => hidT_get e n
    have noA : ∀ {b : Addr} {o : Obj} {es : Array DictEntry} {ep : Nat}, s₁.heap.get? b = some o → o.data = .dict es ep → H b = none := fun {b o es ep} e d => by
      cases q : H b with
      | none => rfl
      | some u =>
        have e' : b = a := hA b (by rw [q]; simp)
        subst e'
        rw [ha] at e; cases e
        have d' : Data.seq vs.toArray _ = Data.dict es ep := d
        cases d'
    have nsK : ∀ {b : Addr} {m : Str → Option Value}, s₁.heap.Ns b m → (hidT s₁.heap H).Ns b m := fun {b m} ⟨o, es, ep, e, d, r⟩ => ⟨o, es, ep, base_of e (noA e d), d, r⟩
    have hKb : K.In (hidT s₁.heap H) := fun b o e => base_of (KX b o e) (by
      cases q : H b with
      | none => rfl
      | some u =>
        have e' : b = a := hA b (by rw [q]; simp)
        subst e'
        rw [hK (by rw [q]; simp)] at e; cases e)
    have hM : Mod K mg (hidT s₁.heap H) := ⟨hKb, nsK hns, ⟨mb, nsK hb, hbb⟩, let ⟨mc, h1, h2⟩ := hlim; ⟨mc, nsK h1, h2⟩⟩
    have e0 : Env0 P w K mg (hidT s₁.heap H) callerA [] s₁ H := ⟨rfl, hM, fun b o e => of_hidT e, Nat.le_of_eq (hidT_size _ _), trivial, fun b hb => absurd (show b ∈ ([] : List Addr) from hb) (by simp), hok, .of_eq hg⟩
    refine codeAny_mono ((F _ hKb (nsK hns)).run callerA [] s₁ H ⟨[.ref a], []⟩ [.ref a] [.ref a] _ _ hr e0 (hbind s₁ (.ref a)) (.cons rfl .nil) (hsp H hO hS)) fun r s' h => ?_
    cases r with
    | error e => exact (hCX H e s' h).elim
    | ok fl =>
      cases fl with
      | next => exact False.elim h
      | brk => exact False.elim h
      | cont => exact False.elim h
      | ret u =>
        obtain ⟨v, H', os, bare, un, hok', r', q⟩ := h
        have q' : v = .bl true := q
        subst q'
        obtain rfl : u = Value.bool true := r'
        refine ⟨rfl, OldK.of_keep fun b o e => ?_, os, bare⟩
        cases q : H b with
        | none => exact un.keep b o e q (by intro z; exact absurd (show b ∈ ([] : List Addr) from z) (by simp)) (by simp)
        | some u =>
          rcases hO b with z | ⟨ob, xs, z⟩
          · rw [q] at z; cases z
          · have z2 := un.frzs b ob _ z
            obtain ⟨e1, _⟩ := hok b _ z
            obtain ⟨e2, _⟩ := hok' b _ z2
            rw [e] at e1; cases e1
            exact e2
  cases hk : K.lookup a with
  | some o =>
    have e := KX a o hk
    rw [ha] at e
    cases e
    refine core (fun _ => none) (fun _ => .inl rfl) (.inr ⟨_, vs.toArray, _, hk, rfl, rfl, rfl, by rw [List.size_toArray, lenV]; exact hl, by simpa using rv⟩) (fun b u z => by have z' : (none : Option HO) = some u := z; cases z') (fun b z => absurd rfl z) fun z => absurd rfl z
  | none =>
    refine core (fun b => if b = a then some (.frz { cls := .type "list", data := .seq vs.toArray } (.lst (ns.map V.int))) else none) (fun b => ?_) (.inl (.inr ⟨{ cls := .type "list", data := .seq vs.toArray }, if_pos rfl⟩)) (fun b u z => ?_) (fun b z => ?_) fun _ => hk
    · by_cases hb : b = a
      · exact .inr ⟨_, _, if_pos hb⟩
      · exact .inl (if_neg hb)
    · by_cases hb : b = a
      · have z' := (if_pos hb).symm.trans z
        cases z'
        subst hb
        exact ⟨ha, by rw [List.length_map]; exact hl, vs, _, rv, ha⟩
      · have z' := (if_neg hb).symm.trans z
        cases z'
    · by_cases hb : b = a
      · exact hb
      · exact absurd (if_neg hb) z
open PySem PySem.Spec PyProof.Rows
abbrev KOf {K : PySem.W.Frag} {h : Heap} (_ : K.In h) : PySem.W.Frag := K
theorem walk_of {l : PySem.W.OpenLaw} {n k : Nat} {q : Program} {loose : List Str} {XP : (Str → Option Value) → Heap → Prop} {YP : World → Heap → Prop} {d : DefRec} {K : Params → PySem.W.Frag} {CX : World → CXT} {sp : World → Sp} {x : Str}
    (hn : l.most = some n) (hn2 : n ≤ sizeLine) (hdf : d.params.defaults = []) (hr : Room k callerA)
    (hY : ∀ (w : World) (h : Heap), YP w h → (K w.params).In h)
    (F : ∀ (w : World) (mg : Str → Option Value) (fa : Addr) (h : Heap), (K w.params).In h → h.Ns mainGlobals mg → mg d.name = some (.ref fa) →
      ∃ fd : FuncData, (∀ (s : Shared) (u : Value), BindsTo s fd ⟨[u], []⟩ [(x, u)]) ∧
        ∀ base : Heap, (K w.params).In base → base.Ns mainGlobals mg → FnOk l.prog w (K w.params) mg base (CX w) k fa fd [x] (sp w))
    (hsp : ∀ (w : World) (H : Hp) (a : Addr) (ns : List Int), ns.length ≤ n → Only H → SqL (K w.params) H a (ns.map V.int) → sp w [.ref a] H (fun v _ => v = .bl true) fun _ _ _ => False)
    (hCX : ∀ (w : World) (H : Hp) (s : Shared) (e : Value) (s' : Shared), CX w [] H s (fun _ _ _ => False) e s' → False) :
    PySem.W.WalkO q loose XP YP l.row.toRowW d [] (fun f vs => PySem.call f vs) := by
  refine Att.attach_call hn hdf fun w s₀ s₁ mg mb fa o pm cd doc a vs ns G Y ho hd hcd hmg hobj hints hlen hg => ?_
  have KX := hY w _ Y
  obtain ⟨fd, hb, hF⟩ := F w mg fa _ KX G.T.g hmg
  exact law_call KX G.T.g G.T.b G.T.builtins G.T.nolimit hg hobj hints (Nat.le_trans hlen hn2) hr hF hb (fun H hO hS => hsp w H a ns hlen hO hS) fun H e s' => hCX w H s₁ e s'
theorem walk_ofK {l : PySem.W.OpenLaw} {n k : Nat} {q : Program} {loose : List Str} {XP : (Str → Option Value) → Heap → Prop} {YP : World → Heap → Prop} {d : DefRec} {K : Params → PySem.W.Frag} {CX : CXT} {sp : PySem.W.Frag → Sp} {x : Str}
    (hn : l.most = some n) (hn2 : n ≤ sizeLine) (hdf : d.params.defaults = []) (hr : Room k callerA)
    (hY : ∀ (w : World) (h : Heap), YP w h → (K w.params).In h)
    (F : ∀ (w : World) (mg : Str → Option Value) (fa : Addr) (h : Heap), (K w.params).In h → h.Ns mainGlobals mg → mg d.name = some (.ref fa) →
      ∃ fd : FuncData, (∀ (s : Shared) (u : Value), BindsTo s fd ⟨[u], []⟩ [(x, u)]) ∧
        ∀ base : Heap, (K w.params).In base → base.Ns mainGlobals mg → FnOk l.prog w (K w.params) mg base CX k fa fd [x] (sp (K w.params)))
    (hsp : ∀ (K : PySem.W.Frag) (H : Hp) (a : Addr) (ns : List Int), ns.length ≤ n → Only H → SqL K H a (ns.map V.int) → sp K [.ref a] H (fun v _ => v = .bl true) fun _ _ _ => False)
    (hCX : ∀ (H : Hp) (s : Shared) (e : Value) (s' : Shared), CX [] H s (fun _ _ _ => False) e s' → False) :
    PySem.W.WalkO q loose XP YP l.row.toRowW d [] (fun f vs => PySem.call f vs) :=
  walk_of (K := K) (CX := fun _ => CX) (sp := fun w => sp (K w.params)) hn hn2 hdf hr hY F (fun w H a ns h1 h2 h3 => hsp (K w.params) H a ns h1 h2 h3) fun _ H s e s' => hCX H s e s'
open PySem PySem.Spec PyProof.Rows
def inClass (s : Stmt) (j : Nat) : Stmt := match s with
  | .ClassDef _ _ _ body _ _ _ _ _ _ _ => body.getD j (.Pass ⟨0, 0, 0, 0⟩)
  | _ => .Pass ⟨0, 0, 0, 0⟩
def defArgs (s : Stmt) : Arguments := match s with
  | .FunctionDef _ a _ _ _ _ _ _ _ _ => a
  | _ => { posonlyargs := [], args := [], vararg := none, kwonlyargs := [], kw_defaults := [], kwarg := none, defaults := [] }
def defBody (s : Stmt) : List Stmt := match s with
  | .FunctionDef _ _ b _ _ _ _ _ _ _ => b
  | _ => []
def defScope (s : Stmt) : Scope := match s with
  | .FunctionDef _ _ _ _ _ _ sc _ _ _ => sc
  | _ => { kind := .function, names := [], isGenerator := false, isCoroutine := false }
abbrev CX0 : CXT := fun _ _ _ _ _ _ => False
abbrev E0 : XK := fun _ _ _ => False
theorem pass0 {X : Cx} : Passes CX0 X E0 := fun _ _ _ _ _ _ _ h => h.elim
structure Fun (K : PySem.W.Frag) (x qual : Str) (st : Stmt) (f : Addr) (fd : FuncData) : Prop where
  ex : ∃ (oc : Value) (od : Option Addr) (kV doc pm : Value) (an : Option Addr) (cdv ct : Value) (osl : Array (Option Value)),
    fd = PySem.W.fnOf x qual (defArgs st) (defBody st) (defScope st) .none kV doc pm an cdv ct ∧ K.lookup f = some ⟨oc, od, .func fd, osl⟩ ∧ PySem.W.codeIn K cdv qual = true
  kp : PySem.W.keepIn K (.ref f) = true
section
variable {P : Program} {w : World} {K : PySem.W.Frag} {mg : Str → Option Value} {base : Heap}
theorem Fun.ok {x qual : Str} {st : Stmt} {f : Addr} {fd : FuncData} {N ps : List Str} {k : Nat} {sp : Sp} (F : Fun K x qual st f fd) (S : FnScope N ps (defScope st)) (len : ∀ vs H Q E, sp vs H Q E → vs.length = ps.length)
    (hbody : ∀ (cdv : Value) (A : Around) (outer : List Env) (s : Shared) (H : Hp) (vs : List V) (Q : VK) (E : XK), Room k (A.deeper (envOfC qual (defScope st) s.heap.objs.size f cdv)) → sp vs H Q E →
      ∃ t, PSs (cxOf CX0 P w K mg base N qual (defScope st) f cdv A outer s H E).nox (defBody st) t ∧ t { nx := fun _ H' => Q .non H', rt := Q } (start N vs) H) : FnOk P w K mg base CX0 (k + 1) f fd ps sp := by
  obtain ⟨oc, od, kV, doc, pm, an, cdv, ct, osl, rfl, lk, hcd⟩ := F.ex
  refine fn_of lk hcd S len fun A outer s H vs Q E hr hsp => ?_
  obtain ⟨t, h, q⟩ := hbody cdv A outer s H vs Q E hr hsp
  exact ⟨t, h.nox, q⟩
theorem Fun.binds {x qual : Str} {st : Stmt} {f : Addr} {fd : FuncData} {ps : List Str} (F : Fun K x qual st f fd)
    (h : ∀ (kV doc pm : Value) (an : Option Addr) (cdv ct : Value) (us : List Value), us.length = ps.length → bindArgs (PySem.W.fnOf x qual (defArgs st) (defBody st) (defScope st) .none kV doc pm an cdv ct) ⟨us, []⟩ = pure (ps.zip us)) : Binds K fd ps [] := by
  obtain ⟨oc, od, kV, doc, pm, an, cdv, ct, osl, rfl, lk, hcd⟩ := F.ex
  exact .all (h kV doc pm an cdv ct)
theorem fun_mk {x qual : Str} {st : Stmt} {f : Addr} {oc : Value} {od an : Option Addr} {osl : Array (Option Value)} {kV doc pm cdv ct : Value} (l : K.lookup f = some ⟨oc, od, .func (PySem.W.fnOf x qual (defArgs st) (defBody st) (defScope st) .none kV doc pm an cdv ct), osl⟩)
    (c : PySem.W.codeIn K cdv qual = true) (k : PySem.W.keepIn K (.ref f) = true) : Fun K x qual st f (PySem.W.fnOf x qual (defArgs st) (defBody st) (defScope st) .none kV doc pm an cdv ct) := ⟨⟨oc, od, kV, doc, pm, an, cdv, ct, osl, rfl, l, c⟩, k⟩
end
theorem small1000 {n : Nat} (h : n ≤ 1000) : n < sizeLine := Nat.lt_of_le_of_lt h (by decide)
section
variable {X : Cx}
theorem pv (i : Nat) {x : Str} {pos : Pos} (hN : X.N[i]? = some x := by rfl) (hv : Vis X.env.scope x := by first | exact Or.inl rfl | exact Or.inr (Or.inl rfl) | exact Or.inr (Or.inr rfl)) (hd : (x == ("__debug__" : Str)) = false := by decide)
    (hcd : (x == ("__classdict__" : Str)) = false := by decide) : PE X (.Name x pos) (tVar i) := pe_var hN hv hd hcd
end
theorem iteF {A B : Prop} (h : B) : if false = true then A else B := by
  rw [if_neg Bool.false_ne_true]
  exact h
theorem iteT {A B : Prop} (h : A) : if true = true then A else B := by
  rw [if_pos rfl]
  exact h
theorem iteNS {c A B : Prop} [Decidable c] (hc : c) (h : B) : if (!decide c) = true then A else B := by
  rw [decide_eq_true hc]
  exact iteF h
def Same (H H' : Hp) : Prop := ∀ b o, H b = some o → H' b = some o
theorem Same.refl (H : Hp) : Same H H := fun _ _ h => h
theorem Same.trans {H H1 H2 : Hp} (a : Same H H1) (b : Same H1 H2) : Same H H2 := fun c o h => b c o (a c o h)
theorem Same.free {H H' : Hp} (e : Same H H') {l : Addr} (h : H' l = Option.none) : H l = Option.none := by
  cases q : H l with
  | none => rfl
  | some o =>
    rw [e l o q] at h
    cases h
theorem Same.seq {K : PySem.W.Frag} {H H' : Hp} {a : Addr} {xs : List V} (e : Same H H') (h : SqL K H a xs) : SqL K H' a xs := by
  rcases h with (h | ⟨o, h⟩) | h
  · exact .inl (.inl (e _ _ h))
  · exact .inl (.inr ⟨o, e _ _ h⟩)
  · exact .inr h
open PySem PySem.Spec PyProof.Rows
theorem closure_is {scope : Scope} {env : Env} (h : ∀ y ∈ scope.names, y.2 = .free → ∃ c, env.cells.lookup y.1 = some c) :
    ∃ cl, closureFor scope env = pure cl ∧ (∀ x c, cl.lookup x = some c → env.cells.lookup x = some c ∧ (x, NameKind.free) ∈ scope.names) ∧
      ∀ x, (x, NameKind.free) ∈ scope.names → cl.lookup x = env.cells.lookup x := by
  have key : ∀ (l : List (Str × NameKind)) (cs : List (Str × Addr)), (∀ y ∈ l, y.2 = .free → ∃ c, env.cells.lookup y.1 = some c) →
      ∃ cl, (forIn l cs (fun (x : Str × NameKind) (cs : List (Str × Addr)) => do
          if x.2 == .free then
            let c ← cellOf env x.1
            pure (ForInStep.yield ((x.1, c) :: cs))
          else pure (ForInStep.yield cs)) : Sem (List (Str × Addr))) = pure cl ∧
        (∀ x c, cl.lookup x = some c → (env.cells.lookup x = some c ∧ (x, NameKind.free) ∈ l) ∨ cs.lookup x = some c) ∧
        ∀ x, ((x, NameKind.free) ∈ l → cl.lookup x = env.cells.lookup x) ∧ ((cs.lookup x = env.cells.lookup x) → cl.lookup x = env.cells.lookup x) := by
    intro l
    induction l with
    | nil => intro cs _; exact ⟨cs, rfl, fun x c e => .inr e, fun x => ⟨fun z => absurd z (by simp), fun z => z⟩⟩
    | cons y r ih =>
      intro cs hl
      obtain ⟨n, k⟩ := y
      by_cases hk : k = .free
      · subst hk
        obtain ⟨c, hc⟩ := hl (n, .free) List.mem_cons_self rfl
        obtain ⟨cl, e1, e2, e3⟩ := ih ((n, c) :: cs) fun y hy => hl y (List.mem_cons_of_mem _ hy)
        refine ⟨cl, ?_, fun x d e => ?_, fun x => ⟨fun z => ?_, fun z => ?_⟩⟩
        · rw [List.forIn_cons]
          simp only [beq_self_eq_true, if_true, cellOf, hc]
          exact e1
        · rcases e2 x d e with ⟨z1, z2⟩ | z
          · exact .inl ⟨z1, List.mem_cons_of_mem _ z2⟩
          · rw [List.lookup_cons] at z
            by_cases hx : x == n
            · rw [hx] at z
              have hx' : x = n := by simpa using hx
              subst hx'
              refine .inl ⟨?_, List.mem_cons_self⟩
              rw [hc]; exact z
            · have hx' : (x == n) = false := by simpa using hx
              rw [hx'] at z
              exact .inr z
        · rcases List.mem_cons.mp z with z | z
          · injection z with z1 _
            subst z1
            refine (e3 x).2 ?_
            rw [List.lookup_cons, hc]
            simp
          · exact (e3 x).1 z
        · by_cases hx : x = n
          · subst hx
            refine (e3 x).2 ?_
            rw [List.lookup_cons, hc]
            simp
          · refine (e3 x).2 ?_
            rw [List.lookup_cons]
            have hx' : (x == n) = false := by simpa using hx
            rw [hx']
            exact z
      · obtain ⟨cl, e1, e2, e3⟩ := ih cs fun y hy => hl y (List.mem_cons_of_mem _ hy)
        have hb : (k == NameKind.free) = false := by simpa using hk
        refine ⟨cl, ?_, fun x d e => ?_, fun x => ⟨fun z => ?_, (e3 x).2⟩⟩
        · rw [List.forIn_cons]
          simp only [hb, Bool.false_eq_true, if_false]
          exact e1
        · rcases e2 x d e with ⟨z1, z2⟩ | z
          · exact .inl ⟨z1, List.mem_cons_of_mem _ z2⟩
          · exact .inr z
        · rcases List.mem_cons.mp z with z | z
          · injection z with _ z2
            exact absurd z2.symm hk
          · exact (e3 x).1 z
  obtain ⟨cl, e1, e2, e3⟩ := key scope.names [] h
  refine ⟨cl, ?_, fun x c e => ?_, fun x z => (e3 x).1 z⟩
  · unfold closureFor
    have := e1
    simpa using this
  · rcases e2 x c e with z | z
    · exact z
    · simp at z
theorem lookup_relabel {env : Env} (hk : env.scope.kind = .function) : ∀ {names : List (Str × NameKind)} {x : Str} {k : NameKind}, names.lookup x = some k → k ≠ .free →
    (names.map fun (n, k) => if (k == NameKind.free && env.scope.kind == .function && env.kindOf n == some .cell) then (n, NameKind.cell) else (n, k)).lookup x = some k
  | [], _, _, h, _ => by simp at h
  | (n, k') :: r, x, k, h, hf => by
    have ih := @lookup_relabel env hk r x k
    show List.lookup x ((if (k' == NameKind.free && env.scope.kind == .function && env.kindOf n == some .cell) = true then (n, NameKind.cell) else (n, k')) :: _) = _
    cases hx : x == n with
    | true =>
      simp only [List.lookup_cons, hx] at h
      cases h
      have : (k' == NameKind.free) = false := by simpa using hf
      simp [List.lookup_cons, hx, this]
    | false =>
      simp only [List.lookup_cons, hx] at h
      by_cases hc : (k' == NameKind.free && env.scope.kind == .function && env.kindOf n == some .cell) = true
      · rw [if_pos hc]; simp only [List.lookup_cons, hx]; exact ih h hf
      · rw [if_neg hc]; simp only [List.lookup_cons, hx]; exact ih h hf
theorem lookup_relabel_free {env : Env} (hk : env.scope.kind = .function) : ∀ {names : List (Str × NameKind)} {x : Str}, names.lookup x = some .free → env.kindOf x = some .cell →
    (names.map fun (n, k) => if (k == NameKind.free && env.scope.kind == .function && env.kindOf n == some .cell) then (n, NameKind.cell) else (n, k)).lookup x = some .cell
  | [], _, h, _ => by simp at h
  | (n, k') :: r, x, h, hc => by
    have ih := @lookup_relabel_free env hk r x
    show List.lookup x ((if (k' == NameKind.free && env.scope.kind == .function && env.kindOf n == some .cell) = true then (n, NameKind.cell) else (n, k')) :: _) = _
    cases hx : x == n with
    | true =>
      simp only [List.lookup_cons, hx] at h
      cases h
      have hxn : x = n := by simpa using hx
      subst hxn
      simp [List.lookup_cons, hk, hc]
    | false =>
      simp only [List.lookup_cons, hx] at h
      by_cases hd : (k' == NameKind.free && env.scope.kind == .function && env.kindOf n == some .cell) = true
      · rw [if_pos hd]; simp only [List.lookup_cons, hx]; exact ih h hc
      · rw [if_neg hd]; simp only [List.lookup_cons, hx]; exact ih h hc
def cxComp (X : Cx) (Nc : List Str) (scope : Scope) (cl : List (Str × Addr)) (C : Addr) (fp : List Addr) (s : Shared) (H : Hp) : Cx where
  prog := X.prog
  w := X.w
  K := X.K
  mg := X.mg
  base := X.base
  A := X.A
  N := Nc
  s₀ := s
  H₀ := H
  env := compEnvC scope cl C X.env
  outer := X.stack
  stack := X.stack
  ex := fp
  fn := fun _ => false
  calm := X.calm
  pn := []
  xe := fun _ _ => False
def capV (σ : St) (caps : List Nat) : St := caps.map fun j => (σ[j]?).join
structure CompOk (X : Cx) (x : Str) (Nc : List Str) (caps : List Nat) (scope : Scope) : Prop where
  kind : scope.kind = .function
  cell : ∀ y ∈ scope.names, y.2 ≠ .cell
  names : ∀ y ∈ scope.names, y.2 = .local → scope.names.lookup y.1 = some .local
  fr : ∀ y ∈ scope.names, y.2 = .free → X.env.scope.names.lookup y.1 = some .cell ∧ scope.names.lookup y.1 = some .free
  loc : scope.names.lookup x = some .local
  len : Nc.length = caps.length + 1
  hd : Nc[0]? = some x
  nd : Nc.Nodup
  cap : ∀ k j, caps[k]? = some j → ∃ y, Nc[k + 1]? = some y ∧ X.N[j]? = some y ∧ scope.names.lookup y = some .free
theorem compLoop_any {prog : Program} {w : World} {A : Around} {R : Result → Shared → Prop} {s : Shared} {elt target iter : Expr} {ifs : List Expr} {scope : Scope} {pos : Pos} {it acc : Value} {env : Env} (I : Nat → Shared → Prop)
    (turn : ∀ n s, I n s → wpAny (model prog w) A (pyNext it) (fun r s₁ => match r with
      | none => R (.ok .next) s₁
      | some v => wpAny (model prog w) A (letOwnedTupleGo target it v) (fun _ s1' => wpAny (model prog w) A (assign target env v) (fun _ s₂ =>
          wpAny (model prog w) A (forIn ifs true fun c r => if r = true then do let ok ← isTrue c env (eval c env); pure (ForInStep.yield ok) else pure (ForInStep.yield r)) (fun ok s₃ =>
            if ok = true then wpAny (model prog w) A (eval elt env) (fun x s₄ =>
              wpAny (model prog w) A (call (.builtin "list.append") [acc, x]) (fun _ s₅ => ∃ m, m < n ∧ I m s₅) (notedBy (model prog w) A env fun e s' => R (.error e) s') s₄) (notedBy (model prog w) A env fun e s' => R (.error e) s') s₃
            else ∃ m, m < n ∧ I m s₃) (notedBy (model prog w) A env fun e s' => R (.error e) s') s₂) (notedBy (model prog w) A env fun e s' => R (.error e) s') s1') (notedBy (model prog w) A env fun e s' => R (.error e) s') s₁) (notedBy (model prog w) A env fun e s' => R (.error e) s') s)
    (n : Nat) (h : I n s) :
    codeAny (model prog w) A (.compLoop (.ListComp elt [⟨target, iter, ifs, 0⟩] scope pos) 0 it acc env) R s := by
  refine codeAny_loop rfl I (fun n s hI => ?_) n h
  show wpAny _ A ((compTurn (.ListComp elt [⟨target, iter, ifs, 0⟩] scope pos) 0 it acc env).onRaise (fun x => do noteFrame x env; theTreesLotGoes x)) _ _ s
  refine wpAny_noted ?_
  rw [compTurn_list]
  refine wpAny_bind (wpAny_standAt (wpAny_bind (wpAny_mono (turn n s hI) (fun r s₁ h₁ => ?_) fun _ _ h' => h')))
  cases r with
  | none => exact wpAny_pure h₁
  | some v =>
    refine wpAny_bind (wpAny_mono h₁ (fun _ s1' h₁ => ?_) fun _ _ h' => h')
    refine wpAny_bind (wpAny_mono h₁ (fun _ s₂ h₂ => wpAny_bind (wpAny_mono h₂ (fun ok s₃ h₃ => ?_) fun _ _ h' => h')) fun _ _ h' => h')
    cases ok with
    | false => exact wpAny_pure ⟨rfl, h₃⟩
    | true =>
      exact wpAny_bind (wpAny_bind (wpAny_mono h₃ (fun x s₄ h₄ => wpAny_bind (wpAny_mono h₄ (fun _ s₅ h₅ => wpAny_pure (wpAny_pure ⟨rfl, h₅⟩)) fun _ _ h' => h')) fun _ _ h' => h'))
def tNoTest : TT := fun _ H Q => Q true H
inductive PIf (X : Cx) : List Expr → TT → Prop where
  | nil : PIf X [] tNoTest
  | one {c : Expr} {t : TT} (h : PT X c t) : PIf X [c] t
theorem PIf.run {X : Cx} {ifs : List Expr} {t : TT} (h : PIf X ifs t) {pins : List (Addr × Obj)} {s : Shared} {σ : St} {H : Hp} {Q : Bool → Hp → Prop} (I : Inv X pins σ H s) (ht : t σ H Q) :
    wpAny (model X.prog X.w) X.A (forIn ifs true fun c r => if r = true then do let ok ← isTrue c X.env (eval c X.env); pure (ForInStep.yield ok) else pure (ForInStep.yield r)) (TP X pins σ Q) X.xe s := by
  cases h with
  | nil => exact wpAny_tests_nil ⟨H, I, ht⟩
  | one h => exact wpAny_tests_one (h pins s σ H Q I ht)
def tCompW (caps : List Nat) (tc : TT) (te : TE) (J : It) (σ : St) (H : Hp) (Q : VK) : Prop :=
  ∃ W : Nat → Nat → List V → Hp → Prop, (∃ m, W 0 m [] H) ∧ ∀ i m ys H, W i m ys H →
    (J.stop i H ∧ ys.length ≤ sizeLine ∧ ∀ p, H p = none → Q (.ref p) (upd H p (.lst ys))) ∨
    (J.go i H ∧ ys.length < sizeLine ∧ ∀ x H', J.yld i H x H' → tc (some x :: capV σ caps) H' fun b H2 =>
      if b = true then te (some x :: capV σ caps) H2 fun y H3 => ∃ m', m' < m ∧ W (i + 1) m' (ys ++ [y]) H3 else ∃ m', m' < m ∧ W (i + 1) m' ys H2)
def tComp (wi : TI) (caps : List Nat) (tc : TT) (te : TE) : TE := fun σ H Q => wi σ H fun J H1 => tCompW caps tc te J σ H1 Q
section
variable {X : Cx} {pins : List (Addr × Obj)} {σ : St} {H : Hp} {s : Shared}
theorem Un.track {fs ex : List Addr} {H H' : Hp} {h h' : Heap} {a : Addr} {o : HO} (u : Un fs ex H H' h h') (ha : h.objs.size ≤ a) (hn : H' a = none) : Un fs ex H (upd H' a o) h h' where
  keep := u.keep
  slot := u.slot
  free := fun b ob q n hx => by rw [upd_ne (Nat.ne_of_lt (Nat.lt_of_lt_of_le (Heap.lt_size q) ha))]; exact u.free b ob q n hx
  there := u.there
  tups := fun b xs q => by rw [upd_ne (ne_of_none (u.tups b xs q) hn)]; exact u.tups b xs q
  frzs := fun b ob xs q => by rw [upd_ne (ne_of_none (u.frzs b ob xs q) hn)]; exact u.frzs b ob xs q
  tbls := fun b ps q => by
    obtain ⟨m, e⟩ := u.tbls b ps q
    exact ⟨m, by rw [upd_ne (ne_of_none e hn)]; exact e⟩
theorem HOk.track {P : Program} {w : World} {H : Hp} {h : Heap} {a : Addr} {o : HO} (x : HOk P w H h) (hn : H a = none) (new : ObjOk P w (upd H a o) h a o) : HOk P w (upd H a o) h := fun b u e => by
  by_cases hb : b = a
  · subst hb; rw [upd_same] at e; cases e; exact new
  · rw [upd_ne hb] at e
    exact (x b u e).stay (fun c v _ q => q) (fun c q => by rw [upd_ne (ne_of_none q hn)]; exact q) fun c xs q => by rw [upd_ne (ne_of_none q hn)]; exact q
theorem comp_ok {x : Str} {Nc : List Str} {caps : List Nat} {scope : Scope} {cl : List (Str × Addr)} {C : Addr} {fp : List Addr} (I : Inv X pins σ H s) (O : CompOk X x Nc caps scope)
    (hcl : ∀ x c, cl.lookup x = some c → X.env.cells.lookup x = some c ∧ (x, NameKind.free) ∈ scope.names) (hcl2 : ∀ x, (x, NameKind.free) ∈ scope.names → cl.lookup x = X.env.cells.lookup x)
    (hC : s.heap.objs.size ≤ C) (hfp : ∀ b ∈ fp, FpOk X pins H b) (hfo : ∀ b ∈ fp, b < s.heap.objs.size) : (cxComp X Nc scope cl C fp s H).Ok where
  mod := I.ok.mod
  kind := O.kind
  glob := I.ok.glob
  blt := I.ok.blt
  above := hC
  inj := fun a b c e1 e2 => I.ok.inj a b c (hcl a c e1).1 (hcl b c e2).1
  has := fun y hy => by
    have mem : (y, NameKind.free) ∈ scope.names := by
      have hy' : ((relabel scope X.env).names.lookup y = some .cell) ∨ ((relabel scope X.env).names.lookup y = some .free) := hy
      have hm : ∃ k, (y, k) ∈ (relabel scope X.env).names ∧ (k = .cell ∨ k = .free) := by
        rcases hy' with h | h
        · exact ⟨_, PySem.mem_of_lookup h, .inl rfl⟩
        · exact ⟨_, PySem.mem_of_lookup h, .inr rfl⟩
      obtain ⟨k, hm, hk⟩ := hm
      obtain ⟨⟨n, k'⟩, hm', e⟩ := List.mem_map.mp hm
      dsimp only at e
      by_cases hc : (k' == NameKind.free && X.env.scope.kind == .function && X.env.kindOf n == some .cell) = true
      · rw [if_pos hc] at e
        injection e with e1 _
        subst e1
        have : k' = .free := by
          have := (Bool.and_eq_true _ _ ▸ (Bool.and_eq_true _ _ ▸ hc).1).1
          simpa using this
        subst this
        exact hm'
      · rw [if_neg hc] at e
        injection e with e1 e2
        subst e1 e2
        rcases hk with hk | hk
        · subst hk; exact absurd rfl (O.cell _ hm')
        · subst hk; exact hm'
    obtain ⟨c, e⟩ := I.ok.has y (.inl (O.fr _ mem rfl).1)
    exact ⟨c, (hcl2 y mem).trans e⟩
  cab := fun _ _ z => nomatch z
  hd := I.ok.hd
  frames := I.ok.frames
  stk := .inl rfl
  exf := fun b hb => ⟨Nat.ne_of_lt (Nat.lt_of_lt_of_le (hfo b hb) hC), fun y c e => (hfp b hb).2.2.2.2.1 y c (hcl y c e).1⟩
  bs := I.bs
  bsz := Nat.le_trans I.ok.bsz I.sz
  noex := fun b o e hb => by
    rcases (hfp b hb).2.2.2.1 with z | z
    · exact I.ok.noex b o e z
    · exact absurd (Nat.lt_of_lt_of_le (Heap.lt_size e) (Nat.le_trans I.ok.bsz z)) (Nat.lt_irrefl _)
  exfs := fun b hb z => by
    rcases List.mem_cons.mp (I.stkSub b z) with e | e
    · exact (hfp b hb).2.1 e
    · exact (hfp b hb).2.2.1 e
  funs := I.stack
  frf := I.stkFree
end
open PySem PySem.Spec PyProof.Rows
section
variable {X : Cx} {pins : List (Addr × Obj)} {σ : St} {H : Hp} {s : Shared}
theorem capV_len (σ : St) (caps : List Nat) : (capV σ caps).length = caps.length := by unfold capV; rw [List.length_map]
theorem capV_get {σ : St} {caps : List Nat} {k : Nat} {v : V} (e : (capV σ caps)[k]? = some (some v)) : ∃ j, caps[k]? = some j ∧ σ[j]? = some (some v) := by
  unfold capV at e
  rw [List.getElem?_map] at e
  cases hk : caps[k]? with
  | none => rw [hk] at e; cases e
  | some j =>
    rw [hk] at e
    have e' : (σ[j]?).join = some v := Option.some.inj e
    refine ⟨j, rfl, ?_⟩
    cases hj : σ[j]? with
    | none => rw [hj] at e'; cases e'
    | some o => rw [hj] at e'; rw [show o = some v from e']
theorem Un.but {fs ex : List Addr} {H H' : Hp} {h h1 h2 : Heap} {C : Addr} (u : Un fs ex H H' h h1) (hs : Heap.SameBut C h1 h2) (hC : h.objs.size ≤ C) : Un fs ex H H' h h2 where
  keep := fun b o q n hb hx => (hs.2 b (Nat.ne_of_lt (Nat.lt_of_lt_of_le (Heap.lt_size q) hC))).trans (u.keep b o q n hb hx)
  slot := fun b o q n hb hx => by
    obtain ⟨sl, e⟩ := u.slot b o q n hb hx
    exact ⟨sl, (hs.2 b (Nat.ne_of_lt (Nat.lt_of_lt_of_le (Heap.lt_size q) hC))).trans e⟩
  free := u.free
  there := fun b o q hx => by
    obtain ⟨o', e⟩ := u.there b o q hx
    exact ⟨o', (hs.2 b (Nat.ne_of_lt (Nat.lt_of_lt_of_le (Heap.lt_size q) hC))).trans e⟩
  tups := u.tups
  frzs := u.frzs
  tbls := u.tbls
theorem comp_start {x : Str} {Nc : List Str} {caps : List Nat} {scope : Scope} {cl : List (Str × Addr)} {C : Addr} {fp : List Addr} {h' : Heap} {tk : Nat} {m0 : Str → Option Value} (I : Inv X pins σ H s) (O : CompOk X x Nc caps scope)
    (hcl : ∀ x c, cl.lookup x = some c → X.env.cells.lookup x = some c ∧ (x, NameKind.free) ∈ scope.names) (hcl2 : ∀ x, (x, NameKind.free) ∈ scope.names → cl.lookup x = X.env.cells.lookup x)
    (hC : s.heap.objs.size ≤ C) (hfp : ∀ b ∈ fp, FpOk X pins H b) (hfo : ∀ b ∈ fp, b < s.heap.objs.size)
    (old : ∀ b o, s.heap.get? b = some o → h'.get? b = some o) (hns : h'.Ns C m0) :
    Inv (cxComp X Nc scope cl C fp s H) [] (none :: capV σ caps) H { s with heap := h', toks := tk } where
  ok := comp_ok I O hcl hcl2 hC hfp hfo
  os := rfl
  bare := I.bare
  base := Un.kept old
  loc := by
    refine ⟨m0, hns, fun i y v hN hσ hv => ?_⟩
    cases i with
    | zero => simp at hσ
    | succ k =>
      rw [List.getElem?_cons_succ] at hσ
      obtain ⟨j, hj, hs⟩ := capV_get hσ
      obtain ⟨z, hz1, hz2, hz3⟩ := O.cap k j hj
      have hN' : Nc[k + 1]? = some y := hN
      rw [hz1] at hN'
      cases hN'
      have mem : (y, NameKind.free) ∈ scope.names := PySem.mem_of_lookup hz3
      have hk := (O.fr _ mem rfl).1
      obtain ⟨m, hn, hl⟩ := I.loc
      obtain ⟨u, r, l⟩ := hl j y v hz2 hs (.inr (.inl hk))
      refine ⟨u, r, ?_⟩
      rcases l with ⟨k', _⟩ | ⟨_, c, hc, z⟩
      · have k'' : X.env.scope.names.lookup y = some .local := k'
        rw [hk] at k''; cases k''
      · obtain ⟨o, ho, hd⟩ := z
        exact .inr ⟨.inl (lookup_relabel_free I.ok.kind hz3 hk), c, (hcl2 y mem).trans hc, o, old _ _ ho, hd⟩
  cell := fun y c e => by
    obtain ⟨v, o, ho, hd⟩ := I.cell y c (hcl y c e).1
    exact ⟨v, o, old _ _ ho, hd⟩
  free := I.hok.fresh hC
  freeC := fun y c e => I.freeC y c (hcl y c e).1
  pin := fun p hp => absurd (show p ∈ ([] : List (Addr × Obj)) from hp) (by simp)
  hok := I.hok.kept old
  len := by
    show (none :: capV σ caps).length = Nc.length
    rw [List.length_cons, capV_len, O.len]
abbrev rawL (us : List Value) (n : Nat) : Obj := { cls := .type "list", data := .seq us.toArray n }
theorem comp_fr {X : Cx} {sc0 scope : Scope} (h : X.env.scope = sc0) (hd : ∀ y ∈ scope.names, y.2 = .free → sc0.names.lookup y.1 = some .cell ∧ scope.names.lookup y.1 = some .free) :
    ∀ y ∈ scope.names, y.2 = .free → X.env.scope.names.lookup y.1 = some .cell ∧ scope.names.lookup y.1 = some .free := by
  rw [h]
  exact hd
theorem comp_block {x : Str} {px : Pos} {Nc : List Str} {caps : List Nat} {scope : Scope} {cl : List (Str × Addr)} {iter elt : Expr} {ifs : List Expr} {pos : Pos} {tc : TT} {te : TE} {Q : VK} {it : Addr} {fp : List Addr} {tn : Nat → Heap → Prop} {J : It}
    {RR : Value → Addr → Result → Shared → Prop} {E : Value → Shared → Prop}
    (O : CompOk X x Nc caps scope) (hc : X.calm = true)
    (hcl : ∀ x c, cl.lookup x = some c → X.env.cells.lookup x = some c ∧ (x, NameKind.free) ∈ scope.names) (hcl2 : ∀ x, (x, NameKind.free) ∈ scope.names → cl.lookup x = X.env.cells.lookup x)
    (hte : ∀ C fp s H, PE (cxComp X Nc scope cl C fp s H) elt te) (htc : ∀ C fp s H, PIf (cxComp X Nc scope cl C fp s H) ifs tc)
    (I : Inv X pins σ H s) (T : Turn X.prog X.w X.K (.Name x px) J fp it tn) (st : tn 0 s.heap) (hfp : ∀ b ∈ fp, FpOk X pins H b) (h : tCompW caps tc te J σ H Q)
    (hRR : ∀ (D C : Addr) (s' : Shared) (m : Str → Option Value), s'.heap.Ns C m → (∀ h', Heap.SameBut C s'.heap h' → ∃ H', Inv X pins σ H' { s' with heap := h' } ∧ H' C = none ∧ Q (.ref D) H') →
      s.heap.objs.size ≤ C → RR (.ref D) C (.ok .next) s') :
    wpAny (model X.prog X.w) X.A (newList []) (fun acc s₃ => wpAny (model X.prog X.w) X.A (newFunctionEnv scope X.env.globals cl [] X.env.qual none .none (some X.env)) (fun cenv s₄ =>
      codeAny (model X.prog X.w) X.A (.compStart (.ListComp elt [⟨.Name x px, iter, ifs, 0⟩] scope pos) 0 (.ref it) acc { cenv with scope := relabel scope X.env }) (RR acc cenv.locals) s₄) E s₃) E s := by
  refine wpAny_newObj_type (wpAny_newFunctionEnv O.cell (by intro y hy; simp at hy) (fun h₁ hns₁ hsb₁ => ?_) O.kind)
  dsimp only at hns₁ hsb₁ ⊢
  generalize hH2 : s.heap.push { cls := .type "list", dict := none, data := .seq ([] : List Value).toArray } = H2 at hns₁ hsb₁ ⊢
  have hC : H2.objs.size = s.heap.objs.size + 1 := by rw [← hH2, Heap.size_push]
  have hCle : s.heap.objs.size ≤ H2.objs.size := by rw [hC]; exact Nat.le_succ _
  have hDC : s.heap.objs.size ≠ H2.objs.size := by rw [hC]; exact Nat.ne_of_lt (Nat.lt_succ_self _)
  have below : ∀ b, b < s.heap.objs.size → b ≠ H2.objs.size ∧ b ≠ s.heap.objs.size := fun b hb => ⟨by rw [hC]; exact Nat.ne_of_lt (Nat.lt_succ_of_lt hb), Nat.ne_of_lt hb⟩
  have old : ∀ b o, s.heap.get? b = some o → h₁.get? b = some o := fun b o e => hsb₁.extBut b o (below b (Heap.lt_size e)).1 (Heap.get?_push_of_some _ (hH2 ▸ Heap.get?_push_of_some _ e))
  have hacc : h₁.get? s.heap.objs.size = some (rawL [] 0) := hsb₁.extBut _ _ hDC (Heap.get?_push_of_some _ (hH2 ▸ Heap.get?_push_size _ rfl))
  have hfo : ∀ b ∈ fp, b < s.heap.objs.size := fun b hb => by
    obtain ⟨o, e, _⟩ := T.obj _ _ st b hb
    exact Heap.lt_size e
  have st1 : tn 0 h₁ := T.keep _ _ _ st fun b _ o e => old b o e
  generalize hDD : s.heap.objs.size = D at *
  generalize hCC : H2.objs.size = C at *
  have DleC : D ≤ C := hCle
  let Y : Cx := cxComp X Nc scope cl C fp s H
  have I0 : Inv Y [] (none :: capV σ caps) H { s with heap := h₁, toks := s.toks + ([] : List (Str × Value)).length } := comp_start I O hcl hcl2 (by rw [hDD]; exact hCle) hfp (fun b hb => by rw [hDD]; exact hfo b hb) old hns₁
  have Dfree : H D = none := by rw [← hDD]; exact I.hok.fresh (Nat.le_refl _)
  have DneC : D ≠ C := hDC
  have Dfs : D ∉ Y.fs := fun z => by
    have := I.stack.mem (show D ∈ frs X.stack from z)
    obtain ⟨_, o, e, _⟩ := this
    have := Heap.lt_size e
    rw [hDD] at this
    exact Nat.lt_irrefl _ this
  have Dcell : ∀ y c, Y.env.cells.lookup y = some c → c ≠ D := fun y c e z => by
    obtain ⟨v, q⟩ := I.cell y c (hcl y c e).1
    have := q.lt
    rw [z, hDD] at this
    exact Nat.lt_irrefl _ this
  have Dfp : ∀ b ∈ fp, b ≠ D := fun b hb => Nat.ne_of_lt (hfo b hb)
  have fpY : ∀ {H' : Hp}, (∀ b ∈ fp, H' b = none) → ∀ b ∈ fp, FpOk Y [] H' b := fun hn b hb =>
    ⟨hn b hb, Nat.ne_of_lt (Nat.lt_of_lt_of_le (hfo b hb) DleC), fun z => I0.ok.exfs b hb z, .inl hb, fun y c e => (I0.ok.exf b hb).2 y c e, fun p hp => absurd (show p ∈ ([] : List (Addr × Obj)) from hp) (by simp)⟩
  obtain ⟨W, ⟨m0, w0⟩, turn⟩ := h
  have loop : ∀ s₃ : Shared, s₃ = { s with heap := h₁, toks := s.toks + ([] : List (Str × Value)).length } →
      codeAny (model X.prog X.w) X.A (.compLoop (.ListComp elt [⟨.Name x px, iter, ifs, 0⟩] scope pos) 0 (.ref it) (.ref D) (compEnvC scope cl C X.env)) (RR (.ref D) C) s₃ := by
    rintro s₃ rfl
    refine compLoop_any (fun n s' => ∃ (i : Nat) (o : Option V) (H' : Hp) (ys : List V) (us : List Value) (k : Nat), Inv Y [] (o :: capV σ caps) H' s' ∧ tn i s'.heap ∧ (∀ b ∈ fp, H' b = none) ∧ s'.heap.get? D = some (rawL us k) ∧ H' D = none ∧ Vals ys us ∧ W i n ys H')
      ?_ m0 ⟨0, none, H, [], [], 0, I0, st1, fun b hb => (hfp b hb).1, hacc, Dfree, .nil, w0⟩
    rintro n s3 ⟨i, o3, H3, ys, us, k, I3, st3, fr3, hD3, nD3, rv, w3⟩
    have fpP : ∀ {H' : Hp} {ob : Obj}, (∀ b ∈ fp, H' b = none) → ∀ b ∈ fp, FpOk Y [(D, ob)] H' b := fun hn b hb => by
      obtain ⟨g0, g1, g2, g3, g4, _⟩ := fpY hn b hb
      refine ⟨g0, g1, g2, g3, g4, fun p hp => ?_⟩
      have e : p = (D, _) := List.mem_singleton.mp (show p ∈ [(D, _)] from hp)
      rw [e]
      exact Ne.symm (Dfp b hb)
    have IP : Inv Y [(D, rawL us k)] (o3 :: capV σ caps) H3 s3 := I3.pins_of fun p hp => by
      have e : p = (D, rawL us k) := List.mem_singleton.mp hp
      subst e
      exact ⟨hD3, nD3, DneC, Dfs, fun v z => by cases z⟩
    have pinD : ∀ {σ' : St} {H' : Hp} {s' : Shared} {pl : List (Addr × Obj)}, Inv Y ([(D, rawL us k)] ++ pl) σ' H' s' → s'.heap.get? D = some (rawL us k) ∧ H' D = none := fun I' => by
      have z := I'.pin (D, rawL us k) (List.mem_append_right _ (List.mem_append_left _ List.mem_cons_self))
      exact ⟨z.1, z.2.1⟩
    rcases turn i n ys H3 w3 with ⟨stop, hlen, fin⟩ | ⟨go, hlen, step⟩
    ·
      refine wpAny_mono (T.done Y rfl rfl rfl hc i _ s3 _ H3 (fun _ _ => False) IP (fpP fr3) st3 stop) (fun r s4 hr => ?_) fun _ _ z => z.elim
      obtain ⟨hr, I4⟩ := hr
      subst hr
      obtain ⟨gD, nD⟩ := pinD (pl := []) (by simpa using I4)
      obtain ⟨m, hn, _⟩ := I4.loc
      refine hRR D C s4 m hn (fun h' hs' => ⟨upd H3 D (.lst ys), ?_, (upd_ne (Ne.symm DneC)).trans I4.free, fin D nD⟩) hCle
      have nt : ∀ b ob, H3 b = some ob → b ≠ C := fun b ob e z => by
        have := I4.free
        rw [z] at e
        rw [show H3 C = none from this] at e
        cases e
      have u1 : Un (frs X.stack) fp H H3 s.heap h' := Un.but I4.base hs' (show s.heap.objs.size ≤ C by rw [hDD]; exact hCle)
      have ok1 : HOk X.prog X.w H3 h' := fun b ob e => (I4.hok b ob e).stay (fun c v hc q => (hs'.2 c (by
        rcases hc with z | z
        · rw [z]; exact nt b ob e
        · exact nt c _ z)).trans q) (fun _ q => q) fun _ _ q => q
      have gD' : h'.get? D = some (rawL us k) := (hs'.2 D DneC).trans gD
      exact I.call' (s' := { s4 with heap := h' }) (ch := fp) I4.os (u1.track (Nat.le_of_eq hDD) nD) (ok1.track nD ⟨hlen, us, k, rv, gD'⟩) I4.bare fun b hb => by
        obtain ⟨_, g1, _, g3, g4, g5⟩ := hfp b hb
        exact ⟨g3, g1, g4, g5⟩
    ·
      refine wpAny_mono (T.item Y rfl rfl rfl hc i _ s3 _ H3 (fun _ _ => False) IP (fpP fr3) st3 go) (fun r s4 hr => ?_) fun _ _ z => z.elim
      obtain ⟨u0, hr, h4⟩ := hr
      subst hr
      refine wpAny_mono h4 (fun _ s5 h5 => ?_) fun _ _ z => z.elim
      obtain ⟨x5, H5, I5, r5, y5, st5, fr5⟩ := h5
      have I5' := I5.pinned (fpP fr5) (T.obj _ _ st5)
      have tgt : PG Y (.Name x px) (gName 0) := pg_name (i := 0) O.nd O.hd (.inl (lookup_relabel I.ok.kind O.loc (by intro z; cases z))) (.inr (lookup_relabel I.ok.kind O.loc (by intro z; cases z)))
      refine wpAny_mono (tgt _ s5 _ H5 x5 u0 (fun σ2 H2 => σ2 = some x5 :: capV σ caps ∧ H2 = H5) I5' r5 ⟨rfl, rfl⟩) (fun _ s6 h6 => ?_) fun _ _ z => z.elim
      obtain ⟨_, _, I6, rfl, rfl⟩ := h6
      refine wpAny_mono ((htc C fp s H).run I6 (step x5 _ y5)) (fun b s7 h7 => ?_) fun _ _ z => z.elim
      obtain ⟨H7, I7, q7⟩ := h7
      have keepT : ∀ {σ' : St} {H' : Hp} {s' : Shared}, Inv Y ([(D, rawL us k)] ++ pinsAt fp s5.heap) σ' H' s' → tn (i + 1) s'.heap ∧ ∀ b ∈ fp, H' b = none := fun I' =>
        ⟨T.keep _ _ _ st5 fun b hb o e => (I'.pin (b, o) (List.mem_append_right _ (List.mem_append_right _ (mem_pinsAt hb e)))).1, fun b hb => by
          obtain ⟨o, e, d⟩ := T.obj _ _ st5 b hb
          exact (I'.pin (b, o) (List.mem_append_right _ (List.mem_append_right _ (mem_pinsAt hb e)))).2.1⟩
      cases b with
      | false =>
        rw [if_neg Bool.false_ne_true] at q7
        rw [if_neg Bool.false_ne_true]
        obtain ⟨m', hm, w7⟩ := q7
        obtain ⟨gD, nD⟩ := pinD I7
        obtain ⟨k1, k2⟩ := keepT I7
        exact ⟨m', hm, i + 1, some x5, H7, ys, us, k, I7.pins_of (fun p hp => nomatch hp), k1, k2, gD, nD, rv, w7⟩
      | true =>
        rw [if_pos rfl] at q7
        rw [if_pos rfl]
        refine wpAny_mono (hte C fp s H _ s7 _ H7 _ I7 q7) (fun u8 s8 h8 => ?_) fun _ _ z => z.elim
        obtain ⟨y8, H8, I8, r8, m', hm, w8⟩ := h8
        obtain ⟨gD, nD⟩ := pinD I8
        obtain ⟨k1, k2⟩ := keepT I8
        refine call_meets F.slot_list_append ⟨_, gD, rfl⟩ F.entry_list_append (F.args_list_append_2 _ _) (PySem.list_append D us.toArray k u8 (by rw [List.size_toArray, ← rv.length]; omega)) ⟨gD, ?_⟩
        have q := PySem.IsL.update gD (·.push u8)
        have e1 : us.toArray.push u8 = (us ++ [u8]).toArray := by simp
        rw [e1] at q
        have I8' : Inv Y [] (some x5 :: capV σ caps) H8 s8 := I8.pins_of (fun p hp => nomatch hp)
        have I9 : Inv Y [] (some x5 :: capV σ caps) H8 { s8 with heap := s8.heap.update D (Obj.mapSeq (·.push u8)), toks := s8.toks } :=
          I8'.turned (it := D) (fun b o hb e => (Heap.get?_update_other s8.heap (Obj.mapSeq (·.push u8)) (Ne.symm hb)).trans e) nD DneC (.inr (Nat.le_of_eq hDD)) Dcell (fun p hp => nomatch hp)
        refine ⟨m', hm, i + 1, some x5, H8, ys ++ [y8], us ++ [u8], _, I9, T.keep _ _ _ k1 fun b hb o e => (Heap.get?_update_other s8.heap (Obj.mapSeq (·.push u8)) (Ne.symm (Dfp b hb))).trans e, k2, q, nD, rv.append (.cons r8 .nil), w8⟩
  exact codeAny_compStart_list (loop _ rfl) (T.self X.A 0 _ _ _ st1 (loop _ rfl))
theorem pe_comp {x : Str} {px pos : Pos} {Nc : List Str} {caps : List Nat} {scope : Scope} {iter elt : Expr} {ifs : List Expr} {wi : TI} {tc : TT} {te : TE} (O : CompOk X x Nc caps scope) (hc : X.calm = true) (hi : PI X (.Name x px) iter wi)
    (htc : ∀ cl C fp s H, PIf (cxComp X Nc scope cl C fp s H) ifs tc) (hte : ∀ cl C fp s H, PE (cxComp X Nc scope cl C fp s H) elt te) (hs : ∀ x, foldedSetIterable iter X.env x = pure x := by intro _; rfl) :
    PE X (.ListComp elt [⟨.Name x px, iter, ifs, 0⟩] scope pos) (tComp wi caps tc te) := by
  intro pins s σ H Q I h
  rw [eval_ListComp]
  obtain ⟨cl, e1, e2, e3⟩ := closure_is (scope := scope) (env := X.env) fun y hy hf => I.ok.has y.1 (.inl (O.fr y hy hf).1)
  refine wpAny_comprehension_free (use := none) rfl hs e1 O.kind O.names (thn (hi pins s σ H _ I h) fun v s1 h1 => thn h1 fun itv s2 h2 => ?_)
  obtain ⟨it, fp, tn, J, H2, e, I2, T, st2, f2, w2⟩ := h2
  subst e
  refine comp_block (RR := fun acc C => compPost (model X.prog X.w) X.A X.xe none (EP X pins σ Q) acc C) O hc e2 e3 (hte cl) (htc cl) I2 T st2 f2 w2 ?_
  intro D C s' m hn hq hC
  refine ⟨m, hn, fun h' hs' => ?_⟩
  obtain ⟨H', I', _, q⟩ := hq h' hs'
  exact ⟨.ref D, H', I', rfl, q⟩
theorem ps_setC {i : Nat} {y x : Str} {px py pos spos : Pos} {Nc : List Str} {caps : List Nat} {scope : Scope} {iter elt : Expr} {ifs : List Expr} {wi : TI} {tc : TT} {te : TE} (O : CompOk X x Nc caps scope) (hc : X.calm = true)
    (hN : X.N.Nodup) (hy : X.N[i]? = some y) (hx : X.env.scope.names.lookup y = some .local) (hi : PI X (.Name x px) iter wi)
    (htc : ∀ cl C fp s H, PIf (cxComp X Nc scope cl C fp s H) ifs tc) (hte : ∀ cl C fp s H, PE (cxComp X Nc scope cl C fp s H) elt te)
    (hsw : swapsWith (.ListComp elt [⟨.Name x px, iter, ifs, 0⟩] scope pos) (some (.Name y py)) spos.line X.env = pure true) (hs : ∀ x, foldedSetIterable iter X.env x = pure x := by intro _; rfl) :
    PS X (.Assign [.Name y py] (.ListComp elt [⟨.Name x px, iter, ifs, 0⟩] scope pos) spos) (tAsg (tComp wi caps tc te) (gName i)) := by
  intro pins s σ H Dn I h
  rw [exec_Assign_Name_used _ _ _ _ hsw]
  refine wpAny_bind (wpAny_standAt (wpAny_bind ?_))
  obtain ⟨cl, e1, e2, e3⟩ := closure_is (scope := scope) (env := X.env) fun y hy hf => I.ok.has y.1 (.inl (O.fr y hy hf).1)
  show wpAny _ X.A (do let _ ← comprehension (.ListComp elt [⟨.Name x px, iter, ifs, 0⟩] scope pos) scope X.env _ (newList []) false (eval iter X.env) (some (assign (.Name y py) X.env))) _ _ s
  refine wpAny_bind (wpAny_mono (wpAny_comprehension_free (use := some (assign (.Name y py) X.env)) (Q := fun _ s' => SP X pins Dn .next s') rfl hs e1 O.kind O.names
    (thn (hi pins s σ H _ I h) fun v s1 h1 => thn h1 fun itv s2 h2 => ?_)) (fun _ s' hq => wpAny_pure (wpAny_pure hq)) fun _ _ e => e)
  obtain ⟨it, fp, tn, J, H2, e, I2, T, st2, f2, w2⟩ := h2
  subst e
  refine comp_block (RR := fun acc C => compPost (model X.prog X.w) X.A X.xe (some (assign (.Name y py) X.env)) (fun _ s' => SP X pins Dn .next s') acc C) O hc e2 e3 (hte cl) (htc cl) I2 T st2 f2 w2 ?_
  intro D C s' m hn hq hC
  show wpAny _ X.A (assign (.Name y py) X.env (.ref D)) _ _ _
  obtain ⟨H', I', nC, q⟩ := hq s'.heap (.refl ..)
  have I'' : Inv X pins σ H' s' := I'
  have CL : C ≠ X.env.locals := Nat.ne_of_gt (Nat.lt_of_lt_of_le I2.lt hC)
  have Ccell : ∀ y c, X.env.cells.lookup y = some c → c ≠ C := fun y c e z => by
    obtain ⟨v, q⟩ := I2.cell y c e
    have := Nat.lt_of_lt_of_le q.lt hC
    rw [z] at this
    exact Nat.lt_irrefl _ this
  refine wpAny_assign_Name (store_ok2 I'' hN hy (.inl hx) (show RelV (.ref D) (.ref D) from rfl) (fun s3 I3 hsb => ?_) (.inr hx))
  obtain ⟨a, hsb, ha⟩ := hsb
  have aC : C ≠ a := by
    rcases ha with z | z
    · rw [z]; exact CL
    · exact Ne.symm (Ccell _ _ z)
  refine ⟨m, hn.sameBut hsb aC, fun h4 hs4 => ?_⟩
  refine ⟨_, H', I3.turned (it := C) (t' := s3.toks) (fun b o hb e => (hs4.2 b hb).trans e) nC CL (.inr (Nat.le_trans I2.sz hC)) Ccell (fun p hp z => ?_), q⟩
  · have := Nat.lt_of_lt_of_le (Heap.lt_size (I2.pin p hp).1) hC
    rw [z] at this
    exact Nat.lt_irrefl _ this
end
open PySem PySem.Spec PyProof.Rows
def Its (x : Str) : It := ⟨fun i _ => i < x.cps.size, fun i H v H' => H' = H ∧ ∃ c, x.cps[i]? = some c ∧ v = .str ⟨#[c]⟩, fun i _ => x.cps.size ≤ i⟩
theorem turn_strA {P : Program} {w : World} {K : PySem.W.Frag} {tg : Expr} (it : Addr) (x : Str) (t : Tok) : Turn P w K tg (Its x) [it] it (fun i h => i ≤ x.cps.size ∧ h.IsStrIter it "str_ascii_iterator" x t i) where
  mem := by simp
  obj := fun i h st b hb => by
    have e : b = it := by simpa using hb
    subst e
    obtain ⟨_, o, e, c, d⟩ := st
    exact ⟨o, e, fun v z => by rw [d] at z; cases z⟩
  keep := fun i h h' st k => by
    obtain ⟨hl, o, e, c, d⟩ := st
    exact ⟨hl, o, k it (by simp) o e, c, d⟩
  item := by
    intro X hP hw hK hc i pins s σ H E I hf st hg
    subst hP hw hK
    obtain ⟨hl, st⟩ := st
    have hg : i < x.cps.size := hg
    obtain ⟨f0, f1, f2, f3, f4, f5⟩ := hf it (by simp)
    have hx : x.cps[i]? = some x.cps[i] := by simp [hg]
    refine wpAny_pyNext_ascii_item st hx fun h' st' sb => ?_
    have I1 : Inv X pins σ H { s with heap := h', toks := s.toks + 1 } := I.turned (fun b o hb e => (sb.2 b hb).trans e) f0 f1 f3 f4 f5
    obtain ⟨o, e, c, d⟩ := id st'
    exact ⟨_, rfl, go_of (s := { s with heap := h', toks := s.toks + 1 }) e c d (by decide) ⟨.str ⟨#[x.cps[i]]⟩, H, I1, ⟨_, rfl⟩, ⟨rfl, _, hx, rfl⟩, ⟨hg, st'⟩, fun b hb => (hf b hb).1⟩⟩
  done := by
    intro X hP hw hK hc i pins s σ H E I hf st hg
    subst hP hw hK
    obtain ⟨hl, st⟩ := st
    have hg : x.cps.size ≤ i := hg
    obtain ⟨f0, f1, f2, f3, f4, f5⟩ := hf it (by simp)
    exact wpAny_pyNext_ascii_end (I.ok.hd hc) st (by simp; omega) fun h' eb => ⟨rfl, I.turned (t' := s.toks) (fun b o hb e => eb b o hb e) f0 f1 f3 f4 f5⟩
  self := fun _ _ _ _ _ st h => wpAny_pyIter_striter_ascii st.2 h
theorem turn_strW {P : Program} {w : World} {K : PySem.W.Frag} {tg : Expr} (it : Addr) (x : Str) (t : Tok) : Turn P w K tg (Its x) [it] it (fun i h => i ≤ x.cps.size ∧ h.IsStrIter it "str_iterator" x t i) where
  mem := by simp
  obj := fun i h st b hb => by
    have e : b = it := by simpa using hb
    subst e
    obtain ⟨_, o, e, c, d⟩ := st
    exact ⟨o, e, fun v z => by rw [d] at z; cases z⟩
  keep := fun i h h' st k => by
    obtain ⟨hl, o, e, c, d⟩ := st
    exact ⟨hl, o, k it (by simp) o e, c, d⟩
  item := by
    intro X hP hw hK hc i pins s σ H E I hf st hg
    subst hP hw hK
    obtain ⟨hl, st⟩ := st
    have hg : i < x.cps.size := hg
    obtain ⟨f0, f1, f2, f3, f4, f5⟩ := hf it (by simp)
    have hx : x.cps[i]? = some x.cps[i] := by simp [hg]
    refine wpAny_pyNext_wide_item st hx fun h' st' sb => ?_
    have I1 : Inv X pins σ H { s with heap := h', toks := s.toks + 1 } := I.turned (fun b o hb e => (sb.2 b hb).trans e) f0 f1 f3 f4 f5
    obtain ⟨o, e, c, d⟩ := id st'
    exact ⟨_, rfl, go_of (s := { s with heap := h', toks := s.toks + 1 }) e c d (by decide) ⟨.str ⟨#[x.cps[i]]⟩, H, I1, ⟨_, rfl⟩, ⟨rfl, _, hx, rfl⟩, ⟨hg, st'⟩, fun b hb => (hf b hb).1⟩⟩
  done := by
    intro X hP hw hK hc i pins s σ H E I hf st hg
    subst hP hw hK
    obtain ⟨hl, st⟩ := st
    have hg : x.cps.size ≤ i := hg
    obtain ⟨f0, f1, f2, f3, f4, f5⟩ := hf it (by simp)
    exact wpAny_pyNext_wide_end (I.ok.hd hc) st (by simp; omega) fun h' eb => ⟨rfl, I.turned (t' := s.toks) (fun b o hb e => eb b o hb e) f0 f1 f3 f4 f5⟩
  self := fun _ _ _ _ _ st h => wpAny_pyIter_striter_wide st.2 h
section
variable {X : Cx} {tg : Expr}
def iStr (tl : TE) : TI := fun σ H R => tl σ H fun x H1 => ∃ z, x = .str z ∧ R (Its z) H1
theorem pi_str {l : Expr} {tl : TE} (hl : PE X l tl) : PI X tg l (iStr tl) := by
  intro pins s σ H R I h
  refine thn (hl pins s σ H _ I h) fun v s1 ⟨x, H1, I1, r1, q1⟩ => ?_
  obtain ⟨z, e, q⟩ := q1
  subst e
  obtain ⟨t, rfl⟩ := r1
  have fpn : ∀ b ∈ [s1.heap.objs.size], FpOk X pins H1 b := fun b hb => by
    have e : b = s1.heap.objs.size := by simpa using hb
    subst e
    exact I1.fpOk (Nat.le_refl _) (I1.hok.fresh (Nat.le_refl _))
  cases ha : z.cps.all (· < 128)
  · refine wpAny_pyIter_wide ha ?_
    exact ⟨s1.heap.objs.size, [s1.heap.objs.size], _, _, H1, rfl, I1.kept (t' := s1.toks) fun b o e => Heap.get?_push_of_some _ e, turn_strW _ z t, ⟨Nat.zero_le _, _, Heap.get?_push_size _ rfl, rfl, rfl⟩, fpn, q⟩
  · refine wpAny_pyIter_ascii ha ?_
    exact ⟨s1.heap.objs.size, [s1.heap.objs.size], _, _, H1, rfl, I1.kept (t' := s1.toks) fun b o e => Heap.get?_push_of_some _ e, turn_strA _ z t, ⟨Nat.zero_le _, _, Heap.get?_push_size _ rfl, rfl, rfl⟩, fpn, q⟩
end
theorem for_str {z : Str} {g : TG} {tb : TS} {D : Ends} {σ : St} {H : Hp} (Pv : Nat → St → Hp → Prop) (h0 : Pv 0 σ H)
    (hs : ∀ i c σ H, z.cps[i]? = some c → Pv i σ H → g (.str ⟨#[c]⟩) σ H fun σ2 H2 => tb { D with nx := Pv (i + 1), ct := Pv (i + 1), bk := D.nx } σ2 H2) (hd : ∀ σ H, Pv z.cps.size σ H → D.nx σ H) :
    ∃ W : Nat → Nat → St → Hp → Prop, (∃ m, W 0 m σ H) ∧ ∀ i m σ H, W i m σ H →
      ((Its z).stop i H ∧ D.nx σ H) ∨ ((Its z).go i H ∧ ∃ N : St → Hp → Prop, (∀ σ' H', N σ' H' → ∃ m', m' < m ∧ W (i + 1) m' σ' H') ∧ ∀ x H', (Its z).yld i H x H' → g x σ H' fun σ2 H2 => tb { D with nx := N, ct := N, bk := D.nx } σ2 H2) := by
  refine ⟨fun i m σ H => m = z.cps.size - i ∧ i ≤ z.cps.size ∧ Pv i σ H, ⟨z.cps.size, by simp, Nat.zero_le _, h0⟩, ?_⟩
  rintro i m σ H ⟨rfl, hi, p⟩
  by_cases hlt : i < z.cps.size
  · refine .inr ⟨hlt, Pv (i + 1), fun σ' H' p' => ⟨z.cps.size - (i + 1), by omega, rfl, hlt, p'⟩, fun x H' y => ?_⟩
    obtain ⟨e, c, hc, rfl⟩ := y
    subst e
    exact hs i c σ _ hc p
  · have e : i = z.cps.size := by omega
    subst e
    exact .inl ⟨Nat.le_refl _, hd σ H p⟩
def CN (n : Nat) (Pv : Nat → List V → Hp → Prop) (i : Nat) (ys : List V) (H : Hp) : Prop := ∃ m', m' < n - i ∧ m' = n - (i + 1) ∧ i + 1 ≤ n ∧ Pv (i + 1) ys H
theorem CN.of {n : Nat} {Pv : Nat → List V → Hp → Prop} {i : Nat} {ys : List V} {H : Hp} (h : i < n) (p : Pv (i + 1) ys H) : CN n Pv i ys H := ⟨n - (i + 1), by omega, rfl, h, p⟩
def CTurn (n : Nat) (Pv : Nat → List V → Hp → Prop) (tc : TT) (te : TE) (σ : St) (i : Nat) (ys : List V) (H : Hp) : Prop :=
  tc σ H fun b H2 => if b = true then te σ H2 fun y H3 => CN n Pv i (ys ++ [y]) H3 else CN n Pv i ys H2
theorem CTurn.no {n : Nat} {Pv : Nat → List V → Hp → Prop} {te : TE} {σ : St} {i : Nat} {ys : List V} {H : Hp} (h : te σ H fun y H3 => CN n Pv i (ys ++ [y]) H3) : CTurn n Pv tNoTest te σ i ys H := by
  unfold CTurn tNoTest
  exact iteT h
theorem comp_list {K : PySem.W.Frag} {a : Addr} {xs : List V} {caps : List Nat} {tc : TT} {te : TE} {σ : St} {H : Hp} {Q : VK} (Pv : Nat → List V → Hp → Prop) (h0 : Pv 0 [] H) (hl : ∀ i ys H, i ≤ xs.length → Pv i ys H → SqL K H a xs ∧ ys.length ≤ i)
    (hz : xs.length ≤ sizeLine) (hs : ∀ i x ys H, i < xs.length → xs[i]? = some x → Pv i ys H → CTurn xs.length Pv tc te (some x :: capV σ caps) i ys H)
    (hd : ∀ ys H p, Pv xs.length ys H → H p = none → Q (.ref p) (upd H p (.lst ys))) : tCompW caps tc te (Itl K a) σ H Q := by
  refine ⟨fun i m ys H => m = xs.length - i ∧ i ≤ xs.length ∧ Pv i ys H, ⟨xs.length, by simp, Nat.zero_le _, h0⟩, ?_⟩
  rintro i m ys H ⟨rfl, hi, p⟩
  obtain ⟨q, hy⟩ := hl i ys H hi p
  by_cases hlt : i < xs.length
  · refine .inr ⟨⟨xs, xs[i], q, by simp [hlt]⟩, by omega, fun x H' y => ?_⟩
    obtain ⟨e, y⟩ := y
    subst e
    exact hs i x ys _ hlt (y xs q) p
  · have e : i = xs.length := by omega
    subst e
    exact .inl ⟨⟨xs, q, Nat.le_refl _⟩, by omega, fun p' hp => hd ys H p' p hp⟩
theorem comp_range {lo : Int} {n : Nat} {caps : List Nat} {tc : TT} {te : TE} {σ : St} {H : Hp} {Q : VK} (Pv : Nat → List V → Hp → Prop) (h0 : Pv 0 [] H) (hl : ∀ i ys H, i ≤ n → Pv i ys H → ys.length ≤ i)
    (hz : n ≤ sizeLine) (hs : ∀ i ys H, i < n → Pv i ys H → CTurn n Pv tc te (some (.int (lo + i)) :: capV σ caps) i ys H)
    (hd : ∀ ys H p, Pv n ys H → H p = none → Q (.ref p) (upd H p (.lst ys))) : tCompW caps tc te (Itr lo n) σ H Q := by
  refine ⟨fun i m ys H => m = n - i ∧ i ≤ n ∧ Pv i ys H, ⟨n, by simp, Nat.zero_le _, h0⟩, ?_⟩
  rintro i m ys H ⟨rfl, hi, p⟩
  have hy := hl i ys H hi p
  by_cases hlt : i < n
  · refine .inr ⟨hlt, by omega, fun x H' y => ?_⟩
    obtain ⟨e, y⟩ := y
    subst e y
    exact hs i ys _ hlt p
  · have e : i = n := by omega
    subst e
    exact .inl ⟨Nat.le_refl _, by omega, fun p' hp => hd ys H p' p hp⟩
theorem comp_str {z : Str} {caps : List Nat} {tc : TT} {te : TE} {σ : St} {H : Hp} {Q : VK} (Pv : Nat → List V → Hp → Prop) (h0 : Pv 0 [] H) (hl : ∀ i ys H, i ≤ z.cps.size → Pv i ys H → ys.length ≤ i)
    (hz : z.cps.size ≤ sizeLine) (hs : ∀ i c ys H, i < z.cps.size → z.cps[i]? = some c → Pv i ys H → CTurn z.cps.size Pv tc te (some (.str ⟨#[c]⟩) :: capV σ caps) i ys H)
    (hd : ∀ ys H p, Pv z.cps.size ys H → H p = none → Q (.ref p) (upd H p (.lst ys))) : tCompW caps tc te (Its z) σ H Q := by
  refine ⟨fun i m ys H => m = z.cps.size - i ∧ i ≤ z.cps.size ∧ Pv i ys H, ⟨z.cps.size, by simp, Nat.zero_le _, h0⟩, ?_⟩
  rintro i m ys H ⟨rfl, hi, p⟩
  have hy := hl i ys H hi p
  by_cases hlt : i < z.cps.size
  · refine .inr ⟨hlt, by omega, fun x H' y => ?_⟩
    obtain ⟨e, c, hc, rfl⟩ := y
    subst e
    exact hs i c ys _ hlt hc p
  · have e : i = z.cps.size := by omega
    subst e
    exact .inl ⟨Nat.le_refl _, by omega, fun p' hp => hd ys H p' p hp⟩
theorem strsAre_of {ys : List Str} : ∀ {us : List Value}, Vals (ys.map V.str) us → StrsAre us ys := by
  induction ys with
  | nil => intro us r; rw [List.map_nil] at r; cases r; exact .nil
  | cons n ns ih =>
    intro us r
    rw [List.map_cons] at r
    cases r with
    | cons r1 r2 =>
      obtain ⟨t, e⟩ := r1
      subst e
      exact .cons n t (ih r2)
def rJoin (K : PySem.W.Frag) : V → List V → Hp → VK → Prop := fun x vs H Q => ∃ z a ys, x = .str z ∧ vs = [.ref a] ∧ SqL K H a (ys.map V.str) ∧ (ys.map (·.length)).sum + ys.length * z.length ≤ 16777216 ∧ Q (.str (Txt.join z ys)) H
section
variable {X : Cx}
theorem mt_join : MtR X "str.join" (rJoin X.K) := by
  intro pins s σ H x vs v us Q I rx rv h
  obtain ⟨z, a, ys, rfl, rfl, hq, hz, q⟩ := h
  obtain ⟨t, rfl⟩ := rx
  obtain ⟨u, rfl, ru⟩ := rv.one
  cases ru
  obtain ⟨its, r, pl, hl⟩ := I.list hq
  exact join_list pl.isList (strsAre_of (by simpa using r)) hz fun t' k => ⟨.str _, H, I.tok _, ⟨_, rfl⟩, q⟩
def rIsi (K : PySem.W.Frag) : List V → Hp → VK → Prop := fun vs H Q => ∃ x t b, TyOf K H x t ∧
  ((∃ n, vs = [x, .ty n] ∧ PySem.W.kitOne K t (.type n) = some b) ∨ (∃ a, vs = [x, .ref a] ∧ PySem.W.kitOne K t (.ref a) = some b)) ∧ Q (.bl b) H
theorem call_isi : CallR X (.builtin "isinstance") (rIsi X.K) := by
  intro pins s σ H xs us Q I rv h
  obtain ⟨x, t, b, ty, hv, q⟩ := h
  rcases hv with ⟨n, rfl, e⟩ | ⟨a, rfl, e⟩
  · obtain ⟨u1, u2, rfl, r1, r2⟩ := rv.two
    cases r2
    exact isinst_ok I r1 ty e fun tk => ⟨.bl b, H, I.tok _, rfl, q⟩
  · obtain ⟨u1, u2, rfl, r1, r2⟩ := rv.two
    cases r2
    exact isinst_ok I r1 ty e fun tk => ⟨.bl b, H, I.tok _, rfl, q⟩
def eqL : List V → List V → Bool
  | [], [] => true
  | x :: xs, y :: ys => eqV x y && eqL xs ys
  | _, _ => false
theorem eqV_refl {x : V} (h : flatV x = true) : eqV x x = true := by
  cases x with
  | non => rfl
  | bl b => simp [eqV]
  | int i => simp [eqV]
  | str z => simp [eqV]
  | _ => exact absurd (show false = true from h) Bool.false_ne_true
theorem eqL_refl : ∀ {xs : List V}, xs.all flatV = true → eqL xs xs = true
  | [], _ => rfl
  | x :: xs, h => by
    rw [List.all_cons, Bool.and_eq_true] at h
    rw [eqL, eqV_refl h.1, eqL_refl h.2]
    rfl
theorem eqL_len : ∀ {xs ys : List V}, xs.length ≠ ys.length → eqL xs ys = false
  | [], [], h => absurd rfl h
  | [], _ :: _, _ => rfl
  | _ :: _, [], _ => rfl
  | x :: xs, y :: ys, h => by
    rw [eqL, eqL_len (xs := xs) (ys := ys) (fun z => h (by rw [List.length_cons, List.length_cons, z])), Bool.and_false]
theorem eqL_range : ∀ {xs ys : List V}, xs.length = ys.length → (List.range xs.length).all (fun j => eqV (xs.getD j .non) (ys.getD j .non)) = eqL xs ys
  | [], [], _ => rfl
  | [], _ :: _, h => by simp at h
  | _ :: _, [], h => by simp at h
  | x :: xs, y :: ys, h => by
    have h' : xs.length = ys.length := by simpa using h
    rw [List.length_cons, List.range_succ_eq_map, List.all_cons, List.all_map]
    rw [eqL, ← eqL_range h']
    rfl
def rEqL (K : PySem.W.Frag) : R2 := fun x y H Q => ∃ p q xs ys, x = .ref p ∧ y = .ref q ∧ SqL K H p xs ∧ SqL K H q ys ∧ xs.all flatV = true ∧ ys.all flatV = true ∧ Q (.bl (eqL xs ys)) H
theorem op_eqL (hu : X.A.units < cLine) : OpR X (compareOp .Eq) (rEqL X.K) := by
  intro pins s σ H x y v u Q I rx ry h
  obtain ⟨p, q, xs, ys, rfl, rfl, hx, hy, fx, fy, k⟩ := h
  cases rx
  cases ry
  obtain ⟨its, r, pl, hz⟩ := I.list hx
  obtain ⟨its2, r2, pl2, hz2⟩ := I.list hy
  have l1 := r.length
  have l2 := r2.length
  by_cases hl : xs.length = ys.length
  · refine SeqAt.eq_listAt (e := fun j => eqV (xs.getD j .non) (ys.getD j .non)) pl.isList pl2.isList (by simp only [List.size_toArray]; omega) hu (fun j h1 h2 => ?_) ?_
    · have j1 : j < xs.length := by simp only [List.size_toArray] at h1; omega
      have j2 : j < ys.length := by omega
      obtain ⟨w1, e1, q1⟩ := r.get (i := j) (x := xs[j]) (by simp [j1])
      obtain ⟨w2, e2, q2⟩ := r2.get (i := j) (x := ys[j]) (by simp [j2])
      have g1 : its.toArray[j] = w1 := by
        have : its.toArray[j]? = some w1 := by simpa using e1
        exact Option.some.inj ((Array.getElem?_eq_getElem h1).symm.trans this)
      have g2 : its2.toArray[j] = w2 := by
        have : its2.toArray[j]? = some w2 := by simpa using e2
        exact Option.some.inj ((Array.getElem?_eq_getElem h2).symm.trans this)
      rw [g1, g2]
      have d1 : xs.getD j .non = xs[j] := by simp [List.getD, j1]
      have d2 : ys.getD j .non = ys[j] := by simp [List.getD, j2]
      show SeqAt.EqAt _ _ _ _ (eqV (xs.getD j .non) (ys.getD j .non))
      rw [d1, d2]
      exact eqAt_V q1 q2 (List.all_eq_true.mp fx _ (List.getElem_mem j1)) (List.all_eq_true.mp fy _ (List.getElem_mem j2))
    · refine ⟨.bl (eqL xs ys), H, I, ?_, k⟩
      show Value.bool _ = Value.bool _
      rw [List.size_toArray, ← l1, eqL_range hl]
  · refine SeqAt.eq_list_lengthsAt pl.isList pl2.isList (by simp only [List.size_toArray, bne_iff_ne]; omega) hu ?_
    exact ⟨.bl (eqL xs ys), H, I, by rw [eqL_len hl]; rfl, k⟩
end
open PySem
def tx (l : List Nat) : Str := ⟨l.toArray⟩
theorem tx_len (l : List Nat) : (tx l).length = l.length := by simp [tx, Str.length]
theorem tx_size (l : List Nat) : (tx l).cps.size = l.length := by simp [tx]
theorem tx_list (l : List Nat) : (tx l).cps.toList = l := by simp [tx]
theorem tx_get (l : List Nat) (i : Nat) : (tx l).cps[i]? = l[i]? := by simp [tx]
theorem tx_app (a b : List Nat) : tx a ++ tx b = tx (a ++ b) := by
  show Str.append (tx a) (tx b) = _
  simp [tx, Str.append]
theorem tx_inj {a b : List Nat} (h : tx a = tx b) : a = b := by
  have := congrArg (fun z : Str => z.cps.toList) h
  simpa [tx] using this
theorem tx_one (c : Nat) : (⟨#[c]⟩ : Str) = tx [c] := rfl
theorem glue_fold : ∀ (ys : List (List Nat)) (acc : Array Nat), (ys.map tx).foldl (fun acc p => acc ++ (tx []).cps ++ p.cps) acc = acc ++ ys.flatten.toArray
  | [], acc => by simp
  | y :: ys, acc => by
    rw [List.map_cons, List.foldl_cons, glue_fold ys]
    simp [tx]
theorem tx_join : ∀ (ys : List (List Nat)), Txt.join (tx []) (ys.map tx) = tx ys.flatten
  | [] => by simp [Txt.join, Builtin.Str.glued, tx, Str.empty]
  | y :: ys => by
    show Str.mk _ = _
    simp only [List.map_cons, List.drop_one, List.tail_cons, List.headD_cons]
    rw [glue_fold]
    simp [tx]
theorem flat1 {α : Type} (f : α → Nat) : ∀ (l : List α), (l.map fun c => [f c]).flatten = l.map f
  | [] => rfl
  | a :: l => by rw [List.map_cons, List.flatten_cons, flat1 f l]; rfl
theorem sum1 {α : Type} (f : α → Nat) : ∀ (l : List α), (((l.map fun c => [f c]).map tx).map (·.length)).sum = l.length
  | [] => rfl
  | a :: l => by
    rw [List.map_cons, List.map_cons, List.map_cons, List.sum_cons, sum1 f l, tx_len, List.length_cons]
    show 1 + l.length = l.length + 1
    omega
end L2
namespace PySem
open Sem (wp)
open Builtin Builtin.Str Builtin.Int
namespace RV
end RV
def revS (x : Str) (t : Tok) (i : Int) : Obj := { cls := .type "reversed", data := .fields #[.str x t, rawInt i] }
def Heap.IsRevS (h : Heap) (a : Addr) (x : Str) (t : Tok) (i : Int) : Prop := ∃ o, h.get? a = some o ∧ o.cls = .type "reversed" ∧ o.data = .fields #[.str x t, rawInt i]
section
variable {prog : Program} {w : World} {A : Around} {E : Value → Shared → Prop} {s : Shared}
end
end PySem
namespace L2
open PySem PySem.Spec PyProof.Rows
def revO (p : Addr) (x : Str) : HO := .ext fun h => ∃ t, h.IsRevS p x t ((x.length : Int) - 1)
def anyO (p : Addr) : HO := .ext fun h => ∃ o, h.get? p = some o
section
variable {X : Cx}
theorem call_min2R (hc : X.calm = true := by rfl) : CallR X (.builtin "min") (fun xs H Q => ∃ i j, xs = [.int i, .int j] ∧ Q (.int (if j < i then j else i)) H) := call_min2 hc
end
open PySem PySem.Spec PyProof.Rows
theorem iteDn {c A B : Prop} [Decidable c] (h : ¬ c) (k : B) : if decide c = true then A else B := by rw [decide_eq_false h]; exact iteF k
theorem iteDp {c A B : Prop} [Decidable c] (h : c) (k : A) : if decide c = true then A else B := by rw [decide_eq_true h]; exact iteT k
theorem iteNp {c A B : Prop} [Decidable c] (h : ¬ c) (k : A) : if (!decide c) = true then A else B := by rw [decide_eq_false h]; exact iteT k
theorem iteB {b : Bool} {A B : Prop} (h1 : b = true → A) (h2 : b = false → B) : if b = true then A else B := by
  cases b with
  | true => exact iteT (h1 rfl)
  | false => exact iteF (h2 rfl)
theorem ite2D {c A B : Prop} [Decidable c] (h1 : c → A) (h2 : ¬ c → B) : if decide c = true then A else B := by
  by_cases h : c
  · exact iteDp h (h1 h)
  · exact iteDn h (h2 h)
theorem Same.upd {H : Hp} {p : Addr} {o : HO} (h : H p = none) : Same H (L2.upd H p o) := fun b o' e => by rw [upd_ne (ne_of_none e h)]; exact e
theorem Same.new {H H1 : Hp} {p : Addr} {o : HO} (e : Same H H1) (h : H1 p = none) : Same H (L2.upd H1 p o) := e.trans (.upd h)
theorem Same.over {H H1 : Hp} {p : Addr} {o : HO} (e : Same H H1) (h : H p = none) : Same H (L2.upd H1 p o) := fun b o' q => by rw [upd_ne (ne_of_none q h)]; exact e b o' q
theorem bt_len : bootBuiltins "len" = some (.builtin "len") := by decide +kernel
theorem bt_isinstance : bootBuiltins "isinstance" = some (.builtin "isinstance") := by decide +kernel
theorem bt_min : bootBuiltins "min" = some (.builtin "min") := by decide +kernel
theorem bt_max : bootBuiltins "max" = some (.builtin "max") := by decide +kernel
theorem bt_sorted : bootBuiltins "sorted" = some (.builtin "sorted") := by decide +kernel
theorem bt_list : bootBuiltins "list" = some (.type "list") := by decide +kernel
theorem bt_str : bootBuiltins "str" = some (.type "str") := by decide +kernel
theorem bt_zip : bootBuiltins "zip" = some (.type "zip") := by decide +kernel
theorem bt_set : bootBuiltins "set" = some (.type "set") := by decide +kernel
structure Df (K : PySem.W.Frag) (mg : Str → Option Value) (x : Str) (st : Stmt) (ps : List Str) (f : Addr) (fd : FuncData) : Prop where
  F : Fun K x x st f fd
  m : mg x = some (.ref f)
  b : Binds K fd ps []
def vS (cl : List (List Nat)) : List V := cl.map fun t => V.str (tx t)
def vI (ns : List Int) : List V := ns.map V.int
theorem vS_len (cl : List (List Nat)) : (vS cl).length = cl.length := by unfold vS; rw [List.length_map]
theorem vI_len (ns : List Int) : (vI ns).length = ns.length := by unfold vI; rw [List.length_map]
theorem vS_get {cl : List (List Nat)} {i : Nat} {t : List Nat} (h : cl[i]? = some t) : (vS cl)[i]? = some (.str (tx t)) := by unfold vS; rw [List.getElem?_map, h]; rfl
theorem vI_get {ns : List Int} {i : Nat} {n : Int} (h : ns[i]? = some n) : (vI ns)[i]? = some (.int n) := by unfold vI; rw [List.getElem?_map, h]; rfl
theorem vS_got {cl : List (List Nat)} {i : Nat} {v : V} (h : (vS cl)[i]? = some v) : ∃ t, cl[i]? = some t ∧ v = .str (tx t) := by
  unfold vS at h
  rw [List.getElem?_map] at h
  cases e : cl[i]? with
  | none => rw [e] at h; cases h
  | some t => rw [e] at h; exact ⟨t, rfl, (Option.some.inj h).symm⟩
theorem vI_got {ns : List Int} {i : Nat} {v : V} (h : (vI ns)[i]? = some v) : ∃ t, ns[i]? = some t ∧ v = .int t := by
  unfold vI at h
  rw [List.getElem?_map] at h
  cases e : ns[i]? with
  | none => rw [e] at h; cases h
  | some t => rw [e] at h; exact ⟨t, rfl, (Option.some.inj h).symm⟩
theorem vI_flat (ns : List Int) : (vI ns).all flatV = true := by unfold vI; rw [List.all_map]; exact List.all_eq_true.mpr fun _ _ => rfl
theorem vS_flat (cl : List (List Nat)) : (vS cl).all flatV = true := by unfold vS; rw [List.all_map]; exact List.all_eq_true.mpr fun _ _ => rfl
theorem vS_map (cl : List (List Nat)) : vS cl = (cl.map tx).map V.str := by unfold vS; rw [List.map_map]; rfl
theorem vI_set (ns : List Int) (j : Nat) (n : Int) : (vI ns).set j (.int n) = vI (ns.set j n) := by unfold vI; rw [List.map_set]
theorem vI_app (ns : List Int) (n : Int) : vI ns ++ [.int n] = vI (ns ++ [n]) := by unfold vI; rw [List.map_append]; rfl
theorem vS_app (cl : List (List Nat)) (t : List Nat) : vS cl ++ [.str (tx t)] = vS (cl ++ [t]) := by unfold vS; rw [List.map_append]; rfl
theorem atI_of {α : Type} {xs : List α} {i : Int} {v : α} (h0 : 0 ≤ i) (h : xs[i.toNat]? = some v) : atI xs i = some v := by
  have e : i = (i.toNat : Int) := by omega
  rw [e]
  exact atI_nat h
theorem ixN_of {n : Nat} {i : Int} (h0 : 0 ≤ i) (h : i < n) : ixN n i = some i.toNat := by unfold ixN; rw [if_pos h0, if_pos h]
open PySem PySem.Spec PyProof.Rows
section
variable {X : Cx} {K : PySem.W.Frag} {tg : Expr}
theorem ix_listK (hK : X.K = K := by rfl) : IxR X (rIxL K) := by subst hK; exact ix_list
theorem ix_tupK (hK : X.K = K := by rfl) : IxR X (rIxT K) := by subst hK; exact ix_tup
theorem op_in_seqK (hK : X.K = K := by rfl) : OpR X (compareOp .In) (rIn K false) := by subst hK; exact op_in_seq
theorem op_notIn_seqK (hK : X.K = K := by rfl) : OpR X (compareOp .NotIn) (rIn K true) := by subst hK; exact op_notIn_seq
theorem op_eqLK (hu : X.A.units < cLine) (hK : X.K = K := by rfl) : OpR X (compareOp .Eq) (rEqL K) := by subst hK; exact op_eqL hu
theorem call_len_seqK (hK : X.K = K := by rfl) : CallR X (.builtin "len") (fun xs H Q => ∃ p ys, xs = [.ref p] ∧ (SqL K H p ys ∨ SqT K H p ys) ∧ Q (.int ys.length) H) := by subst hK; exact call_len_seq
theorem call_list_ofK (hK : X.K = K := by rfl) : CallR X (.type "list") (fun xs H Q => ∃ p ys, xs = [.ref p] ∧ (SqL K H p ys ∨ SqT K H p ys) ∧ ∀ l, H l = none → Q (.ref l) (upd H l (.lst ys))) := by subst hK; exact call_list_of
theorem call_isiK (hK : X.K = K := by rfl) : CallR X (.builtin "isinstance") (rIsi K) := by subst hK; exact call_isi
theorem mt_joinK (hK : X.K = K := by rfl) : MtR X "str.join" (rJoin K) := by subst hK; exact mt_join
theorem sl_listK (hK : X.K = K := by rfl) : SlR X (rSlL K) := by subst hK; exact sl_list
theorem pi_listK {l : Expr} {tl : TE} (hl : PE X l tl) (hK : X.K = K := by rfl) : PI X tg l (iList K tl) := by subst hK; exact pi_list hl
theorem pt_truthK {a : Expr} {ta : TE} (ha : PE X a ta) (he : ∀ whole, isTrue a X.env whole = (do let v ← whole; standAt a.pos; holding [v] (truthy v))) (hK : X.K = K := by rfl) :
    PT X a (fun σ H Q => ta σ H fun x H' => ∃ k, TruV K x H' k ∧ Q k H') := by subst hK; exact pt_truth ha he
variable {o e : Expr} {es : List Expr} {to : TE} {t : TA} {name : Str} {apos cpos : Pos} {T id : String} {r : V → List V → Hp → VK → Prop}
theorem pe_bmK (pa : PlainAttrs T) (slot : Slot T name id) (hty : typeOf (.builtin id) = pure (.type "method_descriptor")) (hm : MtR X id r) (ho : PE X o to) (ha : PA X (e :: es) t)
    (hbase : attributeBase o name X.env (eval o X.env) = eval o X.env := by rfl)
    (hfew : ((backTo cpos (starEach (e :: es) X.env)).all (fun x => !x.1) && (backToKw cpos (keywordEach [] X.env)).all (fun x => x.1.isSome)
      && decide ((e :: es).length + ([] : List Keyword).length + (if ([] : List Keyword).isEmpty then 0 else 1) < 30)) = true := by rfl)
    (hline : (apos.endLine == cpos.line) = true := by rfl) (hs : starEach (e :: es) X.env = (false, eval e X.env) :: starEach es X.env := by rfl) (hplain : (backTo cpos (starEach es X.env)).any (·.1) = false := by rfl) (hK : X.K = K := by rfl) :
    PE X (.Call (.Attribute o name apos) (e :: es) [] cpos) (tBM K T r to t) := by
  subst hK
  exact pe_bm pa slot hty hm ho ha hbase hfew hline hs hplain
end
open PySem PySem.Spec PyProof.Rows
abbrev exO (C t : Addr) (tb : Value) : Obj := { cls := .ref C, data := .fields #[.ref t, tb, .none, .none, .bool false, .none] }
structure Fx (B : Heap) (l : List Env) (e C t : Addr) (fl : Value) (h : Heap) : Prop where
  st : B.StaysIn h
  ne : B.get? e = none
  fr : h.FunFrames B l
  ob : ∃ (T : Addr) (oT : Obj) (ts : Array Value), h.get? e = some (exO C t (.ref T)) ∧ B.get? T = none ∧ T ≠ e ∧ h.get? T = some oT ∧ oT.data = .fields ts ∧ ts[3]? = some fl
theorem Fx.outer {B : Heap} {env : Env} {l : List Env} {e C t : Addr} {fl : Value} {h : Heap} (x : Fx B (env :: l) e C t fl h) : Fx B l e C t fl h := ⟨x.st, x.ne, x.fr.2.2, x.ob⟩
section
variable {M : Model} {A : Around} {E : Value → Shared → Prop} {s : Shared} {B : Heap} {env : Env} {l : List Env} {e C t L : Addr}
theorem fx_land {fl : Value} {Q : Unit → Shared → Prop} (x : Fx B l e C t fl s.heap) (k : ∀ h', Fx B l e C t .none h' → s.heap.UpToSlots h' → Q () { s with heap := h' }) : wpAny M A (setFlight (.ref e) none) Q E s := by
  obtain ⟨st, ne, fr, T, oT, ts, hE, hBT, hTe, hT, hdT, h3⟩ := x
  have h3s : 3 < ts.size := (Array.getElem?_eq_some_iff.mp h3).1
  unfold setFlight
  refine wpAny_bind (wpAny_field hE rfl (x := .ref T) rfl ?_)
  rw [if_pos (show (Value.ref T != Value.none) = true by simp)]
  refine wpAny_setField hT hdT h3s (k _ ?_ ?_)
  all_goals
    have oth : ∀ b, b ≠ T → (s.heap.update T (Obj.mapFields (·.setIfInBounds 3 ((none : Option Addr).elim Value.none fun f => rawInt f)))).get? b = s.heap.get? b := fun b hb => Heap.get?_update_other _ _ (Ne.symm hb)
    have nrec : ∀ b o, s.heap.get? b = some o → (∀ vs, o.data ≠ .fields vs) → b ≠ T := fun b o hb hn q => by
      rw [q, hT] at hb
      cases hb
      exact hn ts hdT
  · refine ⟨fun b o hb => (oth b fun q => by rw [q, hBT] at hb; cases hb).trans (st b o hb), ne, fr.of_keeps fun b o hb hn => ⟨o, (oth b (nrec b o hb hn)).trans hb, rfl⟩, T, _, _, (oth e (Ne.symm hTe)).trans hE, hBT, hTe,
      Heap.get?_update_self _ hT (Obj.isFreed_of_fields (Obj.data_mapFields hdT _)), Obj.data_mapFields hdT _, ?_⟩
    simp [h3s]
  · exact fun b o hb hn => ⟨o.slots, (oth b (nrec b o hb hn)).trans hb⟩
theorem fx_enter {tb : Value} {had : Bool} {Q : Unit → Shared → Prop} (hfr : A.frames = some (env :: l)) (hf : env.frame = some L) (st : B.StaysIn s.heap) (ne : B.get? e = none) (fr : s.heap.FunFrames B (env :: l))
    (hE : s.heap.get? e = some (exO C t tb)) (k : ∀ h', Fx B (env :: l) e C t (rawInt L) h' → s.heap.UpToSlots h' → Q () { s with heap := h' }) :
    wpAny M A (do let a ← frameOf env; let pl ← entryPlaceOf L had; let b ← EntryCells.newEntry tb a .none (rawInt L) .none pl; setField (.ref e) 1 b) Q E s := by
  have eF : e ∉ (env :: l).filterMap (·.frame) := fun hm => by
    obtain ⟨_, o, ho, hn⟩ := fr.mem hm
    rw [hE] at ho
    cases ho
    exact hn _ rfl
  refine wpAny_bind (wpAny_frameOf_fun hfr fr hf fun h1 so => wpAny_bind (wpAny_entryPlaceOf fun pl hpl => ?_))
  unfold EntryCells.newEntry newFields
  refine wpAny_bind (wpAny_newObj_type ?_ (hpl.sizeOk5 _ _ _ _ _))
  have E1 : h1.get? e = some (exO C t tb) := (so.2.1 e eF).trans hE
  have st1 : B.StaysIn h1 := fun b o hb => (so.2.1 b fun hm => by rw [(fr.mem hm).1] at hb; cases hb).trans (st b o hb)
  have TE : h1.objs.size ≠ e := Nat.ne_of_gt (Heap.lt_size E1)
  generalize hN : ({ cls := .type "traceback", dict := none, data := .fields ([tb, .ref L, .none, rawInt L, .none] ++ (if pl.isEmpty then List.replicate 6 Value.none else pl)).toArray } : Obj) = nT
  have E2 : (h1.push nT).get? e = some (exO C t tb) := Heap.get?_push_of_some nT E1
  refine wpAny_setField (s := { s with heap := h1.push nT }) E2 rfl (by show 1 < 6; decide) (k _ ?_ ?_)
  all_goals
    have kp : ∀ b o, b ≠ e → h1.get? b = some o → ((h1.push nT).update e (Obj.mapFields (·.setIfInBounds 1 (Value.ref h1.objs.size)))).get? b = some o := fun b o hb q =>
      (Heap.get?_update_other _ _ (Ne.symm hb)).trans (Heap.get?_push_of_some nT q)
    have nrec : ∀ b o, s.heap.get? b = some o → (∀ vs, o.data ≠ .fields vs) → b ≠ e := fun b o hb hn q => by
      rw [q, hE] at hb
      cases hb
      exact hn _ rfl
  · have freed : nT.isFreed = false := by rw [← hN]; rfl
    refine ⟨fun b o hb => kp b o (fun q => by rw [q, ne] at hb; cases hb) (st1 b o hb), ne, fr.of_keeps fun b o hb hn => ?_, h1.objs.size, nT, _, Heap.get?_update_self _ E2 rfl, st1.fresh, TE,
      (Heap.get?_update_other _ _ (Ne.symm TE)).trans (Heap.get?_push_size h1 freed), by rw [← hN], by simp⟩
    obtain ⟨sl, q⟩ := so.2.2 b o hb
    exact ⟨_, kp b _ (nrec b o hb hn) q, rfl⟩
  · intro b o hb hn
    obtain ⟨sl, q⟩ := so.2.2 b o hb
    exact ⟨sl, kp b _ (nrec b o hb hn) q⟩
theorem fx_note0 {Q : Unit → Shared → Prop} (hfr : A.frames = some (env :: l)) (hf : env.frame = some L) (st : B.StaysIn s.heap) (ne : B.get? e = none) (fr : s.heap.FunFrames B (env :: l))
    (hE : s.heap.get? e = some (exO C t .none)) (k : ∀ h', Fx B (env :: l) e C t (rawInt L) h' → s.heap.UpToSlots h' → Q () { s with heap := h' }) : wpAny M A (noteFrame (.ref e) env) Q E s := by
  unfold noteFrame
  simp only [hf]
  refine wpAny_bind (wpAny_field hE rfl (x := .none) rfl ?_)
  rw [if_neg (by decide)]
  exact fx_enter hfr hf st ne fr hE k
theorem fx_note {Q : Unit → Shared → Prop} (hfr : A.frames = some (env :: l)) (hf : env.frame = some L) (x : Fx B (env :: l) e C t .none s.heap)
    (k : ∀ h', Fx B (env :: l) e C t (rawInt L) h' → s.heap.UpToSlots h' → Q () { s with heap := h' }) : wpAny M A (noteFrame (.ref e) env) Q E s := by
  obtain ⟨st, ne, fr, T, oT, ts, hE, hBT, hTe, hT, hdT, h3⟩ := x
  unfold noteFrame
  simp only [hf]
  refine wpAny_bind (wpAny_field hE rfl (x := .ref T) rfl ?_)
  rw [if_pos (show (Value.ref T != Value.none) = true by simp)]
  refine wpAny_bind (wpAny_field hT hdT h3 ?_)
  rw [if_neg (show ¬ ((Value.none == rawInt L) = true) by simp [rawInt])]
  refine wpAny_bind (wpAny_setField hT hdT (Array.getElem?_eq_some_iff.mp h3).1 ?_)
  have oth : ∀ b, b ≠ T → (s.heap.update T (Obj.mapFields (·.setIfInBounds 3 Value.none))).get? b = s.heap.get? b := fun b hb => Heap.get?_update_other _ _ (Ne.symm hb)
  have nrec : ∀ b o, s.heap.get? b = some o → (∀ vs, o.data ≠ .fields vs) → b ≠ T := fun b o hb hn q => by
    rw [q, hT] at hb
    cases hb
    exact hn ts hdT
  exact fx_enter (s := { s with heap := s.heap.update T (Obj.mapFields (·.setIfInBounds 3 Value.none)) }) hfr hf (fun b o hb => (oth b fun q => by rw [q, hBT] at hb; cases hb).trans (st b o hb)) ne
    (fr.of_keeps fun b o hb hn => ⟨o, (oth b (nrec b o hb hn)).trans hb, rfl⟩) ((oth e (Ne.symm hTe)).trans hE)
    fun h' y u => k h' y fun b o hb hn => u b o ((oth b (nrec b o hb hn)).trans hb) hn
end
open PySem PySem.Spec PyProof.Rows
section
variable {M : Model} {A : Around} {E : Value → Shared → Prop} {s : Shared} {B : Heap} {env : Env} {l : List Env} {e C t L : Addr}
theorem fx_flight {fl : Value} {f : Option Addr} {Q : Unit → Shared → Prop} (x : Fx B l e C t fl s.heap) (k : ∀ h', Fx B l e C t (f.elim Value.none fun f => rawInt f) h' → s.heap.UpToSlots h' → Q () { s with heap := h' }) : wpAny M A (setFlight (.ref e) f) Q E s := by
  obtain ⟨st, ne, fr, T, oT, ts, hE, hBT, hTe, hT, hdT, h3⟩ := x
  have h3s : 3 < ts.size := (Array.getElem?_eq_some_iff.mp h3).1
  unfold setFlight
  refine wpAny_bind (wpAny_field hE rfl (x := .ref T) rfl ?_)
  rw [if_pos (show (Value.ref T != Value.none) = true by simp)]
  refine wpAny_setField hT hdT h3s (k _ ?_ ?_)
  all_goals
    have oth : ∀ b, b ≠ T → (s.heap.update T (Obj.mapFields (·.setIfInBounds 3 (f.elim Value.none fun f => rawInt f)))).get? b = s.heap.get? b := fun b hb => Heap.get?_update_other _ _ (Ne.symm hb)
    have nrec : ∀ b o, s.heap.get? b = some o → (∀ vs, o.data ≠ .fields vs) → b ≠ T := fun b o hb hn q => by
      rw [q, hT] at hb
      cases hb
      exact hn ts hdT
  · refine ⟨fun b o hb => (oth b fun q => by rw [q, hBT] at hb; cases hb).trans (st b o hb), ne, fr.of_keeps fun b o hb hn => ⟨o, (oth b (nrec b o hb hn)).trans hb, rfl⟩, T, _, _, (oth e (Ne.symm hTe)).trans hE, hBT, hTe,
      Heap.get?_update_self _ hT (Obj.isFreed_of_fields (Obj.data_mapFields hdT _)), Obj.data_mapFields hdT _, ?_⟩
    simp [h3s]
  · exact fun b o hb hn => ⟨o.slots, (oth b (nrec b o hb hn)).trans hb⟩
theorem fx_noteN {Q : Unit → Shared → Prop} (hf : env.frame = some L) (x : Fx B l e C t (rawInt L) s.heap) (k : Q () s) : wpAny M A (noteFrame (.ref e) env) Q E s := by
  obtain ⟨st, ne, fr, T, oT, ts, hE, hBT, hTe, hT, hdT, h3⟩ := x
  unfold noteFrame
  simp only [hf]
  refine wpAny_bind (wpAny_field hE rfl (x := .ref T) rfl ?_)
  rw [if_pos (show (Value.ref T != Value.none) = true by simp)]
  refine wpAny_bind (wpAny_field hT hdT h3 ?_)
  rw [if_pos (show ((rawInt L == rawInt L) = true) by simp)]
  exact wpAny_pure k
end
structure Bk (P : Program) (w : World) (outer : List Env) (H : Hp) (h : Heap) (H' : Hp) (B h' : Heap) : Prop where
  ok : HOk P w H' B
  keep : ∀ b o, h.get? b = some o → H b = none → b ∉ frs outer → B.get? b = some o
  slot : ∀ b o, h.get? b = some o → b ∈ frs outer → ∃ sl, h'.get? b = some { o with slots := sl }
  free : ∀ b o, h.get? b = some o → H b = none → H' b = none
  there : ∀ b o, h.get? b = some o → b ∉ frs outer → ∃ o', B.get? b = some o'
  tups : ∀ b xs, H b = some (.tup xs) → H' b = some (.tup xs)
  frzs : ∀ b o u, H b = some (.frz o u) → H' b = some (.frz o u)
  tbls : ∀ b ps, H b = some (.tbl ps) → ∃ more, H' b = some (.tbl (ps ++ more))
theorem Bk.slots {P : Program} {w : World} {outer : List Env} {H H' : Hp} {h B h1 h2 : Heap} (k : Bk P w outer H h H' B h1) (fr : h1.FunFrames B outer) (u : h1.UpToSlots h2) : Bk P w outer H h H' B h2 :=
  ⟨k.ok, k.keep, fun b o q hb => by
    obtain ⟨sl, e⟩ := k.slot b o q hb
    obtain ⟨_, o2, e2, n2⟩ := fr.mem hb
    rw [e] at e2
    cases e2
    obtain ⟨sl2, e3⟩ := u b _ e n2
    exact ⟨sl2, e3⟩, k.free, k.there, k.tups, k.frzs, k.tbls⟩
def CX1 (P : Program) (w : World) : CXT := fun outer H s E e s' => ∃ ea C t H' B, e = .ref ea ∧ Fx B outer ea C t .none s'.heap ∧ s'.os = s.os ∧ AllBare s'.gens ∧ Bk P w outer H s.heap H' B s'.heap ∧ E (.ref C) none H'
inductive Fly (B : Heap) (l : List Env) (L ea C t : Addr) (h : Heap) : Prop where
  | new (st : B.StaysIn h) (ne : B.get? ea = none) (fr : h.FunFrames B l) (ob : h.get? ea = some (exO C t .none))
  | came (x : Fx B l ea C t .none h)
  | seen (x : Fx B l ea C t (rawInt L) h)
theorem Fly.fr {B : Heap} {l : List Env} {L ea C t : Addr} {h : Heap} (x : Fly B l L ea C t h) : h.FunFrames B l := by
  cases x with
  | new st ne fr ob => exact fr
  | came x => exact x.fr
  | seen x => exact x.fr
def FlX (X : Cx) (E : XK) : Value → Shared → Prop := fun e s' => ∃ ea C t H' B, e = .ref ea ∧ Fly B X.stack X.env.locals ea C t s'.heap ∧ s'.os = X.s₀.os ∧ AllBare s'.gens ∧ Bk X.prog X.w X.outer X.H₀ X.s₀.heap H' B s'.heap ∧ E (.ref C) none H'
structure Body (X : Cx) : Prop where
  stack : X.stack = X.env :: X.outer
  frame : X.env.frame = some X.env.locals
  ex : X.ex = []
section
variable {X : Cx} {pins : List (Addr × Obj)} {σ : St} {H : Hp} {s s' : Shared} {E : XK} {e : Value}
theorem Inv.frsN (I : Inv X pins σ H s) {b : Addr} {o : Obj} (q : X.s₀.heap.get? b = some o) (hb : b ∉ X.fs) : b ∉ frs X.stack := fun hm => by
  rcases List.mem_cons.mp (I.stkSub b hm) with z | z
  · rw [z] at q
    exact absurd (Nat.lt_of_lt_of_le (Heap.lt_size q) I.ok.above) (Nat.lt_irrefl _)
  · exact hb z
theorem passX (hB : Body X) (I : Inv X pins σ H s) (c : CX1 X.prog X.w X.stack H s E e s') : FlX X E e s' := by
  obtain ⟨ea, C, t, H', B, rfl, fx, os, bare, bk, q⟩ := c
  have nx : ∀ b : Addr, b ∉ X.ex := fun b z => by rw [hB.ex] at z; exact nomatch z
  have fsS : ∀ b, b ∈ X.fs → b ∈ frs X.stack := fun b hb => by
    rw [hB.stack]; unfold frs; rw [List.filterMap_cons, hB.frame]; exact List.mem_cons_of_mem _ hb
  refine ⟨ea, C, t, H', B, rfl, .came fx, os.trans I.os, bare, ⟨bk.ok, fun b o e n hb => ?_, fun b o e hb => ?_, fun b o e n => ?_, fun b o e hb => ?_, fun b xs e => bk.tups b xs (I.base.tups b xs e), fun b o u e => bk.frzs b o u (I.base.frzs b o u e), fun b ps e => ?_⟩, q⟩
  · exact bk.keep b o (I.base.keep b o e n hb (nx b)) (I.base.free b o e n (nx b)) (I.frsN e hb)
  · obtain ⟨sl, e1⟩ := I.base.slot b o e (I.ok.frf b hb) hb (nx b)
    obtain ⟨sl2, e2⟩ := bk.slot b _ e1 (fsS b hb)
    exact ⟨sl2, e2⟩
  · obtain ⟨o', e1⟩ := I.base.there b o e (nx b)
    exact bk.free b o' e1 (I.base.free b o e n (nx b))
  · obtain ⟨o', e1⟩ := I.base.there b o e (nx b)
    exact bk.there b o' e1 (I.frsN e hb)
  · obtain ⟨m1, e1⟩ := I.base.tbls b ps e
    obtain ⟨m2, e2⟩ := bk.tbls b _ e1
    exact ⟨m1 ++ m2, by rw [e2, Array.append_assoc]⟩
theorem madeX {h' : Heap} {ea C : Addr} {vs : List Value} (hB : Body X) (I : Inv X pins σ H s) (hx : Heap.MadeExcOf s.heap h' ea (.ref C) vs) (q : E (.ref C) none H) : FlX X E (.ref ea) { s with heap := h' } := by
  obtain ⟨t, ht, _, _⟩ := hx.there
  have nx : ∀ b : Addr, b ∉ X.ex := fun b z => by rw [hB.ex] at z; exact nomatch z
  have nfr : ∀ b u, H b = some u → b ∉ frs X.stack := fun b u e hm => by rw [I.stkFree b hm] at e; cases e
  refine ⟨ea, C, t, H, PySem.W.hideAll s.heap (frs X.stack), rfl, .new (fun b o e => hx.keeps b o (PySem.W.of_hideAll _ e)) ?_ ?_ ht, I.os, I.bare, ⟨fun b u e => ?_, fun b o e n hb => ?_, fun b o e hb => ?_, fun b o e n => I.base.free b o e n (nx b), fun b o e hb => ?_, I.base.tups, I.base.frzs, I.base.tbls⟩, q⟩
  · cases z : (PySem.W.hideAll s.heap (frs X.stack)).get? ea with
    | none => rfl
    | some o =>
      have := PySem.W.of_hideAll _ z
      rw [hx.new] at this
      cases this
  · exact (PySem.W.funFrames_hide I.stack fun env he a ha => List.mem_filterMap.mpr ⟨env, he, ha⟩).of_keeps fun b o hb _ => ⟨o, hx.keeps b o hb, rfl⟩
  · refine (I.hok b u e).stay (fun c v hc z => PySem.W.hideAll_get _ z ?_) (fun _ z => z) fun _ _ z => z
    rcases hc with z | z
    · rw [z]; exact nfr b u e
    · exact nfr c _ z
  · exact PySem.W.hideAll_get _ (I.base.keep b o e n hb (nx b)) (I.frsN e hb)
  · obtain ⟨sl, e1⟩ := I.base.slot b o e (I.ok.frf b hb) hb (nx b)
    exact ⟨sl, hx.keeps _ _ e1⟩
  · obtain ⟨o', e1⟩ := I.base.there b o e (nx b)
    exact ⟨o', PySem.W.hideAll_get _ e1 (I.frsN e hb)⟩
theorem noteX {M : Model} {Q : Unit → Shared → Prop} {E' : Value → Shared → Prop} {B : Heap} {ea C t : Addr} (hB : Body X) (hfr : X.A.frames = some X.stack) (x : Fly B X.stack X.env.locals ea C t s.heap)
    (k : ∀ h', Fx B X.stack ea C t (rawInt X.env.locals) h' → s.heap.UpToSlots h' → Q () { s with heap := h' }) : wpAny M X.A (noteFrame (.ref ea) X.env) Q E' s := by
  rw [hB.stack] at x hfr k
  cases x with
  | new st ne fr ob => exact fx_note0 hfr hB.frame st ne fr ob k
  | came x => exact fx_note hfr hB.frame x k
  | seen x => exact fx_noteN hB.frame x (k s.heap x (.refl _))
theorem frs_sub (hB : Body X) {B h : Heap} (x : h.FunFrames B X.stack) : h.FunFrames B X.outer := by
  rw [hB.stack] at x
  exact x.2.2
theorem leaveX {M : Model} {E' : Value → Shared → Prop} (hB : Body X) (hfr : X.A.frames = some X.stack) (c : FlX X E e s) : wpAny M X.A (leaving X.env e) (fun _ s'' => CX1 X.prog X.w X.outer X.H₀ X.s₀ E e s'') E' s := by
  obtain ⟨ea, C, t, H', B, rfl, fx, os, bare, bk, q⟩ := c
  unfold leaving
  refine wpAny_bind (noteX hB hfr fx fun h1 x1 u1 => fx_land (s := { s with heap := h1 }) x1 fun h2 x2 u2 => ?_)
  have x3 := x2
  rw [hB.stack] at x3
  exact ⟨ea, C, t, H', B, rfl, x3.outer, os, bare, bk.slots (frs_sub hB fx.fr) (u1.trans u2), q⟩
theorem ownX (hB : Body X) (hfr : X.A.frames = some X.stack) : PassesOwn (model X.prog X.w) X.A X.env (FlX X E) := by
  rintro e s ⟨ea, C, t, H', B, rfl, fx, os, bare, bk, q⟩
  unfold notedBy
  refine noteX hB hfr fx fun h1 x1 u1 => ?_
  obtain ⟨T, oT, ts, hE, _⟩ := x1.ob
  unfold cameBackBy
  refine wpAny_bind (wpAny_field (s := { s with heap := h1 }) hE rfl (x := .ref T) rfl ?_)
  rw [if_neg (by simp)]
  refine fx_flight (s := { s with heap := h1 }) (f := X.env.frame) x1 fun h2 x2 u2 => ?_
  rw [hB.frame] at x2
  exact ⟨ea, C, t, H', B, rfl, .seen x2, os, bare, bk.slots (frs_sub hB fx.fr) (u1.trans u2), q⟩
end
open PySem PySem.Spec PyProof.Rows
def mroK (K : PySem.W.Frag) (C : Addr) : List Value := match K.lookup C with
  | some ⟨_, _, .cls cd, _⟩ => cd.mro
  | _ => []
theorem exc_obj {K : PySem.W.Frag} {h : Heap} {C : Addr} {bmB : List Value} {nid : String} (X : K.In h) (q : PySem.W.excIn K C bmB nid = true) :
    ∃ bm N nm qn bs hdct sn sub ab col dd k0 k1 k2 k3 k5 mN, mroK K C = .ref C :: bm ∧ h.get? C = some (excClassObj nm qn C N bs bm hdct sn sub ab col dd k0 k1 k2 k3 k5 nid) ∧ h.Ns N mN ∧ mN "__init__" = none ∧ OwnTail h bmB bm := by
  unfold PySem.W.excIn at q
  split at q
  next dd cd sl ho =>
    split at q
    next C' bm k0 k1 k2 k3 n k5 hm hs =>
      have hM : mroK K C = cd.mro := by unfold mroK; rw [ho]
      simp only [Bool.and_eq_true, beq_iff_eq, Bool.not_eq_true'] at q
      obtain ⟨⟨⟨⟨⟨q1, q2⟩, hdel⟩, ht⟩, hok⟩, hni⟩ := q
      subst q1 q2
      have hsl : sl = #[k0, k1, k2, k3, some (.builtin n), k5] := by rw [← hs]
      rw [hm] at hM
      cases cd
      dsimp only at hm hdel hok hni
      subst hm hdel hsl
      exact ⟨bm, _, _, _, _, _, _, _, _, _, dd, k0, k1, k2, k3, k5, _, hM, X _ _ ho, .of_isNs (PySem.W.isNs_of_in X hok), PySem.W.nsMap_none_of_in X hok hni, PySem.W.tail_of_in X ht⟩
    next => cases q
  next => cases q
def tRaise (C : Addr) (E : XK) (t : TA) : TS := fun _ σ H => t σ H fun vs H1 => vs.length ≤ sizeLine ∧ E (.ref C) none H1
section
variable {X : Cx} {x : Str} {C : Addr} {bmB bmN : List Value} {B Bn nid nid' iid iid' : String} {E : XK} {e : Expr} {es : List Expr} {t : TA} {np cpos pos : Pos}
theorem ps_raise (hB : Body X) (hc : X.calm = true) (hw : ∀ e s', FlX X E e s' → X.xe e s') (Fn : ExcBaseFacts Bn nid iid bmN) (hn : bmB.contains (.type Bn) = true) (FB : ExcBaseFacts B nid' iid' bmB) (q : PySem.W.excIn X.K C bmB nid = true) (hg : Gl X x) (hm : X.mg x = some (.ref C)) (ha : PA X.nox (e :: es) t)
    (hd : (x == ("__debug__" : Str)) = false := by decide) (he : starEach (e :: es) X.env = (false, eval e X.env) :: starEach es X.env := by rfl) (hpl : (backTo cpos (starEach es X.env)).any (·.1) = false := by rfl) :
    PS X (.Raise (some (.Call (.Name x np) (e :: es) [] cpos)) none pos) (tRaise C E t) := by
  intro pins s σ H D I h
  obtain ⟨bm, N, nm, qn, bs, hdct, sn, sub, ab, col, dd, k0, k1, k2, k3, k5, mN, _, hC, hN, hni, T⟩ := exc_obj I.ok.mod.kin q
  refine wpAny_Raise_call_subU (N := N) (C := C) (k5 := k5) (k3 := k3) (k2 := k2) (k1 := k1) (k0 := k0) (dd := dd) (col := col) (ab := ab) (sub := sub) (sn := sn) (hdct := hdct) (bs := bs) (q := qn) (nm := nm) (newId := nid) Fn hn FB (mN := mN) (T.hasType FB.hasBase) (I.ok.hd hc) (by rw [he]; show (false || (backTo cpos (starEach es X.env)).any (·.1)) = false; rw [hpl]; rfl) hni (ld_glob I hg hm ⟨rfl, ?_⟩ hd)
  have h1 := ha cpos pins s σ H _ (I.wish _) h
  rw [he] at h1 ⊢
  refine Calls.evalArgs_plain (wpAny_mono h1 (fun us s2 z => ?_) fun _ _ z => z.elim)
  obtain ⟨vs, H1, I1, r, hl, hE⟩ := z
  have I2 : Inv X pins σ H1 s2 := I1.unwish
  exact ⟨rfl, by rw [← r.length]; exact hl, I2.bk _ _ hC, hN.keeps I2.bk, T.keeps I2.bk, fun h' ea hx => hw _ _ (madeX hB I2 hx hE)⟩
end
abbrev cx1 (P : Program) (w : World) (K : PySem.W.Frag) (mg : Str → Option Value) (base : Heap) (N : List Str) (qual : Str) (scope : Scope) (f : Addr) (cd : Value) (A : Around) (outer : List Env) (s : Shared) (H : Hp) (E : XK) : Cx :=
  (cxOf (CX1 P w) P w K mg base N qual scope f cd A outer s H E).wish (FlX (cxOf (CX1 P w) P w K mg base N qual scope f cd A outer s H E) E)
section
variable {P : Program} {w : World} {K : PySem.W.Frag} {mg : Str → Option Value} {base : Heap}
theorem body1 {N : List Str} {qual : Str} {scope : Scope} {f : Addr} {cd : Value} {A : Around} {outer : List Env} {s : Shared} {H : Hp} {E : XK} : Body (cx1 P w K mg base N qual scope f cd A outer s H E) := ⟨rfl, rfl, rfl⟩
theorem Fun.okX {x qual : Str} {st : Stmt} {f : Addr} {fd : FuncData} {N ps : List Str} {k : Nat} {sp : Sp} (F : Fun K x qual st f fd) (S : FnScope N ps (defScope st)) (len : ∀ vs H Q E, sp vs H Q E → vs.length = ps.length)
    (hbody : ∀ (cdv : Value) (A : Around) (outer : List Env) (s : Shared) (H : Hp) (vs : List V) (Q : VK) (E : XK), Room k (A.deeper (envOfC qual (defScope st) s.heap.objs.size f cdv)) → sp vs H Q E →
      ∃ t, PSs (cx1 P w K mg base N qual (defScope st) f cdv A outer s H E) (defBody st) t ∧ t { nx := fun _ H' => Q .non H', rt := Q } (start N vs) H) : FnOk P w K mg base (CX1 P w) (k + 1) f fd ps sp := by
  obtain ⟨oc, od, kV, doc, pm, an, cdv, ct, osl, rfl, lk, hcd⟩ := F.ex
  refine fn_of lk hcd S len fun A outer s H vs Q E hr hsp => ?_
  obtain ⟨t, h, q⟩ := hbody cdv A outer s H vs Q E hr hsp
  refine ⟨t, fun pins s1 σ H1 D I h1 => ?_, q⟩
  exact wpAny_mono (h pins s1 σ H1 D (I.wish _) h1) (fun _ _ z => z.unwish) fun e s' z => leaveX (X := cxOf (CX1 P w) P w K mg base N qual (defScope st) f cdv A outer s H E) ⟨rfl, rfl, rfl⟩ I.ok.frames z
theorem pass1 {N : List Str} {qual : Str} {scope : Scope} {f : Addr} {cd : Value} {A : Around} {outer : List Env} {s : Shared} {H : Hp} {E : XK} :
    Passes (CX1 P w) (cx1 P w K mg base N qual scope f cd A outer s H E) E := fun _ _ _ _ _ _ I c => passX ⟨rfl, rfl, rfl⟩ I.unwish c
end
theorem PS.nox {X : Cx} {st : Stmt} {t : TS} (h : PS X.nox st t) : PS X st t := fun pins s σ H D I hw =>
  wpAny_mono (h pins s σ H D (I.wish _) hw) (fun _ _ q => q.unwish) fun _ _ z => False.elim z
def PEX (X : Cx) (e : Expr) (t : XK → TE) : Prop := ∀ (pins : List (Addr × Obj)) (s : Shared) (σ : St) (H : Hp) (Q : VK) (E : XK), Inv X pins σ H s → t E σ H Q →
  wpAny (model X.prog X.w) X.A (eval e X.env) (EP X pins σ Q) (fun ex s' => ∃ H1 s1, Inv X pins σ H1 s1 ∧ CX1 X.prog X.w X.stack H1 s1 E ex s') s
section
variable {X : Cx} {k : Nat} {f C : Addr} {fd : FuncData} {ps : List Str} {sp : Sp} {dvs : List V} {ds : List Value} {x m : Str} {p pos apos : Pos} {e o : Expr} {es : List Expr} {ta : TE} {t : TA}
theorem run_fnX {pins : List (Addr × Obj)} {σ : St} {H : Hp} {s : Shared} {Q : VK} {E : XK} {us : List Value} {vs : List V} (F : FnOk X.prog X.w X.K X.mg X.base (CX1 X.prog X.w) k f fd ps sp) (hr : Room k X.A) (hb : Binds X.K fd ps ds) (hd : Vals dvs ds)
    (I : Inv X pins σ H s) (r : Vals vs us) (h : sp (vs ++ dvs) H Q E) : wpAny (model X.prog X.w) X.A (call (.ref f) us) (EP X pins σ Q) (fun ex s' => ∃ H1 s1, Inv X pins σ H1 s1 ∧ CX1 X.prog X.w X.stack H1 s1 E ex s') s := by
  have r2 : Vals (vs ++ dvs) (us ++ ds) := r.append hd
  have hl : (us ++ ds).length = ps.length := (r2.length.symm).trans (F.len _ _ _ _ h)
  refine wpAny_call (codeAny_mono (F.run X.A X.stack s H ⟨us, []⟩ (us ++ ds) (vs ++ dvs) Q E hr I.env0 (hb s us I.kIn hl) r2 h) fun rs s' hq => ?_)
  match rs, hq with
  | .error e, hq => exact ⟨H, s, I, hq⟩
  | .ok (.ret u), hq => exact I.after hq
  | .ok .next, hq => exact False.elim hq
  | .ok .brk, hq => exact False.elim hq
  | .ok .cont, hq => exact False.elim hq
theorem pex_call (F : FnOk X.prog X.w X.K X.mg X.base (CX1 X.prog X.w) k f fd ps sp) (hr : Room k X.A) (hg : Gl X x) (hm : X.mg x = some (.ref f)) (hk : PySem.W.keepIn X.K (.ref f) = true) (hb : Binds X.K fd ps ds) (hd : Vals dvs ds)
    (ha : PA X.nox (e :: es) t) (hdb : (x == ("__debug__" : Str)) = false := by decide) (he : starEach (e :: es) X.env = (false, eval e X.env) :: starEach es X.env := by rfl) (hpl : (backTo pos (starEach es X.env)).any (·.1) = false := by rfl) :
    PEX X (.Call (.Name x p) (e :: es) [] pos) fun E => tCall sp dvs E t := by
  intro pins s σ H Q E I h
  refine wpAny_Call_Name_kw (ld_glob I hg hm ?_ hdb)
  refine PySem.W.callWith_K (h₀ := X.base) I.ok.mod.kin hk (wpAny_mono (ha pos pins s σ H _ (I.wish _) h) (fun us s1 ⟨vs, H1, I1, r, q⟩ => ⟨I1.kIn, ?_⟩) fun _ _ z => z.elim) he hpl
  exact run_fnX F hr hb hd (I1.unwish) r q
end
open PySem PySem.Spec PyProof.Rows
def exH (C a : Addr) : HO := .ext fun h => ∃ t tb, h.get? a = some (exO C t tb)
theorem ObjOk.get {P : Program} {w : World} {H : Hp} {h : Heap} {a : Addr} {o : HO} (x : ObjOk P w H h a o) : ∃ u, h.get? a = some u := by
  induction o with
  | lst xs => obtain ⟨_, _, _, _, e⟩ := x; exact ⟨_, e⟩
  | tup xs => obtain ⟨_, _, _, _, e, _⟩ := x; exact ⟨_, e⟩
  | dK kvs => obtain ⟨_, _, _, _, _, _, _, e, _⟩ := x; exact ⟨_, e⟩
  | dT kvs => obtain ⟨_, _, _, _, _, _, _, e, _⟩ := x; exact ⟨_, e⟩
  | set S n => obtain ⟨_, _, _, _, e, _⟩ := x; exact ⟨_, e⟩
  | ins C dx fs => obtain ⟨_, _, _, e, _⟩ := x; exact ⟨_, e⟩
  | own y => obtain ⟨_, e⟩ := x; exact ⟨_, e⟩
  | xd fs => obtain ⟨_, ⟨_, _, _, e, _⟩, _⟩ := x; exact ⟨_, e⟩
  | rng lo hi => obtain ⟨_, _, _, e⟩ := x; exact ⟨_, e⟩
  | frz ob u ih => obtain ⟨e, _⟩ := x; exact ⟨_, e⟩
  | tbl ps => exact ⟨_, x⟩
  | met f y => exact ⟨_, x⟩
  | ext φ => exact x.2.1
section
variable {X : Cx} {pins : List (Addr × Obj)} {σ : St} {H H' : Hp} {s s' : Shared} {B h2 : Heap} {ea C t : Addr} {fl : Value}
theorem Bk.none {P : Program} {w : World} {outer : List Env} {h h' : Heap} (k : Bk P w outer H h H' B h') (ne : B.get? ea = Option.none) : H' ea = Option.none := by
  cases q : H' ea with
  | none => rfl
  | some o =>
    obtain ⟨u, e⟩ := (k.ok ea o q).get
    rw [ne] at e
    cases e
theorem caughtI (I : Inv X pins σ H s) (os : s'.os = s.os) (bare : AllBare s'.gens) (bk : Bk X.prog X.w X.stack H s.heap H' B h2) (fx : Fx B X.stack ea C t fl h2) :
    Inv X pins σ (upd H' ea (exH C ea)) { s' with heap := h2 } := by
  have hn := bk.none fx.ne
  obtain ⟨T, oT, ts, hE, _⟩ := fx.ob
  have ne : ∀ b o, s.heap.get? b = some o → b ≠ ea := fun b o e z => by
    by_cases hb : b ∈ frs X.stack
    · obtain ⟨_, o2, e2, n2⟩ := fx.fr.mem hb
      rw [z, hE] at e2
      cases e2
      exact n2 _ rfl
    · obtain ⟨o', e1⟩ := bk.there b o e hb
      rw [z, fx.ne] at e1
      cases e1
  have nt : ∀ b u, H' b = some u → b ≠ ea := fun b u e z => by
    rw [z, hn] at e
    cases e
  obtain ⟨hh, g, d, tk, os'⟩ := s'
  obtain rfl : os' = s.os := os
  refine I.call (s := s) (h' := h2) (g' := g) (d' := d) (t' := tk) (ch := []) ⟨fun b o e n hb _ => fx.st _ _ (bk.keep b o e n hb), fun b o e n hb _ => bk.slot b o e hb, fun b o e n _ => ?_, fun b o e _ => ?_, fun b xs e => ?_, fun b o u e => ?_, fun b ps e => ?_⟩ (fun b u e => ?_) bare (fun b z => nomatch z)
  · rw [upd_ne (ne b o e)]
    exact bk.free b o e n
  · by_cases hb : b ∈ frs X.stack
    · obtain ⟨sl, e1⟩ := bk.slot b o e hb
      exact ⟨_, e1⟩
    · obtain ⟨o', e1⟩ := bk.there b o e hb
      exact ⟨o', fx.st _ _ e1⟩
  · have e1 := bk.tups b xs e
    rw [upd_ne (nt _ _ e1)]
    exact e1
  · have e1 := bk.frzs b o u e
    rw [upd_ne (nt _ _ e1)]
    exact e1
  · obtain ⟨m1, e1⟩ := bk.tbls b ps e
    exact ⟨m1, by rw [upd_ne (nt _ _ e1)]; exact e1⟩
  · by_cases hb : b = ea
    · subst hb
      rw [upd_same] at e
      cases e
      exact ⟨⟨t, _, hE⟩, ⟨_, hE⟩, fun h1 h3 ⟨t', tb', q⟩ k => ⟨t', tb', k _ q⟩⟩
    · rw [upd_ne hb] at e
      refine (bk.ok b u e).stay (fun c v _ q => fx.st _ _ q) (fun c q => ?_) fun c xs q => ?_
      · rw [upd_ne (nt _ _ q)]; exact q
      · rw [upd_ne (nt _ _ q)]; exact q
abbrev Cx.hdl (X : Cx) (e : Addr) : Cx := { X with A := X.A.mark (some (.ref e)), calm := false, xe := fun _ _ => False }
theorem Inv.hdl (I : Inv X pins σ H s) (e : Addr) : Inv (X.hdl e) pins σ H s :=
  ⟨⟨I.ok.mod, I.ok.kind, I.ok.glob, I.ok.blt, I.ok.above, I.ok.inj, I.ok.has, I.ok.cab, (fun z => nomatch z), I.ok.frames, I.ok.stk, I.ok.exf, I.ok.bs, I.ok.bsz, I.ok.noex, I.ok.exfs, I.ok.funs, I.ok.frf⟩, I.os, I.bare, I.base, I.loc, I.cell, I.free, I.freeC, I.pin, I.hok, I.len⟩
theorem Inv.unhdl {e : Addr} (hd : X.calm = true → X.A.handled = none) (I : Inv (X.hdl e) pins σ H s) : Inv X pins σ H s :=
  ⟨⟨I.ok.mod, I.ok.kind, I.ok.glob, I.ok.blt, I.ok.above, I.ok.inj, I.ok.has, I.ok.cab, hd, I.ok.frames, I.ok.stk, I.ok.exf, I.ok.bs, I.ok.bsz, I.ok.noex, I.ok.exfs, I.ok.funs, I.ok.frf⟩, I.os, I.bare, I.base, I.loc, I.cell, I.free, I.freeC, I.pin, I.hok, I.len⟩
theorem Inv.forget {n : Str} {j : Nat} {m : Str → Option Value} {v : Option Value} {tk : Nat} {h' : Heap} (I : Inv X pins σ H s) (hN : X.N.Nodup) (hj : X.N[j]? = some n) (hn : s.heap.Ns X.env.locals m)
    (hm : ∀ (i : Nat) (x : Str) (v : V), X.N[i]? = some x → σ[i]? = some (some v) → Vis X.env.scope x → ∃ u, RelV v u ∧ Look X.env s.heap m x u) (hn' : h'.Ns X.env.locals (fun x => if x = n then v else m x)) (hs : Heap.SameBut X.env.locals s.heap h') :
    Inv X pins (σ.set j none) H { s with heap := h', toks := tk } := by
  obtain ⟨oL, _, _, hoL, _⟩ := id hn
  have neL : ∀ b o, X.s₀.heap.get? b = some o → b ≠ X.env.locals := fun b o e => Nat.ne_of_lt (Nat.lt_of_lt_of_le (Heap.lt_size e) I.ok.above)
  refine ⟨I.ok, I.os, I.bare, ⟨fun b o e n hb hx => ?_, fun b o e n hb hx => ?_, I.base.free, fun b o e hx => ?_, I.base.tups, I.base.frzs, I.base.tbls⟩, ⟨_, hn', fun i y w e1 e2 e3 => ?_⟩, fun y c e => ?_, I.free, I.freeC, fun p hp => ?_, fun b u e => ?_, by rw [List.length_set]; exact I.len⟩
  · exact (hs.2 b (neL b o e)).trans (I.base.keep b o e n hb hx)
  · obtain ⟨sl, e1⟩ := I.base.slot b o e n hb hx
    exact ⟨sl, (hs.2 b (neL b o e)).trans e1⟩
  · obtain ⟨o', e1⟩ := I.base.there b o e hx
    exact ⟨o', (hs.2 b (neL b o e)).trans e1⟩
  · by_cases hij : i = j
    · subst hij
      rw [List.getElem?_set] at e2
      split at e2
      · split at e2 <;> cases e2
      · exact absurd rfl ‹_›
    · rw [List.getElem?_set_ne (Ne.symm hij)] at e2
      obtain ⟨u, r, l⟩ := hm i y w e1 e2 e3
      refine ⟨u, r, ?_⟩
      rcases l with ⟨k, z⟩ | ⟨k, c, z, y'⟩
      · have : y ≠ n := fun q => hij (nodup_ix hN e1 (q ▸ hj))
        exact .inl ⟨k, by simp [this, z]⟩
      · exact .inr ⟨k, c, z, y'.sameBut hs (I.cne y c z)⟩
  · obtain ⟨v', z⟩ := I.cell y c e
    exact ⟨v', z.sameBut hs (I.cne y c e)⟩
  · obtain ⟨e, n1, n2, nf, d⟩ := I.pin p hp
    exact ⟨(hs.2 p.1 n2).trans e, n1, n2, nf, d⟩
  · refine (I.hok b u e).stay (fun c w' hc q => (hs.2 c ?_).trans q) (fun _ q => q) fun _ _ q => q
    rintro rfl
    rcases hc with z | z
    · rw [← z, I.free] at e; cases e
    · rw [I.free] at z; cases z
end
open PySem PySem.Spec PyProof.Rows
section
variable {M : Model} {A : Around} {E : Value → Shared → Prop} {h : Heap} {g : Array GenState} {d : Drawn} {t : Nat} {os : OsState}
theorem exc_matches {K : PySem.W.Frag} {C D e : Addr} {bC bD : List Value} {nC nD : String} {oe : Obj} {Q : Bool → Shared → Prop} (X : K.In h) (qC : PySem.W.excIn K C bC nC = true) (qD : PySem.W.excIn K D bD nD = true)
    (hb : bD.contains (.type "BaseException") = true) (he : h.get? e = some oe) (hc : oe.cls = .ref C) (hq : Q ((mroK K C).contains (.ref D)) ⟨h, g, d, t, os⟩) : wpAny M A (excMatches (.ref e) (.ref D)) Q E ⟨h, g, d, t, os⟩ := by
  obtain ⟨bm1, _, _, _, _, _, _, _, _, _, _, _, _, _, _, _, _, e1, hC, _, _, T1⟩ := exc_obj X qC
  obtain ⟨bm2, _, _, _, _, _, _, _, _, _, _, _, _, _, _, _, _, _, hD, _, _, T2⟩ := exc_obj X qD
  have hcB : (Value.ref D :: bm2).contains (.type "BaseException") = true := by rw [List.contains_cons, T2.hasType hb, Bool.or_true]
  have f := tc_notTuple
  rw [e1] at hq
  unfold excMatches
  repeat (first | (with_reducible refine wpAny_loadPart_at he ?_; rw [hc]) | with_reducible refine wpAny_loadPart_at hD ?_ | (with_reducible refine wpAny_isSubtype_exc hD ?_; rw [hcB]) | with_reducible refine wpAny_isSubtype_exc hC ?_ | wp_step)
  all_goals (revert hq; cases (Value.ref C :: bm1).contains (Value.ref D) <;> intro hq)
  all_goals (repeat (first | exact hq | wp_step))
end
abbrev WX (X : Cx) (pins : List (Addr × Obj)) (σ : St) (E : XK) : Value → Shared → Prop := fun ex s' => ∃ H1 s1, Inv X pins σ H1 s1 ∧ CX1 X.prog X.w X.stack H1 s1 E ex s'
def PSX (X : Cx) (st : Stmt) (t : XK → TS) : Prop := ∀ (pins : List (Addr × Obj)) (s : Shared) (σ : St) (H : Hp) (D : Ends) (E : XK), Inv X pins σ H s → t E D σ H → wpAny (model X.prog X.w) X.A (exec st X.env) (SP X pins D) (WX X pins σ E) s
def PSXs (X : Cx) (st : List Stmt) (t : XK → TS) : Prop := ∀ (pins : List (Addr × Obj)) (s : Shared) (σ : St) (H : Hp) (D : Ends) (E : XK), Inv X pins σ H s → t E D σ H → wpAny (model X.prog X.w) X.A (execs st X.env) (SP X pins D) (WX X pins σ E) s
section
variable {X : Cx} {e : Expr} {t u : XK → TS} {te : XK → TE} {pos : Pos} {st : Stmt}
theorem psxs_one (h : PSX X st t) : PSXs X [st] t := by
  intro pins s σ H D E I h1
  refine wpAny_execs_cons (thn (h pins s σ H D E I h1) fun f s1 q => ?_)
  match f, q with
  | .next, q => exact wpAny_execs_nil q
  | .brk, q => exact q
  | .cont, q => exact q
  | .ret u, q => exact q
theorem psx_set {i : Nat} {x : Str} {pos' : Pos} (hN : X.N.Nodup) (hi : X.N[i]? = some x) (hx : Loc X.env.scope x) (he : PEX X e te) (hs : swapsWith e (some (.Name x pos')) pos.line X.env = pure false := by rfl)
    (hf : X.fn x = true ∨ X.env.scope.names.lookup x = some .local := by first | exact .inl rfl | exact .inr rfl | assumption) : PSX X (.Assign [.Name x pos'] e pos) fun E => tAsg (te E) (gName i) := by
  intro pins s σ H D E I h
  refine wpAny_Assign_Name (thn (he pins s σ H _ E I h) fun v s1 ⟨y, H1, I1, r1, q1⟩ => ?_) hs
  exact store_ok I1 hN hi hx r1 (fun s2 I2 => ⟨_, H1, I2, q1⟩) hf
abbrev Ends.un (D : Ends) (j : Nat) : Ends := { nx := fun σ H => D.nx (σ.set j none) H, rt := D.rt, bk := fun σ H => D.bk (σ.set j none) H, ct := fun σ H => D.ct (σ.set j none) H }
def Sub (K : PySem.W.Frag) (C D : Addr) : Prop := (∃ bm nid, PySem.W.excIn K C bm nid = true) ∧ (mroK K C).contains (.ref D) = true
def tTry (K : PySem.W.Frag) (Ch : Addr) (j : Nat) (t : XK → TS) (ts : TS) : TS := fun D σ H => t (fun c _ H' => ∃ C, c = .ref C ∧ Sub K C Ch ∧ ∀ ea, H' ea = none → ts (D.un j) (σ.set j (some (.ref ea))) (upd H' ea (exH C ea))) D σ H
theorem ps_try {body suite : List Stmt} {b₀ : Stmt} {ts : TS} {n x : Str} {j : Nat} {Ch : Addr} {bmB : List Value} {nid : String} {np hpos : Pos} (hB : Body X) (hc : X.calm = true) (hb : PSXs X body t) (hN : X.N.Nodup) (hj : X.N[j]? = some n)
    (hn : X.env.scope.names.lookup n = some .local) (hg : Gl X x) (hm : X.mg x = some (.ref Ch)) (hq : PySem.W.excIn X.K Ch bmB nid = true) (hbs : bmB.contains (.type "BaseException") = true) (hs : ∀ ea, PSs (X.hdl ea) (b₀ :: suite) ts)
    (hd : (x == ("__debug__" : Str)) = false := by decide) :
    PS X (.Try body [.ExceptHandler (some (.Name x np)) (some n) (b₀ :: suite) hpos] [] [] pos) (tTry X.K Ch j t ts) := by
  intro pins s σ H D I h
  refine wpAny_Try_except (wpAny_mono (hb pins s σ H D _ I h) (fun f s1 q => ?_) fun ex s1 z => ?_)
  · match f, q with
    | .next, q => exact wpAny_execs_nil q
    | .brk, q => exact q
    | .cont, q => exact q
    | .ret u, q => exact q
  · obtain ⟨H1, s0, I0, ea, C, t0, H', B, rfl, fx, os, bare, bk, C', eC, ⟨⟨bC, nC, qC⟩, sub⟩, ht⟩ := z
    obtain rfl : C = C' := by cases eC; rfl
    refine noteX hB I.ok.frames (.came fx) fun h1 x1 u1 => fx_land (s := { s1 with heap := h1 }) x1 fun h2 x2 u2 => ?_
    have bk2 := (bk.slots fx.fr u1).slots x1.fr u2
    have I2 : Inv X pins σ (upd H' ea (exH C ea)) { s1 with heap := h2 } := caughtI I0 os bare bk2 x2
    refine wpAny_handleBy_cons (codeAny_handlers_test (ld_glob (X := X.hdl ea) (I2.hdl ea) hg hm ?_ hd)) (by intro q; cases q)
    obtain ⟨T, oT, tt, hE, _⟩ := x2.ob
    refine exc_matches I2.kIn qC hq hbs hE rfl ?_
    rw [sub]
    refine codeAny_handlers_suite_as ?_
    refine fx_land (s := { s1 with heap := h2 }) x2 fun h3 x3 u3 => ?_
    have I3 : Inv X pins σ (upd H' ea (exH C ea)) { s1 with heap := h3 } := caughtI I0 os bare (bk2.slots x2.fr u3) x3
    refine store_ok (X := X.hdl ea) (I3.hdl ea) hN hj (.inl hn) (v := .ref ea) rfl (fun s4 I4 => ?_) (.inr hn)
    refine wpAny_mono (hs ea pins s4 _ _ _ I4 (ht ea (bk.none fx.ne))) (fun f s5 q => ?_) fun _ _ z => z.elim
    have go : ∀ {σ' : St} {H5 : Hp} {Q : Unit → Shared → Prop}, Inv (X.hdl ea) pins σ' H5 s5 → (∀ s6, Inv X pins (σ'.set j none) H5 s6 → Q () s6) → wpAny (model X.prog X.w) X.A (do bindName X.env n .none; unbindBehindTheSuite X.env n hpos) Q X.xe s5 := fun {σ' H5 Q} J k => by
      have J' : Inv X pins σ' H5 s5 := J.unhdl I.ok.hd
      obtain ⟨m, hns, hl⟩ := id J'.loc
      refine wpAny_nameGoes_keeps hn hns (by rw [I.ok.kind]; rfl) fun h6 v hn6 hs6 => k _ ?_
      exact J'.forget hN hj hns hl hn6 hs6
    match f, q with
    | .next, ⟨σ', H5, J, q⟩ => exact go J fun s6 J6 => ⟨_, H5, J6, q⟩
    | .brk, ⟨σ', H5, J, q⟩ => exact go J fun s6 J6 => ⟨_, H5, J6, q⟩
    | .cont, ⟨σ', H5, J, q⟩ => exact go J fun s6 J6 => ⟨_, H5, J6, q⟩
    | .ret u, ⟨v, σ', H5, J, r, q⟩ => exact go J fun s6 J6 => ⟨v, _, H5, J6, r, q⟩
end
open PySem PySem.Spec PyProof.Rows
structure ExC (K : PySem.W.Frag) (C : Addr) : Prop where
  ga : PySem.W.findIn K (.ref C) "__getattribute__" = some (some (.builtin "BaseException.__getattribute__"))
  gt : PySem.W.findIn K (.ref C) "__getattr__" = some none
  cl : PySem.W.findIn K (.ref C) "__class__" = some (some (.builtin "object.__class__"))
  gc : PySem.W.specialIn K (.builtin "object.__class__") "__get__" = some (some (.builtin "getset_descriptor.__get__"))
  tk : PySem.W.takesIn K (.builtin "object.__class__") = some true
  ob : PySem.W.mroIn K C (.type "object") = some true
  be : PySem.W.mroIn K C (.type "BaseException") = some true
  is : (PySem.W.clsIn K C).isSome = true
theorem canon_bga : (Manifest.canonical "BaseException.__getattribute__" != "object.__getattribute__") = false := by decide +kernel
section
variable {prog : Program} {w : World} {A : Around} {E : Value → Shared → Prop} {s : Shared} {K : PySem.W.Frag} {x C t : Addr} {tb : Value}
theorem ex_inst {h : Heap} (hx : h.get? x = some (exO C t tb)) : PySem.W.InstAt h x (exO C t tb) C none := ⟨hx, rfl, rfl, True.intro⟩
theorem ex_meth {m : Str} {f : Addr} {pl : Sem Bool} {Q : Value × List Value → Shared → Prop} (X : K.In s.heap) (hx : s.heap.get? x = some (exO C t tb)) (c : ExC K C) (hf : PySem.W.findIn K (.ref C) m = some (some (.ref f)))
    (ht : PySem.W.isFn K (.ref f) = true) (h : Q (.ref f, [.ref x]) s) : wpAny (model prog w) A (getMethod (.ref x) m pl) Q E s := by
  have I := ex_inst hx
  have hty : PySem.W.typeIn K (.ref f) = some (.type "function") := beq_iff_eq.mp ht
  unfold getMethod specialOf
  refine wpAny_bind (wpAny_bind (I.type.here ((PySem.W.looks_findIn X c.ga).here ?_)))
  dsimp only
  rw [canon_bga, if_neg Bool.false_ne_true]
  refine wpAny_bind (wpAny_bind (I.type.here ((PySem.W.looks_findIn X c.gt).here ?_)))
  refine wpAny_bind (wpAny_bind (I.type.here ((PySem.W.looks_findIn X hf).here (wpAny_bind ((PySem.W.looks_typeIn X hty).here ?_)))))
  rw [if_neg (by decide +kernel)]
  refine wpAny_bind (wpAny_loadPart hx ?_)
  exact wpAny_bind (wpAny_rule (wpAny_pure h))
theorem ex_class {Q : Option Value → Shared → Prop} (X : K.In s.heap) (hx : s.heap.get? x = some (exO C t tb)) (c : ExC K C) (h : Q (some (.ref C)) { s with toks := s.toks + 1 }) : wpAny (model prog w) A (getAttr? (.ref x) "__class__") Q E s := by
  have I := ex_inst hx
  obtain ⟨hh, g, d, tk, os⟩ := s
  have L0 : PySem.W.Looks (model prog w) hh (typeOf (.ref x)) (.ref C) := I.type
  have L1 := PySem.W.looks_findIn (M := model prog w) X c.ga
  have L2 := PySem.W.looks_findIn (M := model prog w) X c.gt
  have hfo : PySem.W.findObj K C none "__class__" = some (.bind (.builtin "getset_descriptor.__get__") (.builtin "object.__class__")) := by
    obtain ⟨cd, hc⟩ := Option.isSome_iff_exists.mp c.is
    unfold PySem.W.findObj
    rw [hc, Option.bind_some, c.cl, Option.bind_some]
    simp [c.gc, c.tk]
  have L3 := PySem.W.looks_find (M := model prog w) X I hfo
  have L4 : PySem.W.Looks (model prog w) hh (isInstance (.ref x) (.type "BaseException")) true := L0.andThen (PySem.W.looks_mroIn X c.be)
  have f3 := F.excAttr_ValueError.ga.bind (.ref x)
  unfold getAttr? getAttrBy? getAttrBy
  refine wpAny_bind (wpAny_mkText (wpAny_bind (wpAny_attempt (wpAny_holding (wpAny_bind (L0.at (wpAny_bind (L1.at ?_))))))))
  show wpAny _ _ (getAttrByItsOwn _ _ _ _ _ _) _ _ _
  unfold getAttrByItsOwn hookBefore
  rw [if_pos (show onTheHeap (Value.ref C) = true from rfl)]
  refine wpAny_bind (L2.at (wpAny_bind (wpAny_attempt (wpAny_holding ?_))))
  unfold callGetattribute
  rw [if_neg (show ¬ ((false && onTheHeap (Value.builtin "BaseException.__getattribute__")) = true) by simp)]
  unfold boundAndCalled
  rw [f3]
  refine wpAny_bind (wpAny_pure (wpAny_call (codeAny_call_builtin F.excAttr_ValueError.ga.plain F.entry_bexc_ga ?_)))
  have hk : builtinKind "BaseException.__getattribute__" = some .slot := by decide +kernel
  have hsp : splitId "BaseException.__getattribute__" = some ("BaseException", "__getattribute__") := by decide +kernel
  have ha := F.args_bexc_ga (.ref x) (.str "__class__" tk)
  simp only [checkBuiltinCall, hk, hsp]
  refine wpAny_bind (L4.at ?_)
  repeat (first | (with_reducible refine wpAny_bind (L0.at (wpAny_bind (L3.at ?_)))) | wp_step)
  refine PySem.W.class_get (s := ⟨hh, g, d, tk + 1, os⟩) (ox := exO C t tb) (od := none) X I c.ob ?_
  exact wpAny_pure (PySem.W.handed_on rfl (wpAny_pure h))
theorem kitx_exc (c : ExC K C) : PySem.W.KitX K (.ref x) (.ref C) (fun h => ∃ t tb, h.get? x = some (exO C t tb)) where
  ty := fun M h _ ⟨t, tb, e⟩ => (ex_inst e).type
  it := fun M h X _ => by
    obtain ⟨cd, hc⟩ := Option.isSome_iff_exists.mp c.is
    unfold PySem.W.clsIn at hc
    split at hc
    next ho =>
      intro A' Q' E' s' k q
      unfold isType loadHead
      exact wpAny_bind (wpAny_loadPart (k _ _ (X _ _ ho)) (wpAny_pure q))
    next => cases hc
  ne := fun h tp dd its n sl X htp => by
    obtain ⟨cd, hc⟩ := Option.isSome_iff_exists.mp c.is
    refine Bool.eq_false_iff.mpr fun q => ?_
    have e : C = tp := Value.ref.inj (beq_iff_eq.mp q)
    subst e
    unfold PySem.W.clsIn at hc
    split at hc
    next ho => cases (X _ _ ho).symm.trans htp
    next => cases hc
  ca := fun X ⟨t, tb, e⟩ k => ex_class X e c k
end
def rIsX (K : PySem.W.Frag) : List V → Hp → VK → Prop := fun vs H Q => ∃ a C b, H a = some (exH C a) ∧ ExC K C ∧
  ((∃ n, vs = [.ref a, .ty n] ∧ PySem.W.kitOne K (.ref C) (.type n) = some b) ∨ (∃ D, vs = [.ref a, .ref D] ∧ PySem.W.kitOne K (.ref C) (.ref D) = some b)) ∧ Q (.bl b) H
section
variable {X : Cx} {K : PySem.W.Frag}
theorem ex_at {pins : List (Addr × Obj)} {σ : St} {H : Hp} {s : Shared} {a C : Addr} (I : Inv X pins σ H s) (e : H a = some (exH C a)) : ∃ t tb, s.heap.get? a = some (exO C t tb) := (I.hok a _ e).1
theorem call_isx (hK : X.K = K := by rfl) : CallR X (.builtin "isinstance") (rIsX K) := by
  subst hK
  intro pins s σ H xs us Q I rv h
  obtain ⟨a, C, b, ea, c, hv, q⟩ := h
  rcases hv with ⟨n, rfl, e⟩ | ⟨D, rfl, e⟩
  · obtain ⟨u1, u2, rfl, r1, r2⟩ := rv.two
    cases r1
    cases r2
    exact PySem.W.kia_one (kitx_exc c) I.kIn (ex_at I ea) e (fun z => nomatch z) fun tk => ⟨.bl b, H, I.tok _, rfl, q⟩
  · obtain ⟨u1, u2, rfl, r1, r2⟩ := rv.two
    cases r1
    cases r2
    exact PySem.W.kia_one (kitx_exc c) I.kIn (ex_at I ea) e (fun z => nomatch z) fun tk => ⟨.bl b, H, I.tok _, rfl, q⟩
variable {CX : CXT} {k : Nat} {ps : List Str} {sp : Addr → Sp} {E : XK} {m : Str} {pos apos : Pos} {o : Expr} {ta : TE}
def tMethX (K : PySem.W.Frag) (m : Str) (sp : Addr → Sp) (E : XK) (ta : TE) : TE := fun σ H Q => ta σ H fun x H1 => ∃ a C, x = .ref a ∧ H1 a = some (exH C a) ∧ sp C [x] H1 Q E
end
open PySem PySem.Spec PyProof.Rows
abbrev vE : List Value := [.type "ValueError", .type "Exception", .type "BaseException", .type "object"]
abbrev vN : String := "ValueError.__new__"
structure Exn (K : PySem.W.Frag) (C : Addr) : Prop where
  q : PySem.W.excIn K C vE vN = true
  c : ExC K C
  ty : PySem.W.typeIn K (.ref C) = some (.type "type")
  ve : PySem.W.mroIn K C (.type "ValueError") = some true
theorem exn_mk {K : PySem.W.Frag} {C : Addr} (q : PySem.W.excIn K C vE vN = true) (ga : PySem.W.findIn K (.ref C) "__getattribute__" = some (some (.builtin "BaseException.__getattribute__"))) (gt : PySem.W.findIn K (.ref C) "__getattr__" = some none)
    (cl : PySem.W.findIn K (.ref C) "__class__" = some (some (.builtin "object.__class__"))) (gc : PySem.W.specialIn K (.builtin "object.__class__") "__get__" = some (some (.builtin "getset_descriptor.__get__"))) (tk : PySem.W.takesIn K (.builtin "object.__class__") = some true)
    (ob : PySem.W.mroIn K C (.type "object") = some true) (be : PySem.W.mroIn K C (.type "BaseException") = some true) (is : PySem.W.isClsIn K C = true) (ty : PySem.W.typeIn K (.ref C) = some (.type "type")) (ve : PySem.W.mroIn K C (.type "ValueError") = some true) : Exn K C :=
  ⟨q, ⟨ga, gt, cl, gc, tk, ob, be, is⟩, ty, ve⟩
theorem has_base : vE.contains (.type "BaseException") = true := by decide
theorem has_ve : vE.contains (.type "ValueError") = true := by decide
theorem Exn.sub {K : PySem.W.Frag} {C D : Addr} (x : Exn K C) (r : PySem.W.mroIn K C (.ref D) = some true) : Sub K C D := by
  refine ⟨⟨_, _, x.q⟩, ?_⟩
  obtain ⟨cd, h1, h2⟩ := Option.bind_eq_some_iff.mp r
  unfold PySem.W.clsIn at h1
  unfold mroK
  split at h1
  next c d cd' sl ho =>
    cases h1
    rw [ho]
    split at h2
    · cases h2
    · exact Option.some.inj h2
  next => cases h1
theorem kit_ref {K : PySem.W.Frag} {C D : Addr} {b : Bool} (hC : PySem.W.mroIn K C (.ref C) = some true) (x : Exn K D) (r : PySem.W.mroIn K C (.ref D) = some b) : PySem.W.kitOne K (.ref C) (.ref D) = some b := by
  unfold PySem.W.kitOne
  by_cases q : (Value.ref C == Value.ref D) = true
  · rw [if_pos q]
    have e : C = D := Value.ref.inj (beq_iff_eq.mp q)
    subst e
    rw [hC] at r
    exact r
  · rw [if_neg q]
    unfold PySem.W.kitCls
    have h : ((PySem.W.clsIn K D).isSome && PySem.W.typeIn K (.ref D) == some (.type "type")) = true := by rw [x.c.is, x.ty]; rfl
    show (if _ then _ else _) = _
    rw [if_pos h]
    exact r
theorem kit_ve {K : PySem.W.Frag} {C : Addr} (x : Exn K C) : PySem.W.kitOne K (.ref C) (.type "ValueError") = some true := by
  unfold PySem.W.kitOne
  rw [if_neg (by simp)]
  unfold PySem.W.kitCls
  show (if _ then _ else _) = _
  rw [if_pos (by decide +kernel)]
  exact x.ve
section
variable {X : Cx} {CX : CXT} {k : Nat} {C f : Addr} {fd : FuncData} {ps : List Str} {sp : Sp} {E : XK} {m : Str} {pos apos : Pos} {o : Expr} {ta : TE}
def tMethE (C : Addr) (sp : Sp) (E : XK) (ta : TE) : TE := fun σ H Q => ta σ H fun x H1 => ∃ a, x = .ref a ∧ H1 a = some (exH C a) ∧ sp [x] H1 Q E
theorem pe_methE {pl : Sem Bool} (he : PE X o ta) (c : ExC X.K C) (hm : Meth X.K C m f) (F : FnOk X.prog X.w X.K X.mg X.base CX k f fd ps sp) (hr : Room k X.A) (hb : Binds X.K fd ps []) (hx : Passes CX X E)
    (ht : eval (.Call (.Attribute o m apos) [] [] pos) X.env = (do
      let ov ← eval o X.env
      standAt apos.atName
      let (f, first) ← holding [ov] (getMethod ov m pl)
      callWith pos f first (backTo pos (starEach [] X.env)) (backToKw pos (keywordEach [] X.env))) := by rfl) :
    PE X (.Call (.Attribute o m apos) [] [] pos) (tMethE C sp E ta) := by
  intro pins s σ H Q I h
  refine PySem.W.methodCall_KW (pl := pl) (thn (he pins s σ H _ I h) fun u s1 ⟨x, H1, I1, rx, a, ex, ea, q⟩ => ?_) ht
  subst ex
  obtain rfl : u = Value.ref a := rx
  obtain ⟨t, tb, e1⟩ := ex_at I1 ea
  refine ex_meth I1.kIn e1 c hm.at_ hm.fn ?_
  exact PySem.W.callWith_K0 (first := [.ref a]) I1.kIn hm.kp (run_fn (us := [.ref a]) (vs := [.ref a]) (dvs := []) F hr hb .nil hx I1 (.cons rfl .nil) q)
end
def clsBody (s : Stmt) : List Stmt := match s with
  | .ClassDef _ _ _ b _ _ _ _ _ _ _ => b
  | _ => []
structure Mf (K : PySem.W.Frag) (x q : Str) (st : Stmt) (ps : List Str) (C f : Addr) (fd : FuncData) : Prop where
  F : Fun K x q st f fd
  m : Meth K C x f
  b : Binds K fd ps []
theorem bt_ValueError : bootBuiltins "ValueError" = some (.type "ValueError") := by decide +kernel
open PySem PySem.Spec PyProof.Rows
open Builtin Builtin.Str
def cutT (u : List Nat) (lo hi : Option Int) : List Nat := (u.drop (HT.sIx u.length 0 lo)).take (HT.sIx u.length u.length hi - HT.sIx u.length 0 lo)
theorem rng_eq (a b : Nat) : sliceRange (a : Int) (b : Int) 1 = (List.range (b - a)).map fun k => a + k := by
  unfold sliceRange
  simp only [show (1 : Int) > 0 by decide, if_true]
  by_cases h : (a : Int) < (b : Int)
  · rw [if_pos h, Int.ediv_one, show (b : Int) - (a : Int) + 1 - 1 = ((b - a : Nat) : Int) by omega, Int.toNat_natCast]
    exact List.map_congr_left fun k _ => by omega
  · rw [if_neg h, show b - a = 0 by omega]
    rfl
theorem clip_some (n d : Nat) (i : Int) : max 0 (min (if i < 0 then i + (n : Int) else i) (n : Int)) = (HT.sIx n d (some i) : Int) := by
  show _ = (((if i < 0 then (i + (n : Int)).toNat else min i.toNat n) : Nat) : Int)
  by_cases h : i < 0
  · rw [if_pos h, if_pos h]; omega
  · rw [if_neg h, if_neg h]; omega
theorem idx_eq (n : Nat) (lo hi : Option Int) : strSliceIndices lo hi 1 n = (List.range (HT.sIx n n hi - HT.sIx n 0 lo)).map fun k => HT.sIx n 0 lo + k := by
  rw [← rng_eq]
  cases lo with
  | none =>
    cases hi with
    | none => rfl
    | some j => rw [← clip_some]; rfl
  | some i =>
    cases hi with
    | none => rw [← clip_some n 0 i]; rfl
    | some j => rw [← clip_some n 0 i, ← clip_some n n j]; rfl
theorem tx_slice (u : List Nat) (lo hi : Option Int) : Txt.slice (tx u) lo hi = tx (cutT u lo hi) := by
  unfold Txt.slice cutT
  rw [tx_len, idx_eq]
  have hle : HT.sIx u.length u.length hi ≤ u.length := HT.sIx_le _ _ (Nat.le_refl _) _
  have key : ∀ (a k : Nat), a + k ≤ u.length → ((List.range k).map fun j => a + j).filterMap (fun i => (tx u).cps[i]?) = (u.drop a).take k := by
    intro a k
    induction k with
    | zero => intro _; simp
    | succ k ih =>
      intro h
      rw [List.range_succ, List.map_append, List.filterMap_append, ih (by omega)]
      have : a + k < u.length := by omega
      simp only [List.map_cons, List.map_nil, List.filterMap_cons, List.filterMap_nil, tx_get, List.getElem?_eq_getElem this]
      rw [List.take_succ, List.getElem?_drop, List.getElem?_eq_getElem this]
      rfl
  split
  next h =>
    simp only [List.length_map, List.length_range, Bool.and_eq_true, beq_iff_eq] at h
    have h2 := h.2
    have : HT.sIx u.length 0 lo = 0 ∨ u.length = 0 := by omega
    rcases this with e | e
    · rw [e, List.drop_zero, List.take_of_length_le (by omega)]
    · rw [List.eq_nil_of_length_eq_zero e]; simp
  next h =>
    by_cases hlt : HT.sIx u.length 0 lo ≤ HT.sIx u.length u.length hi
    · show (Str.mk _) = _
      rw [key _ _ (by omega)]
      rfl
    · have e : HT.sIx u.length u.length hi - HT.sIx u.length 0 lo = 0 := by omega
      rw [e]
      simp [tx]
theorem cut_to {u : List Nat} {k : Nat} (h : k ≤ u.length) : cutT u none (some (k : Int)) = u.take k := by
  unfold cutT
  rw [HT.sIx_none, HT.sIx_nat, List.drop_zero, Nat.min_eq_left h, Nat.sub_zero]
section
variable {X : Cx}
theorem sl_str : SlR X (fun x lo hi H Q => ∃ u : List Nat, x = .str (tx u) ∧ u.length ≤ sizeLine ∧ Q (.str (tx (cutT u lo hi))) H) := by
  intro pins s σ H x v vl vu lo hi sl Q I rx hs pl pu h
  obtain ⟨u, rfl, hz, q⟩ := h
  obtain ⟨t, rfl⟩ := rx
  rw [← tx_slice] at q
  refine ⟨"str", _, F.slot_str_getitem.lookup, typeIs_str _ _ _, ?_⟩
  have hsz : (tx u).length ≤ sizeLine := by rw [tx_len]; exact hz
  obtain ⟨os, hos, hcs, hds⟩ := id hs
  have fin : ∀ (l u' : Option (Int × Tok)), s.heap.IsSlice sl l u' none → Q (.str (Txt.slice (tx u) (l.map (·.1)) (u'.map (·.1)))) H → wpAny (model X.prog X.w) X.A (getItem (.str (tx u) t) (.ref sl)) (EP X pins σ Q) X.xe s := fun l u' z q' =>
    wpAny_getItem_str_slice z rfl (post_val_or_str ⟨Nat.le_trans (Txt.slice_le (tx u) _ _) hsz, fun t' k => ⟨.str _, H, I.tok _, ⟨t', rfl⟩, q'⟩⟩)
  cases pl with
  | none => cases pu with
    | none => exact fin none none ⟨os, hos, hcs, hds⟩ q
    | int j tj => exact fin none (some (j, tj)) ⟨os, hos, hcs, hds⟩ q
  | int i ti => cases pu with
    | none => exact fin (some (i, ti)) none ⟨os, hos, hcs, hds⟩ q
    | int j tj => exact fin (some (i, ti)) (some (j, tj)) ⟨os, hos, hcs, hds⟩ q
end
open PySem PySem.Spec PyProof.Rows
def rngO (p : Addr) (a b c : Int) : HO := .ext fun h => ∃ t u v, IsRange h p a b c t u v
def rngL (a c : Int) (n : Nat) : List Int := (List.range n).map fun (i : Nat) => a + (i : Int) * c
section
variable {X : Cx} {K : PySem.W.Frag}
end
open PySem PySem.Spec PyProof.Rows
section
variable {X : Cx} {tg : Expr}
def iRng2L (ta : TA) : TI := fun σ H R => ta σ H fun vs H1 => ∃ i j : Int, vs = [.int i, .int j] ∧ R (Itr i (j - i).toNat) H1
end
section
variable {X : Cx}
theorem rep_fold (l : List Nat) : ∀ (k : Nat) (acc : List Nat), List.foldl (fun x1 x2 => x1 ++ x2) acc.toArray (List.replicate k l.toArray) = (acc ++ (List.replicate k l).flatten).toArray
  | 0, acc => by simp
  | k + 1, acc => by
    have e : acc.toArray ++ l.toArray = (acc ++ l).toArray := by simp
    have e2 : (acc ++ l) ++ (List.replicate k l).flatten = acc ++ (List.replicate (k + 1) l).flatten := by
      rw [List.replicate_succ, List.flatten_cons, List.append_assoc]
    rw [← e2, ← rep_fold l k (acc ++ l), ← e, List.replicate_succ, List.foldl_cons]
def rRepS : R2 := fun x y H Q => ∃ u n, x = .str (tx u) ∧ y = .int n ∧ 0 ≤ n ∧ n ≤ 1000000 ∧ u.length * n.toNat ≤ sizeLine ∧ Q (.str (tx (List.replicate n.toNat u).flatten)) H
theorem op_repS : OpR X (binaryOp .Mult) rRepS := by
  intro pins s σ H x y v z Q I rx ry h
  obtain ⟨u, n, rfl, rfl, h0, h1, h2, q⟩ := h
  obtain ⟨t, rfl⟩ := rx
  obtain ⟨t', rfl⟩ := ry
  have hsz : sizeLine = 16777216 := sizeLine_eq
  have hlen : (tx u).length = u.length := tx_len u
  refine P.mul_str ?_ (fun c1 c2 => ?_) (fun c1 c2 => ?_) ?_
  · rw [decide_eq_false (by omega), decide_eq_false (by omega)]
    rfl
  · rw [hlen]
    have hn : 0 < n := by omega
    have hm : (u.length : Int) * n ≤ 16777216 := by
      have e : n = (n.toNat : Int) := by omega
      rw [e, ← Int.natCast_mul]
      omega
    have : (u.length : Int) ≤ (2 ^ 63 - 1) / n := (Int.le_ediv_iff_mul_le hn).mpr (by omega)
    omega
  · rw [hlen]
    exact decide_eq_false (by omega)
  · split
    · next c =>
      have e : n = 0 := by omega
      rw [e] at q
      exact ⟨by decide, .str (tx []), H, I.tok _, ⟨_, rfl⟩, q⟩
    · split
      · next c =>
        have e : tx (List.replicate n.toNat u).flatten = tx u := by
          simp only [Bool.or_eq_true, beq_iff_eq] at c
          rcases c with c | c
          · rw [c]; simp
          · rw [hlen] at c
            rw [List.eq_nil_of_length_eq_zero c]
            simp
        rw [e] at q
        exact ⟨.str (tx u), H, I, ⟨_, rfl⟩, q⟩
      · have hf : (⟨(List.replicate n.toNat (tx u).cps).foldl (· ++ ·) #[]⟩ : Str) = tx (List.replicate n.toNat u).flatten := by
          have := rep_fold u n.toNat []
          simp only [List.nil_append] at this
          exact congrArg Str.mk this
        rw [hf]
        refine ⟨?_, .str (tx (List.replicate n.toNat u).flatten), H, I.tok _, ⟨_, rfl⟩, q⟩
        rw [tx_len, len_rep, Nat.mul_comm]
        exact h2
def rCount : V → List V → Hp → VK → Prop := fun x vs H Q => ∃ u c, x = .str (tx u) ∧ vs = [.str ⟨#[c]⟩] ∧ Q (.int (u.count c : Nat)) H
end
open PySem PySem.Spec PyProof.Rows
section
variable {X : Cx} {K : PySem.W.Frag}
def rIsXT (K : PySem.W.Frag) : List V → Hp → VK → Prop := fun vs H Q => ∃ (a C p : Addr) (Ds : List Addr) (b : Bool), vs = [.ref a, .ref p] ∧ H a = some (exH C a) ∧ ExC K C ∧ H p = some (.tup (Ds.map V.ref)) ∧ PySem.W.kitAny K (.ref C) (Ds.map Value.ref) = some b ∧ Q (.bl b) H
end
open PySem PySem.Spec PyProof.Rows
section
variable {X : Cx} {K : PySem.W.Frag}
def rNeL (K : PySem.W.Frag) : R2 := fun x y H Q => ∃ p q xs ys, x = .ref p ∧ y = .ref q ∧ SqL K H p xs ∧ SqL K H q ys ∧ xs.all flatV = true ∧ ys.all flatV = true ∧ Q (.bl (!eqL xs ys)) H
end
open PySem PySem.Spec PyProof.Rows
theorem Room.units100 {k : Nat} {A : Around} (r : Room k A) : A.units + 100 < cLine := by have := r.un; omega
def SamL (K : PySem.W.Frag) (H : Hp) (p q : Addr) : Prop := ∃ as bs : List Addr, SqL K H p (as.map V.ref) ∧ SqL K H q (bs.map V.ref) ∧ as.length = bs.length ∧
  ∀ (i : Nat) (a b : Addr), as[i]? = some a → bs[i]? = some b → ∃ xs : List V, xs.all flatV = true ∧ SqL K H a xs ∧ SqL K H b xs
section
variable {X : Cx} {K : PySem.W.Frag}
def rNeLL (K : PySem.W.Frag) : R2 := fun x y H Q => ∃ p q, x = .ref p ∧ y = .ref q ∧ SamL K H p q ∧ Q (.bl false) H
def rEqLL (K : PySem.W.Frag) : R2 := fun x y H Q => ∃ p q, x = .ref p ∧ y = .ref q ∧ SamL K H p q ∧ Q (.bl true) H
end
open PySem PySem.Spec PyProof.Rows
section
variable {X : Cx} {K : PySem.W.Frag} {o e value : Expr} {f : Str} {pos pos' tpos : Pos} {ta tv : TE} {st : Stmt} {t : TS}
theorem pe_fldK (he : PE X e ta) (hb : attributeBase e f X.env (eval e X.env) = eval e X.env) (hK : X.K = K := by rfl) : PE X (.Attribute e f pos) (tFld K ta f) := by subst hK; exact pe_fld he hb
theorem ps_fldK (ha : PE X o ta) (hv : PE X value tv) (hs : swapsWith value (some (.Attribute o f pos')) pos.line X.env = pure false := by rfl) (hK : X.K = K := by rfl) : PS X (.Assign [.Attribute o f pos'] value pos) (sFld K ta tv f) := by subst hK; exact ps_fld ha hv hs
theorem ps_fr (h : X.A.frames = some X.stack → PS X st t) : PS X st t := fun pins s σ H D I hw => h I.ok.frames pins s σ H D I hw
end
structure Own (K : PySem.W.Frag) (C f : Addr) : Prop where
  c : Cls K C
  m : Mk K C f
theorem own_mk {K : PySem.W.Frag} {C f : Addr} (h1 : PySem.W.plainGet K C Str.empty = true) (h2 : PySem.W.hasDictIn K C = true) (h3 : PySem.W.plainOver K C = true) (h4 : PySem.W.findIn K (.ref C) "__setattr__" = some (some (.builtin "object.__setattr__")))
    (h5 : PySem.W.makesIn K C = true) (h6 : PySem.W.findIn K (.ref C) "__init__" = some (some (.ref f))) (h7 : PySem.W.isFn K (.ref f) = true) (h8 : PySem.W.keepIn K (.ref C) = true) : Own K C f := ⟨⟨h1, h2, h3, h4⟩, ⟨h5, h6, h7, h8⟩⟩
open PySem PySem.Spec PyProof.Rows
section
variable {X : Cx} {K : PySem.W.Frag}
def tSortR (K : PySem.W.Frag) (tl : TE) : TE := fun σ H Q => tl σ H fun x H1 => ∃ a ns, x = .ref a ∧ SqL K H1 a (vI ns) ∧ ns.length < 64 ∧ ∀ l ns', ns'.Perm ns → ns'.Pairwise (· ≥ ·) → H1 l = none → Q (.ref l) (upd H1 l (.lst (vI ns')))
theorem call_maxL (hK : X.K = K := by rfl) (hc : X.calm = true := by rfl) : CallR X (.builtin "max") (fun xs H Q => ∃ a ns, xs = [.ref a] ∧ SqL K H a (vI ns) ∧ 0 < ns.length ∧ ∀ M : Int, M ∈ ns → (∀ z ∈ ns, z ≤ M) → Q (.int M) H) := by
  subst hK
  intro pins s σ H xs us Q I rv h
  obtain ⟨a, ns, rfl, hq, h0, q⟩ := h
  obtain ⟨u, rfl, ru⟩ := rv.one
  cases ru
  obtain ⟨its, r, pl, hl⟩ := I.list hq
  have hi : IntsAre its ns := intsAre_of r
  obtain ⟨xs, hx⟩ := hi.allInts.items
  have hns : ns = xs.toList.map (·.1) := by rw [← hi.numsOf, ← nums_intItems, ← hx]
  have hsz : 0 < xs.size := by rw [hns, List.length_map, Array.length_toList] at h0; exact h0
  have hL : s.heap.IsList a (intItems xs) := by rw [← hx]; exact pl.isList
  refine max_intList (I.ok.hd hc) hL hsz fun v h' tk hv hk => ?_
  obtain ⟨t, rfl⟩ := intItems_at hv
  obtain ⟨h1, h2⟩ := argBest_gt (numAt xs) (xs.size - 1)
  refine ⟨.int _, H, I.kept hk, ⟨t, rfl⟩, q _ ?_ fun z hz => ?_⟩
  · rw [hns, numAt_eq]; exact getD_mem (by rw [List.length_map, Array.length_toList]; omega)
  · rw [hns] at hz
    obtain ⟨j, hj, rfl⟩ := mem_getD hz
    rw [List.length_map, Array.length_toList] at hj
    rw [← numAt_eq]; exact h2 j (by omega)
end
open PySem PySem.Spec PyProof.Rows
namespace SetW
theorem sl_nx : Slot "set_iterator" "__next__" "set_iterator.__next__" := .of (owner := "set_iterator") (n := "__next__") (by rw [typeLookup_type, builtinLookup_eq_fast]; kernel_rfl) (by decide +kernel) (by decide +kernel) (by decide +kernel) (by first | exact .inl (by decide +kernel) | exact .inr (by decide +kernel)) (by rw [isSubtype_type]; kernel_rfl)
theorem sl_it : Slot "set_iterator" "__iter__" "set_iterator.__iter__" := .of (owner := "set_iterator") (n := "__iter__") (by rw [typeLookup_type, builtinLookup_eq_fast]; kernel_rfl) (by decide +kernel) (by decide +kernel) (by decide +kernel) (by first | exact .inl (by decide +kernel) | exact .inr (by decide +kernel)) (by rw [isSubtype_type]; kernel_rfl)
theorem en_nx : entryFor table "set_iterator.__next__" = some Builtin.«set_iterator.__next__» := entryFor_of_fast (by kernel_rfl)
theorem en_it : entryFor table "set_iterator.__iter__" = some Builtin.«dict_keyiterator.__iter__» := entryFor_alias (id' := "dict_keyiterator.__iter__") (by kernel_rfl) rfl (by decide +kernel) (by kernel_rfl)
theorem en_si : entryFor table "set.__iter__" = some Builtin.«frozenset.__iter__» := entryFor_alias (id' := "frozenset.__iter__") (by kernel_rfl) rfl (by decide +kernel) (by kernel_rfl)
theorem ar_nx (a : Value) : argsOk "set_iterator.__next__" ⟨[a], []⟩ := by unfold argsOk; kernel_rfl
theorem ar_it (a : Value) : argsOk "set_iterator.__iter__" ⟨[a], []⟩ := by unfold argsOk; kernel_rfl
theorem le_set : typeLookup (.type "set") "__len__" = pure (some (.builtin "set.__len__")) := by rw [typeLookup_type, builtinLookup_eq_fast]; kernel_rfl
end SetW
open PySem PySem.Spec PyProof.Rows
namespace SetW
theorem pick_go {α : Type} (next : Nat → Nat) : ∀ (fuel k : Nat) (left : List α) (out : Array α), left.length ≤ fuel → (pickOrder.go next fuel k left out).toList.Perm (out.toList ++ left)
  | 0, k, left, out, h => by
    have : left = [] := List.length_eq_zero_iff.mp (by omega)
    subst this
    simp [pickOrder.go]
  | fuel + 1, k, left, out, h => by
    unfold pickOrder.go
    by_cases e : left = []
    · subst e
      simp
    · have l0 : 0 < left.length := List.length_pos_iff.mpr e
      have l1 : next k % left.length < left.length := Nat.mod_lt _ l0
      rw [List.getElem?_eq_getElem l1]
      dsimp only
      refine (pick_go next fuel (k + 1) _ _ (by rw [List.length_eraseIdx, if_pos l1]; omega)).trans ?_
      rw [Array.toList_push, List.append_assoc]
      refine List.Perm.append_left _ ?_
      rw [List.eraseIdx_eq_take_drop_succ]
      have e2 : left = left.take (next k % left.length) ++ left[next k % left.length] :: left.drop (next k % left.length + 1) := by
        rw [List.getElem_cons_drop, List.take_append_drop]
      exact (List.perm_middle (a := left[next k % left.length]) (l₁ := left.take (next k % left.length)) (l₂ := left.drop (next k % left.length + 1))).symm.trans (.of_eq e2.symm)
theorem pick_perm {α : Type} (next : Nat → Nat) (xs : Array α) : (pickOrder next xs).toList.Perm xs.toList := by
  have := pick_go next xs.size 0 xs.toList #[] (by simp)
  simpa [pickOrder] using this
def Rise (xs : Array Nat) : Prop := ∀ i k, i < k → k < xs.size → xs.getD i 0 < xs.getD k 0
theorem below_go (xs : Array Nat) (j : Nat) (hR : Rise xs) : ∀ (fuel lo hi : Nat), lo ≤ hi → hi ≤ xs.size → hi - lo ≤ fuel → (∀ i, i < lo → xs.getD i 0 < j) → (∀ i, hi ≤ i → i < xs.size → j ≤ xs.getD i 0) →
    SetTable.below.go xs j fuel lo hi ≤ xs.size ∧ (∀ i, i < SetTable.below.go xs j fuel lo hi → xs.getD i 0 < j) ∧ (∀ i, SetTable.below.go xs j fuel lo hi ≤ i → i < xs.size → j ≤ xs.getD i 0)
  | 0, lo, hi, h1, h2, h3, h4, h5 => by
    have : lo = hi := by omega
    subst this
    unfold SetTable.below.go
    exact ⟨h2, h4, h5⟩
  | fuel + 1, lo, hi, h1, h2, h3, h4, h5 => by
    unfold SetTable.below.go
    by_cases c : lo < hi
    · rw [if_pos c]
      have hm : (lo + hi) / 2 < xs.size := by omega
      have e : xs.getD ((lo + hi) / 2) j = xs.getD ((lo + hi) / 2) 0 := by simp [Array.getD, hm]
      dsimp only
      by_cases c2 : xs.getD ((lo + hi) / 2) j < j
      · rw [if_pos c2]
        refine below_go xs j hR fuel _ hi (by omega) h2 (by omega) (fun i hi' => ?_) h5
        rw [e] at c2
        by_cases c3 : i = (lo + hi) / 2
        · rw [c3]; exact c2
        · have := hR i ((lo + hi) / 2) (by omega) hm
          omega
      · rw [if_neg c2]
        refine below_go xs j hR fuel lo _ (by omega) (by omega) (by omega) h4 (fun i hi' hs => ?_)
        rw [e] at c2
        by_cases c3 : i = (lo + hi) / 2
        · rw [c3]; omega
        · have := hR ((lo + hi) / 2) i (by omega) hs
          omega
    · rw [if_neg c]
      have : lo = hi := by omega
      subst this
      exact ⟨h2, h4, h5⟩
theorem below_is {xs : Array Nat} (hR : Rise xs) (j : Nat) : SetTable.below xs j ≤ xs.size ∧ (∀ i, i < SetTable.below xs j → xs.getD i 0 < j) ∧ (∀ i, SetTable.below xs j ≤ i → i < xs.size → j ≤ xs.getD i 0) :=
  below_go xs j hR xs.size 0 xs.size (Nat.zero_le _) (Nat.le_refl _) (by omega) (fun i h => by omega) (fun i h1 h2 => by omega)
theorem below_zero {xs : Array Nat} (hR : Rise xs) : SetTable.below xs 0 = 0 := by
  obtain ⟨h1, h2, h3⟩ := below_is hR 0
  by_cases c : SetTable.below xs 0 = 0
  · exact c
  · have := h2 0 (by omega); omega
theorem below_next {xs : Array Nat} (hR : Rise xs) {i : Nat} (hi : i < xs.size) : SetTable.below xs (xs.getD i 0 + 1) = i + 1 := by
  obtain ⟨h1, h2, h3⟩ := below_is hR (xs.getD i 0 + 1)
  rcases Nat.lt_trichotomy (SetTable.below xs (xs.getD i 0 + 1)) (i + 1) with c | c | c
  · have := h3 i (by omega) hi; omega
  · exact c
  · have a := h2 (i + 1) c
    have := hR i (i + 1) (by omega) (by omega)
    omega
structure Wk (w : World) (o : Obj) (es : Array (Int × Value)) (ep : Nat) (t : SetTable) : Prop where
  ex : o.ExactSet
  d : o.data = .set es ep t
  f : t.fits es.size = true
  ok : w.params.followText "set-order" = true ∨ es.size = 0 ∨ (t.led = true ∧ (t.plain = true → Rise t.place))
theorem Wk.rise {w : World} {o : Obj} {es : Array (Int × Value)} {ep : Nat} {t : SetTable} (W : Wk w o es ep t) (hb : w.params.followText "set-order" = false) (hp : t.plain = true ∨ es.size ≤ 1) : Rise t.place := by
  have hf : t.place.size = es.size := by
    have := W.f
    unfold SetTable.fits at this
    simp at this
    exact this.1
  rcases W.ok with e | e | ⟨_, e⟩
  · rw [hb] at e; cases e
  · intro i k h1 h2; omega
  · rcases hp with hp | hp
    · exact e hp
    · intro i k h1 h2; omega
def Md (w : World) (a : Addr) (es : Array (Int × Value)) (ep : Nat) (t : SetTable) (h : Heap) (T : Addr) (xl : List (Int × Value)) (i : Nat) (f : Value) : Prop :=
  (∃ slot : Nat, f = .int slot 0 ∧ ((w.params.followText "set-order" = true ∧ xl = (pickOrder (w.params.setOrder a ep) es).toList) ∨ (w.params.followText "set-order" = false ∧ (t.plain = true ∨ es.size ≤ 1) ∧ xl = es.toList ∧ SetTable.below t.place slot = i))) ∨
  (∃ pm : List Nat, f = .ref T ∧ h.get? T = some (seqObj "tuple" (pm.map fun k : Nat => rawInt (k : Int)).toArray 0) ∧ pm.Perm (List.range es.size) ∧ xl = pm.map fun k => es.toList.getD k (0, .none))
theorem Md.perm {w : World} {a T : Addr} {es : Array (Int × Value)} {ep i : Nat} {t : SetTable} {h : Heap} {xl : List (Int × Value)} {f : Value} (m : Md w a es ep t h T xl i f) : xl.Perm es.toList := by
  rcases m with ⟨_, _, ⟨_, e⟩ | ⟨_, _, e, _⟩⟩ | ⟨pm, _, _, hp, e⟩
  · rw [e]; exact pick_perm _ _
  · rw [e]
  · rw [e]
    refine (hp.map _).trans (.of_eq ?_)
    refine List.ext_getElem? fun k => ?_
    rw [List.getElem?_map]
    by_cases c : k < es.size
    · rw [List.getElem?_range c]
      simp [List.getD, c]
    · rw [List.getElem?_eq_none (by simp; omega), List.getElem?_eq_none (by simp; omega)]
      rfl
theorem Md.len {w : World} {a T : Addr} {es : Array (Int × Value)} {ep i : Nat} {t : SetTable} {h : Heap} {xl : List (Int × Value)} {f : Value} (m : Md w a es ep t h T xl i f) : xl.length = es.size := by
  rw [m.perm.length_eq, Array.length_toList]
def StI (w : World) (I a T : Addr) (o : Obj) (es : Array (Int × Value)) (ep : Nat) (t : SetTable) (xl : List (Int × Value)) (i : Nat) (h : Heap) : Prop :=
  ∃ f oi, h.get? I = some oi ∧ oi.cls = .type "set_iterator" ∧ oi.data = .fields #[f, .int i 0, .ref a, .int es.size 0, .int ep 0] ∧ Md w a es ep t h T xl i f ∧ h.get? a = some o
section
variable {prog : Program} {w : World} {A : Around} {E : Value → Shared → Prop} {s : Shared} {a T : Addr} {o : Obj} {es : Array (Int × Value)} {ep : Nat} {t : SetTable} {xl : List (Int × Value)}
theorem StI.typeIs {I : Addr} {i : Nat} (x : StI w I a T o es ep t xl i s.heap) : s.TypeIs (.ref I) "set_iterator" := let ⟨_, oi, ho, hc, _⟩ := x; ⟨oi, ho, hc⟩
theorem typ (W : Wk w o es ep t) (ho : s.heap.get? a = some o) : s.TypeIs (.ref a) "set" := ⟨o, ho, W.ex.1⟩
theorem st_byText {Q : Bool → Shared → Prop} (h : Q (w.params.followText "set-order") s) : wpAny (model prog w) A setsByText Q E s := by
  unfold setsByText
  exact wpAny_bind (wpAny_askSetting (wpAny_pure h))
theorem st_drawn (W : Wk w o es ep t) (ho : s.heap.get? a = some o) {Q : Bool → Shared → Prop} (h : Q (!w.params.followText "set-order" && (!t.plain && decide (es.size > 1))) s) : wpAny (model prog w) A (setDrawn a) Q E s := by
  unfold setDrawn
  exact wpAny_bind (wpAny_setState_of ho W.d W.f (wpAny_bind (st_byText (wpAny_pure h))))
theorem st_epoch (W : Wk w o es ep t) (ho : s.heap.get? a = some o) {Q : Nat → Shared → Prop} (h : Q ep s) : wpAny (model prog w) A (setEpoch a) Q E s := by
  unfold setEpoch
  exact wpAny_bind (wpAny_setState_of ho W.d W.f (wpAny_pure h))
theorem st_ents (W : Wk w o es ep t) (ho : s.heap.get? a = some o) {Q : Array (Int × Value) → Shared → Prop} (h : Q es s) : wpAny (model prog w) A (setEntries a) Q E s := by
  unfold setEntries
  exact wpAny_bind (wpAny_setState_of ho W.d W.f (wpAny_pure h))
theorem st_choose {M : Model} {n : Nat} (hn : 0 < n) {Q : Nat → Shared → Prop} (h : ∀ i d, i < n → Q i { s with drawn := d }) : wpAny M A (choose .order n) Q E s := fun Γ p _ => by
  show Sem.wp M Γ (.choose .order n .pure) _ _ p s
  rw [Sem.wp_choose]
  exact ⟨by omega, h _ _ (Nat.mod_lt _ hn)⟩
theorem st_order {α : Type} {M : Model} : ∀ (n : Nat) (l : List α) {s : Shared} {Q : List α → Shared → Prop}, l.length ≤ n → (∀ l' d, l'.Perm l → Q l' { s with drawn := d }) → wpAny M A (drawOrder n l) Q E s
  | 0, l, s, Q, hl, h => by
    have : l = [] := List.length_eq_zero_iff.mp (by omega)
    subst this
    unfold drawOrder
    exact wpAny_pure (h [] s.drawn (.refl _))
  | n + 1, [], s, Q, hl, h => by
    unfold drawOrder
    exact wpAny_pure (h [] s.drawn (.refl _))
  | n + 1, x :: l, s, Q, hl, h => by
    unfold drawOrder
    refine wpAny_bind (st_choose (by simp) fun i d hi => ?_)
    rw [List.getElem?_eq_getElem hi]
    dsimp only
    refine wpAny_bind (st_order n ((x :: l).eraseIdx i) (by rw [List.length_eraseIdx, if_pos hi]; omega) fun l' d' hp => wpAny_pure (h _ d' ?_))
    refine (hp.cons _).trans ?_
    rw [List.eraseIdx_eq_take_drop_succ]
    have e2 : (x :: l) = (x :: l).take i ++ (x :: l)[i] :: (x :: l).drop (i + 1) := by rw [List.getElem_cons_drop, List.take_append_drop]
    exact (List.perm_middle (a := (x :: l)[i]) (l₁ := (x :: l).take i) (l₂ := (x :: l).drop (i + 1))).symm.trans (.of_eq e2.symm)
theorem it_set (W : Wk w o es ep t) (ho : s.heap.get? a = some o) (hz : es.size ≤ sizeLine) {Q : Value → Shared → Prop}
    (hQ : ∀ (h' : Heap) d I T xl, I ≠ a → T ≠ I → s.heap.objs.size ≤ I → (T = a ∨ s.heap.objs.size ≤ T) → (∀ b o, s.heap.get? b = some o → h'.get? b = some o) → StI w I a T o es ep t xl 0 h' → Q (.ref I) { s with heap := h', drawn := d }) : wpAny (model prog w) A (pyIter (.ref a)) Q E s := by
  have hT := typ W ho
  have ha : a < s.heap.objs.size := Heap.lt_size ho
  refine wpAny_pyIter_slot hT F.slot_set_iter (wpAny_call_entry F.slot_set_iter hT en_si ?_ (F.args_set_iter_1 _))
  unfold Builtin.«frozenset.__iter__»
  refine wpAny_bind (m := Builtin.Frozenset.slot0 "__iter__" ⟨[.ref a], []⟩) (wpAny_of_eq (a := a) rfl ?_)
  refine wpAny_bind (wpAny_bind (st_ents W ho (wpAny_pure ?_)))
  refine wpAny_bind (st_drawn W ho ?_)
  dsimp only
  by_cases c : (!w.params.followText "set-order" && (!t.plain && decide (es.size > 1))) = true
  · rw [if_pos c]
    refine wpAny_bind (st_order es.size (List.range es.size) (by simp) fun pm d hp => ?_)
    have hl : pm.length = es.size := by rw [hp.length_eq, List.length_range]
    unfold newTuple
    refine wpAny_bind (wpAny_newObj_type ?_ (by show (List.map _ pm).toArray.size ≤ _ + 1; rw [List.size_toArray, List.length_map, hl]; have := sizeLine_eq; omega))
    have k1 : ∀ b ob, s.heap.get? b = some ob → (s.heap.push { cls := .type "tuple", data := .seq (pm.map fun k : Nat => rawInt (k : Int)).toArray }).get? b = some ob := fun b ob e => Heap.get?_push_of_some _ e
    refine wpAny_bind (st_epoch W (k1 _ _ ho) (wpAny_bind (wpAny_newObj_type (wpAny_pure ⟨_, rfl, "set_iterator", _, ⟨_, Heap.get?_push_size _ rfl, rfl⟩, sl_nx.lookup, ?_⟩))))
    refine hQ _ d _ s.heap.objs.size (pm.map fun k => es.toList.getD k (0, .none)) ?_ ?_ ?_ (.inr (Nat.le_refl _)) (fun b ob e => Heap.get?_push_of_some _ (k1 _ _ e)) ?_
    · show (s.heap.push _).objs.size ≠ a
      rw [Heap.size_push]; exact Nat.ne_of_gt (Nat.lt_succ_of_lt ha)
    · show s.heap.objs.size ≠ (s.heap.push _).objs.size
      rw [Heap.size_push]; exact Nat.ne_of_lt (Nat.lt_succ_self _)
    · show s.heap.objs.size ≤ (s.heap.push _).objs.size
      rw [Heap.size_push]; exact Nat.le_succ _
    · exact ⟨.ref s.heap.objs.size, _, Heap.get?_push_size _ rfl, rfl, rfl, .inr ⟨pm, rfl, Heap.get?_push_of_some _ (Heap.get?_push_size _ rfl), hp, rfl⟩, Heap.get?_push_of_some _ (k1 _ _ ho)⟩
  · rw [if_neg c]
    refine wpAny_bind (wpAny_pure (wpAny_bind (st_epoch W ho (wpAny_bind (wpAny_newObj_type (wpAny_pure ⟨_, rfl, "set_iterator", _, ⟨_, Heap.get?_push_size _ rfl, rfl⟩, sl_nx.lookup, ?_⟩))))))
    have k : ∀ b ob, s.heap.get? b = some ob → (s.heap.push { cls := .type "set_iterator", data := .fields [rawInt 0, rawInt 0, .ref a, rawInt es.size, rawInt ep].toArray }).get? b = some ob := fun b ob e => Heap.get?_push_of_some _ e
    refine hQ _ s.drawn s.heap.objs.size a (if w.params.followText "set-order" = true then (pickOrder (w.params.setOrder a ep) es).toList else es.toList) (Nat.ne_of_gt ha) (Nat.ne_of_lt ha) (Nat.le_refl _) (.inl rfl) k ?_
    refine ⟨rawInt 0, _, Heap.get?_push_size _ rfl, rfl, rfl, .inl ⟨0, rfl, ?_⟩, k _ _ ho⟩
    by_cases hb : w.params.followText "set-order" = true
    · exact .inl ⟨hb, by rw [if_pos hb]⟩
    · have hb' : w.params.followText "set-order" = false := by simpa using hb
      rw [hb'] at c
      have hpl : t.plain = true ∨ es.size ≤ 1 := by
        by_cases z : t.plain = true
        · exact .inl z
        · have z' : t.plain = false := by simpa using z
          rw [z'] at c
          simp at c
          exact .inr c
      exact .inr ⟨hb', hpl, by rw [if_neg hb], below_zero (W.rise hb' hpl)⟩
theorem st_next (W : Wk w o es ep t) (ho : s.heap.get? a = some o) {slot i : Nat}
    (hm : (w.params.followText "set-order" = true ∧ xl = (pickOrder (w.params.setOrder a ep) es).toList) ∨ (w.params.followText "set-order" = false ∧ (t.plain = true ∨ es.size ≤ 1) ∧ xl = es.toList ∧ SetTable.below t.place slot = i)) {Q : Option (Value × Nat) → Shared → Prop}
    (h : ∀ next, (i < es.size → (w.params.followText "set-order" = true ∧ xl = (pickOrder (w.params.setOrder a ep) es).toList) ∨ (w.params.followText "set-order" = false ∧ (t.plain = true ∨ es.size ≤ 1) ∧ xl = es.toList ∧ SetTable.below t.place next = i + 1)) →
      Q ((xl[i]?).map fun e => (e.2, next)) s) : wpAny (model prog w) A (setNext a slot i ep) Q E s := by
  unfold setNext
  refine wpAny_bind (wpAny_setState_of ho W.d W.f (wpAny_bind (st_byText ?_)))
  dsimp only
  rcases hm with ⟨hb, hx⟩ | ⟨hb, hp, hx, hs⟩
  · rw [hb, if_pos rfl, if_neg (by simp)]
    unfold setWalk
    refine wpAny_bind (wpAny_bind (wpAny_setState_of ho W.d W.f (wpAny_bind (st_byText ?_))))
    rw [hb, if_pos rfl]
    refine wpAny_bind (wpAny_askSetting (wpAny_pure (wpAny_pure ?_)))
    have := h slot fun _ => .inl ⟨hb, hx⟩
    rw [hx, Array.getElem?_toList] at this
    exact this
  · rw [hb, if_neg (by decide)]
    have hR := W.rise hb hp
    have hf : t.place.size = es.size := by
      have := W.f
      unfold SetTable.fits at this
      simp at this
      exact this.1
    have nd : (!t.plain && decide (es.size > 1)) = false := by
      rcases hp with e | e
      · rw [e]; simp
      · rw [decide_eq_false (by omega)]; simp
    have nl : (!t.led && !es.isEmpty) = false := by
      rcases W.ok with e | e | ⟨e, _⟩
      · rw [hb] at e; cases e
      · simp [Array.isEmpty, e]
      · rw [e]; simp
    split
    · rename_i hd
      have hd' : (!t.plain && decide (es.size > 1)) = true := hd
      rw [nd] at hd'
      cases hd'
    · refine wpAny_bind ?_
      show wpAny _ _ (if (!t.led && !es.isEmpty) = true then unsupported "set:maker-not-led" else pure ()) _ _ _
      rw [nl, if_neg (by decide)]
      refine wpAny_pure (wpAny_pure ?_)
      rw [hs]
      by_cases hi : i < es.size
      · have := h (t.place[i]'(by omega) + 1) fun _ => .inr ⟨hb, hp, hx, by
          have := below_next hR (i := i) (by omega)
          rwa [show t.place.getD i 0 = t.place[i]'(by omega) by simp [Array.getD, show i < t.place.size by omega]] at this⟩
        rw [hx, Array.getElem?_toList, Array.getElem?_eq_getElem hi] at this
        rw [Array.getElem?_eq_getElem hi, Array.getElem?_eq_getElem (show i < t.place.size by omega)]
        exact this
      · have := h 0 fun z => absurd z hi
        rw [hx, Array.getElem?_toList, Array.getElem?_eq_none (by omega)] at this
        rw [Array.getElem?_eq_none (by omega)]
        exact this
theorem nx_item (W : Wk w o es ep t) {I : Addr} {i : Nat} {x : Int × Value} {Q : Option Value → Shared → Prop} (hne : a ≠ I) (hnT : T ≠ I) (st : StI w I a T o es ep t xl i s.heap) (hx : xl[i]? = some x)
    (hQ : ∀ h', StI w I a T o es ep t xl (i + 1) h' → (∀ b o, b ≠ I → s.heap.get? b = some o → h'.get? b = some o) → Q (some x.2) { s with heap := h' }) : wpAny (model prog w) A (pyNext (.ref I)) Q E s := by
  have hT := st.typeIs
  obtain ⟨f, oi, hoi, hci, hdi, hm, ho⟩ := st
  have hi : i < es.size := by rw [← hm.len]; exact (List.getElem?_eq_some_iff.mp hx).1
  unfold pyNext
  refine wpAny_bind (wpAny_attempt (wpAny_callSpecial?_slot (name := Str.ofString "__next__") hT sl_nx (wpAny_call_entry sl_nx hT en_nx ?_ (ar_nx _))))
  unfold Builtin.«set_iterator.__next__»
  refine wpAny_bind (m := slotArgs "__next__" 0 ⟨[.ref I], []⟩) (wpAny_of_eq (a := (Value.ref I, [])) rfl ?_)
  refine wpAny_bind (wpAny_fieldsOf hoi hdi ?_)
  dsimp only
  refine wpAny_bind (st_ents W ho ?_)
  rw [if_neg (by simp)]
  rcases hm with ⟨slot, rfl, hm⟩ | ⟨pm, rfl, hT2, hp, hxl⟩
  · simp only [Int.toNat_natCast]
    refine wpAny_bind (st_next W ho hm fun next hn => ?_)
    rw [hx]
    dsimp only [Option.map]
    refine wpAny_bind (wpAny_setField hoi hdi (by simp) ?_)
    have ho1 := Heap.get?_update_self (Obj.mapFields (·.setIfInBounds 0 (rawInt (next : Int)))) hoi (Obj.isFreed_of_fields (Obj.data_mapFields hdi _))
    have hd1 := Obj.data_mapFields hdi (·.setIfInBounds 0 (rawInt (next : Int)))
    refine wpAny_bind (wpAny_setField ho1 hd1 (by simp) (wpAny_pure ⟨_, rfl, wpAny_pure (hQ _ ⟨.int next 0, _, Heap.get?_update_self _ ho1 (Obj.isFreed_of_fields (Obj.data_mapFields hd1 _)), ?_, ?_, .inl ⟨next, rfl, hn hi⟩, ?_⟩ fun b o' hb e => ?_)⟩))
    · exact (Obj.cls_mapFields ..).trans ((Obj.cls_mapFields ..).trans hci)
    · rw [Obj.data_mapFields hd1]; simp [rawInt]
    · exact (Heap.get?_update_other _ _ (Ne.symm hne)).trans ((Heap.get?_update_other _ _ (Ne.symm hne)).trans ho)
    · exact (Heap.get?_update_other _ _ (Ne.symm hb)).trans ((Heap.get?_update_other _ _ (Ne.symm hb)).trans e)
  · have hpi : i < pm.length := by rw [hp.length_eq, List.length_range]; exact hi
    have hk : pm[i] < es.size := by
      have := hp.mem_iff.mp (List.getElem_mem hpi)
      simpa using this
    have e1 : es[pm[i]]? = some x := by
      rw [hxl, List.getElem?_map, List.getElem?_eq_getElem hpi] at hx
      have := Option.some.inj hx
      rw [Array.getElem?_eq_getElem hk]
      simp [List.getD, hk] at this
      rw [this]
    simp only [Int.toNat_natCast]
    refine wpAny_bind (wpAny_seqItems hT2 rfl ?_)
    dsimp only
    rw [show ((pm.map fun k : Nat => rawInt (k : Int)).toArray)[i]? = some (.int (pm[i] : Int) 0) by simp [hpi, rawInt]]
    dsimp only
    unfold setNextDrawn
    refine wpAny_bind (wpAny_bind (wpAny_setState_of ho W.d W.f ?_))
    dsimp only
    rw [if_neg (by simp)]
    simp only [Int.toNat_natCast]
    rw [e1]
    refine wpAny_pure (wpAny_bind (wpAny_setField hoi hdi (by simp) (wpAny_pure ⟨_, rfl, wpAny_pure (hQ _ ⟨.ref T, _, Heap.get?_update_self _ hoi (Obj.isFreed_of_fields (Obj.data_mapFields hdi _)), ?_, ?_, .inr ⟨pm, rfl, ?_, hp, hxl⟩, ?_⟩ fun b o' hb e => ?_)⟩)))
    · exact (Obj.cls_mapFields ..).trans hci
    · rw [Obj.data_mapFields hdi]; simp [rawInt]
    · exact (Heap.get?_update_other _ _ (Ne.symm hnT)).trans hT2
    · exact (Heap.get?_update_other _ _ (Ne.symm hne)).trans ho
    · exact (Heap.get?_update_other _ _ (Ne.symm hb)).trans e
theorem stops (hh : A.handled = none) {Q : Option Value → Shared → Prop} (hQ : ∀ h', (∀ b o, s.heap.get? b = some o → h'.get? b = some o) → Q none { s with heap := h' }) :
    wpAny (model prog w) A.in1 (do raiseNew (← newExc (.type "StopIteration") []) : Sem Fin) (fun fin s' => ∃ v, fin = Fin.done (Flow.ret v) ∧ wpAny (model prog w) A (pure (some v)) Q E s')
      (fun e s' => wpAny (model prog w) A (do if ← isInstance e (.type "StopIteration") then pure none else throw e) Q E s') s := by
  refine wpAny_bind ?_
  simp only [newExc, newTuple]
  refine wpAny_bind (wpAny_newObj_type (wpAny_bind (m := firstArgMember _ _) (wpAny_of_eq (a := Value.none) (by first | rfl | (simp only [firstArgMember]; rfl)) (wpAny_newObj_type ?_ (by size_fits)))) (by size_fits))
  simp only [raiseNew]
  refine wpAny_bind (wpAny_handled ?_)
  rw [show A.in1.handled = none from hh]
  refine wpAny_bind (wpAny_pure (wpAny_throw ?_))
  refine wpAny_bind (wpAny_isInstance (T := "StopIteration") (b := true) ⟨_, Heap.get?_push_size _ rfl, rfl⟩ isSubtype_stop (wpAny_pure (hQ _ fun b o' e => ?_)))
  exact Heap.get?_push_of_some _ (Heap.get?_push_of_some _ e)
theorem nx_end (W : Wk w o es ep t) {I : Addr} {Q : Option Value → Shared → Prop} (hh : A.handled = none) (st : StI w I a T o es ep t xl es.size s.heap)
    (hQ : ∀ h', (∀ b o, b ≠ I → s.heap.get? b = some o → h'.get? b = some o) → Q none { s with heap := h' }) : wpAny (model prog w) A (pyNext (.ref I)) Q E s := by
  have hT := st.typeIs
  obtain ⟨f, oi, hoi, hci, hdi, hm, ho⟩ := st
  have hx : xl[es.size]? = none := List.getElem?_eq_none (by rw [hm.len]; exact Nat.le_refl _)
  unfold pyNext
  refine wpAny_bind (wpAny_attempt (wpAny_callSpecial?_slot (name := Str.ofString "__next__") hT sl_nx (wpAny_call_entry sl_nx hT en_nx ?_ (ar_nx _))))
  unfold Builtin.«set_iterator.__next__»
  refine wpAny_bind (m := slotArgs "__next__" 0 ⟨[.ref I], []⟩) (wpAny_of_eq (a := (Value.ref I, [])) rfl ?_)
  refine wpAny_bind (wpAny_fieldsOf hoi hdi ?_)
  dsimp only
  refine wpAny_bind (st_ents W ho ?_)
  rw [if_neg (by simp)]
  rcases hm with ⟨slot, rfl, hm⟩ | ⟨pm, rfl, hT2, hp, hxl⟩
  · simp only [Int.toNat_natCast]
    refine wpAny_bind (st_next W ho hm fun next hn => ?_)
    rw [hx]
    dsimp only [Option.map]
    refine wpAny_bind (wpAny_setField hoi hdi (by simp) (stops hh fun h' k => hQ h' fun b o' hb e => k _ _ ?_))
    exact (Heap.get?_update_other _ _ (Ne.symm hb)).trans e
  · simp only [Int.toNat_natCast]
    refine wpAny_bind (wpAny_seqItems hT2 rfl ?_)
    dsimp only
    rw [show ((pm.map fun k : Nat => rawInt (k : Int)).toArray)[es.size]? = none by
      rw [List.getElem?_toArray]
      exact List.getElem?_eq_none (by rw [List.length_map, hp.length_eq, List.length_range]; exact Nat.le_refl _)]
    dsimp only
    refine wpAny_bind (wpAny_setField hoi hdi (by simp) ?_)
    have ho1 := Heap.get?_update_self (Obj.mapFields (·.setIfInBounds 0 (rawInt 0))) hoi (Obj.isFreed_of_fields (Obj.data_mapFields hdi _))
    have hd1 := Obj.data_mapFields hdi (·.setIfInBounds 0 (rawInt 0))
    refine wpAny_bind (wpAny_setField ho1 hd1 (by simp) (stops hh fun h' k => hQ h' fun b o' hb e => k _ _ ?_))
    exact (Heap.get?_update_other _ _ (Ne.symm hb)).trans ((Heap.get?_update_other _ _ (Ne.symm hb)).trans e)
theorem it_self {I : Addr} {i : Nat} {Q : Value → Shared → Prop} (st : StI w I a T o es ep t xl i s.heap) (h : Q (.ref I) s) : wpAny (model prog w) A (pyIter (.ref I)) Q E s := by
  have hT := st.typeIs
  refine wpAny_pyIter_slot hT sl_it (wpAny_call_entry sl_it hT en_it ?_ (ar_it _))
  show wpAny _ _ (ret (.ref I)) _ _ s
  exact wpAny_pure ⟨_, rfl, "set_iterator", _, hT, sl_nx.lookup, h⟩
theorem walks (W : Wk w o es ep t) (hh : A.handled = none) {I : Addr} (hne : a ≠ I) (hnT : T ≠ I) : Walks prog w A I [I, a, T] [I] es.size (fun i v => ∃ x, xl[i]? = some x ∧ v = x.2) (StI w I a T o es ep t xl) where
  sub := fun b hb => by rw [List.mem_singleton.mp hb]; exact List.mem_cons_self
  frame := fun i h h' ⟨f, oi, h1, h2, h3, hm, h4⟩ hk => ⟨f, oi, hk I (by simp) _ h1, h2, h3, by
    rcases hm with m | ⟨pm, m1, m2, m3⟩
    · exact .inl m
    · exact .inr ⟨pm, m1, hk T (by simp) _ m2, m3⟩, hk a (by simp) _ h4⟩
  item := fun i s Q E hi st hQ => by
    obtain ⟨x, hx⟩ : ∃ x, xl[i]? = some x := ⟨_, List.getElem?_eq_getElem (by
      obtain ⟨_, _, _, _, _, hm, _⟩ := id st
      rw [hm.len]; exact hi)⟩
    exact nx_item W hne hnT st hx fun h' st' hk => hQ _ h' s.toks ⟨x, hx, rfl⟩ st' fun b o hb e => hk b o (fun z => hb (by simp [z])) e
  done := fun s Q E st hQ => nx_end W hh st fun h' hk => hQ h' s.toks fun b o hb e => hk b o (fun z => hb (by simp [z])) e
  self := fun i s Q E st hQ => it_self st hQ
end
end SetW
open PySem PySem.Spec PyProof.Rows
namespace SetW
section
variable {prog : Program} {w : World} {A : Around} {E : Value → Shared → Prop} {s : Shared} {a : Addr} {o : Obj} {es : Array (Int × Value)} {ep : Nat} {t : SetTable}
theorem sub_ss : isSubtype (.type "set") (.type "set") = pure true := by rw [isSubtype_type]; kernel_rfl
theorem col_set (W : Wk w o es ep t) (ho : s.heap.get? a = some o) (hh : A.handled = none) (hn : es.size ≤ sizeLine) {Q : List Value → Shared → Prop}
    (hQ : ∀ (xl : List (Int × Value)) s', xl.Perm es.toList → (∀ b o, s.heap.get? b = some o → s'.heap.get? b = some o) → s'.gens = s.gens → s'.os = s.os → s.heap.objs.size ≤ s'.heap.objs.size → Q (xl.map (·.2)) s') : wpAny (model prog w) A (collect (.ref a)) Q E s := by
  have ha : a < s.heap.objs.size := Heap.lt_size ho
  unfold collect
  refine wpAny_bind (wpAny_runValue (codeAny_builtin F.entry_proto_collect ?_))
  rw [Around.under_plainId F.plain_proto_collect _]
  show wpAny _ A.in1 (newList [] >>= fun l => again (.builtin "list.__iadd__" ⟨[l, .ref a], []⟩)) _ _ s
  refine wpAny_bind (wpAny_newObj_type (wpAny_pure ⟨plainId_quiet F.plain_list_iadd _, codeAny_builtin F.entry_list_iadd ?_⟩))
  rw [Around.under_plainId F.plain_list_iadd _]
  obtain ⟨h1, eh1⟩ : ∃ h1, h1 = s.heap.push { cls := .type "list", data := .seq ([] : List Value).toArray } := ⟨_, rfl⟩
  have hS1 : h1.get? s.heap.objs.size = some { cls := .type "list", data := .seq ([] : List Value).toArray } := by rw [eh1]; exact Heap.get?_push_size _ rfl
  have k1 : ∀ b o, s.heap.get? b = some o → h1.get? b = some o := fun b o e => by rw [eh1]; exact Heap.get?_push_of_some _ e
  have z1 : h1.objs.size = s.heap.objs.size + 1 := by rw [eh1, Heap.size_push]
  show wpAny _ A.in1 (Builtin.List.listExtendWith (.ref s.heap.objs.size) (.ref a) (.ref s.heap.objs.size)) _ _ { s with heap := s.heap.push { cls := .type "list", data := .seq ([] : List Value).toArray } }
  rw [← eh1]
  unfold Builtin.List.listExtendWith
  have ho1 := k1 _ _ ho
  refine wpAny_bind (wpAny_typeOf (typ (s := { s with heap := h1 }) W ho1) ?_)
  have e1 : Builtin.List.listSameRef (.ref s.heap.objs.size) (.ref a) = false := by
    have : s.heap.objs.size ≠ a := Nat.ne_of_gt ha
    simp [Builtin.List.listSameRef, this]
  rw [if_neg (by rw [e1]; decide)]
  refine wpAny_bind (it_set (s := { s with heap := h1 }) W ho1 hn ?_)
  intro h2 d I T xl nIa nTI sI sT k2 st2
  have hxp : xl.Perm es.toList := by
    obtain ⟨_, _, _, _, _, hm, _⟩ := st2
    exact hm.perm
  have sI' : s.heap.objs.size < I := Nat.lt_of_lt_of_le (by rw [z1]; exact Nat.lt_succ_self _) sI
  show wpAny _ A.in1 _ _ _ { s with heap := h2, drawn := d }
  refine wpAny_bind (wpAny_holding ?_)
  unfold Builtin.List.listLengthHint
  have ho2 := k2 _ _ ho1
  refine wpAny_bind (wpAny_specialOf (typ (s := { s with heap := h2, drawn := d }) W ho2) le_set ?_)
  generalize hid : ("set.__len__" : String) = ln0
  wp_delta
  rw [show splitId ln0 = some ("set", "__len__") by subst hid; decide +kernel]
  subst hid
  refine wpAny_bind (wpAny_isInstance (b := true) (typ (s := { s with heap := h2, drawn := d }) W ho2) sub_ss ?_)
  rw [if_neg (by decide)]
  split
  case isFalse hn1 => exact absurd (by decide +kernel) hn1
  refine wpAny_bind (wpAny_typeOf (typ (s := { s with heap := h2, drawn := d }) W ho2) (wpAny_pure ?_))
  rw [if_pos (by decide +kernel)]
  refine wpAny_bind (wpAny_rule (wpAny_bind ?_))
  have hS2 := k2 _ _ hS1
  show wpAny _ A.in1 (updateSeq s.heap.objs.size (·.push .none) >>= fun _ => updateSeq s.heap.objs.size (·.pop)) _ _ _
  refine wpAny_bind (wpAny_updateSeq hS2 rfl ?_)
  have hS3 := Heap.get?_update_self (Obj.mapSeq (·.push Value.none)) hS2 rfl
  refine wpAny_updateSeq hS3 rfl ?_
  have hS4 := Heap.get?_update_self (Obj.mapSeq (·.pop)) hS3 rfl
  obtain ⟨h4, eh4⟩ : ∃ h4, h4 = (h2.update s.heap.objs.size (Obj.mapSeq (·.push Value.none))).update s.heap.objs.size (Obj.mapSeq (·.pop)) := ⟨_, rfl⟩
  have k4 : ∀ b o, b ≠ s.heap.objs.size → h2.get? b = some o → h4.get? b = some o := fun b o hb e => by rw [eh4]; exact (Heap.get?_update_other _ _ (Ne.symm hb)).trans ((Heap.get?_update_other _ _ (Ne.symm hb)).trans e)
  have nT : T ≠ s.heap.objs.size := by
    rcases sT with e | e
    · rw [e]; exact Nat.ne_of_lt ha
    · exact Nat.ne_of_gt (Nat.lt_of_lt_of_le (by rw [z1]; exact Nat.lt_succ_self _) e)
  have WK := walks (prog := prog) (T := T) (xl := xl) (A := A.in1) W hh nIa.symm nTI
  have st4 : StI w I a T o es ep t xl 0 h4 := WK.frame 0 h2 h4 st2 fun b hb ob e => k4 b ob (by
    simp only [List.mem_cons, List.not_mem_nil, or_false] at hb
    rcases hb with e | e | e
    · rw [e]; exact Nat.ne_of_gt sI'
    · rw [e]; exact Nat.ne_of_lt ha
    · rw [e]; exact nT) e
  show wpAny _ A.in1 (again (.builtin "list.extend.loop" ⟨[.ref s.heap.objs.size, .ref I, .ref s.heap.objs.size], []⟩)) _ _ { s with heap := (h2.update s.heap.objs.size (Obj.mapSeq (·.push Value.none))).update s.heap.objs.size (Obj.mapSeq (·.pop)), drawn := d }
  rw [← eh4]
  rw [← eh4] at hS4
  refine wpAny_pure ⟨plainId_quiet F.plain_extend_loop _, codeAny_extend_loopS (WK.toS) hn s.heap.objs.size ?_ _ es.size 0 _ _ _ rfl (Nat.zero_le _) st4 hS4 (ItemsOf.nil _) fun s' acc' c' hm hS' hacc => ?_⟩
  · simp only [List.mem_cons, List.not_mem_nil, or_false, not_or]
    exact ⟨Nat.ne_of_lt sI', Nat.ne_of_gt ha, nT.symm⟩
  show wpAny _ A (load s.heap.objs.size >>= _) _ _ s'
  refine wpAny_bind (wpAny_load hS' (wpAny_pure ?_))
  have xlen : xl.length = es.size := by rw [hxp.length_eq, Array.length_toList]
  have ea : acc'.toList = xl.map (·.2) := by
    refine List.ext_getElem? fun i => ?_
    rw [List.getElem?_map, Array.getElem?_toList]
    by_cases hi : i < es.size
    · have hi2 : i < acc'.size := by rw [hacc.1]; exact hi
      obtain ⟨x, g1, g2⟩ := hacc.2 i acc'[i] (Array.getElem?_eq_getElem hi2)
      rw [g1, Array.getElem?_eq_getElem hi2, g2]
      rfl
    · rw [Array.getElem?_eq_none (by rw [hacc.1]; omega), List.getElem?_eq_none (by rw [xlen]; omega)]
      rfl
  rw [ea]
  refine hQ xl s' hxp (fun b ob e => hm.heap b ob ?_ (k4 _ _ (Nat.ne_of_lt (Heap.lt_size e)) (k2 _ _ (k1 _ _ e)))) hm.gens hm.os (Nat.le_of_lt (Heap.lt_size hS'))
  have := Heap.lt_size e
  simp only [List.mem_cons, List.not_mem_nil, or_false, not_or]
  exact ⟨Nat.ne_of_lt this, Nat.ne_of_lt (Nat.lt_trans this sI')⟩
theorem sorted_set (W : Wk w o es ep t) (ho : s.heap.get? a = some o) (hh : A.handled = none) (h64 : es.size < 64) {key : Int × Value → Int} (hI : ∀ e ∈ es.toList, ∃ tk, e.2 = .int (key e) tk) {Q : Value → Shared → Prop}
    (hQ : ∀ (h' : Heap) d (tk l e : Nat) (out : Array Value) (ns' : List Int), (∀ b o, s.heap.get? b = some o → h'.get? b = some o) → s.heap.objs.size ≤ l → h'.get? l = some (seqObj "list" out e) → IntsAre out.toList ns' → ns'.Perm (es.toList.map key) → ns'.Pairwise (· ≤ ·) →
      Q (.ref l) { s with heap := h', drawn := d, toks := tk }) : wpAny (model prog w) A (call (.builtin "sorted") [.ref a]) Q E s := by
  refine Calls.call_function_entry kind_sorted plain_sorted entry_sorted (args_sorted1 _) ?_
  unfold Builtin.«sorted»
  refine wpAny_bind (m := checkCount "sorted" 1 1 _) (wpAny_pure (wpAny_bind (col_set (A := A.in1) W ho hh (by rw [sizeLine_eq]; omega) fun xl s' hxp k hg hos hz => ?_)))
  obtain ⟨h', g', d', tk', os'⟩ := s'
  dsimp only at k hg hos hz
  subst hg hos
  have xlen : xl.length = es.size := by rw [hxp.length_eq, Array.length_toList]
  have hI2 : ∀ l : List (Int × Value), (∀ e ∈ l, ∃ tk, e.2 = .int (key e) tk) → IntsAre (l.map (·.2)) (l.map key) := by
    intro l
    induction l with
    | nil => intro _; exact .nil
    | cons e l ih =>
      intro h
      obtain ⟨tk, hk⟩ := h e List.mem_cons_self
      rw [List.map_cons, List.map_cons, hk]
      exact .cons _ _ (ih fun x hx => h x (List.mem_cons_of_mem _ hx))
  have hIx := hI2 xl fun e he => hI e (hxp.mem_iff.mp he)
  have hoL : (h'.push (seqObj "list" (xl.map (·.2)).toArray 0)).get? h'.objs.size = some (seqObj "list" (xl.map (·.2)).toArray 0) := Heap.get?_push_size _ rfl
  refine wpAny_bind (wpAny_newList (hsz := by rw [List.length_map, xlen, sizeLine_eq]; omega) ?_)
  show wpAny _ _ _ _ _ { s with heap := h'.push (seqObj "list" (xl.map (·.2)).toArray 0), drawn := d', toks := tk' }
  refine wpAny_bind (wpAny_holding (wpAny_call_entry slot_list_sort ⟨_, hoL, rfl⟩ entry_list_sort (list_sort_tree hoL hIx (by rw [List.length_map, xlen]; exact h64) fun out ns' a1 a2 a3 => ⟨_, rfl, wpAny_pure ⟨_, rfl, ?_⟩⟩) (args_list_sort _)))
  obtain ⟨e, he⟩ := sortedHeap_at (out := out) hoL
  refine hQ _ d' tk' h'.objs.size e out ns' (fun b ob eb => ?_) ?_ he a1 (a2.trans (hxp.map _)) a3
  · have lb := Heap.lt_size (k _ _ eb)
    rw [sortedHeap_old (Nat.ne_of_lt lb) (by rw [size_push']; exact Nat.lt_succ_of_lt lb)]
    exact Heap.get?_push_of_some _ (k _ _ eb)
  · exact hz
end
end SetW
open PySem PySem.Spec PyProof.Rows
namespace SetW
theorem rise_iff {xs : Array Nat} : Rise xs ↔ xs.toList.Pairwise (· < ·) := by
  rw [List.pairwise_iff_getElem]
  constructor
  · intro h i j hi hj hij
    have := h i j hij (by simpa using hj)
    have hi' : i < xs.size := by simpa using hi
    have hj' : j < xs.size := by simpa using hj
    simpa [Array.getD, hi', hj'] using this
  · intro h i k hik hk
    have := h i k (by simp; omega) (by simpa using hk) hik
    have hi' : i < xs.size := by omega
    simpa [Array.getD, hi', hk] using this
theorem rise_put {xs : Array Nat} {j : Nat} (hR : Rise xs) (hn : xs[SetTable.below xs j]? ≠ some j) : Rise (SetTable.insertAt xs (SetTable.below xs j) j) := by
  obtain ⟨h1, h2, h3⟩ := below_is hR j
  have hP := rise_iff.mp hR
  rw [rise_iff]
  generalize SetTable.below xs j = p at h1 h2 h3 hn
  have e : (SetTable.insertAt xs p j).toList = xs.toList.take p ++ j :: xs.toList.drop p := by
    unfold SetTable.insertAt
    simp [Array.toList_extract, List.take_of_length_le]
  rw [e]
  have g : ∀ i, i < xs.size → xs.getD i 0 = xs.toList.getD i 0 := fun i hi => by simp [Array.getD, List.getD, hi]
  have lo : ∀ y ∈ xs.toList.take p, y < j := fun y hy => by
    obtain ⟨i, hi, rfl⟩ := List.mem_take_iff_getElem.mp hy
    have hi' : i < p ∧ i < xs.size := by simpa using (Nat.lt_min.mp hi)
    have := h2 i hi'.1
    simpa [Array.getD, hi'.2] using this
  have hi : ∀ y ∈ xs.toList.drop p, j < y := fun y hy => by
    obtain ⟨i, hi, rfl⟩ := List.mem_drop_iff_getElem.mp hy
    have hi' : i + p < xs.size := by simpa using hi
    have a := h3 (i + p) (by omega) hi'
    have b : xs.getD (i + p) 0 = xs[i + p] := by simp [Array.getD, hi']
    rw [b] at a
    have ne : xs[i + p] ≠ j := fun z => by
      by_cases c : i = 0
      · subst c
        apply hn
        rw [Array.getElem?_eq_getElem (by omega)]
        simp at z
        rw [z]
      · have c1 := h3 p (Nat.le_refl _) (by omega)
        have c2 := hR p (i + p) (by omega) hi'
        rw [b, z] at c2
        omega
    have : (xs.toList)[i + p]'(by simpa using hi') = xs[i + p] := by simp
    simp only [Nat.add_comm] at *
    omega
  rw [List.pairwise_append]
  refine ⟨hP.sublist (List.take_sublist _ _), ?_, fun a ha b hb => ?_⟩
  · rw [List.pairwise_cons]
    exact ⟨hi, hP.sublist (List.drop_sublist _ _)⟩
  · rcases List.mem_cons.mp hb with e | hb
    · rw [e]; exact lo a ha
    · exact Nat.lt_trans (lo a ha) (hi b hb)
theorem probe_free (t : SetTable) (g : Nat → Int) (h : Int) : ∀ (fuel : Nat) (p : SetTable.Probe) (j : Nat) (dm : Option Nat), (∀ d, p.dummy = some d → t.slot d = .dummy) → SetTable.probe.go t g h fuel p = some (.empty j dm) → t.slot j = .empty ∧ ∀ d, dm = some d → t.slot d = .dummy
  | 0, p, j, dm, hd, e => by simp [SetTable.probe.go] at e
  | fuel + 1, p, j, dm, hd, e => by
    have adv : ∀ q : SetTable.Probe, (t.advance q).dummy = q.dummy := fun q => by
      unfold SetTable.advance
      split <;> rfl
    unfold SetTable.probe.go at e
    split at e
    · rename_i hs
      injection e with e
      injection e with e1 e2
      subst e1 e2
      exact ⟨hs, hd⟩
    · rename_i hs
      refine probe_free t g h fuel _ j dm (fun d hd' => ?_) e
      rw [adv] at hd'
      have : p.j = d := by simpa using hd'
      rw [← this]; exact hs
    · split at e
      · cases e
      · exact probe_free t g h fuel _ j dm (fun d hd' => hd d (by rwa [adv] at hd')) e
theorem free_slot {t : SetTable} {h : Int} {j : Nat} {b : Bool} (e : t.freeSlot h = some (j, b)) : t.place[SetTable.below t.place j]? ≠ some j := by
  have nl : t.slot j = .empty ∨ t.slot j = .dummy := by
    unfold SetTable.freeSlot at e
    split at e
    · rename_i j' dm hp
      unfold SetTable.probe at hp
      obtain ⟨a, b'⟩ := probe_free t _ h _ _ j' dm (fun d hd => by simp [SetTable.probeStart] at hd) hp
      injection e with e
      injection e with e1 e2
      cases dm with
      | none => exact .inl (by rw [← e1]; exact a)
      | some d => exact .inr (by rw [← e1]; exact b' d rfl)
    · cases e
  intro z
  unfold SetTable.slot at nl
  dsimp only at nl
  rw [if_pos (by rw [z]; simp)] at nl
  rcases nl with nl | nl <;> cases nl
def TOk (t t' : SetTable) : Prop := t'.led = t.led ∧ ((t.plain = true → Rise t.place) → t'.plain = true → Rise t'.place)
theorem stand_ok (t : SetTable) (n : Nat) : TOk t (t.standIn n) := ⟨rfl, fun _ h => by cases h⟩
theorem or_ok {t t' : SetTable} (h : TOk t t') (n : Nat) : TOk t (t'.orStandIn n) := by
  unfold SetTable.orStandIn
  by_cases c : t'.fits n = true
  · rw [if_pos c]; exact h
  · rw [if_neg c]; exact ⟨h.1, fun _ z => by cases z⟩
theorem lay_ok (t : SetTable) (es : Array (Int × Value)) (h : Int) (x : Value) : TOk t (layNew t es h x).2.1 := by
  unfold layNew
  split
  · rename_i slot wd e
    exact or_ok (t := t) (t' := (t.put slot).1) ⟨rfl, fun hr hp => rise_put (hr hp) (free_slot e)⟩ _
  · exact stand_ok _ _
theorem laid_ok {mask finger moves : Nat} {led plain : Bool} {hs : Array Int} {t' : SetTable} {order : Array Nat} (e : SetTable.laid mask finger moves led plain hs = some (t', order)) : t'.led = led ∧ t'.plain = plain ∧ Rise t'.place := by
  unfold SetTable.laid at e
  cases ho : SetTable.layClean mask hs with
  | none => rw [ho] at e; cases e
  | some owner =>
    rw [ho] at e
    have e' : some (_, _) = some (t', order) := e
    injection e' with e'
    injection e' with e1 e2
    subst e1
    refine ⟨rfl, rfl, ?_⟩
    rw [rise_iff]
    dsimp only
    refine List.Pairwise.map (R := fun a b : Nat × Nat => a.1 < b.1) _ (fun a b h => h) ?_
    refine List.Pairwise.filterMap (R := (· < ·)) _ (fun a a' haa b hb b' hb' => ?_) List.pairwise_lt_range
    cases h1 : owner.getD a none with
    | none => rw [h1] at hb; cases hb
    | some u =>
      cases h2 : owner.getD a' none with
      | none => rw [h2] at hb'; cases hb'
      | some u' =>
        rw [h1] at hb; rw [h2] at hb'
        cases hb; cases hb'
        exact haa
theorem relay_ok (t : SetTable) (es : Array (Int × Value)) (n : Nat) : TOk t (relayAll t es n).2.1 := by
  unfold relayAll
  split
  · rename_i t' order e
    unfold SetTable.relaid at e
    obtain ⟨a, b, c⟩ := laid_ok e
    dsimp only
    split
    · exact ⟨a, fun _ _ => c⟩
    · exact stand_ok _ _
  · exact stand_ok _ _
section
variable {prog : Program} {w : World} {A : Around} {E : Value → Shared → Prop} {s : Shared} {a : Addr}
def ky (e : Int × Value) : Int := match e.2 with | .int i _ => i | _ => 0
structure IS (w : World) (o : Obj) (es : Array (Int × Value)) (ep : Nat) (t : SetTable) : Prop where
  ex : o.ExactSet
  d : o.data = .set es ep t
  f : t.fits es.size = true
  ok : w.params.followText "set-order" = true ∨ (t.led = true ∧ (t.plain = true → Rise t.place))
  el : ∀ e ∈ es.toList, (∃ k tk, e = (hashInt k, .int k tk))
  nd : (es.toList.map ky).Nodup
theorem IS.elems {o : Obj} {es : Array (Int × Value)} {ep : Nat} {t : SetTable} (h : IS w o es ep t) : ElemsOf (intKind prog w) es.toList := fun e he => by
  obtain ⟨k, tk, rfl⟩ := h.el e he
  exact ⟨⟨k, intKind_is _ _ _ _, rfl⟩, rfl⟩
theorem IS.wk {o : Obj} {es : Array (Int × Value)} {ep : Nat} {t : SetTable} (h : IS w o es ep t) : Wk w o es ep t := ⟨h.ex, h.d, h.f, h.ok.elim .inl fun z => .inr (.inr z)⟩
theorem gv_ok {gv : Bool} (g : Sem Unit) (hg : g = match gv with | true => rule "set.scan.the-table-gave-way" | false => pure ()) {Q : Unit → Shared → Prop} (h : Q () s) : wpAny (model prog w) A g Q E s := by
  subst hg
  cases gv
  · exact wpAny_pure h
  · exact wpAny_rule h
theorem put_get {o : Obj} {es es' : Array (Int × Value)} {ep : Nat} {t t' : SetTable} (ho : s.heap.get? a = some o) (hd : o.data = .set es ep t) : (s.heap.update a (Obj.putSet es' t')).get? a = some { o with data := .set es' (ep + 1) t' } := by
  have := Heap.get?_update_self (Obj.putSet es' t') ho (by rw [putSet_of es' t' hd]; rfl)
  rw [putSet_of es' t' hd] at this
  exact this
theorem IS.to {o : Obj} {es es1 : Array (Int × Value)} {ep : Nat} {t t1 : SetTable} {v : Int} {tk : Tok} (h : IS w o es ep t) (hv : v ∉ es.toList.map ky) (hp : es1.toList.Perm (es.push (hashInt v, .int v tk)).toList) (hf : t1.fits es1.size = true) (hto : TOk t t1) (ep' : Nat) :
    IS w { o with data := .set es1 ep' t1 } es1 ep' t1 := by
  rw [Array.toList_push] at hp
  refine ⟨h.ex, rfl, hf, h.ok.imp id fun z => ⟨by rw [hto.1]; exact z.1, hto.2 z.2⟩, fun e he => ?_, ?_⟩
  · rcases List.mem_append.mp (hp.mem_iff.mp he) with he | he
    · exact h.el e he
    · rw [List.mem_singleton.mp he]; exact ⟨v, tk, rfl⟩
  · refine (hp.map ky).nodup_iff.mpr ?_
    rw [List.map_append, List.nodup_append]
    refine ⟨h.nd, by simp, fun x hx y hy e => ?_⟩
    have : y = v := by simpa [ky] using hy
    rw [e, this] at hx
    exact hv hx
theorem add_st {o : Obj} {es : Array (Int × Value)} {ep : Nat} {t : SetTable} (h : IS w o es ep t) (ho : s.heap.get? a = some o) {v : Int} {tk : Tok} (hb : es.size + 1 < scanBound) {Q : Bool → Shared → Prop}
    (hQ : ∀ h' o' es' ep' t' b, Heap.SameBut a s.heap h' → h'.get? a = some o' → IS w o' es' ep' t' → (∀ z, z ∈ es'.toList.map ky ↔ z ∈ es.toList.map ky ∨ z = v) → es'.size ≤ es.size + 1 → Q b { s with heap := h' }) :
    wpAny (model prog w) A (setAddHashed a (.int v tk) (hashInt v)) Q E s := by
  have hel : ElemsOf (intKind prog w) es.toList := h.elems
  have hkey : (intKind prog w).is v (.int v tk) = true := intKind_is _ _ _ _
  unfold setAddHashed setAddHashedIn
  refine wpAny_holding (wpAny_bind (wpAny_setState_of ho h.d h.f ?_))
  dsimp only
  rw [byScan_of (knd := intKind prog w) rfl (Nat.lt_of_succ_lt hb) hel, if_pos rfl]
  unfold setAddByScan
  refine wpAny_bind (wpAny_bind (wpAny_rule (wpAny_bind (wpAny_setScan_of (knd := intKind prog w) hkey ho h.d h.f hel ?_))))
  have mem : ∀ e ∈ es.toList, ((intKind prog w).is v e.2 = true ↔ ky e = v) := fun e he => by
    obtain ⟨k, tk', rfl⟩ := h.el e he
    show Value.isInt v (.int k tk') = true ↔ k = v
    constructor
    · intro z
      obtain ⟨_, q⟩ := Value.isInt_shape z
      cases q
      rfl
    · intro z
      rw [← z]
      exact intKind_is prog w k tk'
  cases hr : List.findIdx? (fun e => (intKind prog w).is v e.2) es.toList with
  | some j =>
    dsimp only
    obtain ⟨hj, hpj, _⟩ := List.findIdx?_eq_some_iff_getElem.mp hr
    refine wpAny_pure (wpAny_pure ?_)
    have hv : v ∈ es.toList.map ky := List.mem_map.mpr ⟨_, List.getElem_mem hj, (mem _ (List.getElem_mem hj)).mp hpj⟩
    have := hQ s.heap o es ep t false (Heap.SameBut.refl a s.heap) ho h (fun z => ⟨.inl, fun q => q.elim id fun e => e ▸ hv⟩) (Nat.le_succ _)
    exact this
  | none =>
    dsimp only
    have hv : v ∉ es.toList.map ky := fun q => by
      obtain ⟨e, he, hk⟩ := List.mem_map.mp q
      have := List.findIdx?_eq_none_iff.mp hr e he
      rw [(mem e he).mpr hk] at this
      cases this
    have hperm := layNew_perm t es (hashInt v) (.int v tk)
    have hfits := layNew_fits t es (hashInt v) (.int v tk)
    have hto := lay_ok t es (hashInt v) (.int v tk)
    generalize layNew t es (hashInt v) (.int v tk) = Ly at hperm hfits hto ⊢
    obtain ⟨es1, t1, wd, gv⟩ := Ly
    dsimp only at hperm hfits hto ⊢
    refine wpAny_bind (gv_ok (gv := gv) _ rfl ?_)
    have mm : ∀ z, z ∈ es1.toList.map ky ↔ z ∈ es.toList.map ky ∨ z = v := fun z => by
      rw [(hperm.map ky).mem_iff, Array.toList_push, List.map_append, List.mem_append]
      simp [ky]
    have sz : es1.size = es.size + 1 := by rw [← Array.length_toList, hperm.length_eq, Array.toList_push, List.length_append, Array.length_toList]; rfl
    have hb1 : es1.size < scanBound := by rw [sz]; exact hb
    have g1 := put_get (es' := es1) (t' := t1) ho h.d
    have I1 := h.to hv hperm hfits hto (ep + 1)
    have b1 := Heap.SameBut.update s.heap a (Obj.putSet es1 t1)
    split
    all_goals
      refine wpAny_bind (wpAny_of_eq (a := true) rfl ?_)
      simp only [↓reduceIte]
      refine wpAny_bind (wpAny_storeSet_of ho h.d ?_ (fits_of_scanBound hb1))
      split
      · have rp := relayAll_perm t1 es1 (SetTable.grown es1.size)
        have rf := relayAll_fits t1 es1 (SetTable.grown es1.size)
        have rt := relay_ok t1 es1 (SetTable.grown es1.size)
        generalize relayAll t1 es1 (SetTable.grown es1.size) = Rl at rp rf rt ⊢
        obtain ⟨es2, t2, gv2⟩ := Rl
        dsimp only at rp rf rt ⊢
        have sz2 : es2.size = es1.size := by rw [← Array.length_toList, rp.length_eq, Array.length_toList]
        refine wpAny_bind (gv_ok (gv := gv2) _ rfl (wpAny_bind (wpAny_storeSet_of g1 rfl (wpAny_pure (wpAny_pure ?_)) (fits_of_scanBound (by rw [sz2]; exact hb1)))))
        refine hQ _ _ es2 (ep + 1 + 1) t2 true (b1.trans (Heap.SameBut.update _ a _)) (put_get (s := { s with heap := s.heap.update a (Obj.putSet es1 t1) }) g1 rfl) ?_ (fun z => by rw [(rp.map ky).mem_iff]; exact mm z) (by rw [sz2, sz]; exact Nat.le_refl _)
        exact ⟨I1.ex, rfl, rf, I1.ok.imp id fun z => ⟨by rw [rt.1]; exact z.1, rt.2 z.2⟩, fun e he => I1.el e (rp.mem_iff.mp he), (rp.map ky).nodup_iff.mpr I1.nd⟩
      · exact wpAny_pure (wpAny_pure (hQ _ _ es1 (ep + 1) t1 true b1 g1 I1 mm (by rw [sz]; exact Nat.le_refl _)))
end
end SetW
open PySem PySem.Spec PyProof.Rows
namespace SetW
section
variable {prog : Program} {w : World} {A : Around} {E : Value → Shared → Prop} {s : Shared}
theorem IS.fresh : IS w { cls := .type "set", dict := none, data := .set #[] 0 (.fresh 0 0 (!w.params.followText "set-order")) } #[] 0 (.fresh 0 0 (!w.params.followText "set-order")) := by
  refine ⟨⟨rfl, rfl, rfl⟩, rfl, rfl, ?_, fun e he => by simp at he, by simp⟩
  by_cases h : w.params.followText "set-order" = true
  · exact .inl h
  · refine .inr ⟨by simpa [SetTable.fresh] using h, fun _ i k h1 h2 => ?_⟩
    simp [SetTable.fresh] at h2
theorem loop_st {I : Addr} {fp wr : List Addr} {G : Array GenState → Array GenState → Prop} {n : Nat} {P : Nat → Value → Prop} {St : Nat → Shared → Prop} {R : Result → Shared → Prop} (W : WalksS prog w A.in1 I fp wr G n P St) (S : Addr) (hSf : S ∉ fp)
    (val : Nat → Int) (hval : ∀ i v, P i v → ∃ tk, v = .int (val i) tk) (hb : n + 1 < scanBound) : ∀ (k i : Nat) (s : Shared) (o : Obj) (es : Array (Int × Value)) (ep : Nat) (t : SetTable), n - i = k → i ≤ n → St i s → s.heap.get? S = some o → IS w o es ep t → es.size ≤ i →
      (∀ z, z ∈ es.toList.map ky ↔ ∃ j, j < i ∧ val j = z) →
      (∀ s' o' es' ep' t', Moved (S :: wr) G s s' → s'.heap.get? S = some o' → IS w o' es' ep' t' → es'.size ≤ n → (∀ z, z ∈ es'.toList.map ky ↔ ∃ j, j < n ∧ val j = z) → R (.ok (.ret .none)) s') →
      codeAny (model prog w) A (.builtin "set.update.loop" ⟨[.ref S, .ref I], []⟩) R s := by
  have hSw : S ∉ wr := fun h => hSf (W.sub _ h)
  have hsub : ∀ b ∈ wr, b ∈ S :: wr := fun b hb => List.mem_cons_of_mem _ hb
  intro k
  induction k with
  | zero =>
    intro i s o es ep t hk hi hst ho hS hz hm hR
    obtain rfl : i = n := by omega
    refine codeAny_builtin PyProof.Rows.F.entry_set_update_loop ?_
    rw [Around.under_plainId PyProof.Rows.F.plain_set_update_loop _]
    show wpAny _ A.in1 (pyNext (.ref I) >>= _) _ _ s
    refine wpAny_bind (W.done s _ _ hst fun s' mv => ?_)
    show wpAny _ A.in1 (ret Value.none) _ _ s'
    exact wpAny_pure (hR s' o es ep t (mv.mono hsub) (mv.heap S _ hSw ho) hS hz hm)
  | succ k ih =>
    intro i s o es ep t hk hi hst ho hS hz hm hR
    have hlt : i < n := by omega
    refine codeAny_builtin PyProof.Rows.F.entry_set_update_loop ?_
    rw [Around.under_plainId PyProof.Rows.F.plain_set_update_loop _]
    show wpAny _ A.in1 (pyNext (.ref I) >>= _) _ _ s
    refine wpAny_bind (W.item i s _ _ hlt hst fun v s' hP hst' mv => ?_)
    obtain ⟨tk, rfl⟩ := hval i v hP
    show wpAny _ A.in1 (holding [Value.int (val i) tk] (setAdd S (.int (val i) tk)) >>= _) _ _ s'
    refine wpAny_bind (wpAny_holding ?_)
    unfold setAdd
    refine wpAny_holding (wpAny_bind ((intKind prog w).pyHash (k := val i) (intKind_is _ _ _ _) ?_))
    refine add_st (s := { s' with toks := s'.toks + 1 }) hS (mv.heap S _ hSw ho) (by omega) fun h' o' es' ep' t' b sb ho' hS' hm' hz' => ?_
    refine wpAny_pure ⟨plainId_quiet PyProof.Rows.F.plain_set_update_loop _, ih (i + 1) _ o' es' ep' t' (by omega) hlt (W.frame _ s' _ _ hst' (Nat.le_succ _) fun b hb ob e => ?_) ho' hS' (by omega) (fun z => ?_) fun s'' o2 es2 ep2 t2 mv2 ho2 hS2 hz2 hm2 => ?_⟩
    · rw [sb.2 b (fun h : b = S => hSf (by rw [← h]; exact hb))]; exact e
    · rw [hm' z, hm z]
      constructor
      · rintro (⟨j, hj, e⟩ | e)
        · exact ⟨j, by omega, e⟩
        · exact ⟨i, by omega, e.symm⟩
      · rintro ⟨j, hj, e⟩
        by_cases c : j = i
        · exact .inr (by rw [← e, c])
        · exact .inl ⟨j, by omega, e⟩
    · refine hR s'' o2 es2 ep2 t2 (Moved.trans W.gtrans ((mv.mono hsub).then_heap (Nat.le_succ _) fun b ob hb e => ?_) mv2) ho2 hS2 hz2 hm2
      rw [sb.2 b (fun h : b = S => hb (by rw [h]; exact List.mem_cons_self))]; exact e
end
end SetW
open PySem PySem.Spec PyProof.Rows
namespace SetW
section
variable {prog : Program} {w : World} {A : Around} {E : Value → Shared → Prop} {s : Shared}
def frs (w : World) : Obj := { cls := .type "set", dict := none, data := .set #[] 0 (.fresh 0 0 (!w.params.followText "set-order")) }
theorem new_st (v : Value) {Q₁ : Value → Shared → Prop} (h : Q₁ (.ref s.heap.objs.size) { s with heap := s.heap.push (frs w) }) : codeAny (model prog w) A (.call (.builtin "set.__new__") ⟨[.type "set", v], []⟩) (wants Q₁ E) s := by
  refine codeAny_of_tree ?_
  show wpAny _ A.in1 (do checkBuiltinCall "set.__new__" ⟨[.type "set", v], []⟩; again (.builtin "set.__new__" ⟨[.type "set", v], []⟩)) _ _ s
  refine wpAny_bind (wpAny_of_eq (PySem.F.newCall_set_1 v) (wpAny_pure ⟨plainId_quiet PySem.F.plain_set_new _, codeAny_builtin PySem.F.entry_set_new ?_⟩))
  rw [Around.under_plainId PySem.F.plain_set_new _]
  unfold Builtin.«set.__new__» Builtin.Frozenset.newClass
  have hsub := sub_set_self
  obtain ⟨hp, g, d, tk, os⟩ := s
  dsimp only
  wp_walk
  refine wpAny_askSetting (wpAny_pure ?_)
  dsimp only
  simp only [newObj]
  exact wpAny_bind (wpAny_alloc (wpAny_pure (wpAny_pure h)))
set_option maxHeartbeats 4000000 in
theorem make_st {l : Addr} {items : Array Value} {ns : List Int} {Q : Value → Shared → Prop} (hh : A.handled = none) (hl : s.heap.IsList l items) (hi : IntsAre items.toList ns) (hb : items.size + 1 < scanBound)
    (h : ∀ (h' : Heap) (tk : Nat) o es ep t, h'.get? s.heap.objs.size = some o → IS w o es ep t → es.size ≤ items.size → (∀ z, z ∈ es.toList.map ky ↔ ∃ j, j < items.size ∧ ns.getD j 0 = z) →
      (∀ b o, s.heap.get? b = some o → h'.get? b = some o) → Q (.ref s.heap.objs.size) { s with heap := h', toks := tk }) : wpAny (model prog w) A (call (.type "set") [.ref l]) Q E s := by
  obtain ⟨c, tl, hmro⟩ := PySem.F.called_set.mro
  have hmade := PySem.F.called_set.made
  have hsub := PySem.F.called_set.sub
  refine wpAny_call (codeAny_of_tree ?_)
  show wpAny _ _ (callAny (.type "set") _) _ _ _
  refine wpAny_pure ⟨Code.quiet_builtin _ (by decide +kernel), codeAny_builtin PySem.F.entry_type_call ?_⟩
  rw [Around.under_plain (weight_type_call_type "set" [.ref l] []) rfl]
  have h1 := PySem.F.called_set.notType
  have h2 := PySem.F.called_set.canCreate
  have hct := PySem.F.typeCall_set_1 (.ref l)
  repeat (any_goals (first | assumption | wp_step))
  refine codeAny_mono (new_st (.ref l) (E := E) (Q₁ := fun obj s₁ => obj = .ref s.heap.objs.size ∧ s₁ = { s with heap := s.heap.push (frs w) }) ⟨rfl, rfl⟩) fun r s₁ hr => ?_
  cases r with
  | error e => exact hr
  | ok fl =>
    cases fl with
    | ret obj =>
      obtain ⟨rfl, rfl⟩ := hr
      have hS : (s.heap.push (frs w)).get? s.heap.objs.size = some (frs w) := Heap.get?_push_size _ rfl
      have hT : Shared.TypeIs { s with heap := s.heap.push (frs w) } (.ref s.heap.objs.size) "set" := ⟨_, hS, rfl⟩
      have hli := PySem.F.called_set.init.lookup
      have hbi := PySem.F.called_set.init.bind (.ref s.heap.objs.size)
      repeat (any_goals (first | assumption | wp_step))
      refine codeAny_mono (codeAny_call_builtin (R := wants (fun r s₂ => r = .none ∧ ∃ h' tk o es ep t, s₂ = { s with heap := h', toks := tk } ∧ h'.get? s.heap.objs.size = some o ∧ IS w o es ep t ∧ es.size ≤ items.size ∧ (∀ z, z ∈ es.toList.map ky ↔ ∃ j, j < items.size ∧ ns.getD j 0 = z) ∧
          (∀ b o, s.heap.get? b = some o → h'.get? b = some o)) E) PySem.F.called_set.init.plain PySem.F.entry_set_init (check_set_init_1 hT ?_)) fun r₂ s₂ hr₂ => ?_
      · obtain ⟨ol, hol, hcl, nl, hdl⟩ := hl
        obtain ⟨ocls, odict, odata, oslots⟩ := ol
        simp only at hcl hdl
        subst hcl hdl
        have hlS : l < s.heap.objs.size := Heap.lt_size hol
        obtain ⟨h1, eh1⟩ : ∃ h1, h1 = s.heap.push (frs w) := ⟨_, rfl⟩
        have z1 : h1.objs.size = s.heap.objs.size + 1 := by rw [eh1, Heap.size_push]
        have k1 : ∀ b ob, s.heap.get? b = some ob → h1.get? b = some ob := fun b ob e => by rw [eh1]; exact Heap.get?_push_of_some _ e
        rw [← eh1] at hS hT ⊢
        have hol' := k1 _ _ hol
        have hl1 : h1.IsList l items := ⟨_, hol', rfl, nl, rfl⟩
        have hsls := PySem.F.sub_list_set
        have hslf := PySem.F.sub_list_frozenset
        have hne : (Value.type "list" == Value.type "dict") = false := by decide
        have hS' : h1.get? s.heap.objs.size = some { cls := .type "set", dict := none, data := .set #[] 0 (.fresh 0 0 (!w.params.followText "set-order")) } := hS
        unfold Builtin.«set.__init__» noKeywords Builtin.Frozenset.updateFrom
        generalize hPI : pyIter = PI
        wp_walk
        subst hPI
        refine wpAny_pyIter_list hl1 ?_
        obtain ⟨h2, eh2⟩ : ∃ h2, h2 = h1.push { cls := .type "list_iterator", data := .fields #[.ref l, .int 0 0] } := ⟨_, rfl⟩
        show wpAny _ _ _ _ _ { s with heap := h1.push { cls := .type "list_iterator", data := .fields #[.ref l, .int 0 0] } }
        rw [← eh2]
        have k2 : ∀ b ob, h1.get? b = some ob → h2.get? b = some ob := fun b ob e => by rw [eh2]; exact Heap.get?_push_of_some _ e
        have hit2 : h2.IsListIter h1.objs.size l 0 := by rw [eh2]; exact ⟨_, Heap.get?_push_size _ rfl, rfl, rfl⟩
        have hl2 : h2.IsList l items := ⟨_, k2 _ _ hol', rfl, nl, rfl⟩
        refine wpAny_bind (wpAny_runValue ?_)
        have hh3 : A.in1.in1.in1.handled = none := by simp [hh]
        have hneI : l ≠ h1.objs.size := by rw [z1]; exact Nat.ne_of_lt (Nat.lt_succ_of_lt hlS)
        have hSf : s.heap.objs.size ∉ [h1.objs.size, l] := by
          simp only [List.mem_cons, List.not_mem_nil, or_false, not_or]
          exact ⟨by rw [z1]; exact Nat.ne_of_lt (Nat.lt_succ_self _), Nat.ne_of_gt hlS⟩
        have hval : ∀ (i : Nat) (v : Value), items[i]? = some v → ∃ tk, v = .int ((fun i => ns.getD i 0) i) tk := fun i v hv => IntsAre.int_at hi i v (by rw [Array.getElem?_toList]; exact hv)
        refine loop_st ((Walks.list hh3 h1.objs.size l hneI items).toS) s.heap.objs.size hSf (fun i => ns.getD i 0) hval hb (items.size - 0) 0 _ _ #[] 0 _ (by omega) (Nat.zero_le _) ⟨hit2, hl2⟩ (k2 _ _ hS') IS.fresh (Nat.zero_le _) (fun z => by simp) fun s' o es ep t mv ho hI hz hm => ?_
        obtain ⟨h', g', d', tk', os'⟩ := s'
        have eg : g' = s.gens := mv.gens
        have ed : d' = s.drawn := mv.drawn
        have eo : os' = s.os := mv.os
        subst eg ed eo
        show wpAny _ _ _ _ _ _
        refine wpAny_pure ?_
        show wpAny _ _ (ret Value.none) _ _ _
        refine wpAny_pure ⟨rfl, h', tk', o, es, ep, t, rfl, ho, hI, hz, hm, fun b ob e => ?_⟩
        have lb := Heap.lt_size e
        refine mv.heap b ob ?_ (k2 _ _ (k1 _ _ e))
        simp only [List.mem_cons, List.not_mem_nil, or_false, not_or]
        exact ⟨Nat.ne_of_lt lb, by rw [z1]; exact Nat.ne_of_lt (Nat.lt_succ_of_lt lb)⟩
      · cases r₂ with
        | error e => exact hr₂
        | ok fl₂ =>
          cases fl₂ with
          | ret r =>
            obtain ⟨rfl, h', tk, o, es, ep, t, rfl, a1, a2, a3, a4, a5⟩ := hr₂
            repeat (any_goals (first | assumption | wp_step))
            exact h _ _ o es ep t a1 a2 a3 a4 a5
          | _ => exact hr₂.elim
    | _ => exact hr.elim
end
end SetW
open PySem PySem.Spec PyProof.Rows
section
variable {X : Cx} {K : PySem.W.Frag} {p1 p2 pos1 pos2 : Pos} {e : Expr} {te : TE}
theorem Inv.drew {X : Cx} {pins : List (Addr × Obj)} {σ : St} {H : Hp} {s : Shared} {d : Drawn} (I : Inv X pins σ H s) : Inv X pins σ H { s with drawn := d } := ⟨I.ok, I.os, I.bare, I.base, I.loc, I.cell, I.free, I.freeC, I.pin, I.hok, I.len⟩
def tSortSet (K : PySem.W.Frag) (te : TE) : TE := fun σ H Q => te σ H fun x H1 => ∃ a ns, x = .ref a ∧ SqL K H1 a (vI ns) ∧ ns.length ≤ 4000 ∧ (∀ ds : List Int, ds.Nodup → (∀ z ∈ ds, z ∈ ns) → ds.length < 64) ∧
  ∀ l ns', (∀ z, z ∈ ns' ↔ z ∈ ns) → ns'.Pairwise (· < ·) → H1 l = none → Q (.ref l) (upd H1 l (.lst (vI ns')))
theorem lt_of_nodup : ∀ {l : List Int}, l.Pairwise (· ≤ ·) → l.Nodup → l.Pairwise (· < ·) := fun h n => (h.and n).imp fun {a b} ⟨h1, h2⟩ => by omega
theorem pe_sortSet (hg1 : Gl X "sorted") (hm1 : X.mg "sorted" = none) (hg2 : Gl X "set") (hm2 : X.mg "set" = none) (he : PE X e te) (hK : X.K = K := by rfl) (hc : X.calm = true := by rfl)
    (hs2 : starEach [e] X.env = (false, eval e X.env) :: starEach [] X.env := by rfl)
    (hs1 : starEach [.Call (.Name "set" p2) [e] [] pos2] X.env = (false, eval (.Call (.Name "set" p2) [e] [] pos2) X.env) :: starEach [] X.env := by rfl)
    (hq1 : (backTo pos1 (starEach [] X.env)).any (·.1) = false := by rfl) (hq2 : (backTo pos2 (starEach [] X.env)).any (·.1) = false := by rfl) :
    PE X (.Call (.Name "sorted" p1) [.Call (.Name "set" p2) [e] [] pos2] [] pos1) (tSortSet K te) := by
  subst hK
  intro pins s σ H Q I h
  have hsz : sizeLine = 16777216 := sizeLine_eq
  refine wpAny_Call_Name_kw (ld_blt I hg1 hm1 bt_sorted ?_ (by decide) (by decide))
  refine PyProof.Rows.callWith_builtin1 ?_ hs1 hq1
  rw [hs1]
  show wpAny _ _ (spliced ((false, eval (.Call (.Name "set" p2) [e] [] pos2) X.env) :: backTo pos1 (starEach [] X.env))) _ _ s
  refine Calls.spliced_cons ?_
  refine wpAny_Call_Name_kw (ld_blt I hg2 hm2 bt_set ?_ (by decide) (by decide))
  refine PyProof.Rows.callWith_type1 ?_ hs2 hq2
  rw [hs2]
  show wpAny _ _ (spliced ((false, eval e X.env) :: backTo pos2 (starEach [] X.env))) _ _ s
  refine Calls.spliced_cons (thn (he pins s σ H _ I h) fun u s1 ⟨x, H1, I1, r1, a, ns, ex, hq, h4, h64, q⟩ => ?_)
  subst ex
  cases r1
  refine Calls.spliced_nil ?_
  obtain ⟨its, r, pl, hz⟩ := I1.list hq
  have hi : IntsAre its ns := intsAre_of r
  have hlen : its.length = ns.length := hi.length
  refine SetW.make_st (items := its.toArray) (I.ok.hd hc) pl.isList hi (by rw [List.size_toArray, hlen]; show _ + 1 < 4096; omega) fun h' tk o es ep t go gi gz gm gk => ?_
  refine Calls.spliced_nil ?_
  have mem : ∀ z, z ∈ es.toList.map SetW.ky ↔ z ∈ ns := fun z => by
    rw [gm z, List.size_toArray, hlen]
    constructor
    · rintro ⟨j, hj, e⟩
      rw [← e, List.getD_eq_getElem?_getD, List.getElem?_eq_getElem hj]
      exact List.getElem_mem hj
    · intro hz
      obtain ⟨j, hj, e⟩ := List.getElem_of_mem hz
      exact ⟨j, hj, by rw [List.getD_eq_getElem?_getD, List.getElem?_eq_getElem hj]; exact e⟩
  have e64 : es.size < 64 := by
    have := h64 _ gi.nd fun z hz => (mem z).mp hz
    rwa [List.length_map, Array.length_toList] at this
  refine SetW.sorted_set (s := { s1 with heap := h', toks := tk }) (key := SetW.ky) gi.wk go (I.ok.hd hc) e64 (fun e he => ?_) fun h2 d tk2 l ep2 out ns' k2 hl2 hg2 hi2 hp2 hr2 => ?_
  · obtain ⟨k, tk', rfl⟩ := gi.el e he
    exact ⟨tk', rfl⟩
  · have hns : ns'.Nodup := hp2.nodup_iff.mpr gi.nd
    have hl1 : s1.heap.objs.size ≤ l := Nat.le_of_lt (Nat.lt_of_lt_of_le (Heap.lt_size go) hl2)
    refine ⟨.ref l, _, (I1.laid (t' := tk2) (h' := h2) (a := l) (o := .lst (vI ns')) (fun b u e => k2 _ _ (gk _ _ e)) hl1 ?_).drew, rfl, q l ns' (fun z => by rw [hp2.mem_iff]; exact mem z) (lt_of_nodup hr2 hns) (I1.hok.fresh hl1)⟩
    have : ns'.length < 64 := by rw [hp2.length_eq, List.length_map, Array.length_toList]; exact e64
    refine ⟨by rw [vI_len]; omega, out.toList, ep2, vals_ints hi2, ?_⟩
    rw [hg2]
end
open PySem PySem.Spec PyProof.Rows
theorem Inv.turnedL {X : Cx} {pins : List (Addr × Obj)} {σ : St} {H : Hp} {s : Shared} {h' : Heap} {t' : Nat} {its : List Addr} (I : Inv X pins σ H s)
    (k : ∀ b o, b ∉ its → s.heap.get? b = some o → h'.get? b = some o) (hf : ∀ b ∈ its, FpOk X pins H b) : Inv X pins σ H { s with heap := h', toks := t' } := by
  have nit : ∀ b u, H b = some u → b ∉ its := fun b u e z => by
    have := (hf b z).1
    rw [this] at e
    cases e
  have nL : X.env.locals ∉ its := fun z => (hf _ z).2.1 rfl
  refine I.step (g' := s.gens) (d' := s.drawn) (ch := its) (fun b hb => ?_) (fun b o _ _ hc e _ => k b o hc e) (fun b o _ _ hc e _ => ⟨o.slots, k b o hc e⟩) (fun _ _ _ _ n => n)
    (fun b o hc e => ⟨o, k b o hc e⟩) (fun _ _ e => e) (fun _ _ _ e => e) (fun b ps e => ⟨#[], by rw [e]; simp⟩) (fun m hm => ?_) (fun b u e => ?_) I.bare
  · obtain ⟨_, h2, _, h4, h5, h6⟩ := hf b hb
    exact ⟨h4, h2, h5, h6⟩
  · obtain ⟨o, es, ep, ho, r⟩ := hm
    exact ⟨o, es, ep, k _ o nL ho, r⟩
  · refine (I.hok b u e).stay (fun c v hc q => k c v ?_ q) (fun _ q => q) fun _ _ q => q
    rcases hc with z | z
    · rw [z]; exact nit b u e
    · exact nit c _ z
def Itz (K : PySem.W.Frag) (a b : Addr) : It where
  go := fun i H => ∃ xs ys x y, SqL K H a xs ∧ SqL K H b ys ∧ xs[i]? = some x ∧ ys[i]? = some y
  yld := fun i H x H' => ∃ T, x = .ref T ∧ H T = none ∧ ∀ xs ys u v, SqL K H a xs → SqL K H b ys → xs[i]? = some u → ys[i]? = some v → H' = upd H T (.tup [u, v])
  stop := fun i H => ∃ xs ys, SqL K H a xs ∧ SqL K H b ys ∧ (xs.length ≤ i ∨ ys.length ≤ i)
def ZipSt (z TI TO i1 i2 a b : Addr) (i : Nat) (h : Heap) : Prop := IsZip h z TI TO .none ∧ IsPair h TI (.ref i1) (.ref i2) ∧ (∃ p q, IsPair h TO p q) ∧ h.IsListIter i1 a i ∧ h.IsListIter i2 b i
theorem turn_zip {P : Program} {w : World} {K : PySem.W.Frag} {es : List Expr} {kx : Nat} {tp : Pos} {z TI TO i1 i2 a b : Addr} (D : ZipApart z TI TO i1 i2 a b) :
    Turn P w K (.Tuple es kx tp) (Itz K a b) [z, TI, TO, i1, i2] z (ZipSt z TI TO i1 i2 a b) where
  mem := by simp
  obj := fun i h st c hc => by
    obtain ⟨s1, s2, ⟨p, q, s3⟩, s4, s5⟩ := st
    simp only [List.mem_cons, List.not_mem_nil, or_false] at hc
    rcases hc with e | e | e | e | e
    · subst e; exact ⟨_, s1, fun v z => by cases (show Data.fields _ = Data.cell v from z)⟩
    · subst e; exact ⟨_, s2, fun v z => by cases (show Data.seq _ _ = Data.cell v from z)⟩
    · subst e; exact ⟨_, s3, fun v z => by cases (show Data.seq _ _ = Data.cell v from z)⟩
    · subst e; obtain ⟨o, e, _, d⟩ := s4; exact ⟨o, e, fun v z => by rw [d] at z; cases z⟩
    · subst e; obtain ⟨o, e, _, d⟩ := s5; exact ⟨o, e, fun v z => by rw [d] at z; cases z⟩
  keep := fun i h h' st k => by
    obtain ⟨s1, s2, ⟨p, q, s3⟩, s4, s5⟩ := st
    exact ⟨k _ (by simp) _ s1, k _ (by simp) _ s2, ⟨p, q, k _ (by simp) _ s3⟩, s4.at fun o e => k _ (by simp) o e, s5.at fun o e => k _ (by simp) o e⟩
  item := by
    intro X hP hw hK hc i pins s σ H E I hf st hg
    subst hP hw hK
    obtain ⟨xs, ys, x, y, hq1, hq2, hx, hy⟩ := hg
    obtain ⟨its1, rv1, p1, _⟩ := I.list hq1
    obtain ⟨its2, rv2, p2, _⟩ := I.list hq2
    obtain ⟨u, hu, ru⟩ := rv1.get hx
    obtain ⟨v, hv, rw'⟩ := rv2.get hy
    obtain ⟨s1, s2, ⟨p, q, s3⟩, s4, s5⟩ := st
    refine wpAny_pyNext_zip_item D s1 s2 s3 s4 s5 p1.isList p2.isList (x := u) (y := v) (by simpa using hu) (by simpa using hv) fun h1 z1 t1 j1 j2 hT hsz kk => ?_
    refine ⟨_, rfl, wpAny_letOwnedTupleGo_zip z1 fun h2 z2 sb => ?_⟩
    have zl : z < s.heap.objs.size := Heap.lt_size s1
    have TIl : TI < s.heap.objs.size := Heap.lt_size s2
    have TOl : TO < s.heap.objs.size := Heap.lt_size s3
    have i1l : i1 < s.heap.objs.size := by obtain ⟨_, e, _⟩ := s4; exact Heap.lt_size e
    have i2l : i2 < s.heap.objs.size := by obtain ⟨_, e, _⟩ := s5; exact Heap.lt_size e
    have up : ∀ c o, c ≠ z → h1.get? c = some o → h2.get? c = some o := fun c o c1 e => (sb.2 c c1).trans e
    have hTn : H s.heap.objs.size = none := I.hok.fresh (Nat.le_refl _)
    have I1 : Inv X pins σ (upd H s.heap.objs.size (.tup [x, y])) { s with heap := s.heap.push { cls := .type "tuple", data := .seq #[u, v] }, toks := s.toks } :=
      I.laid (fun c o e => Heap.get?_push_of_some _ e) (Nat.le_refl _) ⟨by show 2 ≤ sizeLine; decide, [u, v], .cons ru (.cons rw' .nil), ⟨_, Heap.get?_push_size _ rfl, rfl, _, rfl⟩⟩
    have fp2 : ∀ c ∈ [z, TI, TO, i1, i2], FpOk X pins (upd H s.heap.objs.size (.tup [x, y])) c := fun c hc => by
      obtain ⟨f0, f⟩ := hf c hc
      refine ⟨?_, f⟩
      have lt : c < s.heap.objs.size := by
        simp only [List.mem_cons, List.not_mem_nil, or_false] at hc
        rcases hc with e | e | e | e | e <;> subst e <;> assumption
      rw [upd_ne (Nat.ne_of_lt lt)]
      exact f0
    have I2 : Inv X pins σ (upd H s.heap.objs.size (.tup [x, y])) { s with heap := h2 } := by
      refine Inv.turnedL (s := { s with heap := s.heap.push { cls := .type "tuple", data := .seq #[u, v] }, toks := s.toks }) (h' := h2) (t' := s.toks) (its := [z, TI, TO, i1, i2]) I1 (fun c o hc e => ?_) fp2
      simp only [List.mem_cons, List.not_mem_nil, or_false, not_or] at hc
      refine up c o hc.1 ?_
      by_cases hcs : c = s.heap.objs.size
      · subst hcs
        have e' : (s.heap.push { cls := .type "tuple", data := .seq #[u, v] }).get? s.heap.objs.size = some { cls := .type "tuple", data := .seq #[u, v] } := Heap.get?_push_size _ rfl
        rw [e'] at e
        cases e
        exact hT
      · have e' : s.heap.get? c = some o := by
          rw [← e]
          exact (Heap.get?_push_ne _ _ _ hcs).symm
        exact kk c o hc.1 hc.2.2.1 hc.2.2.2.1 hc.2.2.2.2 e'
    refine ⟨.ref s.heap.objs.size, _, I2, rfl, ⟨s.heap.objs.size, rfl, hTn, fun xs' ys' u' v' a1 a2 a3 a4 => ?_⟩, ⟨z2, up _ _ D.TIz (kk _ _ D.TIz D.TITO D.TIi1 D.TIi2 s2), ⟨u, v, up _ _ D.TOz t1⟩, j1.at fun o e => up _ o D.i1z e, j2.at fun o e => up _ o D.i2z e⟩, fun c hc => (fp2 c hc).1⟩
    rw [I.list_inj a1 hq1, hx] at a3
    rw [I.list_inj a2 hq2, hy] at a4
    cases a3
    cases a4
    rfl
  done := by
    intro X hP hw hK hc i pins s σ H E I hf st hg
    subst hP hw hK
    obtain ⟨xs, ys, hq1, hq2, hend⟩ := hg
    obtain ⟨its1, rv1, p1, _⟩ := I.list hq1
    obtain ⟨its2, rv2, p2, _⟩ := I.list hq2
    have l1 := rv1.length
    have l2 := rv2.length
    obtain ⟨s1, s2, ⟨p, q, s3⟩, s4, s5⟩ := st
    refine wpAny_pyNext_zip_end (I.ok.hd hc) D s1 s2 s3 s4 s5 p1.isList p2.isList ?_ fun h' kk => ⟨rfl, I.turnedL (t' := s.toks) (its := [z, TI, TO, i1, i2]) (fun c o hc e => ?_) hf⟩
    · rcases hend with e | e
      · exact .inl (by simp; omega)
      · exact .inr (by simp; omega)
    · simp only [List.mem_cons, List.not_mem_nil, or_false, not_or] at hc
      exact kk c o hc.1 hc.2.2.1 hc.2.2.2.1 hc.2.2.2.2 e
  self := fun _ _ _ _ _ st h => wpAny_pyIter_zip st.1 h
section
variable {X : Cx} {es : List Expr} {kx : Nat} {tp : Pos}
def iZip (K : PySem.W.Frag) (ta : TA) : TI := fun σ H R => ta σ H fun vs H1 => ∃ a b, vs = [.ref a, .ref b] ∧ (∃ xs, SqL K H1 a xs) ∧ (∃ ys, SqL K H1 b ys) ∧ R (Itz K a b) H1
theorem pi_zip {K : PySem.W.Frag} {a b : Expr} {ta : TA} {p pos : Pos} (hg : Gl X "zip") (hm : X.mg "zip" = none) (ha : PA X [a, b] ta) (hK : X.K = K := by rfl) (hs : starEach [a, b] X.env = [(false, eval a X.env), (false, eval b X.env)] := by rfl) (hs2 : starEach [b] X.env = [(false, eval b X.env)] := by rfl) :
    PI X (.Tuple es kx tp) (.Call (.Name "zip" p) [a, b] [] pos) (iZip K ta) := by
  subst hK
  intro pins s σ H R I h
  refine Call_ (ld_blt I hg hm bt_zip (PyProof.Rows.callWith_type1 (thn (ha pos pins s σ H _ I h) fun us s1 ⟨vs, H1, I1, r1, q1⟩ => ?_) (by rw [hs, hs2]) (by rw [hs2]; rfl)))
  obtain ⟨a, b, e, ⟨xs, hq1⟩, ⟨ys, hq2⟩, q⟩ := q1
  subst e
  cases r1 with
  | cons r rr =>
    cases rr with
    | cons r' rr =>
      cases rr
      cases r
      cases r'
      obtain ⟨its1, rv1, p1, _⟩ := I1.list hq1
      obtain ⟨its2, rv2, p2, _⟩ := I1.list hq2
      obtain ⟨o1, e1, _⟩ := id p1.isList
      obtain ⟨o2, e2, _⟩ := id p2.isList
      refine call_zip_2 p1.isList p2.isList fun h' hz hTI hTO j1 j2 hsz kk => wpAny_pyIter_zip hz ?_
      refine ⟨_, [s1.heap.objs.size + 4, s1.heap.objs.size + 2, s1.heap.objs.size + 3, s1.heap.objs.size, s1.heap.objs.size + 1], _, _, H1, rfl, I1.kept (t' := s1.toks) kk, turn_zip (zipApart_new (Heap.lt_size e1) (Heap.lt_size e2)),
        ⟨hz, hTI, ⟨_, _, hTO⟩, j1, j2⟩, fun c hc => ?_, q⟩
      have le : s1.heap.objs.size ≤ c := by
        simp only [List.mem_cons, List.not_mem_nil, or_false] at hc
        rcases hc with e | e | e | e | e <;> subst e <;> omega
      exact I1.fpOk le (I1.hok.fresh le)
theorem for_zip {K : PySem.W.Frag} {a b : Addr} {xs ys : List V} {g : TG} {tb : TS} {D : Ends} {σ : St} {H : Hp} {n : Nat} (hn : n = min xs.length ys.length) (Pv : Nat → St → Hp → Prop) (h0 : Pv 0 σ H) (hl : ∀ i σ H, Pv i σ H → SqL K H a xs ∧ SqL K H b ys)
    (hs : ∀ i x y σ H T, xs[i]? = some x → ys[i]? = some y → Pv i σ H → H T = none → g (.ref T) σ (upd H T (.tup [x, y])) fun σ2 H2 => tb { D with nx := Pv (i + 1), ct := Pv (i + 1), bk := D.nx } σ2 H2) (hd : ∀ σ H, Pv n σ H → D.nx σ H) :
    ∃ W : Nat → Nat → St → Hp → Prop, (∃ m, W 0 m σ H) ∧ ∀ i m σ H, W i m σ H →
      ((Itz K a b).stop i H ∧ D.nx σ H) ∨ ((Itz K a b).go i H ∧ ∃ N : St → Hp → Prop, (∀ σ' H', N σ' H' → ∃ m', m' < m ∧ W (i + 1) m' σ' H') ∧ ∀ x H', (Itz K a b).yld i H x H' → g x σ H' fun σ2 H2 => tb { D with nx := N, ct := N, bk := D.nx } σ2 H2) := by
  refine ⟨fun i m σ H => m = n - i ∧ i ≤ n ∧ Pv i σ H, ⟨n, by simp, Nat.zero_le _, h0⟩, ?_⟩
  rintro i m σ H ⟨rfl, hi, p⟩
  obtain ⟨q1, q2⟩ := hl i σ H p
  by_cases hlt : i < n
  · have x1 : i < xs.length := by omega
    have y1 : i < ys.length := by omega
    refine .inr ⟨⟨xs, ys, xs[i], ys[i], q1, q2, List.getElem?_eq_getElem x1, List.getElem?_eq_getElem y1⟩, Pv (i + 1), fun σ' H' p' => ⟨n - (i + 1), by omega, rfl, hlt, p'⟩, fun x H' y => ?_⟩
    obtain ⟨T, rfl, hT, y⟩ := y
    have e := y xs ys _ _ q1 q2 (List.getElem?_eq_getElem x1) (List.getElem?_eq_getElem y1)
    subst e
    exact hs i _ _ σ H T (List.getElem?_eq_getElem x1) (List.getElem?_eq_getElem y1) p hT
  · have e : i = n := by omega
    subst e
    exact .inl ⟨⟨xs, ys, q1, q2, by omega⟩, hd σ H p⟩
end
open PySem PySem.Spec PyProof.Rows
def rInT (K : PySem.W.Frag) : R2 := fun x y H Q => ∃ (p q : Addr) (as : List Addr) (ks : List Int), x = .ref p ∧ y = .ref q ∧ SqL K H q (as.map V.ref) ∧ SqT K H p (vI ks) ∧
  (∀ a ∈ as, ∃ js : List Int, SqT K H a (vI js)) ∧ (∃ a ∈ as, SqT K H a (vI ks)) ∧ Q (.bl true) H
section
variable {X : Cx} {K : PySem.W.Frag}
end
open PySem PySem.Spec PyProof.Rows
section
variable {prog : Program} {w : World} {A : Around} {E : Value → Shared → Prop} {s : Shared}
theorem drawsStr (hh : A.handled = none) (it : Addr) (x : Str) (t : Tok) : Draws prog w A it [it] x.cps.size (fun i v => ∃ c u, x.cps[i]? = some c ∧ v = .str ⟨#[c]⟩ u) (fun i h => h.IsStrIter it (strIterType x) x t i) := by
  unfold strIterType
  split
  · exact Draws.strAscii hh it x t
  · exact Draws.strWide hh it x t
structure Apart2 (z TI TO i1 i2 : Addr) : Prop where
  TIz : TI ≠ z
  TOz : TO ≠ z
  i1z : i1 ≠ z
  i2z : i2 ≠ z
  TITO : TI ≠ TO
  TIi1 : TI ≠ i1
  TIi2 : TI ≠ i2
  TOi1 : TO ≠ i1
  TOi2 : TO ≠ i2
  i12 : i1 ≠ i2
theorem zipD_item {z TI TO i1 i2 : Addr} {fp1 fp2 : List Addr} {n1 n2 k : Nat} {P1 P2 : Nat → Value → Prop} {S1 S2 : Nat → Heap → Prop} {a b : Value} {Q : Value → Shared → Prop} (D : Apart2 z TI TO i1 i2)
    (D1 : ∀ A' : Around, A'.handled = none → Draws prog w A' i1 fp1 n1 P1 S1) (D2 : ∀ A' : Around, A'.handled = none → Draws prog w A' i2 fp2 n2 P2 S2) (hh : A.handled = none)
    (f1 : ∀ c ∈ fp1, c ≠ z ∧ c ≠ TO ∧ c ≠ i2) (f2 : ∀ c ∈ fp2, c ≠ z ∧ c ≠ TO ∧ c ≠ i1)
    (hz : IsZip s.heap z TI TO .none) (hTI : IsPair s.heap TI (.ref i1) (.ref i2)) (hTO : IsPair s.heap TO a b) (h1 : S1 k s.heap) (h2 : S2 k s.heap) (lt1 : k < n1) (lt2 : k < n2)
    (hQ : ∀ x y h' tk, P1 k x → P2 k y → IsZip h' z TI TO (rawInt s.heap.objs.size) → IsPair h' TO x y → S1 (k + 1) h' → S2 (k + 1) h' → IsPair h' s.heap.objs.size x y → h'.objs.size = s.heap.objs.size + 1 →
      (∀ c o, c ≠ z → c ≠ TO → c ≠ i1 → c ≠ i2 → s.heap.get? c = some o → h'.get? c = some o) → Q (.ref s.heap.objs.size) { s with heap := h', toks := tk }) :
    wpAny (model prog w) A (Builtin.«zip.__next__» ⟨[.ref z], []⟩) (fun fin s' => ∃ v, fin = .done (.ret v) ∧ Q v s') E s := by
  show wpAny _ _ (field (.ref z) 2 >>= _) _ _ _
  refine wpAny_bind (wpAny_field hz rfl (x := .bool false) rfl ?_)
  show wpAny _ _ (field (.ref z) 3 >>= _) _ _ _
  refine wpAny_bind (wpAny_field hz rfl (x := .ref TI) rfl ?_)
  refine wpAny_bind (wpAny_seqItems hTI rfl ?_)
  show wpAny _ _ (Builtin.SmallTypes.ownedTupleIsFree (.ref z) >>= _) _ _ _
  refine wpAny_bind ?_
  unfold Builtin.SmallTypes.ownedTupleIsFree
  refine wpAny_bind (wpAny_field hz rfl (x := .none) rfl (wpAny_pure ?_))
  simp only [if_true]
  refine wpAny_bind (wpAny_rule ?_)
  refine wpAny_bind (wpAny_field hz rfl (x := .ref TO) rfl ?_)
  refine wpAny_bind (wpAny_setField_rec hz (by simp) fun h₁ hz₁ hs₁ => ?_)
  replace hz₁ : IsZip h₁ z TI TO .ellipsis := hz₁
  refine wpAny_bind ?_
  simp only [List.zipIdx_cons, List.zipIdx_nil, List.forIn_cons, List.forIn_nil]
  refine wpAny_bind (wpAny_bind (wpAny_onRaise ?_))
  show wpAny _ _ (Builtin.SmallTypes.nextOf (.ref i1) >>= _) _ _ _
  refine wpAny_bind ((D1 _ hh).item k _ _ _ lt1 ((D1 A hh).frame _ _ _ h1 fun c hc o e => hs₁.extBut _ _ (f1 c hc).1 e) fun x h₂ tk₂ px h1₂ hs₂ => wpAny_pure ?_)
  have hs₂ : Heap.SameBut i1 h₁ h₂ := hs₂
  have hTO₂ : IsPair h₂ TO a b := hs₂.extBut _ _ D.TOi1 (hs₁.extBut _ _ D.TOz hTO)
  refine wpAny_bind (wpAny_seqItems hTO₂ rfl ?_)
  refine wpAny_bind (wpAny_updateSeq_pair hTO₂ fun h₃ hTO₃ hs₃ => ?_)
  have hs₃ : Heap.SameBut TO h₂ h₃ := hs₃
  replace hTO₃ : IsPair h₃ TO x b := hTO₃
  refine wpAny_bind (wpAny_letGo (wpAny_pure ?_))
  refine wpAny_bind (wpAny_bind (wpAny_onRaise ?_))
  show wpAny _ _ (Builtin.SmallTypes.nextOf (.ref i2) >>= _) _ _ _
  refine wpAny_bind ((D2 _ hh).item k _ _ _ lt2 ((D2 A hh).frame _ _ _ h2 fun c hc o e => hs₃.extBut _ _ (f2 c hc).2.1 (hs₂.extBut _ _ (f2 c hc).2.2 (hs₁.extBut _ _ (f2 c hc).1 e))) fun y h₄ tk₄ py h2₄ hs₄ => wpAny_pure ?_)
  have hs₄ : Heap.SameBut i2 h₃ h₄ := hs₄
  have hTO₄ : IsPair h₄ TO x b := hs₄.extBut _ _ D.TOi2 hTO₃
  refine wpAny_bind (wpAny_seqItems hTO₄ rfl ?_)
  refine wpAny_bind (wpAny_updateSeq_pair hTO₄ fun h₅ hTO₅ hs₅ => ?_)
  have hs₅ : Heap.SameBut TO h₄ h₅ := hs₅
  replace hTO₅ : IsPair h₅ TO x y := hTO₅
  refine wpAny_bind (wpAny_letGo (wpAny_pure (wpAny_pure ?_)))
  refine wpAny_bind (wpAny_seqItems hTO₅ rfl ?_)
  refine wpAny_bind (wpAny_newTuple ?_)
  have hsz : h₅.objs.size = s.heap.objs.size := by rw [hs₅.1, hs₄.1, hs₃.1, hs₂.1, hs₁.1]
  have hz₅ : IsZip h₅ z TI TO .ellipsis := hs₅.extBut _ _ D.TOz.symm (hs₄.extBut _ _ D.i2z.symm (hs₃.extBut _ _ D.TOz.symm (hs₂.extBut _ _ D.i1z.symm hz₁)))
  have hk₅ : ∀ c o, c ≠ z → c ≠ TO → c ≠ i1 → c ≠ i2 → s.heap.get? c = some o → h₅.get? c = some o := fun c o c1 c2 c3 c4 e =>
    hs₅.extBut _ _ c2 (hs₄.extBut _ _ c4 (hs₃.extBut _ _ c2 (hs₂.extBut _ _ c3 (hs₁.extBut _ _ c1 e))))
  have h1₅ : S1 (k + 1) h₅ := (D1 A hh).frame _ _ _ h1₂ fun c hc o e => hs₅.extBut _ _ (f1 c hc).2.1 (hs₄.extBut _ _ (f1 c hc).2.2 (hs₃.extBut _ _ (f1 c hc).2.1 e))
  have h2₅ : S2 (k + 1) h₅ := (D2 A hh).frame _ _ _ h2₄ fun c hc o e => hs₅.extBut _ _ (f2 c hc).2.1 e
  have hzlt : z < h₅.objs.size := Heap.lt_size hz₅
  show wpAny _ _ (Builtin.SmallTypes.ownedTupleHandOut (.ref z) (.ref h₅.objs.size) >>= _) _ _ _
  refine wpAny_bind ?_
  unfold Builtin.SmallTypes.ownedTupleHandOut
  have hz₆ : IsZip (h₅.push { cls := .type "tuple", data := .seq #[x, y] }) z TI TO .ellipsis := Heap.get?_push_of_some _ hz₅
  refine wpAny_bind (wpAny_setField_rec hz₆ (by simp) fun h₇ hz₇ hs₇ => ?_)
  replace hz₇ : IsZip h₇ z TI TO (rawInt h₅.objs.size) := hz₇
  refine wpAny_setField_rec hz₇ (by simp) fun h₈ hz₈ hs₈ => ?_
  replace hz₈ : IsZip h₈ z TI TO (rawInt h₅.objs.size) := hz₈
  have up : ∀ c o, c ≠ z → h₅.get? c = some o → h₈.get? c = some o := fun c o c1 e => hs₈.extBut _ _ c1 (hs₇.extBut _ _ c1 (Heap.get?_push_of_some _ e))
  have hT₈ : IsPair h₈ h₅.objs.size x y := hs₈.extBut _ _ (Nat.ne_of_gt hzlt) (hs₇.extBut _ _ (Nat.ne_of_gt hzlt) (Heap.get?_push_size _ rfl))
  have hz8 : h₈.objs.size = h₅.objs.size + 1 := by rw [hs₈.1, hs₇.1, Heap.size_push]
  rw [hsz] at hz₈ hT₈ hz8
  refine wpAny_pure ⟨_, rfl, ?_⟩
  show Q (.ref h₅.objs.size) _
  rw [hsz]
  exact hQ x y h₈ tk₄ px py hz₈ (up _ _ D.TOz hTO₅) ((D1 A hh).frame _ _ _ h1₅ fun c hc o e => up _ o (f1 c hc).1 e) ((D2 A hh).frame _ _ _ h2₅ fun c hc o e => up _ o (f2 c hc).1 e) hT₈ hz8 fun c o c1 c2 c3 c4 e => up c o c1 (hk₅ c o c1 c2 c3 c4 e)
theorem zipD_end {z TI TO i1 i2 : Addr} {fp1 fp2 : List Addr} {n1 n2 k : Nat} {P1 P2 : Nat → Value → Prop} {S1 S2 : Nat → Heap → Prop} {a b : Value} {Q : Fin → Shared → Prop} (D : Apart2 z TI TO i1 i2)
    (D1 : ∀ A' : Around, A'.handled = none → Draws prog w A' i1 fp1 n1 P1 S1) (D2 : ∀ A' : Around, A'.handled = none → Draws prog w A' i2 fp2 n2 P2 S2) (hh : A.handled = none)
    (f1 : ∀ c ∈ fp1, c ≠ z ∧ c ≠ TO ∧ c ≠ i2) (f2 : ∀ c ∈ fp2, c ≠ z ∧ c ≠ TO ∧ c ≠ i1)
    (hz : IsZip s.heap z TI TO .none) (hTI : IsPair s.heap TI (.ref i1) (.ref i2)) (hTO : IsPair s.heap TO a b) (h1 : S1 k s.heap) (h2 : S2 k s.heap) (hend : k = n1 ∨ (k < n1 ∧ k = n2))
    (hE : ∀ h' e tk, (∀ c o, c ≠ z → c ≠ TO → c ≠ i1 → c ≠ i2 → s.heap.get? c = some o → h'.get? c = some o) → (∃ o, h'.get? e = some o ∧ o.cls = .type "StopIteration") → E (.ref e) { s with heap := h', toks := tk }) :
    wpAny (model prog w) A (Builtin.«zip.__next__» ⟨[.ref z], []⟩) Q E s := by
  show wpAny _ _ (field (.ref z) 2 >>= _) _ _ _
  refine wpAny_bind (wpAny_field hz rfl (x := .bool false) rfl ?_)
  show wpAny _ _ (field (.ref z) 3 >>= _) _ _ _
  refine wpAny_bind (wpAny_field hz rfl (x := .ref TI) rfl ?_)
  refine wpAny_bind (wpAny_seqItems hTI rfl ?_)
  show wpAny _ _ (Builtin.SmallTypes.ownedTupleIsFree (.ref z) >>= _) _ _ _
  refine wpAny_bind ?_
  unfold Builtin.SmallTypes.ownedTupleIsFree
  refine wpAny_bind (wpAny_field hz rfl (x := .none) rfl (wpAny_pure ?_))
  simp only [if_true]
  refine wpAny_bind (wpAny_rule ?_)
  refine wpAny_bind (wpAny_field hz rfl (x := .ref TO) rfl ?_)
  refine wpAny_bind (wpAny_setField_rec hz (by simp) fun h₁ hz₁ hs₁ => ?_)
  replace hz₁ : IsZip h₁ z TI TO .ellipsis := hz₁
  refine wpAny_bind ?_
  simp only [List.zipIdx_cons, List.zipIdx_nil, List.forIn_cons, List.forIn_nil]
  refine wpAny_bind (wpAny_bind (wpAny_onRaise ?_))
  show wpAny _ _ (Builtin.SmallTypes.nextOf (.ref i1) >>= _) _ _ _
  have g1 : S1 k h₁ := (D1 A hh).frame _ _ _ h1 fun c hc o e => hs₁.extBut _ _ (f1 c hc).1 e
  rcases hend with hk | ⟨lt1, hk⟩
  · subst hk
    refine wpAny_bind ((D1 _ hh).done _ _ _ g1 fun h₂ e hs₂ he => ?_)
    have hs₂ : Heap.ExtBut i1 h₁ h₂ := hs₂
    obtain ⟨oe, hoe, hce⟩ := he
    have hz₂ : IsZip h₂ z TI TO .ellipsis := hs₂ _ _ D.i1z.symm hz₁
    have hez : e ≠ z := fun x => by subst x; rw [hz₂] at hoe; cases hoe; simp at hce
    refine wpAny_setField_rec hz₂ (by simp) fun h₃ _ hs₃ => hE h₃ e _ (fun c o c1 _ c3 _ x => hs₃.extBut _ _ c1 (hs₂ _ _ c3 (hs₁.extBut _ _ c1 x))) ⟨oe, hs₃.extBut _ _ hez hoe, hce⟩
  · refine wpAny_bind ((D1 _ hh).item k _ _ _ lt1 g1 fun x h₂ tk₂ px h1₂ hs₂ => wpAny_pure ?_)
    have hs₂ : Heap.SameBut i1 h₁ h₂ := hs₂
    have hTO₂ : IsPair h₂ TO a b := hs₂.extBut _ _ D.TOi1 (hs₁.extBut _ _ D.TOz hTO)
    refine wpAny_bind (wpAny_seqItems hTO₂ rfl ?_)
    refine wpAny_bind (wpAny_updateSeq_pair hTO₂ fun h₃ hTO₃ hs₃ => ?_)
    have hs₃ : Heap.SameBut TO h₂ h₃ := hs₃
    refine wpAny_bind (wpAny_letGo (wpAny_pure ?_))
    refine wpAny_bind (wpAny_bind (wpAny_onRaise ?_))
    show wpAny _ _ (Builtin.SmallTypes.nextOf (.ref i2) >>= _) _ _ _
    subst hk
    refine wpAny_bind ((D2 _ hh).done _ _ _ ((D2 A hh).frame _ _ _ h2 fun c hc o e => hs₃.extBut _ _ (f2 c hc).2.1 (hs₂.extBut _ _ (f2 c hc).2.2 (hs₁.extBut _ _ (f2 c hc).1 e))) fun h₄ e hs₄ he => ?_)
    have hs₄ : Heap.ExtBut i2 h₃ h₄ := hs₄
    obtain ⟨oe, hoe, hce⟩ := he
    have hz₄ : IsZip h₄ z TI TO .ellipsis := hs₄ _ _ D.i2z.symm (hs₃.extBut _ _ D.TOz.symm (hs₂.extBut _ _ D.i1z.symm hz₁))
    have hez : e ≠ z := fun x => by subst x; rw [hz₄] at hoe; cases hoe; simp at hce
    refine wpAny_setField_rec hz₄ (by simp) fun h₅ _ hs₅ => hE h₅ e _ (fun c o c1 c2 c3 c4 x => hs₅.extBut _ _ c1 (hs₄ _ _ c4 (hs₃.extBut _ _ c2 (hs₂.extBut _ _ c3 (hs₁.extBut _ _ c1 x))))) ⟨oe, hs₅.extBut _ _ hez hoe, hce⟩
theorem nextD_item {z TI TO i1 i2 : Addr} {fp1 fp2 : List Addr} {n1 n2 k : Nat} {P1 P2 : Nat → Value → Prop} {S1 S2 : Nat → Heap → Prop} {a b : Value} {Q : Option Value → Shared → Prop} (D : Apart2 z TI TO i1 i2)
    (D1 : ∀ A' : Around, A'.handled = none → Draws prog w A' i1 fp1 n1 P1 S1) (D2 : ∀ A' : Around, A'.handled = none → Draws prog w A' i2 fp2 n2 P2 S2) (hh : A.handled = none)
    (f1 : ∀ c ∈ fp1, c ≠ z ∧ c ≠ TO ∧ c ≠ i2) (f2 : ∀ c ∈ fp2, c ≠ z ∧ c ≠ TO ∧ c ≠ i1)
    (hz : IsZip s.heap z TI TO .none) (hTI : IsPair s.heap TI (.ref i1) (.ref i2)) (hTO : IsPair s.heap TO a b) (h1 : S1 k s.heap) (h2 : S2 k s.heap) (lt1 : k < n1) (lt2 : k < n2)
    (hQ : ∀ x y h' tk, P1 k x → P2 k y → IsZip h' z TI TO (rawInt s.heap.objs.size) → IsPair h' TO x y → S1 (k + 1) h' → S2 (k + 1) h' → IsPair h' s.heap.objs.size x y → h'.objs.size = s.heap.objs.size + 1 →
      (∀ c o, c ≠ z → c ≠ TO → c ≠ i1 → c ≠ i2 → s.heap.get? c = some o → h'.get? c = some o) → Q (some (.ref s.heap.objs.size)) { s with heap := h', toks := tk }) :
    wpAny (model prog w) A (pyNext (.ref z)) Q E s := by
  have hT : s.TypeIs (.ref z) "zip" := ⟨_, hz, rfl⟩
  unfold pyNext
  exact wpAny_bind (wpAny_attempt (wpAny_callSpecial?_slot (name := Str.ofString "__next__") hT F.slot_zip_next
    (wpAny_call_entry F.slot_zip_next hT F.entry_zip_next
      (zipD_item D D1 D2 hh f1 f2 hz hTI hTO h1 h2 lt1 lt2 fun x y h' tk a1 a2 a3 a4 a5 a6 a7 a8 a9 => wpAny_pure (hQ x y h' tk a1 a2 a3 a4 a5 a6 a7 a8 a9)) (F.args_zip_next_1 _))))
theorem nextD_end {z TI TO i1 i2 : Addr} {fp1 fp2 : List Addr} {n1 n2 k : Nat} {P1 P2 : Nat → Value → Prop} {S1 S2 : Nat → Heap → Prop} {a b : Value} {Q : Option Value → Shared → Prop} (D : Apart2 z TI TO i1 i2)
    (D1 : ∀ A' : Around, A'.handled = none → Draws prog w A' i1 fp1 n1 P1 S1) (D2 : ∀ A' : Around, A'.handled = none → Draws prog w A' i2 fp2 n2 P2 S2) (hh : A.handled = none)
    (f1 : ∀ c ∈ fp1, c ≠ z ∧ c ≠ TO ∧ c ≠ i2) (f2 : ∀ c ∈ fp2, c ≠ z ∧ c ≠ TO ∧ c ≠ i1)
    (hz : IsZip s.heap z TI TO .none) (hTI : IsPair s.heap TI (.ref i1) (.ref i2)) (hTO : IsPair s.heap TO a b) (h1 : S1 k s.heap) (h2 : S2 k s.heap) (hend : k = n1 ∨ (k < n1 ∧ k = n2))
    (hQ : ∀ h' tk, (∀ c o, c ≠ z → c ≠ TO → c ≠ i1 → c ≠ i2 → s.heap.get? c = some o → h'.get? c = some o) → Q none { s with heap := h', toks := tk }) : wpAny (model prog w) A (pyNext (.ref z)) Q E s := by
  have hT : s.TypeIs (.ref z) "zip" := ⟨_, hz, rfl⟩
  unfold pyNext
  refine wpAny_bind (wpAny_attempt (wpAny_callSpecial?_slot (name := Str.ofString "__next__") hT F.slot_zip_next
    (wpAny_call_entry F.slot_zip_next hT F.entry_zip_next (zipD_end D D1 D2 hh f1 f2 hz hTI hTO h1 h2 hend fun h' e tk hk he => ?_) (F.args_zip_next_1 _))))
  obtain ⟨o, ho, hc⟩ := he
  refine wpAny_bind (wpAny_isInstance (T := "StopIteration") (b := true) ⟨o, ho, hc⟩ isSubtype_stop ?_)
  exact wpAny_pure (hQ _ _ hk)
abbrev strIt (x : Str) (t : Tok) : Obj := { cls := .type (strIterType x), data := .fields #[.str x t, .int 0 0] }
abbrev lstIt (l : Addr) : Obj := { cls := .type "list_iterator", data := .fields #[.ref l, .int 0 0] }
abbrev zHeap (h : Heap) (o1 o2 : Obj) : Heap := ((((h.push o1).push o2).push { cls := .type "tuple", data := .seq #[.ref h.objs.size, .ref (h.push o1).objs.size] }).push { cls := .type "tuple", data := .seq #[.none, .none] }).push
  { cls := .type "zip", data := .fields #[.none, .bool false, .bool false, .ref ((h.push o1).push o2).objs.size, .ref (((h.push o1).push o2).push { cls := .type "tuple", data := .seq #[.ref h.objs.size, .ref (h.push o1).objs.size] }).objs.size] }
abbrev zAddr (h : Heap) (o1 o2 : Obj) : Addr := ((((h.push o1).push o2).push { cls := .type "tuple", data := .seq #[.ref h.objs.size, .ref (h.push o1).objs.size] }).push { cls := .type "tuple", data := .seq #[.none, .none] }).objs.size
set_option maxHeartbeats 4000000 in
theorem meets_zipLS (l1 : Addr) (xs : Array Value) (x : Str) (t : Tok) :
    Meets (Builtin.«zip.__new__» ⟨[.type "zip", .ref l1, .str x t], []⟩) (fun _ R s => s.heap.IsList l1 xs ∧ R (.ok (.ret (.ref (zAddr s.heap (lstIt l1) (strIt x t))))) { s with heap := zHeap s.heap (lstIt l1) (strIt x t) }) :=
  .of_wp fun prog w A R s h => by
    obtain ⟨hp, g, d, tk, os⟩ := s; obtain ⟨hl1, h⟩ := h
    have hsub := sub_zip
    have hL1 : Heap.IsList (Shared.heap ⟨hp, g, d, tk, os⟩) l1 xs := hl1
    wp_walk using wpAny_pyIter_list hL1, wpAny_pyIter_strU
    exact ⟨_, rfl, h⟩
set_option maxHeartbeats 4000000 in
theorem meets_zipSS (y : Str) (u : Tok) (x : Str) (t : Tok) :
    Meets (Builtin.«zip.__new__» ⟨[.type "zip", .str y u, .str x t], []⟩) (fun _ R s => R (.ok (.ret (.ref (zAddr s.heap (strIt y u) (strIt x t))))) { s with heap := zHeap s.heap (strIt y u) (strIt x t) }) :=
  .of_wp fun prog w A R s h => by
    obtain ⟨hp, g, d, tk, os⟩ := s
    have hsub := sub_zip
    wp_walk using wpAny_pyIter_strU
    exact ⟨_, rfl, h⟩
end
open PySem PySem.Spec PyProof.Rows
inductive Src where
  | l (a : Addr)
  | s (z : Str)
def srcV : Src → V
  | .l a => .ref a
  | .s z => .str z
def srcOk (K : PySem.W.Frag) (H : Hp) : Src → Prop
  | .l a => ∃ xs, SqL K H a xs
  | .s _ => True
def srcAt (K : PySem.W.Frag) (H : Hp) : Src → Nat → V → Prop
  | .l a, i, v => ∃ xs, SqL K H a xs ∧ xs[i]? = some v
  | .s z, i, v => ∃ c, z.cps[i]? = some c ∧ v = .str ⟨#[c]⟩
def srcEnd (K : PySem.W.Frag) (H : Hp) : Src → Nat → Prop
  | .l a, i => ∃ xs, SqL K H a xs ∧ xs.length = i
  | .s z, i => z.cps.size = i
def srcSt (it : Addr) (t : Tok) : Src → Nat → Heap → Prop
  | .l a, i, h => h.IsListIter it a i
  | .s z, i, h => h.IsStrIter it (strIterType z) z t i
def srcFp (it : Addr) : Src → List Addr
  | .l a => [it, a]
  | .s _ => [it]
def srcIt (t : Tok) : Src → Obj
  | .l a => lstIt a
  | .s z => strIt z t
theorem srcAt_uniq {X : Cx} {pins : List (Addr × Obj)} {σ : St} {H : Hp} {s : Shared} (I : Inv X pins σ H s) {S : Src} {i : Nat} {u v : V} (h1 : srcAt X.K H S i u) (h2 : srcAt X.K H S i v) : u = v := by
  cases S with
  | l a =>
    obtain ⟨xs, q1, e1⟩ := h1
    obtain ⟨ys, q2, e2⟩ := h2
    rw [I.list_inj q2 q1, e1] at e2
    exact Option.some.inj e2
  | s z =>
    obtain ⟨c, e1, rfl⟩ := h1
    obtain ⟨d, e2, rfl⟩ := h2
    rw [e1] at e2
    cases e2
    rfl
theorem src_draws {X : Cx} {pins : List (Addr × Obj)} {σ : St} {H : Hp} {s : Shared} (I : Inv X pins σ H s) {it : Addr} {t : Tok} {S : Src} {i : Nat} (st : srcSt it t S i s.heap) (ok : srcOk X.K H S) (ap : ∀ a, S = .l a → a ≠ it) :
    ∃ (n : Nat) (Pd : Nat → Value → Prop) (Sd : Nat → Heap → Prop), (∀ A' : Around, A'.handled = none → Draws X.prog X.w A' it (srcFp it S) n Pd Sd) ∧ Sd i s.heap ∧ (∀ h', Sd (i + 1) h' → srcSt it t S (i + 1) h') ∧
      (∀ v, srcAt X.K H S i v → i < n ∧ ∀ u, Pd i u → RelV v u) ∧ (srcEnd X.K H S i → i = n) := by
  cases S with
  | l a =>
    obtain ⟨xs, q⟩ := ok
    obtain ⟨its, rv, p1, _⟩ := I.list q
    have len := rv.length
    refine ⟨_, _, _, fun A' hh => Draws.list hh it a (ap a rfl) its.toArray, ⟨st, p1.isList⟩, fun h' z => z.1, fun v hv => ?_, fun he => ?_⟩
    · obtain ⟨ys, q2, e⟩ := hv
      rw [I.list_inj q2 q] at e
      obtain ⟨u, hu, r⟩ := rv.get e
      refine ⟨by have := (List.getElem?_eq_some_iff.mp hu).1; simpa using this, fun u' hu' => ?_⟩
      have : its[i]? = some u' := by simpa using hu'
      rw [hu] at this
      cases this
      exact r
    · obtain ⟨ys, q2, e⟩ := he
      rw [I.list_inj q2 q] at e
      simp only [List.size_toArray]
      omega
  | s z =>
    refine ⟨_, _, _, fun A' hh => drawsStr hh it z t, st, fun h' z => z, fun v hv => ?_, fun he => he.symm⟩
    obtain ⟨c, e, rfl⟩ := hv
    refine ⟨by rw [Array.getElem?_eq_some_iff] at e; exact e.1, fun u ⟨d, tk, e2, hu⟩ => ?_⟩
    rw [e] at e2
    cases e2
    exact ⟨tk, hu⟩
def Itz2 (K : PySem.W.Frag) (S1 S2 : Src) : It where
  go := fun i H => (∃ u, srcAt K H S1 i u) ∧ ∃ v, srcAt K H S2 i v
  yld := fun i H x H' => ∃ T, x = .ref T ∧ H T = none ∧ ∀ u v, srcAt K H S1 i u → srcAt K H S2 i v → H' = upd H T (.tup [u, v])
  stop := fun i H => srcOk K H S1 ∧ srcOk K H S2 ∧ (srcEnd K H S1 i ∨ ((∃ u, srcAt K H S1 i u) ∧ srcEnd K H S2 i))
theorem srcAt_ok {K : PySem.W.Frag} {H : Hp} {S : Src} {i : Nat} {u : V} (h : srcAt K H S i u) : srcOk K H S := by
  cases S with
  | l a => obtain ⟨xs, q, _⟩ := h; exact ⟨xs, q⟩
  | s z => trivial
def Zip2St (z TI TO i1 i2 : Addr) (t1 t2 : Tok) (S1 S2 : Src) (i : Nat) (h : Heap) : Prop := IsZip h z TI TO .none ∧ IsPair h TI (.ref i1) (.ref i2) ∧ (∃ p q, IsPair h TO p q) ∧ srcSt i1 t1 S1 i h ∧ srcSt i2 t2 S2 i h
theorem srcSt_at {it : Addr} {t : Tok} {S : Src} {i : Nat} {h h' : Heap} (st : srcSt it t S i h) (k : ∀ o, h.get? it = some o → h'.get? it = some o) : srcSt it t S i h' := by
  cases S with
  | l a => exact Heap.IsListIter.at st k
  | s z => obtain ⟨o, e, c⟩ := st; exact ⟨o, k o e, c⟩
theorem srcSt_obj {it : Addr} {t : Tok} {S : Src} {i : Nat} {h : Heap} (st : srcSt it t S i h) : ∃ o, h.get? it = some o ∧ ∀ v, o.data ≠ .cell v := by
  cases S with
  | l a => obtain ⟨o, e, _, d⟩ := st; exact ⟨o, e, fun v z => by rw [d] at z; cases z⟩
  | s z => obtain ⟨o, e, _, d⟩ := st; exact ⟨o, e, fun v z => by rw [d] at z; cases z⟩
theorem turn_zip2 {P : Program} {w : World} {K : PySem.W.Frag} {es : List Expr} {kx : Nat} {tp : Pos} {z TI TO i1 i2 : Addr} {t1 t2 : Tok} {S1 S2 : Src} (D : Apart2 z TI TO i1 i2)
    (a1 : ∀ a, S1 = .l a → a ≠ z ∧ a ≠ TO ∧ a ≠ i1 ∧ a ≠ i2) (a2 : ∀ a, S2 = .l a → a ≠ z ∧ a ≠ TO ∧ a ≠ i1 ∧ a ≠ i2) :
    Turn P w K (.Tuple es kx tp) (Itz2 K S1 S2) [z, TI, TO, i1, i2] z (Zip2St z TI TO i1 i2 t1 t2 S1 S2) := by
  have f1 : ∀ c ∈ srcFp i1 S1, c ≠ z ∧ c ≠ TO ∧ c ≠ i2 := fun c hc => by
    cases S1 with
    | l a =>
      rcases List.mem_cons.mp hc with e | e
      · subst e; exact ⟨D.i1z, D.TOi1.symm, D.i12⟩
      · rw [List.mem_singleton.mp e]; exact ⟨(a1 a rfl).1, (a1 a rfl).2.1, (a1 a rfl).2.2.2⟩
    | s x => rw [List.mem_singleton.mp hc]; exact ⟨D.i1z, D.TOi1.symm, D.i12⟩
  have f2 : ∀ c ∈ srcFp i2 S2, c ≠ z ∧ c ≠ TO ∧ c ≠ i1 := fun c hc => by
    cases S2 with
    | l a =>
      rcases List.mem_cons.mp hc with e | e
      · subst e; exact ⟨D.i2z, D.TOi2.symm, D.i12.symm⟩
      · rw [List.mem_singleton.mp e]; exact ⟨(a2 a rfl).1, (a2 a rfl).2.1, (a2 a rfl).2.2.1⟩
    | s x => rw [List.mem_singleton.mp hc]; exact ⟨D.i2z, D.TOi2.symm, D.i12.symm⟩
  exact {
    mem := by simp
    obj := fun i h st c hc => by
      obtain ⟨s1, s2, ⟨p, q, s3⟩, s4, s5⟩ := st
      simp only [List.mem_cons, List.not_mem_nil, or_false] at hc
      rcases hc with e | e | e | e | e
      · subst e; exact ⟨_, s1, fun v z => by cases (show Data.fields _ = Data.cell v from z)⟩
      · subst e; exact ⟨_, s2, fun v z => by cases (show Data.seq _ _ = Data.cell v from z)⟩
      · subst e; exact ⟨_, s3, fun v z => by cases (show Data.seq _ _ = Data.cell v from z)⟩
      · subst e; exact srcSt_obj s4
      · subst e; exact srcSt_obj s5
    keep := fun i h h' st k => by
      obtain ⟨s1, s2, ⟨p, q, s3⟩, s4, s5⟩ := st
      exact ⟨k _ (by simp) _ s1, k _ (by simp) _ s2, ⟨p, q, k _ (by simp) _ s3⟩, srcSt_at s4 fun o e => k _ (by simp) o e, srcSt_at s5 fun o e => k _ (by simp) o e⟩
    item := by
      intro X hP hw hK hc i pins s σ H E I hf st hg
      subst hP hw hK
      obtain ⟨⟨x, hx⟩, y, hy⟩ := hg
      obtain ⟨s1, s2, ⟨p, q, s3⟩, s4, s5⟩ := st
      obtain ⟨n1, P1, Q1, D1, g1, e1, v1, _⟩ := src_draws I s4 (srcAt_ok hx) (fun a e => (a1 a e).2.2.1)
      obtain ⟨n2, P2, Q2, D2, g2, e2, v2, _⟩ := src_draws I s5 (srcAt_ok hy) (fun a e => (a2 a e).2.2.2)
      obtain ⟨l1, r1⟩ := v1 x hx
      obtain ⟨l2, r2⟩ := v2 y hy
      refine nextD_item D D1 D2 (I.ok.hd hc) f1 f2 s1 s2 s3 g1 g2 l1 l2 fun u v h1 tk pu pv z1 w1 j1 j2 hT hsz kk => ?_
      have ru := r1 u pu
      have rw' := r2 v pv
      refine ⟨_, rfl, wpAny_letOwnedTupleGo_zip z1 fun h2 z2 sb => ?_⟩
      have sb : Heap.SameBut z h1 h2 := sb
      have zl : z < s.heap.objs.size := Heap.lt_size s1
      have TIl : TI < s.heap.objs.size := Heap.lt_size s2
      have TOl : TO < s.heap.objs.size := Heap.lt_size s3
      have i1l : i1 < s.heap.objs.size := by obtain ⟨_, e, _⟩ := srcSt_obj s4; exact Heap.lt_size e
      have i2l : i2 < s.heap.objs.size := by obtain ⟨_, e, _⟩ := srcSt_obj s5; exact Heap.lt_size e
      have up : ∀ c o, c ≠ z → h1.get? c = some o → h2.get? c = some o := fun c o c1 e => (sb.2 c c1).trans e
      have hTn : H s.heap.objs.size = none := I.hok.fresh (Nat.le_refl _)
      have I1 : Inv X pins σ (upd H s.heap.objs.size (.tup [x, y])) { s with heap := s.heap.push { cls := .type "tuple", data := .seq #[u, v] }, toks := tk } :=
        I.laid (fun c o e => Heap.get?_push_of_some _ e) (Nat.le_refl _) ⟨by show 2 ≤ sizeLine; decide, [u, v], .cons ru (.cons rw' .nil), ⟨_, Heap.get?_push_size _ rfl, rfl, _, rfl⟩⟩
      have fp2 : ∀ c ∈ [z, TI, TO, i1, i2], FpOk X pins (upd H s.heap.objs.size (.tup [x, y])) c := fun c hc => by
        obtain ⟨f0, f⟩ := hf c hc
        refine ⟨?_, f⟩
        have lt : c < s.heap.objs.size := by
          simp only [List.mem_cons, List.not_mem_nil, or_false] at hc
          rcases hc with e | e | e | e | e <;> subst e <;> assumption
        rw [upd_ne (Nat.ne_of_lt lt)]
        exact f0
      have I2 : Inv X pins σ (upd H s.heap.objs.size (.tup [x, y])) { s with heap := h2, toks := tk } := by
        refine Inv.turnedL (s := { s with heap := s.heap.push { cls := .type "tuple", data := .seq #[u, v] }, toks := tk }) (h' := h2) (t' := tk) (its := [z, TI, TO, i1, i2]) I1 (fun c o hc e => ?_) fp2
        simp only [List.mem_cons, List.not_mem_nil, or_false, not_or] at hc
        refine up c o hc.1 ?_
        by_cases hcs : c = s.heap.objs.size
        · subst hcs
          have e' : (s.heap.push { cls := .type "tuple", data := .seq #[u, v] }).get? s.heap.objs.size = some { cls := .type "tuple", data := .seq #[u, v] } := Heap.get?_push_size _ rfl
          rw [e'] at e
          cases e
          exact hT
        · have e' : s.heap.get? c = some o := by
            rw [← e]
            exact (Heap.get?_push_ne _ _ _ hcs).symm
          exact kk c o hc.1 hc.2.2.1 hc.2.2.2.1 hc.2.2.2.2 e'
      refine ⟨.ref s.heap.objs.size, _, I2, rfl, ⟨s.heap.objs.size, rfl, hTn, fun u' v' q1 q2 => ?_⟩, ⟨z2, up _ _ D.TIz (kk _ _ D.TIz D.TITO D.TIi1 D.TIi2 s2), ⟨u, v, up _ _ D.TOz w1⟩, srcSt_at (e1 _ j1) fun o e => up _ o D.i1z e, srcSt_at (e2 _ j2) fun o e => up _ o D.i2z e⟩, fun c hc => (fp2 c hc).1⟩
      rw [srcAt_uniq I q1 hx, srcAt_uniq I q2 hy]
    done := by
      intro X hP hw hK hc i pins s σ H E I hf st hg
      subst hP hw hK
      obtain ⟨o1, o2, hend⟩ := hg
      obtain ⟨s1, s2, ⟨p, q, s3⟩, s4, s5⟩ := st
      obtain ⟨n1, P1, Q1, D1, g1, e1, v1, d1⟩ := src_draws I s4 o1 (fun a e => (a1 a e).2.2.1)
      obtain ⟨n2, P2, Q2, D2, g2, e2, v2, d2⟩ := src_draws I s5 o2 (fun a e => (a2 a e).2.2.2)
      have he : i = n1 ∨ (i < n1 ∧ i = n2) := by
        rcases hend with h | ⟨⟨u, hu⟩, h⟩
        · exact .inl (d1 h)
        · exact .inr ⟨(v1 u hu).1, d2 h⟩
      refine nextD_end D D1 D2 (I.ok.hd hc) f1 f2 s1 s2 s3 g1 g2 he fun h' tk kk => ⟨rfl, I.turnedL (t' := tk) (its := [z, TI, TO, i1, i2]) (fun c o hc e => ?_) hf⟩
      simp only [List.mem_cons, List.not_mem_nil, or_false, not_or] at hc
      exact kk c o hc.1 hc.2.2.1 hc.2.2.2.1 hc.2.2.2.2 e
    self := fun _ _ _ _ _ st h => wpAny_pyIter_zip st.1 h }
theorem zHeap_is {h : Heap} {o1 o2 : Obj} (e1 : o1.isFreed = false) (e2 : o2.isFreed = false) : zAddr h o1 o2 = h.objs.size + 4 ∧ IsZip (zHeap h o1 o2) (h.objs.size + 4) (h.objs.size + 2) (h.objs.size + 3) .none ∧
    IsPair (zHeap h o1 o2) (h.objs.size + 2) (.ref h.objs.size) (.ref (h.objs.size + 1)) ∧ IsPair (zHeap h o1 o2) (h.objs.size + 3) .none .none ∧ (zHeap h o1 o2).get? h.objs.size = some o1 ∧ (zHeap h o1 o2).get? (h.objs.size + 1) = some o2 ∧
    ∀ c o, h.get? c = some o → (zHeap h o1 o2).get? c = some o := by
  have z1 : (h.push o1).objs.size = h.objs.size + 1 := Heap.size_push ..
  have z2 : ((h.push o1).push o2).objs.size = h.objs.size + 2 := by rw [Heap.size_push, z1]
  have z3 : (((h.push o1).push o2).push { cls := .type "tuple", data := .seq #[.ref h.objs.size, .ref (h.push o1).objs.size] }).objs.size = h.objs.size + 3 := by rw [Heap.size_push, z2]
  have z4 : zAddr h o1 o2 = h.objs.size + 4 := by unfold zAddr; rw [Heap.size_push, z3]
  have g5 : (zHeap h o1 o2).get? (zAddr h o1 o2) = some _ := Heap.get?_push_size _ rfl
  have g4 : (zHeap h o1 o2).get? (((h.push o1).push o2).push { cls := .type "tuple", data := .seq #[.ref h.objs.size, .ref (h.push o1).objs.size] }).objs.size = some _ := Heap.get?_push_of_some _ (Heap.get?_push_size _ rfl)
  have g3 : (zHeap h o1 o2).get? ((h.push o1).push o2).objs.size = some _ := Heap.get?_push_of_some _ (Heap.get?_push_of_some _ (Heap.get?_push_size _ rfl))
  have g2 : (zHeap h o1 o2).get? (h.push o1).objs.size = some o2 := Heap.get?_push_of_some _ (Heap.get?_push_of_some _ (Heap.get?_push_of_some _ (Heap.get?_push_size _ e2)))
  have g1 : (zHeap h o1 o2).get? h.objs.size = some o1 := Heap.get?_push_of_some _ (Heap.get?_push_of_some _ (Heap.get?_push_of_some _ (Heap.get?_push_of_some _ (Heap.get?_push_size _ e1))))
  refine ⟨z4, ?_, ?_, ?_, g1, ?_, fun c o x => Heap.get?_push_of_some _ (Heap.get?_push_of_some _ (Heap.get?_push_of_some _ (Heap.get?_push_of_some _ (Heap.get?_push_of_some _ x))))⟩
  · rw [z4, z2, z3] at g5; exact g5
  · rw [z2, z1] at g3; exact g3
  · rw [z3] at g4; exact g4
  · rw [z1] at g2; exact g2
theorem ane {a b : Nat} (h : a ≠ b) : @Ne Addr a b := h
theorem lne {a n : Nat} (h : a < n) (k : Nat) : @Ne Addr a (n + k) := fun z => by have z : a = n + k := z; omega
theorem apart2_new (n : Nat) : Apart2 (n + 4) (n + 2) (n + 3) n (n + 1) where
  TIz := ane (by omega)
  TOz := ane (by omega)
  i1z := ane (by omega)
  i2z := ane (by omega)
  TITO := ane (by omega)
  TIi1 := ane (by omega)
  TIi2 := ane (by omega)
  TOi1 := ane (by omega)
  TOi2 := ane (by omega)
  i12 := ane (by omega)
section
variable {X : Cx} {es : List Expr} {kx : Nat} {tp : Pos}
def zOk : Src → Src → Prop
  | .s _, .l _ => False
  | _, _ => True
def iZip2 (K : PySem.W.Frag) (ta : TA) : TI := fun σ H R => ta σ H fun vs H1 => ∃ S1 S2, vs = [srcV S1, srcV S2] ∧ zOk S1 S2 ∧ srcOk K H1 S1 ∧ srcOk K H1 S2 ∧ R (Itz2 K S1 S2) H1
theorem pi_zip2 {K : PySem.W.Frag} {a b : Expr} {ta : TA} {p pos : Pos} (hg : Gl X "zip") (hm : X.mg "zip" = none) (ha : PA X [a, b] ta) (hK : X.K = K := by rfl) (hs : starEach [a, b] X.env = [(false, eval a X.env), (false, eval b X.env)] := by rfl) (hs2 : starEach [b] X.env = [(false, eval b X.env)] := by rfl) :
    PI X (.Tuple es kx tp) (.Call (.Name "zip" p) [a, b] [] pos) (iZip2 K ta) := by
  subst hK
  intro pins s σ H R I h
  refine Call_ (ld_blt I hg hm bt_zip (PyProof.Rows.callWith_type1 (thn (ha pos pins s σ H _ I h) fun us s1 ⟨vs, H1, I1, r1, q1⟩ => ?_) (by rw [hs, hs2]) (by rw [hs2]; rfl)))
  obtain ⟨S1, S2, e, hz, o1, o2, q⟩ := q1
  subst e
  obtain ⟨u1, u2, rfl, ru1, ru2⟩ := r1.two
  have fin : ∀ (t1 t2 : Tok) (h' : Heap) (tk : Nat), IsZip h' (s1.heap.objs.size + 4) (s1.heap.objs.size + 2) (s1.heap.objs.size + 3) .none → IsPair h' (s1.heap.objs.size + 2) (.ref s1.heap.objs.size) (.ref (s1.heap.objs.size + 1)) → IsPair h' (s1.heap.objs.size + 3) .none .none →
      srcSt s1.heap.objs.size t1 S1 0 h' → srcSt (s1.heap.objs.size + 1) t2 S2 0 h' → (∀ c o, s1.heap.get? c = some o → h'.get? c = some o) →
      wpAny (model X.prog X.w) X.A (pyIter (.ref (s1.heap.objs.size + 4))) (PIE X pins σ (.Tuple es kx tp) R) X.xe { s1 with heap := h', toks := tk } := fun t1 t2 h' tk hzz hTI hTO j1 j2 kk => by
    refine wpAny_pyIter_zip hzz ?_
    have lt : ∀ S : Src, srcOk X.K H1 S → ∀ a, S = .l a → a < s1.heap.objs.size := fun S ok a e => by
      subst e
      obtain ⟨xs, q⟩ := ok
      obtain ⟨its, _, p1, _⟩ := I1.list q
      obtain ⟨o, e, _⟩ := p1.isList
      exact Heap.lt_size e
    refine ⟨_, [s1.heap.objs.size + 4, s1.heap.objs.size + 2, s1.heap.objs.size + 3, s1.heap.objs.size, s1.heap.objs.size + 1], _, _, H1, rfl, I1.kept (t' := tk) kk, turn_zip2 (t1 := t1) (t2 := t2) (apart2_new _) (fun a e => ?_) (fun a e => ?_),
      ⟨hzz, hTI, ⟨_, _, hTO⟩, j1, j2⟩, fun c hc => ?_, q⟩
    · have := lt S1 o1 a e; exact ⟨lne this 4, lne this 3, lne this 0, lne this 1⟩
    · have := lt S2 o2 a e; exact ⟨lne this 4, lne this 3, lne this 0, lne this 1⟩
    · have le : s1.heap.objs.size ≤ c := by
        simp only [List.mem_cons, List.not_mem_nil, or_false] at hc
        rcases hc with e | e | e | e | e <;> subst e <;> omega
      exact I1.fpOk le (I1.hok.fresh le)
  cases S1 with
  | l a =>
    cases ru1
    obtain ⟨xs, hq1⟩ := id o1
    obtain ⟨its1, rv1, p1, _⟩ := I1.list hq1
    cases S2 with
    | l b =>
      cases ru2
      obtain ⟨ys, hq2⟩ := id o2
      obtain ⟨its2, rv2, p2, _⟩ := I1.list hq2
      refine call_zip_2 p1.isList p2.isList fun h' hzz hTI hTO j1 j2 hsz kk => fin 0 0 h' s1.toks hzz hTI hTO j1 j2 kk
    | s x =>
      obtain ⟨t, rfl⟩ := ru2
      refine callType_new F.called_zip (by decide) (F.typeCall_zip_2 _ _) (F.newCall_zip_2 _ _) (fun obj => F.args_object_init_3 obj _ _) F.entry_zip_new (meets_zipLS a its1.toArray x t) ⟨p1.isList, ?_⟩
      obtain ⟨z4, g5, g3, g4, g1, g2, kk⟩ := zHeap_is (h := s1.heap) (o1 := lstIt a) (o2 := strIt x t) rfl rfl
      show _ ∧ _
      rw [z4]
      exact ⟨⟨_, g5, rfl⟩, fin 0 t _ s1.toks g5 g3 g4 ⟨_, g1, rfl, rfl⟩ ⟨_, g2, rfl, rfl⟩ kk⟩
  | s y =>
    obtain ⟨t1, rfl⟩ := ru1
    cases S2 with
    | l b => exact hz.elim
    | s x =>
      obtain ⟨t, rfl⟩ := ru2
      refine callType_new F.called_zip (by decide) (F.typeCall_zip_2 _ _) (F.newCall_zip_2 _ _) (fun obj => F.args_object_init_3 obj _ _) F.entry_zip_new (meets_zipSS y t1 x t) ?_
      obtain ⟨z4, g5, g3, g4, g1, g2, kk⟩ := zHeap_is (h := s1.heap) (o1 := strIt y t1) (o2 := strIt x t) rfl rfl
      show _ ∧ _
      rw [z4]
      exact ⟨⟨_, g5, rfl⟩, fin t1 t _ s1.toks g5 g3 g4 ⟨_, g1, rfl, rfl⟩ ⟨_, g2, rfl, rfl⟩ kk⟩
end
open PySem PySem.Spec PyProof.Rows
structure CompOk2 (X : Cx) (x x' : Str) (Nc : List Str) (caps : List Nat) (scope : Scope) : Prop where
  kind : scope.kind = .function
  cell : ∀ y ∈ scope.names, y.2 ≠ .cell
  names : ∀ y ∈ scope.names, y.2 = .local → scope.names.lookup y.1 = some .local
  fr : ∀ y ∈ scope.names, y.2 = .free → X.env.scope.names.lookup y.1 = some .cell ∧ scope.names.lookup y.1 = some .free
  loc : scope.names.lookup x = some .local
  loc2 : scope.names.lookup x' = some .local
  len : Nc.length = caps.length + 2
  hd : Nc[0]? = some x
  hd2 : Nc[1]? = some x'
  nd : Nc.Nodup
  cap : ∀ k j, caps[k]? = some j → ∃ y, Nc[k + 2]? = some y ∧ X.N[j]? = some y ∧ scope.names.lookup y = some .free
def tCompW2 (K : PySem.W.Frag) (caps : List Nat) (tc : TT) (te : TE) (J : It) (σ : St) (H : Hp) (Q : VK) : Prop :=
  ∃ W : Nat → Nat → List V → Hp → Prop, (∃ m, W 0 m [] H) ∧ ∀ i m ys H, W i m ys H →
    (J.stop i H ∧ ys.length ≤ sizeLine ∧ ∀ p, H p = none → Q (.ref p) (upd H p (.lst ys))) ∨
    (J.go i H ∧ ys.length < sizeLine ∧ ∀ x H', J.yld i H x H' → ∃ a u v, x = .ref a ∧ SqT K H' a [u, v] ∧ tc (some u :: some v :: capV σ caps) H' fun b H2 =>
      if b = true then te (some u :: some v :: capV σ caps) H2 fun y H3 => ∃ m', m' < m ∧ W (i + 1) m' (ys ++ [y]) H3 else ∃ m', m' < m ∧ W (i + 1) m' ys H2)
def tComp2 (K : PySem.W.Frag) (wi : TI) (caps : List Nat) (tc : TT) (te : TE) : TE := fun σ H Q => wi σ H fun J H1 => tCompW2 K caps tc te J σ H1 Q
section
variable {X : Cx} {pins : List (Addr × Obj)} {σ : St} {H : Hp} {s : Shared}
theorem comp_ok2 {x x' : Str} {Nc : List Str} {caps : List Nat} {scope : Scope} {cl : List (Str × Addr)} {C : Addr} {fp : List Addr} (I : Inv X pins σ H s) (O : CompOk2 X x x' Nc caps scope)
    (hcl : ∀ x c, cl.lookup x = some c → X.env.cells.lookup x = some c ∧ (x, NameKind.free) ∈ scope.names) (hcl2 : ∀ x, (x, NameKind.free) ∈ scope.names → cl.lookup x = X.env.cells.lookup x)
    (hC : s.heap.objs.size ≤ C) (hfp : ∀ b ∈ fp, FpOk X pins H b) (hfo : ∀ b ∈ fp, b < s.heap.objs.size) : (cxComp X Nc scope cl C fp s H).Ok where
  mod := I.ok.mod
  kind := O.kind
  glob := I.ok.glob
  blt := I.ok.blt
  above := hC
  inj := fun a b c e1 e2 => I.ok.inj a b c (hcl a c e1).1 (hcl b c e2).1
  has := fun y hy => by
    have mem : (y, NameKind.free) ∈ scope.names := by
      have hy' : ((relabel scope X.env).names.lookup y = some .cell) ∨ ((relabel scope X.env).names.lookup y = some .free) := hy
      have hm : ∃ k, (y, k) ∈ (relabel scope X.env).names ∧ (k = .cell ∨ k = .free) := by
        rcases hy' with h | h
        · exact ⟨_, PySem.mem_of_lookup h, .inl rfl⟩
        · exact ⟨_, PySem.mem_of_lookup h, .inr rfl⟩
      obtain ⟨k, hm, hk⟩ := hm
      obtain ⟨⟨n, k'⟩, hm', e⟩ := List.mem_map.mp hm
      dsimp only at e
      by_cases hc : (k' == NameKind.free && X.env.scope.kind == .function && X.env.kindOf n == some .cell) = true
      · rw [if_pos hc] at e
        injection e with e1 _
        subst e1
        have : k' = .free := by
          have := (Bool.and_eq_true _ _ ▸ (Bool.and_eq_true _ _ ▸ hc).1).1
          simpa using this
        subst this
        exact hm'
      · rw [if_neg hc] at e
        injection e with e1 e2
        subst e1 e2
        rcases hk with hk | hk
        · subst hk; exact absurd rfl (O.cell _ hm')
        · subst hk; exact hm'
    obtain ⟨c, e⟩ := I.ok.has y (.inl (O.fr _ mem rfl).1)
    exact ⟨c, (hcl2 y mem).trans e⟩
  cab := fun _ _ z => nomatch z
  hd := I.ok.hd
  frames := I.ok.frames
  stk := .inl rfl
  exf := fun b hb => ⟨Nat.ne_of_lt (Nat.lt_of_lt_of_le (hfo b hb) hC), fun y c e => (hfp b hb).2.2.2.2.1 y c (hcl y c e).1⟩
  bs := I.bs
  bsz := Nat.le_trans I.ok.bsz I.sz
  noex := fun b o e hb => by
    rcases (hfp b hb).2.2.2.1 with z | z
    · exact I.ok.noex b o e z
    · exact absurd (Nat.lt_of_lt_of_le (Heap.lt_size e) (Nat.le_trans I.ok.bsz z)) (Nat.lt_irrefl _)
  exfs := fun b hb z => by
    rcases List.mem_cons.mp (I.stkSub b z) with e | e
    · exact (hfp b hb).2.1 e
    · exact (hfp b hb).2.2.1 e
  funs := I.stack
  frf := I.stkFree
theorem comp_start2 {x x' : Str} {Nc : List Str} {caps : List Nat} {scope : Scope} {cl : List (Str × Addr)} {C : Addr} {fp : List Addr} {h' : Heap} {tk : Nat} {m0 : Str → Option Value} (I : Inv X pins σ H s) (O : CompOk2 X x x' Nc caps scope)
    (hcl : ∀ x c, cl.lookup x = some c → X.env.cells.lookup x = some c ∧ (x, NameKind.free) ∈ scope.names) (hcl2 : ∀ x, (x, NameKind.free) ∈ scope.names → cl.lookup x = X.env.cells.lookup x)
    (hC : s.heap.objs.size ≤ C) (hfp : ∀ b ∈ fp, FpOk X pins H b) (hfo : ∀ b ∈ fp, b < s.heap.objs.size)
    (old : ∀ b o, s.heap.get? b = some o → h'.get? b = some o) (hns : h'.Ns C m0) :
    Inv (cxComp X Nc scope cl C fp s H) [] (none :: none :: capV σ caps) H { s with heap := h', toks := tk } where
  ok := comp_ok2 I O hcl hcl2 hC hfp hfo
  os := rfl
  bare := I.bare
  base := Un.kept old
  loc := by
    refine ⟨m0, hns, fun i y v hN hσ hv => ?_⟩
    match i with
    | 0 => simp at hσ
    | 1 => simp at hσ
    | k + 2 =>
      rw [List.getElem?_cons_succ, List.getElem?_cons_succ] at hσ
      obtain ⟨j, hj, hs⟩ := capV_get hσ
      obtain ⟨z, hz1, hz2, hz3⟩ := O.cap k j hj
      have hN' : Nc[k + 2]? = some y := hN
      rw [hz1] at hN'
      cases hN'
      have mem : (y, NameKind.free) ∈ scope.names := PySem.mem_of_lookup hz3
      have hk := (O.fr _ mem rfl).1
      obtain ⟨m, hn, hl⟩ := I.loc
      obtain ⟨u, r, l⟩ := hl j y v hz2 hs (.inr (.inl hk))
      refine ⟨u, r, ?_⟩
      rcases l with ⟨k', _⟩ | ⟨_, c, hc, z⟩
      · have k'' : X.env.scope.names.lookup y = some .local := k'
        rw [hk] at k''; cases k''
      · obtain ⟨o, ho, hd⟩ := z
        exact .inr ⟨.inl (lookup_relabel_free I.ok.kind hz3 hk), c, (hcl2 y mem).trans hc, o, old _ _ ho, hd⟩
  cell := fun y c e => by
    obtain ⟨v, o, ho, hd⟩ := I.cell y c (hcl y c e).1
    exact ⟨v, o, old _ _ ho, hd⟩
  free := I.hok.fresh hC
  freeC := fun y c e => I.freeC y c (hcl y c e).1
  pin := fun p hp => absurd (show p ∈ ([] : List (Addr × Obj)) from hp) (by simp)
  hok := I.hok.kept old
  len := by
    show (none :: none :: capV σ caps).length = Nc.length
    rw [List.length_cons, List.length_cons, capV_len, O.len]
theorem comp_block2 {x x' : Str} {px px' tp : Pos} {kx : Nat} {Nc : List Str} {caps : List Nat} {scope : Scope} {cl : List (Str × Addr)} {iter elt : Expr} {ifs : List Expr} {pos : Pos} {tc : TT} {te : TE} {Q : VK} {it : Addr} {fp : List Addr} {tn : Nat → Heap → Prop} {J : It}
    {RR : Value → Addr → Result → Shared → Prop} {E : Value → Shared → Prop}
    (O : CompOk2 X x x' Nc caps scope) (hc : X.calm = true)
    (hcl : ∀ x c, cl.lookup x = some c → X.env.cells.lookup x = some c ∧ (x, NameKind.free) ∈ scope.names) (hcl2 : ∀ x, (x, NameKind.free) ∈ scope.names → cl.lookup x = X.env.cells.lookup x)
    (hte : ∀ C fp s H, PE (cxComp X Nc scope cl C fp s H) elt te) (htc : ∀ C fp s H, PIf (cxComp X Nc scope cl C fp s H) ifs tc)
    (I : Inv X pins σ H s) (T : Turn X.prog X.w X.K (.Tuple [.Name x px, .Name x' px'] kx tp) J fp it tn) (st : tn 0 s.heap) (hfp : ∀ b ∈ fp, FpOk X pins H b) (h : tCompW2 X.K caps tc te J σ H Q)
    (hRR : ∀ (D C : Addr) (s' : Shared) (m : Str → Option Value), s'.heap.Ns C m → (∀ h', Heap.SameBut C s'.heap h' → ∃ H', Inv X pins σ H' { s' with heap := h' } ∧ H' C = none ∧ Q (.ref D) H') →
      s.heap.objs.size ≤ C → RR (.ref D) C (.ok .next) s') :
    wpAny (model X.prog X.w) X.A (newList []) (fun acc s₃ => wpAny (model X.prog X.w) X.A (newFunctionEnv scope X.env.globals cl [] X.env.qual none .none (some X.env)) (fun cenv s₄ =>
      codeAny (model X.prog X.w) X.A (.compStart (.ListComp elt [⟨(.Tuple [.Name x px, .Name x' px'] kx tp), iter, ifs, 0⟩] scope pos) 0 (.ref it) acc { cenv with scope := relabel scope X.env }) (RR acc cenv.locals) s₄) E s₃) E s := by
  refine wpAny_newObj_type (wpAny_newFunctionEnv O.cell (by intro y hy; simp at hy) (fun h₁ hns₁ hsb₁ => ?_) O.kind)
  dsimp only at hns₁ hsb₁ ⊢
  generalize hH2 : s.heap.push { cls := .type "list", dict := none, data := .seq ([] : List Value).toArray } = H2 at hns₁ hsb₁ ⊢
  have hC : H2.objs.size = s.heap.objs.size + 1 := by rw [← hH2, Heap.size_push]
  have hCle : s.heap.objs.size ≤ H2.objs.size := by rw [hC]; exact Nat.le_succ _
  have hDC : s.heap.objs.size ≠ H2.objs.size := by rw [hC]; exact Nat.ne_of_lt (Nat.lt_succ_self _)
  have below : ∀ b, b < s.heap.objs.size → b ≠ H2.objs.size ∧ b ≠ s.heap.objs.size := fun b hb => ⟨by rw [hC]; exact Nat.ne_of_lt (Nat.lt_succ_of_lt hb), Nat.ne_of_lt hb⟩
  have old : ∀ b o, s.heap.get? b = some o → h₁.get? b = some o := fun b o e => hsb₁.extBut b o (below b (Heap.lt_size e)).1 (Heap.get?_push_of_some _ (hH2 ▸ Heap.get?_push_of_some _ e))
  have hacc : h₁.get? s.heap.objs.size = some (rawL [] 0) := hsb₁.extBut _ _ hDC (Heap.get?_push_of_some _ (hH2 ▸ Heap.get?_push_size _ rfl))
  have hfo : ∀ b ∈ fp, b < s.heap.objs.size := fun b hb => by
    obtain ⟨o, e, _⟩ := T.obj _ _ st b hb
    exact Heap.lt_size e
  have st1 : tn 0 h₁ := T.keep _ _ _ st fun b _ o e => old b o e
  generalize hDD : s.heap.objs.size = D at *
  generalize hCC : H2.objs.size = C at *
  have DleC : D ≤ C := hCle
  let Y : Cx := cxComp X Nc scope cl C fp s H
  have I0 : Inv Y [] (none :: none :: capV σ caps) H { s with heap := h₁, toks := s.toks + ([] : List (Str × Value)).length } := comp_start2 I O hcl hcl2 (by rw [hDD]; exact hCle) hfp (fun b hb => by rw [hDD]; exact hfo b hb) old hns₁
  have Dfree : H D = none := by rw [← hDD]; exact I.hok.fresh (Nat.le_refl _)
  have DneC : D ≠ C := hDC
  have Dfs : D ∉ Y.fs := fun z => by
    have := I.stack.mem (show D ∈ frs X.stack from z)
    obtain ⟨_, o, e, _⟩ := this
    have := Heap.lt_size e
    rw [hDD] at this
    exact Nat.lt_irrefl _ this
  have Dcell : ∀ y c, Y.env.cells.lookup y = some c → c ≠ D := fun y c e z => by
    obtain ⟨v, q⟩ := I.cell y c (hcl y c e).1
    have := q.lt
    rw [z, hDD] at this
    exact Nat.lt_irrefl _ this
  have Dfp : ∀ b ∈ fp, b ≠ D := fun b hb => Nat.ne_of_lt (hfo b hb)
  have fpY : ∀ {H' : Hp}, (∀ b ∈ fp, H' b = none) → ∀ b ∈ fp, FpOk Y [] H' b := fun hn b hb =>
    ⟨hn b hb, Nat.ne_of_lt (Nat.lt_of_lt_of_le (hfo b hb) DleC), fun z => I0.ok.exfs b hb z, .inl hb, fun y c e => (I0.ok.exf b hb).2 y c e, fun p hp => absurd (show p ∈ ([] : List (Addr × Obj)) from hp) (by simp)⟩
  obtain ⟨W, ⟨m0, w0⟩, turn⟩ := h
  have loop : ∀ s₃ : Shared, s₃ = { s with heap := h₁, toks := s.toks + ([] : List (Str × Value)).length } →
      codeAny (model X.prog X.w) X.A (.compLoop (.ListComp elt [⟨(.Tuple [.Name x px, .Name x' px'] kx tp), iter, ifs, 0⟩] scope pos) 0 (.ref it) (.ref D) (compEnvC scope cl C X.env)) (RR (.ref D) C) s₃ := by
    rintro s₃ rfl
    refine compLoop_any (fun n s' => ∃ (i : Nat) (o o' : Option V) (H' : Hp) (ys : List V) (us : List Value) (k : Nat), Inv Y [] (o :: o' :: capV σ caps) H' s' ∧ tn i s'.heap ∧ (∀ b ∈ fp, H' b = none) ∧ s'.heap.get? D = some (rawL us k) ∧ H' D = none ∧ Vals ys us ∧ W i n ys H')
      ?_ m0 ⟨0, none, none, H, [], [], 0, I0, st1, fun b hb => (hfp b hb).1, hacc, Dfree, .nil, w0⟩
    rintro n s3 ⟨i, o3, o3', H3, ys, us, k, I3, st3, fr3, hD3, nD3, rv, w3⟩
    have fpP : ∀ {H' : Hp} {ob : Obj}, (∀ b ∈ fp, H' b = none) → ∀ b ∈ fp, FpOk Y [(D, ob)] H' b := fun hn b hb => by
      obtain ⟨g0, g1, g2, g3, g4, _⟩ := fpY hn b hb
      refine ⟨g0, g1, g2, g3, g4, fun p hp => ?_⟩
      have e : p = (D, _) := List.mem_singleton.mp (show p ∈ [(D, _)] from hp)
      rw [e]
      exact Ne.symm (Dfp b hb)
    have IP : Inv Y [(D, rawL us k)] (o3 :: o3' :: capV σ caps) H3 s3 := I3.pins_of fun p hp => by
      have e : p = (D, rawL us k) := List.mem_singleton.mp hp
      subst e
      exact ⟨hD3, nD3, DneC, Dfs, fun v z => by cases z⟩
    have pinD : ∀ {σ' : St} {H' : Hp} {s' : Shared} {pl : List (Addr × Obj)}, Inv Y ([(D, rawL us k)] ++ pl) σ' H' s' → s'.heap.get? D = some (rawL us k) ∧ H' D = none := fun I' => by
      have z := I'.pin (D, rawL us k) (List.mem_append_right _ (List.mem_append_left _ List.mem_cons_self))
      exact ⟨z.1, z.2.1⟩
    rcases turn i n ys H3 w3 with ⟨stop, hlen, fin⟩ | ⟨go, hlen, step⟩
    ·
      refine wpAny_mono (T.done Y rfl rfl rfl hc i _ s3 _ H3 (fun _ _ => False) IP (fpP fr3) st3 stop) (fun r s4 hr => ?_) fun _ _ z => z.elim
      obtain ⟨hr, I4⟩ := hr
      subst hr
      obtain ⟨gD, nD⟩ := pinD (pl := []) (by simpa using I4)
      obtain ⟨m, hn, _⟩ := I4.loc
      refine hRR D C s4 m hn (fun h' hs' => ⟨upd H3 D (.lst ys), ?_, (upd_ne (Ne.symm DneC)).trans I4.free, fin D nD⟩) hCle
      have nt : ∀ b ob, H3 b = some ob → b ≠ C := fun b ob e z => by
        have := I4.free
        rw [z] at e
        rw [show H3 C = none from this] at e
        cases e
      have u1 : Un (frs X.stack) fp H H3 s.heap h' := Un.but I4.base hs' (show s.heap.objs.size ≤ C by rw [hDD]; exact hCle)
      have ok1 : HOk X.prog X.w H3 h' := fun b ob e => (I4.hok b ob e).stay (fun c v hc q => (hs'.2 c (by
        rcases hc with z | z
        · rw [z]; exact nt b ob e
        · exact nt c _ z)).trans q) (fun _ q => q) fun _ _ q => q
      have gD' : h'.get? D = some (rawL us k) := (hs'.2 D DneC).trans gD
      exact I.call' (s' := { s4 with heap := h' }) (ch := fp) I4.os (u1.track (Nat.le_of_eq hDD) nD) (ok1.track nD ⟨hlen, us, k, rv, gD'⟩) I4.bare fun b hb => by
        obtain ⟨_, g1, _, g3, g4, g5⟩ := hfp b hb
        exact ⟨g3, g1, g4, g5⟩
    ·
      refine wpAny_mono (T.item Y rfl rfl rfl hc i _ s3 _ H3 (fun _ _ => False) IP (fpP fr3) st3 go) (fun r s4 hr => ?_) fun _ _ z => z.elim
      obtain ⟨u0, hr, h4⟩ := hr
      subst hr
      refine wpAny_mono h4 (fun _ s5 h5 => ?_) fun _ _ z => z.elim
      obtain ⟨x5, H5, I5, r5, y5, st5, fr5⟩ := h5
      have I5' := I5.pinned (fpP fr5) (T.obj _ _ st5)
      have n1 : PG Y (.Name x px) (gName 0) := pg_name (i := 0) O.nd O.hd (.inl (lookup_relabel I.ok.kind O.loc (by intro z; cases z))) (.inr (lookup_relabel I.ok.kind O.loc (by intro z; cases z)))
      have n2 : PG Y (.Name x' px') (gName 1) := pg_name (i := 1) O.nd O.hd2 (.inl (lookup_relabel I.ok.kind O.loc2 (by intro z; cases z))) (.inr (lookup_relabel I.ok.kind O.loc2 (by intro z; cases z)))
      have tgt : PG Y (.Tuple [.Name x px, .Name x' px'] kx tp) (gTup Y.K 2 (gCons (gName 0) (gCons (gName 1) gNil))) := pg_tup hc (pgs_cons n1 (pgs_cons n2 pgs_nil))
      obtain ⟨aT, uT, vT, rfl, hT, stepT⟩ := step x5 _ y5
      refine wpAny_mono (tgt _ s5 _ H5 (.ref aT) u0 (fun σ2 H2 => σ2 = some uT :: some vT :: capV σ caps ∧ H2 = H5) I5' r5 ⟨aT, [uT, vT], rfl, hT, rfl, uT, [vT], rfl, vT, [], rfl, rfl, rfl, rfl⟩) (fun _ s6 h6 => ?_) fun _ _ z => z.elim
      obtain ⟨_, _, I6, rfl, rfl⟩ := h6
      refine wpAny_mono ((htc C fp s H).run I6 stepT) (fun b s7 h7 => ?_) fun _ _ z => z.elim
      obtain ⟨H7, I7, q7⟩ := h7
      have keepT : ∀ {σ' : St} {H' : Hp} {s' : Shared}, Inv Y ([(D, rawL us k)] ++ pinsAt fp s5.heap) σ' H' s' → tn (i + 1) s'.heap ∧ ∀ b ∈ fp, H' b = none := fun I' =>
        ⟨T.keep _ _ _ st5 fun b hb o e => (I'.pin (b, o) (List.mem_append_right _ (List.mem_append_right _ (mem_pinsAt hb e)))).1, fun b hb => by
          obtain ⟨o, e, d⟩ := T.obj _ _ st5 b hb
          exact (I'.pin (b, o) (List.mem_append_right _ (List.mem_append_right _ (mem_pinsAt hb e)))).2.1⟩
      cases b with
      | false =>
        rw [if_neg Bool.false_ne_true] at q7
        rw [if_neg Bool.false_ne_true]
        obtain ⟨m', hm, w7⟩ := q7
        obtain ⟨gD, nD⟩ := pinD I7
        obtain ⟨k1, k2⟩ := keepT I7
        exact ⟨m', hm, i + 1, some uT, some vT, H7, ys, us, k, I7.pins_of (fun p hp => nomatch hp), k1, k2, gD, nD, rv, w7⟩
      | true =>
        rw [if_pos rfl] at q7
        rw [if_pos rfl]
        refine wpAny_mono (hte C fp s H _ s7 _ H7 _ I7 q7) (fun u8 s8 h8 => ?_) fun _ _ z => z.elim
        obtain ⟨y8, H8, I8, r8, m', hm, w8⟩ := h8
        obtain ⟨gD, nD⟩ := pinD I8
        obtain ⟨k1, k2⟩ := keepT I8
        refine call_meets F.slot_list_append ⟨_, gD, rfl⟩ F.entry_list_append (F.args_list_append_2 _ _) (PySem.list_append D us.toArray k u8 (by rw [List.size_toArray, ← rv.length]; omega)) ⟨gD, ?_⟩
        have q := PySem.IsL.update gD (·.push u8)
        have e1 : us.toArray.push u8 = (us ++ [u8]).toArray := by simp
        rw [e1] at q
        have I8' : Inv Y [] (some uT :: some vT :: capV σ caps) H8 s8 := I8.pins_of (fun p hp => nomatch hp)
        have I9 : Inv Y [] (some uT :: some vT :: capV σ caps) H8 { s8 with heap := s8.heap.update D (Obj.mapSeq (·.push u8)), toks := s8.toks } :=
          I8'.turned (it := D) (fun b o hb e => (Heap.get?_update_other s8.heap (Obj.mapSeq (·.push u8)) (Ne.symm hb)).trans e) nD DneC (.inr (Nat.le_of_eq hDD)) Dcell (fun p hp => nomatch hp)
        refine ⟨m', hm, i + 1, some uT, some vT, H8, ys ++ [y8], us ++ [u8], _, I9, T.keep _ _ _ k1 fun b hb o e => (Heap.get?_update_other s8.heap (Obj.mapSeq (·.push u8)) (Ne.symm (Dfp b hb))).trans e, k2, q, nD, rv.append (.cons r8 .nil), w8⟩
  exact codeAny_compStart_list (loop _ rfl) (T.self X.A 0 _ _ _ st1 (loop _ rfl))
theorem pe_comp2 {x x' : Str} {px px' tp pos : Pos} {kx : Nat} {Nc : List Str} {caps : List Nat} {scope : Scope} {iter elt : Expr} {ifs : List Expr} {wi : TI} {tc : TT} {te : TE} (O : CompOk2 X x x' Nc caps scope) (hc : X.calm = true) (hi : PI X (.Tuple [.Name x px, .Name x' px'] kx tp) iter wi)
    (htc : ∀ cl C fp s H, PIf (cxComp X Nc scope cl C fp s H) ifs tc) (hte : ∀ cl C fp s H, PE (cxComp X Nc scope cl C fp s H) elt te) (hs : ∀ x, foldedSetIterable iter X.env x = pure x := by intro _; rfl) :
    PE X (.ListComp elt [⟨(.Tuple [.Name x px, .Name x' px'] kx tp), iter, ifs, 0⟩] scope pos) (tComp2 X.K wi caps tc te) := by
  intro pins s σ H Q I h
  rw [eval_ListComp]
  obtain ⟨cl, e1, e2, e3⟩ := closure_is (scope := scope) (env := X.env) fun y hy hf => I.ok.has y.1 (.inl (O.fr y hy hf).1)
  refine wpAny_comprehension_free (use := none) rfl hs e1 O.kind O.names (thn (hi pins s σ H _ I h) fun v s1 h1 => thn h1 fun itv s2 h2 => ?_)
  obtain ⟨it, fp, tn, J, H2, e, I2, T, st2, f2, w2⟩ := h2
  subst e
  refine comp_block2 (RR := fun acc C => compPost (model X.prog X.w) X.A X.xe none (EP X pins σ Q) acc C) O hc e2 e3 (hte cl) (htc cl) I2 T st2 f2 w2 ?_
  intro D C s' m hn hq hC
  refine ⟨m, hn, fun h' hs' => ?_⟩
  obtain ⟨H', I', _, q⟩ := hq h' hs'
  exact ⟨.ref D, H', I', rfl, q⟩
theorem pe_comp2K {K : PySem.W.Frag} {x x' : Str} {px px' tp pos : Pos} {kx : Nat} {Nc : List Str} {caps : List Nat} {scope : Scope} {iter elt : Expr} {ifs : List Expr} {wi : TI} {tc : TT} {te : TE} (O : CompOk2 X x x' Nc caps scope) (hc : X.calm = true) (hi : PI X (.Tuple [.Name x px, .Name x' px'] kx tp) iter wi)
    (htc : ∀ cl C fp s H, PIf (cxComp X Nc scope cl C fp s H) ifs tc) (hte : ∀ cl C fp s H, PE (cxComp X Nc scope cl C fp s H) elt te) (hs : ∀ x, foldedSetIterable iter X.env x = pure x := by intro _; rfl) (hK : X.K = K := by rfl) :
    PE X (.ListComp elt [⟨(.Tuple [.Name x px, .Name x' px'] kx tp), iter, ifs, 0⟩] scope pos) (tComp2 K wi caps tc te) := by
  subst hK
  exact pe_comp2 O hc hi htc hte hs
theorem comp_zip {K : PySem.W.Frag} {S1 S2 : Src} {n : Nat} {caps : List Nat} {tc : TT} {te : TE} {σ : St} {H : Hp} {Q : VK} (f g : Nat → V) (Pv : Nat → List V → Hp → Prop) (h0 : Pv 0 [] H) (hl : ∀ i ys H, i ≤ n → Pv i ys H → ys.length ≤ i)
    (hz : n ≤ sizeLine) (h1 : ∀ i ys H, i < n → Pv i ys H → srcAt K H S1 i (f i)) (h2 : ∀ i ys H, i < n → Pv i ys H → srcAt K H S2 i (g i)) (hst : ∀ ys H, Pv n ys H → (Itz2 K S1 S2).stop n H)
    (hs : ∀ i ys H T, i < n → Pv i ys H → H T = none → CTurn n Pv tc te (some (f i) :: some (g i) :: capV σ caps) i ys (upd H T (.tup [f i, g i])))
    (hd : ∀ ys H p, Pv n ys H → H p = none → Q (.ref p) (upd H p (.lst ys))) : tCompW2 K caps tc te (Itz2 K S1 S2) σ H Q := by
  refine ⟨fun i m ys H => m = n - i ∧ i ≤ n ∧ Pv i ys H, ⟨n, by simp, Nat.zero_le _, h0⟩, ?_⟩
  rintro i m ys H ⟨rfl, hi, p⟩
  have hy := hl i ys H hi p
  by_cases hlt : i < n
  · refine .inr ⟨⟨⟨_, h1 i ys H hlt p⟩, _, h2 i ys H hlt p⟩, by omega, fun x H' y => ?_⟩
    obtain ⟨T, rfl, hT, e⟩ := y
    have e := e _ _ (h1 i ys H hlt p) (h2 i ys H hlt p)
    subst e
    exact ⟨T, f i, g i, rfl, SqT.of upd_same, hs i ys H T hlt p hT⟩
  · have e : i = n := by omega
    subst e
    exact .inl ⟨hst ys H p, by omega, fun p' hp => hd ys H p' p hp⟩
theorem src_tx {K : PySem.W.Frag} {H : Hp} {u : List Nat} {i : Nat} (h : i < u.length) : srcAt K H (.s (tx u)) i (.str ⟨#[u.getD i 0]⟩) :=
  ⟨u.getD i 0, by rw [tx_get, List.getElem?_eq_getElem h]; simp [List.getD, h], rfl⟩
theorem src_lst {K : PySem.W.Frag} {H : Hp} {a : Addr} {xs : List V} {i : Nat} (q : SqL K H a xs) (h : i < xs.length) : srcAt K H (.l a) i (xs.getD i .non) :=
  ⟨xs, q, by rw [List.getElem?_eq_getElem h]; simp [List.getD, h]⟩
end
open PySem PySem.Spec PyProof.Rows
section
variable {X : Cx}
def isTxt (z : Str) : Value → Bool
  | .str a _ => a.cps.toList == z.cps.toList
  | _ => false
theorem vals_str {zs : List Str} {us : List Value} (r : Vals (zs.map V.str) us) {j : Nat} {u : Value} (h : us[j]? = some u) : ∃ k t, zs[j]? = some k ∧ u = .str k t := by
  have hj := (List.getElem?_eq_some_iff.mp h).1
  have l := r.length
  rw [List.length_map] at l
  have hk : j < zs.length := by omega
  obtain ⟨u', e, q⟩ := r.get (i := j) (x := .str zs[j]) (by rw [List.getElem?_map, List.getElem?_eq_getElem hk]; rfl)
  rw [h] at e
  cases e
  obtain ⟨t, rfl⟩ := q
  exact ⟨zs[j], t, List.getElem?_eq_getElem hk, rfl⟩
def rIdxL : V → List V → Hp → VK → Prop := fun x vs H Q => ∃ (l : Addr) (zs : List Str) (z : Str) (j : Nat), x = .ref l ∧ vs = [.str z] ∧ H l = some (.lst (zs.map V.str)) ∧ zs[j]? = some z ∧ (∀ i, i < j → zs[i]? ≠ some z) ∧ zs.length ≤ 1000 ∧ Q (.int (j : Int)) H
theorem mt_idxL : MtR X "list.index" rIdxL := by
  intro pins s σ H x vs v us Q I rx rv h
  obtain ⟨l, zs, z, j, rfl, rfl, hH, hj, hno, hz, q⟩ := h
  cases rx
  obtain ⟨u, rfl, ru⟩ := rv.one
  obtain ⟨t, rfl⟩ := ru
  obtain ⟨zz, its, n, r, hl, e⟩ := I.lstM hH
  have lr := r.length
  rw [List.length_map] at lr
  have jl : j < its.length := by have := (List.getElem?_eq_some_iff.mp hj).1; omega
  have ja : j < its.toArray.size := by rw [List.size_toArray]; exact jl
  have hit : isTxt z its.toArray[j] = true := by
    obtain ⟨k', t', e1, e2⟩ := vals_str r (List.getElem?_eq_getElem jl)
    rw [hj] at e1
    cases e1
    rw [List.getElem_toArray, e2]
    exact beq_self_eq_true z.cps.toList
  have hn : ∀ m (hm : m < its.toArray.size), m < j → isTxt z its.toArray[m] = false := fun m hm hmj => by
    have ml : m < its.length := by rw [List.size_toArray] at hm; exact hm
    obtain ⟨k', t', e1, e2⟩ := vals_str r (List.getElem?_eq_getElem ml)
    have := hno m hmj
    rw [List.getElem_toArray, e2]
    show (k'.cps.toList == z.cps.toList) = false
    rw [beq_eq_false_iff_ne]
    intro ez
    have ek : k' = z := by
      cases k'; cases z
      exact congrArg Str.mk (Array.toList_inj.mp ez)
    rw [ek] at e1
    exact this e1
  have he : ∀ y, y ∈ its.toArray → MeetsSeq.EqGives y (.str z t) (isTxt z y) := fun y hy => by
    have hy : y ∈ its := by simpa using hy
    obtain ⟨m, hm, em⟩ := List.getElem_of_mem hy
    obtain ⟨k', t', e1, e2⟩ := vals_str r (List.getElem?_eq_getElem hm)
    rw [← em, e2]
    exact SeqRoads2.EqGives.str k' z t' t
  refine call_meets F.slot_list_index ⟨_, e, rfl⟩ F.entry_list_index (F.args_list_index_2 _ _)
    (MeetsSeq.list_index l its.toArray n (.str z t) (isTxt z) he j ja (by omega) hit hn) ⟨e, ?_⟩
  exact ⟨.int _, H, I.tok _, ⟨_, rfl⟩, q⟩
end
open PySem PySem.Spec PyProof.Rows
inductive CmpV (K : PySem.W.Frag) (H : Hp) : V → V → Bool → Prop
  | tup {a b : Addr} {xs ys : List V} : SqT K H a xs → SqT K H b ys → xs.all flatV = true → ys.all flatV = true → CmpV K H (.ref a) (.ref b) (eqL xs ys)
  | lst {a b : Addr} {xs ys : List V} : SqL K H a xs → SqL K H b ys → xs.all flatV = true → ys.all flatV = true → CmpV K H (.ref a) (.ref b) (eqL xs ys)
  | flat {x y : V} : flatV x = true → flatV y = true → CmpV K H x y (eqV x y)
theorem CmpV.is {K : PySem.W.Frag} {H : Hp} {x y : V} {b c : Bool} (h : CmpV K H x y b) (e : b = c) : CmpV K H x y c := e ▸ h
section
variable {X : Cx} {K : PySem.W.Frag} {pins : List (Addr × Obj)} {σ : St} {H : Hp} {s : Shared}
theorem rel_flat {x : V} {a : Addr} (h : flatV x = true) (r : RelV x (.ref a)) : False := by
  cases x with
  | non => cases r
  | bl b => cases r
  | int i => obtain ⟨t, e⟩ := r; cases e
  | str z => obtain ⟨t, e⟩ := r; cases e
  | ref a => cases h
  | byt b => cases h
  | flt b => cases h
  | ty n => cases h
theorem CmpV.uniq (I : Inv X pins σ H s) {x y : V} {b c : Bool} (h : CmpV X.K H x y b) (h' : CmpV X.K H x y c) : b = c := by
  cases h with
  | tup h1 h2 f1 f2 =>
    cases h' with
    | tup g1 g2 _ _ => rw [I.tuple_inj h1 g1, I.tuple_inj h2 g2]
    | lst g1 g2 _ _ =>
      obtain ⟨_, _, ⟨o, e, c, _⟩, _⟩ := I.tuple h1
      obtain ⟨_, _, ⟨o', _, e', c', _⟩, _⟩ := I.list g1
      rw [e] at e'
      cases e'
      rw [c] at c'
      exact absurd c' (by decide)
    | flat g1 _ => cases g1
  | lst h1 h2 f1 f2 =>
    cases h' with
    | lst g1 g2 _ _ => rw [I.list_inj h1 g1, I.list_inj h2 g2]
    | tup g1 g2 _ _ =>
      obtain ⟨_, _, ⟨o, e, c, _⟩, _⟩ := I.tuple g1
      obtain ⟨_, _, ⟨o', _, e', c', _⟩, _⟩ := I.list h1
      rw [e] at e'
      cases e'
      rw [c] at c'
      exact absurd c' (by decide)
    | flat g1 _ => cases g1
  | flat f1 f2 =>
    cases h' with
    | tup _ _ _ _ => cases f1
    | lst _ _ _ _ => cases f1
    | flat _ _ => rfl
theorem items_eq {A : Around} {xs ys : List V} {its its2 : List Value} (r : Vals xs its) (r2 : Vals ys its2) (fx : xs.all flatV = true) (fy : ys.all flatV = true) (j : Nat) (h1 : j < its.toArray.size) (h2 : j < its2.toArray.size) :
    SeqAt.EqAt A s its.toArray[j] its2.toArray[j] (eqV (xs.getD j .non) (ys.getD j .non)) := by
  have l1 := r.length
  have l2 := r2.length
  have j1 : j < xs.length := by simp only [List.size_toArray] at h1; omega
  have j2 : j < ys.length := by simp only [List.size_toArray] at h2; omega
  obtain ⟨w1, e1, q1⟩ := r.get (i := j) (x := xs[j]) (by simp [j1])
  obtain ⟨w2, e2, q2⟩ := r2.get (i := j) (x := ys[j]) (by simp [j2])
  have g1 : its.toArray[j] = w1 := by
    have : its.toArray[j]? = some w1 := by simpa using e1
    exact Option.some.inj ((Array.getElem?_eq_getElem h1).symm.trans this)
  have g2 : its2.toArray[j] = w2 := by
    have : its2.toArray[j]? = some w2 := by simpa using e2
    exact Option.some.inj ((Array.getElem?_eq_getElem h2).symm.trans this)
  rw [g1, g2]
  have d1 : xs.getD j .non = xs[j] := by simp [List.getD, j1]
  have d2 : ys.getD j .non = ys[j] := by simp [List.getD, j2]
  rw [d1, d2]
  exact eqAt_V q1 q2 (List.all_eq_true.mp fx _ (List.getElem_mem j1)) (List.all_eq_true.mp fy _ (List.getElem_mem j2))
theorem eqAt_cmp {A : Around} (I : Inv X pins σ H s) {x y : V} {b : Bool} {v u : Value} (c : CmpV X.K H x y b) (rx : RelV x v) (ry : RelV y u) (hu : A.units < cLine) : SeqAt.EqAt A s v u b := by
  cases c with
  | flat f1 f2 => exact eqAt_V rx ry f1 f2
  | @tup a b xs ys h1 h2 f1 f2 =>
    cases rx
    cases ry
    by_cases e : a = b
    · subst e
      rw [I.tuple_inj h1 h2, eqL_refl f2]
      exact SeqAt.EqAt.same _
    · refine SeqAt.EqAt.of_refs e ?_
      obtain ⟨its, r, pl, _⟩ := I.tuple h1
      obtain ⟨its2, r2, pl2, _⟩ := I.tuple h2
      have l1 := r.length
      have l2 := r2.length
      have key := SeqAt.RcAt.tuples (A := A) (s := s) (e := fun j => eqV (xs.getD j .non) (ys.getD j .non)) pl pl2 hu (fun j h1 h2 => items_eq r r2 f1 f2 j h1 h2)
      have e1 : ((List.range (min its.toArray.size its2.toArray.size)).all (fun j => eqV (xs.getD j .non) (ys.getD j .non)) && its.toArray.size == its2.toArray.size) = eqL xs ys := by
        simp only [List.size_toArray]
        rw [← l1, ← l2]
        by_cases hl : xs.length = ys.length
        · rw [← hl, Nat.min_self, eqL_range hl]
          simp
        · have : (xs.length == ys.length) = false := by simp [hl]
          rw [this, Bool.and_false, eqL_len hl]
      rw [e1] at key
      exact key
  | @lst a b xs ys h1 h2 f1 f2 =>
    cases rx
    cases ry
    by_cases e : a = b
    · subst e
      rw [I.list_inj h1 h2, eqL_refl f2]
      exact SeqAt.EqAt.same _
    · refine SeqAt.EqAt.of_refs e ?_
      obtain ⟨its, r, pl, _⟩ := I.list h1
      obtain ⟨its2, r2, pl2, _⟩ := I.list h2
      have l1 := r.length
      have l2 := r2.length
      by_cases hl : xs.length = ys.length
      · have key := SeqAt.RcAt.lists (A := A) (s := s) (e := fun j => eqV (xs.getD j .non) (ys.getD j .non)) pl.isList pl2.isList (by simp only [List.size_toArray]; omega) hu (fun j h1 h2 => items_eq r r2 f1 f2 j h1 h2)
        rw [List.size_toArray, ← l1, eqL_range hl] at key
        exact key
      · have key := SeqAt.RcAt.lists_lengths (A := A) (s := s) pl.isList pl2.isList (by simp only [List.size_toArray, bne_iff_ne]; omega) hu
        rw [eqL_len hl]
        exact key
theorem rel_fun {x y : V} {u : Value} (h : RelV x u) (h' : RelV y u) (fx : flatV x = true ∨ ∃ a, x = .ref a) (fy : flatV y = true ∨ ∃ a, y = .ref a) : x = y := by
  rcases fx with fx | ⟨a, rfl⟩
  · rcases fy with fy | ⟨b, rfl⟩
    · cases x with
      | non =>
        cases h
        cases y with
        | non => rfl
        | bl b => cases h'
        | int i => obtain ⟨t, e⟩ := h'; cases e
        | str z => obtain ⟨t, e⟩ := h'; cases e
        | _ => cases fy
      | bl b =>
        cases h
        cases y with
        | non => cases h'
        | bl c => cases h'; rfl
        | int i => obtain ⟨t, e⟩ := h'; cases e
        | str z => obtain ⟨t, e⟩ := h'; cases e
        | _ => cases fy
      | int i =>
        obtain ⟨t, rfl⟩ := h
        cases y with
        | non => cases h'
        | bl c => cases h'
        | int j => obtain ⟨t, e⟩ := h'; cases e; rfl
        | str z => obtain ⟨t, e⟩ := h'; cases e
        | _ => cases fy
      | str z =>
        obtain ⟨t, rfl⟩ := h
        cases y with
        | non => cases h'
        | bl c => cases h'
        | int j => obtain ⟨t, e⟩ := h'; cases e
        | str z => obtain ⟨t, e⟩ := h'; cases e; rfl
        | _ => cases fy
      | _ => cases fx
    · cases h'
      exact absurd (rel_flat fx h) id
  · rcases fy with fy | ⟨b, rfl⟩
    · cases h
      exact absurd (rel_flat fy h') id
    · cases h
      cases h'
      rfl
theorem CmpV.left {K : PySem.W.Frag} {H : Hp} {x y : V} {b : Bool} (h : CmpV K H x y b) : flatV x = true ∨ ∃ a, x = .ref a := by
  cases h with
  | tup _ _ _ _ => exact .inr ⟨_, rfl⟩
  | lst _ _ _ _ => exact .inr ⟨_, rfl⟩
  | flat h _ => exact .inl h
theorem vals_pl {xs : List V} {us : List Value} (r : Vals xs us) {j : Nat} {u : Value} (h : us[j]? = some u) : ∃ x, xs[j]? = some x ∧ RelV x u := by
  have hj := (List.getElem?_eq_some_iff.mp h).1
  have l := r.length
  have hx : j < xs.length := by omega
  obtain ⟨u', e, q⟩ := r.get (List.getElem?_eq_getElem hx)
  rw [h] at e
  cases e
  exact ⟨xs[j], List.getElem?_eq_getElem hx, q⟩
def rInC (K : PySem.W.Frag) (no : Bool) : R2 := fun x y H Q => ∃ (q : Addr) (xs : List V), y = .ref q ∧ SqL K H q xs ∧
  (((∀ (i : Nat) (z : V), xs[i]? = some z → ∃ b, CmpV K H z x b) ∧ (∃ (i : Nat) (z : V), xs[i]? = some z ∧ CmpV K H z x true) ∧ Q (.bl (!no)) H) ∨ ((∀ (i : Nat) (z : V), xs[i]? = some z → CmpV K H z x false) ∧ Q (.bl no) H))
open Classical in
theorem in_any (hu : X.A.units + 100 < cLine) (I : Inv X pins σ H s) {x : V} {v : Value} {q : Addr} {xs : List V} {its : List Value} (rx : RelV x v) (r : Vals xs its)
    (h : ((∀ (i : Nat) (z : V), xs[i]? = some z → ∃ b, CmpV X.K H z x b) ∧ ∃ (i : Nat) (z : V), xs[i]? = some z ∧ CmpV X.K H z x true) ∨ ∀ (i : Nat) (z : V), xs[i]? = some z → CmpV X.K H z x false) :
    ∃ e : Value → Bool, (∀ y, y ∈ its.toArray → SeqAt.EqAt X.A.in1 s y v (e y)) ∧ ((∃ (i : Nat) (z : V), xs[i]? = some z ∧ CmpV X.K H z x true) → its.toArray.any e = true) ∧ ((∀ (i : Nat) (z : V), xs[i]? = some z → CmpV X.K H z x false) → its.toArray.any e = false) := by
  have hu1 : X.A.in1.units < cLine := by show X.A.units + 1 < cLine; omega
  rcases h with ⟨hall, i, z, hz, hc⟩ | hall
  · refine ⟨fun w => decide (∃ (i : Nat) (z : V), xs[i]? = some z ∧ RelV z w ∧ CmpV X.K H z x true), fun y hy => ?_, fun _ => ?_, fun hn => ?_⟩
    · have hy : y ∈ its := by simpa using hy
      obtain ⟨j, hj⟩ := List.getElem?_of_mem hy
      obtain ⟨a, ha, ra⟩ := vals_pl r hj
      obtain ⟨b, cb⟩ := hall j a ha
      have e : b = decide (∃ (i : Nat) (z : V), xs[i]? = some z ∧ RelV z y ∧ CmpV X.K H z x true) := by
        cases b with
        | true => exact (decide_eq_true ⟨j, a, ha, ra, cb⟩).symm
        | false =>
          symm
          refine decide_eq_false fun ⟨i', z', _, rz, cz⟩ => ?_
          have := rel_fun ra rz cb.left cz.left
          subst this
          exact absurd (cb.uniq I cz) Bool.false_ne_true
      show SeqAt.EqAt X.A.in1 s y v (decide _)
      rw [← e]
      exact eqAt_cmp I cb ra rx hu1
    · obtain ⟨u, hu', ru⟩ := r.get hz
      rw [show its.toArray.any (fun w => decide (∃ (i : Nat) (z : V), xs[i]? = some z ∧ RelV z w ∧ CmpV X.K H z x true)) = its.any (fun w => decide (∃ (i : Nat) (z : V), xs[i]? = some z ∧ RelV z w ∧ CmpV X.K H z x true)) by simp, List.any_eq_true]
      exact ⟨u, List.mem_of_getElem? hu', decide_eq_true ⟨i, z, hz, ru, hc⟩⟩
    · exact absurd ((hn i z hz).uniq I hc) Bool.false_ne_true
  · refine ⟨fun _ => false, fun y hy => ?_, fun ⟨i, z, hz, hc⟩ => absurd ((hall i z hz).uniq I hc) Bool.false_ne_true, fun _ => by simp⟩
    have hy : y ∈ its := by simpa using hy
    obtain ⟨j, hj⟩ := List.getElem?_of_mem hy
    obtain ⟨a, ha, ra⟩ := vals_pl r hj
    exact eqAt_cmp I (hall j a ha) ra rx hu1
theorem op_notInC (hu : X.A.units + 100 < cLine) (hK : X.K = K := by rfl) : OpR X (compareOp .NotIn) (rInC K true) := by
  subst hK
  intro pins s σ H x y v u Q I rx ry h
  obtain ⟨q, xs, rfl, hq, h⟩ := h
  cases ry
  obtain ⟨its, r, pl, hz⟩ := I.list hq
  rcases h with ⟨h1, h2, k⟩ | ⟨h1, k⟩
  · obtain ⟨e, he, a1, _⟩ := in_any (q := q) hu I rx r (.inl ⟨h1, h2⟩)
    exact SeqAt.notIn_listAt e pl.isList he ⟨.bl false, H, I, by rw [a1 h2]; rfl, k⟩
  · obtain ⟨e, he, _, a2⟩ := in_any (q := q) hu I rx r (.inr h1)
    exact SeqAt.notIn_listAt e pl.isList he ⟨.bl true, H, I, by rw [a2 h1]; rfl, k⟩
def rIdxC (K : PySem.W.Frag) : V → List V → Hp → VK → Prop := fun x vs H Q => ∃ (l : Addr) (xs : List V) (v : V) (j : Nat), x = .ref l ∧ vs = [v] ∧ H l = some (.lst xs) ∧ j < xs.length ∧ xs.length ≤ 1000 ∧
  (∀ (i : Nat) (z : V), xs[i]? = some z → ∃ b, CmpV K H z v b ∧ (i < j → b = false) ∧ (i = j → b = true)) ∧ Q (.int (j : Int)) H
open Classical in
theorem mt_idxC (hu : X.A.units + 100 < cLine) (hK : X.K = K := by rfl) : MtR X "list.index" (rIdxC K) := by
  subst hK
  intro pins s σ H x vs v us Q I rx rv h
  obtain ⟨l, xs, a, j, rfl, rfl, hH, hj, hz, hall, q⟩ := h
  cases rx
  obtain ⟨u, rfl, ru⟩ := rv.one
  obtain ⟨zz, its, n, r, hl, e⟩ := I.lstM hH
  have jl : j < its.length := by omega
  have ja : j < its.toArray.size := by rw [List.size_toArray]; exact jl
  have hu1 : X.A.in1.units < cLine := by show X.A.units + 1 < cLine; omega
  let ee : Value → Bool := fun w => decide (∃ (i : Nat) (z : V), xs[i]? = some z ∧ RelV z w ∧ CmpV X.K H z a true)
  have key : ∀ (i : Nat) (z : V) (w : Value) (b : Bool), xs[i]? = some z → RelV z w → CmpV X.K H z a b → ee w = b := fun i z w b hz rz cz => by
    cases b with
    | true => exact decide_eq_true ⟨i, z, hz, rz, cz⟩
    | false =>
      refine decide_eq_false fun ⟨i', z', _, rz', cz'⟩ => ?_
      have := rel_fun rz rz' cz.left cz'.left
      subst this
      exact absurd (cz.uniq I cz') Bool.false_ne_true
  have atI : ∀ (i : Nat) (hi : i < its.toArray.size), ∃ z b, xs[i]? = some z ∧ RelV z its.toArray[i] ∧ CmpV X.K H z a b ∧ (i < j → b = false) ∧ (i = j → b = true) := fun i hi => by
    have il : i < its.length := by rw [List.size_toArray] at hi; exact hi
    obtain ⟨z, hz, rz⟩ := vals_pl r (List.getElem?_eq_getElem il)
    obtain ⟨b, cb, b1, b2⟩ := hall i z hz
    exact ⟨z, b, hz, by rw [List.getElem_toArray]; exact rz, cb, b1, b2⟩
  have hit : ee its.toArray[j] = true := by
    obtain ⟨z, b, hz, rz, cz, _, b2⟩ := atI j ja
    rw [key j z _ b hz rz cz, b2 rfl]
  have hn : ∀ m (hm : m < its.toArray.size), m < j → ee its.toArray[m] = false := fun m hm hmj => by
    obtain ⟨z, b, hz, rz, cz, b1, _⟩ := atI m hm
    rw [key m z _ b hz rz cz, b1 hmj]
  have he : ∀ y, y ∈ its.toArray → SeqAt.EqAt X.A.in1 s y u (ee y) := fun y hy => by
    obtain ⟨m, hm, em⟩ := Array.getElem_of_mem hy
    obtain ⟨z, b, hz, rz, cz, _, _⟩ := atI m hm
    rw [em] at rz
    rw [key m z y b hz rz cz]
    exact eqAt_cmp I cz rz ru hu1
  refine call_meets F.slot_list_index ⟨_, e, rfl⟩ F.entry_list_index (F.args_list_index_2 _ _)
    (SeqAt.list_indexAt l its.toArray n none #[] u ee j ja (by omega) hit hn) ⟨e, he, ?_⟩
  exact ⟨.int _, H, I.tok _, ⟨_, rfl⟩, q⟩
end
open PySem PySem.Spec PyProof.Rows
section
variable {X : Cx}
def rCountL (K : PySem.W.Frag) : V → List V → Hp → VK → Prop := fun x vs H Q => ∃ a ns k, x = .ref a ∧ vs = [.int k] ∧ SqL K H a (vI ns) ∧ Q (.int (ns.count k : Nat)) H
end
def Ite (K : PySem.W.Frag) (a : Addr) : It where
  go := fun i H => ∃ xs x, SqL K H a xs ∧ xs[i]? = some x
  yld := fun i H x H' => ∃ T, x = .ref T ∧ H T = none ∧ ∀ xs u, SqL K H a xs → xs[i]? = some u → H' = upd H T (.tup [.int (i : Int), u])
  stop := fun i H => ∃ xs, SqL K H a xs ∧ xs.length = i
def EnSt (e it a : Addr) (i : Nat) (h : Heap) : Prop := (∃ old, IsEnum h e it i old) ∧ h.IsListIter it a i
section
variable {X : Cx} {es : List Expr} {kx : Nat} {tp : Pos}
def iEnum (K : PySem.W.Frag) (ta : TA) : TI := fun σ H R => ta σ H fun vs H1 => ∃ a, vs = [.ref a] ∧ (∃ xs, SqL K H1 a xs) ∧ R (Ite K a) H1
end
open PySem PySem.Spec PyProof.Rows
theorem ad_ne {a b T : Nat} (h : a < b) (hT : b ≤ T) : T ≠ a := by omega
abbrev EnX (h : Heap) (e it : Addr) (i : Int) (T0 : Addr) (f : Bool) (old : Value) : Prop :=
  h.get? e = some { cls := .type "enumerate", dict := none, data := .fields #[rawInt T0, .bool f, .ref it, rawInt i, .none, old], slots := #[] }
section
variable {prog : Program} {w : World} {A : Around} {E : Value → Shared → Prop} {s : Shared}
structure EL (P : Nat → Value → Prop) (St : Nat → Heap → Prop) (e it M B : Addr) (s0 : Shared) (i : Nat) (Ts : List Addr) (s : Shared) : Prop where
  st : St i s.heap
  en : (i = 0 ∧ IsEnum s.heap e it 0 .none) ∨ ∃ T0 f old, EnX s.heap e it i T0 f old ∧ Ts[0]? = some T0
  acc : ∃ c, s.heap.get? M = some { cls := .type "list", dict := none, data := .seq (Ts.map Value.ref).toArray c, slots := #[] }
  len : Ts.length = i
  tup : ∀ (j : Nat) (T : Addr), Ts[j]? = some T → B ≤ T ∧ T < s.heap.objs.size ∧ ∃ t x, P j x ∧ s.heap.get? T = some { cls := .type "tuple", data := .seq #[.int (j : Int) t, x] }
  nd : Ts.Nodup
  big : B ≤ s.heap.objs.size
  old : ∀ b o, b ≠ e → b ≠ it → b ≠ M → s0.heap.get? b = some o → s.heap.get? b = some o
  rest : ∃ h tk, s = { s0 with heap := h, toks := tk }
end
section
variable {prog : Program} {w : World} {A : Around} {E : Value → Shared → Prop} {s : Shared} {R : Result → Shared → Prop}
end
theorem vals_refsE : ∀ l : List Addr, Vals (l.map V.ref) (l.map Value.ref)
  | [] => .nil
  | a :: l => .cons rfl (vals_refsE l)
section
variable {X : Cx} {p1 p2 pos1 pos2 : Pos} {e : Expr} {te : TE}
def tListEnum (te : TE) : TE := fun σ H Q => te σ H fun x H1 => ∃ z : Str, x = .str z ∧ z.cps.size ≤ 1000 ∧ ∀ (l : Addr) (Ts : List Addr) (H' : Hp), Same H1 H' → H1 l = none → H' l = some (.lst (Ts.map V.ref)) → Ts.length = z.cps.size →
  (∀ (j : Nat) (T : Addr) (c : Nat), Ts[j]? = some T → z.cps[j]? = some c → H' T = some (.tup [.int (j : Int), .str ⟨#[c]⟩])) → Q (.ref l) H'
end
open PySem PySem.Spec PyProof.Rows
abbrev ZX (h : Heap) (z TI TO T0 : Addr) (f : Bool) : Prop :=
  h.get? z = some { cls := .type "zip", dict := none, data := .fields #[rawInt T0, .bool f, .bool false, .ref TI, .ref TO], slots := #[] }
theorem zip_nolen : typeLookup (.type "zip") "__len__" = pure none := by rw [typeLookup_type, builtinLookup_eq_fast]; kernel_rfl
theorem zip_nohint : typeLookup (.type "zip") "__length_hint__" = pure none := by rw [typeLookup_type, builtinLookup_eq_fast]; kernel_rfl
theorem by_heap {G : Prop} {R : Heap → Prop} (C : Heap → Prop) (main : (∀ h, C h → R h) → G) (rest : ∀ h, C h → R h) : G := main rest
section
variable {prog : Program} {w : World} {A : Around} {E : Value → Shared → Prop} {s : Shared}
theorem zipO_item {z TI TO i1 i2 T0 : Addr} {fp1 fp2 : List Addr} {n1 n2 k : Nat} {P1 P2 : Nat → Value → Prop} {S1 S2 : Nat → Heap → Prop} {f : Bool} {o0 : Obj} {Q : Value → Shared → Prop} (D : Apart2 z TI TO i1 i2)
    (D1 : ∀ A' : Around, A'.handled = none → Draws prog w A' i1 fp1 n1 P1 S1) (D2 : ∀ A' : Around, A'.handled = none → Draws prog w A' i2 fp2 n2 P2 S2) (hh : A.handled = none)
    (f1 : ∀ c ∈ fp1, c ≠ z ∧ c ≠ TO ∧ c ≠ i2) (f2 : ∀ c ∈ fp2, c ≠ z ∧ c ≠ TO ∧ c ≠ i1)
    (hz : ZX s.heap z TI TO T0 f) (h0 : s.heap.get? T0 = some o0) (h0z : T0 ≠ z) (hTI : IsPair s.heap TI (.ref i1) (.ref i2)) (h1 : S1 k s.heap) (h2 : S2 k s.heap) (lt1 : k < n1) (lt2 : k < n2)
    (hQ : ∀ x y h' tk, P1 k x → P2 k y → ZX h' z TI TO T0 true → S1 (k + 1) h' → S2 (k + 1) h' → IsPair h' s.heap.objs.size x y → h'.objs.size = s.heap.objs.size + 1 →
      (∀ c o, c ≠ z → c ≠ i1 → c ≠ i2 → s.heap.get? c = some o → h'.get? c = some o) → Q (.ref s.heap.objs.size) { s with heap := h', toks := tk }) :
    wpAny (model prog w) A (Builtin.«zip.__next__» ⟨[.ref z], []⟩) (fun fin s' => ∃ v, fin = .done (.ret v) ∧ Q v s') E s := by
  show wpAny _ _ (field (.ref z) 2 >>= _) _ _ _
  refine wpAny_bind (wpAny_field hz rfl (x := .bool false) rfl ?_)
  show wpAny _ _ (field (.ref z) 3 >>= _) _ _ _
  refine wpAny_bind (wpAny_field hz rfl (x := .ref TI) rfl ?_)
  refine wpAny_bind (wpAny_seqItems hTI rfl ?_)
  show wpAny _ _ (Builtin.SmallTypes.ownedTupleIsFree (.ref z) >>= _) _ _ _
  refine wpAny_bind ?_
  apply by_heap (fun h₁ => ZX h₁ z TI TO T0 true ∧ Heap.SameBut z s.heap h₁)
  · intro rest
    unfold Builtin.SmallTypes.ownedTupleIsFree
    refine wpAny_bind (wpAny_field hz rfl (x := rawInt T0) rfl ?_)
    show wpAny _ _ (loadIfAlive ((T0 : Int).toNat) >>= _) _ _ _
    rw [Int.toNat_natCast]
    refine wpAny_bind (PySem.W.kdx_alive h0 ?_)
    simp only [Option.isNone_some, Bool.false_eq_true, if_false]
    refine wpAny_bind (wpAny_field hz rfl (x := .bool f) rfl ?_)
    by_cases ef : f = true
    case neg =>
      have ef : f = false := by simpa using ef
      rw [if_pos (show (Value.bool f != Value.bool true) = true by rw [ef]; rfl)]
      refine wpAny_bind (wpAny_setField_rec hz (by simp) fun h₅ he₅ hs₅ => ?_)
      replace hs₅ : Heap.SameBut z s.heap h₅ := hs₅
      replace he₅ : ZX h₅ z TI TO T0 true := he₅
      refine wpAny_pure ?_
      simp only [Bool.false_eq_true, if_false]
      exact rest h₅ ⟨he₅, hs₅⟩
    case pos =>
      rw [if_neg (show ¬ ((Value.bool f != Value.bool true) = true) by rw [ef]; exact Bool.false_ne_true)]
      refine wpAny_pure ?_
      simp only [Bool.false_eq_true, if_false]
      exact rest s.heap ⟨ef ▸ hz, Heap.SameBut.refl _ _⟩
  rintro h₁ ⟨hz₁, hs₁⟩
  simp only [List.forIn_toArray, List.forIn_cons, List.forIn_nil]
  refine wpAny_bind (wpAny_bind (wpAny_bind (wpAny_holding ?_)))
  show wpAny _ _ (Builtin.SmallTypes.nextOf (.ref i1) >>= _) _ _ _
  refine wpAny_bind ((D1 _ hh).item k _ _ _ lt1 ((D1 A hh).frame _ _ _ h1 fun c hc o e => hs₁.extBut _ _ (f1 c hc).1 e) fun x h₂ tk₂ px h1₂ hs₂ => wpAny_pure ?_)
  have hs₂ : Heap.SameBut i1 h₁ h₂ := hs₂
  refine wpAny_pure ?_
  refine wpAny_bind (wpAny_bind (wpAny_holding ?_))
  show wpAny _ _ (Builtin.SmallTypes.nextOf (.ref i2) >>= _) _ _ _
  refine wpAny_bind ((D2 _ hh).item k _ _ _ lt2 ((D2 A hh).frame _ _ _ h2 fun c hc o e => hs₂.extBut _ _ (f2 c hc).2.2 (hs₁.extBut _ _ (f2 c hc).1 e)) fun y h₃ tk₃ py h2₃ hs₃ => wpAny_pure ?_)
  have hs₃ : Heap.SameBut i2 h₂ h₃ := hs₃
  refine wpAny_pure (wpAny_pure ?_)
  show wpAny _ _ (newTuple [x, y] >>= _) _ _ _
  refine wpAny_bind (wpAny_newTuple ?_)
  have hsz : h₃.objs.size = s.heap.objs.size := by rw [hs₃.1, hs₂.1, hs₁.1]
  have hz₃ : ZX h₃ z TI TO T0 true := hs₃.extBut _ _ D.i2z.symm (hs₂.extBut _ _ D.i1z.symm hz₁)
  have hk₃ : ∀ c o, c ≠ z → c ≠ i1 → c ≠ i2 → s.heap.get? c = some o → h₃.get? c = some o := fun c o c1 c3 c4 e => hs₃.extBut _ _ c4 (hs₂.extBut _ _ c3 (hs₁.extBut _ _ c1 e))
  have h1₃ : S1 (k + 1) h₃ := (D1 A hh).frame _ _ _ h1₂ fun c hc o e => hs₃.extBut _ _ (f1 c hc).2.2 e
  refine wpAny_pure ⟨_, rfl, ?_⟩
  have := hQ x y (h₃.push { cls := .type "tuple", data := .seq #[x, y] }) tk₃ px py (Heap.get?_push_of_some _ hz₃) ((D1 A hh).frame _ _ _ h1₃ fun c hc o e => Heap.get?_push_of_some _ e) ((D2 A hh).frame _ _ _ h2₃ fun c hc o e => Heap.get?_push_of_some _ e)
    (by rw [← hsz]; exact Heap.get?_push_size _ rfl) (by rw [Heap.size_push, hsz]) fun c o c1 c3 c4 e => Heap.get?_push_of_some _ (hk₃ c o c1 c3 c4 e)
  rw [← hsz] at this
  exact this
theorem zipO_end {z TI TO i1 i2 T0 : Addr} {fp1 fp2 : List Addr} {n k : Nat} {P1 P2 : Nat → Value → Prop} {S1 S2 : Nat → Heap → Prop} {f : Bool} {o0 : Obj} {Q : Fin → Shared → Prop} (D : Apart2 z TI TO i1 i2)
    (D1 : ∀ A' : Around, A'.handled = none → Draws prog w A' i1 fp1 n P1 S1) (hh : A.handled = none) (f1 : ∀ c ∈ fp1, c ≠ z ∧ c ≠ TO ∧ c ≠ i2)
    (hz : ZX s.heap z TI TO T0 f) (h0 : s.heap.get? T0 = some o0) (hTI : IsPair s.heap TI (.ref i1) (.ref i2)) (h1 : S1 n s.heap)
    (hE : ∀ h' e tk, (∀ c o, c ≠ z → c ≠ i1 → s.heap.get? c = some o → h'.get? c = some o) → (∃ o, h'.get? e = some o ∧ o.cls = .type "StopIteration") → E (.ref e) { s with heap := h', toks := tk }) :
    wpAny (model prog w) A (Builtin.«zip.__next__» ⟨[.ref z], []⟩) Q E s := by
  show wpAny _ _ (field (.ref z) 2 >>= _) _ _ _
  refine wpAny_bind (wpAny_field hz rfl (x := .bool false) rfl ?_)
  show wpAny _ _ (field (.ref z) 3 >>= _) _ _ _
  refine wpAny_bind (wpAny_field hz rfl (x := .ref TI) rfl ?_)
  refine wpAny_bind (wpAny_seqItems hTI rfl ?_)
  show wpAny _ _ (Builtin.SmallTypes.ownedTupleIsFree (.ref z) >>= _) _ _ _
  refine wpAny_bind ?_
  apply by_heap (fun h₁ => ZX h₁ z TI TO T0 true ∧ Heap.SameBut z s.heap h₁)
  · intro rest
    unfold Builtin.SmallTypes.ownedTupleIsFree
    refine wpAny_bind (wpAny_field hz rfl (x := rawInt T0) rfl ?_)
    show wpAny _ _ (loadIfAlive ((T0 : Int).toNat) >>= _) _ _ _
    rw [Int.toNat_natCast]
    refine wpAny_bind (PySem.W.kdx_alive h0 ?_)
    simp only [Option.isNone_some, Bool.false_eq_true, if_false]
    refine wpAny_bind (wpAny_field hz rfl (x := .bool f) rfl ?_)
    by_cases ef : f = true
    case neg =>
      have ef : f = false := by simpa using ef
      rw [if_pos (show (Value.bool f != Value.bool true) = true by rw [ef]; rfl)]
      refine wpAny_bind (wpAny_setField_rec hz (by simp) fun h₅ he₅ hs₅ => ?_)
      replace hs₅ : Heap.SameBut z s.heap h₅ := hs₅
      replace he₅ : ZX h₅ z TI TO T0 true := he₅
      refine wpAny_pure ?_
      simp only [Bool.false_eq_true, if_false]
      exact rest h₅ ⟨he₅, hs₅⟩
    case pos =>
      rw [if_neg (show ¬ ((Value.bool f != Value.bool true) = true) by rw [ef]; exact Bool.false_ne_true)]
      refine wpAny_pure ?_
      simp only [Bool.false_eq_true, if_false]
      exact rest s.heap ⟨ef ▸ hz, Heap.SameBut.refl _ _⟩
  rintro h₁ ⟨hz₁, hs₁⟩
  simp only [List.forIn_toArray, List.forIn_cons, List.forIn_nil]
  refine wpAny_bind (wpAny_bind (wpAny_bind (wpAny_holding ?_)))
  show wpAny _ _ (Builtin.SmallTypes.nextOf (.ref i1) >>= _) _ _ _
  refine wpAny_bind ((D1 _ hh).done _ _ _ ((D1 A hh).frame _ _ _ h1 fun c hc o e => hs₁.extBut _ _ (f1 c hc).1 e) fun h₂ e hs₂ he => ?_)
  have hs₂ : Heap.ExtBut i1 h₁ h₂ := hs₂
  exact hE h₂ e _ (fun c o c1 c3 x => hs₂ _ _ c3 (hs₁.extBut _ _ c1 x)) he
theorem nextO_item {z TI TO i1 i2 T0 : Addr} {fp1 fp2 : List Addr} {n1 n2 k : Nat} {P1 P2 : Nat → Value → Prop} {S1 S2 : Nat → Heap → Prop} {f : Bool} {o0 : Obj} {Q : Option Value → Shared → Prop} (D : Apart2 z TI TO i1 i2)
    (D1 : ∀ A' : Around, A'.handled = none → Draws prog w A' i1 fp1 n1 P1 S1) (D2 : ∀ A' : Around, A'.handled = none → Draws prog w A' i2 fp2 n2 P2 S2) (hh : A.handled = none)
    (f1 : ∀ c ∈ fp1, c ≠ z ∧ c ≠ TO ∧ c ≠ i2) (f2 : ∀ c ∈ fp2, c ≠ z ∧ c ≠ TO ∧ c ≠ i1)
    (hz : ZX s.heap z TI TO T0 f) (h0 : s.heap.get? T0 = some o0) (h0z : T0 ≠ z) (hTI : IsPair s.heap TI (.ref i1) (.ref i2)) (h1 : S1 k s.heap) (h2 : S2 k s.heap) (lt1 : k < n1) (lt2 : k < n2)
    (hQ : ∀ x y h' tk, P1 k x → P2 k y → ZX h' z TI TO T0 true → S1 (k + 1) h' → S2 (k + 1) h' → IsPair h' s.heap.objs.size x y → h'.objs.size = s.heap.objs.size + 1 →
      (∀ c o, c ≠ z → c ≠ i1 → c ≠ i2 → s.heap.get? c = some o → h'.get? c = some o) → Q (some (.ref s.heap.objs.size)) { s with heap := h', toks := tk }) :
    wpAny (model prog w) A (pyNext (.ref z)) Q E s := by
  have hT : s.TypeIs (.ref z) "zip" := ⟨_, hz, rfl⟩
  unfold pyNext
  exact wpAny_bind (wpAny_attempt (wpAny_callSpecial?_slot (name := Str.ofString "__next__") hT F.slot_zip_next
    (wpAny_call_entry F.slot_zip_next hT F.entry_zip_next
      (zipO_item D D1 D2 hh f1 f2 hz h0 h0z hTI h1 h2 lt1 lt2 fun x y h' tk a1 a2 a3 a4 a5 a6 a7 a8 => wpAny_pure (hQ x y h' tk a1 a2 a3 a4 a5 a6 a7 a8)) (F.args_zip_next_1 _))))
theorem nextO_end {z TI TO i1 i2 T0 : Addr} {fp1 : List Addr} {n : Nat} {P1 : Nat → Value → Prop} {S1 : Nat → Heap → Prop} {f : Bool} {o0 : Obj} {Q : Option Value → Shared → Prop} (D : Apart2 z TI TO i1 i2)
    (D1 : ∀ A' : Around, A'.handled = none → Draws prog w A' i1 fp1 n P1 S1) (hh : A.handled = none) (f1 : ∀ c ∈ fp1, c ≠ z ∧ c ≠ TO ∧ c ≠ i2)
    (hz : ZX s.heap z TI TO T0 f) (h0 : s.heap.get? T0 = some o0) (hTI : IsPair s.heap TI (.ref i1) (.ref i2)) (h1 : S1 n s.heap)
    (hQ : ∀ h' tk, (∀ c o, c ≠ z → c ≠ i1 → s.heap.get? c = some o → h'.get? c = some o) → Q none { s with heap := h', toks := tk }) : wpAny (model prog w) A (pyNext (.ref z)) Q E s := by
  have hT : s.TypeIs (.ref z) "zip" := ⟨_, hz, rfl⟩
  unfold pyNext
  refine wpAny_bind (wpAny_attempt (wpAny_callSpecial?_slot (name := Str.ofString "__next__") hT F.slot_zip_next
    (wpAny_call_entry F.slot_zip_next hT F.entry_zip_next (zipO_end (P2 := P1) (S2 := S1) (fp2 := fp1) (k := n) D D1 hh f1 hz h0 hTI h1 fun h' e tk hk he => ?_) (F.args_zip_next_1 _))))
  obtain ⟨o, ho, hc⟩ := he
  refine wpAny_bind (wpAny_isInstance (T := "StopIteration") (b := true) ⟨o, ho, hc⟩ isSubtype_stop ?_)
  exact wpAny_pure (hQ _ _ hk)
structure ZL (P1 P2 : Nat → Value → Prop) (S1 S2 : Nat → Heap → Prop) (z TI TO i1 i2 M B : Addr) (s0 : Shared) (i : Nat) (Ts : List Addr) (s : Shared) : Prop where
  st1 : S1 i s.heap
  st2 : S2 i s.heap
  zp : (i = 0 ∧ IsZip s.heap z TI TO .none ∧ ∃ a b, IsPair s.heap TO a b) ∨ ∃ T0 f, ZX s.heap z TI TO T0 f ∧ Ts[0]? = some T0
  ti : IsPair s.heap TI (.ref i1) (.ref i2)
  acc : ∃ c, s.heap.get? M = some { cls := .type "list", dict := none, data := .seq (Ts.map Value.ref).toArray c, slots := #[] }
  len : Ts.length = i
  tup : ∀ (j : Nat) (T : Addr), Ts[j]? = some T → B ≤ T ∧ T < s.heap.objs.size ∧ ∃ x y, P1 j x ∧ P2 j y ∧ s.heap.get? T = some { cls := .type "tuple", data := .seq #[x, y] }
  nd : Ts.Nodup
  big : B ≤ s.heap.objs.size
  old : ∀ b o, b ≠ z → b ≠ TO → b ≠ i1 → b ≠ i2 → b ≠ M → s0.heap.get? b = some o → s.heap.get? b = some o
  rest : ∃ h tk, s = { s0 with heap := h, toks := tk }
theorem zip_loop {z TI TO i1 i2 M B : Addr} {fp1 fp2 : List Addr} {n : Nat} {P1 P2 : Nat → Value → Prop} {S1 S2 : Nat → Heap → Prop} {s0 : Shared} {R : Result → Shared → Prop} {res : Value} (D : Apart2 z TI TO i1 i2)
    (D1 : ∀ A' : Around, A'.handled = none → Draws prog w A' i1 fp1 n P1 S1) (D2 : ∀ A' : Around, A'.handled = none → Draws prog w A' i2 fp2 n P2 S2) (hh : A.in1.handled = none)
    (f1 : ∀ c ∈ fp1, c ≠ z ∧ c ≠ TO ∧ c ≠ i2) (f2 : ∀ c ∈ fp2, c ≠ z ∧ c ≠ TO ∧ c ≠ i1) (hn : n ≤ sizeLine) (m1 : M ∉ fp1) (m2 : M ∉ fp2) (hM : M ≠ z ∧ M ≠ TI ∧ M ≠ TO ∧ M ≠ i1 ∧ M ≠ i2) (hB : z < B ∧ TI < B ∧ TO < B ∧ i1 < B ∧ i2 < B ∧ M < B) :
    ∀ (k i : Nat) (s : Shared) (Ts : List Addr), n - i = k → i ≤ n → ZL P1 P2 S1 S2 z TI TO i1 i2 M B s0 i Ts s →
    (∀ Ts s h' tk, ZL P1 P2 S1 S2 z TI TO i1 i2 M B s0 n Ts s → (∀ c o, c ≠ z → c ≠ TO → c ≠ i1 → c ≠ i2 → s.heap.get? c = some o → h'.get? c = some o) → R (.ok (.ret res)) { s with heap := h', toks := tk }) →
    codeAny (model prog w) A (.builtin "list.extend.loop" ⟨[.ref M, .ref z, res], []⟩) R s := by
  obtain ⟨hMz, hMTI, hMTO, hM1, hM2⟩ := hM
  obtain ⟨bz, bTI, bTO, b1, b2, bM⟩ := hB
  have TM : ∀ T, B ≤ T → T ≠ M ∧ T ≠ z ∧ T ≠ TI ∧ T ≠ TO ∧ T ≠ i1 ∧ T ≠ i2 := fun T h => ⟨ad_ne bM h, ad_ne bz h, ad_ne bTI h, ad_ne bTO h, ad_ne b1 h, ad_ne b2 h⟩
  intro k
  induction k with
  | zero =>
    intro i s Ts hk hi L hR
    have hin : i = n := by omega
    subst hin
    refine codeAny_builtin F.entry_extend_loop ?_
    rw [Around.under_plainId F.plain_extend_loop _]
    show wpAny _ A.in1 (pyNext (.ref z) >>= _) _ _ s
    refine wpAny_bind ?_
    rcases L.zp with ⟨h0, zp, a, b, to⟩ | ⟨T0, f, zx, ht⟩
    · exact nextD_end D D1 D2 hh f1 f2 zp L.ti to L.st1 L.st2 (.inl rfl) fun h' tk kk => wpAny_pure (hR Ts s h' tk L kk)
    · obtain ⟨_, _, x, y, _, _, q2⟩ := L.tup 0 T0 ht
      exact nextO_end D D1 hh f1 zx q2 L.ti L.st1 fun h' tk kk => wpAny_pure (hR Ts s h' tk L fun c o c1 _ c3 _ e => kk c o c1 c3 e)
  | succ k ih =>
    intro i s Ts hk hi L hR
    have hlt : i < n := by omega
    refine codeAny_builtin F.entry_extend_loop ?_
    rw [Around.under_plainId F.plain_extend_loop _]
    show wpAny _ A.in1 (pyNext (.ref z) >>= _) _ _ s
    obtain ⟨c, hMo⟩ := L.acc
    have step : ∀ x y h' tk T0 f, P1 i x → P2 i y → ZX h' z TI TO T0 f → (Ts ++ [s.heap.objs.size])[0]? = some T0 → S1 (i + 1) h' → S2 (i + 1) h' →
        h'.get? s.heap.objs.size = some { cls := .type "tuple", data := .seq #[x, y] } → h'.objs.size = s.heap.objs.size + 1 →
        (∀ b o, b ≠ z → b ≠ TO → b ≠ i1 → b ≠ i2 → s.heap.get? b = some o → h'.get? b = some o) →
        wpAny (model prog w) A.in1 (updateSeq M (·.push (.ref s.heap.objs.size)) >>= fun _ => again (.builtin "list.extend.loop" ⟨[.ref M, .ref z, res], []⟩))
          (fun f s' => match f with | .done d => R (.ok d) s' | .again k => k.quiet = true ∧ codeAny (model prog w) A k R s') (fun e s' => R (.error e) s') { s with heap := h', toks := tk } := by
      intro x y h' tk T0 f hP1 hP2 zx hT0 st1 st2 hT hsz kk
      have hM' : h'.get? M = some { cls := .type "list", dict := none, data := .seq (Ts.map Value.ref).toArray c, slots := #[] } := kk M _ hMz hMTO hM1 hM2 hMo
      refine wpAny_bind ?_
      refine wpAny_updateSeq hM' rfl (wpAny_pure ⟨plainId_quiet F.plain_extend_loop _, ih (i + 1) _ (Ts ++ [s.heap.objs.size]) (by omega) hlt ?_ hR⟩) ?_ ?_
      · have oth : ∀ b o, b ≠ M → h'.get? b = some o → (h'.update M (Obj.mapSeq (·.push (.ref s.heap.objs.size)))).get? b = some o := fun b o hb y => (Heap.get?_update_other _ _ (Ne.symm hb)).trans y
        have bs : B ≤ s.heap.objs.size := L.big
        have hMU := Heap.get?_update_self (Obj.mapSeq (·.push (.ref s.heap.objs.size))) hM' rfl
        have szU : (h'.update M (Obj.mapSeq (·.push (.ref s.heap.objs.size)))).objs.size = s.heap.objs.size + 1 := by rw [Heap.size_update, hsz]
        refine ⟨(D1 A.in1 hh).frame _ _ _ st1 fun b hb o y => oth b o (fun z => m1 (z ▸ hb)) y, (D2 A.in1 hh).frame _ _ _ st2 fun b hb o y => oth b o (fun z => m2 (z ▸ hb)) y, .inr ⟨T0, f, oth _ _ (Ne.symm hMz) zx, hT0⟩,
          oth _ _ (Ne.symm hMTI) (kk _ _ D.TIz D.TITO D.TIi1 D.TIi2 L.ti), ⟨c + 1, hMU.trans ?_⟩, by rw [List.length_append, L.len]; rfl, fun j T hj => ?_, ?_, ?_, fun b o c1 c2 c3 c4 c5 y => oth b o c5 (kk b o c1 c2 c3 c4 (L.old b o c1 c2 c3 c4 c5 y)), ?_⟩
        · show some _ = some _
          congr 1
          simp [Obj.mapSeq]
        · by_cases hji : j < Ts.length
          · rw [List.getElem?_append_left hji] at hj
            obtain ⟨c1, c2, x', y', q1, q2, q3⟩ := L.tup j T hj
            obtain ⟨n1, n2, _, n3, n4, n5⟩ := TM T c1
            exact ⟨c1, by show T < (h'.update M _).objs.size; rw [szU]; exact Nat.lt_succ_of_lt c2, x', y', q1, q2, oth T _ n1 (kk T _ n2 n3 n4 n5 q3)⟩
          · have hj2 := (List.getElem?_eq_some_iff.mp hj).1
            rw [List.length_append, List.length_singleton] at hj2
            have ej : j = Ts.length := by omega
            rw [ej, List.getElem?_append_right (Nat.le_refl _), Nat.sub_self] at hj
            cases hj
            obtain ⟨n1, _⟩ := TM s.heap.objs.size bs
            exact ⟨bs, by show s.heap.objs.size < (h'.update M _).objs.size; rw [szU]; omega, x, y, by rw [ej, L.len]; exact hP1, by rw [ej, L.len]; exact hP2, oth _ _ n1 hT⟩
        · refine List.nodup_append.mpr ⟨L.nd, by simp, fun a ha b hb => ?_⟩
          rw [List.mem_singleton.mp hb]
          obtain ⟨j, hj⟩ := List.getElem?_of_mem ha
          exact Nat.ne_of_lt (L.tup j a hj).2.1
        · show B ≤ (h'.update M _).objs.size
          rw [szU]; exact Nat.le_succ_of_le bs
        · obtain ⟨h, tk', e⟩ := L.rest
          exact ⟨_, _, by rw [e]⟩
      · rw [List.size_toArray, List.length_map, L.len]; omega
      · show ((Ts.map Value.ref).toArray.push _).size ≤ sizeLine + 1
        rw [Array.size_push, List.size_toArray, List.length_map, L.len]; omega
    refine wpAny_bind ?_
    rcases L.zp with ⟨h0, zp, a, b, to⟩ | ⟨T0, f, zx, ht⟩
    · subst h0
      have e0 : Ts = [] := List.length_eq_zero_iff.mp L.len
      refine nextD_item D D1 D2 hh f1 f2 zp L.ti to L.st1 L.st2 hlt hlt fun x y h' tk p1 p2 z1 w1 j1 j2 hT hsz kk => ?_
      exact step x y h' tk _ false p1 p2 z1 (by rw [e0]; rfl) j1 j2 hT hsz kk
    · obtain ⟨c1, c2, x, y, q1, q2, q3⟩ := L.tup 0 T0 ht
      refine nextO_item D D1 D2 hh f1 f2 zx q3 (TM T0 c1).2.1 L.ti L.st1 L.st2 hlt hlt fun x y h' tk p1 p2 z1 j1 j2 hT hsz kk => ?_
      exact step x y h' tk T0 true p1 p2 z1 (by rw [List.getElem?_append_left (List.getElem?_eq_some_iff.mp ht).1]; exact ht) j1 j2 hT hsz fun b o d1 _ d3 d4 e => kk b o d1 d3 d4 e
end
section
variable {prog : Program} {w : World} {A : Around} {E : Value → Shared → Prop} {s : Shared} {R : Result → Shared → Prop}
theorem init_zip {z TI TO i1 i2 M B : Addr} {fp1 fp2 : List Addr} {n : Nat} {P1 P2 : Nat → Value → Prop} {S1 S2 : Nat → Heap → Prop} {a b : Value} (D : Apart2 z TI TO i1 i2)
    (D1 : ∀ A' : Around, A'.handled = none → Draws prog w A' i1 fp1 n P1 S1) (D2 : ∀ A' : Around, A'.handled = none → Draws prog w A' i2 fp2 n P2 S2) (hh : A.in1.handled = none)
    (f1 : ∀ c ∈ fp1, c ≠ z ∧ c ≠ TO ∧ c ≠ i2) (f2 : ∀ c ∈ fp2, c ≠ z ∧ c ≠ TO ∧ c ≠ i1) (hn : n ≤ sizeLine) (m1 : M ∉ fp1) (m2 : M ∉ fp2) (hMM : M ≠ z ∧ M ≠ TI ∧ M ≠ TO ∧ M ≠ i1 ∧ M ≠ i2) (hBB : z < B ∧ TI < B ∧ TO < B ∧ i1 < B ∧ i2 < B ∧ M < B) (hB : B ≤ s.heap.objs.size)
    (st1 : S1 0 s.heap) (st2 : S2 0 s.heap) (zp : IsZip s.heap z TI TO .none) (ti : IsPair s.heap TI (.ref i1) (.ref i2)) (to : IsPair s.heap TO a b) (hM : s.heap.get? M = some { cls := .type "list", data := .seq #[] })
    (fin : ∀ Ts s' h' tk, ZL P1 P2 S1 S2 z TI TO i1 i2 M B s n Ts s' → (∀ c o, c ≠ z → c ≠ TO → c ≠ i1 → c ≠ i2 → s'.heap.get? c = some o → h'.get? c = some o) → R (.ok (.ret .none)) { s' with heap := h', toks := tk }) :
    wpAny (model prog w) A.in1 (Builtin.«list.__init__» ⟨[.ref M, .ref z], []⟩)
      (fun f s' => match f with | .done d => R (.ok d) s' | .again k => k.quiet = true ∧ codeAny (model prog w) A k R s') (fun e s' => R (.error e) s') s := by
  obtain ⟨hMz, hMTI, hMTO, hM1, hM2⟩ := id hMM
  show wpAny _ A.in1 (do let old ← Builtin.List.listItems (.ref M); Builtin.List.listUpdate (.ref M) (fun _ => #[]); letGo old.toList.reverse; Builtin.List.listExtendWith (.ref M) (.ref z) .none) _ _ s
  refine wpAny_bind ?_; unfold Builtin.List.listItems
  refine wpAny_bind (wpAny_seqItems hM rfl (wpAny_pure ?_))
  show wpAny _ A.in1 (updateSeq M (fun _ => #[]) >>= fun _ => letGo (#[] : Array Value).toList.reverse >>= fun _ => Builtin.List.listExtendWith (.ref M) (.ref z) .none) _ _ s
  refine wpAny_bind (wpAny_updateSeq hM rfl ?_)
  have hMu := Heap.get?_update_self (Obj.mapSeq (fun _ => (#[] : Array Value))) hM rfl
  have off : ∀ b o, b ≠ M → s.heap.get? b = some o → (s.heap.update M (Obj.mapSeq (fun _ => (#[] : Array Value)))).get? b = some o := fun b o nb e => (Heap.get?_update_other _ _ (Ne.symm nb)).trans e
  refine wpAny_bind (wpAny_letGo ?_)
  have q1 : Builtin.List.listSameRef (.ref M) (.ref z) = false := by simp [Builtin.List.listSameRef, hMz]
  have zp2 : IsZip (s.heap.update M (Obj.mapSeq (fun _ => (#[] : Array Value)))) z TI TO .none := off _ _ (Ne.symm hMz) zp
  generalize hh2 : s.heap.update M (Obj.mapSeq (fun _ => (#[] : Array Value))) = h2 at hMu off zp2 ⊢
  have sz2 : h2.objs.size = s.heap.objs.size := by rw [← hh2, Heap.size_update]
  have ty : Shared.TypeIs { s with heap := h2 } (.ref z) "zip" := ⟨_, zp2, rfl⟩
  unfold Builtin.List.listExtendWith
  refine wpAny_bind (wpAny_typeOf ty ?_)
  rw [if_neg (by rw [q1]; decide)]
  refine wpAny_bind (wpAny_pyIter_zip zp2 ?_)
  refine wpAny_bind (wpAny_holding ?_)
  unfold Builtin.List.listLengthHint
  refine wpAny_bind (wpAny_specialOf ty zip_nolen ?_)
  show wpAny _ A.in1 (specialOf (Value.ref z) (Str.ofString "__length_hint__") >>= _) _ _ _
  refine wpAny_bind (wpAny_specialOf ty zip_nohint ?_)
  refine wpAny_pure ?_
  show wpAny _ A.in1 (rule "list.extend.makes-room" >>= fun _ => Builtin.List.listTouch (.ref M) >>= fun _ =>
    again (.builtin "list.extend.loop" ⟨[.ref M, .ref z, .none], []⟩)) _ _ _
  refine wpAny_bind (wpAny_rule ?_)
  refine wpAny_bind ?_
  show wpAny _ A.in1 (updateSeq M (·.push .none) >>= fun _ => updateSeq M (·.pop)) _ _ _
  refine wpAny_bind (wpAny_updateSeq hMu rfl ?_)
  have hM3 := Heap.get?_update_self (Obj.mapSeq (·.push Value.none)) hMu rfl
  refine wpAny_updateSeq hM3 rfl ?_
  have hM4 := Heap.get?_update_self (Obj.mapSeq (·.pop)) hM3 rfl
  have oth : ∀ b o, b ≠ M → h2.get? b = some o → ((h2.update M (Obj.mapSeq (·.push Value.none))).update M (Obj.mapSeq (·.pop))).get? b = some o :=
    fun b o hb e => (Heap.get?_update_other _ _ (Ne.symm hb)).trans ((Heap.get?_update_other _ _ (Ne.symm hb)).trans e)
  refine wpAny_pure ⟨plainId_quiet F.plain_extend_loop _, zip_loop (s0 := s) D D1 D2 hh f1 f2 hn m1 m2 hMM hBB n 0 _ [] rfl (Nat.zero_le _) ?_ fin⟩
  have all : ∀ b o, b ≠ M → s.heap.get? b = some o → ((h2.update M (Obj.mapSeq (·.push Value.none))).update M (Obj.mapSeq (·.pop))).get? b = some o := fun b o hb e => oth b o hb (off b o hb e)
  refine ⟨(D1 A.in1 hh).frame _ _ _ st1 fun b hb o y => all b o (fun z => m1 (z ▸ hb)) y, (D2 A.in1 hh).frame _ _ _ st2 fun b hb o y => all b o (fun z => m2 (z ▸ hb)) y, .inl ⟨rfl, oth _ _ (Ne.symm hMz) zp2, a, b, all _ _ (Ne.symm hMTO) to⟩, all _ _ (Ne.symm hMTI) ti, ⟨_, hM4⟩, rfl, fun j T h => by simp at h, List.Pairwise.nil, ?_, fun b o c1 c2 c3 c4 c5 y => all b o c5 y, ⟨_, _, rfl⟩⟩
  show B ≤ ((h2.update M _).update M _).objs.size
  rw [Heap.size_update, Heap.size_update, sz2]
  exact hB
theorem list_zip {Q : Value → Shared → Prop} {z TI TO i1 i2 : Addr} {fp1 fp2 : List Addr} {n : Nat} {P1 P2 : Nat → Value → Prop} {S1 S2 : Nat → Heap → Prop} {a b : Value} (D : Apart2 z TI TO i1 i2)
    (D1 : ∀ A' : Around, A'.handled = none → Draws prog w A' i1 fp1 n P1 S1) (D2 : ∀ A' : Around, A'.handled = none → Draws prog w A' i2 fp2 n P2 S2) (hh : A.in1.in1.handled = none)
    (f1 : ∀ c ∈ fp1, c ≠ z ∧ c ≠ TO ∧ c ≠ i2) (f2 : ∀ c ∈ fp2, c ≠ z ∧ c ≠ TO ∧ c ≠ i1) (hn : n ≤ sizeLine) (bl1 : ∀ b ∈ fp1, b < s.heap.objs.size) (bl2 : ∀ b ∈ fp2, b < s.heap.objs.size) (bb : z < s.heap.objs.size ∧ TI < s.heap.objs.size ∧ TO < s.heap.objs.size ∧ i1 < s.heap.objs.size ∧ i2 < s.heap.objs.size)
    (st1 : S1 0 s.heap) (st2 : S2 0 s.heap) (zp : IsZip s.heap z TI TO .none) (ti : IsPair s.heap TI (.ref i1) (.ref i2)) (to : IsPair s.heap TO a b)
    (fin : ∀ Ts s' h' tk, ZL P1 P2 S1 S2 z TI TO i1 i2 s.heap.objs.size (s.heap.objs.size + 1) { s with heap := s.heap.push { cls := .type "list", data := .seq #[] } } n Ts s' → (∀ c o, c ≠ z → c ≠ TO → c ≠ i1 → c ≠ i2 → s'.heap.get? c = some o → h'.get? c = some o) → Q (.ref s.heap.objs.size) { s' with heap := h', toks := tk }) :
    wpAny (model prog w) A (call (.type "list") [.ref z]) Q E s := by
  obtain ⟨bz, bTI, bTO, b1, b2⟩ := bb
  refine callType_codes (Q₁ := fun ob s1 => ob = .ref s.heap.objs.size ∧ s1 = { s with heap := s.heap.push { cls := .type "list", data := .seq #[] } }) F.called_list (F.typeCall_list_1 _) F.entry_list_init (code_list_new _ ⟨rfl, rfl⟩) fun ob s1 h1 => ?_
  obtain ⟨rfl, rfl⟩ := h1
  have hM : (s.heap.push { cls := .type "list", data := .seq #[] }).get? s.heap.objs.size = some { cls := .type "list", data := .seq #[] } := Heap.get?_push_size _ rfl
  refine ⟨⟨_, hM, rfl⟩, F.args_list_init_2 _ _, init_zip (M := s.heap.objs.size) (B := s.heap.objs.size + 1) D D1 D2 hh f1 f2 hn (fun z => Nat.lt_irrefl _ (bl1 _ z)) (fun z => Nat.lt_irrefl _ (bl2 _ z)) ⟨Nat.ne_of_gt bz, Nat.ne_of_gt bTI, Nat.ne_of_gt bTO, Nat.ne_of_gt b1, Nat.ne_of_gt b2⟩ ⟨Nat.lt_succ_of_lt bz, Nat.lt_succ_of_lt bTI, Nat.lt_succ_of_lt bTO, Nat.lt_succ_of_lt b1, Nat.lt_succ_of_lt b2, Nat.lt_succ_self _⟩ (by show _ ≤ (s.heap.push _).objs.size; rw [Heap.size_push]; exact Nat.le_refl _)
    ((D1 A.in1.in1 hh).frame _ _ _ st1 fun b _ o y => Heap.get?_push_of_some _ y) ((D2 A.in1.in1 hh).frame _ _ _ st2 fun b _ o y => Heap.get?_push_of_some _ y) (Heap.get?_push_of_some _ zp) (Heap.get?_push_of_some _ ti) (Heap.get?_push_of_some _ to) hM (fun Ts s' h' tk L he => ⟨rfl, fin Ts s' h' tk L he⟩)⟩
end
theorem track_pairs {P : Program} {w : World} {fs ex : List Addr} {H : Hp} {h h' : Heap} {f g : Nat → V} : ∀ (Ts : List Addr), Ts.Nodup → (∀ T ∈ Ts, h.objs.size ≤ T) → (∀ b o, h.get? b = some o → h'.get? b = some o) → HOk P w H h → HOk P w H h' →
    (∀ (j : Nat) (T : Addr), Ts[j]? = some T → ∃ us, Vals [f j, g j] us ∧ h'.IsTuple T us.toArray) →
    ∃ H', Same H H' ∧ Un fs ex H H' h h' ∧ HOk P w H' h' ∧ (∀ (j : Nat) (T : Addr), Ts[j]? = some T → H' T = some (.tup [f j, g j])) ∧ ∀ b, b ∉ Ts → H' b = H b := by
  intro Ts nd big keep ok0 ok tup
  have key : ∀ k, k ≤ Ts.length → ∃ H', Same H H' ∧ Un fs ex H H' h h' ∧ HOk P w H' h' ∧ (∀ (j : Nat) (T : Addr), j < k → Ts[j]? = some T → H' T = some (.tup [f j, g j])) ∧ ∀ b, b ∉ Ts.take k → H' b = H b := by
    intro k
    induction k with
    | zero => intro _; exact ⟨H, .refl _, Un.kept keep, ok, fun j T h => by omega, fun b _ => rfl⟩
    | succ k ih =>
      intro hk
      obtain ⟨H1, s1, u1, o1, t1, n1⟩ := ih (by omega)
      have hg : Ts[k]? = some Ts[k] := List.getElem?_eq_getElem (by omega)
      have hb := big _ (List.getElem_mem (show k < Ts.length by omega))
      have nk : Ts[k] ∉ Ts.take k := fun z => by
        obtain ⟨i, hi, e⟩ := List.getElem_of_mem z
        rw [List.length_take] at hi
        rw [List.getElem_take] at e
        have := (List.pairwise_iff_getElem.mp nd) i k (by omega) (by omega) (by omega)
        exact this e
      have hn : H1 Ts[k] = none := by rw [n1 _ nk]; exact ok0.fresh hb
      obtain ⟨us, vs, it⟩ := tup k _ hg
      refine ⟨upd H1 Ts[k] (.tup [f k, g k]), s1.new hn, u1.track hb hn, o1.track hn ⟨by show 2 ≤ sizeLine; decide, us, vs, it⟩, fun j T hj e => ?_, fun b hb => ?_⟩
      · by_cases hjk : j = k
        · subst hjk
          rw [hg] at e
          cases e
          exact upd_same
        · have q := t1 j T (by omega) e
          rw [upd_ne (ne_of_none q hn)]
          exact q
      · rw [List.take_add_one, hg] at hb
        have h1 : b ∉ Ts.take k := fun z => hb (List.mem_append_left _ z)
        have h2 : b ≠ Ts[k] := fun z => hb (List.mem_append_right _ (by rw [z]; simp))
        rw [upd_ne h2, n1 b h1]
  obtain ⟨H', s, u, o, t, n⟩ := key Ts.length (Nat.le_refl _)
  refine ⟨H', s, u, o, fun j T e => t j T (List.getElem?_eq_some_iff.mp e).1 e, fun b hb => n b ?_⟩
  rw [List.take_length]
  exact hb
theorem kkL {h h' : Heap} {l : Addr} {its : Array Value} (p : h.IsList l its) (k : ∀ c o, h.get? c = some o → h'.get? c = some o) : h'.IsList l its := by
  obtain ⟨o, e, r⟩ := p
  exact ⟨o, k _ _ e, r⟩
section
variable {X : Cx} {K : PySem.W.Frag} {a b : Expr} {ta : TA} {p1 p2 pos1 pos2 : Pos}
def tListZip (K : PySem.W.Frag) (ta : TA) : TE := fun σ H Q => ta σ H fun vs H1 => ∃ (x y : Addr) (xs ys : List V), vs = [.ref x, .ref y] ∧ SqL K H1 x xs ∧ SqL K H1 y ys ∧ xs.length = ys.length ∧ xs.length ≤ 1000 ∧ ∀ (l : Addr) (Ts : List Addr) (H' : Hp), Same H1 H' → H1 l = none → H' l = some (.lst (Ts.map V.ref)) → Ts.length = xs.length →
  (∀ (j : Nat) (T : Addr) (u v : V), Ts[j]? = some T → xs[j]? = some u → ys[j]? = some v → H' T = some (.tup [u, v])) → Q (.ref l) H'
theorem pe_listZip (hg1 : Gl X "list") (hm1 : X.mg "list" = none) (hg2 : Gl X "zip") (hm2 : X.mg "zip" = none) (ha : PA X [a, b] ta) (hc : X.calm = true := by rfl) (hK : X.K = K := by rfl)
    (hs : starEach [a, b] X.env = [(false, eval a X.env), (false, eval b X.env)] := by rfl) (hs2 : starEach [b] X.env = [(false, eval b X.env)] := by rfl)
    (hs1 : starEach [.Call (.Name "zip" p2) [a, b] [] pos2] X.env = (false, eval (.Call (.Name "zip" p2) [a, b] [] pos2) X.env) :: starEach [] X.env := by rfl)
    (hq1 : (backTo pos1 (starEach [] X.env)).any (·.1) = false := by rfl) :
    PE X (.Call (.Name "list" p1) [.Call (.Name "zip" p2) [a, b] [] pos2] [] pos1) (tListZip K ta) := by
  subst hK
  intro pins s σ H Q I h
  have hsz : sizeLine = 16777216 := sizeLine_eq
  refine wpAny_Call_Name_kw (ld_blt I hg1 hm1 bt_list ?_)
  refine PyProof.Rows.callWith_type1 ?_ hs1 hq1
  rw [hs1]
  show wpAny _ _ (spliced ((false, eval (.Call (.Name "zip" p2) [a, b] [] pos2) X.env) :: backTo pos1 (starEach [] X.env))) _ _ s
  refine Calls.spliced_cons ?_
  refine Call_ (ld_blt I hg2 hm2 bt_zip (PyProof.Rows.callWith_type1 (thn (ha pos2 pins s σ H _ I h) fun us s1 ⟨vs, H1, I1, r1, q1⟩ => ?_) (by rw [hs, hs2]) (by rw [hs2]; rfl)))
  obtain ⟨x, y, xs, ys, e, hx, hy, hl, hz, q⟩ := q1
  subst e
  obtain ⟨u1, u2, rfl, ru1, ru2⟩ := r1.two
  cases ru1
  cases ru2
  obtain ⟨its1, rv1, pl1, _⟩ := I1.list hx
  obtain ⟨its2, rv2, pl2, _⟩ := I1.list hy
  have l1 := rv1.length
  have l2 := rv2.length
  have x0 : x < s1.heap.objs.size := by obtain ⟨o, e, _⟩ := pl1.isList; exact Heap.lt_size e
  have y0 : y < s1.heap.objs.size := by obtain ⟨o, e, _⟩ := pl2.isList; exact Heap.lt_size e
  refine call_zip_2 pl1.isList pl2.isList fun h1 hzz hTI hTO j1 j2 hsz1 kk => ?_
  refine Calls.spliced_nil ?_
  have hh : X.A.in1.in1.handled = none := by simp [I.ok.hd hc]
  have en : its2.toArray.size = its1.toArray.size := by rw [List.size_toArray, List.size_toArray]; omega
  have D1 : ∀ A' : Around, A'.handled = none → Draws X.prog X.w A' s1.heap.objs.size [s1.heap.objs.size, x] its1.toArray.size (fun i v => its1.toArray[i]? = some v) (fun i h => h.IsListIter s1.heap.objs.size x i ∧ h.IsList x its1.toArray) := fun A' hh' => Draws.list hh' s1.heap.objs.size x (Nat.ne_of_lt x0) its1.toArray
  have D2 : ∀ A' : Around, A'.handled = none → Draws X.prog X.w A' (s1.heap.objs.size + 1) [s1.heap.objs.size + 1, y] its1.toArray.size (fun i v => its2.toArray[i]? = some v) (fun i h => h.IsListIter (s1.heap.objs.size + 1) y i ∧ h.IsList y its2.toArray) := fun A' hh' => en ▸ Draws.list hh' (s1.heap.objs.size + 1) y (Nat.ne_of_lt (Nat.lt_succ_of_lt y0)) its2.toArray
  have ap := apart2_new s1.heap.objs.size
  refine list_zip (s := { s1 with heap := h1 }) ap D1 D2 hh (fun c hc => ?_) (fun c hc => ?_) (by rw [List.size_toArray]; omega) (fun c hc => ?_) (fun c hc => ?_) ⟨by show _ < h1.objs.size; omega, by show _ < h1.objs.size; omega, by show _ < h1.objs.size; omega, by show _ < h1.objs.size; omega, by show _ < h1.objs.size; omega⟩
    ⟨j1, kkL pl1.isList kk⟩ ⟨j2, kkL pl2.isList kk⟩ hzz hTI hTO fun Ts s' h' tk L ext => ?_
  · rcases List.mem_cons.mp hc with e | e
    · subst e; exact ⟨ap.i1z, ap.TOi1.symm, ap.i12⟩
    · rw [List.mem_singleton.mp e]; exact ⟨lne x0 4, lne x0 3, lne x0 1⟩
  · rcases List.mem_cons.mp hc with e | e
    · subst e; exact ⟨ap.i2z, ap.TOi2.symm, ap.i12.symm⟩
    · rw [List.mem_singleton.mp e]; exact ⟨lne y0 4, lne y0 3, lne y0 0⟩
  · show c < h1.objs.size
    rcases List.mem_cons.mp hc with e | e
    · rw [e]; show s1.heap.objs.size < h1.objs.size; omega
    · rw [List.mem_singleton.mp e]; exact Nat.lt_of_lt_of_le x0 (by omega)
  · show c < h1.objs.size
    rcases List.mem_cons.mp hc with e | e
    · rw [e]; show s1.heap.objs.size + 1 < h1.objs.size; omega
    · rw [List.mem_singleton.mp e]; exact Nat.lt_of_lt_of_le y0 (by omega)
  have L1 : h1.objs.size = s1.heap.objs.size + 5 := hsz1
  have old : ∀ b o, s1.heap.get? b = some o → h'.get? b = some o := fun b o y => by
    have hb : b < s1.heap.objs.size := Heap.lt_size y
    have y1 := kk b o y
    have b1 : b < h1.objs.size := Heap.lt_size y1
    exact ext b o (lne hb 4) (lne hb 3) (lne hb 0) (lne hb 1) (L.old b o (lne hb 4) (lne hb 3) (lne hb 0) (lne hb 1) (Nat.ne_of_lt b1) (Heap.get?_push_of_some _ y1))
  obtain ⟨c, hM⟩ := L.acc
  have hM : s'.heap.get? h1.objs.size = some { cls := .type "list", dict := none, data := .seq (Ts.map Value.ref).toArray c, slots := #[] } := hM
  have big : ∀ T, h1.objs.size ≤ T → T ≠ s1.heap.objs.size + 4 ∧ T ≠ s1.heap.objs.size + 3 ∧ T ≠ s1.heap.objs.size ∧ T ≠ s1.heap.objs.size + 1 := fun T h => ⟨ad_ne (show s1.heap.objs.size + 4 < h1.objs.size by omega) h, ad_ne (show s1.heap.objs.size + 3 < h1.objs.size by omega) h, ad_ne (show s1.heap.objs.size < h1.objs.size by omega) h, ad_ne (show s1.heap.objs.size + 1 < h1.objs.size by omega) h⟩
  have ex : ∀ T o, h1.objs.size ≤ T → s'.heap.get? T = some o → h'.get? T = some o := fun T o h e => ext T o (big T h).1 (big T h).2.1 (big T h).2.2.1 (big T h).2.2.2 e
  have hM' := ex _ _ (Nat.le_refl _) hM
  have tl : ∀ T ∈ Ts, h1.objs.size < T := fun T hT => by
    obtain ⟨j, hj⟩ := List.getElem?_of_mem hT
    have := (L.tup j T hj).1
    have e : h1.objs.size + 1 ≤ T := this
    omega
  have tlen : Ts.length = xs.length := by rw [L.len, List.size_toArray]; omega
  have sgn : ∀ (j : Nat) (T : Addr), Ts[j]? = some T → ∃ us, Vals [xs.getD j .non, ys.getD j .non] us ∧ h'.IsTuple T us.toArray := fun j T hj => by
    obtain ⟨_, _, u, v, hu, hv, ht⟩ := L.tup j T hj
    have nT := tl T (List.mem_of_getElem? hj)
    have jl : j < xs.length := by have := (List.getElem?_eq_some_iff.mp hj).1; omega
    have jl2 : j < ys.length := by omega
    obtain ⟨u', eu, ru⟩ := rv1.get (List.getElem?_eq_getElem jl)
    obtain ⟨v', ev, rv⟩ := rv2.get (List.getElem?_eq_getElem jl2)
    have hu : its1[j]? = some u := by simpa using hu
    have hv : its2[j]? = some v := by simpa using hv
    rw [hu] at eu
    rw [hv] at ev
    cases eu
    cases ev
    refine ⟨[u, v], ?_, ⟨_, ex T _ (Nat.le_of_lt nT) ht, rfl, _, rfl⟩⟩
    rw [List.getD_eq_getElem?_getD, List.getElem?_eq_getElem jl, List.getD_eq_getElem?_getD, List.getElem?_eq_getElem jl2]
    exact .cons ru (.cons rv .nil)
  obtain ⟨H', sm, un, ok, tt, nn⟩ := track_pairs (P := X.prog) (w := X.w) (fs := X.fs) (ex := []) (H := H1) (h := s1.heap) (h' := h') (f := fun j => xs.getD j .non) (g := fun j => ys.getD j .non) Ts L.nd (fun T hT => by have := tl T hT; omega) old I1.hok (I1.hok.kept old) sgn
  have hMn : h1.objs.size ∉ Ts := fun z => Nat.lt_irrefl _ (tl _ z)
  have hn : H' h1.objs.size = none := by rw [nn _ hMn]; exact I1.hok.fresh (by omega)
  have vs : Vals (Ts.map V.ref) (Ts.map Value.ref) := vals_refsE Ts
  have ts : (Ts.map V.ref).length ≤ sizeLine := by rw [List.length_map, tlen]; omega
  obtain ⟨hx', tkx, es⟩ := L.rest
  rw [es]
  refine ⟨.ref h1.objs.size, upd H' h1.objs.size (.lst (Ts.map V.ref)), I1.un (t' := tk) (un.track (by omega) hn) (ok.track hn ⟨ts, _, c, vs, hM'⟩), rfl, ?_⟩
  refine q h1.objs.size Ts _ (sm.new hn) (I1.hok.fresh (by omega)) upd_same tlen fun j T u v hj hu hv => ?_
  have := tt j T hj
  rw [upd_ne (ne_of_none this hn), this]
  rw [List.getD_eq_getElem?_getD, hu, List.getD_eq_getElem?_getD, hv]
  rfl
end
open PySem PySem.Spec PyProof.Rows
inductive SamV (K : PySem.W.Frag) (H : Hp) : Nat → V → V → Prop where
  | flat {n : Nat} {x : V} (h : flatV x = true) : SamV K H n x x
  | lst {n : Nat} {p q : Addr} {xs ys : List V} (hp : SqL K H p xs) (hq : SqL K H q ys) (hl : xs.length = ys.length) (hi : ∀ (i : Nat) (x y : V), xs[i]? = some x → ys[i]? = some y → SamV K H n x y) : SamV K H (n + 1) (.ref p) (.ref q)
  | tup {n : Nat} {p q : Addr} {xs ys : List V} (hp : SqT K H p xs) (hq : SqT K H q ys) (hl : xs.length = ys.length) (hi : ∀ (i : Nat) (x y : V), xs[i]? = some x → ys[i]? = some y → SamV K H n x y) : SamV K H (n + 1) (.ref p) (.ref q)
section
variable {X : Cx} {K : PySem.W.Frag}
theorem vals_get {xs : List V} {us : List Value} (r : Vals xs us) {j : Nat} (h : j < us.toArray.size) : ∃ x, xs[j]? = some x ∧ RelV x us.toArray[j] := by
  have l := r.length
  simp only [List.size_toArray] at h
  obtain ⟨u, e, q⟩ := r.get (i := j) (x := xs[j]) (by simp [show j < xs.length by omega])
  refine ⟨xs[j], by simp [show j < xs.length by omega], ?_⟩
  have : us.toArray[j] = u := by
    have h2 : us.toArray[j]? = some u := by simpa using e
    exact Option.some.inj ((Array.getElem?_eq_getElem (by simpa using h)).symm.trans h2)
  rw [this]
  exact q
theorem eqAt_sam {pins : List (Addr × Obj)} {σ : St} {H : Hp} {s : Shared} (I : Inv X pins σ H s) {n : Nat} {x y : V} (S : SamV X.K H n x y) : ∀ {A : Around} {u v : Value}, RelV x u → RelV y v → A.units + n < cLine → SeqAt.EqAt A s u v true := by
  induction S with
  | flat h =>
    intro A u v r1 r2 hu
    have := eqAt_V (A := A) (s := s) r1 r2 h h
    rw [eqV_refl h] at this
    exact this
  | lst hp hq hl hi ih =>
    intro A u v r1 r2 hu
    rename_i n p q xs ys
    cases r1
    cases r2
    by_cases e : p = q
    · subst e; exact SeqAt.EqAt.same _
    · refine SeqAt.EqAt.of_refs e ?_
      obtain ⟨its, r, pl, hz⟩ := I.list hp
      obtain ⟨its2, r2, pl2, hz2⟩ := I.list hq
      have l1 := r.length
      have l2 := r2.length
      have key := SeqAt.RcAt.lists (A := A) (s := s) (e := fun _ => true) pl.isList pl2.isList (by simp only [List.size_toArray]; omega) (by omega) (fun j h1 h2 => ?_)
      · have e1 : (List.range its.toArray.size).all (fun _ => true) = true := by simp
        rw [e1] at key
        exact key
      · obtain ⟨x, ex, qx⟩ := vals_get r h1
        obtain ⟨y, ey, qy⟩ := vals_get r2 h2
        exact ih j x y ex ey qx qy (by show A.units + 1 + n < cLine; omega)
  | tup hp hq hl hi ih =>
    intro A u v r1 r2 hu
    rename_i n p q xs ys
    cases r1
    cases r2
    by_cases e : p = q
    · subst e; exact SeqAt.EqAt.same _
    · refine SeqAt.EqAt.of_refs e ?_
      obtain ⟨its, r, pl, hz⟩ := I.tuple hp
      obtain ⟨its2, r2, pl2, hz2⟩ := I.tuple hq
      have l1 := r.length
      have l2 := r2.length
      have key := SeqAt.RcAt.tuples (A := A) (s := s) (e := fun _ => true) pl pl2 (by omega) (fun j h1 h2 => ?_)
      · have e1 : ((List.range (min its.toArray.size its2.toArray.size)).all (fun _ => true) && its.toArray.size == its2.toArray.size) = true := by
          have e2 : its.length = its2.length := by omega
          simp [e2]
        rw [e1] at key
        exact key
      · obtain ⟨x, ex, qx⟩ := vals_get r h1
        obtain ⟨y, ey, qy⟩ := vals_get r2 h2
        exact ih j x y ex ey qx qy (by show A.units + 1 + n < cLine; omega)
def SamS (K : PySem.W.Frag) (H : Hp) (p q : Addr) : Prop := ∃ xs ys : List V, SqL K H p xs ∧ SqL K H q ys ∧ xs.length = ys.length ∧ ∀ (i : Nat) (x y : V), xs[i]? = some x → ys[i]? = some y → SamV K H 50 x y
def rEqS (K : PySem.W.Frag) : R2 := fun x y H Q => ∃ p q, x = .ref p ∧ y = .ref q ∧ SamS K H p q ∧ Q (.bl true) H
def rNeS (K : PySem.W.Frag) : R2 := fun x y H Q => ∃ p q, x = .ref p ∧ y = .ref q ∧ SamS K H p q ∧ Q (.bl false) H
theorem op_neS (hu : X.A.units + 100 < cLine) (hK : X.K = K := by rfl) : OpR X (compareOp .NotEq) (rNeS K) := by
  subst hK
  intro pins s σ H x y v u Q I rx ry h
  obtain ⟨p, q, rfl, rfl, ⟨xs, ys, hx, hy, hl, hi⟩, k⟩ := h
  cases rx
  cases ry
  obtain ⟨its, r, pl, hz⟩ := I.list hx
  obtain ⟨its2, r2, pl2, hz2⟩ := I.list hy
  have l1 := r.length
  have l2 := r2.length
  refine SeqAt.RcNeAt.lists (e := fun _ => true) pl.isList pl2.isList (by simp only [List.size_toArray]; omega) (by omega) (fun j h1 h2 => ?_) _ _ _ _ ?_
  · obtain ⟨x, ex, qx⟩ := vals_get r h1
    obtain ⟨y, ey, qy⟩ := vals_get r2 h2
    exact eqAt_sam I (hi j x y ex ey) qx qy (by show X.A.units + 1 + 50 < cLine; omega)
  refine ⟨.bl false, H, I, ?_, k⟩
  show Value.bool _ = Value.bool _
  simp
end
open PySem PySem.Spec PyProof.Rows
section
variable {X : Cx} {K : PySem.W.Frag}
def rNeTI (K : PySem.W.Frag) : R2 := fun x y H Q => ∃ (p q : Addr) (js ks : List Int), x = .ref p ∧ y = .ref q ∧ SqT K H p (vI js) ∧ SqT K H q (vI ks) ∧ Q (.bl (!decide (js = ks))) H
theorem op_neTI (hu : X.A.units + 100 < cLine) (hK : X.K = K := by rfl) : OpR X (compareOp .NotEq) (rNeTI K) := by
  subst hK
  intro pins s σ H x y v u Q I rx ry h
  obtain ⟨p, q, js, ks, rfl, rfl, hx, hy, k⟩ := h
  cases rx
  cases ry
  obtain ⟨its, r, pl, hz⟩ := I.tuple hx
  obtain ⟨its2, r2, pl2, hz2⟩ := I.tuple hy
  have l1 := r.length
  have l2 := r2.length
  unfold vI at l1 l2
  rw [List.length_map] at l1 l2
  refine SeqAt.RcNeAt.tuples (e := fun j => decide (js[j]? = ks[j]?)) pl pl2 (by omega) (fun j h1 h2 => ?_) _ _ _ _ ?_
  · simp only [List.size_toArray] at h1 h2
    have j1 : j < js.length := by omega
    have j2 : j < ks.length := by omega
    obtain ⟨w1, e1, q1⟩ := r.get (i := j) (x := V.int js[j]) (by simp [vI, j1])
    obtain ⟨w2, e2, q2⟩ := r2.get (i := j) (x := V.int ks[j]) (by simp [vI, j2])
    have g1 : its.toArray[j] = w1 := by
      have : its.toArray[j]? = some w1 := by simpa using e1
      exact Option.some.inj ((Array.getElem?_eq_getElem (by simpa using h1)).symm.trans this)
    have g2 : its2.toArray[j] = w2 := by
      have : its2.toArray[j]? = some w2 := by simpa using e2
      exact Option.some.inj ((Array.getElem?_eq_getElem (by simpa using h2)).symm.trans this)
    rw [g1, g2]
    have := eqAt_V (A := X.A.in1) (s := s) q1 q2 rfl rfl
    have e3 : eqV (V.int js[j]) (V.int ks[j]) = decide (js[j]? = ks[j]?) := by
      rw [List.getElem?_eq_getElem j1, List.getElem?_eq_getElem j2]
      show (js[j] == ks[j]) = _
      by_cases h : js[j] = ks[j] <;> simp [h]
    rw [e3] at this
    exact this
  refine ⟨.bl (!decide (js = ks)), H, I, ?_, k⟩
  show Value.bool _ = Value.bool _
  congr 1
  simp only [List.size_toArray]
  rw [← l1, ← l2]
  by_cases h : js = ks
  · subst h
    simp
  · rw [decide_eq_false h]
    by_cases hl : js.length = ks.length
    · have : ¬ ((List.range (min js.length ks.length)).all (fun j => decide (js[j]? = ks[j]?)) = true) := fun z => h (by
        rw [List.all_eq_true] at z
        refine List.ext_getElem? fun j => ?_
        by_cases hj : j < js.length
        · exact of_decide_eq_true (z j (List.mem_range.mpr (by omega)))
        · rw [List.getElem?_eq_none (by omega), List.getElem?_eq_none (by omega)])
      rw [Bool.eq_false_iff.mpr this, Bool.false_and]
    · have : (js.length == ks.length) = false := by simp [hl]
      rw [this, Bool.and_false]
end
end L2
namespace Mine
open L2
def Sg (c : Nat) : Prop := c = 35 ∨ c = 46
structure Cl (cl : List (List Nat)) (m n : Nat) : Prop where
  hn : cl.length = n
  hm : ∀ t ∈ cl, t.length = m
  sg : ∀ t ∈ cl, ∀ c ∈ t, Sg c
  m1 : 1 ≤ m
  m40 : m ≤ 40
  n1 : 1 ≤ n
  n40 : n ≤ 40
def flip (c : Nat) : Nat := if c = 35 then 46 else 35
def back (cl : List (List Nat)) : List (List Nat) := cl.map fun t => t.reverse.map flip
def col (cl : List (List Nat)) (e : Nat) : List Nat := cl.map fun t => t.getD e 0
def quart (cl : List (List Nat)) (m : Nat) : List (List Nat) := (List.range m).map fun e => (col cl e).map flip
def sgn (cl : List (List Nat)) (m n : Nat) (x y : Int) : Nat := (cl.getD (y % (n : Int)).toNat []).getD (x % (m : Int)).toNat 0
def Rs (ks : List Int) : Prop := (∀ (i : Nat) (a b : Int), ks[i]? = some a → ks[i + 1]? = some b → a < b) ∧ ∀ k ∈ ks, 0 ≤ k ∧ k < 40
theorem rs_nil : Rs [] := ⟨fun i a b h => by simp at h, fun k h => by cases h⟩
theorem rs_add {ks : List Int} {z : Int} (h : Rs ks) (hz : ∀ k ∈ ks, k < z) (h0 : 0 ≤ z) (h1 : z < 40) : Rs (ks ++ [z]) := by
  refine ⟨fun i a b ha hb => ?_, fun k hk => ?_⟩
  · by_cases hi : i + 1 < ks.length
    · rw [List.getElem?_append_left (by omega)] at ha
      rw [List.getElem?_append_left hi] at hb
      exact h.1 i a b ha hb
    · by_cases hi2 : i < ks.length
      · rw [List.getElem?_append_left hi2] at ha
        rw [List.getElem?_append_right (by omega)] at hb
        have e : i + 1 - ks.length = 0 := by omega
        rw [e] at hb
        have : b = z := by simpa using hb.symm
        rw [this]
        exact hz a (List.mem_of_getElem? ha)
      · rw [List.getElem?_append_right (by omega)] at hb
        have : ([z] : List Int)[i + 1 - ks.length]? = none := by
          apply List.getElem?_eq_none
          simp
          omega
        rw [this] at hb
        cases hb
  · rcases List.mem_append.mp hk with h2 | h2
    · exact h.2 k h2
    · rw [List.mem_singleton.mp h2]; exact ⟨h0, h1⟩
structure Ft (th : List Int) (tss : List (List Int)) (tr : List Int) : Prop where
  m1 : 1 ≤ th.length
  m40 : th.length ≤ 40
  t1 : 1 ≤ tss.length
  t40 : tss.length ≤ 40
  n1 : 1 ≤ tr.length
  n40 : tr.length ≤ 40
  hth : ∀ v ∈ th, 0 ≤ v ∧ v < 40
  hti : ∀ ks ∈ tss, Rs ks
  htr : ∀ v ∈ tr, 0 ≤ v ∧ v < tss.length
def shd (th ks : List Int) : List Nat := th.map fun s => if s ∈ ks then 35 else 46
def wv (th : List Int) (tss : List (List Int)) (tr : List Int) : List (List Nat) := tr.map fun v => shd th (tss.getD v.toNat [])
section
variable {α β : Type} [DecidableEq α] [DecidableEq β]
theorem snoc_ind {γ : Type} {P : List γ → Prop} (h0 : P []) (h1 : ∀ l x, P l → P (l ++ [x])) : ∀ l, P l := by
  intro l
  have k : ∀ r : List γ, P r.reverse := by
    intro r
    induction r with
    | nil => exact h0
    | cons a r ih => rw [List.reverse_cons]; exact h1 _ _ ih
  have := k l.reverse
  rwa [List.reverse_reverse] at this
def unl (l : List α) : List α := l.foldl (fun f x => if x ∈ f then f else f ++ [x]) []
theorem unl_snoc (l : List α) (x : α) : unl (l ++ [x]) = if x ∈ unl l then unl l else unl l ++ [x] := by
  unfold unl
  rw [List.foldl_append]
  rfl
theorem mem_unl (x : α) : ∀ l : List α, x ∈ unl l ↔ x ∈ l := by
  refine snoc_ind (by simp [unl]) fun l y ih => ?_
  rw [unl_snoc]
  split
  · rename_i h
    rw [ih, List.mem_append, List.mem_singleton]
    refine ⟨.inl, fun z => z.elim id fun z => ?_⟩
    rw [z]; rw [z] at ih; exact ih.mp h
  · rw [List.mem_append, List.mem_append, ih]
theorem unl_nodup : ∀ l : List α, (unl l).Nodup := by
  refine snoc_ind (by simp [unl]) fun l y ih => ?_
  rw [unl_snoc]
  split
  · exact ih
  · rename_i h
    rw [List.nodup_append]
    exact ⟨ih, by simp, fun a ha b hb e => h (by rw [← List.mem_singleton.mp hb, ← e]; exact ha)⟩
theorem unl_le : ∀ l : List α, (unl l).length ≤ l.length := by
  refine snoc_ind (by simp [unl]) fun l y ih => ?_
  rw [unl_snoc, List.length_append]
  split
  · omega
  · rw [List.length_append]
    show _ + 1 ≤ _ + 1
    omega
theorem unl_pos {l : List α} (h : l ≠ []) : 0 < (unl l).length := by
  cases l with
  | nil => exact absurd rfl h
  | cons a r => exact List.length_pos_of_mem ((mem_unl a _).mpr List.mem_cons_self)
def ix (l : List α) (x : α) : Nat := @List.idxOf α instBEqOfDecidableEq x l
def num (l : List α) : List Nat := l.map fun x => ix (unl l) x
theorem num_len (l : List α) : (num l).length = l.length := by unfold num; rw [List.length_map]
theorem idx_lt {l : List α} {x : α} (h : x ∈ l) : ix (unl l) x < (unl l).length := List.idxOf_lt_length_iff.mpr ((mem_unl x l).mpr h)
theorem num_lt {l : List α} {z : Nat} (h : z ∈ num l) : z < (unl l).length := by
  obtain ⟨x, hx, rfl⟩ := List.mem_map.mp h
  exact idx_lt hx
theorem num_has {l : List α} {j : Nat} (h : j < (unl l).length) : j ∈ num l := by
  refine List.mem_map.mpr ⟨(unl l)[j], (mem_unl _ l).mp (List.getElem_mem h), ?_⟩
  exact (unl_nodup l).idxOf_getElem j h
theorem ix_lt {l : List α} {x : α} (h : x ∈ l) : ix l x < l.length := List.idxOf_lt_length_iff.mpr h
theorem ix_at {l : List α} {x : α} (h : x ∈ l) : l[ix l x]? = some x := by
  rw [List.getElem?_eq_getElem (ix_lt h)]
  exact congrArg some (List.getElem_idxOf (ix_lt h))
theorem ix_no {x : α} : ∀ {l : List α} {i : Nat}, i < ix l x → l[i]? ≠ some x
  | [], i, h => by simp
  | a :: l, i, h => by
    unfold ix at h
    rw [List.idxOf_cons] at h
    by_cases e : a = x
    · subst e
      simp at h
    · have : (a == x) = false := by simp [e]
      rw [this] at h
      cases i with
      | zero => exact fun z => e (Option.some.inj z)
      | succ i => exact ix_no (l := l) (i := i) (Nat.lt_of_succ_lt_succ h)
end
theorem flat_len {α β : Type} {f : α → List β} {h : Nat} : ∀ xs : List α, (∀ x ∈ xs, (f x).length = h) → (xs.flatMap f).length = xs.length * h
  | [], _ => by simp
  | x :: xs, k => by
    rw [List.flatMap_cons, List.length_append, k x List.mem_cons_self, flat_len xs fun y hy => k y (List.mem_cons_of_mem _ hy), List.length_cons, Nat.succ_mul]
    omega
def bw (bs : List Nat) (F : Nat) (ws : List Nat) : List Nat := bs.flatMap fun b => ws.map fun x => b * F + x
theorem bw_len (bs : List Nat) (F : Nat) (ws : List Nat) : (bw bs F ws).length = bs.length * ws.length := flat_len bs fun x _ => by rw [List.length_map]
theorem bw_mem {bs : List Nat} {F : Nat} {ws : List Nat} {z : Nat} : z ∈ bw bs F ws ↔ ∃ b ∈ bs, ∃ x ∈ ws, z = b * F + x := by
  unfold bw
  rw [List.mem_flatMap]
  constructor
  · rintro ⟨b, hb, h⟩
    obtain ⟨x, hx, rfl⟩ := List.mem_map.mp h
    exact ⟨b, hb, x, hx, rfl⟩
  · rintro ⟨b, hb, x, hx, rfl⟩
    exact ⟨b, hb, List.mem_map.mpr ⟨x, hx, rfl⟩⟩
theorem bw_lt {A F b x : Nat} (hb : b < A) (hx : x < F) : b * F + x < A * F := by
  have : (b + 1) * F ≤ A * F := Nat.mul_le_mul_right F hb
  rw [Nat.succ_mul] at this
  omega
theorem bw_has {α β : Type} [DecidableEq α] [DecidableEq β] {as : List α} {cs : List β} {z : Nat} (h : z < (unl as).length * (unl cs).length) : z ∈ bw (num as) (unl cs).length (num cs) := by
  have F0 : 0 < (unl cs).length := Nat.pos_of_ne_zero fun q => by rw [q, Nat.mul_zero] at h; omega
  rw [bw_mem]
  refine ⟨z / (unl cs).length, num_has (Nat.div_lt_of_lt_mul (by rw [Nat.mul_comm]; exact h)), z % (unl cs).length, num_has (Nat.mod_lt _ F0), ?_⟩
  rw [Nat.mul_comm]
  exact (Nat.div_add_mod _ _).symm
theorem bw_all {α β : Type} [DecidableEq α] [DecidableEq β] {as : List α} {cs : List β} {z : Nat} (h : z ∈ bw (num as) (unl cs).length (num cs)) : z < (unl as).length * (unl cs).length := by
  obtain ⟨b, hb, x, hx, rfl⟩ := bw_mem.mp h
  exact bw_lt (num_lt hb) (num_lt hx)
theorem bw_max {α β : Type} [DecidableEq α] [DecidableEq β] {as : List α} {cs : List β} {M : Nat} (h : M ∈ bw (num as) (unl cs).length (num cs)) (hm : ∀ z ∈ bw (num as) (unl cs).length (num cs), z ≤ M) : M + 1 = (unl as).length * (unl cs).length := by
  have h1 := bw_all h
  have := hm _ (bw_has (z := (unl as).length * (unl cs).length - 1) (by omega))
  omega
def fil (pr one other : List (List Nat)) : List (List Nat) := pr.flatMap fun u => (one.zip other).map fun q => u.flatMap fun c => if c = 35 then q.1 else q.2
section
variable {pr one other : List (List Nat)} {m n w h : Nat} (C : Cl pr m n) (C1 : Cl one w h) (C2 : Cl other w h)
include C C1 C2
theorem fil_len : (fil pr one other).length = n * h := by
  unfold fil
  rw [flat_len (h := h) pr fun x _ => by rw [List.length_map, List.length_zip, C1.hn, C2.hn, Nat.min_self], C.hn]
theorem fil_wide {u a b : List Nat} (ha : a ∈ one) (hb : b ∈ other) : (u.flatMap fun c => if c = 35 then a else b).length = u.length * w := flat_len u fun x _ => by split; exact C1.hm a ha; exact C2.hm b hb
theorem fil_cl (hm : m * w ≤ 40) (hn : n * h ≤ 40) : Cl (fil pr one other) (m * w) (n * h) := by
  have key : ∀ r ∈ fil pr one other, ∃ u ∈ pr, ∃ a ∈ one, ∃ b ∈ other, r = u.flatMap fun c => if c = 35 then a else b := fun r hr => by
    unfold fil at hr
    obtain ⟨u, hu, hr⟩ := List.mem_flatMap.mp hr
    obtain ⟨⟨a, b⟩, hq, rfl⟩ := List.mem_map.mp hr
    have z := List.of_mem_zip hq
    exact ⟨u, hu, a, z.1, b, z.2, rfl⟩
  refine ⟨fil_len C C1 C2, fun r hr => ?_, fun r hr c hc => ?_, Nat.mul_pos C.m1 C1.m1, hm, Nat.mul_pos C.n1 C1.n1, hn⟩
  · obtain ⟨u, hu, a, ha, b, hb, rfl⟩ := key r hr
    rw [fil_wide C C1 C2 ha hb, C.hm u hu]
  · obtain ⟨u, hu, a, ha, b, hb, rfl⟩ := key r hr
    obtain ⟨d, hd, hc⟩ := List.mem_flatMap.mp hc
    split at hc
    · exact C1.sg a ha c hc
    · exact C2.sg b hb c hc
end
def cols (cl : List (List Nat)) (m : Nat) : List (List Nat) := (List.range m).map (col cl)
def ends2 (one other : List (List Nat)) (w : Nat) : List (List Nat × List Nat) := (List.range w).map fun e => (col one e, col other e)
theorem cols_len (cl : List (List Nat)) (m : Nat) : (cols cl m).length = m := by unfold cols; rw [List.length_map, List.length_range]
theorem ends2_len (one other : List (List Nat)) (w : Nat) : (ends2 one other w).length = w := by unfold ends2; rw [List.length_map, List.length_range]
theorem ends2_at {one other : List (List Nat)} {w e : Nat} (h : e < w) : (ends2 one other w)[e]? = some (col one e, col other e) := by
  unfold ends2
  rw [List.getElem?_map, List.getElem?_range h]
  rfl
def nts (l : List Nat) : List Int := l.map fun (z : Nat) => (z : Int)
theorem nts_len (l : List Nat) : (nts l).length = l.length := by unfold nts; rw [List.length_map]
theorem nts_of {l : List Nat} {i : Nat} {z : Int} (h : (nts l)[i]? = some z) : ∃ y : Nat, l[i]? = some y ∧ z = (y : Int) := by
  unfold nts at h
  rw [List.getElem?_map] at h
  obtain ⟨y, hy, rfl⟩ := Option.map_eq_some_iff.mp h
  exact ⟨y, hy, rfl⟩
theorem nts_mem {l : List Nat} {z : Int} : z ∈ nts l ↔ ∃ y ∈ l, z = (y : Int) := by
  unfold nts
  rw [List.mem_map]
  exact ⟨fun ⟨y, hy, e⟩ => ⟨y, hy, e.symm⟩, fun ⟨y, hy, e⟩ => ⟨y, hy, e.symm⟩⟩
section
variable {pr one other : List (List Nat)} {m n w h : Nat} (C : Cl pr m n) (C1 : Cl one w h) (C2 : Cl other w h)
def thN (pr one other : List (List Nat)) (m w : Nat) : List Nat := bw (num (cols pr m)) (unl (ends2 one other w)).length (num (ends2 one other w))
def trN (pr one other : List (List Nat)) : List Nat := bw (num pr) (unl (one.zip other)).length (num (one.zip other))
theorem thN_len : (thN pr one other m w).length = m * w := by unfold thN; rw [bw_len, num_len, num_len, cols_len, ends2_len]
include C C1 C2
theorem trN_len : (trN pr one other).length = n * h := by unfold trN; rw [bw_len, num_len, num_len, C.hn, List.length_zip, C1.hn, C2.hn, Nat.min_self]
end
end Mine
set_option maxHeartbeats 4000000
namespace Mine
open PySem L2
def top (i : Nat) : Stmt := PySem.Challenge.pw_heddle_k52_filled.main.body.getD i (.Pass ⟨0, 0, 0, 0⟩)
abbrev s_measured : Stmt := top 8
theorem sc_measured : FnScope ["cloth"] ["cloth"] (defScope s_measured) := ⟨rfl, rfl, rfl, by decide +kernel, rfl, by decide +kernel, by decide +kernel⟩
abbrev s_measured_texts : Stmt := top 9
theorem sc_measured_texts : FnScope ["texts", "least", "signs", "ends", "text"] ["texts", "least", "signs"] (defScope s_measured_texts) := ⟨rfl, rfl, rfl, by decide +kernel, rfl, by decide +kernel, by decide +kernel⟩
abbrev s_check_pick : Stmt := top 10
theorem sc_check_pick : FnScope ["text", "ends", "signs", "sign"] ["text", "ends", "signs"] (defScope s_check_pick) := ⟨rfl, rfl, rfl, by decide +kernel, rfl, by decide +kernel, by decide +kernel⟩
abbrev s_end_signs : Stmt := top 11
theorem sc_end_signs : FnScope ["cloth", "end"] ["cloth", "end"] (defScope s_end_signs) := ⟨rfl, rfl, rfl, by decide +kernel, rfl, by decide +kernel, by decide +kernel⟩
abbrev s_least_draft : Stmt := top 15
theorem sc_least_draft : FnScope ["cloth", "size", "ends", "unlike_ends", "unlike_picks", "threading", "treading"] ["cloth"] (defScope s_least_draft) := ⟨rfl, rfl, rfl, by decide +kernel, rfl, by decide +kernel, by decide +kernel⟩
abbrev s_check_setting : Stmt := top 16
theorem sc_check_setting : FnScope ["threading", "ties", "shaft", "tie"] ["threading", "ties"] (defScope s_check_setting) := ⟨rfl, rfl, rfl, by decide +kernel, rfl, by decide +kernel, by decide +kernel⟩
abbrev s_check_count : Stmt := top 17
theorem sc_check_count : FnScope ["count"] ["count"] (defScope s_check_count) := ⟨rfl, rfl, rfl, by decide +kernel, rfl, by decide +kernel, by decide +kernel⟩
abbrev s_check_shaft : Stmt := top 18
theorem sc_check_shaft : FnScope ["shaft"] ["shaft"] (defScope s_check_shaft) := ⟨rfl, rfl, rfl, by decide +kernel, rfl, by decide +kernel, by decide +kernel⟩
abbrev s_check_tie : Stmt := top 19
theorem sc_check_tie : FnScope ["tie", "k"] ["tie"] (defScope s_check_tie) := ⟨rfl, rfl, rfl, by decide +kernel, rfl, by decide +kernel, by decide +kernel⟩
abbrev s_check_treading : Stmt := top 20
theorem sc_check_treading : FnScope ["treading", "treadles", "treadle"] ["treading", "treadles"] (defScope s_check_treading) := ⟨rfl, rfl, rfl, by decide +kernel, rfl, by decide +kernel, by decide +kernel⟩
abbrev s_shafts_over : Stmt := top 21
theorem sc_shafts_over : FnScope ["threading", "text"] ["threading", "text"] (defScope s_shafts_over) := ⟨rfl, rfl, rfl, by decide +kernel, rfl, by decide +kernel, by decide +kernel⟩
abbrev s_unlike : Stmt := top 22
theorem sc_unlike : FnScope ["things", "found", "thing"] ["things"] (defScope s_unlike) := ⟨rfl, rfl, rfl, by decide +kernel, rfl, by decide +kernel, by decide +kernel⟩
abbrev s_filled_blocks : Stmt := top 24
theorem sc_filled_blocks : FnScope ["profile", "one", "other", "size", "unit", "cloth", "text", "of_one", "of_other"] ["profile", "one", "other"] (defScope s_filled_blocks) := ⟨rfl, rfl, rfl, by decide +kernel, rfl, by decide +kernel, by decide +kernel⟩
abbrev s_block_draft : Stmt := top 25
theorem sc_block_draft : FnScope ["profile", "one", "other", "cloth", "least", "ends", "threading", "treading", "ties"] ["profile", "one", "other"] (defScope s_block_draft) := ⟨rfl, rfl, rfl, by decide +kernel, rfl, by decide +kernel, by decide +kernel⟩
abbrev s_unit_size : Stmt := top 26
theorem sc_unit_size : FnScope ["one", "other", "size"] ["one", "other"] (defScope s_unit_size) := ⟨rfl, rfl, rfl, by decide +kernel, rfl, by decide +kernel, by decide +kernel⟩
abbrev s_blockwise : Stmt := top 27
theorem sc_blockwise : FnScope ["blocks", "strands", "found", "numbers", "block"] ["blocks", "strands"] (defScope s_blockwise) := ⟨rfl, rfl, rfl, by decide +kernel, rfl, by decide +kernel, by decide +kernel⟩
abbrev s_law_numbers : Stmt := top 29
theorem sc_law_numbers : FnScope ["script", "many", "mixed", "found", "k"] ["script", "many"] (defScope s_law_numbers) := ⟨rfl, rfl, rfl, by decide +kernel, rfl, by decide +kernel, by decide +kernel⟩
abbrev s_law_subset : Stmt := top 30
theorem sc_law_subset : FnScope ["number", "found", "shaft"] ["number"] (defScope s_law_subset) := ⟨rfl, rfl, rfl, by decide +kernel, rfl, by decide +kernel, by decide +kernel⟩
abbrev s_law_cloth_by : Stmt := top 31
theorem sc_law_cloth_by : FnScope ["numbers", "ends", "picks", "high", "shafts", "cloth", "number", "lifted", "text", "shaft"] ["numbers", "ends", "picks"] (defScope s_law_cloth_by) := ⟨rfl, rfl, rfl, by decide +kernel, rfl, by decide +kernel, by decide +kernel⟩
abbrev s_law_side : Stmt := top 32
theorem sc_law_side : FnScope ["number", "whole", "way"] ["number", "whole"] (defScope s_law_side) := ⟨rfl, rfl, rfl, by decide +kernel, rfl, by decide +kernel, by decide +kernel⟩
abbrev s_law_texts_same : Stmt := top 33
theorem sc_law_texts_same : FnScope ["found", "due", "k"] ["found", "due"] (defScope s_law_texts_same) := ⟨rfl, rfl, rfl, by decide +kernel, rfl, by decide +kernel, by decide +kernel⟩
abbrev s_law_changed : Stmt := top 34
theorem sc_law_changed : FnScope ["cloth", "number", "at", "text", "end"] ["cloth", "number"] (defScope s_law_changed) := ⟨rfl, rfl, rfl, by decide +kernel, rfl, by decide +kernel, by decide +kernel⟩
abbrev s_law_built : Stmt := top 35
theorem sc_law_built : FnScope ["numbers", "wide", "high", "ends", "picks", "more", "profile", "one", "at", "other"] ["numbers"] (defScope s_law_built) := ⟨rfl, rfl, rfl, by decide +kernel, rfl, by decide +kernel, by decide +kernel⟩
abbrev s_law_due : Stmt := top 36
theorem sc_law_due : FnScope ["cloths", "changed"] ["cloths", "changed"] (defScope s_law_due) := ⟨rfl, rfl, rfl, by decide +kernel, rfl, by decide +kernel, by decide +kernel⟩
abbrev s_law_caught : Stmt := top 37
theorem sc_law_caught : FnScope ["way", "cloths", "caught", "told", "e"] ["way", "cloths"] (defScope s_law_caught) := ⟨rfl, rfl, rfl, by decide +kernel, rfl, by decide +kernel, by decide +kernel⟩
abbrev s_law_refused : Stmt := top 38
theorem sc_law_refused : FnScope ["caught", "word", "kinds"] ["caught", "word"] (defScope s_law_refused) := ⟨rfl, rfl, rfl, by decide +kernel, rfl, by decide +kernel, by decide +kernel⟩
abbrev s_law_filling : Stmt := top 39
theorem sc_law_filling : FnScope ["cloths", "due", "text", "pick", "made", "sign"] ["cloths"] (defScope s_law_filling) := ⟨rfl, rfl, rfl, by decide +kernel, rfl, by decide +kernel, by decide +kernel⟩
abbrev s_law : Stmt := top 40
theorem sc_law : FnScope ["script", "numbers", "cloths", "changed", "at", "due", "handed", "told"] ["script"] (defScope s_law) := ⟨rfl, rfl, rfl, by decide +kernel, rfl, by decide +kernel, by decide +kernel⟩
abbrev s_TooLarge_called : Stmt := (clsBody (top 2)).getD 0 (.Pass ⟨0, 0, 0, 0⟩)
theorem sc_TooLarge_called : FnScope ["self"] ["self"] (defScope s_TooLarge_called) := ⟨rfl, rfl, rfl, by decide +kernel, rfl, by decide +kernel, by decide +kernel⟩
abbrev s_NoCloth_called : Stmt := (clsBody (top 3)).getD 0 (.Pass ⟨0, 0, 0, 0⟩)
theorem sc_NoCloth_called : FnScope ["self"] ["self"] (defScope s_NoCloth_called) := ⟨rfl, rfl, rfl, by decide +kernel, rfl, by decide +kernel, by decide +kernel⟩
abbrev s_NoBlock_called : Stmt := (clsBody (top 5)).getD 0 (.Pass ⟨0, 0, 0, 0⟩)
theorem sc_NoBlock_called : FnScope ["self"] ["self"] (defScope s_NoBlock_called) := ⟨rfl, rfl, rfl, by decide +kernel, rfl, by decide +kernel, by decide +kernel⟩
abbrev s_Draft___init__ : Stmt := (clsBody (top 14)).getD 0 (.Pass ⟨0, 0, 0, 0⟩)
theorem sc_Draft___init__ : FnScope ["self", "threading", "ties", "treading"] ["self", "threading", "ties", "treading"] (defScope s_Draft___init__) := ⟨rfl, rfl, rfl, by decide +kernel, rfl, by decide +kernel, by decide +kernel⟩
set_option genInjectivity false in
structure Adr where
  e_Draft : Addr
  f_Draft___init__ : Addr
  d_Draft___init__ : FuncData
  f_measured : Addr
  d_measured : FuncData
  f_measured_texts : Addr
  d_measured_texts : FuncData
  f_check_pick : Addr
  d_check_pick : FuncData
  f_end_signs : Addr
  d_end_signs : FuncData
  f_least_draft : Addr
  d_least_draft : FuncData
  f_check_setting : Addr
  d_check_setting : FuncData
  f_check_count : Addr
  d_check_count : FuncData
  f_check_shaft : Addr
  d_check_shaft : FuncData
  f_check_tie : Addr
  d_check_tie : FuncData
  f_check_treading : Addr
  d_check_treading : FuncData
  f_shafts_over : Addr
  d_shafts_over : FuncData
  f_unlike : Addr
  d_unlike : FuncData
  f_filled_blocks : Addr
  d_filled_blocks : FuncData
  f_block_draft : Addr
  d_block_draft : FuncData
  f_unit_size : Addr
  d_unit_size : FuncData
  f_blockwise : Addr
  d_blockwise : FuncData
  f_law_numbers : Addr
  d_law_numbers : FuncData
  f_law_subset : Addr
  d_law_subset : FuncData
  f_law_cloth_by : Addr
  d_law_cloth_by : FuncData
  f_law_side : Addr
  d_law_side : FuncData
  f_law_texts_same : Addr
  d_law_texts_same : FuncData
  f_law_changed : Addr
  d_law_changed : FuncData
  f_law_built : Addr
  d_law_built : FuncData
  f_law_due : Addr
  d_law_due : FuncData
  f_law_caught : Addr
  d_law_caught : FuncData
  f_law_refused : Addr
  d_law_refused : FuncData
  f_law_filling : Addr
  d_law_filling : FuncData
  f_law : Addr
  d_law : FuncData
  e_WeaveError : Addr
  e_TooLarge : Addr
  f_TooLarge_called : Addr
  d_TooLarge_called : FuncData
  e_NoCloth : Addr
  f_NoCloth_called : Addr
  d_NoCloth_called : FuncData
  e_NoDraft : Addr
  e_NoBlock : Addr
  f_NoBlock_called : Addr
  d_NoBlock_called : FuncData
structure Txt (K : PySem.W.Frag) (mg : Str → Option Value) (t : Adr) : Prop where
  measured : Df K mg "measured" s_measured ["cloth"] t.f_measured t.d_measured
  measured_texts : Df K mg "measured_texts" s_measured_texts ["texts", "least", "signs"] t.f_measured_texts t.d_measured_texts
  check_pick : Df K mg "check_pick" s_check_pick ["text", "ends", "signs"] t.f_check_pick t.d_check_pick
  end_signs : Df K mg "end_signs" s_end_signs ["cloth", "end"] t.f_end_signs t.d_end_signs
  least_draft : Df K mg "least_draft" s_least_draft ["cloth"] t.f_least_draft t.d_least_draft
  check_setting : Df K mg "check_setting" s_check_setting ["threading", "ties"] t.f_check_setting t.d_check_setting
  check_count : Df K mg "check_count" s_check_count ["count"] t.f_check_count t.d_check_count
  check_shaft : Df K mg "check_shaft" s_check_shaft ["shaft"] t.f_check_shaft t.d_check_shaft
  check_tie : Df K mg "check_tie" s_check_tie ["tie"] t.f_check_tie t.d_check_tie
  check_treading : Df K mg "check_treading" s_check_treading ["treading", "treadles"] t.f_check_treading t.d_check_treading
  shafts_over : Df K mg "shafts_over" s_shafts_over ["threading", "text"] t.f_shafts_over t.d_shafts_over
  unlike : Df K mg "unlike" s_unlike ["things"] t.f_unlike t.d_unlike
  filled_blocks : Df K mg "filled_blocks" s_filled_blocks ["profile", "one", "other"] t.f_filled_blocks t.d_filled_blocks
  block_draft : Df K mg "block_draft" s_block_draft ["profile", "one", "other"] t.f_block_draft t.d_block_draft
  unit_size : Df K mg "unit_size" s_unit_size ["one", "other"] t.f_unit_size t.d_unit_size
  blockwise : Df K mg "blockwise" s_blockwise ["blocks", "strands"] t.f_blockwise t.d_blockwise
  law_numbers : Df K mg "_law_numbers" s_law_numbers ["script", "many"] t.f_law_numbers t.d_law_numbers
  law_subset : Df K mg "_law_subset" s_law_subset ["number"] t.f_law_subset t.d_law_subset
  law_cloth_by : Df K mg "_law_cloth_by" s_law_cloth_by ["numbers", "ends", "picks"] t.f_law_cloth_by t.d_law_cloth_by
  law_side : Df K mg "_law_side" s_law_side ["number", "whole"] t.f_law_side t.d_law_side
  law_texts_same : Df K mg "_law_texts_same" s_law_texts_same ["found", "due"] t.f_law_texts_same t.d_law_texts_same
  law_changed : Df K mg "_law_changed" s_law_changed ["cloth", "number"] t.f_law_changed t.d_law_changed
  law_built : Df K mg "_law_built" s_law_built ["numbers"] t.f_law_built t.d_law_built
  law_due : Df K mg "_law_due" s_law_due ["cloths", "changed"] t.f_law_due t.d_law_due
  law_caught : Df K mg "_law_caught" s_law_caught ["way", "cloths"] t.f_law_caught t.d_law_caught
  law_refused : Df K mg "_law_refused" s_law_refused ["caught", "word"] t.f_law_refused t.d_law_refused
  law_filling : Df K mg "_law_filling" s_law_filling ["cloths"] t.f_law_filling t.d_law_filling
  law : Df K mg "law" s_law ["script"] t.f_law t.d_law
  b_ValueError : mg "ValueError" = none
  b_isinstance : mg "isinstance" = none
  b_len : mg "len" = none
  b_list : mg "list" = none
  b_max : mg "max" = none
  b_min : mg "min" = none
  b_range : mg "range" = none
  b_set : mg "set" = none
  b_sorted : mg "sorted" = none
  b_str : mg "str" = none
  b_zip : mg "zip" = none
  c_MOST_STRANDS : ∃ tk, mg "MOST_STRANDS" = some (.int 40 tk)
  c_MOST_SHAFTS : ∃ tk, mg "MOST_SHAFTS" = some (.int 40 tk)
  k_WeaveError : mg "WeaveError" = some (.ref t.e_WeaveError)
  x_WeaveError : Exn K t.e_WeaveError
  k_TooLarge : mg "TooLarge" = some (.ref t.e_TooLarge)
  x_TooLarge : Exn K t.e_TooLarge
  m_TooLarge : Mf K "called" "TooLarge.called" s_TooLarge_called ["self"] t.e_TooLarge t.f_TooLarge_called t.d_TooLarge_called
  r_TooLarge_WeaveError : PySem.W.mroIn K t.e_TooLarge (.ref t.e_WeaveError) = some true
  r_TooLarge_TooLarge : PySem.W.mroIn K t.e_TooLarge (.ref t.e_TooLarge) = some true
  r_TooLarge_NoCloth : PySem.W.mroIn K t.e_TooLarge (.ref t.e_NoCloth) = some false
  r_TooLarge_NoDraft : PySem.W.mroIn K t.e_TooLarge (.ref t.e_NoDraft) = some false
  r_TooLarge_NoBlock : PySem.W.mroIn K t.e_TooLarge (.ref t.e_NoBlock) = some false
  k_NoCloth : mg "NoCloth" = some (.ref t.e_NoCloth)
  x_NoCloth : Exn K t.e_NoCloth
  m_NoCloth : Mf K "called" "NoCloth.called" s_NoCloth_called ["self"] t.e_NoCloth t.f_NoCloth_called t.d_NoCloth_called
  r_NoCloth_WeaveError : PySem.W.mroIn K t.e_NoCloth (.ref t.e_WeaveError) = some true
  r_NoCloth_TooLarge : PySem.W.mroIn K t.e_NoCloth (.ref t.e_TooLarge) = some false
  r_NoCloth_NoCloth : PySem.W.mroIn K t.e_NoCloth (.ref t.e_NoCloth) = some true
  r_NoCloth_NoDraft : PySem.W.mroIn K t.e_NoCloth (.ref t.e_NoDraft) = some false
  r_NoCloth_NoBlock : PySem.W.mroIn K t.e_NoCloth (.ref t.e_NoBlock) = some false
  k_NoDraft : mg "NoDraft" = some (.ref t.e_NoDraft)
  x_NoDraft : Exn K t.e_NoDraft
  k_NoBlock : mg "NoBlock" = some (.ref t.e_NoBlock)
  x_NoBlock : Exn K t.e_NoBlock
  m_NoBlock : Mf K "called" "NoBlock.called" s_NoBlock_called ["self"] t.e_NoBlock t.f_NoBlock_called t.d_NoBlock_called
  r_NoBlock_WeaveError : PySem.W.mroIn K t.e_NoBlock (.ref t.e_WeaveError) = some true
  r_NoBlock_TooLarge : PySem.W.mroIn K t.e_NoBlock (.ref t.e_TooLarge) = some false
  r_NoBlock_NoCloth : PySem.W.mroIn K t.e_NoBlock (.ref t.e_NoCloth) = some false
  r_NoBlock_NoDraft : PySem.W.mroIn K t.e_NoBlock (.ref t.e_NoDraft) = some false
  r_NoBlock_NoBlock : PySem.W.mroIn K t.e_NoBlock (.ref t.e_NoBlock) = some true
  k_Draft : mg "Draft" = some (.ref t.e_Draft)
  o_Draft : Own K t.e_Draft t.f_Draft___init__
  na_Draft_threading : NoAttr K t.e_Draft "threading"
  na_Draft_ties : NoAttr K t.e_Draft "ties"
  na_Draft_treading : NoAttr K t.e_Draft "treading"
  m_Draft___init__ : Mf K "__init__" "Draft.__init__" s_Draft___init__ ["self", "threading", "ties", "treading"] t.e_Draft t.f_Draft___init__ t.d_Draft___init__
theorem bl1 {fd : FuncData} {ps : List Str} (h : ∀ a0 : Value, bindArgs fd ⟨[a0], []⟩ = pure (ps.zip [a0])) (us : List Value) (hl : us.length = 1) : bindArgs fd ⟨us, []⟩ = pure (ps.zip us) := by
  rcases us with _ | ⟨a0, us⟩
  · cases hl
  rcases us with _ | ⟨b, us⟩
  · exact h a0
  · cases hl
theorem bl2 {fd : FuncData} {ps : List Str} (h : ∀ a0 a1 : Value, bindArgs fd ⟨[a0, a1], []⟩ = pure (ps.zip [a0, a1])) (us : List Value) (hl : us.length = 2) : bindArgs fd ⟨us, []⟩ = pure (ps.zip us) := by
  rcases us with _ | ⟨a0, us⟩
  · cases hl
  rcases us with _ | ⟨a1, us⟩
  · cases hl
  rcases us with _ | ⟨b, us⟩
  · exact h a0 a1
  · cases hl
theorem bl3 {fd : FuncData} {ps : List Str} (h : ∀ a0 a1 a2 : Value, bindArgs fd ⟨[a0, a1, a2], []⟩ = pure (ps.zip [a0, a1, a2])) (us : List Value) (hl : us.length = 3) : bindArgs fd ⟨us, []⟩ = pure (ps.zip us) := by
  rcases us with _ | ⟨a0, us⟩
  · cases hl
  rcases us with _ | ⟨a1, us⟩
  · cases hl
  rcases us with _ | ⟨a2, us⟩
  · cases hl
  rcases us with _ | ⟨b, us⟩
  · exact h a0 a1 a2
  · cases hl
theorem bl4 {fd : FuncData} {ps : List Str} (h : ∀ a0 a1 a2 a3 : Value, bindArgs fd ⟨[a0, a1, a2, a3], []⟩ = pure (ps.zip [a0, a1, a2, a3])) (us : List Value) (hl : us.length = 4) : bindArgs fd ⟨us, []⟩ = pure (ps.zip us) := by
  rcases us with _ | ⟨a0, us⟩
  · cases hl
  rcases us with _ | ⟨a1, us⟩
  · cases hl
  rcases us with _ | ⟨a2, us⟩
  · cases hl
  rcases us with _ | ⟨a3, us⟩
  · cases hl
  rcases us with _ | ⟨b, us⟩
  · exact h a0 a1 a2 a3
  · cases hl
theorem txt_mk {K : PySem.W.Frag} {h : Heap} {mg : Str → Option Value} {f_measured : Addr} {od_measured an_measured : Option Addr} {sl_measured : Array (Option Value)} {oc_measured kV_measured dc_measured pm_measured cd_measured ct_measured : Value}
    {f_measured_texts : Addr} {od_measured_texts an_measured_texts : Option Addr} {sl_measured_texts : Array (Option Value)} {oc_measured_texts kV_measured_texts dc_measured_texts pm_measured_texts cd_measured_texts ct_measured_texts : Value}
    {f_check_pick : Addr} {od_check_pick an_check_pick : Option Addr} {sl_check_pick : Array (Option Value)} {oc_check_pick kV_check_pick dc_check_pick pm_check_pick cd_check_pick ct_check_pick : Value}
    {f_end_signs : Addr} {od_end_signs an_end_signs : Option Addr} {sl_end_signs : Array (Option Value)} {oc_end_signs kV_end_signs dc_end_signs pm_end_signs cd_end_signs ct_end_signs : Value}
    {f_least_draft : Addr} {od_least_draft an_least_draft : Option Addr} {sl_least_draft : Array (Option Value)} {oc_least_draft kV_least_draft dc_least_draft pm_least_draft cd_least_draft ct_least_draft : Value}
    {f_check_setting : Addr} {od_check_setting an_check_setting : Option Addr} {sl_check_setting : Array (Option Value)} {oc_check_setting kV_check_setting dc_check_setting pm_check_setting cd_check_setting ct_check_setting : Value}
    {f_check_count : Addr} {od_check_count an_check_count : Option Addr} {sl_check_count : Array (Option Value)} {oc_check_count kV_check_count dc_check_count pm_check_count cd_check_count ct_check_count : Value}
    {f_check_shaft : Addr} {od_check_shaft an_check_shaft : Option Addr} {sl_check_shaft : Array (Option Value)} {oc_check_shaft kV_check_shaft dc_check_shaft pm_check_shaft cd_check_shaft ct_check_shaft : Value}
    {f_check_tie : Addr} {od_check_tie an_check_tie : Option Addr} {sl_check_tie : Array (Option Value)} {oc_check_tie kV_check_tie dc_check_tie pm_check_tie cd_check_tie ct_check_tie : Value}
    {f_check_treading : Addr} {od_check_treading an_check_treading : Option Addr} {sl_check_treading : Array (Option Value)} {oc_check_treading kV_check_treading dc_check_treading pm_check_treading cd_check_treading ct_check_treading : Value}
    {f_shafts_over : Addr} {od_shafts_over an_shafts_over : Option Addr} {sl_shafts_over : Array (Option Value)} {oc_shafts_over kV_shafts_over dc_shafts_over pm_shafts_over cd_shafts_over ct_shafts_over : Value}
    {f_unlike : Addr} {od_unlike an_unlike : Option Addr} {sl_unlike : Array (Option Value)} {oc_unlike kV_unlike dc_unlike pm_unlike cd_unlike ct_unlike : Value}
    {f_filled_blocks : Addr} {od_filled_blocks an_filled_blocks : Option Addr} {sl_filled_blocks : Array (Option Value)} {oc_filled_blocks kV_filled_blocks dc_filled_blocks pm_filled_blocks cd_filled_blocks ct_filled_blocks : Value}
    {f_block_draft : Addr} {od_block_draft an_block_draft : Option Addr} {sl_block_draft : Array (Option Value)} {oc_block_draft kV_block_draft dc_block_draft pm_block_draft cd_block_draft ct_block_draft : Value}
    {f_unit_size : Addr} {od_unit_size an_unit_size : Option Addr} {sl_unit_size : Array (Option Value)} {oc_unit_size kV_unit_size dc_unit_size pm_unit_size cd_unit_size ct_unit_size : Value}
    {f_blockwise : Addr} {od_blockwise an_blockwise : Option Addr} {sl_blockwise : Array (Option Value)} {oc_blockwise kV_blockwise dc_blockwise pm_blockwise cd_blockwise ct_blockwise : Value}
    {f_law_numbers : Addr} {od_law_numbers an_law_numbers : Option Addr} {sl_law_numbers : Array (Option Value)} {oc_law_numbers kV_law_numbers dc_law_numbers pm_law_numbers cd_law_numbers ct_law_numbers : Value}
    {f_law_subset : Addr} {od_law_subset an_law_subset : Option Addr} {sl_law_subset : Array (Option Value)} {oc_law_subset kV_law_subset dc_law_subset pm_law_subset cd_law_subset ct_law_subset : Value}
    {f_law_cloth_by : Addr} {od_law_cloth_by an_law_cloth_by : Option Addr} {sl_law_cloth_by : Array (Option Value)} {oc_law_cloth_by kV_law_cloth_by dc_law_cloth_by pm_law_cloth_by cd_law_cloth_by ct_law_cloth_by : Value}
    {f_law_side : Addr} {od_law_side an_law_side : Option Addr} {sl_law_side : Array (Option Value)} {oc_law_side kV_law_side dc_law_side pm_law_side cd_law_side ct_law_side : Value}
    {f_law_texts_same : Addr} {od_law_texts_same an_law_texts_same : Option Addr} {sl_law_texts_same : Array (Option Value)} {oc_law_texts_same kV_law_texts_same dc_law_texts_same pm_law_texts_same cd_law_texts_same ct_law_texts_same : Value}
    {f_law_changed : Addr} {od_law_changed an_law_changed : Option Addr} {sl_law_changed : Array (Option Value)} {oc_law_changed kV_law_changed dc_law_changed pm_law_changed cd_law_changed ct_law_changed : Value}
    {f_law_built : Addr} {od_law_built an_law_built : Option Addr} {sl_law_built : Array (Option Value)} {oc_law_built kV_law_built dc_law_built pm_law_built cd_law_built ct_law_built : Value}
    {f_law_due : Addr} {od_law_due an_law_due : Option Addr} {sl_law_due : Array (Option Value)} {oc_law_due kV_law_due dc_law_due pm_law_due cd_law_due ct_law_due : Value}
    {f_law_caught : Addr} {od_law_caught an_law_caught : Option Addr} {sl_law_caught : Array (Option Value)} {oc_law_caught kV_law_caught dc_law_caught pm_law_caught cd_law_caught ct_law_caught : Value}
    {f_law_refused : Addr} {od_law_refused an_law_refused : Option Addr} {sl_law_refused : Array (Option Value)} {oc_law_refused kV_law_refused dc_law_refused pm_law_refused cd_law_refused ct_law_refused : Value}
    {f_law_filling : Addr} {od_law_filling an_law_filling : Option Addr} {sl_law_filling : Array (Option Value)} {oc_law_filling kV_law_filling dc_law_filling pm_law_filling cd_law_filling ct_law_filling : Value}
    {f_law : Addr} {od_law an_law : Option Addr} {sl_law : Array (Option Value)} {oc_law kV_law dc_law pm_law cd_law ct_law : Value}
    {q_MOST_STRANDS : Tok}
    {q_MOST_SHAFTS : Tok}
    {e_WeaveError : Addr}
    {e_TooLarge : Addr}
    {e_NoCloth : Addr}
    {e_NoDraft : Addr}
    {e_NoBlock : Addr}
    {f_TooLarge_called : Addr} {od_TooLarge_called an_TooLarge_called : Option Addr} {sl_TooLarge_called : Array (Option Value)} {oc_TooLarge_called kV_TooLarge_called dc_TooLarge_called pm_TooLarge_called cd_TooLarge_called ct_TooLarge_called : Value}
    {f_NoCloth_called : Addr} {od_NoCloth_called an_NoCloth_called : Option Addr} {sl_NoCloth_called : Array (Option Value)} {oc_NoCloth_called kV_NoCloth_called dc_NoCloth_called pm_NoCloth_called cd_NoCloth_called ct_NoCloth_called : Value}
    {f_NoBlock_called : Addr} {od_NoBlock_called an_NoBlock_called : Option Addr} {sl_NoBlock_called : Array (Option Value)} {oc_NoBlock_called kV_NoBlock_called dc_NoBlock_called pm_NoBlock_called cd_NoBlock_called ct_NoBlock_called : Value}
    {e_Draft : Addr}
    {f_Draft___init__ : Addr} {od_Draft___init__ an_Draft___init__ : Option Addr} {sl_Draft___init__ : Array (Option Value)} {oc_Draft___init__ kV_Draft___init__ dc_Draft___init__ pm_Draft___init__ cd_Draft___init__ ct_Draft___init__ : Value}
    (X : K.In h) (G : h.Ns mainGlobals mg)
    (a_measured : PySem.W.nsIn K mainGlobals "measured" = some (some (.ref f_measured)))
    (l_measured : K.lookup f_measured = some ⟨oc_measured, od_measured, .func (PySem.W.fnOf "measured" "measured" (defArgs s_measured) (defBody s_measured) (defScope s_measured) .none kV_measured dc_measured pm_measured an_measured cd_measured ct_measured), sl_measured⟩)
    (c_measured : PySem.W.codeIn K cd_measured "measured" = true)
    (k_measured : PySem.W.keepIn K (.ref f_measured) = true)
    (a_measured_texts : PySem.W.nsIn K mainGlobals "measured_texts" = some (some (.ref f_measured_texts)))
    (l_measured_texts : K.lookup f_measured_texts = some ⟨oc_measured_texts, od_measured_texts, .func (PySem.W.fnOf "measured_texts" "measured_texts" (defArgs s_measured_texts) (defBody s_measured_texts) (defScope s_measured_texts) .none kV_measured_texts dc_measured_texts pm_measured_texts an_measured_texts cd_measured_texts ct_measured_texts), sl_measured_texts⟩)
    (c_measured_texts : PySem.W.codeIn K cd_measured_texts "measured_texts" = true)
    (k_measured_texts : PySem.W.keepIn K (.ref f_measured_texts) = true)
    (a_check_pick : PySem.W.nsIn K mainGlobals "check_pick" = some (some (.ref f_check_pick)))
    (l_check_pick : K.lookup f_check_pick = some ⟨oc_check_pick, od_check_pick, .func (PySem.W.fnOf "check_pick" "check_pick" (defArgs s_check_pick) (defBody s_check_pick) (defScope s_check_pick) .none kV_check_pick dc_check_pick pm_check_pick an_check_pick cd_check_pick ct_check_pick), sl_check_pick⟩)
    (c_check_pick : PySem.W.codeIn K cd_check_pick "check_pick" = true)
    (k_check_pick : PySem.W.keepIn K (.ref f_check_pick) = true)
    (a_end_signs : PySem.W.nsIn K mainGlobals "end_signs" = some (some (.ref f_end_signs)))
    (l_end_signs : K.lookup f_end_signs = some ⟨oc_end_signs, od_end_signs, .func (PySem.W.fnOf "end_signs" "end_signs" (defArgs s_end_signs) (defBody s_end_signs) (defScope s_end_signs) .none kV_end_signs dc_end_signs pm_end_signs an_end_signs cd_end_signs ct_end_signs), sl_end_signs⟩)
    (c_end_signs : PySem.W.codeIn K cd_end_signs "end_signs" = true)
    (k_end_signs : PySem.W.keepIn K (.ref f_end_signs) = true)
    (a_least_draft : PySem.W.nsIn K mainGlobals "least_draft" = some (some (.ref f_least_draft)))
    (l_least_draft : K.lookup f_least_draft = some ⟨oc_least_draft, od_least_draft, .func (PySem.W.fnOf "least_draft" "least_draft" (defArgs s_least_draft) (defBody s_least_draft) (defScope s_least_draft) .none kV_least_draft dc_least_draft pm_least_draft an_least_draft cd_least_draft ct_least_draft), sl_least_draft⟩)
    (c_least_draft : PySem.W.codeIn K cd_least_draft "least_draft" = true)
    (k_least_draft : PySem.W.keepIn K (.ref f_least_draft) = true)
    (a_check_setting : PySem.W.nsIn K mainGlobals "check_setting" = some (some (.ref f_check_setting)))
    (l_check_setting : K.lookup f_check_setting = some ⟨oc_check_setting, od_check_setting, .func (PySem.W.fnOf "check_setting" "check_setting" (defArgs s_check_setting) (defBody s_check_setting) (defScope s_check_setting) .none kV_check_setting dc_check_setting pm_check_setting an_check_setting cd_check_setting ct_check_setting), sl_check_setting⟩)
    (c_check_setting : PySem.W.codeIn K cd_check_setting "check_setting" = true)
    (k_check_setting : PySem.W.keepIn K (.ref f_check_setting) = true)
    (a_check_count : PySem.W.nsIn K mainGlobals "check_count" = some (some (.ref f_check_count)))
    (l_check_count : K.lookup f_check_count = some ⟨oc_check_count, od_check_count, .func (PySem.W.fnOf "check_count" "check_count" (defArgs s_check_count) (defBody s_check_count) (defScope s_check_count) .none kV_check_count dc_check_count pm_check_count an_check_count cd_check_count ct_check_count), sl_check_count⟩)
    (c_check_count : PySem.W.codeIn K cd_check_count "check_count" = true)
    (k_check_count : PySem.W.keepIn K (.ref f_check_count) = true)
    (a_check_shaft : PySem.W.nsIn K mainGlobals "check_shaft" = some (some (.ref f_check_shaft)))
    (l_check_shaft : K.lookup f_check_shaft = some ⟨oc_check_shaft, od_check_shaft, .func (PySem.W.fnOf "check_shaft" "check_shaft" (defArgs s_check_shaft) (defBody s_check_shaft) (defScope s_check_shaft) .none kV_check_shaft dc_check_shaft pm_check_shaft an_check_shaft cd_check_shaft ct_check_shaft), sl_check_shaft⟩)
    (c_check_shaft : PySem.W.codeIn K cd_check_shaft "check_shaft" = true)
    (k_check_shaft : PySem.W.keepIn K (.ref f_check_shaft) = true)
    (a_check_tie : PySem.W.nsIn K mainGlobals "check_tie" = some (some (.ref f_check_tie)))
    (l_check_tie : K.lookup f_check_tie = some ⟨oc_check_tie, od_check_tie, .func (PySem.W.fnOf "check_tie" "check_tie" (defArgs s_check_tie) (defBody s_check_tie) (defScope s_check_tie) .none kV_check_tie dc_check_tie pm_check_tie an_check_tie cd_check_tie ct_check_tie), sl_check_tie⟩)
    (c_check_tie : PySem.W.codeIn K cd_check_tie "check_tie" = true)
    (k_check_tie : PySem.W.keepIn K (.ref f_check_tie) = true)
    (a_check_treading : PySem.W.nsIn K mainGlobals "check_treading" = some (some (.ref f_check_treading)))
    (l_check_treading : K.lookup f_check_treading = some ⟨oc_check_treading, od_check_treading, .func (PySem.W.fnOf "check_treading" "check_treading" (defArgs s_check_treading) (defBody s_check_treading) (defScope s_check_treading) .none kV_check_treading dc_check_treading pm_check_treading an_check_treading cd_check_treading ct_check_treading), sl_check_treading⟩)
    (c_check_treading : PySem.W.codeIn K cd_check_treading "check_treading" = true)
    (k_check_treading : PySem.W.keepIn K (.ref f_check_treading) = true)
    (a_shafts_over : PySem.W.nsIn K mainGlobals "shafts_over" = some (some (.ref f_shafts_over)))
    (l_shafts_over : K.lookup f_shafts_over = some ⟨oc_shafts_over, od_shafts_over, .func (PySem.W.fnOf "shafts_over" "shafts_over" (defArgs s_shafts_over) (defBody s_shafts_over) (defScope s_shafts_over) .none kV_shafts_over dc_shafts_over pm_shafts_over an_shafts_over cd_shafts_over ct_shafts_over), sl_shafts_over⟩)
    (c_shafts_over : PySem.W.codeIn K cd_shafts_over "shafts_over" = true)
    (k_shafts_over : PySem.W.keepIn K (.ref f_shafts_over) = true)
    (a_unlike : PySem.W.nsIn K mainGlobals "unlike" = some (some (.ref f_unlike)))
    (l_unlike : K.lookup f_unlike = some ⟨oc_unlike, od_unlike, .func (PySem.W.fnOf "unlike" "unlike" (defArgs s_unlike) (defBody s_unlike) (defScope s_unlike) .none kV_unlike dc_unlike pm_unlike an_unlike cd_unlike ct_unlike), sl_unlike⟩)
    (c_unlike : PySem.W.codeIn K cd_unlike "unlike" = true)
    (k_unlike : PySem.W.keepIn K (.ref f_unlike) = true)
    (a_filled_blocks : PySem.W.nsIn K mainGlobals "filled_blocks" = some (some (.ref f_filled_blocks)))
    (l_filled_blocks : K.lookup f_filled_blocks = some ⟨oc_filled_blocks, od_filled_blocks, .func (PySem.W.fnOf "filled_blocks" "filled_blocks" (defArgs s_filled_blocks) (defBody s_filled_blocks) (defScope s_filled_blocks) .none kV_filled_blocks dc_filled_blocks pm_filled_blocks an_filled_blocks cd_filled_blocks ct_filled_blocks), sl_filled_blocks⟩)
    (c_filled_blocks : PySem.W.codeIn K cd_filled_blocks "filled_blocks" = true)
    (k_filled_blocks : PySem.W.keepIn K (.ref f_filled_blocks) = true)
    (a_block_draft : PySem.W.nsIn K mainGlobals "block_draft" = some (some (.ref f_block_draft)))
    (l_block_draft : K.lookup f_block_draft = some ⟨oc_block_draft, od_block_draft, .func (PySem.W.fnOf "block_draft" "block_draft" (defArgs s_block_draft) (defBody s_block_draft) (defScope s_block_draft) .none kV_block_draft dc_block_draft pm_block_draft an_block_draft cd_block_draft ct_block_draft), sl_block_draft⟩)
    (c_block_draft : PySem.W.codeIn K cd_block_draft "block_draft" = true)
    (k_block_draft : PySem.W.keepIn K (.ref f_block_draft) = true)
    (a_unit_size : PySem.W.nsIn K mainGlobals "unit_size" = some (some (.ref f_unit_size)))
    (l_unit_size : K.lookup f_unit_size = some ⟨oc_unit_size, od_unit_size, .func (PySem.W.fnOf "unit_size" "unit_size" (defArgs s_unit_size) (defBody s_unit_size) (defScope s_unit_size) .none kV_unit_size dc_unit_size pm_unit_size an_unit_size cd_unit_size ct_unit_size), sl_unit_size⟩)
    (c_unit_size : PySem.W.codeIn K cd_unit_size "unit_size" = true)
    (k_unit_size : PySem.W.keepIn K (.ref f_unit_size) = true)
    (a_blockwise : PySem.W.nsIn K mainGlobals "blockwise" = some (some (.ref f_blockwise)))
    (l_blockwise : K.lookup f_blockwise = some ⟨oc_blockwise, od_blockwise, .func (PySem.W.fnOf "blockwise" "blockwise" (defArgs s_blockwise) (defBody s_blockwise) (defScope s_blockwise) .none kV_blockwise dc_blockwise pm_blockwise an_blockwise cd_blockwise ct_blockwise), sl_blockwise⟩)
    (c_blockwise : PySem.W.codeIn K cd_blockwise "blockwise" = true)
    (k_blockwise : PySem.W.keepIn K (.ref f_blockwise) = true)
    (a_law_numbers : PySem.W.nsIn K mainGlobals "_law_numbers" = some (some (.ref f_law_numbers)))
    (l_law_numbers : K.lookup f_law_numbers = some ⟨oc_law_numbers, od_law_numbers, .func (PySem.W.fnOf "_law_numbers" "_law_numbers" (defArgs s_law_numbers) (defBody s_law_numbers) (defScope s_law_numbers) .none kV_law_numbers dc_law_numbers pm_law_numbers an_law_numbers cd_law_numbers ct_law_numbers), sl_law_numbers⟩)
    (c_law_numbers : PySem.W.codeIn K cd_law_numbers "_law_numbers" = true)
    (k_law_numbers : PySem.W.keepIn K (.ref f_law_numbers) = true)
    (a_law_subset : PySem.W.nsIn K mainGlobals "_law_subset" = some (some (.ref f_law_subset)))
    (l_law_subset : K.lookup f_law_subset = some ⟨oc_law_subset, od_law_subset, .func (PySem.W.fnOf "_law_subset" "_law_subset" (defArgs s_law_subset) (defBody s_law_subset) (defScope s_law_subset) .none kV_law_subset dc_law_subset pm_law_subset an_law_subset cd_law_subset ct_law_subset), sl_law_subset⟩)
    (c_law_subset : PySem.W.codeIn K cd_law_subset "_law_subset" = true)
    (k_law_subset : PySem.W.keepIn K (.ref f_law_subset) = true)
    (a_law_cloth_by : PySem.W.nsIn K mainGlobals "_law_cloth_by" = some (some (.ref f_law_cloth_by)))
    (l_law_cloth_by : K.lookup f_law_cloth_by = some ⟨oc_law_cloth_by, od_law_cloth_by, .func (PySem.W.fnOf "_law_cloth_by" "_law_cloth_by" (defArgs s_law_cloth_by) (defBody s_law_cloth_by) (defScope s_law_cloth_by) .none kV_law_cloth_by dc_law_cloth_by pm_law_cloth_by an_law_cloth_by cd_law_cloth_by ct_law_cloth_by), sl_law_cloth_by⟩)
    (c_law_cloth_by : PySem.W.codeIn K cd_law_cloth_by "_law_cloth_by" = true)
    (k_law_cloth_by : PySem.W.keepIn K (.ref f_law_cloth_by) = true)
    (a_law_side : PySem.W.nsIn K mainGlobals "_law_side" = some (some (.ref f_law_side)))
    (l_law_side : K.lookup f_law_side = some ⟨oc_law_side, od_law_side, .func (PySem.W.fnOf "_law_side" "_law_side" (defArgs s_law_side) (defBody s_law_side) (defScope s_law_side) .none kV_law_side dc_law_side pm_law_side an_law_side cd_law_side ct_law_side), sl_law_side⟩)
    (c_law_side : PySem.W.codeIn K cd_law_side "_law_side" = true)
    (k_law_side : PySem.W.keepIn K (.ref f_law_side) = true)
    (a_law_texts_same : PySem.W.nsIn K mainGlobals "_law_texts_same" = some (some (.ref f_law_texts_same)))
    (l_law_texts_same : K.lookup f_law_texts_same = some ⟨oc_law_texts_same, od_law_texts_same, .func (PySem.W.fnOf "_law_texts_same" "_law_texts_same" (defArgs s_law_texts_same) (defBody s_law_texts_same) (defScope s_law_texts_same) .none kV_law_texts_same dc_law_texts_same pm_law_texts_same an_law_texts_same cd_law_texts_same ct_law_texts_same), sl_law_texts_same⟩)
    (c_law_texts_same : PySem.W.codeIn K cd_law_texts_same "_law_texts_same" = true)
    (k_law_texts_same : PySem.W.keepIn K (.ref f_law_texts_same) = true)
    (a_law_changed : PySem.W.nsIn K mainGlobals "_law_changed" = some (some (.ref f_law_changed)))
    (l_law_changed : K.lookup f_law_changed = some ⟨oc_law_changed, od_law_changed, .func (PySem.W.fnOf "_law_changed" "_law_changed" (defArgs s_law_changed) (defBody s_law_changed) (defScope s_law_changed) .none kV_law_changed dc_law_changed pm_law_changed an_law_changed cd_law_changed ct_law_changed), sl_law_changed⟩)
    (c_law_changed : PySem.W.codeIn K cd_law_changed "_law_changed" = true)
    (k_law_changed : PySem.W.keepIn K (.ref f_law_changed) = true)
    (a_law_built : PySem.W.nsIn K mainGlobals "_law_built" = some (some (.ref f_law_built)))
    (l_law_built : K.lookup f_law_built = some ⟨oc_law_built, od_law_built, .func (PySem.W.fnOf "_law_built" "_law_built" (defArgs s_law_built) (defBody s_law_built) (defScope s_law_built) .none kV_law_built dc_law_built pm_law_built an_law_built cd_law_built ct_law_built), sl_law_built⟩)
    (c_law_built : PySem.W.codeIn K cd_law_built "_law_built" = true)
    (k_law_built : PySem.W.keepIn K (.ref f_law_built) = true)
    (a_law_due : PySem.W.nsIn K mainGlobals "_law_due" = some (some (.ref f_law_due)))
    (l_law_due : K.lookup f_law_due = some ⟨oc_law_due, od_law_due, .func (PySem.W.fnOf "_law_due" "_law_due" (defArgs s_law_due) (defBody s_law_due) (defScope s_law_due) .none kV_law_due dc_law_due pm_law_due an_law_due cd_law_due ct_law_due), sl_law_due⟩)
    (c_law_due : PySem.W.codeIn K cd_law_due "_law_due" = true)
    (k_law_due : PySem.W.keepIn K (.ref f_law_due) = true)
    (a_law_caught : PySem.W.nsIn K mainGlobals "_law_caught" = some (some (.ref f_law_caught)))
    (l_law_caught : K.lookup f_law_caught = some ⟨oc_law_caught, od_law_caught, .func (PySem.W.fnOf "_law_caught" "_law_caught" (defArgs s_law_caught) (defBody s_law_caught) (defScope s_law_caught) .none kV_law_caught dc_law_caught pm_law_caught an_law_caught cd_law_caught ct_law_caught), sl_law_caught⟩)
    (c_law_caught : PySem.W.codeIn K cd_law_caught "_law_caught" = true)
    (k_law_caught : PySem.W.keepIn K (.ref f_law_caught) = true)
    (a_law_refused : PySem.W.nsIn K mainGlobals "_law_refused" = some (some (.ref f_law_refused)))
    (l_law_refused : K.lookup f_law_refused = some ⟨oc_law_refused, od_law_refused, .func (PySem.W.fnOf "_law_refused" "_law_refused" (defArgs s_law_refused) (defBody s_law_refused) (defScope s_law_refused) .none kV_law_refused dc_law_refused pm_law_refused an_law_refused cd_law_refused ct_law_refused), sl_law_refused⟩)
    (c_law_refused : PySem.W.codeIn K cd_law_refused "_law_refused" = true)
    (k_law_refused : PySem.W.keepIn K (.ref f_law_refused) = true)
    (a_law_filling : PySem.W.nsIn K mainGlobals "_law_filling" = some (some (.ref f_law_filling)))
    (l_law_filling : K.lookup f_law_filling = some ⟨oc_law_filling, od_law_filling, .func (PySem.W.fnOf "_law_filling" "_law_filling" (defArgs s_law_filling) (defBody s_law_filling) (defScope s_law_filling) .none kV_law_filling dc_law_filling pm_law_filling an_law_filling cd_law_filling ct_law_filling), sl_law_filling⟩)
    (c_law_filling : PySem.W.codeIn K cd_law_filling "_law_filling" = true)
    (k_law_filling : PySem.W.keepIn K (.ref f_law_filling) = true)
    (a_law : PySem.W.nsIn K mainGlobals "law" = some (some (.ref f_law)))
    (l_law : K.lookup f_law = some ⟨oc_law, od_law, .func (PySem.W.fnOf "law" "law" (defArgs s_law) (defBody s_law) (defScope s_law) .none kV_law dc_law pm_law an_law cd_law ct_law), sl_law⟩)
    (c_law : PySem.W.codeIn K cd_law "law" = true)
    (k_law : PySem.W.keepIn K (.ref f_law) = true)
    (z_ValueError : PySem.W.nsIn K mainGlobals "ValueError" = some none)
    (z_isinstance : PySem.W.nsIn K mainGlobals "isinstance" = some none)
    (z_len : PySem.W.nsIn K mainGlobals "len" = some none)
    (z_list : PySem.W.nsIn K mainGlobals "list" = some none)
    (z_max : PySem.W.nsIn K mainGlobals "max" = some none)
    (z_min : PySem.W.nsIn K mainGlobals "min" = some none)
    (z_range : PySem.W.nsIn K mainGlobals "range" = some none)
    (z_set : PySem.W.nsIn K mainGlobals "set" = some none)
    (z_sorted : PySem.W.nsIn K mainGlobals "sorted" = some none)
    (z_str : PySem.W.nsIn K mainGlobals "str" = some none)
    (z_zip : PySem.W.nsIn K mainGlobals "zip" = some none)
    (x_MOST_STRANDS : PySem.W.nsIn K mainGlobals "MOST_STRANDS" = some (some (.int 40 q_MOST_STRANDS)))
    (x_MOST_SHAFTS : PySem.W.nsIn K mainGlobals "MOST_SHAFTS" = some (some (.int 40 q_MOST_SHAFTS)))
    (n_WeaveError : PySem.W.nsIn K mainGlobals "WeaveError" = some (some (.ref e_WeaveError)))
    (n_TooLarge : PySem.W.nsIn K mainGlobals "TooLarge" = some (some (.ref e_TooLarge)))
    (n_NoCloth : PySem.W.nsIn K mainGlobals "NoCloth" = some (some (.ref e_NoCloth)))
    (n_NoDraft : PySem.W.nsIn K mainGlobals "NoDraft" = some (some (.ref e_NoDraft)))
    (n_NoBlock : PySem.W.nsIn K mainGlobals "NoBlock" = some (some (.ref e_NoBlock)))
    (y1_WeaveError : PySem.W.excIn K e_WeaveError vE vN = true)
    (y2_WeaveError : PySem.W.findIn K (.ref e_WeaveError) "__getattribute__" = some (some (.builtin "BaseException.__getattribute__")))
    (y3_WeaveError : PySem.W.findIn K (.ref e_WeaveError) "__getattr__" = some none)
    (y4_WeaveError : PySem.W.findIn K (.ref e_WeaveError) "__class__" = some (some (.builtin "object.__class__")))
    (y5_WeaveError : PySem.W.specialIn K (.builtin "object.__class__") "__get__" = some (some (.builtin "getset_descriptor.__get__")))
    (y6_WeaveError : PySem.W.takesIn K (.builtin "object.__class__") = some true)
    (y7_WeaveError : PySem.W.mroIn K e_WeaveError (.type "object") = some true)
    (y8_WeaveError : PySem.W.mroIn K e_WeaveError (.type "BaseException") = some true)
    (y9_WeaveError : PySem.W.isClsIn K e_WeaveError = true)
    (y10_WeaveError : PySem.W.typeIn K (.ref e_WeaveError) = some (.type "type"))
    (y11_WeaveError : PySem.W.mroIn K e_WeaveError (.type "ValueError") = some true)
    (y1_TooLarge : PySem.W.excIn K e_TooLarge vE vN = true)
    (y2_TooLarge : PySem.W.findIn K (.ref e_TooLarge) "__getattribute__" = some (some (.builtin "BaseException.__getattribute__")))
    (y3_TooLarge : PySem.W.findIn K (.ref e_TooLarge) "__getattr__" = some none)
    (y4_TooLarge : PySem.W.findIn K (.ref e_TooLarge) "__class__" = some (some (.builtin "object.__class__")))
    (y7_TooLarge : PySem.W.mroIn K e_TooLarge (.type "object") = some true)
    (y8_TooLarge : PySem.W.mroIn K e_TooLarge (.type "BaseException") = some true)
    (y9_TooLarge : PySem.W.isClsIn K e_TooLarge = true)
    (y10_TooLarge : PySem.W.typeIn K (.ref e_TooLarge) = some (.type "type"))
    (y11_TooLarge : PySem.W.mroIn K e_TooLarge (.type "ValueError") = some true)
    (r_TooLarge_WeaveError : PySem.W.mroIn K e_TooLarge (.ref e_WeaveError) = some true)
    (r_TooLarge_TooLarge : PySem.W.mroIn K e_TooLarge (.ref e_TooLarge) = some true)
    (r_TooLarge_NoCloth : PySem.W.mroIn K e_TooLarge (.ref e_NoCloth) = some false)
    (r_TooLarge_NoDraft : PySem.W.mroIn K e_TooLarge (.ref e_NoDraft) = some false)
    (r_TooLarge_NoBlock : PySem.W.mroIn K e_TooLarge (.ref e_NoBlock) = some false)
    (y1_NoCloth : PySem.W.excIn K e_NoCloth vE vN = true)
    (y2_NoCloth : PySem.W.findIn K (.ref e_NoCloth) "__getattribute__" = some (some (.builtin "BaseException.__getattribute__")))
    (y3_NoCloth : PySem.W.findIn K (.ref e_NoCloth) "__getattr__" = some none)
    (y4_NoCloth : PySem.W.findIn K (.ref e_NoCloth) "__class__" = some (some (.builtin "object.__class__")))
    (y7_NoCloth : PySem.W.mroIn K e_NoCloth (.type "object") = some true)
    (y8_NoCloth : PySem.W.mroIn K e_NoCloth (.type "BaseException") = some true)
    (y9_NoCloth : PySem.W.isClsIn K e_NoCloth = true)
    (y10_NoCloth : PySem.W.typeIn K (.ref e_NoCloth) = some (.type "type"))
    (y11_NoCloth : PySem.W.mroIn K e_NoCloth (.type "ValueError") = some true)
    (r_NoCloth_WeaveError : PySem.W.mroIn K e_NoCloth (.ref e_WeaveError) = some true)
    (r_NoCloth_TooLarge : PySem.W.mroIn K e_NoCloth (.ref e_TooLarge) = some false)
    (r_NoCloth_NoCloth : PySem.W.mroIn K e_NoCloth (.ref e_NoCloth) = some true)
    (r_NoCloth_NoDraft : PySem.W.mroIn K e_NoCloth (.ref e_NoDraft) = some false)
    (r_NoCloth_NoBlock : PySem.W.mroIn K e_NoCloth (.ref e_NoBlock) = some false)
    (y1_NoDraft : PySem.W.excIn K e_NoDraft vE vN = true)
    (y2_NoDraft : PySem.W.findIn K (.ref e_NoDraft) "__getattribute__" = some (some (.builtin "BaseException.__getattribute__")))
    (y3_NoDraft : PySem.W.findIn K (.ref e_NoDraft) "__getattr__" = some none)
    (y4_NoDraft : PySem.W.findIn K (.ref e_NoDraft) "__class__" = some (some (.builtin "object.__class__")))
    (y7_NoDraft : PySem.W.mroIn K e_NoDraft (.type "object") = some true)
    (y8_NoDraft : PySem.W.mroIn K e_NoDraft (.type "BaseException") = some true)
    (y9_NoDraft : PySem.W.isClsIn K e_NoDraft = true)
    (y10_NoDraft : PySem.W.typeIn K (.ref e_NoDraft) = some (.type "type"))
    (y11_NoDraft : PySem.W.mroIn K e_NoDraft (.type "ValueError") = some true)
    (y1_NoBlock : PySem.W.excIn K e_NoBlock vE vN = true)
    (y2_NoBlock : PySem.W.findIn K (.ref e_NoBlock) "__getattribute__" = some (some (.builtin "BaseException.__getattribute__")))
    (y3_NoBlock : PySem.W.findIn K (.ref e_NoBlock) "__getattr__" = some none)
    (y4_NoBlock : PySem.W.findIn K (.ref e_NoBlock) "__class__" = some (some (.builtin "object.__class__")))
    (y7_NoBlock : PySem.W.mroIn K e_NoBlock (.type "object") = some true)
    (y8_NoBlock : PySem.W.mroIn K e_NoBlock (.type "BaseException") = some true)
    (y9_NoBlock : PySem.W.isClsIn K e_NoBlock = true)
    (y10_NoBlock : PySem.W.typeIn K (.ref e_NoBlock) = some (.type "type"))
    (y11_NoBlock : PySem.W.mroIn K e_NoBlock (.type "ValueError") = some true)
    (r_NoBlock_WeaveError : PySem.W.mroIn K e_NoBlock (.ref e_WeaveError) = some true)
    (r_NoBlock_TooLarge : PySem.W.mroIn K e_NoBlock (.ref e_TooLarge) = some false)
    (r_NoBlock_NoCloth : PySem.W.mroIn K e_NoBlock (.ref e_NoCloth) = some false)
    (r_NoBlock_NoDraft : PySem.W.mroIn K e_NoBlock (.ref e_NoDraft) = some false)
    (r_NoBlock_NoBlock : PySem.W.mroIn K e_NoBlock (.ref e_NoBlock) = some true)
    (fm_TooLarge : PySem.W.findIn K (.ref e_TooLarge) "called" = some (some (.ref f_TooLarge_called)))
    (gm_TooLarge : PySem.W.isFn K (.ref f_TooLarge_called) = true)
    (lm_TooLarge : K.lookup f_TooLarge_called = some ⟨oc_TooLarge_called, od_TooLarge_called, .func (PySem.W.fnOf "called" "TooLarge.called" (defArgs s_TooLarge_called) (defBody s_TooLarge_called) (defScope s_TooLarge_called) .none kV_TooLarge_called dc_TooLarge_called pm_TooLarge_called an_TooLarge_called cd_TooLarge_called ct_TooLarge_called), sl_TooLarge_called⟩)
    (cm_TooLarge : PySem.W.codeIn K cd_TooLarge_called "TooLarge.called" = true)
    (km_TooLarge : PySem.W.keepIn K (.ref f_TooLarge_called) = true)
    (fm_NoCloth : PySem.W.findIn K (.ref e_NoCloth) "called" = some (some (.ref f_NoCloth_called)))
    (gm_NoCloth : PySem.W.isFn K (.ref f_NoCloth_called) = true)
    (lm_NoCloth : K.lookup f_NoCloth_called = some ⟨oc_NoCloth_called, od_NoCloth_called, .func (PySem.W.fnOf "called" "NoCloth.called" (defArgs s_NoCloth_called) (defBody s_NoCloth_called) (defScope s_NoCloth_called) .none kV_NoCloth_called dc_NoCloth_called pm_NoCloth_called an_NoCloth_called cd_NoCloth_called ct_NoCloth_called), sl_NoCloth_called⟩)
    (cm_NoCloth : PySem.W.codeIn K cd_NoCloth_called "NoCloth.called" = true)
    (km_NoCloth : PySem.W.keepIn K (.ref f_NoCloth_called) = true)
    (fm_NoBlock : PySem.W.findIn K (.ref e_NoBlock) "called" = some (some (.ref f_NoBlock_called)))
    (gm_NoBlock : PySem.W.isFn K (.ref f_NoBlock_called) = true)
    (lm_NoBlock : K.lookup f_NoBlock_called = some ⟨oc_NoBlock_called, od_NoBlock_called, .func (PySem.W.fnOf "called" "NoBlock.called" (defArgs s_NoBlock_called) (defBody s_NoBlock_called) (defScope s_NoBlock_called) .none kV_NoBlock_called dc_NoBlock_called pm_NoBlock_called an_NoBlock_called cd_NoBlock_called ct_NoBlock_called), sl_NoBlock_called⟩)
    (cm_NoBlock : PySem.W.codeIn K cd_NoBlock_called "NoBlock.called" = true)
    (km_NoBlock : PySem.W.keepIn K (.ref f_NoBlock_called) = true)
    (n_Draft : PySem.W.nsIn K mainGlobals "Draft" = some (some (.ref e_Draft)))
    (fm_Draft___init__ : PySem.W.findIn K (.ref e_Draft) "__init__" = some (some (.ref f_Draft___init__)))
    (gm_Draft___init__ : PySem.W.isFn K (.ref f_Draft___init__) = true)
    (lm_Draft___init__ : K.lookup f_Draft___init__ = some ⟨oc_Draft___init__, od_Draft___init__, .func (PySem.W.fnOf "__init__" "Draft.__init__" (defArgs s_Draft___init__) (defBody s_Draft___init__) (defScope s_Draft___init__) .none kV_Draft___init__ dc_Draft___init__ pm_Draft___init__ an_Draft___init__ cd_Draft___init__ ct_Draft___init__), sl_Draft___init__⟩)
    (cm_Draft___init__ : PySem.W.codeIn K cd_Draft___init__ "Draft.__init__" = true)
    (km_Draft___init__ : PySem.W.keepIn K (.ref f_Draft___init__) = true)
    (o1_Draft : PySem.W.plainGet K e_Draft Str.empty = true)
    (o2_Draft : PySem.W.hasDictIn K e_Draft = true)
    (o3_Draft : PySem.W.plainOver K e_Draft = true)
    (o4_Draft : PySem.W.findIn K (.ref e_Draft) "__setattr__" = some (some (.builtin "object.__setattr__")))
    (o5_Draft : PySem.W.makesIn K e_Draft = true)
    (o8_Draft : PySem.W.keepIn K (.ref e_Draft) = true)
    (na_Draft_threading : PySem.W.findIn K (.ref e_Draft) "threading" = some none)
    (na_Draft_ties : PySem.W.findIn K (.ref e_Draft) "ties" = some none)
    (na_Draft_treading : PySem.W.findIn K (.ref e_Draft) "treading" = some none) :
    Txt K mg ⟨e_Draft, f_Draft___init__, PySem.W.fnOf "__init__" "Draft.__init__" (defArgs s_Draft___init__) (defBody s_Draft___init__) (defScope s_Draft___init__) .none kV_Draft___init__ dc_Draft___init__ pm_Draft___init__ an_Draft___init__ cd_Draft___init__ ct_Draft___init__, f_measured, PySem.W.fnOf "measured" "measured" (defArgs s_measured) (defBody s_measured) (defScope s_measured) .none kV_measured dc_measured pm_measured an_measured cd_measured ct_measured, f_measured_texts, PySem.W.fnOf "measured_texts" "measured_texts" (defArgs s_measured_texts) (defBody s_measured_texts) (defScope s_measured_texts) .none kV_measured_texts dc_measured_texts pm_measured_texts an_measured_texts cd_measured_texts ct_measured_texts, f_check_pick, PySem.W.fnOf "check_pick" "check_pick" (defArgs s_check_pick) (defBody s_check_pick) (defScope s_check_pick) .none kV_check_pick dc_check_pick pm_check_pick an_check_pick cd_check_pick ct_check_pick, f_end_signs, PySem.W.fnOf "end_signs" "end_signs" (defArgs s_end_signs) (defBody s_end_signs) (defScope s_end_signs) .none kV_end_signs dc_end_signs pm_end_signs an_end_signs cd_end_signs ct_end_signs, f_least_draft, PySem.W.fnOf "least_draft" "least_draft" (defArgs s_least_draft) (defBody s_least_draft) (defScope s_least_draft) .none kV_least_draft dc_least_draft pm_least_draft an_least_draft cd_least_draft ct_least_draft, f_check_setting, PySem.W.fnOf "check_setting" "check_setting" (defArgs s_check_setting) (defBody s_check_setting) (defScope s_check_setting) .none kV_check_setting dc_check_setting pm_check_setting an_check_setting cd_check_setting ct_check_setting, f_check_count, PySem.W.fnOf "check_count" "check_count" (defArgs s_check_count) (defBody s_check_count) (defScope s_check_count) .none kV_check_count dc_check_count pm_check_count an_check_count cd_check_count ct_check_count, f_check_shaft, PySem.W.fnOf "check_shaft" "check_shaft" (defArgs s_check_shaft) (defBody s_check_shaft) (defScope s_check_shaft) .none kV_check_shaft dc_check_shaft pm_check_shaft an_check_shaft cd_check_shaft ct_check_shaft, f_check_tie, PySem.W.fnOf "check_tie" "check_tie" (defArgs s_check_tie) (defBody s_check_tie) (defScope s_check_tie) .none kV_check_tie dc_check_tie pm_check_tie an_check_tie cd_check_tie ct_check_tie, f_check_treading, PySem.W.fnOf "check_treading" "check_treading" (defArgs s_check_treading) (defBody s_check_treading) (defScope s_check_treading) .none kV_check_treading dc_check_treading pm_check_treading an_check_treading cd_check_treading ct_check_treading, f_shafts_over, PySem.W.fnOf "shafts_over" "shafts_over" (defArgs s_shafts_over) (defBody s_shafts_over) (defScope s_shafts_over) .none kV_shafts_over dc_shafts_over pm_shafts_over an_shafts_over cd_shafts_over ct_shafts_over, f_unlike, PySem.W.fnOf "unlike" "unlike" (defArgs s_unlike) (defBody s_unlike) (defScope s_unlike) .none kV_unlike dc_unlike pm_unlike an_unlike cd_unlike ct_unlike, f_filled_blocks, PySem.W.fnOf "filled_blocks" "filled_blocks" (defArgs s_filled_blocks) (defBody s_filled_blocks) (defScope s_filled_blocks) .none kV_filled_blocks dc_filled_blocks pm_filled_blocks an_filled_blocks cd_filled_blocks ct_filled_blocks, f_block_draft, PySem.W.fnOf "block_draft" "block_draft" (defArgs s_block_draft) (defBody s_block_draft) (defScope s_block_draft) .none kV_block_draft dc_block_draft pm_block_draft an_block_draft cd_block_draft ct_block_draft, f_unit_size, PySem.W.fnOf "unit_size" "unit_size" (defArgs s_unit_size) (defBody s_unit_size) (defScope s_unit_size) .none kV_unit_size dc_unit_size pm_unit_size an_unit_size cd_unit_size ct_unit_size, f_blockwise, PySem.W.fnOf "blockwise" "blockwise" (defArgs s_blockwise) (defBody s_blockwise) (defScope s_blockwise) .none kV_blockwise dc_blockwise pm_blockwise an_blockwise cd_blockwise ct_blockwise, f_law_numbers, PySem.W.fnOf "_law_numbers" "_law_numbers" (defArgs s_law_numbers) (defBody s_law_numbers) (defScope s_law_numbers) .none kV_law_numbers dc_law_numbers pm_law_numbers an_law_numbers cd_law_numbers ct_law_numbers, f_law_subset, PySem.W.fnOf "_law_subset" "_law_subset" (defArgs s_law_subset) (defBody s_law_subset) (defScope s_law_subset) .none kV_law_subset dc_law_subset pm_law_subset an_law_subset cd_law_subset ct_law_subset, f_law_cloth_by, PySem.W.fnOf "_law_cloth_by" "_law_cloth_by" (defArgs s_law_cloth_by) (defBody s_law_cloth_by) (defScope s_law_cloth_by) .none kV_law_cloth_by dc_law_cloth_by pm_law_cloth_by an_law_cloth_by cd_law_cloth_by ct_law_cloth_by, f_law_side, PySem.W.fnOf "_law_side" "_law_side" (defArgs s_law_side) (defBody s_law_side) (defScope s_law_side) .none kV_law_side dc_law_side pm_law_side an_law_side cd_law_side ct_law_side, f_law_texts_same, PySem.W.fnOf "_law_texts_same" "_law_texts_same" (defArgs s_law_texts_same) (defBody s_law_texts_same) (defScope s_law_texts_same) .none kV_law_texts_same dc_law_texts_same pm_law_texts_same an_law_texts_same cd_law_texts_same ct_law_texts_same, f_law_changed, PySem.W.fnOf "_law_changed" "_law_changed" (defArgs s_law_changed) (defBody s_law_changed) (defScope s_law_changed) .none kV_law_changed dc_law_changed pm_law_changed an_law_changed cd_law_changed ct_law_changed, f_law_built, PySem.W.fnOf "_law_built" "_law_built" (defArgs s_law_built) (defBody s_law_built) (defScope s_law_built) .none kV_law_built dc_law_built pm_law_built an_law_built cd_law_built ct_law_built, f_law_due, PySem.W.fnOf "_law_due" "_law_due" (defArgs s_law_due) (defBody s_law_due) (defScope s_law_due) .none kV_law_due dc_law_due pm_law_due an_law_due cd_law_due ct_law_due, f_law_caught, PySem.W.fnOf "_law_caught" "_law_caught" (defArgs s_law_caught) (defBody s_law_caught) (defScope s_law_caught) .none kV_law_caught dc_law_caught pm_law_caught an_law_caught cd_law_caught ct_law_caught, f_law_refused, PySem.W.fnOf "_law_refused" "_law_refused" (defArgs s_law_refused) (defBody s_law_refused) (defScope s_law_refused) .none kV_law_refused dc_law_refused pm_law_refused an_law_refused cd_law_refused ct_law_refused, f_law_filling, PySem.W.fnOf "_law_filling" "_law_filling" (defArgs s_law_filling) (defBody s_law_filling) (defScope s_law_filling) .none kV_law_filling dc_law_filling pm_law_filling an_law_filling cd_law_filling ct_law_filling, f_law, PySem.W.fnOf "law" "law" (defArgs s_law) (defBody s_law) (defScope s_law) .none kV_law dc_law pm_law an_law cd_law ct_law, e_WeaveError, e_TooLarge, f_TooLarge_called, PySem.W.fnOf "called" "TooLarge.called" (defArgs s_TooLarge_called) (defBody s_TooLarge_called) (defScope s_TooLarge_called) .none kV_TooLarge_called dc_TooLarge_called pm_TooLarge_called an_TooLarge_called cd_TooLarge_called ct_TooLarge_called, e_NoCloth, f_NoCloth_called, PySem.W.fnOf "called" "NoCloth.called" (defArgs s_NoCloth_called) (defBody s_NoCloth_called) (defScope s_NoCloth_called) .none kV_NoCloth_called dc_NoCloth_called pm_NoCloth_called an_NoCloth_called cd_NoCloth_called ct_NoCloth_called, e_NoDraft, e_NoBlock, f_NoBlock_called, PySem.W.fnOf "called" "NoBlock.called" (defArgs s_NoBlock_called) (defBody s_NoBlock_called) (defScope s_NoBlock_called) .none kV_NoBlock_called dc_NoBlock_called pm_NoBlock_called an_NoBlock_called cd_NoBlock_called ct_NoBlock_called⟩ :=
  ⟨⟨fun_mk (st := s_measured) l_measured c_measured k_measured, PySem.W.mg_of X G a_measured, (fun_mk (st := s_measured) l_measured c_measured k_measured).binds (ps := ["cloth"]) fun _ _ _ _ _ _ us hl => bl1 (fun _ => rfl) us hl⟩,
   ⟨fun_mk (st := s_measured_texts) l_measured_texts c_measured_texts k_measured_texts, PySem.W.mg_of X G a_measured_texts, (fun_mk (st := s_measured_texts) l_measured_texts c_measured_texts k_measured_texts).binds (ps := ["texts", "least", "signs"]) fun _ _ _ _ _ _ us hl => bl3 (fun _ _ _ => rfl) us hl⟩,
   ⟨fun_mk (st := s_check_pick) l_check_pick c_check_pick k_check_pick, PySem.W.mg_of X G a_check_pick, (fun_mk (st := s_check_pick) l_check_pick c_check_pick k_check_pick).binds (ps := ["text", "ends", "signs"]) fun _ _ _ _ _ _ us hl => bl3 (fun _ _ _ => rfl) us hl⟩,
   ⟨fun_mk (st := s_end_signs) l_end_signs c_end_signs k_end_signs, PySem.W.mg_of X G a_end_signs, (fun_mk (st := s_end_signs) l_end_signs c_end_signs k_end_signs).binds (ps := ["cloth", "end"]) fun _ _ _ _ _ _ us hl => bl2 (fun _ _ => rfl) us hl⟩,
   ⟨fun_mk (st := s_least_draft) l_least_draft c_least_draft k_least_draft, PySem.W.mg_of X G a_least_draft, (fun_mk (st := s_least_draft) l_least_draft c_least_draft k_least_draft).binds (ps := ["cloth"]) fun _ _ _ _ _ _ us hl => bl1 (fun _ => rfl) us hl⟩,
   ⟨fun_mk (st := s_check_setting) l_check_setting c_check_setting k_check_setting, PySem.W.mg_of X G a_check_setting, (fun_mk (st := s_check_setting) l_check_setting c_check_setting k_check_setting).binds (ps := ["threading", "ties"]) fun _ _ _ _ _ _ us hl => bl2 (fun _ _ => rfl) us hl⟩,
   ⟨fun_mk (st := s_check_count) l_check_count c_check_count k_check_count, PySem.W.mg_of X G a_check_count, (fun_mk (st := s_check_count) l_check_count c_check_count k_check_count).binds (ps := ["count"]) fun _ _ _ _ _ _ us hl => bl1 (fun _ => rfl) us hl⟩,
   ⟨fun_mk (st := s_check_shaft) l_check_shaft c_check_shaft k_check_shaft, PySem.W.mg_of X G a_check_shaft, (fun_mk (st := s_check_shaft) l_check_shaft c_check_shaft k_check_shaft).binds (ps := ["shaft"]) fun _ _ _ _ _ _ us hl => bl1 (fun _ => rfl) us hl⟩,
   ⟨fun_mk (st := s_check_tie) l_check_tie c_check_tie k_check_tie, PySem.W.mg_of X G a_check_tie, (fun_mk (st := s_check_tie) l_check_tie c_check_tie k_check_tie).binds (ps := ["tie"]) fun _ _ _ _ _ _ us hl => bl1 (fun _ => rfl) us hl⟩,
   ⟨fun_mk (st := s_check_treading) l_check_treading c_check_treading k_check_treading, PySem.W.mg_of X G a_check_treading, (fun_mk (st := s_check_treading) l_check_treading c_check_treading k_check_treading).binds (ps := ["treading", "treadles"]) fun _ _ _ _ _ _ us hl => bl2 (fun _ _ => rfl) us hl⟩,
   ⟨fun_mk (st := s_shafts_over) l_shafts_over c_shafts_over k_shafts_over, PySem.W.mg_of X G a_shafts_over, (fun_mk (st := s_shafts_over) l_shafts_over c_shafts_over k_shafts_over).binds (ps := ["threading", "text"]) fun _ _ _ _ _ _ us hl => bl2 (fun _ _ => rfl) us hl⟩,
   ⟨fun_mk (st := s_unlike) l_unlike c_unlike k_unlike, PySem.W.mg_of X G a_unlike, (fun_mk (st := s_unlike) l_unlike c_unlike k_unlike).binds (ps := ["things"]) fun _ _ _ _ _ _ us hl => bl1 (fun _ => rfl) us hl⟩,
   ⟨fun_mk (st := s_filled_blocks) l_filled_blocks c_filled_blocks k_filled_blocks, PySem.W.mg_of X G a_filled_blocks, (fun_mk (st := s_filled_blocks) l_filled_blocks c_filled_blocks k_filled_blocks).binds (ps := ["profile", "one", "other"]) fun _ _ _ _ _ _ us hl => bl3 (fun _ _ _ => rfl) us hl⟩,
   ⟨fun_mk (st := s_block_draft) l_block_draft c_block_draft k_block_draft, PySem.W.mg_of X G a_block_draft, (fun_mk (st := s_block_draft) l_block_draft c_block_draft k_block_draft).binds (ps := ["profile", "one", "other"]) fun _ _ _ _ _ _ us hl => bl3 (fun _ _ _ => rfl) us hl⟩,
   ⟨fun_mk (st := s_unit_size) l_unit_size c_unit_size k_unit_size, PySem.W.mg_of X G a_unit_size, (fun_mk (st := s_unit_size) l_unit_size c_unit_size k_unit_size).binds (ps := ["one", "other"]) fun _ _ _ _ _ _ us hl => bl2 (fun _ _ => rfl) us hl⟩,
   ⟨fun_mk (st := s_blockwise) l_blockwise c_blockwise k_blockwise, PySem.W.mg_of X G a_blockwise, (fun_mk (st := s_blockwise) l_blockwise c_blockwise k_blockwise).binds (ps := ["blocks", "strands"]) fun _ _ _ _ _ _ us hl => bl2 (fun _ _ => rfl) us hl⟩,
   ⟨fun_mk (st := s_law_numbers) l_law_numbers c_law_numbers k_law_numbers, PySem.W.mg_of X G a_law_numbers, (fun_mk (st := s_law_numbers) l_law_numbers c_law_numbers k_law_numbers).binds (ps := ["script", "many"]) fun _ _ _ _ _ _ us hl => bl2 (fun _ _ => rfl) us hl⟩,
   ⟨fun_mk (st := s_law_subset) l_law_subset c_law_subset k_law_subset, PySem.W.mg_of X G a_law_subset, (fun_mk (st := s_law_subset) l_law_subset c_law_subset k_law_subset).binds (ps := ["number"]) fun _ _ _ _ _ _ us hl => bl1 (fun _ => rfl) us hl⟩,
   ⟨fun_mk (st := s_law_cloth_by) l_law_cloth_by c_law_cloth_by k_law_cloth_by, PySem.W.mg_of X G a_law_cloth_by, (fun_mk (st := s_law_cloth_by) l_law_cloth_by c_law_cloth_by k_law_cloth_by).binds (ps := ["numbers", "ends", "picks"]) fun _ _ _ _ _ _ us hl => bl3 (fun _ _ _ => rfl) us hl⟩,
   ⟨fun_mk (st := s_law_side) l_law_side c_law_side k_law_side, PySem.W.mg_of X G a_law_side, (fun_mk (st := s_law_side) l_law_side c_law_side k_law_side).binds (ps := ["number", "whole"]) fun _ _ _ _ _ _ us hl => bl2 (fun _ _ => rfl) us hl⟩,
   ⟨fun_mk (st := s_law_texts_same) l_law_texts_same c_law_texts_same k_law_texts_same, PySem.W.mg_of X G a_law_texts_same, (fun_mk (st := s_law_texts_same) l_law_texts_same c_law_texts_same k_law_texts_same).binds (ps := ["found", "due"]) fun _ _ _ _ _ _ us hl => bl2 (fun _ _ => rfl) us hl⟩,
   ⟨fun_mk (st := s_law_changed) l_law_changed c_law_changed k_law_changed, PySem.W.mg_of X G a_law_changed, (fun_mk (st := s_law_changed) l_law_changed c_law_changed k_law_changed).binds (ps := ["cloth", "number"]) fun _ _ _ _ _ _ us hl => bl2 (fun _ _ => rfl) us hl⟩,
   ⟨fun_mk (st := s_law_built) l_law_built c_law_built k_law_built, PySem.W.mg_of X G a_law_built, (fun_mk (st := s_law_built) l_law_built c_law_built k_law_built).binds (ps := ["numbers"]) fun _ _ _ _ _ _ us hl => bl1 (fun _ => rfl) us hl⟩,
   ⟨fun_mk (st := s_law_due) l_law_due c_law_due k_law_due, PySem.W.mg_of X G a_law_due, (fun_mk (st := s_law_due) l_law_due c_law_due k_law_due).binds (ps := ["cloths", "changed"]) fun _ _ _ _ _ _ us hl => bl2 (fun _ _ => rfl) us hl⟩,
   ⟨fun_mk (st := s_law_caught) l_law_caught c_law_caught k_law_caught, PySem.W.mg_of X G a_law_caught, (fun_mk (st := s_law_caught) l_law_caught c_law_caught k_law_caught).binds (ps := ["way", "cloths"]) fun _ _ _ _ _ _ us hl => bl2 (fun _ _ => rfl) us hl⟩,
   ⟨fun_mk (st := s_law_refused) l_law_refused c_law_refused k_law_refused, PySem.W.mg_of X G a_law_refused, (fun_mk (st := s_law_refused) l_law_refused c_law_refused k_law_refused).binds (ps := ["caught", "word"]) fun _ _ _ _ _ _ us hl => bl2 (fun _ _ => rfl) us hl⟩,
   ⟨fun_mk (st := s_law_filling) l_law_filling c_law_filling k_law_filling, PySem.W.mg_of X G a_law_filling, (fun_mk (st := s_law_filling) l_law_filling c_law_filling k_law_filling).binds (ps := ["cloths"]) fun _ _ _ _ _ _ us hl => bl1 (fun _ => rfl) us hl⟩,
   ⟨fun_mk (st := s_law) l_law c_law k_law, PySem.W.mg_of X G a_law, (fun_mk (st := s_law) l_law c_law k_law).binds (ps := ["script"]) fun _ _ _ _ _ _ us hl => bl1 (fun _ => rfl) us hl⟩,
   PySem.W.mg_none_of X G z_ValueError,
   PySem.W.mg_none_of X G z_isinstance,
   PySem.W.mg_none_of X G z_len,
   PySem.W.mg_none_of X G z_list,
   PySem.W.mg_none_of X G z_max,
   PySem.W.mg_none_of X G z_min,
   PySem.W.mg_none_of X G z_range,
   PySem.W.mg_none_of X G z_set,
   PySem.W.mg_none_of X G z_sorted,
   PySem.W.mg_none_of X G z_str,
   PySem.W.mg_none_of X G z_zip,
   ⟨_, PySem.W.mg_of X G x_MOST_STRANDS⟩,
   ⟨_, PySem.W.mg_of X G x_MOST_SHAFTS⟩,
   PySem.W.mg_of X G n_WeaveError,
   exn_mk y1_WeaveError y2_WeaveError y3_WeaveError y4_WeaveError y5_WeaveError y6_WeaveError y7_WeaveError y8_WeaveError y9_WeaveError y10_WeaveError y11_WeaveError,
   PySem.W.mg_of X G n_TooLarge,
   exn_mk y1_TooLarge y2_TooLarge y3_TooLarge y4_TooLarge y5_WeaveError y6_WeaveError y7_TooLarge y8_TooLarge y9_TooLarge y10_TooLarge y11_TooLarge,
   ⟨fun_mk (st := s_TooLarge_called) lm_TooLarge cm_TooLarge km_TooLarge, ⟨fm_TooLarge, gm_TooLarge, km_TooLarge⟩, (fun_mk (st := s_TooLarge_called) lm_TooLarge cm_TooLarge km_TooLarge).binds (ps := ["self"]) fun _ _ _ _ _ _ us hl => match us, hl with | [_], _ => rfl⟩,
   r_TooLarge_WeaveError,
   r_TooLarge_TooLarge,
   r_TooLarge_NoCloth,
   r_TooLarge_NoDraft,
   r_TooLarge_NoBlock,
   PySem.W.mg_of X G n_NoCloth,
   exn_mk y1_NoCloth y2_NoCloth y3_NoCloth y4_NoCloth y5_WeaveError y6_WeaveError y7_NoCloth y8_NoCloth y9_NoCloth y10_NoCloth y11_NoCloth,
   ⟨fun_mk (st := s_NoCloth_called) lm_NoCloth cm_NoCloth km_NoCloth, ⟨fm_NoCloth, gm_NoCloth, km_NoCloth⟩, (fun_mk (st := s_NoCloth_called) lm_NoCloth cm_NoCloth km_NoCloth).binds (ps := ["self"]) fun _ _ _ _ _ _ us hl => match us, hl with | [_], _ => rfl⟩,
   r_NoCloth_WeaveError,
   r_NoCloth_TooLarge,
   r_NoCloth_NoCloth,
   r_NoCloth_NoDraft,
   r_NoCloth_NoBlock,
   PySem.W.mg_of X G n_NoDraft,
   exn_mk y1_NoDraft y2_NoDraft y3_NoDraft y4_NoDraft y5_WeaveError y6_WeaveError y7_NoDraft y8_NoDraft y9_NoDraft y10_NoDraft y11_NoDraft,
   PySem.W.mg_of X G n_NoBlock,
   exn_mk y1_NoBlock y2_NoBlock y3_NoBlock y4_NoBlock y5_WeaveError y6_WeaveError y7_NoBlock y8_NoBlock y9_NoBlock y10_NoBlock y11_NoBlock,
   ⟨fun_mk (st := s_NoBlock_called) lm_NoBlock cm_NoBlock km_NoBlock, ⟨fm_NoBlock, gm_NoBlock, km_NoBlock⟩, (fun_mk (st := s_NoBlock_called) lm_NoBlock cm_NoBlock km_NoBlock).binds (ps := ["self"]) fun _ _ _ _ _ _ us hl => match us, hl with | [_], _ => rfl⟩,
   r_NoBlock_WeaveError,
   r_NoBlock_TooLarge,
   r_NoBlock_NoCloth,
   r_NoBlock_NoDraft,
   r_NoBlock_NoBlock,
   PySem.W.mg_of X G n_Draft,
   own_mk o1_Draft o2_Draft o3_Draft o4_Draft o5_Draft fm_Draft___init__ gm_Draft___init__ o8_Draft,
   na_Draft_threading,
   na_Draft_ties,
   na_Draft_treading,
   ⟨fun_mk (st := s_Draft___init__) lm_Draft___init__ cm_Draft___init__ km_Draft___init__, ⟨fm_Draft___init__, gm_Draft___init__, km_Draft___init__⟩, (fun_mk (st := s_Draft___init__) lm_Draft___init__ cm_Draft___init__ km_Draft___init__).binds (ps := ["self", "threading", "ties", "treading"]) fun _ _ _ _ _ _ us hl => bl4 (fun _ _ _ _ => rfl) us hl⟩⟩
section
variable {P : Program} {w : World} {K : PySem.W.Frag} {mg : Str → Option Value} {base : Heap} {t : Adr}
def sp_called (z : Str) : Sp := fun vs H Q _ => ∃ v, vs = [v] ∧ Q (.str z) H
theorem ok_TooLarge_called (T : Txt K mg t) : FnOk P w K mg base CX0 1 t.f_TooLarge_called t.d_TooLarge_called ["self"] (sp_called "TooLarge") :=
  T.m_TooLarge.F.ok sc_TooLarge_called (fun vs H Q E h => by obtain ⟨v, rfl, _⟩ := h; rfl) fun cdv A outer s H vs Q E hr h => by
    obtain ⟨v, rfl, k⟩ := h
    exact ⟨_, pss_one (ps_ret pe_str), k⟩
theorem ok_NoCloth_called (T : Txt K mg t) : FnOk P w K mg base CX0 1 t.f_NoCloth_called t.d_NoCloth_called ["self"] (sp_called "NoCloth") :=
  T.m_NoCloth.F.ok sc_NoCloth_called (fun vs H Q E h => by obtain ⟨v, rfl, _⟩ := h; rfl) fun cdv A outer s H vs Q E hr h => by
    obtain ⟨v, rfl, k⟩ := h
    exact ⟨_, pss_one (ps_ret pe_str), k⟩
theorem ok_NoBlock_called (T : Txt K mg t) : FnOk P w K mg base CX0 1 t.f_NoBlock_called t.d_NoBlock_called ["self"] (sp_called "NoBlock") :=
  T.m_NoBlock.F.ok sc_NoBlock_called (fun vs H Q E h => by obtain ⟨v, rfl, _⟩ := h; rfl) fun cdv A outer s H vs Q E hr h => by
    obtain ⟨v, rfl, k⟩ := h
    exact ⟨_, pss_one (ps_ret pe_str), k⟩
end
section
variable {P : Program} {w : World} {K : PySem.W.Frag} {mg : Str → Option Value} {base : Heap} {t : Adr}
theorem z0 (i : Nat) : (0 + (i : Int)).toNat = i := by omega
theorem kit_same (K : PySem.W.Frag) (n : String) : PySem.W.kitOne K (.type n) (.type n) = some true := if_pos (beq_self_eq_true _)
theorem sg_eq {c d : Nat} : (V.str ⟨#[c]⟩ : V) = V.str ⟨#[d]⟩ ↔ c = d :=
  ⟨fun z => by injection z with z; exact (List.cons.inj (tx_inj (a := [c]) (b := [d]) z)).1, fun z => by rw [z]⟩
theorem small40 {n : Nat} (h : n ≤ 40) : n ≤ sizeLine := Nat.le_trans h (by decide)
theorem occ {c : Nat} (h : Sg c) : (!(!(Builtin.Str.occurrences "#." ⟨#[c]⟩ 0 (Str.length "#.") 1).isEmpty)) = false := by
  rcases h with h | h <;> subst h <;> decide +kernel
def sp_check_pick : Sp := fun vs H Q _ => ∃ (t : List Nat), vs = [.str (tx t), .int (t.length : Int), .str "#."] ∧ (∀ c ∈ t, Sg c) ∧ t.length ≤ 40 ∧ Q .non H
theorem ok_check_pick (T : Txt K mg t) : FnOk P w K mg base CX0 1 t.f_check_pick t.d_check_pick ["text", "ends", "signs"] sp_check_pick := by
  refine T.check_pick.F.ok sc_check_pick (fun vs H Q E h => ?_) (fun cdv A outer s H vs Q E hr h => ?_)
  · obtain ⟨t, rfl, _⟩ := h
    rfl
  · obtain ⟨t, rfl, hsg, hl, k⟩ := h
    refine ⟨_, (pss_cons (ps_if (pt_cmpR op_ne (pe_callB call_len_str rfl T.b_len bt_len (pa_cons (pv 0) pa_nil)) (pv 1) (nomark _))
        (pss_one ps_never)
        pss_nil)
      (pss_one (ps_for PassesOwn.never rfl (pi_str (pv 0)) (pg_name (i := 3) sc_check_pick.nd rfl (Or.inl rfl))
        (pss_one (ps_if (pt_cmpR op_notin_str (pv 3) (pv 2) rfl)
          (pss_one ps_never)
          pss_nil))))), ?_⟩
    refine ⟨_, rfl, _, rfl, (by rw [tx_len]; exact small40 hl), _, rfl, rfl, _, rfl, ?_⟩
    refine iteNS (by rw [tx_len]) ?_
    refine ⟨_, rfl, _, rfl, for_str (z := tx t) (fun i σ H2 => ∃ v, σ = [some (.str (tx t)), some (.int (t.length : Int)), some (.str "#."), v] ∧ H2 = H) ⟨none, rfl, rfl⟩ ?_ ?_⟩
    · rintro i c σ H2 hc ⟨v, rfl, rfl⟩
      rw [tx_get] at hc
      refine ⟨_, rfl, _, rfl, _, _, rfl, rfl, _, rfl, ?_⟩
      rw [occ (hsg c (List.mem_of_getElem? hc))]
      exact iteF ⟨_, rfl, rfl⟩
    · rintro σ H2 ⟨v, rfl, rfl⟩
      exact k
def sp_measured_texts (K : PySem.W.Frag) : Sp := fun vs H Q _ => ∃ (a : Addr) (cl : List (List Nat)) (m n : Nat), vs = [.ref a, .int 1, .str "#."] ∧ SqL K H a (vS cl) ∧ Cl cl m n ∧ ∀ p, H p = none → Q (.ref p) (upd H p (.tup [.int (m : Int), .int (n : Int)]))
theorem ok_measured_texts (T : Txt K mg t) : FnOk P w K mg base CX0 2 t.f_measured_texts t.d_measured_texts ["texts", "least", "signs"] (sp_measured_texts K) := by
  have G_check_pick : FnOk P w K mg base CX0 1 t.f_check_pick t.d_check_pick _ _ := ok_check_pick T
  refine T.measured_texts.F.ok sc_measured_texts (fun vs H Q E h => ?_) (fun cdv A outer s H vs Q E hr h => ?_)
  · obtain ⟨a, cl, m, n, rfl, _⟩ := h
    rfl
  · obtain ⟨a, cl, m, n, rfl, hS, C, k⟩ := h
    have hlen : (vS cl).length = n := by rw [vS_len, C.hn]
    have h0 : 0 < cl.length := by rw [C.hn]; exact C.n1
    have hm0 := C.hm cl[0] (List.getElem_mem h0)
    have c1 := C.n1
    have c2 := C.n40
    have c3 := C.m1
    have c4 := C.m40
    refine ⟨_, (pss_cons (ps_if (PW.pt (pw_or (pt_cmpR op_lt (pe_callB (call_len_seqK (K := K)) rfl T.b_len bt_len (pa_cons (pv 0) pa_nil)) (pv 1) (nomark _)) (pw_or1 (pt_cmpR op_gt (pe_callB (call_len_seqK (K := K)) rfl T.b_len bt_len (pa_cons (pv 0) pa_nil)) (pe_glob (v := .int 40) rfl T.c_MOST_STRANDS.choose_spec ⟨_, rfl⟩) (nomark _)))))
        (pss_one ps_never)
        pss_nil)
      (pss_cons (ps_set (i := 3) sc_measured_texts.nd rfl (Or.inl rfl) (pe_callB call_len_str rfl T.b_len bt_len (pa_cons (pe_ix (ix_listK (K := K)) (pv 0) pe_int (fun _ _ => rfl)) pa_nil)))
      (pss_cons (ps_if (PW.pt (pw_or (pt_cmpR op_lt (pv 3) (pv 1) (nomark _)) (pw_or1 (pt_cmpR op_gt (pv 3) (pe_glob (v := .int 40) rfl T.c_MOST_STRANDS.choose_spec ⟨_, rfl⟩) (nomark _)))))
        (pss_one ps_never)
        pss_nil)
      (pss_cons (ps_for PassesOwn.never rfl (pi_listK (K := K) (pv 0)) (pg_name (i := 4) sc_measured_texts.nd rfl (Or.inl rfl))
        (pss_one (ps_expr (pe_call (G_check_pick.mono (by decide)) hr rfl T.check_pick.m T.check_pick.F.kp T.check_pick.b .nil pass0 (pa_cons (pv 4) (pa_cons (pv 3) (pa_cons (pv 2) pa_nil)))))))
      (pss_one (ps_ret (pe_tup (pa_cons (pv 3) (pa_cons (pe_callB (call_len_seqK (K := K)) rfl T.b_len bt_len (pa_cons (pv 0) pa_nil)) pa_nil))))))))), ?_⟩
    refine ⟨_, rfl, _, _, rfl, .inl hS, _, rfl, _, _, rfl, rfl, _, rfl, ?_⟩
    refine iteDn (by rw [hlen]; omega) ?_
    refine ⟨_, rfl, _, _, rfl, .inl hS, _, _, rfl, rfl, _, rfl, ?_⟩
    refine iteDn (by rw [hlen]; omega) ?_
    refine ⟨_, rfl, _, _, _, _, rfl, rfl, hS, atI_of (by decide) (vS_get (List.getElem?_eq_getElem h0)), _, rfl, (by rw [tx_len, hm0]; exact small40 c4), ?_⟩
    rw [tx_len, hm0]
    refine ⟨_, rfl, _, rfl, _, _, rfl, rfl, _, rfl, ?_⟩
    refine iteDn (by omega) ?_
    refine ⟨_, rfl, _, _, rfl, rfl, _, rfl, ?_⟩
    refine iteDn (by omega) ?_
    refine ⟨_, rfl, _, rfl, ⟨_, hS⟩, for_list (K := K) (a := a) (xs := vS cl) (fun i σ H2 => ∃ v, σ = [some (.ref a), some (.int 1), some (.str "#."), some (.int (m : Int)), v] ∧ H2 = H) ⟨none, rfl, rfl⟩ (fun i σ H2 _ ⟨_, _, e⟩ => e ▸ hS) ?_ ?_⟩
    · rintro i x σ H2 hx ⟨v, rfl, rfl⟩
      obtain ⟨t, ht, rfl⟩ := vS_got hx
      have htm := List.mem_of_getElem? ht
      refine ⟨_, rfl, _, rfl, _, rfl, t, ?_, C.sg t htm, ?_, ⟨_, rfl, rfl⟩⟩
      · rw [C.hm t htm]; rfl
      · rw [C.hm t htm]; exact c4
    · rintro σ H2 ⟨v, rfl, rfl⟩
      refine ⟨_, rfl, _, rfl, _, _, rfl, .inl hS, (by show 2 ≤ sizeLine; decide), fun p hp => ?_⟩
      rw [hlen]
      exact k p hp
def sp_measured (K : PySem.W.Frag) : Sp := fun vs H Q _ => ∃ (a : Addr) (cl : List (List Nat)) (m n : Nat), vs = [.ref a] ∧ SqL K H a (vS cl) ∧ Cl cl m n ∧ ∀ p, H p = none → Q (.ref p) (upd H p (.tup [.int (m : Int), .int (n : Int)]))
theorem ok_measured (T : Txt K mg t) : FnOk P w K mg base CX0 3 t.f_measured t.d_measured ["cloth"] (sp_measured K) := by
  have G_measured_texts : FnOk P w K mg base CX0 2 t.f_measured_texts t.d_measured_texts _ _ := ok_measured_texts T
  refine T.measured.F.ok sc_measured (fun vs H Q E h => ?_) (fun cdv A outer s H vs Q E hr h => ?_)
  · obtain ⟨a, cl, m, n, rfl, _⟩ := h
    rfl
  · obtain ⟨a, cl, m, n, rfl, hS, C, k⟩ := h
    exact ⟨_, (pss_one (ps_ret (pe_call (G_measured_texts.mono (by decide)) hr rfl T.measured_texts.m T.measured_texts.F.kp T.measured_texts.b .nil pass0 (pa_cons (pv 0) (pa_cons pe_int (pa_cons pe_str pa_nil)))))), _, rfl, a, cl, m, n, rfl, hS, C, k⟩
def sp_end_signs (K : PySem.W.Frag) : Sp := fun vs H Q _ => ∃ (a : Addr) (cl : List (List Nat)) (m n e : Nat), vs = [.ref a, .int (e : Int)] ∧ SqL K H a (vS cl) ∧ Cl cl m n ∧ e < m ∧ ∀ H', Same H H' → Q (.str (tx (col cl e))) H'
theorem ok_end_signs (T : Txt K mg t) : FnOk P w K mg base CX0 1 t.f_end_signs t.d_end_signs ["cloth", "end"] (sp_end_signs K) := by
  refine T.end_signs.F.ok sc_end_signs (fun vs H Q E h => ?_) (fun cdv A outer s H vs Q E hr h => ?_)
  · obtain ⟨a, cl, m, n, e, rfl, _⟩ := h
    rfl
  · obtain ⟨a, cl, m, n, e, rfl, hS, C, he, k⟩ := h
    have c2 := C.n40
    have c4 := C.m40
    refine ⟨_, (pss_one (ps_ret (pe_bmK (K := K) PySem.F.plainAttrs_str PySem.F.slot_str_join PySem.F.type_str_join (mt_joinK (K := K)) pe_str (pa_cons (pe_comp (CompOk.mk (caps := [1]) (Nc := ["text", "end"]) rfl (by decide +kernel) (by decide +kernel) (comp_fr (sc0 := defScope s_end_signs) rfl (by decide +kernel)) rfl rfl rfl (by decide +kernel) (fun k j h => match k, h with | 0, h => by obtain rfl := Option.some.inj h; exact ⟨_, rfl, rfl, rfl⟩ | _ + 1, h => by simp at h)) rfl (pi_listK (K := K) (pv 0)) (fun _ _ _ _ _ => .nil) (fun _ _ _ _ _ => (pe_ix ix_str (pv 0) (pv 1) (fun _ _ => rfl)))) pa_nil)))), ?_⟩
    refine ⟨rfl, _, rfl, _, rfl, ⟨_, hS⟩, comp_list (K := K) (a := a) (xs := vS cl) (fun i ys H2 => H2 = H ∧ ys = vS ((cl.take i).map fun t => [t.getD e 0])) ⟨rfl, rfl⟩ ?_ ?_ ?_ ?_⟩
    · rintro i ys H2 hi ⟨rfl, rfl⟩
      refine ⟨hS, ?_⟩
      rw [vS_len, List.length_map, List.length_take]
      omega
    · rw [vS_len, C.hn]; exact small40 c2
    · rintro i x ys H2 hi hx ⟨rfl, rfl⟩
      obtain ⟨t, ht, rfl⟩ := vS_got hx
      have htm := List.mem_of_getElem? ht
      have htl := C.hm t htm
      have hel : e < t.length := by omega
      refine CTurn.no ?_
      refine ⟨_, rfl, _, rfl, _, _, t[e], rfl, rfl, (by rw [tx_len, htl]; exact small40 c4), (by rw [tx_list]; exact atI_nat (List.getElem?_eq_getElem hel)), ?_⟩
      refine CN.of hi ⟨rfl, ?_⟩
      rw [tx_one, vS_app, List.take_add_one, ht, List.map_append]
      simp [List.getD, hel]
    · rintro ys H2 p ⟨rfl, rfl⟩ hp
      rw [vS_len, List.take_length]
      refine ⟨_, _, ((cl.map fun t => [t.getD e 0]).map tx), rfl, rfl, SqL.of (by rw [upd_same, vS_map]), ?_, ?_⟩
      · have e1 := sum1 (fun t : List Nat => t.getD e 0) cl
        rw [e1, List.length_map, List.length_map, C.hn]
        have : n * (Str.length "") = 0 := by rw [show Str.length "" = 0 from by decide +kernel]; omega
        omega
      · rw [show (("" : Str)) = tx [] from by decide +kernel, tx_join]
        have e2 : (cl.map fun t => [t.getD e 0]).flatten = col cl e := flat1 (fun t : List Nat => t.getD e 0) cl
        rw [e2]
        exact k _ (.upd hp)
def sp_ccount : Sp := fun vs H Q _ => ∃ c : Nat, vs = [.int (c : Int)] ∧ 1 ≤ c ∧ c ≤ 40 ∧ Q .non H
theorem ok_check_count (T : Txt K mg t) : FnOk P w K mg base CX0 1 t.f_check_count t.d_check_count ["count"] sp_ccount := by
  refine T.check_count.F.ok sc_check_count (fun vs H Q E h => ?_) (fun cdv A outer s H vs Q E hr h => ?_)
  · obtain ⟨c, rfl, _⟩ := h
    rfl
  · obtain ⟨c, rfl, h1, h2, k⟩ := h
    refine ⟨_, (pss_one (ps_if (PW.pt (pw_or (pt_cmpR op_lt (pv 0) pe_int (nomark _)) (pw_or1 (pt_cmpR op_gt (pv 0) (pe_glob (v := .int 40) rfl T.c_MOST_STRANDS.choose_spec ⟨_, rfl⟩) (nomark _)))))
        (pss_one ps_never)
        pss_nil)), ?_⟩
    refine ⟨_, rfl, _, _, rfl, rfl, _, rfl, ?_⟩
    refine iteDn (by omega) ?_
    refine ⟨_, rfl, _, _, rfl, rfl, _, rfl, ?_⟩
    exact iteDn (by omega) k
def sp_cshaft : Sp := fun vs H Q _ => ∃ v : Int, vs = [.int v] ∧ 0 ≤ v ∧ v < 40 ∧ Q .non H
theorem ok_check_shaft (T : Txt K mg t) : FnOk P w K mg base CX0 1 t.f_check_shaft t.d_check_shaft ["shaft"] sp_cshaft := by
  refine T.check_shaft.F.ok sc_check_shaft (fun vs H Q E h => ?_) (fun cdv A outer s H vs Q E hr h => ?_)
  · obtain ⟨v, rfl, _⟩ := h
    rfl
  · obtain ⟨v, rfl, h1, h2, k⟩ := h
    refine ⟨_, (pss_one (ps_if (PW.pt (pw_or (pt_cmpR op_lt (pv 0) pe_int (nomark _)) (pw_or1 (pt_cmpR op_ge (pv 0) (pe_glob (v := .int 40) rfl T.c_MOST_SHAFTS.choose_spec ⟨_, rfl⟩) (nomark _)))))
        (pss_one ps_never)
        pss_nil)), ?_⟩
    refine ⟨_, rfl, _, _, rfl, rfl, _, rfl, ?_⟩
    refine iteDn (by omega) ?_
    refine ⟨_, rfl, _, _, rfl, rfl, _, rfl, ?_⟩
    exact iteDn (by omega) k
def sp_ctie : Sp := fun vs H Q _ => ∃ (a : Addr) (ks : List Int), vs = [.ref a] ∧ H a = some (.lst (vI ks)) ∧ Rs ks ∧ ks.length ≤ 1000 ∧ Q .non H
theorem ok_check_tie (T : Txt K mg t) : FnOk P w K mg base CX0 2 t.f_check_tie t.d_check_tie ["tie"] sp_ctie := by
  have G_check_shaft : FnOk P w K mg base CX0 1 t.f_check_shaft t.d_check_shaft _ _ := ok_check_shaft T
  refine T.check_tie.F.ok sc_check_tie (fun vs H Q E h => ?_) (fun cdv A outer s H vs Q E hr h => ?_)
  · obtain ⟨a, ks, rfl, _⟩ := h
    rfl
  · obtain ⟨a, ks, rfl, ha, R, hl, k⟩ := h
    refine ⟨_, (pss_one (ps_for PassesOwn.never rfl (pi_range1 rfl T.b_range (pa_cons (pe_callB (call_len_seqK (K := K)) rfl T.b_len bt_len (pa_cons (pv 0) pa_nil)) pa_nil)) (pg_name (i := 1) sc_check_tie.nd rfl (Or.inl rfl))
        (pss_cons (ps_expr (pe_call (G_check_shaft.mono (by decide)) hr rfl T.check_shaft.m T.check_shaft.F.kp T.check_shaft.b .nil pass0 (pa_cons (pe_ix (ix_listK (K := K)) (pv 0) (pv 1) (fun _ _ => rfl)) pa_nil)))
        (pss_one (ps_if (PW.pt (pw_and (pt_cmpR op_gt (pv 1) pe_int (nomark _)) (pw_and1 (pt_cmpR op_le (pe_ix (ix_listK (K := K)) (pv 0) (pv 1) (fun _ _ => rfl)) (pe_ix (ix_listK (K := K)) (pv 0) (pe_op op_sub (pv 1) pe_int) (fun _ _ => rfl)) (nomark _)))))
          (pss_one ps_never)
          pss_nil))))), ?_⟩
    refine ⟨_, rfl, _, _, rfl, .inl (SqL.of ha), _, rfl, (by omega), (by rw [vI_len]; omega), ?_⟩
    rw [Int.toNat_natCast, vI_len]
    refine for_range (lo := 0) (n := ks.length) (fun i σ H2 => ∃ v, σ = [some (.ref a), v] ∧ H2 = H) ⟨none, rfl, rfl⟩ ?_ ?_
    · rintro i σ H2 hi ⟨v, rfl, rfl⟩
      have e1 : atI (vI ks) (0 + (i : Int)) = some (.int ks[i]) := atI_of (by omega) (by rw [z0]; exact vI_get (List.getElem?_eq_getElem hi))
      have b := R.2 _ (List.getElem_mem hi)
      refine ⟨_, rfl, _, rfl, _, _, _, _, rfl, rfl, SqL.of ha, e1, _, rfl, b.1, b.2, ?_⟩
      refine ⟨_, rfl, _, _, rfl, rfl, _, rfl, ?_⟩
      by_cases h0 : i = 0
      · subst h0
        refine iteDn (by omega) ?_
        exact iteF ⟨_, rfl, rfl⟩
      · have hi1 : i - 1 < ks.length := by omega
        have e2 : atI (vI ks) (0 + (i : Int) - 1) = some (.int ks[i - 1]) := atI_of (by omega) (by rw [show (0 + (i : Int) - 1).toNat = i - 1 by omega]; exact vI_get (List.getElem?_eq_getElem hi1))
        have lt := R.1 (i - 1) ks[i - 1] ks[i] (List.getElem?_eq_getElem hi1) (by rw [show i - 1 + 1 = i by omega]; exact List.getElem?_eq_getElem hi)
        refine iteDp (by omega) ?_
        refine ⟨_, rfl, _, rfl, _, _, _, _, rfl, rfl, SqL.of ha, e1, _, rfl, _, rfl, _, _, rfl, rfl, _, _, _, _, rfl, rfl, SqL.of ha, e2, _, _, rfl, rfl, _, rfl, ?_⟩
        refine iteDn (by omega) ?_
        exact ⟨_, rfl, rfl⟩
    · rintro σ H2 ⟨v, rfl, rfl⟩
      exact k
structure NL (H : Hp) (y : Addr) (rs : List Addr) (tss : List (List Int)) : Prop where
  h : H y = some (.lst (rs.map V.ref))
  l : rs.length = tss.length
  r : ∀ (i : Nat) (a : Addr) (ks : List Int), rs[i]? = some a → tss[i]? = some ks → H a = some (.lst (vI ks))
theorem NL.same {H H' : Hp} {y : Addr} {rs : List Addr} {tss : List (List Int)} (N : NL H y rs tss) (s : Same H H') : NL H' y rs tss := ⟨s _ _ N.h, N.l, fun i a ks h1 h2 => s _ _ (N.r i a ks h1 h2)⟩
theorem NL.at {H : Hp} {y : Addr} {rs : List Addr} {tss : List (List Int)} (N : NL H y rs tss) {i : Nat} {a : V} (h : (rs.map V.ref)[i]? = some a) : ∃ r ks, a = .ref r ∧ rs[i]? = some r ∧ tss[i]? = some ks ∧ H r = some (.lst (vI ks)) := by
  rw [List.getElem?_map] at h
  cases e : rs[i]? with
  | none => rw [e] at h; cases h
  | some r =>
    rw [e] at h
    cases h
    have hi : i < tss.length := by rw [← N.l]; exact (List.getElem?_eq_some_iff.mp e).1
    exact ⟨r, tss[i], rfl, rfl, List.getElem?_eq_getElem hi, N.r i r _ e (List.getElem?_eq_getElem hi)⟩
theorem rs_short {ks : List Int} (R : Rs ks) : ks.length ≤ 1000 := by
  have step : ∀ (i : Nat) (a : Int), ks[i]? = some a → (i : Int) ≤ a := by
    intro i
    induction i with
    | zero => exact fun a h => (R.2 a (List.mem_of_getElem? h)).1
    | succ i ih =>
      intro a h
      have hi : i < ks.length := by have := (List.getElem?_eq_some_iff.mp h).1; omega
      have := ih ks[i] (List.getElem?_eq_getElem hi)
      have := R.1 i ks[i] a (List.getElem?_eq_getElem hi) h
      omega
  by_cases h : ks.length = 0
  · omega
  · have hi : ks.length - 1 < ks.length := by omega
    have h1 := step (ks.length - 1) _ (List.getElem?_eq_getElem hi)
    have h2 := R.2 _ (List.getElem_mem hi)
    omega
def sp_csetting : Sp := fun vs H Q _ => ∃ (x y : Addr) (rs : List Addr) (th : List Int) (tss : List (List Int)) (tr : List Int), vs = [.ref x, .ref y] ∧ H x = some (.lst (vI th)) ∧ NL H y rs tss ∧ Ft th tss tr ∧ Q .non H
theorem ok_check_setting (T : Txt K mg t) : FnOk P w K mg base CX0 3 t.f_check_setting t.d_check_setting ["threading", "ties"] sp_csetting := by
  have G_check_count : FnOk P w K mg base CX0 1 t.f_check_count t.d_check_count _ _ := ok_check_count T
  have G_check_shaft : FnOk P w K mg base CX0 1 t.f_check_shaft t.d_check_shaft _ _ := ok_check_shaft T
  have G_check_tie : FnOk P w K mg base CX0 2 t.f_check_tie t.d_check_tie _ _ := ok_check_tie T
  refine T.check_setting.F.ok sc_check_setting (fun vs H Q E h => ?_) (fun cdv A outer s H vs Q E hr h => ?_)
  · obtain ⟨x, y, rs, th, tss, tr, rfl, _⟩ := h
    rfl
  · obtain ⟨x, y, rs, th, tss, tr, rfl, hx, N, F, k⟩ := h
    refine ⟨_, (pss_cons (ps_expr (pe_call (G_check_count.mono (by decide)) hr rfl T.check_count.m T.check_count.F.kp T.check_count.b .nil pass0 (pa_cons (pe_callB (call_len_seqK (K := K)) rfl T.b_len bt_len (pa_cons (pv 0) pa_nil)) pa_nil)))
      (pss_cons (ps_expr (pe_call (G_check_count.mono (by decide)) hr rfl T.check_count.m T.check_count.F.kp T.check_count.b .nil pass0 (pa_cons (pe_callB (call_len_seqK (K := K)) rfl T.b_len bt_len (pa_cons (pv 1) pa_nil)) pa_nil)))
      (pss_cons (ps_for PassesOwn.never rfl (pi_listK (K := K) (pv 0)) (pg_name (i := 2) sc_check_setting.nd rfl (Or.inl rfl))
        (pss_one (ps_expr (pe_call (G_check_shaft.mono (by decide)) hr rfl T.check_shaft.m T.check_shaft.F.kp T.check_shaft.b .nil pass0 (pa_cons (pv 2) pa_nil)))))
      (pss_one (ps_for PassesOwn.never rfl (pi_listK (K := K) (pv 1)) (pg_name (i := 3) sc_check_setting.nd rfl (Or.inl rfl))
        (pss_one (ps_expr (pe_call (G_check_tie.mono (by decide)) hr rfl T.check_tie.m T.check_tie.F.kp T.check_tie.b .nil pass0 (pa_cons (pv 3) pa_nil))))))))), ?_⟩
    refine ⟨_, rfl, _, _, rfl, .inl (SqL.of hx), th.length, (by rw [vI_len] <;> rfl), F.m1, F.m40, ?_⟩
    refine ⟨_, rfl, _, _, rfl, .inl (SqL.of N.h), tss.length, (by rw [List.length_map, N.l] <;> rfl), F.t1, F.t40, ?_⟩
    refine ⟨_, rfl, _, rfl, ⟨_, SqL.of hx⟩, for_list (K := K) (a := x) (xs := vI th) (fun i σ H2 => ∃ v1 v2, σ = [some (.ref x), some (.ref y), v1, v2] ∧ H2 = H) ⟨none, none, rfl, rfl⟩ (fun i σ H2 _ ⟨_, _, _, e⟩ => e ▸ SqL.of hx) ?_ ?_⟩
    · rintro i xv σ H2 hxv ⟨v1, v2, rfl, rfl⟩
      obtain ⟨z, hz, rfl⟩ := vI_got hxv
      have b := F.hth z (List.mem_of_getElem? hz)
      exact ⟨_, rfl, z, rfl, b.1, b.2, _, _, rfl, rfl⟩
    · rintro σ H2 ⟨v1, v2, rfl, rfl⟩
      refine ⟨_, rfl, _, rfl, ⟨_, SqL.of N.h⟩, for_list (K := K) (a := y) (xs := rs.map V.ref) (fun i σ H3 => ∃ v1 v2, σ = [some (.ref x), some (.ref y), v1, v2] ∧ H3 = H2) ⟨v1, v2, rfl, rfl⟩ (fun i σ H3 _ ⟨_, _, _, e⟩ => e ▸ SqL.of N.h) ?_ ?_⟩
      · rintro i xv σ H3 hxv ⟨v1, v2, rfl, rfl⟩
        obtain ⟨r, ks, rfl, _, hks, hr'⟩ := N.at hxv
        have R := F.hti ks (List.mem_of_getElem? hks)
        exact ⟨_, rfl, r, ks, rfl, hr', R, rs_short R, _, _, rfl, rfl⟩
      · rintro σ H3 ⟨v1, v2, rfl, rfl⟩
        exact k
def sp_ctreading : Sp := fun vs H Q _ => ∃ (z : Addr) (th : List Int) (tss : List (List Int)) (tr : List Int), vs = [.ref z, .int (tss.length : Int)] ∧ H z = some (.lst (vI tr)) ∧ Ft th tss tr ∧ Q .non H
theorem ok_check_treading (T : Txt K mg t) : FnOk P w K mg base CX0 2 t.f_check_treading t.d_check_treading ["treading", "treadles"] sp_ctreading := by
  have G_check_count : FnOk P w K mg base CX0 1 t.f_check_count t.d_check_count _ _ := ok_check_count T
  refine T.check_treading.F.ok sc_check_treading (fun vs H Q E h => ?_) (fun cdv A outer s H vs Q E hr h => ?_)
  · obtain ⟨z, th, tss, tr, rfl, _⟩ := h
    rfl
  · obtain ⟨z, th, tss, tr, rfl, hz, F, k⟩ := h
    refine ⟨_, (pss_cons (ps_expr (pe_call (G_check_count.mono (by decide)) hr rfl T.check_count.m T.check_count.F.kp T.check_count.b .nil pass0 (pa_cons (pe_callB (call_len_seqK (K := K)) rfl T.b_len bt_len (pa_cons (pv 0) pa_nil)) pa_nil)))
      (pss_one (ps_for PassesOwn.never rfl (pi_listK (K := K) (pv 0)) (pg_name (i := 2) sc_check_treading.nd rfl (Or.inl rfl))
        (pss_one (ps_if (PW.pt (pw_or (pt_cmpR op_lt (pv 2) pe_int (nomark _)) (pw_or1 (pt_cmpR op_ge (pv 2) (pv 1) (nomark _)))))
          (pss_one ps_never)
          pss_nil))))), ?_⟩
    refine ⟨_, rfl, _, _, rfl, .inl (SqL.of hz), tr.length, (by rw [vI_len] <;> rfl), F.n1, F.n40, ?_⟩
    refine ⟨_, rfl, _, rfl, ⟨_, SqL.of hz⟩, for_list (K := K) (a := z) (xs := vI tr) (fun i σ H2 => ∃ v1, σ = [some (.ref z), some (.int (tss.length : Int)), v1] ∧ H2 = H) ⟨none, rfl, rfl⟩ (fun i σ H2 _ ⟨_, _, e⟩ => e ▸ SqL.of hz) ?_ ?_⟩
    · rintro i xv σ H2 hxv ⟨v1, rfl, rfl⟩
      obtain ⟨v, hv, rfl⟩ := vI_got hxv
      have b := F.htr v (List.mem_of_getElem? hv)
      refine ⟨_, rfl, _, _, rfl, rfl, _, rfl, ?_⟩
      refine iteDn (by omega) ?_
      refine ⟨_, rfl, _, rfl, _, _, rfl, rfl, _, rfl, ?_⟩
      refine iteDn (by omega) ?_
      exact ⟨_, rfl, rfl⟩
    · rintro σ H2 ⟨v1, rfl, rfl⟩
      exact k
def SameB (r : Addr) (H H' : Hp) : Prop := ∀ b o, b ≠ r → H b = some o → H' b = some o
def df (a b c : Addr) : List (Str × V) := [("threading", .ref a), ("ties", .ref b), ("treading", .ref c)]
theorem df_th (a b c : Addr) : (df a b c).lookup ("threading" : Str) = some (V.ref a) := rfl
theorem df_tr (a b c : Addr) : (df a b c).lookup ("treading" : Str) = some (V.ref c) := rfl
theorem NL.other {H H' : Hp} {r C dx y : Addr} {fs : List (Str × V)} {rs : List Addr} {tss : List (List Int)} (N : NL H y rs tss) (b : SameB r H H') (hr : H r = some (.ins C dx fs)) : NL H' y rs tss :=
  ⟨b _ _ (fun e => by have := N.h; rw [e, hr] at this; cases this) N.h, N.l, fun i a ks h1 h2 => b _ _ (fun e => by have := N.r i a ks h1 h2; rw [e, hr] at this; cases this) (N.r i a ks h1 h2)⟩
structure IsD (t : Adr) (H : Hp) (d dx a b c : Addr) (qs : List Addr) (th : List Int) (tss : List (List Int)) (tr : List Int) : Prop where
  o : H d = some (.ins t.e_Draft dx (df a b c))
  ha : H a = some (.lst (vI th))
  hb : NL H b qs tss
  hc : H c = some (.lst (vI tr))
theorem IsD.same {H H' : Hp} {d dx a b c : Addr} {qs : List Addr} {th : List Int} {tss : List (List Int)} {tr : List Int} (D : IsD t H d dx a b c qs th tss tr) (s : Same H H') : IsD t H' d dx a b c qs th tss tr := ⟨s _ _ D.o, s _ _ D.ha, D.hb.same s, s _ _ D.hc⟩
def sp_dinit (t : Adr) : Sp := fun vs H Q _ => ∃ (r dx x y z : Addr) (rs : List Addr) (th : List Int) (tss : List (List Int)) (tr : List Int), vs = [.ref r, .ref x, .ref y, .ref z] ∧ H r = some (.ins t.e_Draft dx []) ∧ H x = some (.lst (vI th)) ∧ NL H y rs tss ∧ H z = some (.lst (vI tr)) ∧ Ft th tss tr ∧
  ∀ a b c qs H', SameB r H H' → H a = none → H b = none → H c = none → (∀ q ∈ qs, H q = none) → IsD t H' r dx a b c qs th tss tr → Q .non H'
theorem ok_Draft___init__ (T : Txt K mg t) : FnOk P w K mg base CX0 4 t.f_Draft___init__ t.d_Draft___init__ ["self", "threading", "ties", "treading"] (sp_dinit t) := by
  have G_check_setting : FnOk P w K mg base CX0 3 t.f_check_setting t.d_check_setting _ _ := ok_check_setting T
  have G_check_treading : FnOk P w K mg base CX0 2 t.f_check_treading t.d_check_treading _ _ := ok_check_treading T
  refine T.m_Draft___init__.F.ok sc_Draft___init__ (fun vs H Q E h => ?_) (fun cdv A outer s H vs Q E hr h => ?_)
  · obtain ⟨r, dx, x, y, z, rs, th, tss, tr, rfl, _⟩ := h
    rfl
  · obtain ⟨r, dx, x, y, z, rs, th, tss, tr, rfl, hr1, hx, N, hz, F, k⟩ := h
    have hsz : sizeLine = 16777216 := sizeLine_eq
    refine ⟨_, (pss_cons (ps_expr (pe_call (G_check_setting.mono (by decide)) hr rfl T.check_setting.m T.check_setting.F.kp T.check_setting.b .nil pass0 (pa_cons (pv 1) (pa_cons (pv 2) pa_nil))))
      (pss_cons (ps_expr (pe_call (G_check_treading.mono (by decide)) hr rfl T.check_treading.m T.check_treading.F.kp T.check_treading.b .nil pass0 (pa_cons (pv 3) (pa_cons (pe_callB (call_len_seqK (K := K)) rfl T.b_len bt_len (pa_cons (pv 2) pa_nil)) pa_nil))))
      (pss_cons (ps_fldK (K := K) (pv 0) (pe_callTy (call_list_ofK (K := K)) rfl T.b_list bt_list (pa_cons (pv 1) pa_nil)))
      (pss_cons (ps_fldK (K := K) (pv 0) (pe_comp (CompOk.mk (caps := []) (Nc := ["tie"]) rfl (by decide +kernel) (by decide +kernel) (comp_fr (sc0 := defScope s_Draft___init__) rfl (by decide +kernel)) rfl rfl rfl (by decide +kernel) (fun _ _ h => by simp at h)) rfl (pi_listK (K := K) (pv 2)) (fun _ _ _ _ _ => .nil) (fun _ _ _ _ _ => (pe_callTy (call_list_ofK (K := K)) rfl T.b_list bt_list (pa_cons (pv 0) pa_nil)))))
      (pss_one (ps_fldK (K := K) (pv 0) (pe_callTy (call_list_ofK (K := K)) rfl T.b_list bt_list (pa_cons (pv 3) pa_nil)))))))), ?_⟩
    refine ⟨_, rfl, _, rfl, x, y, rs, th, tss, tr, rfl, hx, N, F, ?_⟩
    refine ⟨_, rfl, _, rfl, _, _, rfl, .inl (SqL.of N.h), z, th, tss, tr, (by rw [List.length_map, N.l] <;> rfl), hz, F, ?_⟩
    refine ⟨_, rfl, _, _, rfl, .inl (SqL.of hx), fun a na => ?_⟩
    have s1 : Same H (upd H a (.lst (vI th))) := .upd na
    have nra : a ≠ r := fun e => by rw [e, hr1] at na; cases na
    refine ⟨_, rfl, _, _, _, _, rfl, s1 _ _ hr1, T.o_Draft.c, T.na_Draft_threading, (by decide), ?_⟩
    generalize hH2 : upd (upd H a (.lst (vI th))) r (.ins t.e_Draft dx (putF "threading" (.ref a) [])) = H2
    have b2 : SameB r H H2 := fun b o nb e => by rw [← hH2, upd_ne nb]; exact s1 _ _ e
    have hr2 : H2 r = some (.ins t.e_Draft dx [("threading", .ref a)]) := by rw [← hH2]; exact upd_same
    have ha2 : H2 a = some (.lst (vI th)) := by rw [← hH2, upd_ne nra]; exact upd_same
    have fre : ∀ q, H2 q = none → H q = none := fun q hq => by
      have nq : q ≠ r := fun e => by rw [e, hr2] at hq; cases hq
      cases e : H q with
      | none => rfl
      | some o => rw [b2 q o nq e] at hq; cases hq
    clear hH2
    have N2 := N.other b2 hr1
    refine ⟨_, rfl, _, rfl, ⟨_, SqL.of N2.h⟩, comp_list (K := K) (a := y) (xs := rs.map V.ref) (fun i ys H3 => Same H2 H3 ∧ ∃ qs : List Addr, ys = qs.map V.ref ∧ qs.length = i ∧ (∀ q ∈ qs, H2 q = none) ∧ ∀ (j : Nat) (q : Addr) (ks : List Int), qs[j]? = some q → tss[j]? = some ks → H3 q = some (.lst (vI ks)))
      ⟨.refl _, [], rfl, rfl, fun q hq => (by cases hq), fun j q ks h => (by simp at h)⟩ ?_ ?_ ?_ ?_⟩
    · rintro i ys H3 hi ⟨s3, qs, rfl, hq, _⟩
      exact ⟨SqL.of (s3 _ _ N2.h), by rw [List.length_map]; omega⟩
    · rw [List.length_map, N.l]; have := F.t40; omega
    · rintro i xv ys H3 hi hxv ⟨s3, qs, rfl, hq, nq, hqs⟩
      obtain ⟨r', ks', rfl, _, hks, hr'⟩ := N2.at hxv
      refine CTurn.no ?_
      refine ⟨_, rfl, _, _, rfl, .inl (SqL.of (s3 _ _ hr')), fun l nl => ?_⟩
      refine CN.of hi ⟨s3.new nl, qs ++ [l], by rw [List.map_append]; rfl, by rw [List.length_append, hq]; rfl, fun q h => ?_, fun j q ks h1 h2 => ?_⟩
      · rcases List.mem_append.mp h with h | h
        · exact nq q h
        · rw [List.mem_singleton.mp h]; exact s3.free nl
      · by_cases hj : j < qs.length
        · rw [List.getElem?_append_left hj] at h1
          exact (Same.upd nl) _ _ (hqs j q ks h1 h2)
        · rw [List.getElem?_append_right (by omega)] at h1
          have e0 : j = i := by
            have := (List.getElem?_eq_some_iff.mp h1).1
            simp at this
            omega
          rw [show j - qs.length = 0 by omega] at h1
          have e1 : l = q := by simpa using h1
          rw [e0, hks] at h2
          cases h2
          rw [← e1]
          exact upd_same
    · rintro ys H3 b ⟨s3, qs, rfl, hq, nq, hqs⟩ nb
      rw [List.length_map, N.l] at hq
      have s4 : Same H2 (upd H3 b (.lst (qs.map V.ref))) := s3.new nb
      have nbr : b ≠ r := fun e => by rw [e, s3 _ _ hr2] at nb; cases nb
      refine ⟨_, rfl, _, _, _, _, rfl, s4 _ _ hr2, T.o_Draft.c, T.na_Draft_ties, (by show 1 < 1000; decide), ?_⟩
      generalize hH5 : upd (upd H3 b (.lst (qs.map V.ref))) r (.ins t.e_Draft dx (putF "ties" (.ref b) [("threading", .ref a)])) = H5
      have b5 : SameB r H2 H5 := fun b' o nb e => by rw [← hH5, upd_ne nb]; exact s4 _ _ e
      have hr5 : H5 r = some (.ins t.e_Draft dx [("threading", .ref a), ("ties", .ref b)]) := by rw [← hH5]; exact upd_same
      have hb5 : H5 b = some (.lst (qs.map V.ref)) := by rw [← hH5, upd_ne nbr]; exact upd_same
      have hq5 : ∀ (j : Nat) (q : Addr) (ks : List Int), qs[j]? = some q → tss[j]? = some ks → H5 q = some (.lst (vI ks)) := fun j q ks h1 h2 => by
        have nqr : q ≠ r := fun e => by have := nq q (List.mem_of_getElem? h1); rw [e, hr2] at this; cases this
        rw [← hH5, upd_ne nqr]
        exact (Same.upd nb) _ _ (hqs j q ks h1 h2)
      clear hH5
      have nzr : z ≠ r := fun e => by rw [e, hr1] at hz; cases hz
      have hz5 : H5 z = some (.lst (vI tr)) := b5 _ _ nzr (b2 _ _ nzr hz)
      refine ⟨_, rfl, _, _, rfl, .inl (SqL.of hz5), fun c nc => ?_⟩
      have s6 : Same H5 (upd H5 c (.lst (vI tr))) := .upd nc
      have ncr : c ≠ r := fun e => by rw [e, hr5] at nc; cases nc
      refine ⟨_, rfl, _, _, _, _, rfl, s6 _ _ hr5, T.o_Draft.c, T.na_Draft_treading, (by show 2 < 1000; decide), ?_⟩
      have f5 : ∀ q, H5 q = none → H q = none := fun q h => fre q (by
        have nqr : q ≠ r := fun e => by rw [e, hr5] at h; cases h
        cases e : H2 q with
        | none => rfl
        | some o => rw [b5 q o nqr e] at h; cases h)
      refine k a b c qs _ (fun b' o nb' e => by rw [upd_ne nb']; exact s6 _ _ (b5 _ _ nb' (b2 _ _ nb' e))) na (fre b (s3.free nb)) (f5 c nc) (fun q h => fre q (nq q h)) ⟨upd_same, ?_, ⟨?_, hq, fun j q ks h1 h2 => ?_⟩, ?_⟩
      · rw [upd_ne nra]; exact s6 _ _ (b5 _ _ nra ha2)
      · rw [upd_ne nbr]; exact s6 _ _ hb5
      · have nqr : q ≠ r := fun e => by have := nq q (List.mem_of_getElem? h1); rw [e, hr2] at this; cases this
        rw [upd_ne nqr]; exact s6 _ _ (hq5 j q ks h1 h2)
      · rw [upd_ne ncr]; exact upd_same
theorem inV_vS (u : List Nat) : ∀ f : List (List Nat), inV (.str (tx u)) (vS f) = decide (u ∈ f)
  | [] => by simp [inV, vS]
  | k :: f => by
    have ih := inV_vS u f
    unfold inV vS at ih ⊢
    rw [List.map_cons, List.any_cons, ih]
    by_cases h : k = u
    · subst h
      have : eqV (V.str (tx k)) (V.str (tx k)) = true := eqV_refl rfl
      rw [this]
      simp
    · have : eqV (V.str (tx k)) (V.str (tx u)) = false := by
        show (tx k == tx u) = false
        rw [beq_eq_false_iff_ne]
        exact fun z => h (tx_inj z)
      rw [this, Bool.false_or, decide_eq_decide]
      exact ⟨List.mem_cons_of_mem _, fun z => by
        rcases List.mem_cons.mp z with e | e
        · exact absurd e.symm h
        · exact e⟩
def sp_unlike (K : PySem.W.Frag) : Sp := fun vs H Q _ => ∃ (a : Addr) (us : List (List Nat)), vs = [.ref a] ∧ SqL K H a (vS us) ∧ us.length ≤ 40 ∧ ∀ l H', Same H H' → H l = none → H' l = some (.lst (vS (unl us))) → Q (.ref l) H'
theorem ok_unlike (T : Txt K mg t) : FnOk P w K mg base CX0 1 t.f_unlike t.d_unlike ["things"] (sp_unlike K) := by
  refine T.unlike.F.ok sc_unlike (fun vs H Q E h => ?_) (fun cdv A outer s H vs Q E hr h => ?_)
  · obtain ⟨a, us, rfl, _⟩ := h
    rfl
  · obtain ⟨a, us, rfl, hS, hl, k⟩ := h
    refine ⟨_, (pss_cons (ps_set (i := 1) sc_unlike.nd rfl (Or.inl rfl) (pe_lst pa_nil))
      (pss_cons (ps_for PassesOwn.never rfl (pi_listK (K := K) (pv 0)) (pg_name (i := 2) sc_unlike.nd rfl (Or.inl rfl))
        (pss_one (ps_if (pt_cmpR (op_notIn_seqK (K := K)) (pv 2) (pv 1) rfl)
          (pss_one (ps_expr (pe_bmK (K := K) PySem.F.plainAttrs_list PySem.F.slot_list_append PySem.F.type_list_append mt_append (pv 1) (pa_cons (pv 2) pa_nil))))
          pss_nil)))
      (pss_one (ps_ret (pv 1))))), ?_⟩
    refine ⟨Nat.zero_le _, fun q nq => ?_⟩
    have s1 : Same H (upd H q (.lst [])) := .upd nq
    refine ⟨_, rfl, _, rfl, ⟨_, s1.seq hS⟩, ?_⟩
    refine for_list (K := K) (a := a) (xs := vS us) (fun i σ H2 => ∃ (v : Option V), σ = [some (.ref a), some (.ref q), v] ∧ Same H H2 ∧ H2 q = some (.lst (vS (unl (us.take i)))))
      ⟨none, rfl, s1, upd_same⟩ (fun i σ H2 _ ⟨_, _, s2, _⟩ => s2.seq hS) ?_ ?_
    · rintro i xv σ H2 hx ⟨v, rfl, s2, h2⟩
      have hil : i < us.length := by
        have := (List.getElem?_eq_some_iff.mp hx).1
        rwa [vS_len] at this
      obtain ⟨u, hu, rfl⟩ := vS_got hx
      have et : us.take (i + 1) = us.take i ++ [u] := by rw [List.take_add_one, hu]; rfl
      have lf : (unl (us.take i)).length ≤ i := Nat.le_trans (unl_le _) (by rw [List.length_take]; omega)
      refine ⟨_, rfl, _, rfl, _, _, rfl, .inl (SqL.of h2), rfl, vS_flat _, _, rfl, ?_⟩
      show if (!inV (.str (tx u)) (vS (unl (us.take i)))) = true then _ else _
      rw [inV_vS]
      by_cases hm : u ∈ unl (us.take i)
      · refine iteNS hm ?_
        exact ⟨_, rfl, s2, by rw [et, unl_snoc, if_pos hm]; exact h2⟩
      · refine iteNp hm ?_
        refine ⟨_, rfl, .inl ⟨rfl, _, SqL.of h2⟩, _, rfl, _, _, _, rfl, rfl, h2, (by rw [vS_len]; exact small40 (by omega)), ?_⟩
        rw [vS_app]
        exact ⟨_, rfl, s2.over nq, by rw [et, unl_snoc, if_neg hm]; exact upd_same⟩
    · rintro σ H2 ⟨v, rfl, s2, h2⟩
      rw [vS_len, List.take_length] at h2
      exact ⟨_, rfl, k q H2 s2 nq h2⟩
theorem nodup_le : ∀ (m : Nat) (l : List Nat), l.Nodup → (∀ x ∈ l, x < m) → l.length ≤ m
  | 0, l, _, h => by
    cases l with
    | nil => exact Nat.le_refl _
    | cons a r => exact absurd (h a List.mem_cons_self) (by omega)
  | m + 1, l, n, h => by
    have := nodup_le m (l.erase m) (n.erase m) fun x hx => by
      have g := n.mem_erase_iff.mp hx
      have := h x g.2
      omega
    have e := List.length_erase (a := m) (l := l)
    split at e <;> omega
theorem nodup40 {ds : List Int} (n : ds.Nodup) (h : ∀ z ∈ ds, 0 ≤ z ∧ z < 40) : ds.length < 64 := by
  have := nodup_le 40 (ds.map Int.toNat) (by
    rw [List.Nodup, List.pairwise_map]
    refine n.imp_of_mem fun {a b} ha hb ne e => ne ?_
    have := h a ha
    have := h b hb
    omega) fun x hx => by
      obtain ⟨z, hz, rfl⟩ := List.mem_map.mp hx
      have := h z hz
      omega
  rw [List.length_map] at this
  omega
def TieOf (th : List Int) (u : List Nat) (ks : List Int) : Prop := ∀ z : Int, z ∈ ks ↔ ∃ e : Nat, th[e]? = some z ∧ u[e]? = some 35
def sp_over : Sp := fun vs H Q _ => ∃ (x : Addr) (th : List Int) (u : List Nat), vs = [.ref x, .str (tx u)] ∧ H x = some (.lst (vI th)) ∧ th.length = u.length ∧ u.length ≤ 40 ∧ (∀ z ∈ th, 0 ≤ z ∧ z < 40) ∧ ∀ l ks H', Same H H' → H l = none → H' l = some (.lst (vI ks)) → Rs ks → TieOf th u ks → Q (.ref l) H'
theorem ok_shafts_over (T : Txt K mg t) : FnOk P w K mg base CX0 1 t.f_shafts_over t.d_shafts_over ["threading", "text"] sp_over := by
  refine T.shafts_over.F.ok sc_shafts_over (fun vs H Q E h => ?_) (fun cdv A outer s H vs Q E hr h => ?_)
  · obtain ⟨x, th, u, rfl, _⟩ := h
    rfl
  · obtain ⟨x, th, u, rfl, hx, hlu, h40, hth, k⟩ := h
    have hsz : sizeLine = 16777216 := sizeLine_eq
    refine ⟨_, (pss_one (ps_ret (pe_sortSet (K := K) rfl T.b_sorted rfl T.b_set (pe_comp2K (K := K) (CompOk2.mk (caps := []) (Nc := ["shaft", "sign"]) rfl (by decide +kernel) (by decide +kernel) (comp_fr (sc0 := defScope s_shafts_over) rfl (by decide +kernel)) rfl rfl rfl rfl rfl (by decide +kernel) (fun _ _ h => by simp at h)) rfl (pi_zip2 (K := K) rfl T.b_zip (pa_cons (pv 0) (pa_cons (pv 1) pa_nil))) (fun _ _ _ _ _ => .one (pt_cmpR op_eq (pv 1) pe_str (nomark _))) (fun _ _ _ _ _ => (pv 0)))))), ?_⟩
    refine ⟨_, rfl, _, rfl, .l x, .s (tx u), rfl, trivial, ⟨_, SqL.of hx⟩, trivial, ?_⟩
    refine comp_zip (n := u.length) (fun i => (vI th).getD i .non) (fun i => .str ⟨#[u.getD i 0]⟩) (fun i ys H2 => Same H H2 ∧ ∃ ns : List Int, ys = vI ns ∧ ns.length ≤ i ∧ ∀ z : Int, z ∈ ns ↔ ∃ e : Nat, e < i ∧ th[e]? = some z ∧ u[e]? = some 35) ⟨.refl _, [], rfl, Nat.le_refl _, fun z => ⟨fun h => (by cases h), fun ⟨e, h, _⟩ => absurd h (Nat.not_lt_zero _)⟩⟩ ?_ ?_ ?_ ?_ ?_ ?_ ?_
    · rintro i ys H2 hi ⟨s2, ns, rfl, hn, _⟩
      rw [vI_len]
      exact hn
    · omega
    · rintro i ys H2 hi ⟨s2, _⟩
      exact src_lst (SqL.of (s2 _ _ hx)) (by rw [vI_len]; omega)
    · rintro i ys H2 hi _
      exact src_tx hi
    · rintro ys H2 ⟨s2, _⟩
      exact ⟨⟨_, SqL.of (s2 _ _ hx)⟩, trivial, .inl ⟨_, SqL.of (s2 _ _ hx), by rw [vI_len]; exact hlu⟩⟩
    · rintro i ys H2 T2 hi ⟨s2, ns, rfl, hn, hm⟩ nT
      have hit : i < th.length := by omega
      have ev : (vI th).getD i .non = .int th[i] := by
        rw [List.getD_eq_getElem?_getD, vI_get (List.getElem?_eq_getElem hit)]
        rfl
      have eu : u.getD i 0 = u[i] := by
        rw [List.getD_eq_getElem?_getD, List.getElem?_eq_getElem hi]
        rfl
      rw [ev, eu]
      have s3 : Same H (upd H2 T2 (.tup [.int th[i], .str ⟨#[u[i]]⟩])) := s2.new nT
      unfold CTurn
      refine ⟨_, rfl, rfl, _, rfl, ?_⟩
      have hh : ("#" : Str) = ⟨#[35]⟩ := by decide +kernel
      rw [hh]
      refine ite2D (fun h => ?_) (fun h => ?_)
      · have h35 : u[i] = 35 := sg_eq.mp h
        refine ⟨_, rfl, ?_⟩
        refine CN.of hi ⟨s3, ns ++ [th[i]], vI_app _ _, by rw [List.length_append]; show ns.length + 1 ≤ i + 1; omega, fun z => ?_⟩
        rw [List.mem_append, List.mem_singleton, hm z]
        constructor
        · rintro (⟨e, h1, h2⟩ | rfl)
          · exact ⟨e, by omega, h2⟩
          · exact ⟨i, by omega, List.getElem?_eq_getElem hit, by rw [List.getElem?_eq_getElem hi, h35]⟩
        · rintro ⟨e, h1, h2, h3⟩
          by_cases q : e = i
          · subst q
            rw [List.getElem?_eq_getElem hit] at h2
            exact .inr (Option.some.inj h2).symm
          · exact .inl ⟨e, by omega, h2, h3⟩
      · refine CN.of hi ⟨s3, ns, rfl, by omega, fun z => ?_⟩
        rw [hm z]
        constructor
        · rintro ⟨e, h1, h2⟩
          exact ⟨e, by omega, h2⟩
        · rintro ⟨e, h1, h2, h3⟩
          by_cases q : e = i
          · subst q
            rw [List.getElem?_eq_getElem hi] at h3
            exact absurd (sg_eq.mpr (Option.some.inj h3)) h
          · exact ⟨e, by omega, h2, h3⟩
    · rintro ys H2 p ⟨s2, ns, rfl, hn, hm⟩ np
      have inth : ∀ z ∈ ns, z ∈ th := fun z hz => by
        obtain ⟨e, _, h2, _⟩ := (hm z).mp hz
        exact List.mem_of_getElem? h2
      refine ⟨_, _, rfl, SqL.of upd_same, by omega, fun ds nd hs => nodup40 nd fun z hz => hth z (inth z (hs z hz)), fun l ks hk hp nl => ?_⟩
      have s3 : Same H (upd H2 p (.lst (vI ns))) := s2.new np
      refine k l ks _ (s3.new nl) (s3.free nl) upd_same ⟨fun i a b e1 e2 => ?_, fun a ha => hth a (inth a ((hk a).mp ha))⟩ fun z => ?_
      · obtain ⟨i1, rfl⟩ := List.getElem?_eq_some_iff.mp e1
        obtain ⟨i2, rfl⟩ := List.getElem?_eq_some_iff.mp e2
        exact List.pairwise_iff_getElem.mp hp i (i + 1) i1 i2 (by omega)
      · rw [hk z, hm z]
        exact ⟨fun ⟨e, _, h⟩ => ⟨e, h⟩, fun ⟨e, h1, h2⟩ => ⟨e, (List.getElem?_eq_some_iff.mp h2).1, h1, h2⟩⟩
theorem ix_text {f : List (List Nat)} {u : List Nat} (h : u ∈ f) : (f.map tx)[ix f u]? = some (tx u) ∧ (∀ i, i < ix f u → (f.map tx)[i]? ≠ some (tx u)) ∧ ix f u < f.length := by
  refine ⟨by rw [List.getElem?_map, ix_at h]; rfl, fun i hi z => ?_, ix_lt h⟩
  rw [List.getElem?_map] at z
  obtain ⟨y, hy, e⟩ := Option.map_eq_some_iff.mp z
  rw [tx_inj e] at hy
  exact ix_no hi hy
theorem nts_app (l : List Nat) (z : Nat) : nts l ++ [(z : Int)] = nts (l ++ [z]) := by unfold nts; rw [List.map_append]; rfl
def numT {α : Type} [DecidableEq α] (l : List α) (i : Nat) : List Nat := (l.take i).map fun x => ix (unl l) x
theorem numT_all {α : Type} [DecidableEq α] (l : List α) : numT l l.length = num l := by unfold numT num; rw [List.take_length]
theorem numT_add {α : Type} [DecidableEq α] {l : List α} {i : Nat} {x : α} (h : l[i]? = some x) : numT l (i + 1) = numT l i ++ [ix (unl l) x] := by
  unfold numT
  rw [List.take_add_one, h, List.map_append]
  rfl
theorem numT_len {α : Type} [DecidableEq α] {l : List α} {i : Nat} (h : i ≤ l.length) : (numT l i).length = i := by
  unfold numT
  rw [List.length_map, List.length_take]
  omega
theorem nts_num {α : Type} [DecidableEq α] {l : List α} {z : Int} (h : z ∈ nts (num l)) : 0 ≤ z ∧ z < ((unl l).length : Int) := by
  obtain ⟨y, hy, rfl⟩ := nts_mem.mp h
  have := num_lt hy
  omega
def sp_least (K : PySem.W.Frag) (t : Adr) : Sp := fun vs H Q _ => ∃ (a : Addr) (cl : List (List Nat)) (m n : Nat), vs = [.ref a] ∧ SqL K H a (vS cl) ∧ Cl cl m n ∧
  ∀ d dx a' b' c' qs tss H', Same H H' → H d = none → IsD t H' d dx a' b' c' qs (nts (num (cols cl m))) tss (nts (num cl)) → Q (.ref d) H'
theorem ok_least_draft (T : Txt K mg t) : FnOk P w K mg base CX0 6 t.f_least_draft t.d_least_draft ["cloth"] (sp_least K t) := by
  have G_measured : FnOk P w K mg base CX0 3 t.f_measured t.d_measured _ _ := ok_measured T
  have G_end_signs : FnOk P w K mg base CX0 1 t.f_end_signs t.d_end_signs _ _ := ok_end_signs T
  have G_unlike : FnOk P w K mg base CX0 1 t.f_unlike t.d_unlike _ _ := ok_unlike T
  have G_shafts_over : FnOk P w K mg base CX0 1 t.f_shafts_over t.d_shafts_over _ _ := ok_shafts_over T
  have G_Draft___init__ : FnOk P w K mg base CX0 4 t.f_Draft___init__ t.d_Draft___init__ _ _ := ok_Draft___init__ T
  refine T.least_draft.F.ok sc_least_draft (fun vs H Q E h => ?_) (fun cdv A outer s H vs Q E hr h => ?_)
  · obtain ⟨a, cl, m, n, rfl, _⟩ := h
    rfl
  · obtain ⟨a, cl, m, n, rfl, hS, C, k⟩ := h
    refine ⟨_, (pss_cons (ps_set (i := 1) sc_least_draft.nd rfl (Or.inl rfl) (pe_call (G_measured.mono (by decide)) hr rfl T.measured.m T.measured.F.kp T.measured.b .nil pass0 (pa_cons (pv 0) pa_nil)))
      (pss_cons (ps_setC (i := 2) (CompOk.mk (caps := [0]) (Nc := ["end", "cloth"]) rfl (by decide +kernel) (by decide +kernel) (comp_fr (sc0 := defScope s_least_draft) rfl (by decide +kernel)) rfl rfl rfl (by decide +kernel) (fun k j h => match k, h with | 0, h => by obtain rfl := Option.some.inj h; exact ⟨_, rfl, rfl, rfl⟩ | _ + 1, h => by simp at h)) rfl sc_least_draft.nd rfl rfl (pi_range1 rfl T.b_range (pa_cons (pe_ix (ix_tupK (K := K)) (pv 1) pe_int (fun _ _ => rfl)) pa_nil)) (fun _ _ _ _ _ => .nil) (fun _ _ _ _ _ => (pe_call (G_end_signs.mono (by decide)) hr rfl T.end_signs.m T.end_signs.F.kp T.end_signs.b .nil pass0 (pa_cons (pv 1) (pa_cons (pv 0) pa_nil)))) rfl)
      (pss_cons (ps_set (i := 3) sc_least_draft.nd rfl (Or.inr rfl) (pe_call (G_unlike.mono (by decide)) hr rfl T.unlike.m T.unlike.F.kp T.unlike.b .nil pass0 (pa_cons (pv 2) pa_nil)))
      (pss_cons (ps_set (i := 4) sc_least_draft.nd rfl (Or.inr rfl) (pe_call (G_unlike.mono (by decide)) hr rfl T.unlike.m T.unlike.F.kp T.unlike.b .nil pass0 (pa_cons (pv 0) pa_nil)))
      (pss_cons (ps_set (i := 5) sc_least_draft.nd rfl (Or.inr rfl) (pe_comp (CompOk.mk (caps := [3]) (Nc := ["signs", "unlike_ends"]) rfl (by decide +kernel) (by decide +kernel) (comp_fr (sc0 := defScope s_least_draft) rfl (by decide +kernel)) rfl rfl rfl (by decide +kernel) (fun k j h => match k, h with | 0, h => by obtain rfl := Option.some.inj h; exact ⟨_, rfl, rfl, rfl⟩ | _ + 1, h => by simp at h)) rfl (pi_listK (K := K) (pv 2)) (fun _ _ _ _ _ => .nil) (fun _ _ _ _ _ => (pe_bmK (K := K) PySem.F.plainAttrs_list PySem.F.slot_list_index PySem.F.type_list_index mt_idxL (pv 1) (pa_cons (pv 0) pa_nil)))))
      (pss_cons (ps_setC (i := 6) (CompOk.mk (caps := [4]) (Nc := ["text", "unlike_picks"]) rfl (by decide +kernel) (by decide +kernel) (comp_fr (sc0 := defScope s_least_draft) rfl (by decide +kernel)) rfl rfl rfl (by decide +kernel) (fun k j h => match k, h with | 0, h => by obtain rfl := Option.some.inj h; exact ⟨_, rfl, rfl, rfl⟩ | _ + 1, h => by simp at h)) rfl sc_least_draft.nd rfl rfl (pi_listK (K := K) (pv 0)) (fun _ _ _ _ _ => .nil) (fun _ _ _ _ _ => (pe_bmK (K := K) PySem.F.plainAttrs_list PySem.F.slot_list_index PySem.F.type_list_index mt_idxL (pv 1) (pa_cons (pv 0) pa_nil))) rfl)
      (pss_one (ps_ret (pe_make T.o_Draft.m (G_Draft___init__.mono (by decide)) hr rfl T.k_Draft T.m_Draft___init__.b .nil pass0 (pa_cons (pv 5) (pa_cons (pe_comp (CompOk.mk (caps := [5]) (Nc := ["text", "threading"]) rfl (by decide +kernel) (by decide +kernel) (comp_fr (sc0 := defScope s_least_draft) rfl (by decide +kernel)) rfl rfl rfl (by decide +kernel) (fun k j h => match k, h with | 0, h => by obtain rfl := Option.some.inj h; exact ⟨_, rfl, rfl, rfl⟩ | _ + 1, h => by simp at h)) rfl (pi_listK (K := K) (pv 4)) (fun _ _ _ _ _ => .nil) (fun _ _ _ _ _ => (pe_call (G_shafts_over.mono (by decide)) hr rfl T.shafts_over.m T.shafts_over.F.kp T.shafts_over.b .nil pass0 (pa_cons (pv 1) (pa_cons (pv 0) pa_nil))))) (pa_cons (pv 6) pa_nil)))))))))))), ?_⟩
    refine ⟨_, rfl, a, cl, m, n, rfl, hS, C, fun p hp => ?_⟩
    have hsz : sizeLine = 16777216 := sizeLine_eq
    have m1 := C.m1
    have m40 := C.m40
    have n1 := C.n1
    have n40 := C.n40
    have hn := C.hn
    have s1 : Same H (upd H p (.tup [.int (m : Int), .int (n : Int)])) := .upd hp
    refine ⟨_, rfl, _, _, _, _, rfl, rfl, SqT.of upd_same, atI_of (by decide) rfl, (m : Int), rfl, (by omega), (by omega), ?_⟩
    rw [Int.toNat_natCast]
    refine comp_range (lo := 0) (n := m) (fun i ys H2 => Same H H2 ∧ ys = vS ((List.range i).map (col cl))) ⟨s1, rfl⟩ ?_ ?_ ?_ ?_
    · rintro i ys H2 hi ⟨s2, rfl⟩
      rw [vS_len, List.length_map, List.length_range]
      omega
    · exact small40 m40
    · rintro i ys H2 hi ⟨s2, rfl⟩
      refine CTurn.no ?_
      refine ⟨_, rfl, _, rfl, a, cl, m, n, i, (by rw [Int.zero_add]; rfl), s2.seq hS, C, hi, fun H3 s3 => ?_⟩
      refine CN.of hi ⟨s2.trans s3, ?_⟩
      rw [vS_app, List.range_succ, List.map_append]
      rfl
    rintro ys H2 p2 ⟨s2, rfl⟩ np2
    obtain ⟨es, hes⟩ : ∃ es, es = cols cl m := ⟨_, rfl⟩
    have les : es.length = m := by rw [hes, cols_len]
    rw [show (List.range m).map (col cl) = es from hes.symm]
    rw [← hes] at k
    have s3 : Same H (upd H2 p2 (.lst (vS es))) := s2.new np2
    generalize hH3 : upd H2 p2 (.lst (vS es)) = H3 at s3 ⊢
    have h3 : H3 p2 = some (.lst (vS es)) := by rw [← hH3]; exact upd_same
    clear hH3
    refine ⟨_, rfl, p2, es, rfl, SqL.of h3, by omega, fun q1 H4 s4 nq1 h4 => ?_⟩
    have lf1 := unl_le es
    have mf1 : ∀ u ∈ es, u ∈ unl es := fun u hu => (mem_unl u es).mpr hu
    have s14 := s3.trans s4
    refine ⟨_, rfl, a, cl, rfl, s14.seq hS, by omega, fun q2 H5 s5 nq2 h5 => ?_⟩
    have lf2 := unl_le cl
    have mf2 : ∀ u ∈ cl, u ∈ unl cl := fun u hu => (mem_unl u cl).mpr hu
    have mg2 : ∀ u ∈ unl cl, u ∈ cl := fun u hu => (mem_unl u cl).mp hu
    have s15 := s14.trans s5
    have hp2 := s5 _ _ (s4 _ _ h3)
    have hq1 := s5 _ _ h4
    have g1 : 0 < (unl cl).length := unl_pos fun z => by rw [z] at hn; simp at hn; omega
    refine ⟨_, rfl, _, rfl, ⟨_, SqL.of hp2⟩, comp_list (K := K) (a := p2) (xs := vS es) (fun i ys H6 => H6 = H5 ∧ ys = vI (nts (numT es i))) ⟨rfl, rfl⟩ ?_ ?_ ?_ ?_⟩
    · rintro i ys H6 hi ⟨rfl, rfl⟩
      rw [vS_len] at hi
      exact ⟨SqL.of hp2, by rw [vI_len, nts_len, numT_len hi]; exact Nat.le_refl _⟩
    · rw [vS_len]; omega
    · rintro i xv ys H6 hi hxv ⟨rfl, rfl⟩
      obtain ⟨u, hu, rfl⟩ := vS_got hxv
      obtain ⟨j1, j2, j3⟩ := ix_text (mf1 u (List.mem_of_getElem? hu))
      refine CTurn.no ?_
      refine ⟨_, rfl, .inl ⟨rfl, _, SqL.of hq1⟩, _, rfl, q1, (unl es).map tx, tx u, _, rfl, rfl, (by rw [← vS_map]; exact hq1), j1, j2, (by rw [List.length_map]; omega), ?_⟩
      refine CN.of hi ⟨rfl, ?_⟩
      rw [vI_app, nts_app, numT_add hu]
    rintro ys H6 p3 ⟨rfl, rfl⟩ np3
    rw [vS_len, numT_all]
    obtain ⟨th, eth⟩ : ∃ th, th = nts (num es) := ⟨_, rfl⟩
    rw [← eth] at k ⊢
    have lth : th.length = m := by rw [eth, nts_len, num_len, les]
    have hth : ∀ z ∈ th, 0 ≤ z ∧ z < 40 := fun z hz => by rw [eth] at hz; have := nts_num hz; omega
    have s6 : Same H6 (upd H6 p3 (.lst (vI th))) := .upd np3
    generalize hH7 : upd H6 p3 (.lst (vI th)) = H7 at s6 ⊢
    have h7 : H7 p3 = some (.lst (vI th)) := by rw [← hH7]; exact upd_same
    clear hH7
    have s17 := s15.trans s6
    have h5' := s6 _ _ h5
    refine ⟨_, rfl, _, rfl, ⟨_, s17.seq hS⟩, comp_list (K := K) (a := a) (xs := vS cl) (fun i ys H8 => H8 = H7 ∧ ys = vI (nts (numT cl i))) ⟨rfl, rfl⟩ ?_ ?_ ?_ ?_⟩
    · rintro i ys H8 hi ⟨rfl, rfl⟩
      rw [vS_len] at hi
      exact ⟨s17.seq hS, by rw [vI_len, nts_len, numT_len hi]; exact Nat.le_refl _⟩
    · rw [vS_len]; omega
    · rintro i xv ys H8 hi hxv ⟨rfl, rfl⟩
      obtain ⟨u, hu, rfl⟩ := vS_got hxv
      obtain ⟨j1, j2, j3⟩ := ix_text (mf2 u (List.mem_of_getElem? hu))
      refine CTurn.no ?_
      refine ⟨_, rfl, .inl ⟨rfl, _, SqL.of h5'⟩, _, rfl, q2, (unl cl).map tx, tx u, _, rfl, rfl, (by rw [← vS_map]; exact h5'), j1, j2, (by rw [List.length_map]; omega), ?_⟩
      refine CN.of hi ⟨rfl, ?_⟩
      rw [vI_app, nts_app, numT_add hu]
    rintro ys H8 p4 ⟨rfl, rfl⟩ np4
    rw [vS_len, numT_all]
    obtain ⟨tr, etr⟩ : ∃ tr, tr = nts (num cl) := ⟨_, rfl⟩
    rw [← etr] at k ⊢
    have ltr : tr.length = n := by rw [etr, nts_len, num_len, hn]
    have htr : ∀ z ∈ tr, 0 ≤ z ∧ z < ((unl cl).length : Int) := fun z hz => by rw [etr] at hz; exact nts_num hz
    have s8 : Same H8 (upd H8 p4 (.lst (vI tr))) := .upd np4
    generalize hH9 : upd H8 p4 (.lst (vI tr)) = H9 at s8 ⊢
    have h9 : H9 p4 = some (.lst (vI tr)) := by rw [← hH9]; exact upd_same
    clear hH9
    have s19 := s17.trans s8
    have h9t := s8 _ _ h7
    have h9u := s8 _ _ h5'
    refine ⟨_, rfl, _, rfl, _, rfl, ⟨_, SqL.of h9u⟩, comp_list (K := K) (a := q2) (xs := vS (unl cl)) (fun i ys H10 => Same H9 H10 ∧ ∃ (rs : List Addr) (tss : List (List Int)), ys = rs.map V.ref ∧ rs.length = i ∧ tss.length = i ∧ (∀ ks ∈ tss, Rs ks) ∧ ∀ (j : Nat) (r : Addr) (ks : List Int), rs[j]? = some r → tss[j]? = some ks → H10 r = some (.lst (vI ks)))
      ⟨.refl _, [], [], rfl, rfl, rfl, fun _ h => absurd h (by simp), fun j r ks h => (by simp at h)⟩ ?_ ?_ ?_ ?_⟩
    · rintro i ys H10 hi ⟨s10, rs, tss, rfl, e, _⟩
      exact ⟨SqL.of (s10 _ _ h9u), by rw [List.length_map]; omega⟩
    · rw [vS_len]; omega
    · rintro i xv ys H10 hi hxv ⟨s10, rs, tss, rfl, e, e2, hR, hrs⟩
      obtain ⟨u, hu, rfl⟩ := vS_got hxv
      refine CTurn.no ?_
      refine ⟨_, rfl, _, rfl, p3, th, u, rfl, s10 _ _ h9t, ?_, ?_, hth, fun l ks H11 s11 nl hl R _ => ?_⟩
      · rw [C.hm u (mg2 u (List.mem_of_getElem? hu))]; exact lth
      · rw [C.hm u (mg2 u (List.mem_of_getElem? hu))]; exact m40
      refine CN.of hi ⟨s10.trans s11, rs ++ [l], tss ++ [ks], by rw [List.map_append]; rfl, by rw [List.length_append, e]; rfl, by rw [List.length_append, e2]; rfl, fun x hx => ?_, fun j r x h1 h2 => ?_⟩
      · rcases List.mem_append.mp hx with h | h
        · exact hR x h
        · rw [List.mem_singleton.mp h]; exact R
      · by_cases hj : j < rs.length
        · rw [List.getElem?_append_left hj] at h1
          rw [List.getElem?_append_left (by omega)] at h2
          exact s11 _ _ (hrs j r x h1 h2)
        · have hj2 : j = i := by
            have := (List.getElem?_eq_some_iff.mp h1).1
            rw [List.length_append] at this
            simp at this
            omega
          subst hj2
          rw [List.getElem?_append_right (by omega), e, Nat.sub_self] at h1
          rw [List.getElem?_append_right (by omega), e2, Nat.sub_self] at h2
          cases h1
          cases h2
          exact hl
    rintro ys H10 p5 ⟨s10, rs, tss, rfl, lrs, ltss, hR, hrs⟩ np5
    rw [vS_len] at lrs ltss
    have s11 : Same H9 (upd H10 p5 (.lst (rs.map V.ref))) := s10.new np5
    have sn : Same H10 (upd H10 p5 (.lst (rs.map V.ref))) := .upd np5
    generalize hH11 : upd H10 p5 (.lst (rs.map V.ref)) = H11 at s11 sn ⊢
    have h11 : H11 p5 = some (.lst (rs.map V.ref)) := by rw [← hH11]; exact upd_same
    clear hH11
    refine ⟨_, rfl, fun x dx nx ndx hne => ?_⟩
    have sz : Same H11 (upd (upd H11 dx (.own x)) x (.ins t.e_Draft dx [])) := (Same.upd ndx).new (by rw [upd_ne (fun z => hne z.symm)]; exact nx)
    refine ⟨x, dx, p3, p5, p4, rs, th, tss, tr, rfl, upd_same, sz _ _ (s11 _ _ h9t), ⟨sz _ _ h11, by omega, fun j r ks e1 e2 => sz _ _ (sn _ _ (hrs j r ks e1 e2))⟩, sz _ _ (s11 _ _ h9), ?_, fun a' b' c' qs H' sb _ _ _ _ D => ⟨rfl, ?_⟩⟩
    · exact { m1 := by omega, m40 := by omega, t1 := by omega, t40 := by omega, n1 := by omega, n40 := by omega, hth := hth, hti := hR, htr := fun v hv => by have := htr v hv; omega }
    · have nx0 : H x = none := by
        cases e : H x with
        | none => rfl
        | some o => rw [s11 _ _ (s19 _ _ e)] at nx; cases nx
      refine k x dx a' b' c' qs tss H' (fun b o e => ?_) nx0 D
      have e11 := s11 _ _ (s19 _ _ e)
      exact sb b o (fun z => by rw [z, nx] at e11; cases e11) (sz _ _ e11)
structure TL (H : Hp) (rs : List Addr) (ps : List (List Nat × List Nat)) : Prop where
  l : rs.length = ps.length
  r : ∀ (i : Nat) (a : Addr) (p : List Nat × List Nat), rs[i]? = some a → ps[i]? = some p → H a = some (.tup [.str (tx p.1), .str (tx p.2)])
theorem TL.same {H H' : Hp} {rs : List Addr} {ps : List (List Nat × List Nat)} (N : TL H rs ps) (s : Same H H') : TL H' rs ps := ⟨N.l, fun i a p h1 h2 => s _ _ (N.r i a p h1 h2)⟩
theorem TL.at {H : Hp} {rs : List Addr} {ps : List (List Nat × List Nat)} (N : TL H rs ps) {i : Nat} {v : V} (h : (rs.map V.ref)[i]? = some v) : ∃ a p, v = .ref a ∧ rs[i]? = some a ∧ ps[i]? = some p ∧ H a = some (.tup [.str (tx p.1), .str (tx p.2)]) := by
  rw [List.getElem?_map] at h
  obtain ⟨a, ha, rfl⟩ := Option.map_eq_some_iff.mp h
  have hi : i < ps.length := by rw [← N.l]; exact (List.getElem?_eq_some_iff.mp ha).1
  exact ⟨a, ps[i], rfl, ha, List.getElem?_eq_getElem hi, N.r i a _ ha (List.getElem?_eq_getElem hi)⟩
theorem TL.snoc {H : Hp} {rs : List Addr} {ps : List (List Nat × List Nat)} {a : Addr} {p : List Nat × List Nat} (N : TL H rs ps) (h : H a = some (.tup [.str (tx p.1), .str (tx p.2)])) : TL H (rs ++ [a]) (ps ++ [p]) := by
  have e := N.l
  refine ⟨by rw [List.length_append, List.length_append, e]; rfl, fun i a' p' g1 g2 => ?_⟩
  by_cases c : i < rs.length
  · rw [List.getElem?_append_left c] at g1
    rw [List.getElem?_append_left (by omega)] at g2
    exact N.r i a' p' g1 g2
  · rw [List.getElem?_append_right (by omega)] at g1 g2
    have := (List.getElem?_eq_some_iff.mp g1).1
    simp at this
    rw [show i - rs.length = 0 by omega] at g1
    rw [show i - ps.length = 0 by omega] at g2
    cases g1
    cases g2
    exact h
theorem eqP (p q : List Nat × List Nat) : eqL [.str (tx p.1), .str (tx p.2)] [.str (tx q.1), .str (tx q.2)] = decide (p = q) := by
  show ((tx p.1 == tx q.1) && ((tx p.2 == tx q.2) && true)) = _
  rw [Bool.and_true, Bool.eq_iff_iff, Bool.and_eq_true, beq_iff_eq, beq_iff_eq, decide_eq_true_iff]
  constructor
  · rintro ⟨h1, h2⟩
    exact Prod.ext (tx_inj h1) (tx_inj h2)
  · rintro rfl
    exact ⟨rfl, rfl⟩
theorem cmpP {H : Hp} {a b : Addr} {p q : List Nat × List Nat} (h1 : H a = some (.tup [.str (tx p.1), .str (tx p.2)])) (h2 : H b = some (.tup [.str (tx q.1), .str (tx q.2)])) : CmpV K H (.ref a) (.ref b) (decide (p = q)) := (CmpV.tup (SqT.of h1) (SqT.of h2) rfl rfl).is (eqP p q)
def sp_unlikeT (K : PySem.W.Frag) : Sp := fun vs H Q _ => ∃ (a : Addr) (rs : List Addr) (ps : List (List Nat × List Nat)), vs = [.ref a] ∧ SqL K H a (rs.map V.ref) ∧ TL H rs ps ∧ ps.length ≤ 40 ∧ ∀ l fs H', Same H H' → H l = none → H' l = some (.lst (fs.map V.ref)) → TL H' fs (unl ps) → Q (.ref l) H'
theorem ok_unlikeT (T : Txt K mg t) : FnOk P w K mg base CX0 1 t.f_unlike t.d_unlike ["things"] (sp_unlikeT K) := by
  refine T.unlike.F.ok sc_unlike (fun vs H Q E h => ?_) (fun cdv A outer s H vs Q E hr h => ?_)
  · obtain ⟨a, rs, ps, rfl, _⟩ := h
    rfl
  · obtain ⟨a, rs, ps, rfl, hS, N, hl, k⟩ := h
    have nl := N.l
    refine ⟨_, (pss_cons (ps_set (i := 1) sc_unlike.nd rfl (Or.inl rfl) (pe_lst pa_nil))
      (pss_cons (ps_for PassesOwn.never rfl (pi_listK (K := K) (pv 0)) (pg_name (i := 2) sc_unlike.nd rfl (Or.inl rfl))
        (pss_one (ps_if (pt_cmpR (op_notInC (K := K) hr.units100) (pv 2) (pv 1) rfl)
          (pss_one (ps_expr (pe_bmK (K := K) PySem.F.plainAttrs_list PySem.F.slot_list_append PySem.F.type_list_append mt_append (pv 1) (pa_cons (pv 2) pa_nil))))
          pss_nil)))
      (pss_one (ps_ret (pv 1))))), ?_⟩
    refine ⟨Nat.zero_le _, fun q nq => ?_⟩
    have s1 : Same H (upd H q (.lst [])) := .upd nq
    refine ⟨_, rfl, _, rfl, ⟨_, s1.seq hS⟩, ?_⟩
    refine for_list (K := K) (a := a) (xs := rs.map V.ref) (fun i σ H2 => ∃ (fs : List Addr) (v : Option V), σ = [some (.ref a), some (.ref q), v] ∧ Same H H2 ∧ H2 q = some (.lst (fs.map V.ref)) ∧ TL H fs (unl (ps.take i)))
      ⟨[], none, rfl, s1, upd_same, ⟨rfl, fun i a p h => (by simp at h)⟩⟩ (fun i σ H2 _ ⟨_, _, _, s2, _⟩ => s2.seq hS) ?_ ?_
    · rintro i xv σ H2 hx ⟨fs, v, rfl, s2, h2, F⟩
      obtain ⟨r, p, rfl, hr1, hp1, hH⟩ := N.at hx
      have hil : i < ps.length := (List.getElem?_eq_some_iff.mp hp1).1
      have et : ps.take (i + 1) = ps.take i ++ [p] := by rw [List.take_add_one, hp1]; rfl
      have lf : (unl (ps.take i)).length ≤ i := Nat.le_trans (unl_le _) (by rw [List.length_take]; omega)
      have fl := F.l
      have F2 := F.same s2
      have hH2 := s2 _ _ hH
      refine ⟨_, rfl, _, rfl, q, fs.map V.ref, rfl, SqL.of h2, ?_⟩
      by_cases hm : p ∈ unl (ps.take i)
      · refine .inl ⟨fun i' z hz => ?_, ?_, ?_⟩
        · obtain ⟨b, p', rfl, _, _, hb⟩ := F2.at hz
          exact ⟨_, cmpP hb hH2⟩
        · obtain ⟨j, hj⟩ := List.getElem?_of_mem hm
          have jl : j < fs.length := by have := (List.getElem?_eq_some_iff.mp hj).1; omega
          have g : (fs.map V.ref)[j]? = some (.ref fs[j]) := by rw [List.getElem?_map, List.getElem?_eq_getElem jl]; rfl
          have hb := F2.r j fs[j] p (List.getElem?_eq_getElem jl) hj
          exact ⟨j, _, g, (cmpP hb hH2).is (decide_eq_true rfl)⟩
        · refine ⟨_, rfl, iteF ?_⟩
          exact ⟨fs, _, rfl, s2, h2, by rw [et, unl_snoc, if_pos hm]; exact F⟩
      · refine .inr ⟨fun i' z hz => ?_, ?_⟩
        · obtain ⟨b, p', rfl, _, hp', hb⟩ := F2.at hz
          exact (cmpP hb hH2).is (decide_eq_false fun e => hm (by rw [← e]; exact List.mem_of_getElem? hp'))
        · refine ⟨_, rfl, iteT ?_⟩
          refine ⟨_, rfl, .inl ⟨rfl, _, SqL.of h2⟩, _, rfl, _, _, _, rfl, rfl, h2, (by rw [List.length_map]; exact small40 (by omega)), ?_⟩
          refine ⟨fs ++ [r], _, rfl, s2.over nq, by rw [upd_same, List.map_append]; rfl, ?_⟩
          rw [et, unl_snoc, if_neg hm]
          exact F.snoc hH
    · rintro σ H2 ⟨fs, v, rfl, s2, h2, F⟩
      rw [List.length_map, nl, List.take_length] at F
      exact ⟨_, rfl, k q fs H2 s2 nq h2 (F.same s2)⟩
def sp_unit (K : PySem.W.Frag) : Sp := fun vs H Q _ => ∃ (b c : Addr) (cb cc : List (List Nat)) (w h : Nat), vs = [.ref b, .ref c] ∧ SqL K H b (vS cb) ∧ SqL K H c (vS cc) ∧ Cl cb w h ∧ Cl cc w h ∧
  ∀ p H', Same H H' → H' p = some (.tup [.int (w : Int), .int (h : Int)]) → Q (.ref p) H'
theorem ok_unit_size (T : Txt K mg t) : FnOk P w K mg base CX0 4 t.f_unit_size t.d_unit_size ["one", "other"] (sp_unit K) := by
  have G_measured : FnOk P w K mg base CX0 3 t.f_measured t.d_measured _ _ := ok_measured T
  refine T.unit_size.F.ok sc_unit_size (fun vs H Q E h => ?_) (fun cdv A outer s H vs Q E hr h => ?_)
  · obtain ⟨b, c, cb, cc, w, h, rfl, _⟩ := h
    rfl
  · obtain ⟨b, c, cb, cc, w, h, rfl, hB, hC, C, C', k⟩ := h
    refine ⟨_, (pss_cons (ps_set (i := 2) sc_unit_size.nd rfl (Or.inl rfl) (pe_call (G_measured.mono (by decide)) hr rfl T.measured.m T.measured.F.kp T.measured.b .nil pass0 (pa_cons (pv 0) pa_nil)))
      (pss_cons (ps_if (pt_cmpR (op_neTI (K := K) (hr.units100)) (pe_call (G_measured.mono (by decide)) hr rfl T.measured.m T.measured.F.kp T.measured.b .nil pass0 (pa_cons (pv 1) pa_nil)) (pv 2) (nomark _))
        (pss_one ps_never)
        pss_nil)
      (pss_one (ps_ret (pv 2))))), ?_⟩
    refine ⟨_, rfl, b, cb, w, h, rfl, hB, C, fun p np => ?_⟩
    have s1 : Same H (upd H p (.tup [.int (w : Int), .int (h : Int)])) := .upd np
    have hp1 : (upd H p (.tup [.int (w : Int), .int (h : Int)])) p = some (.tup (vI [(w : Int), (h : Int)])) := upd_same
    generalize upd H p (.tup [.int (w : Int), .int (h : Int)]) = H1 at s1 hp1 ⊢
    refine ⟨_, rfl, c, cc, w, h, rfl, s1.seq hC, C', fun p' np' => ?_⟩
    have s2 : Same H1 (upd H1 p' (.tup [.int (w : Int), .int (h : Int)])) := .upd np'
    have hp2 : (upd H1 p' (.tup [.int (w : Int), .int (h : Int)])) p' = some (.tup (vI [(w : Int), (h : Int)])) := upd_same
    generalize upd H1 p' (.tup [.int (w : Int), .int (h : Int)]) = H2 at s2 hp2 ⊢
    refine ⟨_, rfl, p', p, _, _, rfl, rfl, SqT.of hp2, SqT.of (s2 _ _ hp1), _, rfl, ?_⟩
    refine iteNS rfl ?_
    exact ⟨_, rfl, k p _ (s1.trans s2) (s2 _ _ hp1)⟩
theorem TL.over {H : Hp} {l : Addr} {xs : List V} {o : HO} {rs : List Addr} {ps : List (List Nat × List Nat)} (N : TL H rs ps) (h : H l = some (.lst xs)) : TL (upd H l o) rs ps := ⟨N.l, fun i a p h1 h2 => by
  have g := N.r i a p h1 h2
  rw [upd_ne fun z => by rw [z, h] at g; cases g]
  exact g⟩
theorem bw_snoc (bs : List Nat) (F : Nat) (ws : List Nat) (b : Nat) : bw (bs ++ [b]) F ws = bw bs F ws ++ ws.map fun x => b * F + x := by
  unfold bw
  rw [List.flatMap_append, List.flatMap_singleton]
theorem nts_two (a b : List Nat) : nts a ++ nts b = nts (a ++ b) := by unfold nts; rw [List.map_append]
theorem vI_two (a b : List Int) : vI a ++ vI b = vI (a ++ b) := by unfold vI; rw [List.map_append]
def sp_bw (K : PySem.W.Frag) : Sp := fun vs H Q _ => ∃ (b s : Addr) (bs : List Nat) (rs : List Addr) (ps : List (List Nat × List Nat)), vs = [.ref b, .ref s] ∧ SqL K H b (vI (nts bs)) ∧ SqL K H s (rs.map V.ref) ∧ TL H rs ps ∧ bs.length * ps.length ≤ 40 ∧ bs ≠ [] ∧ ps ≠ [] ∧ (∀ z ∈ bs, z ≤ 40) ∧
  ∀ l H', Same H H' → H l = none → H' l = some (.lst (vI (nts (bw bs (unl ps).length (num ps))))) → Q (.ref l) H'
theorem ok_blockwise (T : Txt K mg t) : FnOk P w K mg base CX0 2 t.f_blockwise t.d_blockwise ["blocks", "strands"] (sp_bw K) := by
  have G_unlike : FnOk P w K mg base CX0 1 t.f_unlike t.d_unlike _ _ := ok_unlikeT T
  refine T.blockwise.F.ok sc_blockwise (fun vs H Q E h => ?_) (fun cdv A outer s H vs Q E hr h => ?_)
  · obtain ⟨b, s, bs, rs, ps, rfl, _⟩ := h
    rfl
  · obtain ⟨b, s', bs, rs, ps, rfl, hB, hS, N, hl, hb0, hp, hb, k⟩ := h
    have hsz : sizeLine = 16777216 := sizeLine_eq
    have p1 : 1 ≤ ps.length := List.length_pos_iff.mpr hp
    have nl := N.l
    refine ⟨_, (pss_cons (ps_set (i := 2) sc_blockwise.nd rfl (Or.inr rfl) (pe_call (G_unlike.mono (by decide)) hr rfl T.unlike.m T.unlike.F.kp T.unlike.b .nil pass0 (pa_cons (pv 1) pa_nil)))
      (pss_cons (ps_set (i := 3) sc_blockwise.nd rfl (Or.inl rfl) (pe_lst pa_nil))
      (pss_cons (ps_for PassesOwn.never rfl (pi_listK (K := K) (pv 0)) (pg_name (i := 4) sc_blockwise.nd rfl (Or.inr rfl))
        (pss_one (ps_expr (pe_bmK (K := K) PySem.F.plainAttrs_list PySem.F.slot_list_extend PySem.F.type_list_extend mt_extend (pv 3) (pa_cons (pe_comp (CompOk.mk (caps := [2, 4]) (Nc := ["strand", "found", "block"]) rfl (by decide +kernel) (by decide +kernel) (comp_fr (sc0 := defScope s_blockwise) rfl (by decide +kernel)) rfl rfl rfl (by decide +kernel) (fun k j h => match k, h with | 0, h => by obtain rfl := Option.some.inj h; exact ⟨_, rfl, rfl, rfl⟩ | 1, h => by obtain rfl := Option.some.inj h; exact ⟨_, rfl, rfl, rfl⟩ | _ + 2, h => by simp at h)) rfl (pi_listK (K := K) (pv 1)) (fun _ _ _ _ _ => .nil) (fun _ _ _ _ _ => (pe_op op_add (pe_op op_mul (pv 2) (pe_callB (call_len_seqK (K := K)) rfl T.b_len bt_len (pa_cons (pv 1) pa_nil))) (pe_bmK (K := K) PySem.F.plainAttrs_list PySem.F.slot_list_index PySem.F.type_list_index (mt_idxC (K := K) hr.units100) (pv 1) (pa_cons (pv 0) pa_nil))))) pa_nil)))))
      (pss_one (ps_ret (pv 3)))))), ?_⟩
    have b1 : 1 ≤ bs.length := List.length_pos_iff.mpr hb0
    have p40 : ps.length ≤ 40 := Nat.le_trans (Nat.le_mul_of_pos_left _ b1) hl
    have b40 : bs.length ≤ 40 := Nat.le_trans (Nat.le_mul_of_pos_right _ p1) hl
    have f40 := unl_le ps
    refine ⟨_, rfl, s', rs, ps, rfl, hS, N, p40, fun q fs H1 s1 nq hq F => ?_⟩
    have fl := F.l
    refine ⟨Nat.zero_le _, fun l nl1 => ?_⟩
    have s2 : Same H1 (upd H1 l (.lst [])) := .upd nl1
    have hl2 : (upd H1 l (.lst [])) l = some (.lst (vI (nts []))) := upd_same
    have hq2 := s2 _ _ hq
    have nlq : q ≠ l := fun z => by rw [z, nl1] at hq; cases hq
    have F2 := F.same s2
    generalize upd H1 l (.lst []) = H2 at s2 hl2 hq2 F2 ⊢
    have u2 := s1.trans s2
    have nlH : H l = none := s1.free nl1
    refine ⟨_, rfl, _, rfl, ⟨_, u2.seq hB⟩, for_list (K := K) (a := b) (xs := vI (nts bs)) (fun i σ H3 => ∃ (v : Option V), σ = [some (.ref b), some (.ref s'), some (.ref q), some (.ref l), v] ∧ Same H H3 ∧ H3 q = some (.lst (fs.map V.ref)) ∧ TL H3 fs (unl ps) ∧ H3 l = some (.lst (vI (nts (bw (bs.take i) (unl ps).length (num ps))))))
      ⟨none, rfl, u2, hq2, F2, hl2⟩ (fun i σ H3 _ ⟨_, _, s3, _⟩ => s3.seq hB) ?_ ?_⟩
    · rintro i xv σ H3 hx ⟨v, rfl, s3, hq3, F3, hl3⟩
      obtain ⟨z, hz, rfl⟩ := vI_got hx
      obtain ⟨bb, hbb, rfl⟩ := nts_of hz
      have il : i < bs.length := (List.getElem?_eq_some_iff.mp hbb).1
      have bbl := hb bb (List.mem_of_getElem? hbb)
      have et : bs.take (i + 1) = bs.take i ++ [bb] := by rw [List.take_add_one, hbb]; rfl
      have N3 := N.same s3
      refine ⟨_, rfl, .inl ⟨rfl, _, SqL.of hl3⟩, _, rfl, _, rfl, ⟨_, s3.seq hS⟩, comp_list (K := K) (a := s') (xs := rs.map V.ref) (fun j ys H4 => H4 = H3 ∧ ys = vI (nts ((numT ps j).map fun x => bb * (unl ps).length + x))) ⟨rfl, rfl⟩ ?_ ?_ ?_ ?_⟩
      · rintro j ys H4 hj ⟨rfl, rfl⟩
        rw [List.length_map, nl] at hj
        exact ⟨s3.seq hS, by rw [vI_len, nts_len, List.length_map, numT_len hj]; exact Nat.le_refl _⟩
      · rw [List.length_map]; omega
      · rintro j xw ys H4 hj hxw ⟨rfl, rfl⟩
        obtain ⟨r, pq, rfl, hr1, hp1, hH⟩ := N3.at hxw
        have hm : pq ∈ unl ps := (mem_unl pq ps).mpr (List.mem_of_getElem? hp1)
        refine CTurn.no ?_
        refine ⟨_, rfl, _, rfl, _, _, rfl, .inl (SqL.of hq3), _, _, rfl, rfl, .inl ⟨by omega, by omega⟩, ?_⟩
        refine ⟨_, rfl, .inl ⟨rfl, _, SqL.of hq3⟩, _, rfl, q, fs.map V.ref, _, ix (unl ps) pq, rfl, rfl, hq3, (by rw [List.length_map, fl]; exact ix_lt hm), (by rw [List.length_map, fl]; omega), fun i' z hz' => ?_, ?_⟩
        · obtain ⟨a', p', rfl, _, hp', ha'⟩ := F3.at hz'
          refine ⟨_, cmpP ha' hH, fun lt => decide_eq_false fun e => ix_no lt (by rw [hp', e]), fun e => decide_eq_true ?_⟩
          rw [e, ix_at hm] at hp'
          exact (Option.some.inj hp').symm
        · refine ⟨_, _, rfl, rfl, CN.of hj ⟨rfl, ?_⟩⟩
          rw [numT_add hp1, List.map_append, ← nts_two, ← vI_two, List.length_map, fl]
          congr 1
      · rintro ys H4 e ⟨rfl, rfl⟩ ne
        rw [List.length_map, nl, numT_all]
        have s5 : Same H (upd H4 e (.lst (vI (nts ((num ps).map fun x => bb * (unl ps).length + x))))) := s3.new ne
        have sn := Same.upd ne (o := .lst (vI (nts ((num ps).map fun x => bb * (unl ps).length + x))))
        have he : (upd H4 e (.lst (vI (nts ((num ps).map fun x => bb * (unl ps).length + x))))) e = some (.lst (vI (nts ((num ps).map fun x => bb * (unl ps).length + x)))) := upd_same
        have hl5 := sn _ _ hl3
        have hq5 := sn _ _ hq3
        have F5 := F3.same sn
        generalize upd H4 e (.lst (vI (nts ((num ps).map fun x => bb * (unl ps).length + x)))) = H5 at s5 sn he hl5 hq5 F5 ⊢
        have lb : (bw (bs.take i) (unl ps).length (num ps)).length ≤ 40 := by
          rw [bw_len, num_len, List.length_take, Nat.min_eq_left (by omega)]
          exact Nat.le_trans (Nat.mul_le_mul_right _ (Nat.le_of_lt il)) hl
        refine ⟨_, _, _, _, rfl, rfl, hl5, he, (by rw [vI_len, vI_len, nts_len, nts_len, List.length_map, num_len]; omega), ?_⟩
        rw [vI_two, nts_two, ← bw_snoc, ← et]
        exact ⟨_, rfl, s5.over nlH, by rw [upd_ne nlq]; exact hq5, F5.over hl5, upd_same⟩
    · rintro σ H3 ⟨v, rfl, s3, hq3, F3, hl3⟩
      rw [vI_len, nts_len, List.take_length] at hl3
      exact ⟨_, rfl, k l H3 s3 nlH hl3⟩
def rowOf (u a b : List Nat) : List Nat := u.flatMap fun c => if c = 35 then a else b
theorem fil_snoc (pr one other : List (List Nat)) (u : List Nat) : fil (pr ++ [u]) one other = fil pr one other ++ (one.zip other).map fun q => rowOf u q.1 q.2 := by
  unfold fil rowOf
  rw [List.flatMap_append, List.flatMap_singleton]
def sp_filled (K : PySem.W.Frag) : Sp := fun vs H Q _ => ∃ (a b c : Addr) (pr one other : List (List Nat)) (m n w h : Nat), vs = [.ref a, .ref b, .ref c] ∧ SqL K H a (vS pr) ∧ SqL K H b (vS one) ∧ SqL K H c (vS other) ∧ Cl pr m n ∧ Cl one w h ∧ Cl other w h ∧ m * w ≤ 40 ∧ n * h ≤ 40 ∧
  ∀ l H', Same H H' → H l = none → H' l = some (.lst (vS (fil pr one other))) → Q (.ref l) H'
theorem ok_filled_blocks (T : Txt K mg t) : FnOk P w K mg base (CX1 P w) 5 t.f_filled_blocks t.d_filled_blocks ["profile", "one", "other"] (sp_filled K) := by
  have G_measured : FnOk P w K mg base CX0 3 t.f_measured t.d_measured _ _ := ok_measured T
  have G_unit_size : FnOk P w K mg base CX0 4 t.f_unit_size t.d_unit_size _ _ := ok_unit_size T
  refine T.filled_blocks.F.okX sc_filled_blocks (fun vs H Q E h => ?_) (fun cdv A outer s H vs Q E hr h => ?_)
  · obtain ⟨a, b, c, pr, one, other, m, n, w, h, rfl, _⟩ := h
    rfl
  · obtain ⟨a, b, c, pr, one, other, m, n, w, h, rfl, hA, hB, hC, C, C1, C2, hm, hn, k⟩ := h
    have hsz : sizeLine = 16777216 := sizeLine_eq
    have m1 := C.m1
    have m40 := C.m40
    have n40 := C.n40
    have w40 := C1.m40
    have h40 := C1.n40
    refine ⟨_, (pss_cons (ps_set (i := 3) sc_filled_blocks.nd rfl (Or.inl rfl) (pe_call (G_measured.mono (by decide)) hr rfl T.measured.m T.measured.F.kp T.measured.b .nil pass0 (pa_cons (pv 0) pa_nil)))
      (pss_cons (ps_set (i := 4) sc_filled_blocks.nd rfl (Or.inl rfl) (pe_call (G_unit_size.mono (by decide)) hr rfl T.unit_size.m T.unit_size.F.kp T.unit_size.b .nil pass0 (pa_cons (pv 1) (pa_cons (pv 2) pa_nil))))
      (pss_cons (ps_if (PW.pt (pw_or (pt_cmpR op_gt (pe_op op_mul (pe_ix (ix_tupK (K := K)) (pv 3) pe_int (fun _ _ => rfl)) (pe_ix (ix_tupK (K := K)) (pv 4) pe_int (fun _ _ => rfl))) (pe_glob (v := .int 40) rfl T.c_MOST_STRANDS.choose_spec ⟨_, rfl⟩) (nomark _)) (pw_or1 (pt_cmpR op_gt (pe_op op_mul (pe_ix (ix_tupK (K := K)) (pv 3) pe_int (fun _ _ => rfl)) (pe_ix (ix_tupK (K := K)) (pv 4) pe_int (fun _ _ => rfl))) (pe_glob (v := .int 40) rfl T.c_MOST_STRANDS.choose_spec ⟨_, rfl⟩) (nomark _)))))
        (pss_one (ps_raise body1 rfl (fun _ _ z => z) PySem.F.excBase_ValueError has_ve PySem.F.excBase_ValueError T.x_TooLarge.q rfl T.k_TooLarge (pa_cons pe_str pa_nil)))
        pss_nil)
      (pss_cons (ps_set (i := 5) sc_filled_blocks.nd rfl (Or.inl rfl) (pe_lst pa_nil))
      (pss_cons (PS.nox (ps_for PassesOwn.never rfl (pi_listK (K := K) (pv 0)) (pg_name (i := 6) sc_filled_blocks.nd rfl (Or.inl rfl))
        (pss_one (ps_for PassesOwn.never rfl (pi_zip (K := K) rfl T.b_zip (pa_cons (pv 1) (pa_cons (pv 2) pa_nil))) (pg_tup rfl (pgs_cons (pg_name (i := 7) sc_filled_blocks.nd rfl (Or.inr rfl)) (pgs_cons (pg_name (i := 8) sc_filled_blocks.nd rfl (Or.inr rfl)) pgs_nil)))
          (pss_one (ps_expr (pe_bmK (K := K) PySem.F.plainAttrs_list PySem.F.slot_list_append PySem.F.type_list_append mt_append (pv 5) (pa_cons (pe_bmK (K := K) PySem.F.plainAttrs_str PySem.F.slot_str_join PySem.F.type_str_join (mt_joinK (K := K)) pe_str (pa_cons (pe_comp (CompOk.mk (caps := [7, 8]) (Nc := ["sign", "of_one", "of_other"]) rfl (by decide +kernel) (by decide +kernel) (comp_fr (sc0 := defScope s_filled_blocks) rfl (by decide +kernel)) rfl rfl rfl (by decide +kernel) (fun k j h => match k, h with | 0, h => by obtain rfl := Option.some.inj h; exact ⟨_, rfl, rfl, rfl⟩ | 1, h => by obtain rfl := Option.some.inj h; exact ⟨_, rfl, rfl, rfl⟩ | _ + 2, h => by simp at h)) rfl (pi_str (pv 6)) (fun _ _ _ _ _ => .nil) (fun _ _ _ _ _ => (pe_ifExp (pt_cmpR op_eq (pv 0) pe_str (nomark _)) (pv 1) (pv 2)))) pa_nil)) pa_nil))))))))
      (pss_one (ps_ret (pv 5)))))))), ?_⟩
    refine ⟨_, rfl, a, pr, m, n, rfl, hA, C, fun p np => ?_⟩
    have s1 : Same H (upd H p (.tup [.int (m : Int), .int (n : Int)])) := .upd np
    have hp1 : (upd H p (.tup [.int (m : Int), .int (n : Int)])) p = some (.tup [.int (m : Int), .int (n : Int)]) := upd_same
    generalize upd H p (.tup [.int (m : Int), .int (n : Int)]) = H1 at s1 hp1 ⊢
    refine ⟨_, rfl, _, rfl, b, c, one, other, w, h, rfl, s1.seq hB, s1.seq hC, C1, C2, fun p2 H2 s2 hp2 => ?_⟩
    have u2 := s1.trans s2
    have hp12 := s2 _ _ hp1
    refine ⟨_, rfl, _, _, _, _, rfl, rfl, SqT.of hp12, atI_of (by decide) rfl, _, rfl, _, _, _, _, rfl, rfl, SqT.of hp2, atI_of (by decide) rfl, _, _, rfl, rfl, .inl ⟨by omega, by omega⟩, _, _, rfl, rfl, _, rfl, ?_⟩
    have em : (m : Int) * (w : Int) = ((m * w : Nat) : Int) := by rw [Int.natCast_mul]
    have en : (n : Int) * (h : Int) = ((n * h : Nat) : Int) := by rw [Int.natCast_mul]
    refine iteDn (by rw [em]; omega) ?_
    refine ⟨_, rfl, _, _, _, _, rfl, rfl, SqT.of hp12, atI_of (by decide) rfl, _, rfl, _, _, _, _, rfl, rfl, SqT.of hp2, atI_of (by decide) rfl, _, _, rfl, rfl, .inl ⟨by omega, by omega⟩, _, _, rfl, rfl, _, rfl, ?_⟩
    refine iteDn (by rw [en]; omega) ?_
    refine ⟨Nat.zero_le _, fun q nq => ?_⟩
    have s3 : Same H2 (upd H2 q (.lst [])) := .upd nq
    have hq3 : (upd H2 q (.lst [])) q = some (.lst (vS [])) := upd_same
    generalize upd H2 q (.lst []) = H3 at s3 hq3 ⊢
    have u3 := u2.trans s3
    have nqH : H q = none := u2.free nq
    refine ⟨_, rfl, _, rfl, ⟨_, u3.seq hA⟩, for_list (K := K) (a := a) (xs := vS pr) (fun i σ H4 => ∃ (v6 v7 v8 : Option V), σ = [some (.ref a), some (.ref b), some (.ref c), some (.ref p), some (.ref p2), some (.ref q), v6, v7, v8] ∧ Same H H4 ∧ H4 q = some (.lst (vS (fil (pr.take i) one other))))
      ⟨none, none, none, rfl, u3, hq3⟩ (fun i σ H4 _ ⟨_, _, _, _, s4, _⟩ => s4.seq hA) ?_ ?_⟩
    · rintro i xv σ H4 hx ⟨v6, v7, v8, rfl, s4, hq4⟩
      obtain ⟨u, hu, rfl⟩ := vS_got hx
      have lu := C.hm u (List.mem_of_getElem? hu)
      have il : i < n := by rw [← C.hn]; exact (List.getElem?_eq_some_iff.mp hu).1
      have et : pr.take (i + 1) = pr.take i ++ [u] := by rw [List.take_add_one, hu]; rfl
      have lfil : (fil (pr.take i) one other).length ≤ 40 := by
        unfold fil
        rw [flat_len (h := h) _ fun x _ => by rw [List.length_map, List.length_zip, C1.hn, C2.hn, Nat.min_self], List.length_take, C.hn, Nat.min_eq_left (by omega)]
        exact Nat.le_trans (Nat.mul_le_mul_right h (Nat.le_of_lt il)) hn
      have lz : (one.zip other).length = h := by rw [List.length_zip, C1.hn, C2.hn, Nat.min_self]
      refine ⟨_, rfl, _, rfl, b, c, rfl, ⟨_, s4.seq hB⟩, ⟨_, s4.seq hC⟩, for_zip (K := K) (a := b) (b := c) (xs := vS one) (ys := vS other) (n := h) (by rw [vS_len, vS_len, C1.hn, C2.hn, Nat.min_self]) (fun j σ H5 => ∃ (v7 v8 : Option V), σ = [some (.ref a), some (.ref b), some (.ref c), some (.ref p), some (.ref p2), some (.ref q), some (.str (tx u)), v7, v8] ∧ Same H H5 ∧ H5 q = some (.lst (vS (fil (pr.take i) one other ++ ((one.zip other).take j).map fun q => rowOf u q.1 q.2))))
        ⟨_, _, rfl, s4, by rw [List.take_zero, List.map_nil, List.append_nil]; exact hq4⟩ (fun j σ H5 ⟨_, _, _, s5, _⟩ => ⟨s5.seq hB, s5.seq hC⟩) ?_ ?_⟩
      · rintro j xo yo σ H5 TT hxo hyo ⟨v7', v8', rfl, s5, hq5⟩ nT
        obtain ⟨ao, hao, rfl⟩ := vS_got hxo
        obtain ⟨bo, hbo, rfl⟩ := vS_got hyo
        have la := C1.hm ao (List.mem_of_getElem? hao)
        have lb := C2.hm bo (List.mem_of_getElem? hbo)
        have jl : j < h := by rw [← C1.hn]; exact (List.getElem?_eq_some_iff.mp hao).1
        have zj : (one.zip other)[j]? = some (ao, bo) := List.getElem?_zip_eq_some.mpr ⟨hao, hbo⟩
        have s6 : Same H (upd H5 TT (.tup [.str (tx ao), .str (tx bo)])) := s5.new nT
        have hq6 := (Same.upd nT (o := .tup [.str (tx ao), .str (tx bo)])) _ _ hq5
        refine ⟨_, _, rfl, SqT.of upd_same, rfl, _, _, rfl, _, _, rfl, rfl, ?_⟩
        generalize upd H5 TT (.tup [.str (tx ao), .str (tx bo)]) = H6 at s6 hq6 ⊢
        refine ⟨_, rfl, .inl ⟨rfl, _, SqL.of hq6⟩, rfl, _, rfl, _, rfl, comp_str (z := tx u) (fun e ys H7 => H7 = H6 ∧ ys = vS ((u.take e).map fun c => if c = 35 then ao else bo)) ⟨rfl, rfl⟩ ?_ ?_ ?_ ?_⟩
        · rintro e ys H7 he ⟨rfl, rfl⟩
          rw [vS_len, List.length_map, List.length_take]
          omega
        · rw [tx_size, lu]; exact small40 m40
        · rintro e cc ys H7 he hcc ⟨rfl, rfl⟩
          rw [tx_get] at hcc
          refine CTurn.no ?_
          refine ⟨_, rfl, rfl, _, rfl, ?_⟩
          have hh : ("#" : Str) = ⟨#[35]⟩ := by decide +kernel
          rw [hh]
          refine ite2D (fun z => ?_) (fun z => ?_)
          · refine ⟨_, rfl, CN.of he ⟨rfl, ?_⟩⟩
            rw [vS_app, List.take_add_one, hcc, List.map_append]
            show _ = vS (_ ++ [if cc = 35 then ao else bo])
            rw [if_pos (sg_eq.mp z)]
          · refine ⟨_, rfl, CN.of he ⟨rfl, ?_⟩⟩
            rw [vS_app, List.take_add_one, hcc, List.map_append]
            show _ = vS (_ ++ [if cc = 35 then ao else bo])
            rw [if_neg fun y => z (sg_eq.mpr y)]
        · rintro ys H7 p7 ⟨rfl, rfl⟩ np7
          rw [tx_size, List.take_length]
          have s7 : Same H (upd H7 p7 (.lst (vS (u.map fun c => if c = 35 then ao else bo)))) := s6.new np7
          have hq7 := (Same.upd np7 (o := .lst (vS (u.map fun c => if c = 35 then ao else bo)))) _ _ hq6
          have hp7 : (upd H7 p7 (.lst (vS (u.map fun c => if c = 35 then ao else bo)))) p7 = some (.lst (vS (u.map fun c => if c = 35 then ao else bo))) := upd_same
          generalize upd H7 p7 (.lst (vS (u.map fun c => if c = 35 then ao else bo))) = H8 at s7 hq7 hp7 ⊢
          have ef : (u.map fun c => if c = 35 then ao else bo).flatten = rowOf u ao bo := by unfold rowOf; rw [List.flatMap_def]
          have lr : (rowOf u ao bo).length = m * w := by
            unfold rowOf
            rw [flat_len (h := w) u fun x _ => by split; exact la; exact lb, lu]
          refine ⟨_, _, ((u.map fun c => if c = 35 then ao else bo).map tx), rfl, rfl, SqL.of (by rw [hp7, vS_map]), ?_, ?_⟩
          · have : ∀ l : List (List Nat), ((l.map tx).map (·.length)).sum = l.flatten.length := fun l => by
              induction l with
              | nil => rfl
              | cons x l ih => rw [List.map_cons, List.map_cons, List.sum_cons, ih, List.flatten_cons, List.length_append, tx_len]
            rw [this, ef, lr]
            have : (((u.map fun c => if c = 35 then ao else bo).map tx).length) * (Str.length "") = 0 := by rw [show Str.length "" = 0 from by decide +kernel]; omega
            omega
          · rw [show (("" : Str)) = tx [] from by decide +kernel, tx_join, ef]
            refine ⟨_, _, _, rfl, rfl, hq7, (by rw [vS_len, List.length_append, List.length_map, List.length_take]; omega), ?_⟩
            rw [vS_app]
            refine ⟨_, _, rfl, s7.over nqH, ?_⟩
            rw [upd_same, List.append_assoc, List.take_add_one, zj, List.map_append]
            rfl
      · rintro σ H5 ⟨v7', v8', rfl, s5, hq5⟩
        rw [List.take_of_length_le (l := one.zip other) (i := h) (by omega)] at hq5
        exact ⟨_, _, _, rfl, s5, by rw [et, fil_snoc]; exact hq5⟩
    · rintro σ H4 ⟨v6, v7, v8, rfl, s4, hq4⟩
      rw [vS_len, List.take_length] at hq4
      exact ⟨_, rfl, k q H4 s4 nqH hq4⟩
structure BTs (pr one other : List (List Nat)) (m w : Nat) (tss : List (List Int)) : Prop where
  l : tss.length = (unl pr).length * (unl (one.zip other)).length
  r : ∀ (t : Nat) (ks : List Int), tss[t]? = some ks → Rs ks ∧ ∃ (p : Nat) (r : List Nat), (trN pr one other)[p]? = some t ∧ (fil pr one other)[p]? = some r ∧ TieOf (nts (thN pr one other m w)) r ks
def sp_bdraft (K : PySem.W.Frag) (t : Adr) : Sp := fun vs H Q _ => ∃ (a b c : Addr) (pr one other : List (List Nat)) (m n w h : Nat), vs = [.ref a, .ref b, .ref c] ∧ SqL K H a (vS pr) ∧ SqL K H b (vS one) ∧ SqL K H c (vS other) ∧ Cl pr m n ∧ Cl one w h ∧ Cl other w h ∧ m * w ≤ 40 ∧ n * h ≤ 40 ∧
  ∀ d dx a' b' c' qs tss H', Same H H' → IsD t H' d dx a' b' c' qs (nts (thN pr one other m w)) tss (nts (trN pr one other)) → BTs pr one other m w tss → Q (.ref d) H'
theorem ok_block_draft (T : Txt K mg t) : FnOk P w K mg base (CX1 P w) 7 t.f_block_draft t.d_block_draft ["profile", "one", "other"] (sp_bdraft K t) := by
  have G_filled_blocks : FnOk P w K mg base (CX1 P w) 5 t.f_filled_blocks t.d_filled_blocks _ _ := ok_filled_blocks T
  have G_least_draft : FnOk P w K mg base CX0 6 t.f_least_draft t.d_least_draft _ _ := ok_least_draft T
  have G_end_signs : FnOk P w K mg base CX0 1 t.f_end_signs t.d_end_signs _ _ := ok_end_signs T
  have G_blockwise : FnOk P w K mg base CX0 2 t.f_blockwise t.d_blockwise _ _ := ok_blockwise T
  have G_shafts_over : FnOk P w K mg base CX0 1 t.f_shafts_over t.d_shafts_over _ _ := ok_shafts_over T
  have G_Draft___init__ : FnOk P w K mg base CX0 4 t.f_Draft___init__ t.d_Draft___init__ _ _ := ok_Draft___init__ T
  refine T.block_draft.F.okX sc_block_draft (fun vs H Q E h => ?_) (fun cdv A outer s H vs Q E hr h => ?_)
  · obtain ⟨a, b, c, pr, one, other, m, n, w, h, rfl, _⟩ := h
    rfl
  · obtain ⟨a, b, c, pr, one, other, m, n, w, h, rfl, hA, hB, hC, C, C1, C2, hm, hn, k⟩ := h
    have hsz : sizeLine = 16777216 := sizeLine_eq
    have m1 := C.m1
    have n1 := C.n1
    have m40 := C.m40
    have n40 := C.n40
    have w1 := C1.m1
    have h1 := C1.n1
    have w40 := C1.m40
    have h40 := C1.n40
    have FC := fil_cl C C1 C2 hm hn
    have lz : (one.zip other).length = h := by rw [List.length_zip, C1.hn, C2.hn, Nat.min_self]
    have zne : one.zip other ≠ [] := fun z => by rw [z] at lz; simp at lz; omega
    have ene : ends2 one other w ≠ [] := fun z => by have := ends2_len one other w; rw [z] at this; simp at this; omega
    refine ⟨_, (pss_cons (ps_set (i := 3) sc_block_draft.nd rfl (Or.inr rfl) (pe_call (G_filled_blocks.mono (by decide)) hr rfl T.filled_blocks.m T.filled_blocks.F.kp T.filled_blocks.b .nil pass1 (pa_cons (pv 0) (pa_cons (pv 1) (pa_cons (pv 2) pa_nil)))))
      (pss_cons (ps_set (i := 4) sc_block_draft.nd rfl (Or.inl rfl) (pe_call (G_least_draft.mono (by decide)) hr rfl T.least_draft.m T.least_draft.F.kp T.least_draft.b .nil pass0 (pa_cons (pv 0) pa_nil)))
      (pss_cons (PS.nox (ps_setC (i := 5) (CompOk.mk (caps := [1, 2]) (Nc := ["end", "one", "other"]) rfl (by decide +kernel) (by decide +kernel) (comp_fr (sc0 := defScope s_block_draft) rfl (by decide +kernel)) rfl rfl rfl (by decide +kernel) (fun k j h => match k, h with | 0, h => by obtain rfl := Option.some.inj h; exact ⟨_, rfl, rfl, rfl⟩ | 1, h => by obtain rfl := Option.some.inj h; exact ⟨_, rfl, rfl, rfl⟩ | _ + 2, h => by simp at h)) rfl sc_block_draft.nd rfl rfl (pi_range1 rfl T.b_range (pa_cons (pe_callB call_len_str rfl T.b_len bt_len (pa_cons (pe_ix (ix_listK (K := K)) (pv 1) pe_int (fun _ _ => rfl)) pa_nil)) pa_nil)) (fun _ _ _ _ _ => .nil) (fun _ _ _ _ _ => (pe_tup (pa_cons (pe_call (G_end_signs.mono (by decide)) hr rfl T.end_signs.m T.end_signs.F.kp T.end_signs.b .nil pass0 (pa_cons (pv 1) (pa_cons (pv 0) pa_nil))) (pa_cons (pe_call (G_end_signs.mono (by decide)) hr rfl T.end_signs.m T.end_signs.F.kp T.end_signs.b .nil pass0 (pa_cons (pv 2) (pa_cons (pv 0) pa_nil))) pa_nil)))) rfl))
      (pss_cons (ps_set (i := 6) sc_block_draft.nd rfl (Or.inr rfl) (pe_call (G_blockwise.mono (by decide)) hr rfl T.blockwise.m T.blockwise.F.kp T.blockwise.b .nil pass0 (pa_cons (pe_fldK (K := K) (pv 4) rfl) (pa_cons (pv 5) pa_nil))))
      (pss_cons (ps_set (i := 7) sc_block_draft.nd rfl (Or.inr rfl) (pe_call (G_blockwise.mono (by decide)) hr rfl T.blockwise.m T.blockwise.F.kp T.blockwise.b .nil pass0 (pa_cons (pe_fldK (K := K) (pv 4) rfl) (pa_cons (pe_listZip (K := K) rfl T.b_list rfl T.b_zip (pa_cons (pv 1) (pa_cons (pv 2) pa_nil))) pa_nil))))
      (pss_cons (PS.nox (ps_setC (i := 8) (CompOk.mk (caps := [3, 6, 7]) (Nc := ["treadle", "cloth", "threading", "treading"]) rfl (by decide +kernel) (by decide +kernel) (comp_fr (sc0 := defScope s_block_draft) rfl (by decide +kernel)) rfl rfl rfl (by decide +kernel) (fun k j h => match k, h with | 0, h => by obtain rfl := Option.some.inj h; exact ⟨_, rfl, rfl, rfl⟩ | 1, h => by obtain rfl := Option.some.inj h; exact ⟨_, rfl, rfl, rfl⟩ | 2, h => by obtain rfl := Option.some.inj h; exact ⟨_, rfl, rfl, rfl⟩ | _ + 3, h => by simp at h)) rfl sc_block_draft.nd rfl rfl (pi_range1 rfl T.b_range (pa_cons (pe_op op_add (pe_callB (call_maxL (K := K)) rfl T.b_max bt_max (pa_cons (pv 7) pa_nil)) pe_int) pa_nil)) (fun _ _ _ _ _ => .nil) (fun _ _ _ _ _ => (pe_call (G_shafts_over.mono (by decide)) hr rfl T.shafts_over.m T.shafts_over.F.kp T.shafts_over.b .nil pass0 (pa_cons (pv 2) (pa_cons (pe_ix (ix_listK (K := K)) (pv 1) (pe_bmK (K := K) PySem.F.plainAttrs_list PySem.F.slot_list_index PySem.F.type_list_index (mt_idxC (K := K) hr.units100) (pv 3) (pa_cons (pv 0) pa_nil)) (fun _ _ => rfl)) pa_nil)))) rfl))
      (pss_one (ps_ret (pe_make T.o_Draft.m (G_Draft___init__.mono (by decide)) hr rfl T.k_Draft T.m_Draft___init__.b .nil pass0 (pa_cons (pv 6) (pa_cons (pv 8) (pa_cons (pv 7) pa_nil)))))))))))), ?_⟩
    refine ⟨_, rfl, _, rfl, _, rfl, a, b, c, pr, one, other, m, n, w, h, rfl, hA, hB, hC, C, C1, C2, hm, hn, fun lc H1 s1 nlc hlc => ?_⟩
    refine ⟨_, rfl, a, pr, m, n, rfl, s1.seq hA, C, fun d dx xa xb xc qs tss0 H2 s2 nd D => ?_⟩
    have u2 := s1.trans s2
    have hlc2 := s2 _ _ hlc
    have h0 : 0 < one.length := by rw [C1.hn]; omega
    have w0 := C1.hm one[0] (List.getElem_mem h0)
    have e0 : atI (vS one) 0 = some (.str (tx one[0])) := atI_of (by decide) (vS_get (List.getElem?_eq_getElem h0))
    refine ⟨_, rfl, _, _, _, _, rfl, rfl, u2.seq hB, e0, _, rfl, (by rw [tx_len, w0]; omega), _, rfl, (by omega), (by rw [tx_len, w0]; omega), ?_⟩
    rw [tx_len, w0, Int.toNat_natCast]
    refine comp_range (lo := 0) (n := w) (fun i ys H3 => Same H2 H3 ∧ ∃ rs : List Addr, ys = rs.map V.ref ∧ TL H3 rs ((ends2 one other w).take i)) ⟨.refl _, [], rfl, ⟨by rw [List.take_zero]; rfl, fun i a p h => (by simp at h)⟩⟩ ?_ ?_ ?_ ?_
    · rintro i ys H3 hi ⟨s3, rs, rfl, N⟩
      have := N.l
      rw [List.length_take] at this
      rw [List.length_map]
      omega
    · omega
    · rintro i ys H3 hi ⟨s3, rs, rfl, N⟩
      refine CTurn.no ?_
      refine ⟨_, rfl, _, rfl, b, one, w, h, i, (by rw [Int.zero_add]; rfl), (u2.trans s3).seq hB, C1, hi, fun H4 s4 => ?_⟩
      refine ⟨_, rfl, _, rfl, c, other, w, h, i, (by rw [Int.zero_add]; rfl), (u2.trans (s3.trans s4)).seq hC, C2, hi, fun H5 s5 => ?_⟩
      refine ⟨(by show 2 ≤ sizeLine; decide), fun p np => ?_⟩
      have s6 := s3.trans (s4.trans s5)
      refine CN.of hi ⟨s6.new np, rs ++ [p], by rw [List.map_append]; rfl, ?_⟩
      rw [List.take_add_one, ends2_at hi]
      exact ((N.same (s4.trans s5)).same (.upd np)).snoc upd_same
    rintro ys H3 pe ⟨s3, rs, rfl, N⟩ npe
    rw [List.take_of_length_le (by rw [ends2_len]; exact Nat.le_refl _)] at N
    have s4 : Same H2 (upd H3 pe (.lst (rs.map V.ref))) := s3.new npe
    have N4 := N.same (Same.upd npe (o := .lst (rs.map V.ref)))
    have hpe : (upd H3 pe (.lst (rs.map V.ref))) pe = some (.lst (rs.map V.ref)) := upd_same
    generalize upd H3 pe (.lst (rs.map V.ref)) = H4 at s4 N4 hpe ⊢
    have u4 := u2.trans s4
    have D4 := D.same s4
    have hlc4 := s4 _ _ hlc2
    refine ⟨_, rfl, _, _, _, _, _, rfl, D4.o, T.o_Draft.c, T.na_Draft_threading, df_th xa xb xc, _, rfl, xa, pe, num (cols pr m), rs, ends2 one other w, rfl, SqL.of D4.ha, SqL.of hpe, N4, (by rw [num_len, cols_len, ends2_len]; exact hm), (fun z => by have := num_len (cols pr m); rw [z, cols_len] at this; simp at this; omega), ene, (fun z hz => by have := num_lt hz; have := unl_le (cols pr m); rw [cols_len] at this; omega), fun lt H5 s5 nlt hlt => ?_⟩
    have u5 := u4.trans s5
    have D5 := D4.same s5
    have hlc5 := s5 _ _ hlc4
    have hlt : H5 lt = some (.lst (vI (nts (thN pr one other m w)))) := hlt
    refine ⟨_, rfl, _, _, _, _, _, rfl, D5.o, T.o_Draft.c, T.na_Draft_treading, df_tr xa xb xc, _, rfl, _, rfl, b, c, vS one, vS other, rfl, u5.seq hB, u5.seq hC, (by rw [vS_len, vS_len, C1.hn, C2.hn]), (by rw [vS_len, C1.hn]; omega), fun lz' Ts H6 s6 nlz hlz lT hT => ?_⟩
    rw [vS_len, C1.hn] at lT
    have u6 := u5.trans s6
    have D6 := D5.same s6
    have N6 : TL H6 Ts (one.zip other) := ⟨by rw [lT, lz], fun i a' p' g1 g2 => by
      obtain ⟨z1, z2⟩ := List.getElem?_zip_eq_some.mp g2
      exact hT i a' _ _ g1 (vS_get z1) (vS_get z2)⟩
    refine ⟨xc, lz', num pr, Ts, one.zip other, rfl, SqL.of D6.hc, SqL.of hlz, N6, (by rw [num_len, C.hn, lz]; exact hn), (fun z => by have := num_len pr; rw [z, C.hn] at this; simp at this; omega), zne, (fun z hz => by have := num_lt hz; have := unl_le pr; rw [C.hn] at this; omega), fun lr H7 s7 nlr hlr => ?_⟩
    have u7 := u6.trans s7
    have hlt7 := s7 _ _ (s6 _ _ hlt)
    have hlc7 := s7 _ _ (s6 _ _ hlc5)
    have hlr : H7 lr = some (.lst (vI (nts (trN pr one other)))) := hlr
    have ltr := trN_len C C1 C2
    have lth : (thN pr one other m w).length = m * w := thN_len
    have h40' : n * h ≤ 40 := hn
    have nh1 : 1 ≤ n * h := Nat.mul_pos n1 h1
    have mw1 : 1 ≤ m * w := Nat.mul_pos m1 w1
    refine ⟨_, rfl, lr, nts (trN pr one other), rfl, SqL.of hlr, (by rw [nts_len, ltr]; omega), fun M hM hMx => ?_⟩
    obtain ⟨Mn, hMn, rfl⟩ := nts_mem.mp hM
    have eM : Mn + 1 = (unl pr).length * (unl (one.zip other)).length := bw_max hMn fun z hz => by
      have := hMx (z : Int) (nts_mem.mpr ⟨z, hz, rfl⟩)
      omega
    have TN40 : (unl pr).length * (unl (one.zip other)).length ≤ 40 := Nat.le_trans (Nat.mul_le_mul (unl_le _) (unl_le _)) (by rw [C.hn, lz]; exact hn)
    refine ⟨_, _, rfl, rfl, _, rfl, (by omega), (by omega), ?_⟩
    rw [show ((Mn : Int) + 1).toNat = (unl pr).length * (unl (one.zip other)).length by omega]
    obtain ⟨TN, eTN⟩ : ∃ TN, TN = (unl pr).length * (unl (one.zip other)).length := ⟨_, rfl⟩
    rw [← eTN] at TN40 eM ⊢
    have hth : ∀ z ∈ nts (thN pr one other m w), 0 ≤ z ∧ z < 40 := fun z hz => by
      obtain ⟨y, hy, rfl⟩ := nts_mem.mp hz
      have b1 := bw_all hy
      have b2 : (unl (cols pr m)).length * (unl (ends2 one other w)).length ≤ m * w := by
        have := Nat.mul_le_mul (unl_le (cols pr m)) (unl_le (ends2 one other w))
        rw [cols_len, ends2_len] at this
        exact this
      omega
    refine comp_range (lo := 0) (n := TN) (fun i ys H8 => Same H7 H8 ∧ ∃ (rs : List Addr) (tss : List (List Int)), ys = rs.map V.ref ∧ rs.length = i ∧ tss.length = i ∧ (∀ (t : Nat) (ks : List Int), tss[t]? = some ks → Rs ks ∧ ∃ (p : Nat) (r : List Nat), (trN pr one other)[p]? = some t ∧ (fil pr one other)[p]? = some r ∧ TieOf (nts (thN pr one other m w)) r ks) ∧ ∀ (j : Nat) (r : Addr) (ks : List Int), rs[j]? = some r → tss[j]? = some ks → H8 r = some (.lst (vI ks)))
      ⟨.refl _, [], [], rfl, rfl, rfl, fun t ks h => (by simp at h), fun j r ks h => (by simp at h)⟩ ?_ ?_ ?_ ?_
    · rintro i ys H8 hi ⟨s8, rs, tss, rfl, e, _⟩
      rw [List.length_map]
      omega
    · omega
    · rintro i ys H8 hi ⟨s8, rs, tss, rfl, e, e2, hR, hrs⟩
      have hmi : i ∈ trN pr one other := bw_has (by rw [← eTN]; exact hi)
      have hlr8 := s8 _ _ hlr
      have px := ix_lt hmi
      rw [ltr] at px
      have fp : ix (trN pr one other) i < (fil pr one other).length := by rw [FC.hn]; exact px
      have lrow := FC.hm _ (List.getElem_mem fp)
      refine CTurn.no ?_
      refine ⟨_, rfl, _, rfl, _, rfl, .inl ⟨rfl, _, SqL.of hlr8⟩, _, rfl, lr, vI (nts (trN pr one other)), _, ix (trN pr one other) i, rfl, rfl, hlr8, (by rw [vI_len, nts_len]; exact ix_lt hmi), (by rw [vI_len, nts_len, ltr]; omega), fun i' z hz' => ?_, ?_⟩
      · obtain ⟨y, hy, rfl⟩ := vI_got hz'
        obtain ⟨yn, hyn, rfl⟩ := nts_of hy
        refine ⟨_, CmpV.flat rfl rfl, fun lt => ?_, fun e => ?_⟩
        · show ((yn : Int) == 0 + (i : Int)) = false
          rw [beq_eq_false_iff_ne]
          intro q
          have : yn = i := by omega
          subst this
          exact ix_no lt hyn
        · show ((yn : Int) == 0 + (i : Int)) = true
          rw [e, ix_at hmi] at hyn
          have := Option.some.inj hyn
          rw [beq_iff_eq]
          omega
      refine ⟨_, _, _, _, rfl, rfl, SqL.of (s8 _ _ hlc7), atI_of (by omega) (by rw [Int.toNat_natCast]; exact vS_get (List.getElem?_eq_getElem fp)), lt, nts (thN pr one other m w), _, rfl, s8 _ _ hlt7, ?_, ?_, hth, fun l ks H9 s9 nl hl R TO => ?_⟩
      · rw [nts_len, lth, lrow]
      · rw [lrow]; exact hm
      refine CN.of hi ⟨s8.trans s9, rs ++ [l], tss ++ [ks], by rw [List.map_append]; rfl, by rw [List.length_append, e]; rfl, by rw [List.length_append, e2]; rfl, fun t' ks' ht => ?_, fun j r x h1 h2 => ?_⟩
      · by_cases ht' : t' < tss.length
        · rw [List.getElem?_append_left ht'] at ht
          exact hR t' ks' ht
        · have ht2 : t' = i := by
            have := (List.getElem?_eq_some_iff.mp ht).1
            rw [List.length_append] at this
            simp at this
            omega
          subst ht2
          rw [List.getElem?_append_right (by omega), e2, Nat.sub_self] at ht
          cases ht
          exact ⟨R, _, _, ix_at hmi, List.getElem?_eq_getElem fp, TO⟩
      · by_cases hj : j < rs.length
        · rw [List.getElem?_append_left hj] at h1
          rw [List.getElem?_append_left (by omega)] at h2
          exact s9 _ _ (hrs j r x h1 h2)
        · have hj2 : j = i := by
            have := (List.getElem?_eq_some_iff.mp h1).1
            rw [List.length_append] at this
            simp at this
            omega
          subst hj2
          rw [List.getElem?_append_right (by omega), e, Nat.sub_self] at h1
          rw [List.getElem?_append_right (by omega), e2, Nat.sub_self] at h2
          cases h1
          cases h2
          exact hl
    rintro ys H8 p5 ⟨s8, rs5, tss, rfl, lrs, ltss, hR, hrs⟩ np5
    have sn : Same H8 (upd H8 p5 (.lst (rs5.map V.ref))) := .upd np5
    have s11 := s8.trans sn
    have h11 : (upd H8 p5 (.lst (rs5.map V.ref))) p5 = some (.lst (rs5.map V.ref)) := upd_same
    generalize upd H8 p5 (.lst (rs5.map V.ref)) = H11 at sn s11 h11 ⊢
    refine ⟨_, rfl, _, rfl, _, rfl, fun x dx' nx ndx hne => ?_⟩
    have sz : Same H11 (upd (upd H11 dx' (.own x)) x (.ins t.e_Draft dx' [])) := (Same.upd ndx).new (by rw [upd_ne (fun z => hne z.symm)]; exact nx)
    refine ⟨x, dx', lt, p5, lr, rs5, nts (thN pr one other m w), tss, nts (trN pr one other), rfl, upd_same, sz _ _ (s11 _ _ hlt7), ⟨sz _ _ h11, by omega, fun j r ks e1 e2 => sz _ _ (sn _ _ (hrs j r ks e1 e2))⟩, sz _ _ (s11 _ _ hlr), ?_, fun a' b' c' qs' H' sb _ _ _ _ D' => ⟨rfl, ?_⟩⟩
    · have hti : ∀ ks ∈ tss, Rs ks := fun ks hks => by
        obtain ⟨j, hj⟩ := List.getElem?_of_mem hks
        exact (hR j ks hj).1
      have htr : ∀ v ∈ nts (trN pr one other), 0 ≤ v ∧ v < (tss.length : Int) := fun v hv => by
        obtain ⟨y, hy, rfl⟩ := nts_mem.mp hv
        have := bw_all hy
        rw [← eTN] at this
        omega
      exact { m1 := by rw [nts_len, lth]; omega, m40 := by rw [nts_len, lth]; omega, t1 := by omega, t40 := by omega, n1 := by rw [nts_len, ltr]; omega, n40 := by rw [nts_len, ltr]; omega, hth := hth, hti := hti, htr := htr }
    · refine k x dx' a' b' c' qs' tss H' (fun b o e => ?_) D' ⟨by rw [ltss, eTN], hR⟩
      have e11 := s11 _ _ (u7 _ _ e)
      exact sb b o (fun z => by rw [z, nx] at e11; cases e11) (sz _ _ e11)
instance (c : Nat) : Decidable (Sg c) := inferInstanceAs (Decidable (_ ∨ _))
theorem occ2 (c : Nat) : (!(!(Builtin.Str.occurrences "#." ⟨#[c]⟩ 0 (Str.length "#.") 1).isEmpty)) = !decide (Sg c) := by
  rw [StrLaws.found_one]
  have e : (("#." : Str)).cps.toList = [35, 46] := by decide +kernel
  rw [e]
  congr 1
  apply decide_eq_decide.mpr
  unfold Sg
  simp only [List.mem_cons, List.not_mem_nil, or_false]
def NoCl (cl : List (List Nat)) : Prop := ¬ ∃ m n, Cl cl m n
def sp_xpick (t : Adr) : Sp := fun vs H Q E => ∃ (u : List Nat) (m : Nat), vs = [.str (tx u), .int (m : Int), .str "#."] ∧ u.length ≤ 1000 ∧ ((u.length = m ∧ ∀ c ∈ u, Sg c) → Q .non H) ∧ (¬ (u.length = m ∧ ∀ c ∈ u, Sg c) → E (.ref t.e_NoCloth) none H)
theorem okx_check_pick (T : Txt K mg t) : FnOk P w K mg base (CX1 P w) 1 t.f_check_pick t.d_check_pick ["text", "ends", "signs"] (sp_xpick t) := by
  refine T.check_pick.F.okX sc_check_pick (fun vs H Q E h => ?_) (fun cdv A outer s H vs Q E hr h => ?_)
  · obtain ⟨u, m, rfl, _⟩ := h
    rfl
  · obtain ⟨u, m, rfl, hl, k1, k2⟩ := h
    have hsz : sizeLine = 16777216 := sizeLine_eq
    refine ⟨_, (pss_cons (ps_if (pt_cmpR op_ne (pe_callB call_len_str rfl T.b_len bt_len (pa_cons (pv 0) pa_nil)) (pv 1) (nomark _))
        (pss_one (ps_raise body1 rfl (fun _ _ z => z) PySem.F.excBase_ValueError has_ve PySem.F.excBase_ValueError T.x_NoCloth.q rfl T.k_NoCloth (pa_cons pe_str pa_nil)))
        pss_nil)
      (pss_one (ps_fr fun hfr => (ps_for (ownX body1 hfr) rfl (pi_str (pv 0)) (pg_name (i := 3) sc_check_pick.nd rfl (Or.inl rfl))
        (pss_one (ps_if (pt_cmpR op_notin_str (pv 3) (pv 2) rfl)
          (pss_one (ps_raise body1 rfl (fun _ _ z => z) PySem.F.excBase_ValueError has_ve PySem.F.excBase_ValueError T.x_NoCloth.q rfl T.k_NoCloth (pa_cons pe_str pa_nil)))
          pss_nil)))))), ?_⟩
    refine ⟨_, rfl, _, rfl, (by rw [tx_len]; omega), _, rfl, rfl, _, rfl, ?_⟩
    rw [tx_len]
    by_cases hm : u.length = m
    · refine iteNS (by rw [hm]) ?_
      refine ⟨_, rfl, _, rfl, for_str (z := tx u) (fun i σ H2 => ∃ v, σ = [some (.str (tx u)), some (.int (m : Int)), some (.str "#."), v] ∧ H2 = H ∧ ∀ c ∈ u.take i, Sg c) ⟨none, rfl, rfl, fun c h => (by simp at h)⟩ ?_ ?_⟩
      · rintro i c σ H2 hc ⟨v, rfl, rfl, hall⟩
        rw [tx_get] at hc
        refine ⟨_, rfl, _, rfl, _, _, rfl, rfl, _, rfl, ?_⟩
        rw [occ2]
        by_cases hg : Sg c
        · refine iteNS hg ?_
          refine ⟨_, rfl, rfl, fun d hd => ?_⟩
          rw [List.take_add_one, hc] at hd
          rcases List.mem_append.mp hd with h | h
          · exact hall d h
          · have : d = c := by simpa using h
            rw [this]; exact hg
        · refine iteNp hg ?_
          exact ⟨by decide, k2 fun z => hg (z.2 c (List.mem_of_getElem? hc))⟩
      · rintro σ H2 ⟨v, rfl, rfl, hall⟩
        refine k1 ⟨hm, fun c hc => hall c ?_⟩
        have e : u.take (tx u).cps.size = u := by
          rw [List.take_of_length_le]
          have := tx_len u
          unfold Str.length at this
          omega
        rw [e]
        exact hc
    · refine iteNp (fun z => hm (by injection z with z; omega)) ?_
      exact ⟨by decide, k2 fun z => hm z.1⟩
def sp_xmt (K : PySem.W.Frag) (t : Adr) : Sp := fun vs H Q E => ∃ (a : Addr) (cl : List (List Nat)), vs = [.ref a, .int 1, .str "#."] ∧ SqL K H a (vS cl) ∧ cl.length ≤ 1000 ∧ (∀ u ∈ cl, u.length ≤ 1000) ∧ (∀ m n, Cl cl m n → ∀ p, H p = none → Q (.ref p) (upd H p (.tup [.int (m : Int), .int (n : Int)]))) ∧ (NoCl cl → E (.ref t.e_NoCloth) none H)
theorem okx_measured_texts (T : Txt K mg t) : FnOk P w K mg base (CX1 P w) 2 t.f_measured_texts t.d_measured_texts ["texts", "least", "signs"] (sp_xmt K t) := by
  have G_check_pick : FnOk P w K mg base (CX1 P w) 1 t.f_check_pick t.d_check_pick _ _ := okx_check_pick T
  refine T.measured_texts.F.okX sc_measured_texts (fun vs H Q E h => ?_) (fun cdv A outer s H vs Q E hr h => ?_)
  · obtain ⟨a, cl, rfl, _⟩ := h
    rfl
  · obtain ⟨a, cl, rfl, hS, l1, l2, k1, k2⟩ := h
    have hsz : sizeLine = 16777216 := sizeLine_eq
    have hlen : (vS cl).length = cl.length := vS_len cl
    refine ⟨_, (pss_cons (ps_if (PW.pt (pw_or (pt_cmpR op_lt (pe_callB (call_len_seqK (K := K)) rfl T.b_len bt_len (pa_cons (pv 0) pa_nil)) (pv 1) (nomark _)) (pw_or1 (pt_cmpR op_gt (pe_callB (call_len_seqK (K := K)) rfl T.b_len bt_len (pa_cons (pv 0) pa_nil)) (pe_glob (v := .int 40) rfl T.c_MOST_STRANDS.choose_spec ⟨_, rfl⟩) (nomark _)))))
        (pss_one (ps_raise body1 rfl (fun _ _ z => z) PySem.F.excBase_ValueError has_ve PySem.F.excBase_ValueError T.x_NoCloth.q rfl T.k_NoCloth (pa_cons pe_str pa_nil)))
        pss_nil)
      (pss_cons (ps_set (i := 3) sc_measured_texts.nd rfl (Or.inl rfl) (pe_callB call_len_str rfl T.b_len bt_len (pa_cons (pe_ix (ix_listK (K := K)) (pv 0) pe_int (fun _ _ => rfl)) pa_nil)))
      (pss_cons (ps_if (PW.pt (pw_or (pt_cmpR op_lt (pv 3) (pv 1) (nomark _)) (pw_or1 (pt_cmpR op_gt (pv 3) (pe_glob (v := .int 40) rfl T.c_MOST_STRANDS.choose_spec ⟨_, rfl⟩) (nomark _)))))
        (pss_one (ps_raise body1 rfl (fun _ _ z => z) PySem.F.excBase_ValueError has_ve PySem.F.excBase_ValueError T.x_NoCloth.q rfl T.k_NoCloth (pa_cons pe_str pa_nil)))
        pss_nil)
      (pss_cons (ps_fr fun hfr => (ps_for (ownX body1 hfr) rfl (pi_listK (K := K) (pv 0)) (pg_name (i := 4) sc_measured_texts.nd rfl (Or.inl rfl))
        (pss_one (ps_expr (pe_call (G_check_pick.mono (by decide)) hr rfl T.check_pick.m T.check_pick.F.kp T.check_pick.b .nil pass1 (pa_cons (pv 4) (pa_cons (pv 3) (pa_cons (pv 2) pa_nil))))))))
      (pss_one (ps_ret (pe_tup (pa_cons (pv 3) (pa_cons (pe_callB (call_len_seqK (K := K)) rfl T.b_len bt_len (pa_cons (pv 0) pa_nil)) pa_nil))))))))), ?_⟩
    refine ⟨_, rfl, _, _, rfl, .inl hS, _, rfl, _, _, rfl, rfl, _, rfl, ?_⟩
    rw [hlen]
    refine ite2D (fun h => iteT ⟨by decide, k2 fun ⟨m, n, C⟩ => by have := C.hn; have := C.n1; omega⟩) (fun g1 => ?_)
    refine ⟨_, rfl, _, _, rfl, .inl hS, _, _, rfl, rfl, _, rfl, ?_⟩
    rw [hlen]
    refine ite2D (fun h => ⟨by decide, k2 fun ⟨m, n, C⟩ => by have := C.hn; have := C.n40; omega⟩) (fun g2 => ?_)
    have h0 : 0 < cl.length := by omega
    have lm := l2 cl[0] (List.getElem_mem h0)
    obtain ⟨m, hm⟩ : ∃ m, m = cl[0].length := ⟨_, rfl⟩
    have hm' : ∀ m' n', Cl cl m' n' → m' = m := fun m' n' C => by rw [hm]; exact (C.hm cl[0] (List.getElem_mem h0)).symm
    refine ⟨_, rfl, _, _, _, _, rfl, rfl, hS, atI_of (by decide) (vS_get (List.getElem?_eq_getElem h0)), _, rfl, (by rw [tx_len]; omega), ?_⟩
    rw [tx_len, ← hm]
    refine ⟨_, rfl, _, rfl, _, _, rfl, rfl, _, rfl, ?_⟩
    refine ite2D (fun h => iteT ⟨by decide, k2 fun ⟨m, n, C⟩ => by have := hm' _ _ C; have := C.m1; omega⟩) (fun g3 => ?_)
    refine ⟨_, rfl, _, _, rfl, rfl, _, rfl, ?_⟩
    refine ite2D (fun h => ⟨by decide, k2 fun ⟨m, n, C⟩ => by have := hm' _ _ C; have := C.m40; omega⟩) (fun g4 => ?_)
    refine ⟨_, rfl, _, rfl, ⟨_, hS⟩, for_list (K := K) (a := a) (xs := vS cl) (fun i σ H2 => ∃ v, σ = [some (.ref a), some (.int 1), some (.str "#."), some (.int (m : Int)), v] ∧ H2 = H ∧ ∀ u ∈ cl.take i, u.length = m ∧ ∀ c ∈ u, Sg c) ⟨none, rfl, rfl, fun u h => (by simp at h)⟩ (fun i σ H2 _ ⟨_, _, e, _⟩ => e ▸ hS) ?_ ?_⟩
    · rintro i x σ H2 hx ⟨v, rfl, rfl, hall⟩
      obtain ⟨u, hu, rfl⟩ := vS_got hx
      have um := List.mem_of_getElem? hu
      refine ⟨_, rfl, _, rfl, _, rfl, u, m, rfl, l2 u um, fun hg => ?_, fun hb => k2 fun ⟨m', n', C⟩ => hb ⟨by rw [← hm' _ _ C]; exact C.hm u um, C.sg u um⟩⟩
      refine ⟨_, rfl, rfl, fun u' hu' => ?_⟩
      rw [List.take_add_one, hu] at hu'
      rcases List.mem_append.mp hu' with h | h
      · exact hall u' h
      · have : u' = u := by simpa using h
        rw [this]; exact hg
    · rintro σ H2 ⟨v, rfl, rfl, hall⟩
      rw [hlen, List.take_length] at hall
      refine ⟨_, rfl, _, rfl, _, _, rfl, .inl hS, (by show 2 ≤ sizeLine; decide), fun p hp => ?_⟩
      rw [hlen]
      exact k1 m cl.length ⟨rfl, fun u hu => (hall u hu).1, fun u hu => (hall u hu).2, by omega, by omega, by omega, by omega⟩ p hp
def sp_xmh (K : PySem.W.Frag) (t : Adr) : Sp := fun vs H Q E => ∃ (a : Addr) (cl : List (List Nat)), vs = [.ref a] ∧ SqL K H a (vS cl) ∧ cl.length ≤ 1000 ∧ (∀ u ∈ cl, u.length ≤ 1000) ∧ (∀ m n, Cl cl m n → ∀ p, H p = none → Q (.ref p) (upd H p (.tup [.int (m : Int), .int (n : Int)]))) ∧ (NoCl cl → E (.ref t.e_NoCloth) none H)
theorem okx_measured (T : Txt K mg t) : FnOk P w K mg base (CX1 P w) 3 t.f_measured t.d_measured ["cloth"] (sp_xmh K t) := by
  have G_measured_texts : FnOk P w K mg base (CX1 P w) 2 t.f_measured_texts t.d_measured_texts _ _ := okx_measured_texts T
  refine T.measured.F.okX sc_measured (fun vs H Q E h => ?_) (fun cdv A outer s H vs Q E hr h => ?_)
  · obtain ⟨a, cl, rfl, _⟩ := h
    rfl
  · obtain ⟨a, cl, rfl, hS, l1, l2, k1, k2⟩ := h
    exact ⟨_, (pss_one (ps_ret (pe_call (G_measured_texts.mono (by decide)) hr rfl T.measured_texts.m T.measured_texts.F.kp T.measured_texts.b .nil pass1 (pa_cons (pv 0) (pa_cons pe_int (pa_cons pe_str pa_nil)))))), _, rfl, a, cl, rfl, hS, l1, l2, k1, k2⟩
theorem cl_one {cl : List (List Nat)} {m n m' n' : Nat} (C : Cl cl m n) (D : Cl cl m' n') : m = m' ∧ n = n' := by
  have hl : 0 < cl.length := by have := C.n1; have := C.hn; omega
  exact ⟨(C.hm cl[0] (List.getElem_mem hl)).symm.trans (D.hm cl[0] (List.getElem_mem hl)), C.hn.symm.trans D.hn⟩
def Shr (cl : List (List Nat)) : Prop := cl.length ≤ 1000 ∧ ∀ u ∈ cl, u.length ≤ 1000
theorem Shr.of {cl : List (List Nat)} {m n : Nat} (C : Cl cl m n) : Shr cl := ⟨by rw [C.hn]; have := C.n40; omega, fun u hu => by rw [C.hm u hu]; have := C.m40; omega⟩
def spx_unit (K : PySem.W.Frag) (t : Adr) : Sp := fun vs H Q E => ∃ (b c : Addr) (cb cc : List (List Nat)), vs = [.ref b, .ref c] ∧ SqL K H b (vS cb) ∧ SqL K H c (vS cc) ∧ Shr cb ∧ Shr cc ∧
  (∀ w h, Cl cb w h → Cl cc w h → ∀ p H', Same H H' → H' p = some (.tup [.int (w : Int), .int (h : Int)]) → Q (.ref p) H') ∧ (NoCl cb ∨ NoCl cc → ∀ H', Same H H' → E (.ref t.e_NoCloth) none H') ∧
  (∀ w h w' h', Cl cb w h → Cl cc w' h' → ¬ (w = w' ∧ h = h') → ∀ H', Same H H' → E (.ref t.e_NoBlock) none H')
theorem okx_unit_size (T : Txt K mg t) : FnOk P w K mg base (CX1 P w) 4 t.f_unit_size t.d_unit_size ["one", "other"] (spx_unit K t) := by
  have G_measured : FnOk P w K mg base (CX1 P w) 3 t.f_measured t.d_measured _ _ := okx_measured T
  refine T.unit_size.F.okX sc_unit_size (fun vs H Q E h => ?_) (fun cdv A outer s H vs Q E hr h => ?_)
  · obtain ⟨b, c, cb, cc, rfl, _⟩ := h
    rfl
  · obtain ⟨b, c, cb, cc, rfl, hB, hC, sb, sc, k1, k2, k3⟩ := h
    refine ⟨_, (pss_cons (ps_set (i := 2) sc_unit_size.nd rfl (Or.inl rfl) (pe_call (G_measured.mono (by decide)) hr rfl T.measured.m T.measured.F.kp T.measured.b .nil pass1 (pa_cons (pv 0) pa_nil)))
      (pss_cons (ps_if (pt_cmpR (op_neTI (K := K) (hr.units100)) (pe_call (G_measured.mono (by decide)) hr rfl T.measured.m T.measured.F.kp T.measured.b .nil pass1 (pa_cons (pv 1) pa_nil)) (pv 2) (nomark _))
        (pss_one (ps_raise body1 rfl (fun _ _ z => z) PySem.F.excBase_ValueError has_ve PySem.F.excBase_ValueError T.x_NoBlock.q rfl T.k_NoBlock (pa_cons pe_str pa_nil)))
        pss_nil)
      (pss_one (ps_ret (pv 2))))), ?_⟩
    refine ⟨_, rfl, b, cb, rfl, hB, sb.1, sb.2, fun w h C p np => ?_, fun no => k2 (.inl no) H (.refl _)⟩
    have s1 : Same H (upd H p (.tup [.int (w : Int), .int (h : Int)])) := .upd np
    have hp1 : (upd H p (.tup [.int (w : Int), .int (h : Int)])) p = some (.tup (vI [(w : Int), (h : Int)])) := upd_same
    generalize upd H p (.tup [.int (w : Int), .int (h : Int)]) = H1 at s1 hp1 ⊢
    refine ⟨_, rfl, c, cc, rfl, s1.seq hC, sc.1, sc.2, fun w' h' C' p' np' => ?_, fun no => k2 (.inr no) H1 s1⟩
    have s2 : Same H1 (upd H1 p' (.tup [.int (w' : Int), .int (h' : Int)])) := .upd np'
    have hp2 : (upd H1 p' (.tup [.int (w' : Int), .int (h' : Int)])) p' = some (.tup (vI [(w' : Int), (h' : Int)])) := upd_same
    generalize upd H1 p' (.tup [.int (w' : Int), .int (h' : Int)]) = H2 at s2 hp2 ⊢
    refine ⟨_, rfl, p', p, _, _, rfl, rfl, SqT.of hp2, SqT.of (s2 _ _ hp1), _, rfl, ?_⟩
    by_cases q : w = w' ∧ h = h'
    · refine iteNS (by rw [q.1, q.2]) ?_
      refine ⟨_, rfl, k1 w h C (by rw [q.1, q.2]; exact C') p _ (s1.trans s2) (s2 _ _ hp1)⟩
    · refine iteNp (fun z => q ?_) ⟨by decide, k3 w h w' h' C C' q _ (s1.trans s2)⟩
      injection z with z1 z2
      injection z2 with z2 _
      omega
inductive Bad (t : Adr) (ca cb cc : List (List Nat)) : Addr → Str → Prop
  | nc : NoCl ca ∨ NoCl cb ∨ NoCl cc → Bad t ca cb cc t.e_NoCloth "NoCloth"
  | nb {m n w h w' h' : Nat} : Cl ca m n → Cl cb w h → Cl cc w' h' → ¬ (w = w' ∧ h = h') → Bad t ca cb cc t.e_NoBlock "NoBlock"
  | tl {m n w h : Nat} : Cl ca m n → Cl cb w h → Cl cc w h → (40 < m * w ∨ 40 < n * h) → Bad t ca cb cc t.e_TooLarge "TooLarge"
def spx_fill (K : PySem.W.Frag) (t : Adr) : Sp := fun vs H Q E => ∃ (a b c cls : Addr) (wd : Str) (ca cb cc : List (List Nat)), vs = [.ref a, .ref b, .ref c] ∧ SqL K H a (vS ca) ∧ SqL K H b (vS cb) ∧ SqL K H c (vS cc) ∧ Shr ca ∧ Shr cb ∧ Shr cc ∧ Bad t ca cb cc cls wd ∧ ∀ H', Same H H' → E (.ref cls) none H'
theorem okx_filled_blocks (T : Txt K mg t) : FnOk P w K mg base (CX1 P w) 5 t.f_filled_blocks t.d_filled_blocks ["profile", "one", "other"] (spx_fill K t) := by
  have G_measured : FnOk P w K mg base (CX1 P w) 3 t.f_measured t.d_measured _ _ := okx_measured T
  have G_unit_size : FnOk P w K mg base (CX1 P w) 4 t.f_unit_size t.d_unit_size _ _ := okx_unit_size T
  refine T.filled_blocks.F.okX sc_filled_blocks (fun vs H Q E h => ?_) (fun cdv A outer s H vs Q E hr h => ?_)
  · obtain ⟨a, b, c, cls, wd, ca, cb, cc, rfl, _⟩ := h
    rfl
  · obtain ⟨a, b, c, cls, wd, ca, cb, cc, rfl, hA, hB, hC, sa, sb, sc, B, k⟩ := h
    refine ⟨_, (pss_cons (ps_set (i := 3) sc_filled_blocks.nd rfl (Or.inl rfl) (pe_call (G_measured.mono (by decide)) hr rfl T.measured.m T.measured.F.kp T.measured.b .nil pass1 (pa_cons (pv 0) pa_nil)))
      (pss_cons (ps_set (i := 4) sc_filled_blocks.nd rfl (Or.inl rfl) (pe_call (G_unit_size.mono (by decide)) hr rfl T.unit_size.m T.unit_size.F.kp T.unit_size.b .nil pass1 (pa_cons (pv 1) (pa_cons (pv 2) pa_nil))))
      (pss_cons (ps_if (PW.pt (pw_or (pt_cmpR op_gt (pe_op op_mul (pe_ix (ix_tupK (K := K)) (pv 3) pe_int (fun _ _ => rfl)) (pe_ix (ix_tupK (K := K)) (pv 4) pe_int (fun _ _ => rfl))) (pe_glob (v := .int 40) rfl T.c_MOST_STRANDS.choose_spec ⟨_, rfl⟩) (nomark _)) (pw_or1 (pt_cmpR op_gt (pe_op op_mul (pe_ix (ix_tupK (K := K)) (pv 3) pe_int (fun _ _ => rfl)) (pe_ix (ix_tupK (K := K)) (pv 4) pe_int (fun _ _ => rfl))) (pe_glob (v := .int 40) rfl T.c_MOST_STRANDS.choose_spec ⟨_, rfl⟩) (nomark _)))))
        (pss_one (ps_raise body1 rfl (fun _ _ z => z) PySem.F.excBase_ValueError has_ve PySem.F.excBase_ValueError T.x_TooLarge.q rfl T.k_TooLarge (pa_cons pe_str pa_nil)))
        pss_nil)
      (pss_cons (ps_set (i := 5) sc_filled_blocks.nd rfl (Or.inl rfl) (pe_lst pa_nil))
      (pss_cons (PS.nox (ps_for PassesOwn.never rfl (pi_listK (K := K) (pv 0)) (pg_name (i := 6) sc_filled_blocks.nd rfl (Or.inl rfl))
        (pss_one (ps_for PassesOwn.never rfl (pi_zip (K := K) rfl T.b_zip (pa_cons (pv 1) (pa_cons (pv 2) pa_nil))) (pg_tup rfl (pgs_cons (pg_name (i := 7) sc_filled_blocks.nd rfl (Or.inr rfl)) (pgs_cons (pg_name (i := 8) sc_filled_blocks.nd rfl (Or.inr rfl)) pgs_nil)))
          (pss_one (ps_expr (pe_bmK (K := K) PySem.F.plainAttrs_list PySem.F.slot_list_append PySem.F.type_list_append mt_append (pv 5) (pa_cons (pe_bmK (K := K) PySem.F.plainAttrs_str PySem.F.slot_str_join PySem.F.type_str_join (mt_joinK (K := K)) pe_str (pa_cons (pe_comp (CompOk.mk (caps := [7, 8]) (Nc := ["sign", "of_one", "of_other"]) rfl (by decide +kernel) (by decide +kernel) (comp_fr (sc0 := defScope s_filled_blocks) rfl (by decide +kernel)) rfl rfl rfl (by decide +kernel) (fun k j h => match k, h with | 0, h => by obtain rfl := Option.some.inj h; exact ⟨_, rfl, rfl, rfl⟩ | 1, h => by obtain rfl := Option.some.inj h; exact ⟨_, rfl, rfl, rfl⟩ | _ + 2, h => by simp at h)) rfl (pi_str (pv 6)) (fun _ _ _ _ _ => .nil) (fun _ _ _ _ _ => (pe_ifExp (pt_cmpR op_eq (pv 0) pe_str (nomark _)) (pv 1) (pv 2)))) pa_nil)) pa_nil))))))))
      (pss_one (ps_ret (pv 5)))))))), ?_⟩
    refine ⟨_, rfl, a, ca, rfl, hA, sa.1, sa.2, fun m n C p np => ?_, fun no => ?_⟩
    case refine_2 =>
      cases B with
      | nc _ => exact k H (.refl _)
      | nb C _ _ _ => exact absurd ⟨_, _, C⟩ no
      | tl C _ _ _ => exact absurd ⟨_, _, C⟩ no
    have s1 : Same H (upd H p (.tup [.int (m : Int), .int (n : Int)])) := .upd np
    have hp1 : (upd H p (.tup [.int (m : Int), .int (n : Int)])) p = some (.tup [.int (m : Int), .int (n : Int)]) := upd_same
    generalize upd H p (.tup [.int (m : Int), .int (n : Int)]) = H1 at s1 hp1 ⊢
    refine ⟨_, rfl, _, rfl, b, c, cb, cc, rfl, s1.seq hB, s1.seq hC, sb, sc, fun w h C1 C2 p2 H2 s2 hp2 => ?_, fun no H2 s2 => ?_, fun w h w' h' C1 C2 ne H2 s2 => ?_⟩
    case refine_2 =>
      cases B with
      | nc _ => exact k H2 (s1.trans s2)
      | nb _ C1 C2 _ => exact absurd no (fun z => z.elim (fun z => z ⟨_, _, C1⟩) (fun z => z ⟨_, _, C2⟩))
      | tl _ C1 C2 _ => exact absurd no (fun z => z.elim (fun z => z ⟨_, _, C1⟩) (fun z => z ⟨_, _, C2⟩))
    case refine_3 =>
      cases B with
      | nc no => exact absurd no (fun z => z.elim (fun z => z ⟨_, _, C⟩) fun z => z.elim (fun z => z ⟨_, _, C1⟩) (fun z => z ⟨_, _, C2⟩))
      | nb _ _ _ _ => exact k H2 (s1.trans s2)
      | tl _ D1 D2 _ =>
        have x1 := cl_one C1 D1
        have x2 := cl_one C2 D2
        exact absurd ⟨x1.1.trans x2.1.symm, x1.2.trans x2.2.symm⟩ ne
    have u2 := s1.trans s2
    have hp12 := s2 _ _ hp1
    have m40 := C.m40
    have n40 := C.n40
    have w40 := C1.m40
    have h40 := C1.n40
    have em : (m : Int) * (w : Int) = ((m * w : Nat) : Int) := by rw [Int.natCast_mul]
    have en : (n : Int) * (h : Int) = ((n * h : Nat) : Int) := by rw [Int.natCast_mul]
    cases B with
    | nc no => exact absurd no (fun z => z.elim (fun z => z ⟨_, _, C⟩) fun z => z.elim (fun z => z ⟨_, _, C1⟩) (fun z => z ⟨_, _, C2⟩))
    | nb _ D1 D2 ne =>
      have x1 := cl_one C1 D1
      have x2 := cl_one C2 D2
      exact absurd ⟨x1.1.symm.trans x2.1, x1.2.symm.trans x2.2⟩ ne
    | tl D D1 D2 big =>
      have x0 := cl_one C D
      have x1 := cl_one C1 D1
      rw [← x0.1, ← x0.2, ← x1.1, ← x1.2] at big
      refine ⟨_, rfl, _, _, _, _, rfl, rfl, SqT.of hp12, atI_of (by decide) rfl, _, rfl, _, _, _, _, rfl, rfl, SqT.of hp2, atI_of (by decide) rfl, _, _, rfl, rfl, .inl ⟨by omega, by omega⟩, _, _, rfl, rfl, _, rfl, ?_⟩
      refine ite2D (fun _ => iteT ⟨by decide, k H2 u2⟩) (fun g1 => ?_)
      refine ⟨_, rfl, _, _, _, _, rfl, rfl, SqT.of hp12, atI_of (by decide) rfl, _, rfl, _, _, _, _, rfl, rfl, SqT.of hp2, atI_of (by decide) rfl, _, _, rfl, rfl, .inl ⟨by omega, by omega⟩, _, _, rfl, rfl, _, rfl, ?_⟩
      refine iteDp ?_ ⟨by decide, k H2 u2⟩
      rw [em] at g1
      rw [en]
      omega
theorem okx_block_draft (T : Txt K mg t) : FnOk P w K mg base (CX1 P w) 7 t.f_block_draft t.d_block_draft ["profile", "one", "other"] (spx_fill K t) := by
  have G_filled_blocks : FnOk P w K mg base (CX1 P w) 5 t.f_filled_blocks t.d_filled_blocks _ _ := okx_filled_blocks T
  refine T.block_draft.F.okX sc_block_draft (fun vs H Q E h => ?_) (fun cdv A outer s H vs Q E hr h => ?_)
  · obtain ⟨a, b, c, cls, wd, ca, cb, cc, rfl, _⟩ := h
    rfl
  · obtain ⟨a, b, c, cls, wd, ca, cb, cc, rfl, h⟩ := h
    refine ⟨_, (pss_cons (ps_set (i := 3) sc_block_draft.nd rfl (Or.inr rfl) (pe_call (G_filled_blocks.mono (by decide)) hr rfl T.filled_blocks.m T.filled_blocks.F.kp T.filled_blocks.b .nil pass1 (pa_cons (pv 0) (pa_cons (pv 1) (pa_cons (pv 2) pa_nil))))) pss_never), ?_⟩
    exact ⟨_, rfl, _, rfl, _, rfl, a, b, c, cls, wd, ca, cb, cc, rfl, h⟩
end
end Mine
namespace L2
open PySem PySem.Spec PyProof.Rows
section
variable {X : Cx} {K : PySem.W.Frag} {k : Nat} {f C : Addr} {fd : FuncData} {ps : List Str} {sp : Sp} {dvs : List V} {ds : List Value} {x m : Str} {p pos apos : Pos} {e o : Expr} {es : List Expr} {ta : TE} {t : TA}
theorem psx_if {c : Expr} {a b : List Stmt} {tc : TT} {t1 t2 : XK → TS} (hc : PT X.nox c tc) (ha : PSXs X a t1) (hb : PSXs X b t2) : PSX X (.If c a b pos) fun E => tIfS tc (t1 E) (t2 E) := by
  intro pins s σ H D E I h
  refine wpAny_If (wpAny_mono (hc pins s σ H _ (I.wish _) h) (fun d s1 ⟨H1, I1, q1⟩ => ?_) fun _ _ z => z.elim)
  cases d with
  | true => exact ha pins s1 σ H1 D E I1.unwish q1
  | false => exact hb pins s1 σ H1 D E I1.unwish q1
def rNeE (K : PySem.W.Frag) : R2 := fun x y H Q => ∃ p q xs, x = .ref p ∧ y = .ref q ∧ SqL K H p xs ∧ SqL K H q [] ∧ Q (.bl (!xs.isEmpty)) H
def rEqE (K : PySem.W.Frag) : R2 := fun x y H Q => ∃ p q xs, x = .ref p ∧ y = .ref q ∧ SqL K H p xs ∧ SqL K H q [] ∧ Q (.bl xs.isEmpty) H
end
end L2
namespace Mine
open PySem L2
section
variable {P : Program} {w : World} {K : PySem.W.Frag} {mg : Str → Option Value} {base : Heap} {t : Adr}
theorem small1000 {n : Nat} (h : n ≤ 1000) : n ≤ sizeLine := Nat.le_trans h (by decide)
theorem cutV_mid {xs : List V} {i j : Nat} (h : i ≤ j) : cutV xs (some (i : Int)) (some (j : Int)) = (xs.drop i).take (j - i) := by
  unfold cutV
  rw [HT.sIx_nat, HT.sIx_nat]
  by_cases q : i ≤ xs.length
  · rw [Nat.min_eq_left q]
    by_cases r : j ≤ xs.length
    · rw [Nat.min_eq_left r]
    · rw [Nat.min_eq_right (by omega), List.take_of_length_le (by rw [List.length_drop]; omega), List.take_of_length_le (by rw [List.length_drop]; omega)]
  · rw [Nat.min_eq_right (by omega), Nat.min_eq_right (by omega), List.drop_eq_nil_of_le (Nat.le_refl _), List.drop_eq_nil_of_le (by omega), List.take_nil, List.take_nil]
theorem rep_vI (m : Nat) (z : Int) : (List.replicate m [V.int z]).flatten = vI (List.replicate m z) := by
  induction m with
  | zero => rfl
  | succ m ih => rw [List.replicate_succ, List.flatten_cons, ih, List.replicate_succ]; rfl
theorem set_nonneg {ks : List Int} {j : Nat} {z : Int} (h : ∀ k ∈ ks, 0 ≤ k) (hz : 0 ≤ z) : ∀ k ∈ ks.set j z, 0 ≤ k := fun k hk => by
  rcases List.mem_or_eq_of_mem_set hk with h1 | h1
  · exact h k h1
  · subst h1; exact hz
def sp_numbers (K : PySem.W.Frag) : Sp := fun vs H Q _ => ∃ (a : Addr) (ns : List Int) (m : Nat), vs = [.ref a, .int (m : Int)] ∧ SqL K H a (vI ns) ∧ ns.length ≤ 63 ∧ 63 ≤ m ∧ m ≤ 1000 ∧
  ∀ (l : Addr) (ks : List Int) (H' : Hp), Same H H' → H l = none → H' l = some (.lst (vI ks)) → ks.length = m → (∀ k ∈ ks, 0 ≤ k) → Q (.ref l) H'
theorem ok_law_numbers (T : Txt K mg t) : FnOk P w K mg base CX0 1 t.f_law_numbers t.d_law_numbers ["script", "many"] (sp_numbers K) := by
  refine T.law_numbers.F.ok sc_law_numbers (fun vs H Q E h => ?_) (fun cdv A outer s H vs Q E hr h => ?_)
  · obtain ⟨a, ns, m, rfl, _⟩ := h
    rfl
  · obtain ⟨a, ns, m, rfl, hS, hl, hm, hm2, k⟩ := h
    have hsz : sizeLine = 16777216 := sizeLine_eq
    refine ⟨_, (pss_cons (ps_set (i := 2) sc_law_numbers.nd rfl (Or.inl rfl) pe_int)
      (pss_cons (ps_set (i := 3) sc_law_numbers.nd rfl (Or.inl rfl) (pe_op op_rep (pe_lst (pa_cons pe_int pa_nil)) (pv 1)))
      (pss_cons (ps_for PassesOwn.never rfl (pi_range1 rfl T.b_range (pa_cons (pe_callB (call_len_seqK (K := K)) rfl T.b_len bt_len (pa_cons (pv 0) pa_nil)) pa_nil)) (pg_name (i := 4) sc_law_numbers.nd rfl (Or.inl rfl))
        (pss_cons (ps_asg (pe_op op_mod (pe_op op_add (pe_op op_mul (pe_ix (ix_listK (K := K)) (pv 3) (pe_op op_mod (pv 4) (pv 1)) (fun _ _ => rfl)) pe_int) (pe_ix (ix_listK (K := K)) (pv 0) (pv 4) (fun _ _ => rfl))) (pe_op op_pow pe_int pe_int)) (pg_sub (pv 3) (pe_op op_mod (pv 4) (pv 1)) set_list))
        (pss_one (ps_set (i := 2) sc_law_numbers.nd rfl (Or.inl rfl) (pe_op op_mod (pe_op op_add (pe_op op_mul (pv 2) pe_int) (pe_ix (ix_listK (K := K)) (pv 0) (pv 4) (fun _ _ => rfl))) pe_int)))))
      (pss_cons (ps_for PassesOwn.never rfl (pi_range2 rfl T.b_range (pa_cons (pe_callB (call_len_seqK (K := K)) rfl T.b_len bt_len (pa_cons (pv 0) pa_nil)) (pa_cons (pv 1) pa_nil))) (pg_name (i := 4) sc_law_numbers.nd rfl (Or.inl rfl))
        (pss_cons (ps_set (i := 2) sc_law_numbers.nd rfl (Or.inl rfl) (pe_op op_mod (pe_op op_add (pe_op op_mul (pv 2) pe_int) (pv 4)) pe_int))
        (pss_one (ps_asg (pe_op op_fdiv (pv 2) pe_int) (pg_sub (pv 3) (pv 4) set_list)))))
      (pss_one (ps_ret (pv 3))))))), ?_⟩
    refine ⟨(by show 1 ≤ sizeLine; decide), fun p hp => ?_⟩
    refine ⟨_, rfl, _, _, _, rfl, rfl, upd_same, (by omega), (by omega), (by show 1 * ((m : Int).toNat) ≤ sizeLine; omega), fun q hq => ?_⟩
    rw [Int.toNat_natCast, rep_vI]
    have s1 : Same H (upd H p (.lst [.int 0])) := .upd hp
    have nq : H q = none := s1.free hq
    have s2 : Same H (upd (upd H p (.lst [.int 0])) q (.lst (vI (List.replicate m 0)))) := s1.new hq
    refine ⟨_, rfl, _, _, rfl, .inl (s2.seq hS), _, rfl, (by omega), (by rw [vI_len]; omega), ?_⟩
    rw [Int.toNat_natCast, vI_len]
    refine for_range (lo := 0) (n := ns.length) (fun i σ H2 => ∃ (mx : Int) (ks : List Int) (v : Option V), σ = [some (.ref a), some (.int (m : Int)), some (.int mx), some (.ref q), v] ∧ Same H H2 ∧ H2 q = some (.lst (vI ks)) ∧ ks.length = m ∧ (∀ k ∈ ks, 0 ≤ k) ∧ 0 ≤ mx)
      ⟨7, _, none, rfl, s2, upd_same, by rw [List.length_replicate], fun k hk => by rw [List.eq_of_mem_replicate hk]; exact Int.le_refl _, by decide⟩ ?_ ?_
    · rintro i σ H2 hi ⟨mx, ks, v, rfl, s3, hq2, hkl, hkn, hmx⟩
      have hix : (0 + (i : Int)) % (m : Int) = ((i % m : Nat) : Int) := by rw [Int.zero_add]; omega
      have hlt : i % m < ks.length := by rw [hkl]; exact Nat.mod_lt _ (by omega)
      have e1 : (vI ks)[((0 + (i : Int)) % (m : Int)).toNat]? = some (.int ks[i % m]) := by
        rw [hix, Int.toNat_natCast]
        exact vI_get (List.getElem?_eq_getElem hlt)
      have e2 : (vI ns)[(0 + (i : Int)).toNat]? = some (.int ns[i]) := by
        rw [Int.zero_add, Int.toNat_natCast]
        exact vI_get (List.getElem?_eq_getElem hi)
      have n1 : 0 ≤ (0 + (i : Int)) % (m : Int) := by rw [hix]; omega
      refine ⟨_, rfl, _, rfl, _, rfl, _, _, rfl, rfl, (by show (0 : Int) < m; omega), ?_⟩
      refine ⟨_, _, _, _, rfl, rfl, SqL.of hq2, atI_of n1 e1, ?_⟩
      refine ⟨_, _, rfl, rfl, .inr ⟨by decide, by decide⟩, ?_⟩
      refine ⟨_, rfl, _, rfl, _, _, _, _, rfl, rfl, s3.seq hS, atI_of (by omega) e2, ?_⟩
      refine ⟨_, _, rfl, rfl, ?_⟩
      refine ⟨_, _, rfl, rfl, ⟨by decide, by decide, by decide⟩, ?_⟩
      refine ⟨_, _, rfl, rfl, (by show (0 : Int) < 10 ^ 60; decide), ?_⟩
      refine ⟨_, rfl, _, rfl, _, rfl, _, _, rfl, rfl, (by show (0 : Int) < m; omega), ?_⟩
      refine ⟨_, _, _, _, rfl, rfl, hq2, ixN_of n1 (by rw [vI_len, hkl]; rw [hix]; omega), ?_⟩
      rw [vI_set]
      refine ⟨_, rfl, _, _, rfl, rfl, .inr ⟨by decide, by decide⟩, ?_⟩
      have s4 : Same H (upd H2 q (.lst (vI (ks.set ((0 + (i : Int)) % (m : Int)).toNat ((ks[i % m] * 31 + ns[i]) % 10 ^ (60 : Int).toNat))))) := s3.over nq
      refine ⟨_, rfl, _, rfl, _, _, _, _, rfl, rfl, s4.seq hS, atI_of (by omega) e2, ?_⟩
      refine ⟨_, _, rfl, rfl, ?_⟩
      refine ⟨_, _, rfl, rfl, (by show (0 : Int) < 2147483647; decide), ?_⟩
      exact ⟨_, _, _, rfl, s4, upd_same, by rw [List.length_set]; exact hkl, set_nonneg hkn (Int.emod_nonneg _ (by decide)), Int.emod_nonneg _ (by decide)⟩
    · rintro σ H2 ⟨mx, ks, v, rfl, s3, hq2, hkl, hkn, hmx⟩
      refine ⟨_, rfl, _, _, rfl, .inl (s3.seq hS), _, rfl, _, _, rfl, ⟨by omega, by rw [vI_len]; omega, by omega, by omega⟩, ?_⟩
      rw [vI_len]
      refine for_range (lo := (ns.length : Int)) (n := ((m : Int) - (ns.length : Int)).toNat) (fun i σ H2 => ∃ (mx : Int) (ks : List Int) (v : Option V), σ = [some (.ref a), some (.int (m : Int)), some (.int mx), some (.ref q), v] ∧ Same H H2 ∧ H2 q = some (.lst (vI ks)) ∧ ks.length = m ∧ (∀ k ∈ ks, 0 ≤ k) ∧ 0 ≤ mx)
        ⟨mx, ks, v, rfl, s3, hq2, hkl, hkn, hmx⟩ ?_ ?_
      · rintro i σ H3 hi ⟨mx, ks, v, rfl, s3, hq2, hkl, hkn, hmx⟩
        refine ⟨_, rfl, _, _, rfl, rfl, .inr ⟨by decide, by decide⟩, ?_⟩
        refine ⟨_, rfl, _, _, rfl, rfl, ?_⟩
        refine ⟨_, _, rfl, rfl, (by show (0 : Int) < 2147483647; decide), ?_⟩
        have hnn : 0 ≤ (mx * 16807 + ((ns.length : Int) + (i : Int))) % 2147483647 := Int.emod_nonneg _ (by decide)
        refine ⟨_, rfl, _, _, rfl, rfl, ⟨by decide, by decide⟩, ?_⟩
        refine ⟨_, rfl, _, rfl, _, _, _, _, rfl, rfl, hq2, ixN_of (by omega) (by rw [vI_len, hkl]; omega), ?_⟩
        rw [vI_set]
        exact ⟨_, _, _, rfl, s3.over nq, upd_same, by rw [List.length_set]; exact hkl, set_nonneg hkn (Int.ediv_nonneg hnn (by decide)), hnn⟩
      · rintro σ H3 ⟨mx, ks, v, rfl, s3, hq2, hkl, hkn, hmx⟩
        exact ⟨_, rfl, k q ks H3 s3 nq hq2 hkl hkn⟩
theorem below {ks : List Int} {i : Nat} (h : ∀ k ∈ ks, k < (i : Int)) : ∀ k ∈ ks ++ [0 + (i : Int)], k < ((i + 1 : Nat) : Int) := fun k hk => by
  rcases List.mem_append.mp hk with h1 | h1
  · have := h k h1; omega
  · rw [List.mem_singleton.mp h1]; omega
def sp_subset : Sp := fun vs H Q _ => ∃ (n : Int), vs = [.int n] ∧ 0 ≤ n ∧ ∀ (l : Addr) (ks : List Int) (H' : Hp), Same H H' → H l = none → H' l = some (.lst (vI ks)) → Rs ks → Q (.ref l) H'
theorem ok_law_subset (T : Txt K mg t) : FnOk P w K mg base CX0 1 t.f_law_subset t.d_law_subset ["number"] sp_subset := by
  refine T.law_subset.F.ok sc_law_subset (fun vs H Q E h => ?_) (fun cdv A outer s H vs Q E hr h => ?_)
  · obtain ⟨n, rfl, _⟩ := h
    rfl
  · obtain ⟨n, rfl, hn, k⟩ := h
    refine ⟨_, (pss_cons (ps_if (PW.pt (pw_and (pt_cmpR op_lt (pv 0) (pe_op op_pow pe_int pe_int) (nomark _)) (pw_and1 (pt_cmpR op_eq (pe_op op_mod (pv 0) pe_int) pe_int (nomark _)))))
        (pss_one (ps_ret (pe_lst pa_nil)))
        pss_nil)
      (pss_cons (ps_if (pt_cmpR op_lt (pv 0) (pe_op op_pow pe_int pe_int) (nomark _))
        (pss_one (ps_set (i := 0) sc_law_subset.nd rfl (Or.inl rfl) (pe_op op_add (pe_op op_mul (pe_op op_mul (pv 0) (pv 0)) pe_int) (pv 0))))
        pss_nil)
      (pss_cons (ps_set (i := 1) sc_law_subset.nd rfl (Or.inl rfl) (pe_lst pa_nil))
      (pss_cons (ps_for PassesOwn.never rfl (pi_range1 rfl T.b_range (pa_cons pe_int pa_nil)) (pg_name (i := 2) sc_law_subset.nd rfl (Or.inl rfl))
        (pss_cons (ps_if (pt_cmpR op_eq (pe_op op_mod (pv 0) pe_int) pe_int (nomark _))
          (pss_one (ps_expr (pe_bmK (K := K) PySem.F.plainAttrs_list PySem.F.slot_list_append PySem.F.type_list_append mt_append (pv 1) (pa_cons (pv 2) pa_nil))))
          pss_nil)
        (pss_one (ps_set (i := 0) sc_law_subset.nd rfl (Or.inl rfl) (pe_op op_fdiv (pv 0) pe_int)))))
      (pss_one (ps_ret (pv 1))))))), ?_⟩
    have e6 : (10 : Int) ^ (6 : Int).toNat = 1000000 := by decide
    refine ⟨_, rfl, _, _, rfl, rfl, ⟨by decide, by decide, by decide⟩, _, _, rfl, rfl, _, rfl, ?_⟩
    rw [e6]
    refine ite2D (fun h6 => ?_) (fun h6 => ?_)
    · refine ⟨_, rfl, _, _, rfl, rfl, (by show (0 : Int) < 8; decide), rfl, _, rfl, ?_⟩
      refine ite2D (fun _ => ?_) (fun _ => ?_)
      · exact ⟨Nat.zero_le _, fun p hp => k p [] _ (.upd hp) hp upd_same rs_nil⟩
      · refine ⟨_, rfl, _, _, rfl, rfl, ⟨by decide, by decide, by decide⟩, _, _, rfl, rfl, _, rfl, ?_⟩
        rw [e6]
        refine iteDp h6 ?_
        refine ⟨_, rfl, _, rfl, _, _, rfl, rfl, .inl ⟨by omega, by omega⟩, ?_⟩
        refine ⟨_, _, rfl, rfl, .inr ⟨by decide, by decide⟩, ?_⟩
        refine ⟨_, rfl, _, _, rfl, rfl, ?_⟩
        refine ⟨Nat.zero_le _, fun p hp => ?_⟩
        refine ⟨_, rfl, by decide, by decide, ?_⟩
        refine for_range (lo := 0) (n := 40) (fun i σ H2 => ∃ (z : Int) (ks : List Int) (v : Option V), σ = [some (.int z), some (.ref p), v] ∧ Same H H2 ∧ H2 p = some (.lst (vI ks)) ∧ ks.length ≤ i ∧ Rs ks ∧ ∀ k ∈ ks, k < (i : Int))
          ⟨_, [], none, rfl, .upd hp, upd_same, Nat.le_refl _, rs_nil, fun k h => (by cases h)⟩ ?_ ?_
        · rintro i σ H2 hi ⟨z, ks, v, rfl, s2, hp2, hkl, R, lt⟩
          refine ⟨_, rfl, _, _, rfl, rfl, (by show (0 : Int) < 2; decide), rfl, _, rfl, ?_⟩
          refine ite2D (fun _ => ?_) (fun _ => ?_)
          · refine ⟨_, rfl, .inl ⟨rfl, _, SqL.of hp2⟩, _, rfl, _, _, _, rfl, rfl, hp2, (by rw [vI_len]; exact small1000 (by omega)), ?_⟩
            rw [vI_app]
            refine ⟨_, rfl, _, _, rfl, rfl, ⟨by decide, by decide⟩, ?_⟩
            exact ⟨_, _, _, rfl, s2.over hp, upd_same, by rw [List.length_append, List.length_singleton]; omega, rs_add R (fun k h => by have := lt k h; omega) (by omega) (by omega), below lt⟩
          · refine ⟨_, rfl, _, _, rfl, rfl, ⟨by decide, by decide⟩, ?_⟩
            exact ⟨_, _, _, rfl, s2, hp2, by omega, R, fun k h => by have := lt k h; omega⟩
        · rintro σ H2 ⟨z, ks, v, rfl, s2, hp2, hkl, R, lt⟩
          exact ⟨_, rfl, k p ks H2 s2 hp hp2 R⟩
    · refine iteF ?_
      refine ⟨_, rfl, _, _, rfl, rfl, ⟨by decide, by decide, by decide⟩, _, _, rfl, rfl, _, rfl, ?_⟩
      rw [e6]
      refine iteDn h6 ?_
      refine ⟨Nat.zero_le _, fun p hp => ?_⟩
      refine ⟨_, rfl, by decide, by decide, ?_⟩
      refine for_range (lo := 0) (n := 40) (fun i σ H2 => ∃ (z : Int) (ks : List Int) (v : Option V), σ = [some (.int z), some (.ref p), v] ∧ Same H H2 ∧ H2 p = some (.lst (vI ks)) ∧ ks.length ≤ i ∧ Rs ks ∧ ∀ k ∈ ks, k < (i : Int))
        ⟨_, [], none, rfl, .upd hp, upd_same, Nat.le_refl _, rs_nil, fun k h => (by cases h)⟩ ?_ ?_
      · rintro i σ H2 hi ⟨z, ks, v, rfl, s2, hp2, hkl, R, lt⟩
        refine ⟨_, rfl, _, _, rfl, rfl, (by show (0 : Int) < 2; decide), rfl, _, rfl, ?_⟩
        refine ite2D (fun _ => ?_) (fun _ => ?_)
        · refine ⟨_, rfl, .inl ⟨rfl, _, SqL.of hp2⟩, _, rfl, _, _, _, rfl, rfl, hp2, (by rw [vI_len]; exact small1000 (by omega)), ?_⟩
          rw [vI_app]
          refine ⟨_, rfl, _, _, rfl, rfl, ⟨by decide, by decide⟩, ?_⟩
          exact ⟨_, _, _, rfl, s2.over hp, upd_same, by rw [List.length_append, List.length_singleton]; omega, rs_add R (fun k h => by have := lt k h; omega) (by omega) (by omega), below lt⟩
        · refine ⟨_, rfl, _, _, rfl, rfl, ⟨by decide, by decide⟩, ?_⟩
          exact ⟨_, _, _, rfl, s2, hp2, by omega, R, fun k h => by have := lt k h; omega⟩
      · rintro σ H2 ⟨z, ks, v, rfl, s2, hp2, hkl, R, lt⟩
        exact ⟨_, rfl, k p ks H2 s2 hp hp2 R⟩
theorem vI_take (ns : List Int) (k : Nat) : (vI ns).take k = vI (ns.take k) := by unfold vI; rw [List.map_take]
theorem vI_drop (ns : List Int) (k : Nat) : (vI ns).drop k = vI (ns.drop k) := by unfold vI; rw [List.map_drop]
theorem cutV_to {xs : List V} {k : Nat} (h : k ≤ xs.length) : cutV xs none (some (k : Int)) = xs.take k := by
  unfold cutV
  rw [HT.sIx_none, HT.sIx_nat, List.drop_zero, Nat.min_eq_left h, Nat.sub_zero]
theorem cutV_tail {xs : List V} {k : Nat} (h : k ≤ xs.length) : cutV xs (some (k : Int)) none = xs.drop k := by
  unfold cutV
  have e1 : HT.sIx xs.length 0 (some (k : Int)) = k := by rw [HT.sIx_nat, Nat.min_eq_left h]
  have e2 : HT.sIx xs.length xs.length none = xs.length := rfl
  rw [e1, e2]
  exact List.take_of_length_le (by rw [List.length_drop]; omega)
theorem cut_tail {u : List Nat} {k : Nat} (h : k ≤ u.length) : cutT u (some (k : Int)) none = u.drop k := by
  unfold cutT
  have e1 : HT.sIx u.length 0 (some (k : Int)) = k := by rw [HT.sIx_nat, Nat.min_eq_left h]
  have e2 : HT.sIx u.length u.length none = u.length := rfl
  rw [e1, e2]
  exact List.take_of_length_le (by rw [List.length_drop]; omega)
theorem pick40 {z : Int} (h0 : 0 ≤ z) (h4 : z < 4) : ∃ s : Int, atI [V.int 40, V.int 2, V.int 5, V.int 3] z = some (.int s) ∧ 0 < s := by
  have : z = 0 ∨ z = 1 ∨ z = 2 ∨ z = 3 := by omega
  rcases this with e | e | e | e <;> subst e
  · exact ⟨40, rfl, by decide⟩
  · exact ⟨2, rfl, by decide⟩
  · exact ⟨5, rfl, by decide⟩
  · exact ⟨3, rfl, by decide⟩
def sp_cby (K : PySem.W.Frag) : Sp := fun vs H Q _ => ∃ (a : Addr) (ks : List Int) (m n : Nat), vs = [.ref a, .int (m : Int), .int (n : Int)] ∧ SqL K H a (vI ks) ∧ m + n ≤ ks.length ∧ ks.length ≤ 1000 ∧ (∀ k ∈ ks, 0 ≤ k) ∧ 1 ≤ m ∧ m ≤ 40 ∧ 1 ≤ n ∧ n ≤ 40 ∧
  ∀ (l : Addr) (cl : List (List Nat)) (H' : Hp), Same H H' → H' l = some (.lst (vS cl)) → Cl cl m n → Q (.ref l) H'
theorem ok_law_cloth_by (T : Txt K mg t) : FnOk P w K mg base CX0 2 t.f_law_cloth_by t.d_law_cloth_by ["numbers", "ends", "picks"] (sp_cby K) := by
  have G_law_subset : FnOk P w K mg base CX0 1 t.f_law_subset t.d_law_subset _ _ := ok_law_subset T
  refine T.law_cloth_by.F.ok sc_law_cloth_by (fun vs H Q E h => ?_) (fun cdv A outer s H vs Q E hr h => ?_)
  · obtain ⟨a, ks, m, n, rfl, _⟩ := h
    rfl
  · obtain ⟨a, ks, m, n, rfl, hS, kl, k1000, k0, m1, m40, n1, n40, k⟩ := h
    have hsz : sizeLine = 16777216 := sizeLine_eq
    have hk0 : 0 < ks.length := by omega
    have v35 : (("#" : Str)) = tx [35] := by decide +kernel
    have v46 : (("." : Str)) = tx [46] := by decide +kernel
    refine ⟨_, (pss_cons (ps_set (i := 3) sc_law_cloth_by.nd rfl (Or.inr rfl) (pe_ix (ix_listK (K := K)) (pe_lst (pa_cons pe_int (pa_cons pe_int (pa_cons pe_int (pa_cons pe_int pa_nil))))) (pe_op op_mod (pe_ix (ix_listK (K := K)) (pv 0) pe_int (fun _ _ => rfl)) pe_int) (fun _ _ => rfl)))
      (pss_cons (ps_setC (i := 4) (CompOk.mk (caps := [3]) (Nc := ["number", "high"]) rfl (by decide +kernel) (by decide +kernel) (comp_fr (sc0 := defScope s_law_cloth_by) rfl (by decide +kernel)) rfl rfl rfl (by decide +kernel) (fun k j h => match k, h with | 0, h => by obtain rfl := Option.some.inj h; exact ⟨_, rfl, rfl, rfl⟩ | _ + 1, h => by simp at h)) rfl sc_law_cloth_by.nd rfl rfl (pi_listK (K := K) (pe_slice (sl_listK (K := K)) (pv 0) po_none (po_some (pv 1)))) (fun _ _ _ _ _ => .nil) (fun _ _ _ _ _ => (pe_op op_mod (pe_op op_fdiv (pv 0) pe_int) (pv 1))) rfl)
      (pss_cons (ps_set (i := 5) sc_law_cloth_by.nd rfl (Or.inl rfl) (pe_lst pa_nil))
      (pss_cons (ps_for PassesOwn.never rfl (pi_listK (K := K) (pe_slice (sl_listK (K := K)) (pv 0) (po_some (pv 1)) (po_some (pe_op op_add (pv 1) (pv 2))))) (pg_name (i := 6) sc_law_cloth_by.nd rfl (Or.inl rfl))
        (pss_cons (ps_if (pt_cmpR op_eq (pe_op op_mod (pv 6) pe_int) pe_int (nomark _))
          (pss_one (ps_set (i := 6) sc_law_cloth_by.nd rfl (Or.inl rfl) (pe_op op_mod (pe_op op_fdiv (pv 6) pe_int) pe_int)))
          pss_nil)
        (pss_cons (ps_set (i := 7) sc_law_cloth_by.nd rfl (Or.inl rfl) (pe_call (G_law_subset.mono (by decide)) hr rfl T.law_subset.m T.law_subset.F.kp T.law_subset.b .nil pass0 (pa_cons (pv 6) pa_nil)))
        (pss_cons (ps_set (i := 8) sc_law_cloth_by.nd rfl (Or.inl rfl) pe_str)
        (pss_cons (ps_for PassesOwn.never rfl (pi_listK (K := K) (pv 4)) (pg_name (i := 9) sc_law_cloth_by.nd rfl (Or.inl rfl))
          (pss_one (ps_if (pt_cmpR (op_in_seqK (K := K)) (pv 9) (pv 7) rfl)
            (pss_one (ps_set (i := 8) sc_law_cloth_by.nd rfl (Or.inl rfl) (pe_op op_add_str (pv 8) pe_str)))
            (pss_one (ps_set (i := 8) sc_law_cloth_by.nd rfl (Or.inl rfl) (pe_op op_add_str (pv 8) pe_str))))))
        (pss_one (ps_expr (pe_bmK (K := K) PySem.F.plainAttrs_list PySem.F.slot_list_append PySem.F.type_list_append mt_append (pv 5) (pa_cons (pv 8) pa_nil)))))))))
      (pss_one (ps_ret (pv 5))))))), ?_⟩
    refine ⟨(by show 4 ≤ sizeLine; decide), fun lx nx => ?_⟩
    have s1 : Same H (upd H lx (.lst [.int 40, .int 2, .int 5, .int 3])) := .upd nx
    have hx1 : (upd H lx (.lst [.int 40, .int 2, .int 5, .int 3])) lx = some (.lst [.int 40, .int 2, .int 5, .int 3]) := upd_same
    generalize upd H lx (.lst [.int 40, .int 2, .int 5, .int 3]) = H1 at s1 hx1 ⊢
    obtain ⟨hg, ehg, hg0⟩ := pick40 (z := ks[0] % 4) (Int.emod_nonneg _ (by decide)) (Int.emod_lt_of_pos _ (by decide))
    refine ⟨_, rfl, _, _, _, _, rfl, rfl, s1.seq hS, atI_of (by decide) (vI_get (List.getElem?_eq_getElem hk0)), _, _, rfl, rfl, (by show (0 : Int) < 4; decide), _, _, _, _, rfl, rfl, SqL.of hx1, ehg, ?_⟩
    refine ⟨_, rfl, _, rfl, _, rfl, _, _, rfl, s1.seq hS, fun l2 n2 => ?_⟩
    rw [cutV_to (by rw [vI_len]; omega), vI_take]
    have s2 : Same H1 (upd H1 l2 (.lst (vI (ks.take m)))) := .upd n2
    have h2 : (upd H1 l2 (.lst (vI (ks.take m)))) l2 = some (.lst (vI (ks.take m))) := upd_same
    generalize upd H1 l2 (.lst (vI (ks.take m))) = H2 at s2 h2 ⊢
    have u2 := s1.trans s2
    have tl : (ks.take m).length = m := by rw [List.length_take]; omega
    refine ⟨_, rfl, ⟨_, SqL.of h2⟩, comp_list (K := K) (a := l2) (xs := vI (ks.take m)) (fun i ys H3 => H3 = H2 ∧ ∃ zs : List Int, ys = vI zs ∧ zs.length = i) ⟨rfl, [], rfl, rfl⟩ ?_ ?_ ?_ ?_⟩
    · rintro i ys H3 hi ⟨rfl, zs, rfl, hz⟩
      exact ⟨SqL.of h2, by rw [vI_len]; omega⟩
    · rw [vI_len, tl]; omega
    · rintro i x ys H3 hi hx ⟨rfl, zs, rfl, hz⟩
      obtain ⟨z, _, rfl⟩ := vI_got hx
      refine CTurn.no ⟨_, rfl, _, _, rfl, rfl, ⟨by decide, by decide⟩, _, rfl, _, _, rfl, rfl, hg0, CN.of hi ⟨rfl, zs ++ [_], vI_app _ _, by rw [List.length_append, hz]; rfl⟩⟩
    · rintro ys H3 q3 ⟨rfl, zs, rfl, hz⟩ nq3
      rw [vI_len, tl] at hz
      have s3 : Same H3 (upd H3 q3 (.lst (vI zs))) := .upd nq3
      have h3 : (upd H3 q3 (.lst (vI zs))) q3 = some (.lst (vI zs)) := upd_same
      generalize upd H3 q3 (.lst (vI zs)) = H4 at s3 h3 ⊢
      have u4 := u2.trans s3
      refine ⟨Nat.zero_le _, fun q nq => ?_⟩
      have s5 : Same H4 (upd H4 q (.lst [])) := .upd nq
      have hq5 : (upd H4 q (.lst [])) q = some (.lst (vS [])) := upd_same
      generalize upd H4 q (.lst []) = H5 at s5 hq5 ⊢
      have u5 := u4.trans s5
      refine ⟨_, rfl, _, rfl, _, rfl, _, rfl, _, rfl, _, _, rfl, rfl, _, rfl, _, _, rfl, u5.seq hS, fun l6 n6 => ?_⟩
      rw [show (m : Int) + (n : Int) = ((m + n : Nat) : Int) by omega, cutV_mid (by omega), show m + n - m = n by omega, vI_drop, vI_take]
      obtain ⟨js, ejs⟩ : ∃ js, js = (ks.drop m).take n := ⟨_, rfl⟩
      rw [← ejs]
      have jl : js.length = n := by rw [ejs, List.length_take, List.length_drop]; omega
      have j0 : ∀ k ∈ js, 0 ≤ k := fun x hx => by rw [ejs] at hx; exact k0 x (List.mem_of_mem_drop (List.mem_of_mem_take hx))
      have s6 : Same H5 (upd H5 l6 (.lst (vI js))) := .upd n6
      have h6 : (upd H5 l6 (.lst (vI js))) l6 = some (.lst (vI js)) := upd_same
      have h36 := (s5.trans s6) _ _ h3
      have hq6 := s6 _ _ hq5
      have ql : l6 ≠ q := fun z => by rw [z, hq5] at n6; cases n6
      have q3q : q3 ≠ q := fun z => by rw [z, nq] at h3; cases h3
      generalize upd H5 l6 (.lst (vI js)) = H6 at s6 h6 h36 hq6 ⊢
      have u6 := u5.trans s6
      have nqH := u4.free nq
      refine ⟨_, rfl, ⟨_, SqL.of h6⟩, for_list (K := K) (a := l6) (xs := vI js) (fun i σ H7 => ∃ (cl : List (List Nat)) (v6 v7 v8 v9 : Option V), σ = [some (.ref a), some (.int (m : Int)), some (.int (n : Int)), some (.int hg), some (.ref q3), some (.ref q), v6, v7, v8, v9] ∧ Same H H7 ∧ H7 l6 = some (.lst (vI js)) ∧ H7 q3 = some (.lst (vI zs)) ∧ H7 q = some (.lst (vS cl)) ∧ cl.length = i ∧ ∀ t ∈ cl, t.length = m ∧ ∀ d ∈ t, Sg d)
        ⟨[], none, none, none, none, rfl, u6, h6, h36, hq6, rfl, fun t h => (by cases h)⟩ (fun i σ H7 _ ⟨_, _, _, _, _, _, _, g, _⟩ => SqL.of g) ?_ ?_⟩
      · rintro i x σ H7 hx ⟨cl, v6, v7, v8, v9, rfl, s7, h67, h37, hq7, cll, cls⟩
        obtain ⟨z, hz', rfl⟩ := vI_got hx
        have z0' := j0 z (List.mem_of_getElem? hz')
        have iN : i < n := by have := (List.getElem?_eq_some_iff.mp hz').1; omega
        refine ⟨_, rfl, _, _, rfl, rfl, (by show (0 : Int) < 3; decide), rfl, _, rfl, ?_⟩
        refine ite2D (fun _ => ?_) (fun _ => ?_)
        · refine ⟨_, rfl, _, _, rfl, rfl, ⟨by decide, by decide⟩, _, _, rfl, rfl, (by show (0 : Int) < 4; decide), ?_⟩
          obtain ⟨y, ey⟩ : ∃ y : Int, y = z / 3 % 4 := ⟨_, rfl⟩
          have y0 : 0 ≤ y := by rw [ey]; exact Int.emod_nonneg _ (by decide)
          dsimp only
          rw [← ey]
          refine ⟨_, rfl, y, rfl, y0, fun l8 ls H8 s8 nl8 hl8 _ => ?_⟩
          have u8 := s7.trans s8
          have h38 := s8 _ _ h37
          refine ⟨_, rfl, _, rfl, ⟨_, SqL.of h38⟩, for_list (K := K) (a := q3) (xs := vI zs) (fun j σ H9 => ∃ (us : List Nat) (v6 v9 : Option V), σ = [some (.ref a), some (.int (m : Int)), some (.int (n : Int)), some (.int hg), some (.ref q3), some (.ref q), v6, some (.ref l8), some (.str (tx us)), v9] ∧ H9 = H8 ∧ us.length = j ∧ ∀ d ∈ us, Sg d)
            ⟨[], _, v9, by rw [show (("" : Str)) = tx [] from by decide +kernel]; rfl, rfl, rfl, fun d h => (by cases h)⟩ (fun i σ H9 _ ⟨_, _, _, _, e, _⟩ => by rw [e]; exact SqL.of h38) ?_ ?_⟩
          · rintro j x σ H9 hx' ⟨us, v6', v9', rfl, rfl, usl, uss⟩
            obtain ⟨zz, hzz, rfl⟩ := vI_got hx'
            have jm : j < m := by have := (List.getElem?_eq_some_iff.mp hzz).1; omega
            have add : ∀ d, Sg d → ∀ x ∈ us ++ [d], Sg x := fun d hd x hx => by
              rcases List.mem_append.mp hx with h | h
              · exact uss x h
              · rw [List.mem_singleton.mp h]; exact hd
            refine ⟨_, rfl, _, rfl, _, _, rfl, .inl (SqL.of hl8), rfl, vI_flat _, _, rfl, ?_⟩
            refine iteB (fun _ => ?_) (fun _ => ?_)
            · refine ⟨_, rfl, _, _, rfl, rfl, (by rw [v35, tx_len, tx_len, usl]; show j + 1 ≤ sizeLine; omega), ?_⟩
              rw [v35, tx_app]
              exact ⟨_, _, _, rfl, rfl, by rw [List.length_append, usl]; rfl, add 35 (.inl rfl)⟩
            · refine ⟨_, rfl, _, _, rfl, rfl, (by rw [v46, tx_len, tx_len, usl]; show j + 1 ≤ sizeLine; omega), ?_⟩
              rw [v46, tx_app]
              exact ⟨_, _, _, rfl, rfl, by rw [List.length_append, usl]; rfl, add 46 (.inr rfl)⟩
          · rintro σ H9 ⟨us, v6', v9', rfl, rfl, usl, uss⟩
            rw [vI_len, hz] at usl
            have hq9 := s8 _ _ hq7
            refine ⟨_, rfl, .inl ⟨rfl, _, SqL.of hq9⟩, _, rfl, _, _, _, rfl, rfl, hq9, (by rw [vS_len, cll]; omega), ?_⟩
            rw [vS_app]
            refine ⟨cl ++ [us], _, _, _, _, rfl, u8.over nqH, by rw [upd_ne ql]; exact s8 _ _ h67, by rw [upd_ne q3q]; exact h38, upd_same, by rw [List.length_append, cll]; rfl, fun t ht => ?_⟩
            rcases List.mem_append.mp ht with h | h
            · exact cls t h
            · rw [List.mem_singleton.mp h]; exact ⟨usl, uss⟩
        · obtain ⟨y, ey⟩ : ∃ y : Int, y = z := ⟨_, rfl⟩
          have y0 : 0 ≤ y := by rw [ey]; exact z0'
          rw [← ey]
          refine ⟨_, rfl, y, rfl, y0, fun l8 ls H8 s8 nl8 hl8 _ => ?_⟩
          have u8 := s7.trans s8
          have h38 := s8 _ _ h37
          refine ⟨_, rfl, _, rfl, ⟨_, SqL.of h38⟩, for_list (K := K) (a := q3) (xs := vI zs) (fun j σ H9 => ∃ (us : List Nat) (v6 v9 : Option V), σ = [some (.ref a), some (.int (m : Int)), some (.int (n : Int)), some (.int hg), some (.ref q3), some (.ref q), v6, some (.ref l8), some (.str (tx us)), v9] ∧ H9 = H8 ∧ us.length = j ∧ ∀ d ∈ us, Sg d)
            ⟨[], _, v9, by rw [show (("" : Str)) = tx [] from by decide +kernel]; rfl, rfl, rfl, fun d h => (by cases h)⟩ (fun i σ H9 _ ⟨_, _, _, _, e, _⟩ => by rw [e]; exact SqL.of h38) ?_ ?_⟩
          · rintro j x σ H9 hx' ⟨us, v6', v9', rfl, rfl, usl, uss⟩
            obtain ⟨zz, hzz, rfl⟩ := vI_got hx'
            have jm : j < m := by have := (List.getElem?_eq_some_iff.mp hzz).1; omega
            have add : ∀ d, Sg d → ∀ x ∈ us ++ [d], Sg x := fun d hd x hx => by
              rcases List.mem_append.mp hx with h | h
              · exact uss x h
              · rw [List.mem_singleton.mp h]; exact hd
            refine ⟨_, rfl, _, rfl, _, _, rfl, .inl (SqL.of hl8), rfl, vI_flat _, _, rfl, ?_⟩
            refine iteB (fun _ => ?_) (fun _ => ?_)
            · refine ⟨_, rfl, _, _, rfl, rfl, (by rw [v35, tx_len, tx_len, usl]; show j + 1 ≤ sizeLine; omega), ?_⟩
              rw [v35, tx_app]
              exact ⟨_, _, _, rfl, rfl, by rw [List.length_append, usl]; rfl, add 35 (.inl rfl)⟩
            · refine ⟨_, rfl, _, _, rfl, rfl, (by rw [v46, tx_len, tx_len, usl]; show j + 1 ≤ sizeLine; omega), ?_⟩
              rw [v46, tx_app]
              exact ⟨_, _, _, rfl, rfl, by rw [List.length_append, usl]; rfl, add 46 (.inr rfl)⟩
          · rintro σ H9 ⟨us, v6', v9', rfl, rfl, usl, uss⟩
            rw [vI_len, hz] at usl
            have hq9 := s8 _ _ hq7
            refine ⟨_, rfl, .inl ⟨rfl, _, SqL.of hq9⟩, _, rfl, _, _, _, rfl, rfl, hq9, (by rw [vS_len, cll]; omega), ?_⟩
            rw [vS_app]
            refine ⟨cl ++ [us], _, _, _, _, rfl, u8.over nqH, by rw [upd_ne ql]; exact s8 _ _ h67, by rw [upd_ne q3q]; exact h38, upd_same, by rw [List.length_append, cll]; rfl, fun t ht => ?_⟩
            rcases List.mem_append.mp ht with h | h
            · exact cls t h
            · rw [List.mem_singleton.mp h]; exact ⟨usl, uss⟩
      · rintro σ H7 ⟨cl, v6, v7, v8, v9, rfl, s7, h67, h37, hq7, cll, cls⟩
        rw [vI_len, jl] at cll
        exact ⟨_, rfl, k q cl H7 s7 hq7 ⟨cll, fun t ht => (cls t ht).1, fun t ht => (cls t ht).2, m1, m40, n1, n40⟩⟩
theorem vS_take (cl : List (List Nat)) (k : Nat) : (vS cl).take k = vS (cl.take k) := by unfold vS; rw [List.map_take]
theorem vS_drop (cl : List (List Nat)) (k : Nat) : (vS cl).drop k = vS (cl.drop k) := by unfold vS; rw [List.map_drop]
theorem vS_two (a b : List (List Nat)) : vS a ++ vS b = vS (a ++ b) := by unfold vS; rw [List.map_append]
theorem mod_nat (c : Int) {m : Nat} (h : 0 < m) : ∃ x : Nat, x < m ∧ c % (m : Int) = (x : Int) := by
  have a1 := Int.emod_nonneg c (show (m : Int) ≠ 0 by omega)
  have a2 := Int.emod_lt_of_pos c (show (0 : Int) < m by omega)
  exact ⟨(c % (m : Int)).toNat, by omega, by omega⟩
theorem cl_at {cl : List (List Nat)} {m n p : Nat} (C : Cl cl m n) (hp : p < n) : atI (vS cl) (p : Int) = some (.str (tx (cl.getD p []))) ∧ (cl.getD p []).length = m ∧ ∀ c ∈ cl.getD p [], Sg c := by
  have hl : p < cl.length := by rw [C.hn]; exact hp
  have e1 : cl.getD p [] = cl[p] := by rw [List.getD_eq_getElem?_getD, List.getElem?_eq_getElem hl]; rfl
  rw [e1]
  exact ⟨atI_of (by omega) (by rw [Int.toNat_natCast]; exact vS_get (List.getElem?_eq_getElem hl)), C.hm _ (List.getElem_mem hl), C.sg _ (List.getElem_mem hl)⟩
theorem cut_to {u : List Nat} {k : Nat} (h : k ≤ u.length) : cutT u none (some (k : Int)) = u.take k := by
  unfold cutT
  rw [HT.sIx_none, HT.sIx_nat, List.drop_zero, Nat.min_eq_left h, Nat.sub_zero]
def BadT (row : List Nat) : Prop := row.length = 0 ∨ 40 < row.length ∨ ∃ c ∈ row, ¬ Sg c
theorem bad_cl {cl : List (List Nat)} {row : List Nat} (h : row ∈ cl) (b : BadT row) : NoCl cl := fun ⟨m, n, C⟩ => by
  have l := C.hm row h
  have m1 := C.m1
  have m40 := C.m40
  rcases b with b | b | ⟨c, hc, b⟩
  · omega
  · omega
  · exact b (C.sg row h c hc)
theorem odd8 {z : Int} (h0 : 0 ≤ z) (h8 : z < 8) : ∃ c : Nat, atI (("+:x,*0 -" : Str)).cps.toList z = some c ∧ ¬ Sg c := by
  have : z = 0 ∨ z = 1 ∨ z = 2 ∨ z = 3 ∨ z = 4 ∨ z = 5 ∨ z = 6 ∨ z = 7 := by omega
  rcases this with e | e | e | e | e | e | e | e <;> subst e
  · exact ⟨43, by decide +kernel, by decide⟩
  · exact ⟨58, by decide +kernel, by decide⟩
  · exact ⟨120, by decide +kernel, by decide⟩
  · exact ⟨44, by decide +kernel, by decide⟩
  · exact ⟨42, by decide +kernel, by decide⟩
  · exact ⟨48, by decide +kernel, by decide⟩
  · exact ⟨32, by decide +kernel, by decide⟩
  · exact ⟨45, by decide +kernel, by decide⟩
def sp_chg : Sp := fun vs H Q _ => ∃ (a : Addr) (z : Int) (cl : List (List Nat)) (m n : Nat), vs = [.ref a, .int z] ∧ H a = some (.lst (vS cl)) ∧ Cl cl m n ∧ ∀ (l : Addr) (cl' : List (List Nat)) (H' : Hp), Same H H' → H' l = some (.lst (vS cl')) → Shr cl' → NoCl cl' → Q (.ref l) H'
theorem ok_law_changed (T : Txt K mg t) : FnOk P w K mg base CX0 1 t.f_law_changed t.d_law_changed ["cloth", "number"] sp_chg := by
  refine T.law_changed.F.ok sc_law_changed (fun vs H Q E h => ?_) (fun cdv A outer s H vs Q E hr h => ?_)
  · obtain ⟨a, z, cl, m, n, rfl, _⟩ := h
    rfl
  · obtain ⟨a, z, cl, m, n, rfl, ha, C, k⟩ := h
    have hsz : sizeLine = 16777216 := sizeLine_eq
    have m1 := C.m1
    have m40 := C.m40
    have n1 := C.n1
    have n40 := C.n40
    have hn := C.hn
    have hlen : (vS cl).length = n := by rw [vS_len, C.hn]
    obtain ⟨p, hp, ep⟩ := mod_nat (z / 4) (show 0 < n by omega)
    obtain ⟨e, he, ee⟩ := mod_nat (z / 164) (show 0 < m by omega)
    obtain ⟨o1, o2, o3⟩ := cl_at C hp
    have v46 : (("." : Str)) = tx [46] := by decide +kernel
    refine ⟨_, (pss_cons (ps_set (i := 2) sc_law_changed.nd rfl (Or.inl rfl) (pe_op op_mod (pe_op op_fdiv (pv 1) pe_int) (pe_callB (call_len_seqK (K := K)) rfl T.b_len bt_len (pa_cons (pv 0) pa_nil))))
      (pss_cons (ps_set (i := 3) sc_law_changed.nd rfl (Or.inl rfl) (pe_ix (ix_listK (K := K)) (pv 0) (pv 2) (fun _ _ => rfl)))
      (pss_cons (ps_if (pt_cmpR op_eq (pe_op op_mod (pv 1) pe_int) pe_int (nomark _))
        (pss_one (ps_ret (pe_lst pa_nil)))
        pss_nil)
      (pss_cons (ps_if (pt_cmpR op_eq (pe_op op_mod (pv 1) pe_int) pe_int (nomark _))
        (pss_one (ps_set (i := 3) sc_law_changed.nd rfl (Or.inl rfl) pe_str))
        (pss_one (ps_if (pt_cmpR op_eq (pe_op op_mod (pv 1) pe_int) pe_int (nomark _))
          (pss_cons (ps_set (i := 4) sc_law_changed.nd rfl (Or.inl rfl) (pe_op op_mod (pe_op op_fdiv (pv 1) pe_int) (pe_callB call_len_str rfl T.b_len bt_len (pa_cons (pv 3) pa_nil))))
          (pss_one (ps_set (i := 3) sc_law_changed.nd rfl (Or.inl rfl) (pe_op op_add_str (pe_op op_add_str (pe_slice sl_str (pv 3) po_none (po_some (pv 4))) (pe_ix ix_str pe_str (pe_op op_mod (pe_op op_fdiv (pv 1) pe_int) pe_int) (fun _ _ => rfl))) (pe_slice sl_str (pv 3) (po_some (pe_op op_add (pv 4) pe_int)) po_none)))))
          (pss_one (ps_set (i := 3) sc_law_changed.nd rfl (Or.inl rfl) (pe_op op_add_str (pv 3) (pe_op op_repS pe_str (pe_op op_sub pe_int (pe_callB call_len_str rfl T.b_len bt_len (pa_cons (pv 3) pa_nil))))))))))
      (pss_one (ps_ret (pe_op op_cat (pe_op op_cat (pe_slice (sl_listK (K := K)) (pv 0) po_none (po_some (pv 2))) (pe_lst (pa_cons (pv 3) pa_nil))) (pe_slice (sl_listK (K := K)) (pv 0) (po_some (pe_op op_add (pv 2) pe_int)) po_none)))))))), ?_⟩
    refine ⟨_, rfl, _, _, rfl, rfl, ⟨by decide, by decide⟩, _, rfl, _, _, rfl, .inl (SqL.of ha), _, _, rfl, rfl, (by rw [hlen]; omega), ?_⟩
    rw [hlen]
    dsimp only
    rw [ep]
    refine ⟨_, rfl, _, rfl, _, _, _, _, rfl, rfl, SqL.of ha, o1, ?_⟩
    refine ⟨_, rfl, _, _, rfl, rfl, (by show (0 : Int) < 4; decide), rfl, _, rfl, ?_⟩
    refine iteB (fun _ => ?_) (fun _ => ?_)
    · refine ⟨Nat.zero_le _, fun q nq => ?_⟩
      refine k q [] _ (.upd nq) upd_same ⟨Nat.zero_le _, fun u h => (by cases h)⟩ fun ⟨m', n', D⟩ => ?_
      have := D.n1
      have := D.hn
      simp at this
      omega
    refine ⟨_, rfl, _, _, rfl, rfl, (by show (0 : Int) < 4; decide), rfl, _, rfl, ?_⟩
    refine iteB (fun _ => ?_) (fun _ => ?_)
    · obtain ⟨row, sr, er⟩ : ∃ (row : List Nat) (sr : Str), sr = tx row ∧ row = [] ∧ sr = "" := ⟨[], "", by decide +kernel, rfl, rfl⟩
      have rb : BadT row := .inl (by rw [er.2.1]; rfl)
      have rl : row.length ≤ 41 := by rw [er.2.1]; exact Nat.zero_le _
      rw [← er.2.2, er.1]
      clear er
      refine ⟨_, rfl, _, rfl, _, rfl, _, _, rfl, SqL.of ha, fun l1 n1' => ?_⟩
      rw [cutV_to (by rw [vS_len]; omega), vS_take]
      have s1 : Same H (upd H l1 (.lst (vS (cl.take p)))) := .upd n1'
      refine ⟨_, rfl, (by show 1 ≤ sizeLine; decide), fun l2 n2' => ?_⟩
      have s2 := s1.new (o := .lst [.str (tx row)]) n2'
      refine ⟨_, _, _, _, rfl, rfl, (Same.upd n2') _ _ upd_same, upd_same, (by rw [vS_len, List.length_take]; show _ + 1 ≤ sizeLine; omega), fun l3 n3' => ?_⟩
      rw [vS_app]
      have s3 := s2.new (o := .lst (vS (cl.take p ++ [row]))) n3'
      refine ⟨_, rfl, _, rfl, _, _, rfl, rfl, _, rfl, _, _, rfl, SqL.of (s3 _ _ ha), fun l4 n4' => ?_⟩
      rw [show (p : Int) + 1 = ((p + 1 : Nat) : Int) by omega, cutV_tail (by rw [vS_len]; omega), vS_drop]
      have s4 := s3.new (o := .lst (vS (cl.drop (p + 1)))) n4'
      refine ⟨_, _, _, _, rfl, rfl, (Same.upd n4') _ _ upd_same, upd_same, (by rw [vS_len, vS_len, List.length_append, List.length_take, List.length_drop]; show _ + 1 + _ ≤ sizeLine; omega), fun l5 n5' => ?_⟩
      rw [vS_two]
      refine k l5 _ _ (s4.new n5') upd_same ⟨?_, fun u hu => ?_⟩ (bad_cl (List.mem_append_left _ (List.mem_append_right _ List.mem_cons_self)) rb)
      · rw [List.length_append, List.length_append, List.length_take, List.length_drop, List.length_singleton]
        omega
      · rcases List.mem_append.mp hu with h | h
        · rcases List.mem_append.mp h with h | h
          · rw [C.hm u (List.mem_of_mem_take h)]; omega
          · rw [List.mem_singleton.mp h]; omega
        · rw [C.hm u (List.mem_of_mem_drop h)]; omega
    refine ⟨_, rfl, _, _, rfl, rfl, (by show (0 : Int) < 4; decide), rfl, _, rfl, ?_⟩
    refine iteB (fun _ => ?_) (fun _ => ?_)
    · refine ⟨_, rfl, _, _, rfl, rfl, ⟨by decide, by decide⟩, _, rfl, _, rfl, (by rw [tx_len, o2]; omega), _, _, rfl, rfl, (by rw [tx_len, o2]; omega), ?_⟩
      rw [tx_len, o2]
      dsimp only
      rw [ee]
      obtain ⟨d, ed, hd⟩ := odd8 (z := z / 7 % 8) (Int.emod_nonneg _ (by decide)) (Int.emod_lt_of_pos _ (by decide))
      refine ⟨_, rfl, _, rfl, _, rfl, _, rfl, (by omega), ?_⟩
      rw [cut_to (by omega)]
      refine ⟨_, rfl, _, _, rfl, rfl, ⟨by decide, by decide⟩, _, _, rfl, rfl, (by show (0 : Int) < 8; decide), _, _, _, rfl, rfl, (by decide +kernel), ed, _, _, rfl, rfl, (by rw [tx_one, tx_len, tx_len, List.length_take]; show _ + 1 ≤ sizeLine; omega), ?_⟩
      rw [tx_one, tx_app]
      refine ⟨_, rfl, _, rfl, _, _, rfl, rfl, _, rfl, _, rfl, (by omega), ?_⟩
      rw [show (e : Int) + 1 = ((e + 1 : Nat) : Int) by omega, cut_tail (by omega)]
      refine ⟨_, _, rfl, rfl, (by rw [tx_len, tx_len, List.length_append, List.length_take, List.length_drop]; show _ + 1 + _ ≤ sizeLine; omega), ?_⟩
      rw [tx_app]
      obtain ⟨row, hrow⟩ : ∃ row, row = (cl.getD p []).take e ++ [d] ++ (cl.getD p []).drop (e + 1) := ⟨_, rfl⟩
      have rl : row.length ≤ 41 := by rw [hrow, List.length_append, List.length_append, List.length_take, List.length_drop, o2]; show _ + 1 + _ ≤ 41; omega
      have rb : BadT row := .inr (.inr ⟨d, by rw [hrow]; exact List.mem_append_left _ (List.mem_append_right _ List.mem_cons_self), hd⟩)
      rw [← hrow]
      refine ⟨_, rfl, _, rfl, _, rfl, _, _, rfl, SqL.of ha, fun l1 n1' => ?_⟩
      rw [cutV_to (by rw [vS_len]; omega), vS_take]
      have s1 : Same H (upd H l1 (.lst (vS (cl.take p)))) := .upd n1'
      refine ⟨_, rfl, (by show 1 ≤ sizeLine; decide), fun l2 n2' => ?_⟩
      have s2 := s1.new (o := .lst [.str (tx row)]) n2'
      refine ⟨_, _, _, _, rfl, rfl, (Same.upd n2') _ _ upd_same, upd_same, (by rw [vS_len, List.length_take]; show _ + 1 ≤ sizeLine; omega), fun l3 n3' => ?_⟩
      rw [vS_app]
      have s3 := s2.new (o := .lst (vS (cl.take p ++ [row]))) n3'
      refine ⟨_, rfl, _, rfl, _, _, rfl, rfl, _, rfl, _, _, rfl, SqL.of (s3 _ _ ha), fun l4 n4' => ?_⟩
      rw [show (p : Int) + 1 = ((p + 1 : Nat) : Int) by omega, cutV_tail (by rw [vS_len]; omega), vS_drop]
      have s4 := s3.new (o := .lst (vS (cl.drop (p + 1)))) n4'
      refine ⟨_, _, _, _, rfl, rfl, (Same.upd n4') _ _ upd_same, upd_same, (by rw [vS_len, vS_len, List.length_append, List.length_take, List.length_drop]; show _ + 1 + _ ≤ sizeLine; omega), fun l5 n5' => ?_⟩
      rw [vS_two]
      refine k l5 _ _ (s4.new n5') upd_same ⟨?_, fun u hu => ?_⟩ (bad_cl (List.mem_append_left _ (List.mem_append_right _ List.mem_cons_self)) rb)
      · rw [List.length_append, List.length_append, List.length_take, List.length_drop, List.length_singleton]
        omega
      · rcases List.mem_append.mp hu with h | h
        · rcases List.mem_append.mp h with h | h
          · rw [C.hm u (List.mem_of_mem_take h)]; omega
          · rw [List.mem_singleton.mp h]; omega
        · rw [C.hm u (List.mem_of_mem_drop h)]; omega
    · refine ⟨_, rfl, _, rfl, _, rfl, (by rw [tx_len, o2]; omega), _, _, rfl, rfl, [46], _, congrArg V.str v46, rfl, (by rw [tx_len, o2]; omega), (by rw [tx_len, o2]; omega), (by rw [tx_len, o2]; show 1 * _ ≤ sizeLine; omega), _, _, rfl, rfl, ?_, ?_⟩
      · rw [tx_len, tx_len, o2]
        have : ((List.replicate ((41 : Int) - (m : Int)).toNat [46]).flatten).length ≤ 41 := by
          rw [List.length_flatten, List.map_replicate, List.sum_replicate_nat]
          show _ * 1 ≤ 41
          omega
        omega
      rw [tx_app]
      obtain ⟨row, hrow⟩ : ∃ row, row = cl.getD p [] ++ (List.replicate ((41 : Int) - ((tx (cl.getD p [])).length : Int)).toNat [46]).flatten := ⟨_, rfl⟩
      have r41 : row.length = 41 := by
        rw [hrow, List.length_append, tx_len, o2, List.length_flatten, List.map_replicate, List.sum_replicate_nat]
        show m + _ * 1 = 41
        omega
      have rl : row.length ≤ 41 := by omega
      have rb : BadT row := .inr (.inl (by omega))
      rw [← hrow]
      refine ⟨_, rfl, _, rfl, _, rfl, _, _, rfl, SqL.of ha, fun l1 n1' => ?_⟩
      rw [cutV_to (by rw [vS_len]; omega), vS_take]
      have s1 : Same H (upd H l1 (.lst (vS (cl.take p)))) := .upd n1'
      refine ⟨_, rfl, (by show 1 ≤ sizeLine; decide), fun l2 n2' => ?_⟩
      have s2 := s1.new (o := .lst [.str (tx row)]) n2'
      refine ⟨_, _, _, _, rfl, rfl, (Same.upd n2') _ _ upd_same, upd_same, (by rw [vS_len, List.length_take]; show _ + 1 ≤ sizeLine; omega), fun l3 n3' => ?_⟩
      rw [vS_app]
      have s3 := s2.new (o := .lst (vS (cl.take p ++ [row]))) n3'
      refine ⟨_, rfl, _, rfl, _, _, rfl, rfl, _, rfl, _, _, rfl, SqL.of (s3 _ _ ha), fun l4 n4' => ?_⟩
      rw [show (p : Int) + 1 = ((p + 1 : Nat) : Int) by omega, cutV_tail (by rw [vS_len]; omega), vS_drop]
      have s4 := s3.new (o := .lst (vS (cl.drop (p + 1)))) n4'
      refine ⟨_, _, _, _, rfl, rfl, (Same.upd n4') _ _ upd_same, upd_same, (by rw [vS_len, vS_len, List.length_append, List.length_take, List.length_drop]; show _ + 1 + _ ≤ sizeLine; omega), fun l5 n5' => ?_⟩
      rw [vS_two]
      refine k l5 _ _ (s4.new n5') upd_same ⟨?_, fun u hu => ?_⟩ (bad_cl (List.mem_append_left _ (List.mem_append_right _ List.mem_cons_self)) rb)
      · rw [List.length_append, List.length_append, List.length_take, List.length_drop, List.length_singleton]
        omega
      · rcases List.mem_append.mp hu with h | h
        · rcases List.mem_append.mp h with h | h
          · rw [C.hm u (List.mem_of_mem_take h)]; omega
          · rw [List.mem_singleton.mp h]; omega
        · rw [C.hm u (List.mem_of_mem_drop h)]; omega
theorem cl_at2 {cl : List (List Nat)} {m n p : Nat} (C : Cl cl m n) (hp : p < n) : ∃ u, cl[p]? = some u ∧ atI (vS cl) (p : Int) = some (.str (tx u)) ∧ u.length = m ∧ u ∈ cl := by
  have hl : p < cl.length := by rw [C.hn]; exact hp
  exact ⟨cl[p], List.getElem?_eq_getElem hl, atI_of (by omega) (by rw [Int.toNat_natCast]; exact vS_get (List.getElem?_eq_getElem hl)), C.hm _ (List.getElem_mem hl), List.getElem_mem hl⟩
def sp_filg (K : PySem.W.Frag) : Sp := fun vs H Q _ => ∃ (o a b c : Addr) (cp one other : List (List Nat)) (x y w h : Nat), vs = [.ref o] ∧ SqL K H o [.ref a, .ref b, .ref c] ∧ SqL K H a (vS cp) ∧ SqL K H b (vS one) ∧ SqL K H c (vS other) ∧ Cl cp x y ∧ Cl one w h ∧ Cl other w h ∧ x * w ≤ 40 ∧ y * h ≤ 40 ∧
  ∀ (l : Addr) (H' : Hp), Same H H' → H' l = some (.lst (vS (fil cp one other))) → Q (.ref l) H'
theorem ok_law_filling (T : Txt K mg t) : FnOk P w K mg base CX0 1 t.f_law_filling t.d_law_filling ["cloths"] (sp_filg K) := by
  refine T.law_filling.F.ok sc_law_filling (fun vs H Q E h => ?_) (fun cdv A outer s H vs Q E hr h => ?_)
  · obtain ⟨o, a, b, c, cp, one, other, x, y, w, h, rfl, _⟩ := h
    rfl
  · obtain ⟨o, a, b, c, cp, one, other, x, y, w, h, rfl, hO, hA, hB, hC, Cp, C1, C2, xw, yh, k⟩ := h
    have hsz : sizeLine = 16777216 := sizeLine_eq
    have h40 := C1.n40
    have hlb : (vS one).length = h := by rw [vS_len, C1.hn]
    have lz : (one.zip other).length = h := by rw [List.length_zip, C1.hn, C2.hn, Nat.min_self]
    have hh : ("#" : Str) = ⟨#[35]⟩ := by decide +kernel
    have c0 : atI [V.ref a, V.ref b, V.ref c] 0 = some (.ref a) := atI_of (by decide) rfl
    have c1 : atI [V.ref a, V.ref b, V.ref c] 1 = some (.ref b) := atI_of (by decide) rfl
    have c2 : atI [V.ref a, V.ref b, V.ref c] 2 = some (.ref c) := atI_of (by decide) rfl
    refine ⟨_, (pss_cons (ps_set (i := 1) sc_law_filling.nd rfl (Or.inl rfl) (pe_lst pa_nil))
      (pss_cons (ps_for PassesOwn.never rfl (pi_listK (K := K) (pe_ix (ix_listK (K := K)) (pv 0) pe_int (fun _ _ => rfl))) (pg_name (i := 2) sc_law_filling.nd rfl (Or.inl rfl))
        (pss_one (ps_for PassesOwn.never rfl (pi_range1 rfl T.b_range (pa_cons (pe_callB (call_len_seqK (K := K)) rfl T.b_len bt_len (pa_cons (pe_ix (ix_listK (K := K)) (pv 0) pe_int (fun _ _ => rfl)) pa_nil)) pa_nil)) (pg_name (i := 3) sc_law_filling.nd rfl (Or.inl rfl))
          (pss_cons (ps_set (i := 4) sc_law_filling.nd rfl (Or.inl rfl) pe_str)
          (pss_cons (ps_for PassesOwn.never rfl (pi_str (pv 2)) (pg_name (i := 5) sc_law_filling.nd rfl (Or.inl rfl))
            (pss_one (ps_if (pt_cmpR op_eq (pv 5) pe_str (nomark _))
              (pss_one (ps_set (i := 4) sc_law_filling.nd rfl (Or.inl rfl) (pe_op op_add_str (pv 4) (pe_ix (ix_listK (K := K)) (pe_ix (ix_listK (K := K)) (pv 0) pe_int (fun _ _ => rfl)) (pv 3) (fun _ _ => rfl)))))
              (pss_one (ps_set (i := 4) sc_law_filling.nd rfl (Or.inl rfl) (pe_op op_add_str (pv 4) (pe_ix (ix_listK (K := K)) (pe_ix (ix_listK (K := K)) (pv 0) pe_int (fun _ _ => rfl)) (pv 3) (fun _ _ => rfl))))))))
          (pss_one (ps_expr (pe_bmK (K := K) PySem.F.plainAttrs_list PySem.F.slot_list_append PySem.F.type_list_append mt_append (pv 1) (pa_cons (pv 4) pa_nil)))))))))
      (pss_one (ps_ret (pv 1))))), ?_⟩
    refine ⟨Nat.zero_le _, fun q nq => ?_⟩
    have s1 : Same H (upd H q (.lst [])) := .upd nq
    have hq1 : (upd H q (.lst [])) q = some (.lst (vS [])) := upd_same
    generalize upd H q (.lst []) = H1 at s1 hq1 ⊢
    refine ⟨_, rfl, _, _, _, _, rfl, rfl, s1.seq hO, c0, _, rfl, ⟨_, s1.seq hA⟩, for_list (K := K) (a := a) (xs := vS cp) (fun i σ H2 => ∃ (v4 v5 v6 v7 : Option V), σ = [some (.ref o), some (.ref q), v4, v5, v6, v7] ∧ Same H H2 ∧ H2 q = some (.lst (vS (fil (cp.take i) one other))))
      ⟨none, none, none, none, rfl, s1, hq1⟩ (fun i σ H2 _ ⟨_, _, _, _, _, g, _⟩ => g.seq hA) ?_ ?_⟩
    · rintro i xv σ H2 hx ⟨v4, v5, v6, v7, rfl, s2, hq2⟩
      obtain ⟨u, hu, rfl⟩ := vS_got hx
      have iy : i < y := by have := (List.getElem?_eq_some_iff.mp hu).1; rw [Cp.hn] at this; exact this
      have ul := Cp.hm u (List.mem_of_getElem? hu)
      have et : cp.take (i + 1) = cp.take i ++ [u] := by rw [List.take_add_one, hu]; rfl
      have lfil : (fil (cp.take i) one other).length = i * h := by
        unfold fil
        rw [flat_len (h := h) _ fun x _ => by rw [List.length_map, List.length_zip, C1.hn, C2.hn, Nat.min_self], List.length_take, Cp.hn, Nat.min_eq_left (by omega)]
      have ij : i * h + h ≤ y * h := by
        have := Nat.mul_le_mul_right h (show i + 1 ≤ y by omega)
        rwa [Nat.add_mul, Nat.one_mul] at this
      refine ⟨_, rfl, _, _, _, _, rfl, rfl, s2.seq hO, c1, _, _, rfl, .inl (s2.seq hB), _, rfl, (by omega), (by rw [hlb]; omega), ?_⟩
      rw [Int.toNat_natCast, hlb]
      refine for_range (lo := 0) (n := h) (fun j σ H3 => ∃ (v5 v6 v7 : Option V), σ = [some (.ref o), some (.ref q), some (.str (tx u)), v5, v6, v7] ∧ Same H H3 ∧ H3 q = some (.lst (vS (fil (cp.take i) one other ++ ((one.zip other).take j).map fun q => rowOf u q.1 q.2)))) ⟨v5, v6, v7, rfl, s2, by rw [List.take_zero, List.map_nil, List.append_nil]; exact hq2⟩ ?_ ?_
      · clear s2 hq2 v5 v6 v7
        rintro j σ H3 hj ⟨v5, v6, v7, rfl, s3, hq3⟩
        rw [show (0 : Int) + (j : Int) = (j : Int) by omega]
        obtain ⟨ao, o0, o1, o2, o3⟩ := cl_at2 C1 hj
        obtain ⟨bo, p0, p1, p2, p3⟩ := cl_at2 C2 hj
        have zj : (one.zip other)[j]? = some (ao, bo) := List.getElem?_zip_eq_some.mpr ⟨o0, p0⟩
        refine ⟨_, rfl, _, rfl, for_str (z := tx u) (fun e σ H4 => ∃ (v7 : Option V), σ = [some (.ref o), some (.ref q), some (.str (tx u)), some (.int (j : Int)), some (.str (tx (rowOf (u.take e) ao bo))), v7] ∧ H4 = H3)
          ⟨v7, by rw [show (("" : Str)) = tx [] from by decide +kernel]; rfl, rfl⟩ ?_ ?_⟩
        · rintro e d σ H4 hd ⟨v7, rfl, rfl⟩
          rw [tx_get] at hd
          have ex : e < x := by have := (List.getElem?_eq_some_iff.mp hd).1; omega
          have el : e * w + w ≤ x * w := by
            have := Nat.mul_le_mul_right w (show e + 1 ≤ x by omega)
            rwa [Nat.add_mul, Nat.one_mul] at this
          have lrow : (rowOf (u.take e) ao bo).length = e * w := by
            unfold rowOf
            rw [flat_len (h := w) _ fun x _ => by split; exact o2; exact p2, List.length_take, ul, Nat.min_eq_left (by omega)]
          have er : rowOf (u.take (e + 1)) ao bo = rowOf (u.take e) ao bo ++ (if d = 35 then ao else bo) := by
            unfold rowOf
            rw [List.take_add_one, hd, List.flatMap_append]
            show _ ++ List.flatMap _ [d] = _
            rw [List.flatMap_singleton]
          refine ⟨_, rfl, rfl, _, rfl, ?_⟩
          rw [hh]
          refine ite2D (fun z => ?_) (fun z => ?_)
          · refine ⟨_, rfl, _, rfl, _, _, _, _, rfl, rfl, s3.seq hO, c1, _, rfl, _, _, _, _, rfl, rfl, s3.seq hB, o1, _, _, rfl, rfl, (by rw [tx_len, tx_len, lrow, o2]; omega), ?_⟩
            rw [tx_app]
            exact ⟨_, by rw [er, if_pos (sg_eq.mp z)]; rfl, rfl⟩
          · refine ⟨_, rfl, _, rfl, _, _, _, _, rfl, rfl, s3.seq hO, c2, _, rfl, _, _, _, _, rfl, rfl, s3.seq hC, p1, _, _, rfl, rfl, (by rw [tx_len, tx_len, lrow, p2]; omega), ?_⟩
            rw [tx_app]
            exact ⟨_, by rw [er, if_neg fun q => z (sg_eq.mpr q)]; rfl, rfl⟩
        · rintro σ H4 ⟨v7, rfl, rfl⟩
          rw [tx_size, List.take_length]
          refine ⟨_, rfl, .inl ⟨rfl, _, SqL.of hq3⟩, _, rfl, _, _, _, rfl, rfl, hq3, (by rw [vS_len, List.length_append, lfil, List.length_map, List.length_take]; omega), ?_⟩
          rw [vS_app]
          refine ⟨_, _, _, rfl, s3.over nq, ?_⟩
          rw [upd_same, List.append_assoc, List.take_add_one, zj, List.map_append]
          rfl
      · rintro σ H3 ⟨v5, v6, v7, rfl, s3, hq3⟩
        rw [List.take_of_length_le (l := one.zip other) (i := h) (by omega)] at hq3
        exact ⟨_, _, _, _, rfl, s3, by rw [et, fil_snoc]; exact hq3⟩
    · rintro σ H2 ⟨v4, v5, v6, v7, rfl, s2, hq2⟩
      rw [vS_len, List.take_length] at hq2
      exact ⟨_, rfl, k q H2 s2 hq2⟩
def sp_same (K : PySem.W.Frag) : Sp := fun vs H Q _ => ∃ (a b : Addr) (cl : List (List Nat)), vs = [.ref a, .ref b] ∧ H a = some (.lst (vS cl)) ∧ SqL K H b (vS cl) ∧ cl.length ≤ 40 ∧ Q (.bl true) H
theorem ok_law_texts_same (T : Txt K mg t) : FnOk P w K mg base CX0 1 t.f_law_texts_same t.d_law_texts_same ["found", "due"] (sp_same K) := by
  refine T.law_texts_same.F.ok sc_law_texts_same (fun vs H Q E h => ?_) (fun cdv A outer s H vs Q E hr h => ?_)
  · obtain ⟨a, b, cl, rfl, _⟩ := h
    rfl
  · obtain ⟨a, b, cl, rfl, ha, hb, hl, k⟩ := h
    refine ⟨_, (pss_cons (ps_if (PW.pt (pw_or (pt_not (pt_val (pe_callB (call_isiK (K := K)) rfl T.b_isinstance bt_isinstance (pa_cons (pv 0) (pa_cons (pe_bltn (v := .ty "list") rfl T.b_list bt_list rfl) pa_nil))))) (pw_or1 (pt_cmpR op_ne (pe_callB (call_len_seqK (K := K)) rfl T.b_len bt_len (pa_cons (pv 0) pa_nil)) (pe_callB (call_len_seqK (K := K)) rfl T.b_len bt_len (pa_cons (pv 1) pa_nil)) (nomark _)))))
        (pss_one (ps_ret pe_bl))
        pss_nil)
      (pss_cons (ps_for PassesOwn.never rfl (pi_range1 rfl T.b_range (pa_cons (pe_callB (call_len_seqK (K := K)) rfl T.b_len bt_len (pa_cons (pv 1) pa_nil)) pa_nil)) (pg_name (i := 2) sc_law_texts_same.nd rfl (Or.inl rfl))
        (pss_one (ps_if (PW.pt (pw_or (pt_not (pt_val (pe_callB (call_isiK (K := K)) rfl T.b_isinstance bt_isinstance (pa_cons (pe_ix (ix_listK (K := K)) (pv 0) (pv 2) (fun _ _ => rfl)) (pa_cons (pe_bltn (v := .ty "str") rfl T.b_str bt_str rfl) pa_nil))))) (pw_or1 (pt_cmpR op_ne (pe_ix (ix_listK (K := K)) (pv 0) (pv 2) (fun _ _ => rfl)) (pe_ix (ix_listK (K := K)) (pv 1) (pv 2) (fun _ _ => rfl)) (nomark _)))))
          (pss_one (ps_ret pe_bl))
          pss_nil)))
      (pss_one (ps_ret pe_bl)))), ?_⟩
    refine ⟨_, rfl, _, _, true, .lst ha, .inl ⟨_, rfl, kit_same K _⟩, _, rfl, ?_⟩
    refine iteF ?_
    refine ⟨_, rfl, _, _, rfl, .inl (SqL.of ha), _, rfl, _, _, rfl, .inl hb, rfl, _, rfl, ?_⟩
    refine iteNS rfl ?_
    refine ⟨_, rfl, _, _, rfl, .inl hb, _, rfl, (by omega), (by rw [vS_len]; omega), ?_⟩
    rw [Int.toNat_natCast, vS_len]
    refine for_range (lo := 0) (n := cl.length) (fun i σ H2 => ∃ v, σ = [some (.ref a), some (.ref b), v] ∧ H2 = H) ⟨none, rfl, rfl⟩ ?_ ?_
    · rintro i σ H2 hi ⟨v, rfl, rfl⟩
      have e : atI (vS cl) (0 + (i : Int)) = some (.str (tx cl[i])) := atI_of (by omega) (by rw [z0]; exact vS_get (List.getElem?_eq_getElem hi))
      refine ⟨_, rfl, _, rfl, _, _, _, _, rfl, rfl, SqL.of ha, e, _, _, true, .str _, .inl ⟨_, rfl, kit_same K _⟩, _, rfl, ?_⟩
      refine iteF ?_
      refine ⟨_, rfl, _, rfl, _, _, _, _, rfl, rfl, SqL.of ha, e, _, rfl, _, rfl, _, _, _, _, rfl, rfl, hb, e, rfl, _, rfl, ?_⟩
      refine iteNS rfl ?_
      exact ⟨_, rfl, rfl⟩
    · rintro σ H2 ⟨v, rfl, rfl⟩
      exact k
def sp_side : Sp := fun vs H Q _ => ∃ (z : Int) (m : Nat), vs = [.int z, .int (m : Int)] ∧ 1 ≤ m ∧ m ≤ 40 ∧ ∀ x : Nat, 1 ≤ x → x ≤ 40 → Q (.int (x : Int)) H
theorem ok_law_side (T : Txt K mg t) : FnOk P w K mg base CX0 1 t.f_law_side t.d_law_side ["number", "whole"] sp_side := by
  refine T.law_side.F.ok sc_law_side (fun vs H Q E h => ?_) (fun cdv A outer s H vs Q E hr h => ?_)
  · obtain ⟨z, m, rfl, _⟩ := h
    rfl
  · obtain ⟨z, m, rfl, m1, m40, k⟩ := h
    have q : (40 : Int) / (m : Int) = ((40 / m : Nat) : Int) := by rw [Int.natCast_ediv]; rfl
    have q1 : 1 ≤ 40 / m := (Nat.le_div_iff_mul_le (by omega)).mpr (by omega)
    have q40 : 40 / m ≤ 40 := Nat.div_le_self 40 m
    obtain ⟨y, hy⟩ : ∃ y, y = 40 / m := ⟨_, rfl⟩
    rw [← hy] at q q1 q40
    refine ⟨_, (pss_cons (ps_set (i := 2) sc_law_side.nd rfl (Or.inl rfl) (pe_op op_mod (pv 0) pe_int))
      (pss_cons (ps_if (pt_cmpR op_eq (pv 2) pe_int (nomark _))
        (pss_one (ps_ret (pe_op op_add pe_int (pe_op op_mod (pe_op op_fdiv (pv 0) pe_int) pe_int))))
        pss_nil)
      (pss_cons (ps_if (pt_cmpR op_eq (pv 2) pe_int (nomark _))
        (pss_one (ps_ret (pe_op op_fdiv pe_int (pv 1))))
        pss_nil)
      (pss_cons (ps_if (pt_cmpR op_eq (pv 2) pe_int (nomark _))
        (pss_one (ps_ret (pe_callB call_min2R rfl T.b_min bt_min (pa_cons pe_int (pa_cons (pe_op op_add (pe_op op_fdiv pe_int (pv 1)) pe_int) pa_nil)))))
        pss_nil)
      (pss_one (ps_ret (pe_op op_add pe_int (pe_op op_mod (pe_op op_fdiv (pv 0) pe_int) (pe_op op_fdiv pe_int (pv 1)))))))))), ?_⟩
    refine ⟨_, rfl, _, _, rfl, rfl, (by show (0 : Int) < 6; decide), ?_⟩
    refine ⟨_, rfl, rfl, _, rfl, ?_⟩
    refine ite2D (fun _ => ?_) (fun _ => ?_)
    · refine ⟨_, rfl, _, _, rfl, rfl, ⟨by decide, by decide⟩, _, _, rfl, rfl, (by show (0 : Int) < 40; decide), _, _, rfl, rfl, ?_⟩
      obtain ⟨x, hx, ex⟩ := mod_nat (z / 6) (show 0 < 40 by omega)
      have := k (x + 1) (by omega) (by omega)
      rw [show (((x + 1 : Nat)) : Int) = 1 + z / 6 % 40 by have : z / 6 % (40 : Int) = (x : Int) := ex; omega] at this
      exact this
    refine ⟨_, rfl, rfl, _, rfl, ?_⟩
    refine ite2D (fun _ => ?_) (fun _ => ?_)
    · refine ⟨_, rfl, _, _, rfl, rfl, ⟨by omega, by omega⟩, ?_⟩
      have := k y q1 q40
      rw [← q] at this
      exact this
    refine ⟨_, rfl, rfl, _, rfl, ?_⟩
    refine ite2D (fun _ => ?_) (fun _ => ?_)
    · refine ⟨_, rfl, _, _, rfl, rfl, ⟨by omega, by omega⟩, _, _, rfl, rfl, ?_⟩
      refine ⟨_, _, rfl, ?_⟩
      have e1 : (40 : Int) / (m : Int) + 1 = ((y + 1 : Nat) : Int) := by rw [q]; rfl
      show Q (V.int (if (40 : Int) / (m : Int) + 1 < 40 then (40 : Int) / (m : Int) + 1 else 40)) H
      rw [e1]
      by_cases h : ((y + 1 : Nat) : Int) < 40
      · rw [if_pos h]
        exact k (y + 1) (by omega) (by omega)
      · rw [if_neg h]
        exact k 40 (by decide) (by decide)
    · refine ⟨_, rfl, _, _, rfl, rfl, ⟨by decide, by decide⟩, _, rfl, _, _, rfl, rfl, ⟨by omega, by omega⟩, _, _, rfl, rfl, (by rw [q]; omega), _, _, rfl, rfl, ?_⟩
      obtain ⟨x, hx, ex⟩ := mod_nat (z / 6) (show 0 < y by omega)
      have := k (x + 1) (by omega) (by omega)
      rw [show (((x + 1 : Nat)) : Int) = 1 + z / 6 % (40 / (m : Int)) by rw [q, ex]; omega] at this
      exact this
theorem more6 {z : Int} (h0 : 0 ≤ z) (h6 : z < 6) : ∃ x : Nat, atI [V.int 0, V.int 0, V.int 0, V.int 0, V.int 1, V.int 2] z = some (.int (x : Int)) := by
  have : z = 0 ∨ z = 1 ∨ z = 2 ∨ z = 3 ∨ z = 4 ∨ z = 5 := by omega
  rcases this with e | e | e | e | e | e <;> subst e
  · exact ⟨0, rfl⟩
  · exact ⟨0, rfl⟩
  · exact ⟨0, rfl⟩
  · exact ⟨0, rfl⟩
  · exact ⟨1, rfl⟩
  · exact ⟨2, rfl⟩
def sp_built (K : PySem.W.Frag) : Sp := fun vs H Q _ => ∃ (a : Addr) (ks : List Int), vs = [.ref a] ∧ SqL K H a (vI ks) ∧ ks.length = 250 ∧ (∀ k ∈ ks, 0 ≤ k) ∧
  ∀ (l a b c : Addr) (ca cb cc : List (List Nat)) (m n w h w' h' : Nat) (H' : Hp), Same H H' → H l = none → H' l = some (.lst [.ref a, .ref b, .ref c]) → H' a = some (.lst (vS ca)) → H' b = some (.lst (vS cb)) → H' c = some (.lst (vS cc)) → Cl ca m n → Cl cb w h → Cl cc w' h' → Q (.ref l) H'
theorem at_set {i : Nat} {v : V} {σ σ' : St} {H : Hp} {Kt : St → Hp → Prop} (h : σ.set i (some v) = σ') (k : Kt σ' H) : gName i v σ H Kt := by subst h; exact k
theorem ok_law_built (T : Txt K mg t) : FnOk P w K mg base CX0 3 t.f_law_built t.d_law_built ["numbers"] (sp_built K) := by
  have G_law_side : FnOk P w K mg base CX0 1 t.f_law_side t.d_law_side _ _ := ok_law_side T
  have G_law_cloth_by : FnOk P w K mg base CX0 2 t.f_law_cloth_by t.d_law_cloth_by _ _ := ok_law_cloth_by T
  refine T.law_built.F.ok sc_law_built (fun vs H Q E h => ?_) (fun cdv A outer s H vs Q E hr h => ?_)
  · obtain ⟨a, ks, rfl, _⟩ := h
    rfl
  · obtain ⟨a, ks, rfl, hS, hkl, hkn, k⟩ := h
    have hsz : sizeLine = 16777216 := sizeLine_eq
    have nat : ∀ j : Nat, ∀ hj : j < ks.length, atI (vI ks) (j : Int) = some (.int ks[j]) := fun j hj => atI_of (by omega) (by rw [Int.toNat_natCast]; exact vI_get (List.getElem?_eq_getElem hj))
    have g0 := nat 0 (by omega)
    have g1 := nat 1 (by omega)
    have g2 := nat 2 (by omega)
    have g3 := nat 3 (by omega)
    have g4 := nat 4 (by omega)
    refine ⟨_, (pss_cons (ps_set (i := 1) sc_law_built.nd rfl (Or.inl rfl) (pe_op op_add pe_int (pe_op op_mod (pe_ix (ix_listK (K := K)) (pv 0) pe_int (fun _ _ => rfl)) pe_int)))
      (pss_cons (ps_set (i := 2) sc_law_built.nd rfl (Or.inl rfl) (pe_op op_add pe_int (pe_op op_mod (pe_ix (ix_listK (K := K)) (pv 0) pe_int (fun _ _ => rfl)) pe_int)))
      (pss_cons (ps_set (i := 3) sc_law_built.nd rfl (Or.inl rfl) (pe_call (G_law_side.mono (by decide)) hr rfl T.law_side.m T.law_side.F.kp T.law_side.b .nil pass0 (pa_cons (pe_ix (ix_listK (K := K)) (pv 0) pe_int (fun _ _ => rfl)) (pa_cons (pv 1) pa_nil))))
      (pss_cons (ps_set (i := 4) sc_law_built.nd rfl (Or.inl rfl) (pe_call (G_law_side.mono (by decide)) hr rfl T.law_side.m T.law_side.F.kp T.law_side.b .nil pass0 (pa_cons (pe_ix (ix_listK (K := K)) (pv 0) pe_int (fun _ _ => rfl)) (pa_cons (pv 2) pa_nil))))
      (pss_cons (ps_set (i := 5) sc_law_built.nd rfl (Or.inl rfl) (pe_ix (ix_listK (K := K)) (pe_lst (pa_cons pe_int (pa_cons pe_int (pa_cons pe_int (pa_cons pe_int (pa_cons pe_int (pa_cons pe_int pa_nil))))))) (pe_op op_mod (pe_ix (ix_listK (K := K)) (pv 0) pe_int (fun _ _ => rfl)) pe_int) (fun _ _ => rfl)))
      (pss_cons (ps_set (i := 6) sc_law_built.nd rfl (Or.inl rfl) (pe_call (G_law_cloth_by.mono (by decide)) hr rfl T.law_cloth_by.m T.law_cloth_by.F.kp T.law_cloth_by.b .nil pass0 (pa_cons (pe_slice (sl_listK (K := K)) (pv 0) (po_some pe_int) po_none) (pa_cons (pv 1) (pa_cons (pv 2) pa_nil)))))
      (pss_cons (ps_set (i := 7) sc_law_built.nd rfl (Or.inl rfl) (pe_call (G_law_cloth_by.mono (by decide)) hr rfl T.law_cloth_by.m T.law_cloth_by.F.kp T.law_cloth_by.b .nil pass0 (pa_cons (pe_slice (sl_listK (K := K)) (pv 0) (po_some (pe_op op_add (pe_op op_add pe_int (pv 1)) (pv 2))) po_none) (pa_cons (pv 3) (pa_cons (pv 4) pa_nil)))))
      (pss_cons (ps_set (i := 8) sc_law_built.nd rfl (Or.inl rfl) (pe_op op_add (pe_op op_add (pe_op op_add (pe_op op_add pe_int (pv 1)) (pv 2)) (pv 3)) (pv 4)))
      (pss_cons (ps_set (i := 3) sc_law_built.nd rfl (Or.inl rfl) (pe_op op_add pe_int (pe_op op_mod (pe_op op_add (pe_op op_sub (pv 3) pe_int) (pe_op op_mul (pe_op op_mod (pv 5) pe_int) (pe_op op_add pe_int (pe_op op_mod (pe_op op_fdiv (pe_ix (ix_listK (K := K)) (pv 0) pe_int (fun _ _ => rfl)) pe_int) pe_int)))) pe_int)))
      (pss_cons (ps_set (i := 4) sc_law_built.nd rfl (Or.inl rfl) (pe_op op_add pe_int (pe_op op_mod (pe_op op_add (pe_op op_sub (pv 4) pe_int) (pe_op op_mul (pe_op op_fdiv (pv 5) pe_int) (pe_op op_add pe_int (pe_op op_mod (pe_op op_fdiv (pe_ix (ix_listK (K := K)) (pv 0) pe_int (fun _ _ => rfl)) pe_int) pe_int)))) pe_int)))
      (pss_cons (ps_set (i := 9) sc_law_built.nd rfl (Or.inl rfl) (pe_call (G_law_cloth_by.mono (by decide)) hr rfl T.law_cloth_by.m T.law_cloth_by.F.kp T.law_cloth_by.b .nil pass0 (pa_cons (pe_slice (sl_listK (K := K)) (pv 0) (po_some (pv 8)) po_none) (pa_cons (pv 3) (pa_cons (pv 4) pa_nil)))))
      (pss_one (ps_ret (pe_lst (pa_cons (pv 6) (pa_cons (pv 7) (pa_cons (pv 9) pa_nil))))))))))))))))), ?_⟩
    refine ⟨_, rfl, _, _, _, _, rfl, rfl, hS, g0, _, _, rfl, rfl, (by show (0 : Int) < 40; decide), _, _, rfl, rfl, ?_⟩
    refine ⟨_, rfl, _, _, _, _, rfl, rfl, hS, g1, _, _, rfl, rfl, (by show (0 : Int) < 40; decide), _, _, rfl, rfl, ?_⟩
    obtain ⟨wd', hwd', ewd'⟩ := mod_nat ks[0] (show 0 < 40 by omega)
    obtain ⟨hg', hhg', ehg'⟩ := mod_nat ks[1] (show 0 < 40 by omega)
    obtain ⟨wd, ewd⟩ : ∃ wd : Nat, wd = wd' + 1 := ⟨_, rfl⟩
    obtain ⟨hg, ehg⟩ : ∃ hg : Nat, hg = hg' + 1 := ⟨_, rfl⟩
    have E0 : (1 : Int) + ks[0] % (40 : Int) = (wd : Int) := by
      have : ks[0] % (40 : Int) = (wd' : Int) := ewd'
      omega
    have E1 : (1 : Int) + ks[1] % (40 : Int) = (hg : Int) := by
      have : ks[1] % (40 : Int) = (hg' : Int) := ehg'
      omega
    dsimp only
    rw [E0, E1]
    have wd1 : 1 ≤ wd := by omega
    have wd40 : wd ≤ 40 := by omega
    have hg1 : 1 ≤ hg := by omega
    have hg40 : hg ≤ 40 := by omega
    clear E0 E1 ewd ehg ewd' ehg' hwd' hhg'
    refine at_set (σ' := [some (.ref a), some (.int (wd : Int)), some (.int (hg : Int)), none, none, none, none, none, none, none]) rfl ?_
    refine ⟨_, rfl, _, _, _, _, rfl, rfl, hS, g2, _, rfl, _, wd, rfl, wd1, wd40, fun en en1 en40 => ?_⟩
    refine ⟨_, rfl, _, _, _, _, rfl, rfl, hS, g3, _, rfl, _, hg, rfl, hg1, hg40, fun pk pk1 pk40 => ?_⟩
    refine at_set (σ' := [some (.ref a), some (.int (wd : Int)), some (.int (hg : Int)), some (.int (en : Int)), some (.int (pk : Int)), none, none, none, none, none]) rfl ?_
    refine ⟨(by show 6 ≤ sizeLine; decide), fun lx nx => ?_⟩
    have sx := Same.upd nx (o := .lst [.int 0, .int 0, .int 0, .int 0, .int 1, .int 2])
    have hx : (upd H lx (.lst [.int 0, .int 0, .int 0, .int 0, .int 1, .int 2])) lx = some (.lst [.int 0, .int 0, .int 0, .int 0, .int 1, .int 2]) := upd_same
    generalize upd H lx (.lst [.int 0, .int 0, .int 0, .int 0, .int 1, .int 2]) = H1 at sx hx ⊢
    obtain ⟨mo, emo⟩ := more6 (z := ks[4] % 6) (Int.emod_nonneg _ (by decide)) (Int.emod_lt_of_pos _ (by decide))
    refine ⟨_, rfl, _, _, _, _, rfl, rfl, sx.seq hS, g4, _, _, rfl, rfl, (by show (0 : Int) < 6; decide), _, _, _, _, rfl, rfl, SqL.of hx, emo, ?_⟩
    refine at_set (σ' := [some (.ref a), some (.int (wd : Int)), some (.int (hg : Int)), some (.int (en : Int)), some (.int (pk : Int)), some (.int (mo : Int)), none, none, none, none]) rfl ?_
    refine ⟨_, rfl, _, rfl, _, _, rfl, sx.seq hS, fun l2 n2 => ?_⟩
    rw [show cutV (vI ks) (some (6 : Int)) none = (vI ks).drop 6 from cutV_tail (k := 6) (by rw [vI_len]; omega), vI_drop]
    have s2 := Same.upd n2 (o := .lst (vI (ks.drop 6)))
    have h2 : (upd H1 l2 (.lst (vI (ks.drop 6)))) l2 = some (.lst (vI (ks.drop 6))) := upd_same
    generalize upd H1 l2 (.lst (vI (ks.drop 6))) = H2 at s2 h2 ⊢
    refine ⟨_, rfl, _, rfl, l2, ks.drop 6, wd, hg, rfl, SqL.of h2, by rw [List.length_drop]; omega, by rw [List.length_drop]; omega, fun k hk => hkn k (List.mem_of_mem_drop hk), wd1, wd40, hg1, hg40, fun lp pr H3 s3 hp3 C => ?_⟩
    have u3 := sx.trans (s2.trans s3)
    refine at_set (σ' := [some (.ref a), some (.int (wd : Int)), some (.int (hg : Int)), some (.int (en : Int)), some (.int (pk : Int)), some (.int (mo : Int)), some (.ref lp), none, none, none]) rfl ?_
    refine ⟨_, rfl, _, rfl, _, _, rfl, rfl, _, rfl, _, _, rfl, rfl, _, rfl, _, _, rfl, u3.seq hS, fun l4 n4 => ?_⟩
    rw [show (6 : Int) + (wd : Int) + (hg : Int) = ((6 + wd + hg : Nat) : Int) by omega, cutV_tail (by rw [vI_len]; omega), vI_drop]
    have s4 := Same.upd n4 (o := .lst (vI (ks.drop (6 + wd + hg))))
    have h4 : (upd H3 l4 (.lst (vI (ks.drop (6 + wd + hg))))) l4 = some (.lst (vI (ks.drop (6 + wd + hg)))) := upd_same
    generalize upd H3 l4 (.lst (vI (ks.drop (6 + wd + hg)))) = H4 at s4 h4 ⊢
    refine ⟨_, rfl, _, rfl, l4, ks.drop (6 + wd + hg), en, pk, rfl, SqL.of h4, by rw [List.length_drop]; omega, by rw [List.length_drop]; omega, fun k hk => hkn k (List.mem_of_mem_drop hk), en1, en40, pk1, pk40, fun lo one H5 s5 ho C1 => ?_⟩
    have u5 := u3.trans (s4.trans s5)
    have hp5 := (s4.trans s5) _ _ hp3
    refine at_set (σ' := [some (.ref a), some (.int (wd : Int)), some (.int (hg : Int)), some (.int (en : Int)), some (.int (pk : Int)), some (.int (mo : Int)), some (.ref lp), some (.ref lo), none, none]) rfl ?_
    refine ⟨_, rfl, _, _, rfl, rfl, _, rfl, _, _, rfl, rfl, _, rfl, _, _, rfl, rfl, _, rfl, _, _, rfl, rfl, ?_⟩
    refine at_set (σ' := [some (.ref a), some (.int (wd : Int)), some (.int (hg : Int)), some (.int (en : Int)), some (.int (pk : Int)), some (.int (mo : Int)), some (.ref lp), some (.ref lo), some (.int ((6 : Int) + (wd : Int) + (hg : Int) + (en : Int) + (pk : Int))), none]) rfl ?_
    refine ⟨_, rfl, _, _, rfl, rfl, _, rfl, _, _, rfl, rfl, (by show (0 : Int) < 2; decide), _, rfl, _, _, _, _, rfl, rfl, u5.seq hS, g4, _, _, rfl, rfl, ⟨by decide, by decide⟩, _, _, rfl, rfl, (by show (0 : Int) < 39; decide), _, _, rfl, rfl, _, _, rfl, rfl, ?_, _, _, rfl, rfl, _, _, rfl, rfl, (by show (0 : Int) < 40; decide), _, _, rfl, rfl, ?_⟩
    · have a1 := Int.emod_nonneg (mo : Int) (show (2 : Int) ≠ 0 by decide)
      have a2 := Int.emod_lt_of_pos (mo : Int) (show (0 : Int) < 2 by decide)
      exact .inl ⟨by omega, by omega⟩
    dsimp only
    obtain ⟨e2', he2', ee2'⟩ := mod_nat ((en : Int) - (1 : Int) + (mo : Int) % (2 : Int) * ((1 : Int) + ks[4] / (6 : Int) % (39 : Int))) (show 0 < 40 by omega)
    obtain ⟨e2, ee2⟩ : ∃ e2 : Nat, e2 = e2' + 1 := ⟨_, rfl⟩
    have E2 : (1 : Int) + ((en : Int) - (1 : Int) + (mo : Int) % (2 : Int) * ((1 : Int) + ks[4] / (6 : Int) % (39 : Int))) % 40 = (e2 : Int) := by
      have : ((en : Int) - (1 : Int) + (mo : Int) % (2 : Int) * ((1 : Int) + ks[4] / (6 : Int) % (39 : Int))) % 40 = (e2' : Int) := ee2'
      omega
    rw [E2]
    have e21 : 1 ≤ e2 := by omega
    have e240 : e2 ≤ 40 := by omega
    clear E2 ee2 ee2' he2'
    refine at_set (σ' := [some (.ref a), some (.int (wd : Int)), some (.int (hg : Int)), some (.int (e2 : Int)), some (.int (pk : Int)), some (.int (mo : Int)), some (.ref lp), some (.ref lo), some (.int ((6 : Int) + (wd : Int) + (hg : Int) + (en : Int) + (pk : Int))), none]) rfl ?_
    refine ⟨_, rfl, _, _, rfl, rfl, _, rfl, _, _, rfl, rfl, ⟨by decide, by decide⟩, _, rfl, _, _, _, _, rfl, rfl, u5.seq hS, g4, _, _, rfl, rfl, ⟨by decide, by decide⟩, _, _, rfl, rfl, (by show (0 : Int) < 39; decide), _, _, rfl, rfl, _, _, rfl, rfl, ?_, _, _, rfl, rfl, _, _, rfl, rfl, (by show (0 : Int) < 40; decide), _, _, rfl, rfl, ?_⟩
    · refine .inr ⟨?_, ?_⟩
      · have := Int.emod_nonneg (ks[4] / 6) (show (39 : Int) ≠ 0 by decide); omega
      · have := Int.emod_lt_of_pos (ks[4] / 6) (show (0 : Int) < 39 by decide); omega
    dsimp only
    obtain ⟨p2', hp2', ep2'⟩ := mod_nat ((pk : Int) - (1 : Int) + (mo : Int) / (2 : Int) * ((1 : Int) + ks[4] / (6 : Int) % (39 : Int))) (show 0 < 40 by omega)
    obtain ⟨p2, ep2⟩ : ∃ p2 : Nat, p2 = p2' + 1 := ⟨_, rfl⟩
    have E3 : (1 : Int) + ((pk : Int) - (1 : Int) + (mo : Int) / (2 : Int) * ((1 : Int) + ks[4] / (6 : Int) % (39 : Int))) % 40 = (p2 : Int) := by
      have : ((pk : Int) - (1 : Int) + (mo : Int) / (2 : Int) * ((1 : Int) + ks[4] / (6 : Int) % (39 : Int))) % 40 = (p2' : Int) := ep2'
      omega
    rw [E3]
    have p21 : 1 ≤ p2 := by omega
    have p240 : p2 ≤ 40 := by omega
    clear E3 ep2 ep2' hp2'
    refine at_set (σ' := [some (.ref a), some (.int (wd : Int)), some (.int (hg : Int)), some (.int (e2 : Int)), some (.int (p2 : Int)), some (.int (mo : Int)), some (.ref lp), some (.ref lo), some (.int ((6 : Int) + (wd : Int) + (hg : Int) + (en : Int) + (pk : Int))), none]) rfl ?_
    refine ⟨_, rfl, _, rfl, _, rfl, _, _, rfl, u5.seq hS, fun l6 n6 => ?_⟩
    rw [show (6 : Int) + (wd : Int) + (hg : Int) + (en : Int) + (pk : Int) = ((6 + wd + hg + en + pk : Nat) : Int) by omega, cutV_tail (by rw [vI_len]; omega), vI_drop]
    have s6 := Same.upd n6 (o := .lst (vI (ks.drop (6 + wd + hg + en + pk))))
    have h6 : (upd H5 l6 (.lst (vI (ks.drop (6 + wd + hg + en + pk))))) l6 = some (.lst (vI (ks.drop (6 + wd + hg + en + pk)))) := upd_same
    generalize upd H5 l6 (.lst (vI (ks.drop (6 + wd + hg + en + pk)))) = H6 at s6 h6 ⊢
    refine ⟨_, rfl, _, rfl, l6, ks.drop (6 + wd + hg + en + pk), e2, p2, rfl, SqL.of h6, by rw [List.length_drop]; omega, by rw [List.length_drop]; omega, fun k hk => hkn k (List.mem_of_mem_drop hk), e21, e240, p21, p240, fun lt other H7 s7 ht C2 => ?_⟩
    have u7 := s6.trans s7
    refine ⟨_, rfl, _, rfl, _, rfl, (by show 3 ≤ sizeLine; decide), fun l nl => ?_⟩
    have s8 := Same.upd nl (o := .lst [.ref lp, .ref lo, .ref lt])
    have v7 := u5.trans u7
    exact k l lp lo lt pr one other wd hg en pk e2 p2 _ (v7.trans s8) (v7.free nl) upd_same (s8 _ _ (u7 _ _ hp5)) (s8 _ _ (u7 _ _ ho)) (s8 _ _ ht) C C1 C2
inductive Res (t : Adr) (ca cb cc : List (List Nat)) : Str → Prop
  | bad {cls : Addr} {wd : Str} : Bad t ca cb cc cls wd → Res t ca cb cc wd
  | good {m n w h : Nat} : Cl ca m n → Cl cb w h → Cl cc w h → m * w ≤ 40 → n * h ≤ 40 → Res t ca cb cc ""
def sp_due (K : PySem.W.Frag) (t : Adr) : Sp := fun vs H Q _ => ∃ (o a b c : Addr) (ch : Bool) (ca cb cc : List (List Nat)), vs = [.ref o, .bl ch] ∧ SqL K H o [.ref a, .ref b, .ref c] ∧ SqL K H a (vS ca) ∧ SqL K H b (vS cb) ∧ SqL K H c (vS cc) ∧
  (ch = true → NoCl ca ∨ NoCl cb ∨ NoCl cc) ∧ (ch = false → ∃ m n w h w' h', Cl ca m n ∧ Cl cb w h ∧ Cl cc w' h') ∧ ∀ wd, Res t ca cb cc wd → Q (.str wd) H
theorem ok_law_due (T : Txt K mg t) : FnOk P w K mg base CX0 1 t.f_law_due t.d_law_due ["cloths", "changed"] (sp_due K t) := by
  refine T.law_due.F.ok sc_law_due (fun vs H Q E h => ?_) (fun cdv A outer s H vs Q E hr h => ?_)
  · obtain ⟨o, a, b, c, ch, ca, cb, cc, rfl, _⟩ := h
    rfl
  · obtain ⟨o, a, b, c, ch, ca, cb, cc, rfl, hO, hA, hB, hC, k1, k2, k⟩ := h
    have c0 : atI [V.ref a, V.ref b, V.ref c] 0 = some (.ref a) := atI_of (by decide) rfl
    have c1 : atI [V.ref a, V.ref b, V.ref c] 1 = some (.ref b) := atI_of (by decide) rfl
    have c2 : atI [V.ref a, V.ref b, V.ref c] 2 = some (.ref c) := atI_of (by decide) rfl
    refine ⟨_, (pss_cons (ps_if (pt_truthK (K := K) (pv 1) (fun _ => rfl))
        (pss_one (ps_ret pe_str))
        pss_nil)
      (pss_cons (ps_if (PW.pt (pw_or (pt_cmpR op_ne (pe_callB (call_len_seqK (K := K)) rfl T.b_len bt_len (pa_cons (pe_ix (ix_listK (K := K)) (pv 0) pe_int (fun _ _ => rfl)) pa_nil)) (pe_callB (call_len_seqK (K := K)) rfl T.b_len bt_len (pa_cons (pe_ix (ix_listK (K := K)) (pv 0) pe_int (fun _ _ => rfl)) pa_nil)) (nomark _)) (pw_or1 (pt_cmpR op_ne (pe_callB call_len_str rfl T.b_len bt_len (pa_cons (pe_ix (ix_listK (K := K)) (pe_ix (ix_listK (K := K)) (pv 0) pe_int (fun _ _ => rfl)) pe_int (fun _ _ => rfl)) pa_nil)) (pe_callB call_len_str rfl T.b_len bt_len (pa_cons (pe_ix (ix_listK (K := K)) (pe_ix (ix_listK (K := K)) (pv 0) pe_int (fun _ _ => rfl)) pe_int (fun _ _ => rfl)) pa_nil)) (nomark _)))))
        (pss_one (ps_ret pe_str))
        pss_nil)
      (pss_cons (ps_if (PW.pt (pw_or (pt_cmpR op_gt (pe_op op_mul (pe_callB (call_len_seqK (K := K)) rfl T.b_len bt_len (pa_cons (pe_ix (ix_listK (K := K)) (pv 0) pe_int (fun _ _ => rfl)) pa_nil)) (pe_callB (call_len_seqK (K := K)) rfl T.b_len bt_len (pa_cons (pe_ix (ix_listK (K := K)) (pv 0) pe_int (fun _ _ => rfl)) pa_nil))) pe_int (nomark _)) (pw_or1 (pt_cmpR op_gt (pe_op op_mul (pe_callB call_len_str rfl T.b_len bt_len (pa_cons (pe_ix (ix_listK (K := K)) (pe_ix (ix_listK (K := K)) (pv 0) pe_int (fun _ _ => rfl)) pe_int (fun _ _ => rfl)) pa_nil)) (pe_callB call_len_str rfl T.b_len bt_len (pa_cons (pe_ix (ix_listK (K := K)) (pe_ix (ix_listK (K := K)) (pv 0) pe_int (fun _ _ => rfl)) pe_int (fun _ _ => rfl)) pa_nil))) pe_int (nomark _)))))
        (pss_one (ps_ret pe_str))
        pss_nil)
      (pss_one (ps_ret pe_str))))), ?_⟩
    refine ⟨_, rfl, ch, rfl, ?_⟩
    cases ch with
    | true => exact iteT (k _ (.bad (.nc (k1 rfl))))
    | false =>
      refine iteF ?_
      obtain ⟨m, n, w, h, w', h', C, C1, C2⟩ := k2 rfl
      have row : ∀ {cl : List (List Nat)} {m n : Nat}, Cl cl m n → ∃ u, atI (vS cl) 0 = some (.str (tx u)) ∧ u.length = m := fun {cl m n} D => by
        have h0 : 0 < cl.length := by rw [D.hn]; exact D.n1
        exact ⟨cl[0], atI_of (by decide) (vS_get (List.getElem?_eq_getElem h0)), D.hm _ (List.getElem_mem h0)⟩
      obtain ⟨u0, r0, l0⟩ := row C
      obtain ⟨u1, r1, l1⟩ := row C1
      obtain ⟨u2, r2, l2⟩ := row C2
      have m40 := C.m40
      have n40 := C.n40
      have w40 := C1.m40
      have h40 := C1.n40
      have w40' := C2.m40
      have h40' := C2.n40
      have sm : ∀ {u : List Nat} {x : Nat}, u.length = x → x ≤ 40 → (tx u).length ≤ sizeLine := fun e h => by rw [tx_len, e]; exact small40 h
      refine ⟨_, rfl, _, _, _, _, rfl, rfl, hO, c1, _, _, rfl, .inl hB, _, rfl, _, _, _, _, rfl, rfl, hO, c2, _, _, rfl, .inl hC, rfl, _, rfl, ?_⟩
      rw [vS_len, vS_len, C1.hn, C2.hn]
      by_cases q1 : h = h'
      case neg => exact iteNp (fun z => q1 (by injection z with z; omega)) (iteT (k _ (.bad (.nb C C1 C2 fun z => q1 z.2))))
      refine iteNS (by rw [q1]) ?_
      refine ⟨_, rfl, _, _, _, _, rfl, rfl, hO, c1, _, _, _, _, rfl, rfl, hB, r1, _, rfl, sm l1 w40, _, rfl, _, _, _, _, rfl, rfl, hO, c2, _, _, _, _, rfl, rfl, hC, r2, _, rfl, sm l2 w40', rfl, _, rfl, ?_⟩
      rw [tx_len, tx_len, l1, l2]
      by_cases q2 : w = w'
      case neg => exact iteNp (fun z => q2 (by injection z with z; omega)) (k _ (.bad (.nb C C1 C2 fun z => q2 z.1)))
      refine iteNS (by rw [q2]) ?_
      subst q1 q2
      refine ⟨_, rfl, _, _, _, _, rfl, rfl, hO, c0, _, _, rfl, .inl hA, _, rfl, _, _, _, _, rfl, rfl, hO, c1, _, _, rfl, .inl hB, _, _, rfl, rfl, .inl ⟨by rw [vS_len, C.hn]; omega, by rw [vS_len, C.hn]; omega⟩, _, _, rfl, rfl, _, rfl, ?_⟩
      rw [vS_len, vS_len, C.hn, C1.hn, show (n : Int) * (h : Int) = ((n * h : Nat) : Int) by rw [Int.natCast_mul]]
      refine ite2D (fun z => iteT (k _ (.bad (.tl C C1 C2 (.inr (by omega)))))) (fun g1 => ?_)
      refine ⟨_, rfl, _, _, _, _, rfl, rfl, hO, c0, _, _, _, _, rfl, rfl, hA, r0, _, rfl, sm l0 m40, _, rfl, _, _, _, _, rfl, rfl, hO, c1, _, _, _, _, rfl, rfl, hB, r1, _, rfl, sm l1 w40, _, _, rfl, rfl, .inl ⟨by rw [tx_len, l0]; omega, by rw [tx_len, l0]; omega⟩, _, _, rfl, rfl, _, rfl, ?_⟩
      rw [tx_len, tx_len, l0, l1, show (m : Int) * (w : Int) = ((m * w : Nat) : Int) by rw [Int.natCast_mul]]
      refine ite2D (fun z => k _ (.bad (.tl C C1 C2 (.inl (by omega))))) (fun g2 => ?_)
      exact k _ (.good C C1 C2 (by omega) (by omega))
theorem fn_or {CX : CXT} {k : Nat} {f : Addr} {fd : FuncData} {ps : List Str} {s1 s2 : Sp} (F : FnOk P w K mg base CX k f fd ps s1) (G : FnOk P w K mg base CX k f fd ps s2) : FnOk P w K mg base CX k f fd ps (fun vs H Q E => s1 vs H Q E ∨ s2 vs H Q E) :=
  ⟨fun vs H Q E h => h.elim (F.len vs H Q E) (G.len vs H Q E), fun A outer s H args us vs Q E hr he hb hv h => h.elim (F.run A outer s H args us vs Q E hr he hb hv) (G.run A outer s H args us vs Q E hr he hb hv)⟩
def sp_cgt (K : PySem.W.Frag) (t : Adr) : Sp := fun vs H Q _ => ∃ (way : Int) (o a b c : Addr) (ca cb cc : List (List Nat)) (wd : Str), vs = [.int way, .ref o] ∧ SqL K H o [.ref a, .ref b, .ref c] ∧ SqL K H a (vS ca) ∧ SqL K H b (vS cb) ∧ SqL K H c (vS cc) ∧ Shr ca ∧ Shr cb ∧ Shr cc ∧ Res t ca cb cc wd ∧
  (∀ cls, Bad t ca cb cc cls wd → ∀ p e H', Same H H' → H' p = some (.tup [.ref e, .non]) → H' e = some (exH cls e) → Q (.ref p) H') ∧
  (∀ m n w h, Cl ca m n → Cl cb w h → Cl cc w h → m * w ≤ 40 → n * h ≤ 40 → ∀ p v H', Same H H' → H' p = some (.tup [.non, v]) → (way = 0 → ∃ l, v = .ref l ∧ H' l = some (.lst (vS (fil ca cb cc)))) → Q (.ref p) H')
theorem ok_law_caught (T : Txt K mg t) : FnOk P w K mg base CX0 8 t.f_law_caught t.d_law_caught ["way", "cloths"] (sp_cgt K t) := by
  have G_filled_blocks : FnOk P w K mg base (CX1 P w) 5 t.f_filled_blocks t.d_filled_blocks _ _ := fn_or (ok_filled_blocks T) (okx_filled_blocks T)
  have G_block_draft : FnOk P w K mg base (CX1 P w) 7 t.f_block_draft t.d_block_draft _ _ := fn_or (ok_block_draft T) (okx_block_draft T)
  refine T.law_caught.F.ok sc_law_caught (fun vs H Q E h => ?_) (fun cdv A outer s H vs Q E hr h => ?_)
  · obtain ⟨way, o, a, b, c, ca, cb, cc, wd, rfl, _⟩ := h
    rfl
  · obtain ⟨way, o, a, b, c, ca, cb, cc, wd, rfl, hO, hA, hB, hC, sa, sb, sc, R, k1, k2⟩ := h
    have c0 : atI [V.ref a, V.ref b, V.ref c] 0 = some (.ref a) := atI_of (by decide) rfl
    have c1 : atI [V.ref a, V.ref b, V.ref c] 1 = some (.ref b) := atI_of (by decide) rfl
    have c2 : atI [V.ref a, V.ref b, V.ref c] 2 = some (.ref c) := atI_of (by decide) rfl
    refine ⟨_, (pss_cons (ps_set (i := 2) sc_law_caught.nd rfl (Or.inl rfl) pe_non)
      (pss_cons (ps_set (i := 3) sc_law_caught.nd rfl (Or.inl rfl) pe_non)
      (pss_cons (ps_try (j := 4) ⟨rfl, rfl, rfl⟩ rfl (psxs_one (psx_if (pt_cmpR op_eq (pv 0) pe_int (nomark _)) (psxs_one (psx_set (i := 3) sc_law_caught.nd rfl (Or.inl rfl) (pex_call (G_filled_blocks.mono (by decide)) hr rfl T.filled_blocks.m T.filled_blocks.F.kp T.filled_blocks.b .nil (pa_cons (pe_ix (ix_listK (K := K)) (pv 1) pe_int (fun _ _ => rfl)) (pa_cons (pe_ix (ix_listK (K := K)) (pv 1) pe_int (fun _ _ => rfl)) (pa_cons (pe_ix (ix_listK (K := K)) (pv 1) pe_int (fun _ _ => rfl)) pa_nil)))))) (psxs_one (psx_set (i := 3) sc_law_caught.nd rfl (Or.inl rfl) (pex_call (G_block_draft.mono (by decide)) hr rfl T.block_draft.m T.block_draft.F.kp T.block_draft.b .nil (pa_cons (pe_ix (ix_listK (K := K)) (pv 1) pe_int (fun _ _ => rfl)) (pa_cons (pe_ix (ix_listK (K := K)) (pv 1) pe_int (fun _ _ => rfl)) (pa_cons (pe_ix (ix_listK (K := K)) (pv 1) pe_int (fun _ _ => rfl)) pa_nil)))))))) sc_law_caught.nd rfl rfl rfl T.k_WeaveError T.x_WeaveError.q has_base (fun _ => (pss_one (ps_set (i := 2) sc_law_caught.nd rfl (Or.inl rfl) (pv 4)))))
      (pss_one (ps_ret (pe_tup (pa_cons (pv 2) (pa_cons (pv 3) pa_nil)))))))), ?_⟩
    refine ⟨_, rfl, rfl, _, rfl, ?_⟩
    refine ite2D (fun hw => ?_) (fun hw => ?_)
    · refine ⟨_, rfl, _, _, _, _, rfl, rfl, hO, c0, _, rfl, _, _, _, _, rfl, rfl, hO, c1, _, rfl, _, _, _, _, rfl, rfl, hO, c2, ?_⟩
      cases R with
      | good C C1 C2 g1 g2 =>
        refine .inl ⟨a, b, c, ca, cb, cc, _, _, _, _, rfl, hA, hB, hC, C, C1, C2, g1, g2, fun l H1 s1 nl hl => ?_⟩
        refine ⟨_, rfl, _, rfl, (by show 2 ≤ sizeLine; decide), fun p np => ?_⟩
        exact k2 _ _ _ _ C C1 C2 g1 g2 p _ _ (s1.new np) upd_same fun _ => ⟨l, rfl, (Same.upd np) _ _ hl⟩
      | @bad cls _ B =>
        refine .inr ⟨a, b, c, cls, wd, ca, cb, cc, rfl, hA, hB, hC, sa, sb, sc, B, fun H1 s1 => ?_⟩
        rcases (id B) with @⟨x⟩ | @⟨m, n, w, h, w', h', x1, x2, x3, x4⟩ | @⟨m, n, w, h, x1, x2, x3, x4⟩
        · refine ⟨_, rfl, T.x_NoCloth.sub T.r_NoCloth_WeaveError, fun ea nea => ?_⟩
          have he : (upd H1 ea (exH t.e_NoCloth ea)) ea = some (exH t.e_NoCloth ea) := upd_same
          have s2 : Same H1 (upd H1 ea (exH t.e_NoCloth ea)) := .upd nea
          generalize upd H1 ea (exH t.e_NoCloth ea) = H2 at he s2 ⊢
          refine ⟨_, rfl, ?_⟩
          refine ⟨_, rfl, _, rfl, (by show 2 ≤ sizeLine; decide), fun p np => ?_⟩
          exact k1 _ B p ea _ ((s1.trans s2).new np) upd_same ((Same.upd np) _ _ he)
        · refine ⟨_, rfl, T.x_NoBlock.sub T.r_NoBlock_WeaveError, fun ea nea => ?_⟩
          have he : (upd H1 ea (exH t.e_NoBlock ea)) ea = some (exH t.e_NoBlock ea) := upd_same
          have s2 : Same H1 (upd H1 ea (exH t.e_NoBlock ea)) := .upd nea
          generalize upd H1 ea (exH t.e_NoBlock ea) = H2 at he s2 ⊢
          refine ⟨_, rfl, ?_⟩
          refine ⟨_, rfl, _, rfl, (by show 2 ≤ sizeLine; decide), fun p np => ?_⟩
          exact k1 _ B p ea _ ((s1.trans s2).new np) upd_same ((Same.upd np) _ _ he)
        · refine ⟨_, rfl, T.x_TooLarge.sub T.r_TooLarge_WeaveError, fun ea nea => ?_⟩
          have he : (upd H1 ea (exH t.e_TooLarge ea)) ea = some (exH t.e_TooLarge ea) := upd_same
          have s2 : Same H1 (upd H1 ea (exH t.e_TooLarge ea)) := .upd nea
          generalize upd H1 ea (exH t.e_TooLarge ea) = H2 at he s2 ⊢
          refine ⟨_, rfl, ?_⟩
          refine ⟨_, rfl, _, rfl, (by show 2 ≤ sizeLine; decide), fun p np => ?_⟩
          exact k1 _ B p ea _ ((s1.trans s2).new np) upd_same ((Same.upd np) _ _ he)
    · refine ⟨_, rfl, _, _, _, _, rfl, rfl, hO, c0, _, rfl, _, _, _, _, rfl, rfl, hO, c1, _, rfl, _, _, _, _, rfl, rfl, hO, c2, ?_⟩
      cases R with
      | good C C1 C2 g1 g2 =>
        refine .inl ⟨a, b, c, ca, cb, cc, _, _, _, _, rfl, hA, hB, hC, C, C1, C2, g1, g2, fun d dx a' b' c' qs tss H1 s1 D B => ?_⟩
        refine ⟨_, rfl, _, rfl, (by show 2 ≤ sizeLine; decide), fun p np => ?_⟩
        exact k2 _ _ _ _ C C1 C2 g1 g2 p _ _ (s1.new np) upd_same fun z => absurd (by rw [z]) hw
      | @bad cls _ B =>
        refine .inr ⟨a, b, c, cls, wd, ca, cb, cc, rfl, hA, hB, hC, sa, sb, sc, B, fun H1 s1 => ?_⟩
        rcases (id B) with @⟨x⟩ | @⟨m, n, w, h, w', h', x1, x2, x3, x4⟩ | @⟨m, n, w, h, x1, x2, x3, x4⟩
        · refine ⟨_, rfl, T.x_NoCloth.sub T.r_NoCloth_WeaveError, fun ea nea => ?_⟩
          have he : (upd H1 ea (exH t.e_NoCloth ea)) ea = some (exH t.e_NoCloth ea) := upd_same
          have s2 : Same H1 (upd H1 ea (exH t.e_NoCloth ea)) := .upd nea
          generalize upd H1 ea (exH t.e_NoCloth ea) = H2 at he s2 ⊢
          refine ⟨_, rfl, ?_⟩
          refine ⟨_, rfl, _, rfl, (by show 2 ≤ sizeLine; decide), fun p np => ?_⟩
          exact k1 _ B p ea _ ((s1.trans s2).new np) upd_same ((Same.upd np) _ _ he)
        · refine ⟨_, rfl, T.x_NoBlock.sub T.r_NoBlock_WeaveError, fun ea nea => ?_⟩
          have he : (upd H1 ea (exH t.e_NoBlock ea)) ea = some (exH t.e_NoBlock ea) := upd_same
          have s2 : Same H1 (upd H1 ea (exH t.e_NoBlock ea)) := .upd nea
          generalize upd H1 ea (exH t.e_NoBlock ea) = H2 at he s2 ⊢
          refine ⟨_, rfl, ?_⟩
          refine ⟨_, rfl, _, rfl, (by show 2 ≤ sizeLine; decide), fun p np => ?_⟩
          exact k1 _ B p ea _ ((s1.trans s2).new np) upd_same ((Same.upd np) _ _ he)
        · refine ⟨_, rfl, T.x_TooLarge.sub T.r_TooLarge_WeaveError, fun ea nea => ?_⟩
          have he : (upd H1 ea (exH t.e_TooLarge ea)) ea = some (exH t.e_TooLarge ea) := upd_same
          have s2 : Same H1 (upd H1 ea (exH t.e_TooLarge ea)) := .upd nea
          generalize upd H1 ea (exH t.e_TooLarge ea) = H2 at he s2 ⊢
          refine ⟨_, rfl, ?_⟩
          refine ⟨_, rfl, _, rfl, (by show 2 ≤ sizeLine; decide), fun p np => ?_⟩
          exact k1 _ B p ea _ ((s1.trans s2).new np) upd_same ((Same.upd np) _ _ he)
def sp_rfd (t : Adr) : Sp := fun vs H Q _ => ∃ (ea cls : Addr) (wd : Str), vs = [.ref ea, .str wd] ∧ H ea = some (exH cls ea) ∧ ((cls = t.e_NoCloth ∧ wd = "NoCloth") ∨ (cls = t.e_NoBlock ∧ wd = "NoBlock") ∨ (cls = t.e_TooLarge ∧ wd = "TooLarge")) ∧ ∀ H', Same H H' → Q (.bl true) H'
theorem ok_law_refused (T : Txt K mg t) : FnOk P w K mg base CX0 2 t.f_law_refused t.d_law_refused ["caught", "word"] (sp_rfd t) := by
  have G_NoCloth_called : FnOk P w K mg base CX0 1 t.f_NoCloth_called t.d_NoCloth_called _ _ := ok_NoCloth_called T
  have G_NoBlock_called : FnOk P w K mg base CX0 1 t.f_NoBlock_called t.d_NoBlock_called _ _ := ok_NoBlock_called T
  have G_TooLarge_called : FnOk P w K mg base CX0 1 t.f_TooLarge_called t.d_TooLarge_called _ _ := ok_TooLarge_called T
  refine T.law_refused.F.ok sc_law_refused (fun vs H Q E h => ?_) (fun cdv A outer s H vs Q E hr h => ?_)
  · obtain ⟨ea, cls, wd, rfl, _⟩ := h
    rfl
  · obtain ⟨ea, cls, wd, rfl, he, ew, k⟩ := h
    rcases ew with ⟨rfl, rfl⟩ | ⟨rfl, rfl⟩ | ⟨rfl, rfl⟩
    · refine ⟨_, (pss_cons (ps_if (PW.pt (pw_or (pt_not (pt_val (pe_callB (call_isx (K := K)) rfl T.b_isinstance bt_isinstance (pa_cons (pv 0) (pa_cons (pe_bltn (v := .ty "ValueError") rfl T.b_ValueError bt_ValueError rfl) pa_nil))))) (pw_or1 (pt_cmpR op_ne (pe_methE (pv 0) T.x_NoCloth.c T.m_NoCloth.m (G_NoCloth_called.mono (by decide)) hr T.m_NoCloth.b pass0) (pv 1) (nomark _)))))
        (pss_one (ps_ret pe_bl))
        pss_nil)
      (pss_cons (ps_set (i := 2) sc_law_refused.nd rfl (Or.inl rfl) (pe_lst (pa_cons (pe_callB (call_isx (K := K)) rfl T.b_isinstance bt_isinstance (pa_cons (pv 0) (pa_cons (pe_glob (v := .ref t.e_NoCloth) rfl T.k_NoCloth rfl) pa_nil))) (pa_cons (pe_callB (call_isx (K := K)) rfl T.b_isinstance bt_isinstance (pa_cons (pv 0) (pa_cons (pe_glob (v := .ref t.e_NoBlock) rfl T.k_NoBlock rfl) pa_nil))) (pa_cons (pe_callB (call_isx (K := K)) rfl T.b_isinstance bt_isinstance (pa_cons (pv 0) (pa_cons (pe_glob (v := .ref t.e_TooLarge) rfl T.k_TooLarge rfl) pa_nil))) pa_nil)))))
      (pss_one (ps_ret (pe_cmpR (op_eqLK (K := K) (hr.units0)) (pv 2) (pe_lst (pa_cons (pe_cmpR op_eq (pv 1) pe_str (nomark _)) (pa_cons (pe_cmpR op_eq (pv 1) pe_str (nomark _)) (pa_cons (pe_cmpR op_eq (pv 1) pe_str (nomark _)) pa_nil)))) (nomark _)))))), ?_⟩
      refine ⟨_, rfl, ea, t.e_NoCloth, true, he, T.x_NoCloth.c, .inl ⟨_, rfl, kit_ve T.x_NoCloth⟩, _, rfl, ?_⟩
      refine iteF ?_
      refine ⟨_, rfl, ea, rfl, he, _, rfl, _, rfl, rfl, _, rfl, ?_⟩
      refine iteNS rfl ?_
      refine ⟨_, rfl, ea, t.e_NoCloth, true, he, T.x_NoCloth.c, .inr ⟨t.e_NoCloth, rfl, kit_ref T.r_NoCloth_NoCloth T.x_NoCloth T.r_NoCloth_NoCloth⟩, _, rfl, ea, t.e_NoCloth, false, he, T.x_NoCloth.c, .inr ⟨t.e_NoBlock, rfl, kit_ref T.r_NoCloth_NoCloth T.x_NoBlock T.r_NoCloth_NoBlock⟩, _, rfl, ea, t.e_NoCloth, false, he, T.x_NoCloth.c, .inr ⟨t.e_TooLarge, rfl, kit_ref T.r_NoCloth_NoCloth T.x_TooLarge T.r_NoCloth_TooLarge⟩, (by show 3 ≤ sizeLine; decide), fun l1 n1 => ?_⟩
      have s2 : Same H (upd H l1 (.lst [.bl true, .bl false, .bl false])) := .upd n1
      have h2 : (upd H l1 (.lst [.bl true, .bl false, .bl false])) l1 = some (.lst [.bl true, .bl false, .bl false]) := upd_same
      generalize upd H l1 (.lst [.bl true, .bl false, .bl false]) = H2 at s2 h2 ⊢
      refine ⟨_, rfl, _, rfl, rfl, _, rfl, rfl, _, rfl, rfl, (by show 3 ≤ sizeLine; decide), fun l2 n2 => ?_⟩
      refine ⟨_, _, _, _, rfl, rfl, SqL.of ((Same.upd n2) _ _ h2), SqL.of upd_same, rfl, rfl, ?_⟩
      have e0 : decide ((V.str "NoCloth" : V) = V.str "NoCloth") = true := decide_eq_true rfl
      have e1 : decide ((V.str "NoCloth" : V) = V.str "NoBlock") = false := decide_eq_false fun z => absurd (V.str.inj z) (by decide +kernel)
      have e2 : decide ((V.str "NoCloth" : V) = V.str "TooLarge") = false := decide_eq_false fun z => absurd (V.str.inj z) (by decide +kernel)
      rw [e0, e1, e2]
      exact k _ (s2.new n2)
    · refine ⟨_, (pss_cons (ps_if (PW.pt (pw_or (pt_not (pt_val (pe_callB (call_isx (K := K)) rfl T.b_isinstance bt_isinstance (pa_cons (pv 0) (pa_cons (pe_bltn (v := .ty "ValueError") rfl T.b_ValueError bt_ValueError rfl) pa_nil))))) (pw_or1 (pt_cmpR op_ne (pe_methE (pv 0) T.x_NoBlock.c T.m_NoBlock.m (G_NoBlock_called.mono (by decide)) hr T.m_NoBlock.b pass0) (pv 1) (nomark _)))))
        (pss_one (ps_ret pe_bl))
        pss_nil)
      (pss_cons (ps_set (i := 2) sc_law_refused.nd rfl (Or.inl rfl) (pe_lst (pa_cons (pe_callB (call_isx (K := K)) rfl T.b_isinstance bt_isinstance (pa_cons (pv 0) (pa_cons (pe_glob (v := .ref t.e_NoCloth) rfl T.k_NoCloth rfl) pa_nil))) (pa_cons (pe_callB (call_isx (K := K)) rfl T.b_isinstance bt_isinstance (pa_cons (pv 0) (pa_cons (pe_glob (v := .ref t.e_NoBlock) rfl T.k_NoBlock rfl) pa_nil))) (pa_cons (pe_callB (call_isx (K := K)) rfl T.b_isinstance bt_isinstance (pa_cons (pv 0) (pa_cons (pe_glob (v := .ref t.e_TooLarge) rfl T.k_TooLarge rfl) pa_nil))) pa_nil)))))
      (pss_one (ps_ret (pe_cmpR (op_eqLK (K := K) (hr.units0)) (pv 2) (pe_lst (pa_cons (pe_cmpR op_eq (pv 1) pe_str (nomark _)) (pa_cons (pe_cmpR op_eq (pv 1) pe_str (nomark _)) (pa_cons (pe_cmpR op_eq (pv 1) pe_str (nomark _)) pa_nil)))) (nomark _)))))), ?_⟩
      refine ⟨_, rfl, ea, t.e_NoBlock, true, he, T.x_NoBlock.c, .inl ⟨_, rfl, kit_ve T.x_NoBlock⟩, _, rfl, ?_⟩
      refine iteF ?_
      refine ⟨_, rfl, ea, rfl, he, _, rfl, _, rfl, rfl, _, rfl, ?_⟩
      refine iteNS rfl ?_
      refine ⟨_, rfl, ea, t.e_NoBlock, false, he, T.x_NoBlock.c, .inr ⟨t.e_NoCloth, rfl, kit_ref T.r_NoBlock_NoBlock T.x_NoCloth T.r_NoBlock_NoCloth⟩, _, rfl, ea, t.e_NoBlock, true, he, T.x_NoBlock.c, .inr ⟨t.e_NoBlock, rfl, kit_ref T.r_NoBlock_NoBlock T.x_NoBlock T.r_NoBlock_NoBlock⟩, _, rfl, ea, t.e_NoBlock, false, he, T.x_NoBlock.c, .inr ⟨t.e_TooLarge, rfl, kit_ref T.r_NoBlock_NoBlock T.x_TooLarge T.r_NoBlock_TooLarge⟩, (by show 3 ≤ sizeLine; decide), fun l1 n1 => ?_⟩
      have s2 : Same H (upd H l1 (.lst [.bl false, .bl true, .bl false])) := .upd n1
      have h2 : (upd H l1 (.lst [.bl false, .bl true, .bl false])) l1 = some (.lst [.bl false, .bl true, .bl false]) := upd_same
      generalize upd H l1 (.lst [.bl false, .bl true, .bl false]) = H2 at s2 h2 ⊢
      refine ⟨_, rfl, _, rfl, rfl, _, rfl, rfl, _, rfl, rfl, (by show 3 ≤ sizeLine; decide), fun l2 n2 => ?_⟩
      refine ⟨_, _, _, _, rfl, rfl, SqL.of ((Same.upd n2) _ _ h2), SqL.of upd_same, rfl, rfl, ?_⟩
      have e0 : decide ((V.str "NoBlock" : V) = V.str "NoCloth") = false := decide_eq_false fun z => absurd (V.str.inj z) (by decide +kernel)
      have e1 : decide ((V.str "NoBlock" : V) = V.str "NoBlock") = true := decide_eq_true rfl
      have e2 : decide ((V.str "NoBlock" : V) = V.str "TooLarge") = false := decide_eq_false fun z => absurd (V.str.inj z) (by decide +kernel)
      rw [e0, e1, e2]
      exact k _ (s2.new n2)
    · refine ⟨_, (pss_cons (ps_if (PW.pt (pw_or (pt_not (pt_val (pe_callB (call_isx (K := K)) rfl T.b_isinstance bt_isinstance (pa_cons (pv 0) (pa_cons (pe_bltn (v := .ty "ValueError") rfl T.b_ValueError bt_ValueError rfl) pa_nil))))) (pw_or1 (pt_cmpR op_ne (pe_methE (pv 0) T.x_TooLarge.c T.m_TooLarge.m (G_TooLarge_called.mono (by decide)) hr T.m_TooLarge.b pass0) (pv 1) (nomark _)))))
        (pss_one (ps_ret pe_bl))
        pss_nil)
      (pss_cons (ps_set (i := 2) sc_law_refused.nd rfl (Or.inl rfl) (pe_lst (pa_cons (pe_callB (call_isx (K := K)) rfl T.b_isinstance bt_isinstance (pa_cons (pv 0) (pa_cons (pe_glob (v := .ref t.e_NoCloth) rfl T.k_NoCloth rfl) pa_nil))) (pa_cons (pe_callB (call_isx (K := K)) rfl T.b_isinstance bt_isinstance (pa_cons (pv 0) (pa_cons (pe_glob (v := .ref t.e_NoBlock) rfl T.k_NoBlock rfl) pa_nil))) (pa_cons (pe_callB (call_isx (K := K)) rfl T.b_isinstance bt_isinstance (pa_cons (pv 0) (pa_cons (pe_glob (v := .ref t.e_TooLarge) rfl T.k_TooLarge rfl) pa_nil))) pa_nil)))))
      (pss_one (ps_ret (pe_cmpR (op_eqLK (K := K) (hr.units0)) (pv 2) (pe_lst (pa_cons (pe_cmpR op_eq (pv 1) pe_str (nomark _)) (pa_cons (pe_cmpR op_eq (pv 1) pe_str (nomark _)) (pa_cons (pe_cmpR op_eq (pv 1) pe_str (nomark _)) pa_nil)))) (nomark _)))))), ?_⟩
      refine ⟨_, rfl, ea, t.e_TooLarge, true, he, T.x_TooLarge.c, .inl ⟨_, rfl, kit_ve T.x_TooLarge⟩, _, rfl, ?_⟩
      refine iteF ?_
      refine ⟨_, rfl, ea, rfl, he, _, rfl, _, rfl, rfl, _, rfl, ?_⟩
      refine iteNS rfl ?_
      refine ⟨_, rfl, ea, t.e_TooLarge, false, he, T.x_TooLarge.c, .inr ⟨t.e_NoCloth, rfl, kit_ref T.r_TooLarge_TooLarge T.x_NoCloth T.r_TooLarge_NoCloth⟩, _, rfl, ea, t.e_TooLarge, false, he, T.x_TooLarge.c, .inr ⟨t.e_NoBlock, rfl, kit_ref T.r_TooLarge_TooLarge T.x_NoBlock T.r_TooLarge_NoBlock⟩, _, rfl, ea, t.e_TooLarge, true, he, T.x_TooLarge.c, .inr ⟨t.e_TooLarge, rfl, kit_ref T.r_TooLarge_TooLarge T.x_TooLarge T.r_TooLarge_TooLarge⟩, (by show 3 ≤ sizeLine; decide), fun l1 n1 => ?_⟩
      have s2 : Same H (upd H l1 (.lst [.bl false, .bl false, .bl true])) := .upd n1
      have h2 : (upd H l1 (.lst [.bl false, .bl false, .bl true])) l1 = some (.lst [.bl false, .bl false, .bl true]) := upd_same
      generalize upd H l1 (.lst [.bl false, .bl false, .bl true]) = H2 at s2 h2 ⊢
      refine ⟨_, rfl, _, rfl, rfl, _, rfl, rfl, _, rfl, rfl, (by show 3 ≤ sizeLine; decide), fun l2 n2 => ?_⟩
      refine ⟨_, _, _, _, rfl, rfl, SqL.of ((Same.upd n2) _ _ h2), SqL.of upd_same, rfl, rfl, ?_⟩
      have e0 : decide ((V.str "TooLarge" : V) = V.str "NoCloth") = false := decide_eq_false fun z => absurd (V.str.inj z) (by decide +kernel)
      have e1 : decide ((V.str "TooLarge" : V) = V.str "NoBlock") = false := decide_eq_false fun z => absurd (V.str.inj z) (by decide +kernel)
      have e2 : decide ((V.str "TooLarge" : V) = V.str "TooLarge") = true := decide_eq_true rfl
      rw [e0, e1, e2]
      exact k _ (s2.new n2)
theorem Bad.is {ca cb cc : List (List Nat)} {cls : Addr} {wd : Str} (B : Bad t ca cb cc cls wd) : (cls = t.e_NoCloth ∧ wd = "NoCloth") ∨ (cls = t.e_NoBlock ∧ wd = "NoBlock") ∨ (cls = t.e_TooLarge ∧ wd = "TooLarge") := by
  cases B with
  | nc _ => exact .inl ⟨rfl, rfl⟩
  | nb _ _ _ _ => exact .inr (.inl ⟨rfl, rfl⟩)
  | tl _ _ _ _ => exact .inr (.inr ⟨rfl, rfl⟩)
theorem Bad.ne {ca cb cc : List (List Nat)} {cls : Addr} {wd : Str} (B : Bad t ca cb cc cls wd) : ¬ (V.str wd : V) = V.str "" := by
  rcases B.is with ⟨_, rfl⟩ | ⟨_, rfl⟩ | ⟨_, rfl⟩ <;> exact fun z => absurd (V.str.inj z) (by decide +kernel)
theorem sam_strs {K : PySem.W.Frag} {H : Hp} {n : Nat} {a b : Addr} {cl : List (List Nat)} (ha : H a = some (.lst (vS cl))) (hb : H b = some (.lst (vS cl))) : SamV K H (n + 1) (.ref a) (.ref b) :=
  .lst (SqL.of ha) (SqL.of hb) rfl fun i x y hx hy => by
    rw [hx] at hy
    cases hy
    obtain ⟨z, _, rfl⟩ := vS_got hx
    exact .flat rfl
theorem by_restS {G : Prop} {R : St → Hp → Prop} (C : St → Hp → Prop) (main : (∀ σ H, C σ H → R σ H) → G) (rest : ∀ σ H, C σ H → R σ H) : G := main rest
structure Thr (H : Hp) (lc a b c : Addr) (ca cb cc : List (List Nat)) : Prop where
  o : H lc = some (.lst [.ref a, .ref b, .ref c])
  a : H a = some (.lst (vS ca))
  b : H b = some (.lst (vS cb))
  c : H c = some (.lst (vS cc))
theorem strs_ne {H : Hp} {a l x y z : Addr} {cl : List (List Nat)} (h1 : H a = some (.lst (vS cl))) (h2 : H l = some (.lst [.ref x, .ref y, .ref z])) : a ≠ l := fun e => by
  subst e
  rw [h1] at h2
  injection h2 with h2
  injection h2 with h2
  cases cl with
  | nil => cases h2
  | cons u r => injection h2 with q _; cases q
theorem iteBv {b : Bool} {A B : Prop} (ht : b = true → A) (hf : b = false → B) : if b = true then A else B := by cases b with | true => exact iteT (ht rfl) | false => exact iteF (hf rfl)
theorem Bad.no {ca cb cc : List (List Nat)} {cls : Addr} {wd : Str} {m n w h : Nat} (B : Bad t ca cb cc cls wd) (C : Cl ca m n) (C1 : Cl cb w h) (C2 : Cl cc w h) (g1 : m * w ≤ 40) (g2 : n * h ≤ 40) : False := by
  cases B with
  | nc no => exact no.elim (fun z => z ⟨_, _, C⟩) fun z => z.elim (fun z => z ⟨_, _, C1⟩) (fun z => z ⟨_, _, C2⟩)
  | nb _ D1 D2 ne =>
    have x1 := cl_one C1 D1
    have x2 := cl_one C2 D2
    exact ne ⟨x1.1.symm.trans x2.1, x1.2.symm.trans x2.2⟩
  | tl D D1 D2 big =>
    have x0 := cl_one C D
    have x1 := cl_one C1 D1
    rw [← x0.1, ← x0.2, ← x1.1, ← x1.2] at big
    omega
def sp_law (K : PySem.W.Frag) : Sp := fun vs H Q _ => ∃ (a : Addr) (ns : List Int), vs = [.ref a] ∧ SqL K H a (vI ns) ∧ ns.length ≤ 63 ∧ ∀ H', Q (.bl true) H'
theorem sp_law_holds {K : PySem.W.Frag} {H : Hp} {a : Addr} {ns : List Int} (hl : ns.length ≤ 63) (hS : SqL K H a (ns.map V.int)) : sp_law K [.ref a] H (fun v _ => v = .bl true) fun _ _ _ => False := ⟨a, ns, rfl, hS, hl, fun _ => rfl⟩
theorem ok_law (T : Txt K mg t) : FnOk P w K mg base CX0 9 t.f_law t.d_law ["script"] (sp_law K) := by
  have G_law_numbers : FnOk P w K mg base CX0 1 t.f_law_numbers t.d_law_numbers _ _ := ok_law_numbers T
  have G_law_built : FnOk P w K mg base CX0 3 t.f_law_built t.d_law_built _ _ := ok_law_built T
  have G_law_changed : FnOk P w K mg base CX0 1 t.f_law_changed t.d_law_changed _ _ := ok_law_changed T
  have G_law_due : FnOk P w K mg base CX0 1 t.f_law_due t.d_law_due _ _ := ok_law_due T
  have G_law_caught : FnOk P w K mg base CX0 8 t.f_law_caught t.d_law_caught _ _ := ok_law_caught T
  have G_law_refused : FnOk P w K mg base CX0 2 t.f_law_refused t.d_law_refused _ _ := ok_law_refused T
  have G_law_texts_same : FnOk P w K mg base CX0 1 t.f_law_texts_same t.d_law_texts_same _ _ := ok_law_texts_same T
  have G_law_filling : FnOk P w K mg base CX0 1 t.f_law_filling t.d_law_filling _ _ := ok_law_filling T
  refine T.law.F.ok sc_law (fun vs H Q E h => ?_) (fun cdv A outer s H vs Q E hr h => ?_)
  · obtain ⟨a, ns, rfl, _⟩ := h
    rfl
  · obtain ⟨a, ns, rfl, hS, hl, k⟩ := h
    have hsz : sizeLine = 16777216 := sizeLine_eq
    refine ⟨_, (pss_cons (ps_set (i := 1) sc_law.nd rfl (Or.inl rfl) (pe_call (G_law_numbers.mono (by decide)) hr rfl T.law_numbers.m T.law_numbers.F.kp T.law_numbers.b .nil pass0 (pa_cons (pv 0) (pa_cons pe_int pa_nil))))
      (pss_cons (ps_set (i := 2) sc_law.nd rfl (Or.inl rfl) (pe_call (G_law_built.mono (by decide)) hr rfl T.law_built.m T.law_built.F.kp T.law_built.b .nil pass0 (pa_cons (pv 1) pa_nil)))
      (pss_cons (ps_set (i := 3) sc_law.nd rfl (Or.inl rfl) (pe_cmpR op_eq (pe_op op_mod (pe_ix (ix_listK (K := K)) (pv 1) pe_int (fun _ _ => rfl)) pe_int) pe_int (nomark _)))
      (pss_cons (ps_if (pt_truthK (K := K) (pv 3) (fun _ => rfl))
        (pss_cons (ps_set (i := 4) sc_law.nd rfl (Or.inl rfl) (pe_op op_mod (pe_op op_fdiv (pe_ix (ix_listK (K := K)) (pv 1) pe_int (fun _ _ => rfl)) pe_int) pe_int))
        (pss_one (ps_asg (pe_call (G_law_changed.mono (by decide)) hr rfl T.law_changed.m T.law_changed.F.kp T.law_changed.b .nil pass0 (pa_cons (pe_ix (ix_listK (K := K)) (pv 2) (pv 4) (fun _ _ => rfl)) (pa_cons (pe_op op_mod (pe_op op_mul (pe_op op_fdiv (pe_ix (ix_listK (K := K)) (pv 1) pe_int (fun _ _ => rfl)) pe_int) pe_int) (pe_op op_pow pe_int pe_int)) pa_nil))) (pg_sub (pv 2) (pv 4) set_list))))
        pss_nil)
      (pss_cons (ps_set (i := 5) sc_law.nd rfl (Or.inl rfl) (pe_call (G_law_due.mono (by decide)) hr rfl T.law_due.m T.law_due.F.kp T.law_due.b .nil pass0 (pa_cons (pv 2) (pa_cons (pv 3) pa_nil))))
      (pss_cons (ps_set (i := 6) sc_law.nd rfl (Or.inl rfl) (pe_lst (pa_cons (pe_callTy (call_list_ofK (K := K)) rfl T.b_list bt_list (pa_cons (pe_ix (ix_listK (K := K)) (pv 2) pe_int (fun _ _ => rfl)) pa_nil)) (pa_cons (pe_callTy (call_list_ofK (K := K)) rfl T.b_list bt_list (pa_cons (pe_ix (ix_listK (K := K)) (pv 2) pe_int (fun _ _ => rfl)) pa_nil)) (pa_cons (pe_callTy (call_list_ofK (K := K)) rfl T.b_list bt_list (pa_cons (pe_ix (ix_listK (K := K)) (pv 2) pe_int (fun _ _ => rfl)) pa_nil)) pa_nil)))))
      (pss_cons (ps_set (i := 7) sc_law.nd rfl (Or.inl rfl) (pe_lst (pa_cons (pe_call (G_law_caught.mono (by decide)) hr rfl T.law_caught.m T.law_caught.F.kp T.law_caught.b .nil pass0 (pa_cons pe_int (pa_cons (pv 6) pa_nil))) (pa_cons (pe_call (G_law_caught.mono (by decide)) hr rfl T.law_caught.m T.law_caught.F.kp T.law_caught.b .nil pass0 (pa_cons pe_int (pa_cons (pv 6) pa_nil))) pa_nil))))
      (pss_cons (ps_if (pt_cmpR (op_neS (K := K) (hr.units100)) (pv 6) (pv 2) (nomark _))
        (pss_one (ps_ret pe_bl))
        pss_nil)
      (pss_cons (ps_if (pt_cmpR op_ne (pv 5) pe_str (nomark _))
        (pss_one (ps_ret (pe_and (pe_call (G_law_refused.mono (by decide)) hr rfl T.law_refused.m T.law_refused.F.kp T.law_refused.b .nil pass0 (pa_cons (pe_ix (ix_tupK (K := K)) (pe_ix (ix_listK (K := K)) (pv 7) pe_int (fun _ _ => rfl)) pe_int (fun _ _ => rfl)) (pa_cons (pv 5) pa_nil))) (pe_one (pe_call (G_law_refused.mono (by decide)) hr rfl T.law_refused.m T.law_refused.F.kp T.law_refused.b .nil pass0 (pa_cons (pe_ix (ix_tupK (K := K)) (pe_ix (ix_listK (K := K)) (pv 7) pe_int (fun _ _ => rfl)) pe_int (fun _ _ => rfl)) (pa_cons (pv 5) pa_nil)))))))
        pss_nil)
      (pss_cons (ps_if (PW.pt (pw_or (pt_cmpR op_notN (pe_ix (ix_tupK (K := K)) (pe_ix (ix_listK (K := K)) (pv 7) pe_int (fun _ _ => rfl)) pe_int (fun _ _ => rfl)) pe_non (nomark _)) (pw_or1 (pt_cmpR op_notN (pe_ix (ix_tupK (K := K)) (pe_ix (ix_listK (K := K)) (pv 7) pe_int (fun _ _ => rfl)) pe_int (fun _ _ => rfl)) pe_non (nomark _)))))
        (pss_one (ps_ret pe_bl))
        pss_nil)
      (pss_one (ps_ret (pe_call (G_law_texts_same.mono (by decide)) hr rfl T.law_texts_same.m T.law_texts_same.F.kp T.law_texts_same.b .nil pass0 (pa_cons (pe_ix (ix_tupK (K := K)) (pe_ix (ix_listK (K := K)) (pv 7) pe_int (fun _ _ => rfl)) pe_int (fun _ _ => rfl)) (pa_cons (pe_call (G_law_filling.mono (by decide)) hr rfl T.law_filling.m T.law_filling.F.kp T.law_filling.b .nil pass0 (pa_cons (pv 2) pa_nil)) pa_nil))))))))))))))), ?_⟩
    refine ⟨_, rfl, a, ns, 250, rfl, hS, hl, by decide, by decide, fun ln ks H1 s1 nl hln hkl hkn => ?_⟩
    refine ⟨_, rfl, ln, ks, rfl, SqL.of hln, hkl, hkn, fun lc xa xb xc ca0 cb0 cc0 m n w h w' h' H2 s2 nlc hc2 ha2 hb2 hx2 C C1 C2 => ?_⟩
    have hln2 := s2 _ _ hln
    have nat : ∀ j : Nat, ∀ hj : j < ks.length, atI (vI ks) (j : Int) = some (.int ks[j]) := fun j hj => atI_of (by omega) (by rw [Int.toNat_natCast]; exact vI_get (List.getElem?_eq_getElem hj))
    have g5 := nat 5 (by omega)
    refine ⟨_, rfl, _, _, _, _, rfl, rfl, SqL.of hln2, g5, _, _, rfl, rfl, (by show (0 : Int) < 5; decide), rfl, ?_⟩
    obtain ⟨ch, ech⟩ : ∃ ch : Bool, ch = decide ((V.int (ks[5] % 5) : V) = V.int 1) := ⟨_, rfl⟩
    rw [← ech]
    clear ech
    have nla : xa ≠ lc := strs_ne ha2 hc2
    have nlb : xb ≠ lc := strs_ne hb2 hc2
    have nlx : xc ≠ lc := strs_ne hx2 hc2
    refine at_set (σ' := [some (.ref a), some (.ref ln), some (.ref lc), some (.bl ch), none, none, none, none]) rfl ?_
    obtain ⟨SL, eSL⟩ : ∃ SL : Option V → St, SL = fun v => [some (.ref a), some (.ref ln), some (.ref lc), some (.bl ch), v, none, none, none] := ⟨_, rfl⟩
    apply by_restS (fun σ H3 => ∃ (v4 : Option V) (a b c : Addr) (ca cb cc : List (List Nat)), σ = SL v4 ∧ Thr H3 lc a b c ca cb cc ∧ Shr ca ∧ Shr cb ∧ Shr cc ∧ (ch = true → NoCl ca ∨ NoCl cb ∨ NoCl cc) ∧ (ch = false → ∃ m n w h w' h', Cl ca m n ∧ Cl cb w h ∧ Cl cc w' h'))
    · intro rest
      refine ⟨_, rfl, ch, rfl, ?_⟩
      refine iteBv ?tt ?ff
      case ff =>
        intro hch
        obtain ⟨σx, eσ⟩ : ∃ σx : St, σx = [some (.ref a), some (.ref ln), some (.ref lc), some (.bl ch), none, none, none, none] := ⟨_, rfl⟩
        obtain ⟨Hx, ehx⟩ : ∃ Hx, Hx = H2 := ⟨_, rfl⟩
        have kk : ∃ (v4 : Option V) (a b c : Addr) (ca cb cc : List (List Nat)), σx = SL v4 ∧ Thr Hx lc a b c ca cb cc ∧ Shr ca ∧ Shr cb ∧ Shr cc ∧ (ch = true → NoCl ca ∨ NoCl cb ∨ NoCl cc) ∧ (ch = false → ∃ m n w h w' h', Cl ca m n ∧ Cl cb w h ∧ Cl cc w' h') := by
          rw [ehx]
          exact ⟨none, xa, xb, xc, ca0, cb0, cc0, by rw [eσ, eSL], ⟨hc2, ha2, hb2, hx2⟩, Shr.of C, Shr.of C1, Shr.of C2, fun z => absurd (hch.symm.trans z) Bool.false_ne_true, fun _ => ⟨_, _, _, _, _, _, C, C1, C2⟩⟩
        rw [← ehx, ← eσ]
        exact rest σx Hx kk
      case tt =>
        intro hch
        refine ⟨_, rfl, _, _, _, _, rfl, rfl, SqL.of hln2, g5, _, _, rfl, rfl, ⟨by decide, by decide⟩, _, _, rfl, rfl, (by show (0 : Int) < 3; decide), ?_⟩
        dsimp only
        obtain ⟨at', eat⟩ : ∃ z : Int, z = ks[5] / 5 % 3 := ⟨_, rfl⟩
        have a0 : 0 ≤ at' := by rw [eat]; exact Int.emod_nonneg _ (by decide)
        have a3 : at' < 3 := by rw [eat]; exact Int.emod_lt_of_pos _ (by decide)
        rw [← eat]
        clear eat
        refine at_set (σ' := [some (.ref a), some (.ref ln), some (.ref lc), some (.bl ch), some (.int at'), none, none, none]) rfl ?_
        have e3 : at' = 0 ∨ at' = 1 ∨ at' = 2 := by omega
        rcases e3 with e | e | e
        · subst e
          refine ⟨_, rfl, _, rfl, _, _, _, _, rfl, rfl, SqL.of hc2, (show atI [V.ref xa, V.ref xb, V.ref xc] 0 = some (.ref xa) from atI_of (by decide) rfl), _, rfl, _, _, _, _, rfl, rfl, SqL.of hln2, g5, _, _, rfl, rfl, ⟨by decide, by decide⟩, _, _, rfl, rfl, .inr ⟨by decide, by decide⟩, _, _, rfl, rfl, ⟨by decide, by decide, by decide⟩, _, _, rfl, rfl, (by show (0 : Int) < 10 ^ 60; decide), xa, _, ca0, _, _, rfl, ha2, C, fun ly cy H3 s3 hy3 sy ny => ?_⟩
          have hc3 := s3 _ _ hc2
          have nly : ly ≠ lc := strs_ne hy3 hc3
          refine ⟨_, rfl, _, rfl, _, _, _, _, rfl, rfl, hc3, ixN_of (by decide) (by show (_ : Int) < 3; decide), ?_⟩
          exact rest _ _ ⟨some (.int 0), ly, xb, xc, cy, cb0, cc0, by rw [eSL], ⟨by rw [upd_same]; rfl, (by rw [upd_ne nly]; exact hy3), (by rw [upd_ne nlb]; exact s3 _ _ hb2), (by rw [upd_ne nlx]; exact s3 _ _ hx2)⟩, sy, Shr.of C1, Shr.of C2, fun _ => .inl ny, fun z => absurd (hch.symm.trans z) (by decide)⟩
        · subst e
          refine ⟨_, rfl, _, rfl, _, _, _, _, rfl, rfl, SqL.of hc2, (show atI [V.ref xa, V.ref xb, V.ref xc] 1 = some (.ref xb) from atI_of (by decide) rfl), _, rfl, _, _, _, _, rfl, rfl, SqL.of hln2, g5, _, _, rfl, rfl, ⟨by decide, by decide⟩, _, _, rfl, rfl, .inr ⟨by decide, by decide⟩, _, _, rfl, rfl, ⟨by decide, by decide, by decide⟩, _, _, rfl, rfl, (by show (0 : Int) < 10 ^ 60; decide), xb, _, cb0, _, _, rfl, hb2, C1, fun ly cy H3 s3 hy3 sy ny => ?_⟩
          have hc3 := s3 _ _ hc2
          have nly : ly ≠ lc := strs_ne hy3 hc3
          refine ⟨_, rfl, _, rfl, _, _, _, _, rfl, rfl, hc3, ixN_of (by decide) (by show (_ : Int) < 3; decide), ?_⟩
          exact rest _ _ ⟨some (.int 1), xa, ly, xc, ca0, cy, cc0, by rw [eSL], ⟨by rw [upd_same]; rfl, (by rw [upd_ne nla]; exact s3 _ _ ha2), (by rw [upd_ne nly]; exact hy3), (by rw [upd_ne nlx]; exact s3 _ _ hx2)⟩, Shr.of C, sy, Shr.of C2, fun _ => .inr (.inl ny), fun z => absurd (hch.symm.trans z) (by decide)⟩
        · subst e
          refine ⟨_, rfl, _, rfl, _, _, _, _, rfl, rfl, SqL.of hc2, (show atI [V.ref xa, V.ref xb, V.ref xc] 2 = some (.ref xc) from atI_of (by decide) rfl), _, rfl, _, _, _, _, rfl, rfl, SqL.of hln2, g5, _, _, rfl, rfl, ⟨by decide, by decide⟩, _, _, rfl, rfl, .inr ⟨by decide, by decide⟩, _, _, rfl, rfl, ⟨by decide, by decide, by decide⟩, _, _, rfl, rfl, (by show (0 : Int) < 10 ^ 60; decide), xc, _, cc0, _, _, rfl, hx2, C2, fun ly cy H3 s3 hy3 sy ny => ?_⟩
          have hc3 := s3 _ _ hc2
          have nly : ly ≠ lc := strs_ne hy3 hc3
          refine ⟨_, rfl, _, rfl, _, _, _, _, rfl, rfl, hc3, ixN_of (by decide) (by show (_ : Int) < 3; decide), ?_⟩
          exact rest _ _ ⟨some (.int 2), xa, xb, ly, ca0, cb0, cy, by rw [eSL], ⟨by rw [upd_same]; rfl, (by rw [upd_ne nla]; exact s3 _ _ ha2), (by rw [upd_ne nlb]; exact s3 _ _ hb2), (by rw [upd_ne nly]; exact hy3)⟩, Shr.of C, Shr.of C1, sy, fun _ => .inr (.inr ny), fun z => absurd (hch.symm.trans z) (by decide)⟩
    rintro σ3 H3 ⟨v4, ya, yb, yc, ca, cb, cc, eσ3, ⟨o3, a3, b3, c3⟩, sa, sb, sc, kb, kg⟩
    rw [eσ3, eSL]
    clear eσ3 eSL SL
    have c0 : ∀ {x y z : Addr}, atI [V.ref x, V.ref y, V.ref z] 0 = some (.ref x) := fun {x y z} => atI_of (by decide) rfl
    have c1 : ∀ {x y z : Addr}, atI [V.ref x, V.ref y, V.ref z] 1 = some (.ref y) := fun {x y z} => atI_of (by decide) rfl
    have c2 : ∀ {x y z : Addr}, atI [V.ref x, V.ref y, V.ref z] 2 = some (.ref z) := fun {x y z} => atI_of (by decide) rfl
    refine ⟨_, rfl, _, rfl, lc, ya, yb, yc, ch, ca, cb, cc, rfl, SqL.of o3, SqL.of a3, SqL.of b3, SqL.of c3, kb, kg, fun wd R => ?_⟩
    refine at_set (σ' := [some (.ref a), some (.ref ln), some (.ref lc), some (.bl ch), v4, some (.str wd), none, none]) rfl ?_
    refine ⟨_, rfl, _, _, _, _, rfl, rfl, SqL.of o3, c0, _, _, rfl, .inl (SqL.of a3), fun j1 q1 => ?_⟩
    have r1 : Same H3 (upd H3 j1 (.lst (vS ca))) := .upd q1
    have i1 : (upd H3 j1 (.lst (vS ca))) j1 = some (.lst (vS ca)) := upd_same
    generalize upd H3 j1 (.lst (vS ca)) = H4 at r1 i1 ⊢
    refine ⟨_, rfl, _, _, _, _, rfl, rfl, SqL.of (r1 _ _ o3), c1, _, _, rfl, .inl (SqL.of (r1 _ _ b3)), fun j2 q2 => ?_⟩
    have r2 : Same H4 (upd H4 j2 (.lst (vS cb))) := .upd q2
    have i2 : (upd H4 j2 (.lst (vS cb))) j2 = some (.lst (vS cb)) := upd_same
    generalize upd H4 j2 (.lst (vS cb)) = H5 at r2 i2 ⊢
    have r12 := r1.trans r2
    refine ⟨_, rfl, _, _, _, _, rfl, rfl, SqL.of (r12 _ _ o3), c2, _, _, rfl, .inl (SqL.of (r12 _ _ c3)), fun j3 q3 => ?_⟩
    have r3 : Same H5 (upd H5 j3 (.lst (vS cc))) := .upd q3
    have i3 : (upd H5 j3 (.lst (vS cc))) j3 = some (.lst (vS cc)) := upd_same
    generalize upd H5 j3 (.lst (vS cc)) = H6 at r3 i3 ⊢
    have r123 := r12.trans r3
    refine ⟨(by show 3 ≤ sizeLine; decide), fun lh nlh => ?_⟩
    have r4 : Same H6 (upd H6 lh (.lst [.ref j1, .ref j2, .ref j3])) := .upd nlh
    have ih : (upd H6 lh (.lst [.ref j1, .ref j2, .ref j3])) lh = some (.lst [.ref j1, .ref j2, .ref j3]) := upd_same
    generalize upd H6 lh (.lst [.ref j1, .ref j2, .ref j3]) = H7 at r4 ih ⊢
    have v7 := r123.trans r4
    have i1 := r4 _ _ (r3 _ _ (r2 _ _ i1))
    have i2 := r4 _ _ (r3 _ _ i2)
    have i3 := r4 _ _ i3
    refine at_set (σ' := [some (.ref a), some (.ref ln), some (.ref lc), some (.bl ch), v4, some (.str wd), some (.ref lh), none]) rfl ?_
    have sam : ∀ H', Same H7 H' → SamS K H' lh lc := fun H' u => by
      refine ⟨_, _, SqL.of (u _ _ ih), SqL.of (u _ _ (v7 _ _ o3)), rfl, fun i x y h1 h2 => ?_⟩
      match i, h1, h2 with
      | 0, h1, h2 => cases h1; cases h2; exact sam_strs (u _ _ i1) (u _ _ (v7 _ _ a3))
      | 1, h1, h2 => cases h1; cases h2; exact sam_strs (u _ _ i2) (u _ _ (v7 _ _ b3))
      | 2, h1, h2 => cases h1; cases h2; exact sam_strs (u _ _ i3) (u _ _ (v7 _ _ c3))
      | i + 3, h1, h2 => simp at h1
    refine ⟨_, rfl, 0, lh, j1, j2, j3, ca, cb, cc, wd, rfl, SqL.of ih, SqL.of i1, SqL.of i2, SqL.of i3, sa, sb, sc, R, fun cls B p e H8 s8 hp he => ?_, fun m n w h D D1 D2 g1 g2 p v H8 s8 hp hv => ?_⟩
    · refine ⟨_, rfl, 1, lh, j1, j2, j3, ca, cb, cc, wd, rfl, SqL.of (s8 _ _ ih), SqL.of (s8 _ _ i1), SqL.of (s8 _ _ i2), SqL.of (s8 _ _ i3), sa, sb, sc, R, fun cls' B' p' e' H9 s9 hp' he' => ?_, fun m n w h D D1 D2 g1 g2 => (B.no D D1 D2 g1 g2).elim⟩
      refine ⟨(by show 2 ≤ sizeLine; decide), fun lt nlt => ?_⟩
      have s10 := Same.upd nlt (o := .lst [.ref p, .ref p'])
      have ht : (upd H9 lt (.lst [.ref p, .ref p'])) lt = some (.lst [.ref p, .ref p']) := upd_same
      generalize upd H9 lt (.lst [.ref p, .ref p']) = H10 at s10 ht ⊢
      have u9 := s9.trans s10
      have u10 := s8.trans u9
      refine at_set (σ' := [some (.ref a), some (.ref ln), some (.ref lc), some (.bl ch), v4, some (.str wd), some (.ref lh), some (.ref lt)]) rfl ?_
      refine ⟨_, rfl, _, rfl, _, _, rfl, rfl, sam _ u10, _, rfl, ?_⟩
      refine iteF ?_
      refine ⟨_, rfl, rfl, _, rfl, ?_⟩
      refine iteNp B.ne ?_
      refine ⟨_, rfl, _, _, _, _, rfl, rfl, SqL.of ht, (show atI [V.ref p, V.ref p'] 0 = some (.ref p) from atI_of (by decide) rfl), _, _, _, _, rfl, rfl, SqT.of (u9 _ _ hp), (show atI [V.ref e, V.non] 0 = some (.ref e) from atI_of (by decide) rfl), _, rfl, e, cls, wd, rfl, u9 _ _ he, B.is, fun H11 s11 => ?_⟩
      refine ⟨_, rfl, ?_⟩
      refine iteT ?_
      refine ⟨_, rfl, _, _, _, _, rfl, rfl, SqL.of (s11 _ _ ht), (show atI [V.ref p, V.ref p'] 1 = some (.ref p') from atI_of (by decide) rfl), _, _, _, _, rfl, rfl, SqT.of (s11 _ _ (s10 _ _ hp')), (show atI [V.ref e', V.non] 0 = some (.ref e') from atI_of (by decide) rfl), _, rfl, e', cls', wd, rfl, s11 _ _ (s10 _ _ he'), B'.is, fun H12 s12 => k _⟩
    · have ew : wd = "" := by
        cases R with
        | bad B => exact (B.no D D1 D2 g1 g2).elim
        | good _ _ _ _ _ => rfl
      refine ⟨_, rfl, 1, lh, j1, j2, j3, ca, cb, cc, wd, rfl, SqL.of (s8 _ _ ih), SqL.of (s8 _ _ i1), SqL.of (s8 _ _ i2), SqL.of (s8 _ _ i3), sa, sb, sc, R, fun cls' B' => (B'.no D D1 D2 g1 g2).elim, fun m' n' w' h' _ _ _ _ _ p' v' H9 s9 hp' _ => ?_⟩
      obtain ⟨l, rfl, hl8⟩ := hv rfl
      refine ⟨(by show 2 ≤ sizeLine; decide), fun lt nlt => ?_⟩
      have s10 := Same.upd nlt (o := .lst [.ref p, .ref p'])
      have ht : (upd H9 lt (.lst [.ref p, .ref p'])) lt = some (.lst [.ref p, .ref p']) := upd_same
      generalize upd H9 lt (.lst [.ref p, .ref p']) = H10 at s10 ht ⊢
      have u9 := s9.trans s10
      have u10 := s8.trans u9
      have hp10 := u9 _ _ hp
      have hp10' := s10 _ _ hp'
      refine at_set (σ' := [some (.ref a), some (.ref ln), some (.ref lc), some (.bl ch), v4, some (.str wd), some (.ref lh), some (.ref lt)]) rfl ?_
      refine ⟨_, rfl, _, rfl, _, _, rfl, rfl, sam _ u10, _, rfl, ?_⟩
      refine iteF ?_
      refine ⟨_, rfl, rfl, _, rfl, ?_⟩
      refine iteNS (by rw [ew]) ?_
      have t0 : atI [V.ref p, V.ref p'] 0 = some (.ref p) := atI_of (by decide) rfl
      have t1 : atI [V.ref p, V.ref p'] 1 = some (.ref p') := atI_of (by decide) rfl
      refine ⟨_, rfl, _, _, _, _, rfl, rfl, SqL.of ht, t0, _, _, _, _, rfl, rfl, SqT.of hp10, (show atI [V.non, V.ref l] 0 = some .non from atI_of (by decide) rfl), rfl, _, rfl, ?_⟩
      refine iteNS rfl ?_
      refine ⟨_, rfl, _, _, _, _, rfl, rfl, SqL.of ht, t1, _, _, _, _, rfl, rfl, SqT.of hp10', (show atI [V.non, v'] 0 = some .non from atI_of (by decide) rfl), rfl, _, rfl, ?_⟩
      refine iteNS rfl ?_
      have w10 := v7.trans u10
      refine ⟨_, rfl, _, _, _, _, rfl, rfl, SqL.of ht, t0, _, _, _, _, rfl, rfl, SqT.of hp10, (show atI [V.non, V.ref l] 1 = some (.ref l) from atI_of (by decide) rfl), _, rfl, lc, ya, yb, yc, ca, cb, cc, m, n, w, h, rfl, SqL.of (w10 _ _ o3), SqL.of (w10 _ _ a3), SqL.of (w10 _ _ b3), SqL.of (w10 _ _ c3), D, D1, D2, g1, g2, fun lf H11 s11 hlf => ?_⟩
      exact ⟨l, lf, _, rfl, s11 _ _ (u9 _ _ hl8), SqL.of hlf, by rw [fil_len D D1 D2]; exact g2, k _⟩
end
theorem law_mk {P : Program} {w : World} {K : PySem.W.Frag} {h : Heap} {mg : Str → Option Value} {fa : Addr} {f_measured : Addr} {od_measured an_measured : Option Addr} {sl_measured : Array (Option Value)} {oc_measured kV_measured dc_measured pm_measured cd_measured ct_measured : Value}
    {f_measured_texts : Addr} {od_measured_texts an_measured_texts : Option Addr} {sl_measured_texts : Array (Option Value)} {oc_measured_texts kV_measured_texts dc_measured_texts pm_measured_texts cd_measured_texts ct_measured_texts : Value}
    {f_check_pick : Addr} {od_check_pick an_check_pick : Option Addr} {sl_check_pick : Array (Option Value)} {oc_check_pick kV_check_pick dc_check_pick pm_check_pick cd_check_pick ct_check_pick : Value}
    {f_end_signs : Addr} {od_end_signs an_end_signs : Option Addr} {sl_end_signs : Array (Option Value)} {oc_end_signs kV_end_signs dc_end_signs pm_end_signs cd_end_signs ct_end_signs : Value}
    {f_least_draft : Addr} {od_least_draft an_least_draft : Option Addr} {sl_least_draft : Array (Option Value)} {oc_least_draft kV_least_draft dc_least_draft pm_least_draft cd_least_draft ct_least_draft : Value}
    {f_check_setting : Addr} {od_check_setting an_check_setting : Option Addr} {sl_check_setting : Array (Option Value)} {oc_check_setting kV_check_setting dc_check_setting pm_check_setting cd_check_setting ct_check_setting : Value}
    {f_check_count : Addr} {od_check_count an_check_count : Option Addr} {sl_check_count : Array (Option Value)} {oc_check_count kV_check_count dc_check_count pm_check_count cd_check_count ct_check_count : Value}
    {f_check_shaft : Addr} {od_check_shaft an_check_shaft : Option Addr} {sl_check_shaft : Array (Option Value)} {oc_check_shaft kV_check_shaft dc_check_shaft pm_check_shaft cd_check_shaft ct_check_shaft : Value}
    {f_check_tie : Addr} {od_check_tie an_check_tie : Option Addr} {sl_check_tie : Array (Option Value)} {oc_check_tie kV_check_tie dc_check_tie pm_check_tie cd_check_tie ct_check_tie : Value}
    {f_check_treading : Addr} {od_check_treading an_check_treading : Option Addr} {sl_check_treading : Array (Option Value)} {oc_check_treading kV_check_treading dc_check_treading pm_check_treading cd_check_treading ct_check_treading : Value}
    {f_shafts_over : Addr} {od_shafts_over an_shafts_over : Option Addr} {sl_shafts_over : Array (Option Value)} {oc_shafts_over kV_shafts_over dc_shafts_over pm_shafts_over cd_shafts_over ct_shafts_over : Value}
    {f_unlike : Addr} {od_unlike an_unlike : Option Addr} {sl_unlike : Array (Option Value)} {oc_unlike kV_unlike dc_unlike pm_unlike cd_unlike ct_unlike : Value}
    {f_filled_blocks : Addr} {od_filled_blocks an_filled_blocks : Option Addr} {sl_filled_blocks : Array (Option Value)} {oc_filled_blocks kV_filled_blocks dc_filled_blocks pm_filled_blocks cd_filled_blocks ct_filled_blocks : Value}
    {f_block_draft : Addr} {od_block_draft an_block_draft : Option Addr} {sl_block_draft : Array (Option Value)} {oc_block_draft kV_block_draft dc_block_draft pm_block_draft cd_block_draft ct_block_draft : Value}
    {f_unit_size : Addr} {od_unit_size an_unit_size : Option Addr} {sl_unit_size : Array (Option Value)} {oc_unit_size kV_unit_size dc_unit_size pm_unit_size cd_unit_size ct_unit_size : Value}
    {f_blockwise : Addr} {od_blockwise an_blockwise : Option Addr} {sl_blockwise : Array (Option Value)} {oc_blockwise kV_blockwise dc_blockwise pm_blockwise cd_blockwise ct_blockwise : Value}
    {f_law_numbers : Addr} {od_law_numbers an_law_numbers : Option Addr} {sl_law_numbers : Array (Option Value)} {oc_law_numbers kV_law_numbers dc_law_numbers pm_law_numbers cd_law_numbers ct_law_numbers : Value}
    {f_law_subset : Addr} {od_law_subset an_law_subset : Option Addr} {sl_law_subset : Array (Option Value)} {oc_law_subset kV_law_subset dc_law_subset pm_law_subset cd_law_subset ct_law_subset : Value}
    {f_law_cloth_by : Addr} {od_law_cloth_by an_law_cloth_by : Option Addr} {sl_law_cloth_by : Array (Option Value)} {oc_law_cloth_by kV_law_cloth_by dc_law_cloth_by pm_law_cloth_by cd_law_cloth_by ct_law_cloth_by : Value}
    {f_law_side : Addr} {od_law_side an_law_side : Option Addr} {sl_law_side : Array (Option Value)} {oc_law_side kV_law_side dc_law_side pm_law_side cd_law_side ct_law_side : Value}
    {f_law_texts_same : Addr} {od_law_texts_same an_law_texts_same : Option Addr} {sl_law_texts_same : Array (Option Value)} {oc_law_texts_same kV_law_texts_same dc_law_texts_same pm_law_texts_same cd_law_texts_same ct_law_texts_same : Value}
    {f_law_changed : Addr} {od_law_changed an_law_changed : Option Addr} {sl_law_changed : Array (Option Value)} {oc_law_changed kV_law_changed dc_law_changed pm_law_changed cd_law_changed ct_law_changed : Value}
    {f_law_built : Addr} {od_law_built an_law_built : Option Addr} {sl_law_built : Array (Option Value)} {oc_law_built kV_law_built dc_law_built pm_law_built cd_law_built ct_law_built : Value}
    {f_law_due : Addr} {od_law_due an_law_due : Option Addr} {sl_law_due : Array (Option Value)} {oc_law_due kV_law_due dc_law_due pm_law_due cd_law_due ct_law_due : Value}
    {f_law_caught : Addr} {od_law_caught an_law_caught : Option Addr} {sl_law_caught : Array (Option Value)} {oc_law_caught kV_law_caught dc_law_caught pm_law_caught cd_law_caught ct_law_caught : Value}
    {f_law_refused : Addr} {od_law_refused an_law_refused : Option Addr} {sl_law_refused : Array (Option Value)} {oc_law_refused kV_law_refused dc_law_refused pm_law_refused cd_law_refused ct_law_refused : Value}
    {f_law_filling : Addr} {od_law_filling an_law_filling : Option Addr} {sl_law_filling : Array (Option Value)} {oc_law_filling kV_law_filling dc_law_filling pm_law_filling cd_law_filling ct_law_filling : Value}
    {f_law : Addr} {od_law an_law : Option Addr} {sl_law : Array (Option Value)} {oc_law kV_law dc_law pm_law cd_law ct_law : Value}
    {q_MOST_STRANDS : Tok}
    {q_MOST_SHAFTS : Tok}
    {e_WeaveError : Addr}
    {e_TooLarge : Addr}
    {e_NoCloth : Addr}
    {e_NoDraft : Addr}
    {e_NoBlock : Addr}
    {f_TooLarge_called : Addr} {od_TooLarge_called an_TooLarge_called : Option Addr} {sl_TooLarge_called : Array (Option Value)} {oc_TooLarge_called kV_TooLarge_called dc_TooLarge_called pm_TooLarge_called cd_TooLarge_called ct_TooLarge_called : Value}
    {f_NoCloth_called : Addr} {od_NoCloth_called an_NoCloth_called : Option Addr} {sl_NoCloth_called : Array (Option Value)} {oc_NoCloth_called kV_NoCloth_called dc_NoCloth_called pm_NoCloth_called cd_NoCloth_called ct_NoCloth_called : Value}
    {f_NoBlock_called : Addr} {od_NoBlock_called an_NoBlock_called : Option Addr} {sl_NoBlock_called : Array (Option Value)} {oc_NoBlock_called kV_NoBlock_called dc_NoBlock_called pm_NoBlock_called cd_NoBlock_called ct_NoBlock_called : Value}
    {e_Draft : Addr}
    {f_Draft___init__ : Addr} {od_Draft___init__ an_Draft___init__ : Option Addr} {sl_Draft___init__ : Array (Option Value)} {oc_Draft___init__ kV_Draft___init__ dc_Draft___init__ pm_Draft___init__ cd_Draft___init__ ct_Draft___init__ : Value}
    (X : K.In h) (G : h.Ns mainGlobals mg) (hfa : mg "law" = some (.ref fa))
    (a_measured : PySem.W.nsIn K mainGlobals "measured" = some (some (.ref f_measured)))
    (l_measured : K.lookup f_measured = some ⟨oc_measured, od_measured, .func (PySem.W.fnOf "measured" "measured" (defArgs s_measured) (defBody s_measured) (defScope s_measured) .none kV_measured dc_measured pm_measured an_measured cd_measured ct_measured), sl_measured⟩)
    (c_measured : PySem.W.codeIn K cd_measured "measured" = true)
    (k_measured : PySem.W.keepIn K (.ref f_measured) = true)
    (a_measured_texts : PySem.W.nsIn K mainGlobals "measured_texts" = some (some (.ref f_measured_texts)))
    (l_measured_texts : K.lookup f_measured_texts = some ⟨oc_measured_texts, od_measured_texts, .func (PySem.W.fnOf "measured_texts" "measured_texts" (defArgs s_measured_texts) (defBody s_measured_texts) (defScope s_measured_texts) .none kV_measured_texts dc_measured_texts pm_measured_texts an_measured_texts cd_measured_texts ct_measured_texts), sl_measured_texts⟩)
    (c_measured_texts : PySem.W.codeIn K cd_measured_texts "measured_texts" = true)
    (k_measured_texts : PySem.W.keepIn K (.ref f_measured_texts) = true)
    (a_check_pick : PySem.W.nsIn K mainGlobals "check_pick" = some (some (.ref f_check_pick)))
    (l_check_pick : K.lookup f_check_pick = some ⟨oc_check_pick, od_check_pick, .func (PySem.W.fnOf "check_pick" "check_pick" (defArgs s_check_pick) (defBody s_check_pick) (defScope s_check_pick) .none kV_check_pick dc_check_pick pm_check_pick an_check_pick cd_check_pick ct_check_pick), sl_check_pick⟩)
    (c_check_pick : PySem.W.codeIn K cd_check_pick "check_pick" = true)
    (k_check_pick : PySem.W.keepIn K (.ref f_check_pick) = true)
    (a_end_signs : PySem.W.nsIn K mainGlobals "end_signs" = some (some (.ref f_end_signs)))
    (l_end_signs : K.lookup f_end_signs = some ⟨oc_end_signs, od_end_signs, .func (PySem.W.fnOf "end_signs" "end_signs" (defArgs s_end_signs) (defBody s_end_signs) (defScope s_end_signs) .none kV_end_signs dc_end_signs pm_end_signs an_end_signs cd_end_signs ct_end_signs), sl_end_signs⟩)
    (c_end_signs : PySem.W.codeIn K cd_end_signs "end_signs" = true)
    (k_end_signs : PySem.W.keepIn K (.ref f_end_signs) = true)
    (a_least_draft : PySem.W.nsIn K mainGlobals "least_draft" = some (some (.ref f_least_draft)))
    (l_least_draft : K.lookup f_least_draft = some ⟨oc_least_draft, od_least_draft, .func (PySem.W.fnOf "least_draft" "least_draft" (defArgs s_least_draft) (defBody s_least_draft) (defScope s_least_draft) .none kV_least_draft dc_least_draft pm_least_draft an_least_draft cd_least_draft ct_least_draft), sl_least_draft⟩)
    (c_least_draft : PySem.W.codeIn K cd_least_draft "least_draft" = true)
    (k_least_draft : PySem.W.keepIn K (.ref f_least_draft) = true)
    (a_check_setting : PySem.W.nsIn K mainGlobals "check_setting" = some (some (.ref f_check_setting)))
    (l_check_setting : K.lookup f_check_setting = some ⟨oc_check_setting, od_check_setting, .func (PySem.W.fnOf "check_setting" "check_setting" (defArgs s_check_setting) (defBody s_check_setting) (defScope s_check_setting) .none kV_check_setting dc_check_setting pm_check_setting an_check_setting cd_check_setting ct_check_setting), sl_check_setting⟩)
    (c_check_setting : PySem.W.codeIn K cd_check_setting "check_setting" = true)
    (k_check_setting : PySem.W.keepIn K (.ref f_check_setting) = true)
    (a_check_count : PySem.W.nsIn K mainGlobals "check_count" = some (some (.ref f_check_count)))
    (l_check_count : K.lookup f_check_count = some ⟨oc_check_count, od_check_count, .func (PySem.W.fnOf "check_count" "check_count" (defArgs s_check_count) (defBody s_check_count) (defScope s_check_count) .none kV_check_count dc_check_count pm_check_count an_check_count cd_check_count ct_check_count), sl_check_count⟩)
    (c_check_count : PySem.W.codeIn K cd_check_count "check_count" = true)
    (k_check_count : PySem.W.keepIn K (.ref f_check_count) = true)
    (a_check_shaft : PySem.W.nsIn K mainGlobals "check_shaft" = some (some (.ref f_check_shaft)))
    (l_check_shaft : K.lookup f_check_shaft = some ⟨oc_check_shaft, od_check_shaft, .func (PySem.W.fnOf "check_shaft" "check_shaft" (defArgs s_check_shaft) (defBody s_check_shaft) (defScope s_check_shaft) .none kV_check_shaft dc_check_shaft pm_check_shaft an_check_shaft cd_check_shaft ct_check_shaft), sl_check_shaft⟩)
    (c_check_shaft : PySem.W.codeIn K cd_check_shaft "check_shaft" = true)
    (k_check_shaft : PySem.W.keepIn K (.ref f_check_shaft) = true)
    (a_check_tie : PySem.W.nsIn K mainGlobals "check_tie" = some (some (.ref f_check_tie)))
    (l_check_tie : K.lookup f_check_tie = some ⟨oc_check_tie, od_check_tie, .func (PySem.W.fnOf "check_tie" "check_tie" (defArgs s_check_tie) (defBody s_check_tie) (defScope s_check_tie) .none kV_check_tie dc_check_tie pm_check_tie an_check_tie cd_check_tie ct_check_tie), sl_check_tie⟩)
    (c_check_tie : PySem.W.codeIn K cd_check_tie "check_tie" = true)
    (k_check_tie : PySem.W.keepIn K (.ref f_check_tie) = true)
    (a_check_treading : PySem.W.nsIn K mainGlobals "check_treading" = some (some (.ref f_check_treading)))
    (l_check_treading : K.lookup f_check_treading = some ⟨oc_check_treading, od_check_treading, .func (PySem.W.fnOf "check_treading" "check_treading" (defArgs s_check_treading) (defBody s_check_treading) (defScope s_check_treading) .none kV_check_treading dc_check_treading pm_check_treading an_check_treading cd_check_treading ct_check_treading), sl_check_treading⟩)
    (c_check_treading : PySem.W.codeIn K cd_check_treading "check_treading" = true)
    (k_check_treading : PySem.W.keepIn K (.ref f_check_treading) = true)
    (a_shafts_over : PySem.W.nsIn K mainGlobals "shafts_over" = some (some (.ref f_shafts_over)))
    (l_shafts_over : K.lookup f_shafts_over = some ⟨oc_shafts_over, od_shafts_over, .func (PySem.W.fnOf "shafts_over" "shafts_over" (defArgs s_shafts_over) (defBody s_shafts_over) (defScope s_shafts_over) .none kV_shafts_over dc_shafts_over pm_shafts_over an_shafts_over cd_shafts_over ct_shafts_over), sl_shafts_over⟩)
    (c_shafts_over : PySem.W.codeIn K cd_shafts_over "shafts_over" = true)
    (k_shafts_over : PySem.W.keepIn K (.ref f_shafts_over) = true)
    (a_unlike : PySem.W.nsIn K mainGlobals "unlike" = some (some (.ref f_unlike)))
    (l_unlike : K.lookup f_unlike = some ⟨oc_unlike, od_unlike, .func (PySem.W.fnOf "unlike" "unlike" (defArgs s_unlike) (defBody s_unlike) (defScope s_unlike) .none kV_unlike dc_unlike pm_unlike an_unlike cd_unlike ct_unlike), sl_unlike⟩)
    (c_unlike : PySem.W.codeIn K cd_unlike "unlike" = true)
    (k_unlike : PySem.W.keepIn K (.ref f_unlike) = true)
    (a_filled_blocks : PySem.W.nsIn K mainGlobals "filled_blocks" = some (some (.ref f_filled_blocks)))
    (l_filled_blocks : K.lookup f_filled_blocks = some ⟨oc_filled_blocks, od_filled_blocks, .func (PySem.W.fnOf "filled_blocks" "filled_blocks" (defArgs s_filled_blocks) (defBody s_filled_blocks) (defScope s_filled_blocks) .none kV_filled_blocks dc_filled_blocks pm_filled_blocks an_filled_blocks cd_filled_blocks ct_filled_blocks), sl_filled_blocks⟩)
    (c_filled_blocks : PySem.W.codeIn K cd_filled_blocks "filled_blocks" = true)
    (k_filled_blocks : PySem.W.keepIn K (.ref f_filled_blocks) = true)
    (a_block_draft : PySem.W.nsIn K mainGlobals "block_draft" = some (some (.ref f_block_draft)))
    (l_block_draft : K.lookup f_block_draft = some ⟨oc_block_draft, od_block_draft, .func (PySem.W.fnOf "block_draft" "block_draft" (defArgs s_block_draft) (defBody s_block_draft) (defScope s_block_draft) .none kV_block_draft dc_block_draft pm_block_draft an_block_draft cd_block_draft ct_block_draft), sl_block_draft⟩)
    (c_block_draft : PySem.W.codeIn K cd_block_draft "block_draft" = true)
    (k_block_draft : PySem.W.keepIn K (.ref f_block_draft) = true)
    (a_unit_size : PySem.W.nsIn K mainGlobals "unit_size" = some (some (.ref f_unit_size)))
    (l_unit_size : K.lookup f_unit_size = some ⟨oc_unit_size, od_unit_size, .func (PySem.W.fnOf "unit_size" "unit_size" (defArgs s_unit_size) (defBody s_unit_size) (defScope s_unit_size) .none kV_unit_size dc_unit_size pm_unit_size an_unit_size cd_unit_size ct_unit_size), sl_unit_size⟩)
    (c_unit_size : PySem.W.codeIn K cd_unit_size "unit_size" = true)
    (k_unit_size : PySem.W.keepIn K (.ref f_unit_size) = true)
    (a_blockwise : PySem.W.nsIn K mainGlobals "blockwise" = some (some (.ref f_blockwise)))
    (l_blockwise : K.lookup f_blockwise = some ⟨oc_blockwise, od_blockwise, .func (PySem.W.fnOf "blockwise" "blockwise" (defArgs s_blockwise) (defBody s_blockwise) (defScope s_blockwise) .none kV_blockwise dc_blockwise pm_blockwise an_blockwise cd_blockwise ct_blockwise), sl_blockwise⟩)
    (c_blockwise : PySem.W.codeIn K cd_blockwise "blockwise" = true)
    (k_blockwise : PySem.W.keepIn K (.ref f_blockwise) = true)
    (a_law_numbers : PySem.W.nsIn K mainGlobals "_law_numbers" = some (some (.ref f_law_numbers)))
    (l_law_numbers : K.lookup f_law_numbers = some ⟨oc_law_numbers, od_law_numbers, .func (PySem.W.fnOf "_law_numbers" "_law_numbers" (defArgs s_law_numbers) (defBody s_law_numbers) (defScope s_law_numbers) .none kV_law_numbers dc_law_numbers pm_law_numbers an_law_numbers cd_law_numbers ct_law_numbers), sl_law_numbers⟩)
    (c_law_numbers : PySem.W.codeIn K cd_law_numbers "_law_numbers" = true)
    (k_law_numbers : PySem.W.keepIn K (.ref f_law_numbers) = true)
    (a_law_subset : PySem.W.nsIn K mainGlobals "_law_subset" = some (some (.ref f_law_subset)))
    (l_law_subset : K.lookup f_law_subset = some ⟨oc_law_subset, od_law_subset, .func (PySem.W.fnOf "_law_subset" "_law_subset" (defArgs s_law_subset) (defBody s_law_subset) (defScope s_law_subset) .none kV_law_subset dc_law_subset pm_law_subset an_law_subset cd_law_subset ct_law_subset), sl_law_subset⟩)
    (c_law_subset : PySem.W.codeIn K cd_law_subset "_law_subset" = true)
    (k_law_subset : PySem.W.keepIn K (.ref f_law_subset) = true)
    (a_law_cloth_by : PySem.W.nsIn K mainGlobals "_law_cloth_by" = some (some (.ref f_law_cloth_by)))
    (l_law_cloth_by : K.lookup f_law_cloth_by = some ⟨oc_law_cloth_by, od_law_cloth_by, .func (PySem.W.fnOf "_law_cloth_by" "_law_cloth_by" (defArgs s_law_cloth_by) (defBody s_law_cloth_by) (defScope s_law_cloth_by) .none kV_law_cloth_by dc_law_cloth_by pm_law_cloth_by an_law_cloth_by cd_law_cloth_by ct_law_cloth_by), sl_law_cloth_by⟩)
    (c_law_cloth_by : PySem.W.codeIn K cd_law_cloth_by "_law_cloth_by" = true)
    (k_law_cloth_by : PySem.W.keepIn K (.ref f_law_cloth_by) = true)
    (a_law_side : PySem.W.nsIn K mainGlobals "_law_side" = some (some (.ref f_law_side)))
    (l_law_side : K.lookup f_law_side = some ⟨oc_law_side, od_law_side, .func (PySem.W.fnOf "_law_side" "_law_side" (defArgs s_law_side) (defBody s_law_side) (defScope s_law_side) .none kV_law_side dc_law_side pm_law_side an_law_side cd_law_side ct_law_side), sl_law_side⟩)
    (c_law_side : PySem.W.codeIn K cd_law_side "_law_side" = true)
    (k_law_side : PySem.W.keepIn K (.ref f_law_side) = true)
    (a_law_texts_same : PySem.W.nsIn K mainGlobals "_law_texts_same" = some (some (.ref f_law_texts_same)))
    (l_law_texts_same : K.lookup f_law_texts_same = some ⟨oc_law_texts_same, od_law_texts_same, .func (PySem.W.fnOf "_law_texts_same" "_law_texts_same" (defArgs s_law_texts_same) (defBody s_law_texts_same) (defScope s_law_texts_same) .none kV_law_texts_same dc_law_texts_same pm_law_texts_same an_law_texts_same cd_law_texts_same ct_law_texts_same), sl_law_texts_same⟩)
    (c_law_texts_same : PySem.W.codeIn K cd_law_texts_same "_law_texts_same" = true)
    (k_law_texts_same : PySem.W.keepIn K (.ref f_law_texts_same) = true)
    (a_law_changed : PySem.W.nsIn K mainGlobals "_law_changed" = some (some (.ref f_law_changed)))
    (l_law_changed : K.lookup f_law_changed = some ⟨oc_law_changed, od_law_changed, .func (PySem.W.fnOf "_law_changed" "_law_changed" (defArgs s_law_changed) (defBody s_law_changed) (defScope s_law_changed) .none kV_law_changed dc_law_changed pm_law_changed an_law_changed cd_law_changed ct_law_changed), sl_law_changed⟩)
    (c_law_changed : PySem.W.codeIn K cd_law_changed "_law_changed" = true)
    (k_law_changed : PySem.W.keepIn K (.ref f_law_changed) = true)
    (a_law_built : PySem.W.nsIn K mainGlobals "_law_built" = some (some (.ref f_law_built)))
    (l_law_built : K.lookup f_law_built = some ⟨oc_law_built, od_law_built, .func (PySem.W.fnOf "_law_built" "_law_built" (defArgs s_law_built) (defBody s_law_built) (defScope s_law_built) .none kV_law_built dc_law_built pm_law_built an_law_built cd_law_built ct_law_built), sl_law_built⟩)
    (c_law_built : PySem.W.codeIn K cd_law_built "_law_built" = true)
    (k_law_built : PySem.W.keepIn K (.ref f_law_built) = true)
    (a_law_due : PySem.W.nsIn K mainGlobals "_law_due" = some (some (.ref f_law_due)))
    (l_law_due : K.lookup f_law_due = some ⟨oc_law_due, od_law_due, .func (PySem.W.fnOf "_law_due" "_law_due" (defArgs s_law_due) (defBody s_law_due) (defScope s_law_due) .none kV_law_due dc_law_due pm_law_due an_law_due cd_law_due ct_law_due), sl_law_due⟩)
    (c_law_due : PySem.W.codeIn K cd_law_due "_law_due" = true)
    (k_law_due : PySem.W.keepIn K (.ref f_law_due) = true)
    (a_law_caught : PySem.W.nsIn K mainGlobals "_law_caught" = some (some (.ref f_law_caught)))
    (l_law_caught : K.lookup f_law_caught = some ⟨oc_law_caught, od_law_caught, .func (PySem.W.fnOf "_law_caught" "_law_caught" (defArgs s_law_caught) (defBody s_law_caught) (defScope s_law_caught) .none kV_law_caught dc_law_caught pm_law_caught an_law_caught cd_law_caught ct_law_caught), sl_law_caught⟩)
    (c_law_caught : PySem.W.codeIn K cd_law_caught "_law_caught" = true)
    (k_law_caught : PySem.W.keepIn K (.ref f_law_caught) = true)
    (a_law_refused : PySem.W.nsIn K mainGlobals "_law_refused" = some (some (.ref f_law_refused)))
    (l_law_refused : K.lookup f_law_refused = some ⟨oc_law_refused, od_law_refused, .func (PySem.W.fnOf "_law_refused" "_law_refused" (defArgs s_law_refused) (defBody s_law_refused) (defScope s_law_refused) .none kV_law_refused dc_law_refused pm_law_refused an_law_refused cd_law_refused ct_law_refused), sl_law_refused⟩)
    (c_law_refused : PySem.W.codeIn K cd_law_refused "_law_refused" = true)
    (k_law_refused : PySem.W.keepIn K (.ref f_law_refused) = true)
    (a_law_filling : PySem.W.nsIn K mainGlobals "_law_filling" = some (some (.ref f_law_filling)))
    (l_law_filling : K.lookup f_law_filling = some ⟨oc_law_filling, od_law_filling, .func (PySem.W.fnOf "_law_filling" "_law_filling" (defArgs s_law_filling) (defBody s_law_filling) (defScope s_law_filling) .none kV_law_filling dc_law_filling pm_law_filling an_law_filling cd_law_filling ct_law_filling), sl_law_filling⟩)
    (c_law_filling : PySem.W.codeIn K cd_law_filling "_law_filling" = true)
    (k_law_filling : PySem.W.keepIn K (.ref f_law_filling) = true)
    (a_law : PySem.W.nsIn K mainGlobals "law" = some (some (.ref f_law)))
    (l_law : K.lookup f_law = some ⟨oc_law, od_law, .func (PySem.W.fnOf "law" "law" (defArgs s_law) (defBody s_law) (defScope s_law) .none kV_law dc_law pm_law an_law cd_law ct_law), sl_law⟩)
    (c_law : PySem.W.codeIn K cd_law "law" = true)
    (k_law : PySem.W.keepIn K (.ref f_law) = true)
    (z_ValueError : PySem.W.nsIn K mainGlobals "ValueError" = some none)
    (z_isinstance : PySem.W.nsIn K mainGlobals "isinstance" = some none)
    (z_len : PySem.W.nsIn K mainGlobals "len" = some none)
    (z_list : PySem.W.nsIn K mainGlobals "list" = some none)
    (z_max : PySem.W.nsIn K mainGlobals "max" = some none)
    (z_min : PySem.W.nsIn K mainGlobals "min" = some none)
    (z_range : PySem.W.nsIn K mainGlobals "range" = some none)
    (z_set : PySem.W.nsIn K mainGlobals "set" = some none)
    (z_sorted : PySem.W.nsIn K mainGlobals "sorted" = some none)
    (z_str : PySem.W.nsIn K mainGlobals "str" = some none)
    (z_zip : PySem.W.nsIn K mainGlobals "zip" = some none)
    (x_MOST_STRANDS : PySem.W.nsIn K mainGlobals "MOST_STRANDS" = some (some (.int 40 q_MOST_STRANDS)))
    (x_MOST_SHAFTS : PySem.W.nsIn K mainGlobals "MOST_SHAFTS" = some (some (.int 40 q_MOST_SHAFTS)))
    (n_WeaveError : PySem.W.nsIn K mainGlobals "WeaveError" = some (some (.ref e_WeaveError)))
    (n_TooLarge : PySem.W.nsIn K mainGlobals "TooLarge" = some (some (.ref e_TooLarge)))
    (n_NoCloth : PySem.W.nsIn K mainGlobals "NoCloth" = some (some (.ref e_NoCloth)))
    (n_NoDraft : PySem.W.nsIn K mainGlobals "NoDraft" = some (some (.ref e_NoDraft)))
    (n_NoBlock : PySem.W.nsIn K mainGlobals "NoBlock" = some (some (.ref e_NoBlock)))
    (y1_WeaveError : PySem.W.excIn K e_WeaveError vE vN = true)
    (y2_WeaveError : PySem.W.findIn K (.ref e_WeaveError) "__getattribute__" = some (some (.builtin "BaseException.__getattribute__")))
    (y3_WeaveError : PySem.W.findIn K (.ref e_WeaveError) "__getattr__" = some none)
    (y4_WeaveError : PySem.W.findIn K (.ref e_WeaveError) "__class__" = some (some (.builtin "object.__class__")))
    (y5_WeaveError : PySem.W.specialIn K (.builtin "object.__class__") "__get__" = some (some (.builtin "getset_descriptor.__get__")))
    (y6_WeaveError : PySem.W.takesIn K (.builtin "object.__class__") = some true)
    (y7_WeaveError : PySem.W.mroIn K e_WeaveError (.type "object") = some true)
    (y8_WeaveError : PySem.W.mroIn K e_WeaveError (.type "BaseException") = some true)
    (y9_WeaveError : PySem.W.isClsIn K e_WeaveError = true)
    (y10_WeaveError : PySem.W.typeIn K (.ref e_WeaveError) = some (.type "type"))
    (y11_WeaveError : PySem.W.mroIn K e_WeaveError (.type "ValueError") = some true)
    (y1_TooLarge : PySem.W.excIn K e_TooLarge vE vN = true)
    (y2_TooLarge : PySem.W.findIn K (.ref e_TooLarge) "__getattribute__" = some (some (.builtin "BaseException.__getattribute__")))
    (y3_TooLarge : PySem.W.findIn K (.ref e_TooLarge) "__getattr__" = some none)
    (y4_TooLarge : PySem.W.findIn K (.ref e_TooLarge) "__class__" = some (some (.builtin "object.__class__")))
    (y7_TooLarge : PySem.W.mroIn K e_TooLarge (.type "object") = some true)
    (y8_TooLarge : PySem.W.mroIn K e_TooLarge (.type "BaseException") = some true)
    (y9_TooLarge : PySem.W.isClsIn K e_TooLarge = true)
    (y10_TooLarge : PySem.W.typeIn K (.ref e_TooLarge) = some (.type "type"))
    (y11_TooLarge : PySem.W.mroIn K e_TooLarge (.type "ValueError") = some true)
    (r_TooLarge_WeaveError : PySem.W.mroIn K e_TooLarge (.ref e_WeaveError) = some true)
    (r_TooLarge_TooLarge : PySem.W.mroIn K e_TooLarge (.ref e_TooLarge) = some true)
    (r_TooLarge_NoCloth : PySem.W.mroIn K e_TooLarge (.ref e_NoCloth) = some false)
    (r_TooLarge_NoDraft : PySem.W.mroIn K e_TooLarge (.ref e_NoDraft) = some false)
    (r_TooLarge_NoBlock : PySem.W.mroIn K e_TooLarge (.ref e_NoBlock) = some false)
    (y1_NoCloth : PySem.W.excIn K e_NoCloth vE vN = true)
    (y2_NoCloth : PySem.W.findIn K (.ref e_NoCloth) "__getattribute__" = some (some (.builtin "BaseException.__getattribute__")))
    (y3_NoCloth : PySem.W.findIn K (.ref e_NoCloth) "__getattr__" = some none)
    (y4_NoCloth : PySem.W.findIn K (.ref e_NoCloth) "__class__" = some (some (.builtin "object.__class__")))
    (y7_NoCloth : PySem.W.mroIn K e_NoCloth (.type "object") = some true)
    (y8_NoCloth : PySem.W.mroIn K e_NoCloth (.type "BaseException") = some true)
    (y9_NoCloth : PySem.W.isClsIn K e_NoCloth = true)
    (y10_NoCloth : PySem.W.typeIn K (.ref e_NoCloth) = some (.type "type"))
    (y11_NoCloth : PySem.W.mroIn K e_NoCloth (.type "ValueError") = some true)
    (r_NoCloth_WeaveError : PySem.W.mroIn K e_NoCloth (.ref e_WeaveError) = some true)
    (r_NoCloth_TooLarge : PySem.W.mroIn K e_NoCloth (.ref e_TooLarge) = some false)
    (r_NoCloth_NoCloth : PySem.W.mroIn K e_NoCloth (.ref e_NoCloth) = some true)
    (r_NoCloth_NoDraft : PySem.W.mroIn K e_NoCloth (.ref e_NoDraft) = some false)
    (r_NoCloth_NoBlock : PySem.W.mroIn K e_NoCloth (.ref e_NoBlock) = some false)
    (y1_NoDraft : PySem.W.excIn K e_NoDraft vE vN = true)
    (y2_NoDraft : PySem.W.findIn K (.ref e_NoDraft) "__getattribute__" = some (some (.builtin "BaseException.__getattribute__")))
    (y3_NoDraft : PySem.W.findIn K (.ref e_NoDraft) "__getattr__" = some none)
    (y4_NoDraft : PySem.W.findIn K (.ref e_NoDraft) "__class__" = some (some (.builtin "object.__class__")))
    (y7_NoDraft : PySem.W.mroIn K e_NoDraft (.type "object") = some true)
    (y8_NoDraft : PySem.W.mroIn K e_NoDraft (.type "BaseException") = some true)
    (y9_NoDraft : PySem.W.isClsIn K e_NoDraft = true)
    (y10_NoDraft : PySem.W.typeIn K (.ref e_NoDraft) = some (.type "type"))
    (y11_NoDraft : PySem.W.mroIn K e_NoDraft (.type "ValueError") = some true)
    (y1_NoBlock : PySem.W.excIn K e_NoBlock vE vN = true)
    (y2_NoBlock : PySem.W.findIn K (.ref e_NoBlock) "__getattribute__" = some (some (.builtin "BaseException.__getattribute__")))
    (y3_NoBlock : PySem.W.findIn K (.ref e_NoBlock) "__getattr__" = some none)
    (y4_NoBlock : PySem.W.findIn K (.ref e_NoBlock) "__class__" = some (some (.builtin "object.__class__")))
    (y7_NoBlock : PySem.W.mroIn K e_NoBlock (.type "object") = some true)
    (y8_NoBlock : PySem.W.mroIn K e_NoBlock (.type "BaseException") = some true)
    (y9_NoBlock : PySem.W.isClsIn K e_NoBlock = true)
    (y10_NoBlock : PySem.W.typeIn K (.ref e_NoBlock) = some (.type "type"))
    (y11_NoBlock : PySem.W.mroIn K e_NoBlock (.type "ValueError") = some true)
    (r_NoBlock_WeaveError : PySem.W.mroIn K e_NoBlock (.ref e_WeaveError) = some true)
    (r_NoBlock_TooLarge : PySem.W.mroIn K e_NoBlock (.ref e_TooLarge) = some false)
    (r_NoBlock_NoCloth : PySem.W.mroIn K e_NoBlock (.ref e_NoCloth) = some false)
    (r_NoBlock_NoDraft : PySem.W.mroIn K e_NoBlock (.ref e_NoDraft) = some false)
    (r_NoBlock_NoBlock : PySem.W.mroIn K e_NoBlock (.ref e_NoBlock) = some true)
    (fm_TooLarge : PySem.W.findIn K (.ref e_TooLarge) "called" = some (some (.ref f_TooLarge_called)))
    (gm_TooLarge : PySem.W.isFn K (.ref f_TooLarge_called) = true)
    (lm_TooLarge : K.lookup f_TooLarge_called = some ⟨oc_TooLarge_called, od_TooLarge_called, .func (PySem.W.fnOf "called" "TooLarge.called" (defArgs s_TooLarge_called) (defBody s_TooLarge_called) (defScope s_TooLarge_called) .none kV_TooLarge_called dc_TooLarge_called pm_TooLarge_called an_TooLarge_called cd_TooLarge_called ct_TooLarge_called), sl_TooLarge_called⟩)
    (cm_TooLarge : PySem.W.codeIn K cd_TooLarge_called "TooLarge.called" = true)
    (km_TooLarge : PySem.W.keepIn K (.ref f_TooLarge_called) = true)
    (fm_NoCloth : PySem.W.findIn K (.ref e_NoCloth) "called" = some (some (.ref f_NoCloth_called)))
    (gm_NoCloth : PySem.W.isFn K (.ref f_NoCloth_called) = true)
    (lm_NoCloth : K.lookup f_NoCloth_called = some ⟨oc_NoCloth_called, od_NoCloth_called, .func (PySem.W.fnOf "called" "NoCloth.called" (defArgs s_NoCloth_called) (defBody s_NoCloth_called) (defScope s_NoCloth_called) .none kV_NoCloth_called dc_NoCloth_called pm_NoCloth_called an_NoCloth_called cd_NoCloth_called ct_NoCloth_called), sl_NoCloth_called⟩)
    (cm_NoCloth : PySem.W.codeIn K cd_NoCloth_called "NoCloth.called" = true)
    (km_NoCloth : PySem.W.keepIn K (.ref f_NoCloth_called) = true)
    (fm_NoBlock : PySem.W.findIn K (.ref e_NoBlock) "called" = some (some (.ref f_NoBlock_called)))
    (gm_NoBlock : PySem.W.isFn K (.ref f_NoBlock_called) = true)
    (lm_NoBlock : K.lookup f_NoBlock_called = some ⟨oc_NoBlock_called, od_NoBlock_called, .func (PySem.W.fnOf "called" "NoBlock.called" (defArgs s_NoBlock_called) (defBody s_NoBlock_called) (defScope s_NoBlock_called) .none kV_NoBlock_called dc_NoBlock_called pm_NoBlock_called an_NoBlock_called cd_NoBlock_called ct_NoBlock_called), sl_NoBlock_called⟩)
    (cm_NoBlock : PySem.W.codeIn K cd_NoBlock_called "NoBlock.called" = true)
    (km_NoBlock : PySem.W.keepIn K (.ref f_NoBlock_called) = true)
    (n_Draft : PySem.W.nsIn K mainGlobals "Draft" = some (some (.ref e_Draft)))
    (fm_Draft___init__ : PySem.W.findIn K (.ref e_Draft) "__init__" = some (some (.ref f_Draft___init__)))
    (gm_Draft___init__ : PySem.W.isFn K (.ref f_Draft___init__) = true)
    (lm_Draft___init__ : K.lookup f_Draft___init__ = some ⟨oc_Draft___init__, od_Draft___init__, .func (PySem.W.fnOf "__init__" "Draft.__init__" (defArgs s_Draft___init__) (defBody s_Draft___init__) (defScope s_Draft___init__) .none kV_Draft___init__ dc_Draft___init__ pm_Draft___init__ an_Draft___init__ cd_Draft___init__ ct_Draft___init__), sl_Draft___init__⟩)
    (cm_Draft___init__ : PySem.W.codeIn K cd_Draft___init__ "Draft.__init__" = true)
    (km_Draft___init__ : PySem.W.keepIn K (.ref f_Draft___init__) = true)
    (o1_Draft : PySem.W.plainGet K e_Draft Str.empty = true)
    (o2_Draft : PySem.W.hasDictIn K e_Draft = true)
    (o3_Draft : PySem.W.plainOver K e_Draft = true)
    (o4_Draft : PySem.W.findIn K (.ref e_Draft) "__setattr__" = some (some (.builtin "object.__setattr__")))
    (o5_Draft : PySem.W.makesIn K e_Draft = true)
    (o8_Draft : PySem.W.keepIn K (.ref e_Draft) = true)
    (na_Draft_threading : PySem.W.findIn K (.ref e_Draft) "threading" = some none)
    (na_Draft_ties : PySem.W.findIn K (.ref e_Draft) "ties" = some none)
    (na_Draft_treading : PySem.W.findIn K (.ref e_Draft) "treading" = some none) :
    ∃ fd : FuncData, (∀ (s : Shared) (v : Value), BindsTo s fd ⟨[v], []⟩ [("script", v)]) ∧ ∀ base : Heap, K.In base → base.Ns mainGlobals mg → FnOk P w K mg base CX0 9 fa fd ["script"] (sp_law K) := by
  have e := hfa.symm.trans (PySem.W.mg_of X G a_law)
  cases e
  have T := txt_mk X G a_measured l_measured c_measured k_measured a_measured_texts l_measured_texts c_measured_texts k_measured_texts a_check_pick l_check_pick c_check_pick k_check_pick a_end_signs l_end_signs c_end_signs k_end_signs a_least_draft l_least_draft c_least_draft k_least_draft a_check_setting l_check_setting c_check_setting k_check_setting a_check_count l_check_count c_check_count k_check_count a_check_shaft l_check_shaft c_check_shaft k_check_shaft a_check_tie l_check_tie c_check_tie k_check_tie a_check_treading l_check_treading c_check_treading k_check_treading a_shafts_over l_shafts_over c_shafts_over k_shafts_over a_unlike l_unlike c_unlike k_unlike a_filled_blocks l_filled_blocks c_filled_blocks k_filled_blocks a_block_draft l_block_draft c_block_draft k_block_draft a_unit_size l_unit_size c_unit_size k_unit_size a_blockwise l_blockwise c_blockwise k_blockwise a_law_numbers l_law_numbers c_law_numbers k_law_numbers a_law_subset l_law_subset c_law_subset k_law_subset a_law_cloth_by l_law_cloth_by c_law_cloth_by k_law_cloth_by a_law_side l_law_side c_law_side k_law_side a_law_texts_same l_law_texts_same c_law_texts_same k_law_texts_same a_law_changed l_law_changed c_law_changed k_law_changed a_law_built l_law_built c_law_built k_law_built a_law_due l_law_due c_law_due k_law_due a_law_caught l_law_caught c_law_caught k_law_caught a_law_refused l_law_refused c_law_refused k_law_refused a_law_filling l_law_filling c_law_filling k_law_filling a_law l_law c_law k_law z_ValueError z_isinstance z_len z_list z_max z_min z_range z_set z_sorted z_str z_zip x_MOST_STRANDS x_MOST_SHAFTS n_WeaveError n_TooLarge n_NoCloth n_NoDraft n_NoBlock y1_WeaveError y2_WeaveError y3_WeaveError y4_WeaveError y5_WeaveError y6_WeaveError y7_WeaveError y8_WeaveError y9_WeaveError y10_WeaveError y11_WeaveError y1_TooLarge y2_TooLarge y3_TooLarge y4_TooLarge y7_TooLarge y8_TooLarge y9_TooLarge y10_TooLarge y11_TooLarge r_TooLarge_WeaveError r_TooLarge_TooLarge r_TooLarge_NoCloth r_TooLarge_NoDraft r_TooLarge_NoBlock y1_NoCloth y2_NoCloth y3_NoCloth y4_NoCloth y7_NoCloth y8_NoCloth y9_NoCloth y10_NoCloth y11_NoCloth r_NoCloth_WeaveError r_NoCloth_TooLarge r_NoCloth_NoCloth r_NoCloth_NoDraft r_NoCloth_NoBlock y1_NoDraft y2_NoDraft y3_NoDraft y4_NoDraft y7_NoDraft y8_NoDraft y9_NoDraft y10_NoDraft y11_NoDraft y1_NoBlock y2_NoBlock y3_NoBlock y4_NoBlock y7_NoBlock y8_NoBlock y9_NoBlock y10_NoBlock y11_NoBlock r_NoBlock_WeaveError r_NoBlock_TooLarge r_NoBlock_NoCloth r_NoBlock_NoDraft r_NoBlock_NoBlock fm_TooLarge gm_TooLarge lm_TooLarge cm_TooLarge km_TooLarge fm_NoCloth gm_NoCloth lm_NoCloth cm_NoCloth km_NoCloth fm_NoBlock gm_NoBlock lm_NoBlock cm_NoBlock km_NoBlock n_Draft fm_Draft___init__ gm_Draft___init__ lm_Draft___init__ cm_Draft___init__ km_Draft___init__ o1_Draft o2_Draft o3_Draft o4_Draft o5_Draft o8_Draft na_Draft_threading na_Draft_ties na_Draft_treading
  exact ⟨_, fun s v => .of_eq rfl, fun base _ _ => ok_law T⟩
end Mine
open PySem PySem.W PyProof.Rows
def PySem.W.Fast.tw17577029762793571897 := ()
def PySem.W.Fast.tw2201155105808759099 := ()
def PySem.W.Fast.tw9450514165745401380 := ()
def PySem.W.Fast.tw4846784060297604779 := ()
def PySem.W.Fast.tw7032383349656146173 := ()
def PySem.W.Fast.tw12977437446364507539 := ()
def PySem.W.Fast.tw16939415944385615705 := ()
def PySem.W.Fast.tw18097839130781858325 := ()
def PySem.W.Fast.tw10038228958283479211 := ()
def PySem.W.Fast.tw17340909383451669234 := ()
def PySem.W.Fast.tw7949194976449364473 := ()
def PySem.W.Fast.tw758554126549118162 := ()
def PySem.W.Fast.tw1694557117010309167 := ()
def PySem.W.Fast.tw16596690644741163720 := ()
def PySem.W.Fast.tw13503923574235664080 := ()
def PySem.W.Fast.tw13096279027131283890 := ()
def PySem.W.Fast.tw13226989345636964320 := ()
def PySem.W.Fast.tw12726263045802096350 := ()
def PySem.W.Fast.tw13304697917735244089 := ()
def PySem.W.Fast.tw12953722092139313024 := ()
def PySem.W.Fast.tw886678537279312222 := ()
def PySem.W.Fast.tw1106621259947634247 := ()
def PySem.W.Fast.tw14744910139714824651 := ()
def PySem.W.Fast.tw14116009043884106397 := ()
def PySem.W.Fast.tw13227477847953448381 := ()
def PySem.W.Fast.tw4575918660073353510 := ()
def PySem.W.Fast.tw13053918930378223700 := ()
def PySem.W.Fast.tw14032071172214635983 := ()
def PySem.W.Fast.tw11622466142808361631 := ()
def PySem.W.Fast.tw194486599496397317 := ()
def PySem.W.Fast.tw15903050202734765157 := ()
def PySem.W.Fast.tw17937471331708570866 := ()
def PySem.W.Fast.tw2631649740209329609 := ()
def PySem.W.Fast.tw12352096417157869893 := ()
def PySem.W.Fast.tw7465915907941936801 := ()
def PySem.W.Fast.tw7296722002302976260 := ()
def PySem.W.Fast.tw7525513595013096783 := ()
def PySem.W.Fast.tw18378581595511083236 := ()
def PySem.W.Fast.tw6950608489201223348 := ()
def PySem.W.Fast.tw11119099864606819416 := ()
def PySem.W.Fast.tw4469108999031618571 := ()
def PySem.W.Fast.tw8528367435184408276 := ()
def PySem.W.Fast.tw3561679639460116199 := ()
def PySem.W.Fast.tw9565231681598699583 := ()
def PySem.W.Fast.tw11388563269112886524 := ()
def PySem.W.Fast.tw5391458885153312081 := ()
def PySem.W.Fast.tw2202280731645053889 := ()
def PySem.W.Fast.tw2279013740866651853 := ()
def PySem.W.Fast.tw13656516098703373743 := ()
def PySem.W.Fast.tw6321098522477637136 := ()
def PySem.W.Fast.tw14251091915095598470 := ()
def PySem.W.Fast.tw12292632862164322607 := ()
def PySem.W.Fast.tw2416237162834624615 := ()
def PySem.W.Fast.tw11429190166869590712 := ()
def PySem.W.Fast.tw2660678197941604631 := ()
def PySem.W.Fast.tw262282833159555310 := ()
def PySem.W.Fast.tw1224781534941840075 := ()
def PySem.W.Fast.tw4079386018731567506 := ()
def PySem.W.Fast.tw714912423120266138 := ()
def PySem.W.Fast.tw8038621371623249284 := ()
def PySem.W.Fast.tw13425151025973281400 := ()
def PySem.W.Fast.tw15820028602640424695 := ()
def PySem.W.Fast.tw17043744585810908216 := ()
def PySem.W.Fast.tw5600041455673964244 := ()
def PySem.W.Fast.tw4532764493052088982 := ()
def PySem.W.Fast.tw10241195232763271622 := ()
def PySem.W.Fast.tw1385124858271179810 := ()
def PySem.W.Fast.tw4600739649386466119 := ()
def PySem.W.Fast.tw3952746113928752837 := ()
def PySem.W.Fast.tw13849001349704691895 := ()
def PySem.W.Fast.tw15543906358398909255 := ()
def PySem.W.Fast.tw6625382699026599590 := ()
def PySem.W.Fast.tw9023717264572366759 := ()
def PySem.W.Fast.tw7673110251649321208 := ()
def PySem.W.Fast.tw7918734826891634887 := ()
def PySem.W.Fast.tw6972452782028923779 := ()
def PySem.W.Fast.tw5438936141806088600 := ()
def PySem.W.Fast.tw837914379894219446 := ()
def PySem.W.Fast.tw7679907107944496559 := ()
def PySem.W.Fast.tw11057463997132431662 := ()
def PySem.W.Fast.tw637091250624331282 := ()
def PySem.W.Fast.tw7127938645495731594 := ()
def PySem.W.Fast.tw9487081550249426732 := ()
def PySem.W.Fast.tw9420908716040792095 := ()
def PySem.W.Fast.tw14985635071639236958 := ()
def PySem.W.Fast.tw3181881235868969684 := ()
def PySem.W.Fast.tw2062799857325603975 := ()
def PySem.W.Fast.tw6080663632562616905 := ()
def PySem.W.Fast.tw3604701576018415766 := ()
set_option maxRecDepth 100000 in
set_option maxHeartbeats 0 in
theorem PySem.Challenge.cw_heddle_k52_filled_holds : PySem.Challenge.rw_heddle_k52_filled.Holds := by
  w_on; o_law; k_head; (case hw => w_witness2)
  k_fill
  refine L2.walk_ofK (l := PySem.Challenge.rw_heddle_k52_filled) (n := 63) (k := 9) (x := "script") (CX := L2.CX0) (sp := Mine.sp_law) rfl (by decide) rfl ⟨rfl, by decide, by decide⟩ (fun w h Y => PySem.W.kIn_of Y) ?F ?S ?C
  case F =>
    intro w mg fa h KX G hmg
    refine' Mine.law_mk KX G hmg ?a_measured ?l_measured ?c_measured ?k_measured ?a_measured_texts ?l_measured_texts ?c_measured_texts ?k_measured_texts ?a_check_pick ?l_check_pick ?c_check_pick ?k_check_pick ?a_end_signs ?l_end_signs ?c_end_signs ?k_end_signs ?a_least_draft ?l_least_draft ?c_least_draft ?k_least_draft ?a_check_setting ?l_check_setting ?c_check_setting ?k_check_setting ?a_check_count ?l_check_count ?c_check_count ?k_check_count ?a_check_shaft ?l_check_shaft ?c_check_shaft ?k_check_shaft ?a_check_tie ?l_check_tie ?c_check_tie ?k_check_tie ?a_check_treading ?l_check_treading ?c_check_treading ?k_check_treading ?a_shafts_over ?l_shafts_over ?c_shafts_over ?k_shafts_over ?a_unlike ?l_unlike ?c_unlike ?k_unlike ?a_filled_blocks ?l_filled_blocks ?c_filled_blocks ?k_filled_blocks ?a_block_draft ?l_block_draft ?c_block_draft ?k_block_draft ?a_unit_size ?l_unit_size ?c_unit_size ?k_unit_size ?a_blockwise ?l_blockwise ?c_blockwise ?k_blockwise ?a_law_numbers ?l_law_numbers ?c_law_numbers ?k_law_numbers ?a_law_subset ?l_law_subset ?c_law_subset ?k_law_subset ?a_law_cloth_by ?l_law_cloth_by ?c_law_cloth_by ?k_law_cloth_by ?a_law_side ?l_law_side ?c_law_side ?k_law_side ?a_law_texts_same ?l_law_texts_same ?c_law_texts_same ?k_law_texts_same ?a_law_changed ?l_law_changed ?c_law_changed ?k_law_changed ?a_law_built ?l_law_built ?c_law_built ?k_law_built ?a_law_due ?l_law_due ?c_law_due ?k_law_due ?a_law_caught ?l_law_caught ?c_law_caught ?k_law_caught ?a_law_refused ?l_law_refused ?c_law_refused ?k_law_refused ?a_law_filling ?l_law_filling ?c_law_filling ?k_law_filling ?a_law ?l_law ?c_law ?k_law ?z_ValueError ?z_isinstance ?z_len ?z_list ?z_max ?z_min ?z_range ?z_set ?z_sorted ?z_str ?z_zip ?x_MOST_STRANDS ?x_MOST_SHAFTS ?n_WeaveError ?n_TooLarge ?n_NoCloth ?n_NoDraft ?n_NoBlock ?y1_WeaveError ?y2_WeaveError ?y3_WeaveError ?y4_WeaveError ?y5_WeaveError ?y6_WeaveError ?y7_WeaveError ?y8_WeaveError ?y9_WeaveError ?y10_WeaveError ?y11_WeaveError ?y1_TooLarge ?y2_TooLarge ?y3_TooLarge ?y4_TooLarge ?y7_TooLarge ?y8_TooLarge ?y9_TooLarge ?y10_TooLarge ?y11_TooLarge ?r_TooLarge_WeaveError ?r_TooLarge_TooLarge ?r_TooLarge_NoCloth ?r_TooLarge_NoDraft ?r_TooLarge_NoBlock ?y1_NoCloth ?y2_NoCloth ?y3_NoCloth ?y4_NoCloth ?y7_NoCloth ?y8_NoCloth ?y9_NoCloth ?y10_NoCloth ?y11_NoCloth ?r_NoCloth_WeaveError ?r_NoCloth_TooLarge ?r_NoCloth_NoCloth ?r_NoCloth_NoDraft ?r_NoCloth_NoBlock ?y1_NoDraft ?y2_NoDraft ?y3_NoDraft ?y4_NoDraft ?y7_NoDraft ?y8_NoDraft ?y9_NoDraft ?y10_NoDraft ?y11_NoDraft ?y1_NoBlock ?y2_NoBlock ?y3_NoBlock ?y4_NoBlock ?y7_NoBlock ?y8_NoBlock ?y9_NoBlock ?y10_NoBlock ?y11_NoBlock ?r_NoBlock_WeaveError ?r_NoBlock_TooLarge ?r_NoBlock_NoCloth ?r_NoBlock_NoDraft ?r_NoBlock_NoBlock ?fm_TooLarge ?gm_TooLarge ?lm_TooLarge ?cm_TooLarge ?km_TooLarge ?fm_NoCloth ?gm_NoCloth ?lm_NoCloth ?cm_NoCloth ?km_NoCloth ?fm_NoBlock ?gm_NoBlock ?lm_NoBlock ?cm_NoBlock ?km_NoBlock ?n_Draft ?fm_Draft___init__ ?gm_Draft___init__ ?lm_Draft___init__ ?cm_Draft___init__ ?km_Draft___init__ ?o1_Draft ?o2_Draft ?o3_Draft ?o4_Draft ?o5_Draft ?o8_Draft ?na_Draft_threading ?na_Draft_ties ?na_Draft_treading
    (case a_measured => k_is)
    (case l_measured => k_is)
    (case c_measured => k_is)
    (case k_measured => k_is)
    (case a_measured_texts => k_is)
    (case l_measured_texts => k_is)
    (case c_measured_texts => k_is)
    (case k_measured_texts => k_is)
    (case a_check_pick => k_is)
    (case l_check_pick => k_is)
    (case c_check_pick => k_is)
    (case k_check_pick => k_is)
    (case a_end_signs => k_is)
    (case l_end_signs => k_is)
    (case c_end_signs => k_is)
    (case k_end_signs => k_is)
    (case a_least_draft => k_is)
    (case l_least_draft => k_is)
    (case c_least_draft => k_is)
    (case k_least_draft => k_is)
    (case a_check_setting => k_is)
    (case l_check_setting => k_is)
    (case c_check_setting => k_is)
    (case k_check_setting => k_is)
    (case a_check_count => k_is)
    (case l_check_count => k_is)
    (case c_check_count => k_is)
    (case k_check_count => k_is)
    (case a_check_shaft => k_is)
    (case l_check_shaft => k_is)
    (case c_check_shaft => k_is)
    (case k_check_shaft => k_is)
    (case a_check_tie => k_is)
    (case l_check_tie => k_is)
    (case c_check_tie => k_is)
    (case k_check_tie => k_is)
    (case a_check_treading => k_is)
    (case l_check_treading => k_is)
    (case c_check_treading => k_is)
    (case k_check_treading => k_is)
    (case a_shafts_over => k_is)
    (case l_shafts_over => k_is)
    (case c_shafts_over => k_is)
    (case k_shafts_over => k_is)
    (case a_unlike => k_is)
    (case l_unlike => k_is)
    (case c_unlike => k_is)
    (case k_unlike => k_is)
    (case a_filled_blocks => k_is)
    (case l_filled_blocks => k_is)
    (case c_filled_blocks => k_is)
    (case k_filled_blocks => k_is)
    (case a_block_draft => k_is)
    (case l_block_draft => k_is)
    (case c_block_draft => k_is)
    (case k_block_draft => k_is)
    (case a_unit_size => k_is)
    (case l_unit_size => k_is)
    (case c_unit_size => k_is)
    (case k_unit_size => k_is)
    (case a_blockwise => k_is)
    (case l_blockwise => k_is)
    (case c_blockwise => k_is)
    (case k_blockwise => k_is)
    (case a_law_numbers => k_is)
    (case l_law_numbers => k_is)
    (case c_law_numbers => k_is)
    (case k_law_numbers => k_is)
    (case a_law_subset => k_is)
    (case l_law_subset => k_is)
    (case c_law_subset => k_is)
    (case k_law_subset => k_is)
    (case a_law_cloth_by => k_is)
    (case l_law_cloth_by => k_is)
    (case c_law_cloth_by => k_is)
    (case k_law_cloth_by => k_is)
    (case a_law_side => k_is)
    (case l_law_side => k_is)
    (case c_law_side => k_is)
    (case k_law_side => k_is)
    (case a_law_texts_same => k_is)
    (case l_law_texts_same => k_is)
    (case c_law_texts_same => k_is)
    (case k_law_texts_same => k_is)
    (case a_law_changed => k_is)
    (case l_law_changed => k_is)
    (case c_law_changed => k_is)
    (case k_law_changed => k_is)
    (case a_law_built => k_is)
    (case l_law_built => k_is)
    (case c_law_built => k_is)
    (case k_law_built => k_is)
    (case a_law_due => k_is)
    (case l_law_due => k_is)
    (case c_law_due => k_is)
    (case k_law_due => k_is)
    (case a_law_caught => k_is)
    (case l_law_caught => k_is)
    (case c_law_caught => k_is)
    (case k_law_caught => k_is)
    (case a_law_refused => k_is)
    (case l_law_refused => k_is)
    (case c_law_refused => k_is)
    (case k_law_refused => k_is)
    (case a_law_filling => k_is)
    (case l_law_filling => k_is)
    (case c_law_filling => k_is)
    (case k_law_filling => k_is)
    (case a_law => k_is)
    (case l_law => k_is)
    (case c_law => k_is)
    (case k_law => k_is)
    (case z_ValueError => k_is)
    (case z_isinstance => k_is)
    (case z_len => k_is)
    (case z_list => k_is)
    (case z_max => k_is)
    (case z_min => k_is)
    (case z_range => k_is)
    (case z_set => k_is)
    (case z_sorted => k_is)
    (case z_str => k_is)
    (case z_zip => k_is)
    (case x_MOST_STRANDS => k_is)
    (case x_MOST_SHAFTS => k_is)
    (case n_WeaveError => k_is)
    (case n_TooLarge => k_is)
    (case n_NoCloth => k_is)
    (case n_NoDraft => k_is)
    (case n_NoBlock => k_is)
    (case y1_WeaveError => k_exc)
    (case y2_WeaveError => k_is)
    (case y3_WeaveError => k_is)
    (case y4_WeaveError => k_is)
    (case y5_WeaveError => k_is)
    (case y6_WeaveError => k_is)
    (case y7_WeaveError => k_is)
    (case y8_WeaveError => k_is)
    (case y9_WeaveError => k_is)
    (case y10_WeaveError => k_is)
    (case y11_WeaveError => k_is)
    (case y1_TooLarge => k_exc)
    (case y2_TooLarge => k_is)
    (case y3_TooLarge => k_is)
    (case y4_TooLarge => k_is)
    (case y7_TooLarge => k_is)
    (case y8_TooLarge => k_is)
    (case y9_TooLarge => k_is)
    (case y10_TooLarge => k_is)
    (case y11_TooLarge => k_is)
    (case r_TooLarge_WeaveError => k_is)
    (case r_TooLarge_TooLarge => k_is)
    (case r_TooLarge_NoCloth => k_is)
    (case r_TooLarge_NoDraft => k_is)
    (case r_TooLarge_NoBlock => k_is)
    (case y1_NoCloth => k_exc)
    (case y2_NoCloth => k_is)
    (case y3_NoCloth => k_is)
    (case y4_NoCloth => k_is)
    (case y7_NoCloth => k_is)
    (case y8_NoCloth => k_is)
    (case y9_NoCloth => k_is)
    (case y10_NoCloth => k_is)
    (case y11_NoCloth => k_is)
    (case r_NoCloth_WeaveError => k_is)
    (case r_NoCloth_TooLarge => k_is)
    (case r_NoCloth_NoCloth => k_is)
    (case r_NoCloth_NoDraft => k_is)
    (case r_NoCloth_NoBlock => k_is)
    (case y1_NoDraft => k_exc)
    (case y2_NoDraft => k_is)
    (case y3_NoDraft => k_is)
    (case y4_NoDraft => k_is)
    (case y7_NoDraft => k_is)
    (case y8_NoDraft => k_is)
    (case y9_NoDraft => k_is)
    (case y10_NoDraft => k_is)
    (case y11_NoDraft => k_is)
    (case y1_NoBlock => k_exc)
    (case y2_NoBlock => k_is)
    (case y3_NoBlock => k_is)
    (case y4_NoBlock => k_is)
    (case y7_NoBlock => k_is)
    (case y8_NoBlock => k_is)
    (case y9_NoBlock => k_is)
    (case y10_NoBlock => k_is)
    (case y11_NoBlock => k_is)
    (case r_NoBlock_WeaveError => k_is)
    (case r_NoBlock_TooLarge => k_is)
    (case r_NoBlock_NoCloth => k_is)
    (case r_NoBlock_NoDraft => k_is)
    (case r_NoBlock_NoBlock => k_is)
    (case fm_TooLarge => k_is)
    (case gm_TooLarge => k_is)
    (case lm_TooLarge => k_is)
    (case cm_TooLarge => k_is)
    (case km_TooLarge => k_is)
    (case fm_NoCloth => k_is)
    (case gm_NoCloth => k_is)
    (case lm_NoCloth => k_is)
    (case cm_NoCloth => k_is)
    (case km_NoCloth => k_is)
    (case fm_NoBlock => k_is)
    (case gm_NoBlock => k_is)
    (case lm_NoBlock => k_is)
    (case cm_NoBlock => k_is)
    (case km_NoBlock => k_is)
    (case n_Draft => k_is)
    (case fm_Draft___init__ => k_is)
    (case gm_Draft___init__ => k_is)
    (case lm_Draft___init__ => k_is)
    (case cm_Draft___init__ => k_is)
    (case km_Draft___init__ => k_is)
    (case o1_Draft => k_is)
    (case o2_Draft => k_is)
    (case o3_Draft => k_is)
    (case o4_Draft => k_is)
    (case o5_Draft => k_is)
    (case o8_Draft => k_is)
    (case na_Draft_threading => k_is)
    (case na_Draft_ties => k_is)
    (case na_Draft_treading => k_is)
  case S => exact fun K H a ns hl hO hS => Mine.sp_law_holds hl hS
  case C => exact fun _ _ _ _ z => z
