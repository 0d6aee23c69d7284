import PyProof.Rows.All
import Wide.All
import OpenK.AllK
import Wide.FinOn
import Lean
import PyProof.EqAt
import PyProof.EqKinds
import PyProof.TupleCall
import PyProof.StrBlockL
import PyProof.EnumMake
import PyProof.CollectIter
import PyProof.JoinWalk
import PyProof.StrOps
import PyProof.StrLawsIdx
import PyProof.StrLawsIn
import PyProof.ListRange
import PyProof.Rows.Range3
import PyProof.Rows.SumAny
import KE.KIntText
import KE.LcSums
import PyProof.LongRange
import PyProof.StrOps2
import PyProof.FitsBits
import PyProof.NeKinds
import PyProof.Rows.ZipGen
import PyProof.Draws
import PyProof.Rows.SeqMore
import PySem.Challenge.RW_heddle_k34_no_laying
set_option Elab.async false
set_option linter.all false
set_option maxRecDepth 100000
/-! THE HAND LAYER, for ints, bools, texts, own classes, LISTS and tuples (index, slices, in, append, pop ..), calls, loops. Paste it whole ahead of your own text; what your proof does not reach may be deleted. -/
namespace L2
open PySem PySem.Spec PyProof.Rows

/-- a key: an int or a str -/
abbrev Key := Sum Int Str
def keyIs : Key → Value → Bool
  | .inl k, v => Value.isInt k v
  | .inr x, v => Value.isStrOf x v
def keyH (w : World) : Key → Int
  | .inl k => hashInt k
  | .inr x => hashStr w x
theorem keyIs_shape : ∀ {k : Key} {v : Value}, keyIs k v = true → (∃ i t, k = Sum.inl i ∧ v = Value.int i t) ∨ (∃ x t, k = Sum.inr x ∧ v = Value.str x t)
  | .inl i, v, h => by
    obtain ⟨t, e⟩ := Value.isInt_shape (k := i) (v := v) h
    exact .inl ⟨i, t, rfl, e⟩
  | .inr x, v, h => by
    obtain ⟨t, e⟩ := Value.isStrOf_shape (x := x) (v := v) h
    exact .inr ⟨x, t, rfl, e⟩
theorem key_ll (a b : Int) : decide ((Sum.inl a : Key) = Sum.inl b) = (a == b) := by
  by_cases e : a = b
  · subst e; simp
  · have h : ¬ (Sum.inl a : Key) = Sum.inl b := fun q => e (Sum.inl.inj q)
    rw [decide_eq_false h]
    exact (beq_eq_false_iff_ne.mpr e).symm
theorem key_rr (a b : Str) : decide ((Sum.inr a : Key) = Sum.inr b) = decide (a = b) := by
  by_cases e : a = b
  · subst e; simp
  · have h : ¬ (Sum.inr a : Key) = Sum.inr b := fun q => e (Sum.inr.inj q)
    rw [decide_eq_false h, decide_eq_false e]
theorem key_lr (a : Int) (b : Str) : decide ((Sum.inl a : Key) = Sum.inr b) = false := decide_eq_false (fun q => nomatch q)
theorem key_rl (a : Str) (b : Int) : decide ((Sum.inr a : Key) = Sum.inl b) = false := decide_eq_false (fun q => nomatch q)

def mixKind (prog : Program) (w : World) : PySem.KeyKind prog w Key where
  is := keyIs
  hash := keyH w
  inj := fun v a b ha hb => by
    rcases keyIs_shape ha with ⟨i, t, rfl, rfl⟩ | ⟨x, t, rfl, rfl⟩
    · rcases keyIs_shape hb with ⟨j, u, rfl, e⟩ | ⟨y, u, rfl, e⟩
      · injection e with e1 _; rw [e1]
      · exact nomatch e
    · rcases keyIs_shape hb with ⟨j, u, rfl, e⟩ | ⟨y, u, rfl, e⟩
      · exact nomatch e
      · injection e with e1 _; rw [e1]
  byValue := fun k v h => by
    rcases keyIs_shape h with ⟨i, t, rfl, rfl⟩ | ⟨x, t, rfl, rfl⟩ <;> rfl
  pyHash := fun hv h => by
    rcases keyIs_shape hv with ⟨i, t, rfl, rfl⟩ | ⟨x, t, rfl, rfl⟩
    · exact wpAny_pyHash_int h
    · exact wpAny_pyHash_str h
  eqBool := fun hu hv h => by
    rcases keyIs_shape hu with ⟨i, t, rfl, rfl⟩ | ⟨x, t, rfl, rfl⟩
    · rcases keyIs_shape hv with ⟨j, u, rfl, rfl⟩ | ⟨y, u, rfl, rfl⟩
      · rw [key_ll] at h; exact wpAny_eqBool_int h
      · rw [key_lr] at h; exact SeqAt.EqAt.int_str i t y u _ _ _ _ h
    · rcases keyIs_shape hv with ⟨j, u, rfl, rfl⟩ | ⟨y, u, rfl, rfl⟩
      · rw [key_rl] at h; exact SeqAt.EqAt.str_int x t j u _ _ _ _ h
      · rw [key_rr] at h; exact wpAny_eqBool_str h
  «strs» := fun k x t v h => by
    rcases keyIs_shape h with ⟨i, u, rfl, e⟩ | ⟨y, u, rfl, e⟩
    · exact nomatch e
    · injection e with e1 _
      subst e1
      cases v <;> rfl

end L2

namespace L2
open PySem PySem.Spec PyProof.Rows

/-- a value, without the heap -/
inductive V where
  | non | bl (b : Bool) | int (i : Int) | str (x : Str) | byt (b : Array UInt8) | flt (b : UInt64) | ref (a : Addr) | ty (n : String)
  deriving DecidableEq

def RelV : V → Value → Prop
  | .non, u => u = Value.none
  | .bl b, u => u = Value.bool b
  | .int i, u => ∃ t, u = Value.int i t
  | .str x, u => ∃ t, u = Value.str x t
  | .byt b, u => ∃ t, u = Value.bytes b t
  | .flt b, u => ∃ t, u = Value.float b t
  | .ref a, u => u = Value.ref a
  | .ty n, u => u = Value.type n

abbrev Vals : List V → List Value → Prop := Paired RelV
theorem Vals.length {xs : List V} {us : List Value} (r : Vals xs us) : xs.length = us.length := Paired.length r
theorem Vals.get : ∀ {xs : List V} {us : List Value} {i : Nat} {x : V}, Vals xs us → xs[i]? = some x → ∃ u, us[i]? = some u ∧ RelV x u
  | _, _, _, _, .nil, e => by simp at e
  | _, _, 0, _, .cons r _, e => by simp at e; subst e; exact ⟨_, rfl, r⟩
  | _, _, i + 1, x, .cons _ t, e => by
    obtain ⟨u, h1, h2⟩ := Vals.get (i := i) (x := x) t (by simpa using e)
    exact ⟨u, by simpa using h1, h2⟩
theorem Vals.set {x : V} {u : Value} (r : RelV x u) : ∀ {xs : List V} {us : List Value} (i : Nat), Vals xs us → Vals (xs.set i x) (us.set i u)
  | _, _, _, .nil => .nil
  | _, _, 0, .cons _ t => .cons r t
  | _, _, i + 1, .cons q t => .cons q (Vals.set r i t)
theorem Vals.append : ∀ {xs ys : List V} {us ws : List Value}, Vals xs us → Vals ys ws → Vals (xs ++ ys) (us ++ ws)
  | _, _, _, _, .nil, s => s
  | _, _, _, _, .cons r t, s => .cons r (Vals.append t s)
theorem Vals.take : ∀ {xs : List V} {us : List Value} (n : Nat), Vals xs us → Vals (xs.take n) (us.take n)
  | _, _, 0, _ => .nil
  | _, _, _ + 1, .nil => .nil
  | _, _, n + 1, .cons r t => .cons r (Vals.take n t)
theorem Vals.drop : ∀ {xs : List V} {us : List Value} (n : Nat), Vals xs us → Vals (xs.drop n) (us.drop n)
  | _, _, 0, r => r
  | _, _, _ + 1, .nil => .nil
  | _, _, n + 1, .cons _ t => Vals.drop n t
def RelO : Option V → Option Value → Prop
  | some v, some u => RelV v u
  | none, none => True
  | _, _ => False
def KV {κ : Type} : List (κ × V) → List (κ × Value) → Prop := Paired fun (p : κ × V) (q : κ × Value) => p.1 = q.1 ∧ RelV p.2 q.2

/-- a key of a dict (00_mix): an int or a text -/
def kV : Key → V
  | .inl i => .int i
  | .inr x => .str x

/-- what stands at a tracked address -/
inductive HO where
  /-- a list -/
  | lst (xs : List V)
  /-- a tuple (never changes) -/
  | tup (xs : List V)
  /-- a dict whose keys are ints and texts; one whose keys are tuples of ints and texts (the empty one is both) -/
  | dK (kvs : List (Key × V)) | dT (kvs : List (List Key × V))
  /-- a set of ints: its members, its size -/
  | set (S : Int → Bool) (n : Nat)
  /-- an instance of the class at C, its dict at dx, its attributes -/
  | ins (C dx : Addr) (fs : List (Str × V))
  /-- the dict of the instance at x -/
  | own (x : Addr)
  /-- the dict of an exception -/
  | xd (fs : List (Str × V))
  /-- a bound method, f of x -/
  | met (f x : Addr)
  /-- a range object lo, lo + 1, .. below hi -/
  | rng (lo hi : Int)
  /-- a thing that is known to the object (the script; a dict while a loop walks it): read, never written while it is so -/
  | frz (o : Obj) (u : HO)
  /-- a code object's table -/
  | tbl (ps : Array Value)
  /-- any other thing, by what is true of its one object (a def of one's own: SetO a S n := HO.ext fun h => ..) -/
  | ext (φ : Heap → Prop)

abbrev Hp := Addr → Option HO
def upd (H : Hp) (a : Addr) (o : HO) : Hp := fun b => if b = a then some o else H b
theorem upd_same {H : Hp} {a : Addr} {o : HO} : upd H a o a = some o := by unfold upd; rw [if_pos rfl]
theorem upd_ne {H : Hp} {a b : Addr} {o : HO} (h : b ≠ a) : upd H a o b = H b := by unfold upd; rw [if_neg h]
theorem ne_of_none {H : Hp} {a b : Addr} {o : HO} (h : H a = some o) (h' : H b = none) : a ≠ b := by
  intro e; subst e; rw [h] at h'; cases h'

section
variable (P : Program) (w : World)
def ObjOk (H : Hp) (h : Heap) (a : Addr) : HO → Prop
  | .lst xs => xs.length ≤ sizeLine ∧ ∃ (its : List Value) (n : Nat), Vals xs its ∧ h.get? a = some { cls := .type "list", data := .seq its.toArray n }
  | .tup xs => xs.length ≤ sizeLine ∧ ∃ its : List Value, Vals xs its ∧ IsTup h a its.toArray
  | .dK kvs => kvs.length ≤ sizeLine ∧ (a == sysModules) = false ∧ ∃ vs, KV kvs vs ∧ h.DictOf (mixKind P w) a vs
  | .dT kvs => kvs.length ≤ sizeLine ∧ (a == sysModules) = false ∧ ∃ xs : List (List Key × Addr × Value),
      Paired (fun (p : List Key × V) (q : List Key × Addr × Value) => p.1 = q.1 ∧ H q.2.1 = some (.tup (p.1.map kV)) ∧ RelV p.2 q.2.2) kvs xs ∧
      ∃ o es ep, h.get? a = some o ∧ o.ExactDict ∧ o.data = .dict es ep ∧ es.toList = xs.map (entryOfKey (tupleKind (mixKind P w))) ∧ (xs.map (·.1)).Nodup
  | .set S n => h.SetOf (intKind P w) a S n
  | .ins C dx fs => H dx = some (.own a) ∧ fs.length ≤ 1000 ∧ dx ≠ a ∧ h.get? a = some (PySem.W.instObj C dx) ∧
      ∃ mA, h.Ns1 dx mA ∧ (∀ f, RelO (fs.lookup f) (mA f)) ∧ PySem.Within mA (fs.map (·.1))
  | .own _ => ∃ o, h.get? a = some o
  | .xd fs => ∃ mA, h.Ns1 a mA ∧ ∀ f, RelO (fs.lookup f) (mA f)
  | .rng lo hi => ∃ t u v, h.get? a = some { cls := .type "range", data := .fields #[.int lo t, .int hi u, .int 1 v] }
  | .frz o u => h.get? a = some o ∧ ObjOk H h a u
  | .tbl ps => h.get? a = some { cls := .none, data := .fields ps }
  | .met f x => h.get? a = some (PySem.W.methodObj (.ref f) (.ref x))
  | .ext φ => φ h ∧ (∃ o, h.get? a = some o) ∧ ∀ h1 h2 : Heap, φ h1 → (∀ o, h1.get? a = some o → h2.get? a = some o) → φ h2
/-- the abstract heap is held -/
def HOk (H : Hp) (h : Heap) : Prop := ∀ a o, H a = some o → ObjOk P w H h a o
end

section
variable {P : Program} {w : World} {H H' : Hp} {h h' : Heap} {a : Addr} {o : HO}
theorem ObjOk.lt (x : ObjOk P w H h a o) : a < h.objs.size := by
  cases o with
  | lst xs => obtain ⟨_, _, _, _, e⟩ := x; exact Heap.lt_size e
  | tup xs => obtain ⟨_, _, _, p⟩ := x; exact p.lt
  | dK kvs => obtain ⟨_, _, _, _, o, _, _, e, _⟩ := x; exact Heap.lt_size e
  | dT kvs => obtain ⟨_, _, _, _, o, _, _, e, _⟩ := x; exact Heap.lt_size e
  | set S n => obtain ⟨o, _, _, _, e, _⟩ := x; exact Heap.lt_size e
  | ins C dx fs => obtain ⟨_, _, _, e, _⟩ := x; exact Heap.lt_size e
  | own y => obtain ⟨_, e⟩ := x; exact Heap.lt_size e
  | xd fs => obtain ⟨_, ⟨_, _, _, e, _⟩, _⟩ := x; exact Heap.lt_size e
  | rng lo hi => obtain ⟨_, _, _, e⟩ := x; exact Heap.lt_size e
  | frz ob u => obtain ⟨e, _⟩ := x; exact Heap.lt_size e
  | tbl ps => exact Heap.lt_size (show h.get? a = some _ from x)
  | met f y => exact Heap.lt_size (show h.get? a = some _ from x)
  | ext φ => obtain ⟨_, ⟨_, e⟩, _⟩ := x; exact Heap.lt_size e
theorem Paired.mapP {α β : Type} {F G : α → β → Prop} : ∀ {l₁ : List α} {l₂ : List β}, Paired F l₁ l₂ → (∀ a b, F a b → G a b) → Paired G l₁ l₂
  | _, _, .nil, _ => .nil
  | _, _, .cons r t, f => .cons (f _ _ r) (Paired.mapP t f)
/-- what an object's description leans on: its own object, its own dict, the tuples -/
theorem ObjOk.stay (x : ObjOk P w H h a o) (k : ∀ b u, (b = a ∨ H b = some (.own a)) → h.get? b = some u → h'.get? b = some u)
    (ho : ∀ b, H b = some (.own a) → H' b = some (.own a)) (ht : ∀ b xs, H b = some (.tup xs) → H' b = some (.tup xs)) : ObjOk P w H' h' a o := by
  induction o with
  | lst xs => obtain ⟨z, its, n, r, e⟩ := x; exact ⟨z, its, n, r, k _ _ (.inl rfl) e⟩
  | tup xs => obtain ⟨z, its, r, ob, e, c⟩ := x; exact ⟨z, its, r, ob, k _ _ (.inl rfl) e, c⟩
  | dK kvs => obtain ⟨z, y, vs, r, ob, es, ep, e, c⟩ := x; exact ⟨z, y, vs, r, ob, es, ep, k _ _ (.inl rfl) e, c⟩
  | dT kvs =>
    obtain ⟨z, y, xs, r, ob, es, ep, e, c⟩ := x
    exact ⟨z, y, xs, Paired.mapP r fun p q z => ⟨z.1, ht _ _ z.2.1, z.2.2⟩, ob, es, ep, k _ _ (.inl rfl) e, c⟩
  | set S n => obtain ⟨ob, es, ep, t, e, c⟩ := x; exact ⟨ob, es, ep, t, k _ _ (.inl rfl) e, c⟩
  | ins C dx fs =>
    obtain ⟨d, z, ne, e, mA, ⟨od, es, ep, e2, c⟩, r⟩ := x
    exact ⟨ho _ d, z, ne, k _ _ (.inl rfl) e, mA, ⟨od, es, ep, k _ _ (.inr d) e2, c⟩, r⟩
  | own y => obtain ⟨ob, e⟩ := x; exact ⟨ob, k _ _ (.inl rfl) e⟩
  | xd fs => obtain ⟨mA, ⟨od, es, ep, e, c⟩, r⟩ := x; exact ⟨mA, ⟨od, es, ep, k _ _ (.inl rfl) e, c⟩, r⟩
  | rng lo hi => obtain ⟨t, u, v, e⟩ := x; exact ⟨t, u, v, k _ _ (.inl rfl) e⟩
  | frz ob u ih => obtain ⟨e, q⟩ := x; exact ⟨k _ _ (.inl rfl) e, ih q⟩
  | tbl ps =>
    have e : h.get? a = some { cls := .none, data := .fields ps } := x
    show h'.get? a = some { cls := .none, data := .fields ps }
    exact k a _ (.inl rfl) e
  | met f y =>
    have e : h.get? a = some (PySem.W.methodObj (.ref f) (.ref y)) := x
    show h'.get? a = some (PySem.W.methodObj (.ref f) (.ref y))
    exact k a _ (.inl rfl) e
  | ext φ => obtain ⟨p, ⟨o, e⟩, st⟩ := x; exact ⟨st _ _ p fun o q => k _ _ (.inl rfl) q, ⟨o, k _ _ (.inl rfl) e⟩, st⟩
theorem HOk.lt (x : HOk P w H h) (e : H a = some o) : a < h.objs.size := (x a o e).lt
theorem HOk.fresh (x : HOk P w H h) (e : h.objs.size ≤ a) : H a = none := by
  cases q : H a with
  | none => rfl
  | some u => exact absurd (Nat.lt_of_lt_of_le (x.lt q) e) (Nat.lt_irrefl _)
/-- every object of the heap is kept -/
theorem HOk.kept (x : HOk P w H h) (k : ∀ b u, h.get? b = some u → h'.get? b = some u) : HOk P w H h' := fun a o e =>
  (x a o e).stay (fun b u _ q => k b u q) (fun _ q => q) fun _ _ q => q
/-- a new object is laid and tracked -/
theorem HOk.laid (x : HOk P w H h) (k : ∀ b u, h.get? b = some u → h'.get? b = some u) (hp : h.objs.size ≤ a) (new : ObjOk P w (upd H a o) h' a o) : HOk P w (upd H a o) h' := fun b u e => by
  have hn := x.fresh hp
  by_cases hb : b = a
  · subst hb; rw [upd_same] at e; cases e; exact new
  · rw [upd_ne hb] at e
    exact (x b u e).stay (fun c v _ q => k c v q) (fun c q => by rw [upd_ne (ne_of_none q hn)]; exact q) fun c xs q => by rw [upd_ne (ne_of_none q hn)]; exact q
end

/-- what may be read as u: it is u, or a known u -/
def Rd (H : Hp) (a : Addr) (u : HO) : Prop := H a = some u ∨ ∃ o, H a = some (.frz o u)
theorem Rd.ok {P : Program} {w : World} {H : Hp} {h : Heap} {a : Addr} {u : HO} (r : Rd H a u) (x : HOk P w H h) : ObjOk P w H h a u := by
  rcases r with r | ⟨o, r⟩
  · exact x a u r
  · obtain ⟨_, q⟩ := x a _ r
    exact q
/-- what may be written -/
def Mut : Option HO → Prop
  | some (.lst _) => True
  | some (.dK _) => True
  | some (.dT _) => True
  | some (.set _ _) => True
  | some (.ins _ _ _) => True
  | some (.ext _) => True
  | _ => False
section
variable {P : Program} {w : World} {H : Hp} {h h' : Heap} {x e : Addr} {o' : HO}
/-- the object at e is changed: x itself, or the dict of the instance x -/
theorem HOk.write (ok : HOk P w H h) (mu : Mut (H x)) (he : e = x ∨ H e = some (.own x)) (k : ∀ b u, b ≠ e → h.get? b = some u → h'.get? b = some u) (heo : ∃ u, h'.get? e = some u)
    (new : ObjOk P w (upd H x o') h' x o') : HOk P w (upd H x o') h' := fun b u q => by
  have nown : ∀ c y, H c = some (.own y) → c ≠ x := fun c y r z => by subst z; rw [r] at mu; exact mu
  have ntup : ∀ c xs, H c = some (.tup xs) → c ≠ x := fun c xs r z => by subst z; rw [r] at mu; exact mu
  by_cases hb : b = x
  · subst hb; rw [upd_same] at q; cases q; exact new
  · rw [upd_ne hb] at q
    by_cases hbe : b = e
    · have q' : H b = some (.own x) := by
        rcases he with z | z
        · exact absurd (hbe.trans z) hb
        · rw [hbe]; exact z
      rw [q] at q'; cases q'
      obtain ⟨v, hv⟩ := heo
      exact ⟨v, by rw [hbe]; exact hv⟩
    · refine (ok b u q).stay (fun c v hc r => k c v ?_ r) (fun c r => by rw [upd_ne (nown c b r)]; exact r) fun c xs r => by rw [upd_ne (ntup c xs r)]; exact r
      rcases hc with rfl | hc
      · exact hbe
      · rintro rfl
        rcases he with z | z
        · exact nown c b hc z
        · rw [hc] at z; cases z; exact hb rfl
end

/-! ### kept unless tracked; of the frames at fs (the callers') the slots may change (an exception that passes writes there); of the records at ex (iterators) nothing is said -/
structure Un (fs ex : List Addr) (H H' : Hp) (h h' : Heap) : Prop where
  keep : ∀ b o, h.get? b = some o → H b = none → b ∉ fs → b ∉ ex → h'.get? b = some o
  slot : ∀ b o, h.get? b = some o → H b = none → b ∈ fs → b ∉ ex → ∃ sl, h'.get? b = some { o with slots := sl }
  free : ∀ b o, h.get? b = some o → H b = none → b ∉ ex → H' b = none
  there : ∀ b o, h.get? b = some o → b ∉ ex → ∃ o', h'.get? b = some o'
  tups : ∀ b xs, H b = some (.tup xs) → H' b = some (.tup xs)
  frzs : ∀ b o u, H b = some (.frz o u) → H' b = some (.frz o u)
  tbls : ∀ b ps, H b = some (.tbl ps) → ∃ more, H' b = some (.tbl (ps ++ more))
section
variable {fs fs' ex ex' : List Addr} {H H1 H2 : Hp} {h h1 h2 h' : Heap} {a x e : Addr} {o : HO}
theorem Un.any (u : Un fs ex H H1 h h1) {b : Addr} {ob : Obj} (q : h.get? b = some ob) (n : H b = none) (hx : b ∉ ex) : ∃ sl, h1.get? b = some { ob with slots := sl } := by
  by_cases hb : b ∈ fs
  · exact u.slot b ob q n hb hx
  · exact ⟨ob.slots, u.keep b ob q n hb hx⟩
theorem Un.kept (k : ∀ b u, h.get? b = some u → h'.get? b = some u) : Un fs ex H H h h' :=
  ⟨fun b ob q _ _ _ => k b ob q, fun b ob q _ _ _ => ⟨ob.slots, k b ob q⟩, fun _ _ _ n _ => n, fun b ob q _ => ⟨ob, k b ob q⟩, fun _ _ q => q, fun _ _ _ q => q, fun _ ps q => ⟨#[], by rw [q]; simp⟩⟩
theorem Un.refl : Un fs ex H H h h := Un.kept fun _ _ q => q
theorem Un.laid (k : ∀ b u, h.get? b = some u → h'.get? b = some u) (hp : h.objs.size ≤ a) (hn : H a = none) : Un fs ex H (upd H a o) h h' where
  keep := fun b u q _ _ _ => k b u q
  slot := fun b u q _ _ _ => ⟨u.slots, k b u q⟩
  free := fun b u q n _ => by rw [upd_ne (Nat.ne_of_lt (Nat.lt_of_lt_of_le (Heap.lt_size q) hp))]; exact n
  there := fun b u q _ => ⟨u, k b u q⟩
  tups := fun b xs q => by rw [upd_ne (ne_of_none q hn)]; exact q
  frzs := fun b u xs q => by rw [upd_ne (ne_of_none q hn)]; exact q
  tbls := fun b ps q => ⟨#[], by rw [upd_ne (ne_of_none q hn), q]; simp⟩
theorem Un.write (mu : Mut (H x)) (he : e = x ∨ H e = some (.own x)) (k : ∀ b u, b ≠ e → h.get? b = some u → h'.get? b = some u) (heo : ∃ u, h'.get? e = some u) : Un fs ex H (upd H x o) h h' := by
  have hx : ∀ b, H b = none → b ≠ x := fun b n z => by subst z; rw [n] at mu; exact mu
  have hb : ∀ b, H b = none → b ≠ e := fun b n z => by
    subst z
    rcases he with r | r
    · exact hx b n r
    · rw [n] at r; cases r
  have hm : ∀ b u, H b = some u → ¬ Mut (some u) → b ≠ x := fun b u q nm z => by subst z; rw [q] at mu; exact nm mu
  refine ⟨fun b u q n _ _ => k b u (hb b n) q, fun b u q n _ _ => ⟨u.slots, k b u (hb b n) q⟩, fun b u q n _ => by rw [upd_ne (hx b n)]; exact n, fun b u q _ => ?_,
    fun b xs q => by rw [upd_ne (hm b _ q fun z => z)]; exact q, fun b u xs q => by rw [upd_ne (hm b _ q fun z => z)]; exact q, fun b ps q => ⟨#[], by rw [upd_ne (hm b _ q fun z => z), q]; simp⟩⟩
  by_cases hbe : b = e
  · subst hbe; exact heo
  · exact ⟨u, k b u hbe q⟩
end

/-! ### the heap without what is tracked -/
def trk (h : Heap) (H : Hp) : List Addr := (List.range h.objs.size).filter fun a => (H a).isSome
def hidT (h : Heap) (H : Hp) : Heap := PySem.W.hideAll h (trk h H)
theorem hidT_size (h : Heap) (H : Hp) : (hidT h H).objs.size = h.objs.size := PySem.W.hideAll_size _ _
theorem hidT_get {h : Heap} {H : Hp} {b : Addr} {o : Obj} (e : h.get? b = some o) (n : H b = none) : (hidT h H).get? b = some o :=
  PySem.W.hideAll_get _ e fun hm => by
    have q : (H b).isSome = true := (List.mem_filter.mp hm).2
    rw [n] at q; simp at q
theorem of_hidT {h : Heap} {H : Hp} {b : Addr} {o : Obj} (e : (hidT h H).get? b = some o) : h.get? b = some o ∧ H b = none := by
  have e' : h.get? b = some o := PySem.W.of_hideAll (trk h H) e
  refine ⟨e', ?_⟩
  cases q : H b with
  | none => rfl
  | some x =>
    have hm : b ∈ trk h H := List.mem_filter.mpr ⟨List.mem_range.mpr (Heap.lt_size e'), by simp [q]⟩
    have z : (hidT h H).get? b = none := PySem.W.hideAll_none (trk h H) hm
    rw [z] at e; cases e

/-! ### OpenK's ledger, filled with every new object but one -/
def allNews (g h : Heap) (L : Addr) : List (Addr × Obj) := (List.range h.objs.size).filterMap fun a => if a = L ∨ (g.get? a).isSome = true then none else (h.get? a).map fun o => (a, o)
def rest (g h : Heap) (L d : Addr) : List (Addr × Obj) := (allNews g h L).filter fun p => decide (p.1 ≠ d)
end L2

namespace L2
open PySem PySem.Spec PyProof.Rows

/-- the module's facts, over the base: the heap at the law's entry without what is tracked there -/
structure Mod (K : PySem.W.Frag) (mg : Str → Option Value) (base : Heap) : Prop where
  kin : K.In base
  glob : base.Ns mainGlobals mg
  blt : ∃ mb, base.Ns builtinsNs mb ∧ ∀ x : Str, x ≠ "__name__" → mb x = bootBuiltins x
  nolimit : base.NoLimit

/-- the context: a def's body (or a comprehension's block) running. base: fixed through the whole law; s₀, H₀: the entry; outer: the frames whose slots others may change (a def's callers); stack: all frames that run;
   ex: iterators that were made ahead of the entry and are walked here (a comprehension's); fn: the names whose cells were made at the entry (a def: all; a comprehension's block: its own); calm: not within an except suite; pn: pins that every state bears; xe: what is wanted of an exception that leaves the code -/
structure Cx where
  prog : Program
  w : World
  K : PySem.W.Frag
  mg : Str → Option Value
  base : Heap
  A : Around
  N : List Str
  s₀ : Shared
  H₀ : Hp
  env : Env
  outer : List Env
  stack : List Env
  ex : List Addr
  fn : Str → Bool
  calm : Bool
  pn : List (Addr × Obj)
  xe : Value → Shared → Prop
/-- the callers' frames -/
def frs (l : List Env) : List Addr := l.filterMap (·.frame)
abbrev Cx.fs (X : Cx) : List Addr := frs X.outer

def Vis (sc : Scope) (x : Str) : Prop := sc.names.lookup x = some .local ∨ sc.names.lookup x = some .cell ∨ sc.names.lookup x = some .free
def Loc (sc : Scope) (x : Str) : Prop := sc.names.lookup x = some .local ∨ sc.names.lookup x = some .cell
def Look (env : Env) (h : Heap) (m : Str → Option Value) (x : Str) (u : Value) : Prop :=
  (env.kindOf x = some .local ∧ m x = some u) ∨ ((env.kindOf x = some .cell ∨ env.kindOf x = some .free) ∧ ∃ c, env.cells.lookup x = some c ∧ h.IsCell c (some u))

structure Cx.Ok (X : Cx) : Prop where
  mod : Mod X.K X.mg X.base
  kind : X.env.scope.kind = .function
  glob : X.env.globals = mainGlobals
  blt : X.env.builtins = builtinsNs
  above : X.s₀.heap.objs.size ≤ X.env.locals
  inj : ∀ x y c, X.env.cells.lookup x = some c → X.env.cells.lookup y = some c → x = y
  has : ∀ x, (X.env.kindOf x = some .cell ∨ X.env.kindOf x = some .free) → ∃ c, X.env.cells.lookup x = some c
  cab : ∀ x c, X.fn x = true → X.env.cells.lookup x = some c → X.s₀.heap.objs.size ≤ c
  hd : X.calm = true → X.A.handled = none
  frames : X.A.frames = some X.stack
  stk : X.stack = X.outer ∨ (X.stack = X.env :: X.outer ∧ X.env.frame = some X.env.locals)
  exf : ∀ b ∈ X.ex, b ≠ X.env.locals ∧ ∀ x c, X.env.cells.lookup x = some c → c ≠ b
  bs : ∀ b o, X.base.get? b = some o → X.s₀.heap.get? b = some o ∧ X.H₀ b = none
  bsz : X.base.objs.size ≤ X.s₀.heap.objs.size
  noex : ∀ b o, X.base.get? b = some o → b ∉ X.ex
  exfs : ∀ b ∈ X.ex, b ∉ X.fs
  funs : X.s₀.heap.FunFrames X.base X.outer
  frf : ∀ b ∈ X.fs, X.H₀ b = none

structure Inv (X : Cx) (pins : List (Addr × Obj)) (σ : List (Option V)) (H : Hp) (s : Shared) : Prop where
  ok : X.Ok
  os : s.os = X.s₀.os
  bare : AllBare s.gens
  base : Un X.fs X.ex X.H₀ H X.s₀.heap s.heap
  loc : ∃ m, s.heap.Ns X.env.locals m ∧ ∀ (i : Nat) (x : Str) (v : V), X.N[i]? = some x → σ[i]? = some (some v) → Vis X.env.scope x → ∃ u, RelV v u ∧ Look X.env s.heap m x u
  cell : ∀ x c, X.env.cells.lookup x = some c → ∃ v, s.heap.IsCell c v
  free : H X.env.locals = none
  freeC : ∀ x c, X.env.cells.lookup x = some c → H c = none
  pin : ∀ p ∈ X.pn ++ pins, s.heap.get? p.1 = some p.2 ∧ H p.1 = none ∧ p.1 ≠ X.env.locals ∧ p.1 ∉ X.fs ∧ ∀ v, p.2.data ≠ .cell v
  hok : HOk X.prog X.w H s.heap
  len : σ.length = X.N.length

section
variable {X : Cx} {pins : List (Addr × Obj)} {σ : List (Option V)} {H H' : Hp} {s : Shared} {h' : Heap}

theorem Cx.Ok.nofr (ok : X.Ok) {b : Addr} {o : Obj} (e : X.base.get? b = some o) : b ∉ X.fs := fun hb => by
  have := (ok.funs.mem hb).1
  rw [e] at this; cases this
theorem Inv.bs (I : Inv X pins σ H s) : ∀ b o, X.base.get? b = some o → s.heap.get? b = some o ∧ H b = none := fun b o e =>
  ⟨I.base.keep b o (I.ok.bs b o e).1 (I.ok.bs b o e).2 (I.ok.nofr e) (I.ok.noex b o e), I.base.free b o (I.ok.bs b o e).1 (I.ok.bs b o e).2 (I.ok.noex b o e)⟩
theorem Inv.bk (I : Inv X pins σ H s) : ∀ b o, X.base.get? b = some o → s.heap.get? b = some o := fun b o e => (I.bs b o e).1
theorem Inv.mod (I : Inv X pins σ H s) : Mod X.K X.mg X.base := I.ok.mod
theorem Inv.kIn (I : Inv X pins σ H s) : X.K.In s.heap := I.ok.mod.kin.keeps I.bk
theorem Inv.lt (I : Inv X pins σ H s) : X.env.locals < s.heap.objs.size := let ⟨_, hn, _⟩ := I.loc; hn.lt
theorem Inv.sz (I : Inv X pins σ H s) : X.s₀.heap.objs.size ≤ s.heap.objs.size := Nat.le_trans I.ok.above (Nat.le_of_lt I.lt)
theorem Inv.nofs (I : Inv X pins σ H s) {a : Addr} (h : s.heap.objs.size ≤ a) : a ∉ X.fs := fun hb => by
  obtain ⟨_, o, ho, _⟩ := I.ok.funs.mem hb
  exact absurd (Nat.lt_of_lt_of_le (Heap.lt_size ho) (Nat.le_trans I.sz h)) (Nat.lt_irrefl _)
theorem Inv.cne (I : Inv X pins σ H s) : ∀ x c, X.env.cells.lookup x = some c → c ≠ X.env.locals := fun x c e z => by
  obtain ⟨v, o, ho, hd⟩ := I.cell x c e
  obtain ⟨m, ⟨o', es, ep, ho', hd', _⟩, _⟩ := I.loc
  rw [z, ho'] at ho; cases ho; rw [hd'] at hd; cases hd
theorem Inv.funs (I : Inv X pins σ H s) : s.heap.FunFrames X.base X.outer := by
  have all : ∀ (l : List Env), (∀ b ∈ frs l, b ∈ X.fs) → X.s₀.heap.FunFrames X.base l → s.heap.FunFrames X.base l := by
    intro l
    induction l with
    | nil => intro _ _; trivial
    | cons env r ih =>
      intro hs hl
      obtain ⟨hk, ⟨L, o, hf, hn, ho, hd⟩, hr⟩ := hl
      have hL : L ∈ X.fs := hs L (by unfold frs; rw [List.filterMap_cons, hf]; exact List.mem_cons_self)
      obtain ⟨sl, e⟩ := I.base.slot L o ho (I.ok.frf L hL) hL fun z => I.ok.exfs L z hL
      exact ⟨hk, ⟨L, _, hf, hn, e, hd⟩, ih (fun b hb => hs b (by unfold frs; rw [List.filterMap_cons, hf]; exact List.mem_cons_of_mem _ hb)) hr⟩
  exact all X.outer (fun _ hb => hb) I.ok.funs

/-- the frames that run, for a call -/
theorem Inv.stack (I : Inv X pins σ H s) : s.heap.FunFrames X.base X.stack := by
  rcases I.ok.stk with e | ⟨e, hf⟩
  · rw [e]; exact I.funs
  · rw [e]
    obtain ⟨m, hn, _⟩ := I.loc
    refine .cons (by rw [I.ok.kind]; decide) hf hn ?_ I.funs
    exact Heap.get?_none_of_le (Nat.le_trans I.ok.bsz I.ok.above)
theorem Inv.stkSub (I : Inv X pins σ H s) : ∀ b ∈ frs X.stack, b ∈ X.env.locals :: X.fs := fun b hb => by
  rcases I.ok.stk with e | ⟨e, hf⟩
  · rw [e] at hb; exact List.mem_cons_of_mem _ hb
  · rw [e] at hb
    unfold frs at hb
    rw [List.filterMap_cons, hf] at hb
    exact hb
theorem Inv.stkFree (I : Inv X pins σ H s) : ∀ b ∈ frs X.stack, H b = none := fun b hb => by
  rcases List.mem_cons.mp (I.stkSub b hb) with e | hb
  · rw [e]; exact I.free
  · obtain ⟨_, o, ho, _⟩ := I.ok.funs.mem hb
    exact I.base.free b o ho (I.ok.frf b hb) fun z => I.ok.exfs b z hb

/-- THE STEP: the untracked objects but the frame and the records at ch are kept (the callers' frames up to slots), the frame's map is kept, the new abstract heap is held -/
theorem Inv.step {g' : Array GenState} {t' : Nat} {d' : Drawn} {ch : List Addr} (I : Inv X pins σ H s)
    (hch : ∀ b ∈ ch, (b ∈ X.ex ∨ X.s₀.heap.objs.size ≤ b) ∧ b ≠ X.env.locals ∧ (∀ x c, X.env.cells.lookup x = some c → c ≠ b) ∧ ∀ p ∈ X.pn ++ pins, p.1 ≠ b)
    (keep : ∀ b o, b ≠ X.env.locals → b ∉ X.fs → b ∉ ch → s.heap.get? b = some o → H b = none → h'.get? b = some o)
    (slot : ∀ b o, b ≠ X.env.locals → b ∈ X.fs → b ∉ ch → s.heap.get? b = some o → H b = none → ∃ sl, h'.get? b = some { o with slots := sl }) (free : ∀ b o, b ∉ ch → s.heap.get? b = some o → H b = none → H' b = none)
    (there : ∀ b o, b ∉ ch → s.heap.get? b = some o → ∃ o', h'.get? b = some o')
    (tups : ∀ b xs, H b = some (.tup xs) → H' b = some (.tup xs)) (frzs : ∀ b o u, H b = some (.frz o u) → H' b = some (.frz o u)) (tbls : ∀ b ps, H b = some (.tbl ps) → ∃ more, H' b = some (.tbl (ps ++ more)))
    (ns : ∀ m, s.heap.Ns X.env.locals m → h'.Ns X.env.locals m) (hok : HOk X.prog X.w H' h') (hg : AllBare g') :
    Inv X pins σ H' { s with heap := h', gens := g', drawn := d', toks := t' } := by
  have neL : ∀ b o, X.s₀.heap.get? b = some o → b ≠ X.env.locals := fun b o e => Nat.ne_of_lt (Nat.lt_of_lt_of_le (Heap.lt_size e) I.ok.above)
  have neC : ∀ b o, X.s₀.heap.get? b = some o → b ∉ X.ex → b ∉ ch := fun b o e hx hb => by
    rcases (hch b hb).1 with z | z
    · exact hx z
    · exact absurd (Nat.lt_of_lt_of_le (Heap.lt_size e) z) (Nat.lt_irrefl _)
  have cellK : ∀ x c, X.env.cells.lookup x = some c → ∀ v, s.heap.IsCell c v → h'.IsCell c v := fun x c e v ⟨o, ho, hd⟩ => by
    have nch : c ∉ ch := fun z => (hch c z).2.2.1 x c e rfl
    by_cases hc : c ∈ X.fs
    · obtain ⟨sl, q⟩ := slot c o (I.cne x c e) hc nch ho (I.freeC x c e)
      exact ⟨_, q, hd⟩
    · exact ⟨o, keep c o (I.cne x c e) hc nch ho (I.freeC x c e), hd⟩
  refine ⟨I.ok, I.os, hg, ⟨fun b o e n hb hx => ?_, fun b o e n hb hx => ?_, fun b o e n hx => ?_, fun b o e hx => ?_, fun b xs e => tups b xs (I.base.tups b xs e), fun b o xs e => frzs b o xs (I.base.frzs b o xs e), fun b ps e => ?_⟩, ?_, fun x c e => ?_, ?_, fun x c e => ?_, fun p hp => ?_, hok, I.len⟩
  · exact keep b o (neL b o e) hb (neC b o e hx) (I.base.keep b o e n hb hx) (I.base.free b o e n hx)
  · obtain ⟨sl, e1⟩ := I.base.slot b o e n hb hx
    obtain ⟨sl', e2⟩ := slot b _ (neL b o e) hb (neC b o e hx) e1 (I.base.free b o e n hx)
    exact ⟨sl', e2⟩
  · obtain ⟨o', e1⟩ := I.base.there b o e hx
    exact free b o' (neC b o e hx) e1 (I.base.free b o e n hx)
  · obtain ⟨o', e1⟩ := I.base.there b o e hx
    exact there b o' (neC b o e hx) e1
  · obtain ⟨m1, e1⟩ := I.base.tbls b ps e
    obtain ⟨m2, e2⟩ := tbls b _ e1
    exact ⟨m1 ++ m2, by rw [e2, Array.append_assoc]⟩
  · obtain ⟨m, hn, hl⟩ := I.loc
    refine ⟨m, ns m hn, fun i x v e1 e2 e3 => ?_⟩
    obtain ⟨u, r, l⟩ := hl i x v e1 e2 e3
    refine ⟨u, r, ?_⟩
    rcases l with l | ⟨k, c, e, z⟩
    · exact .inl l
    · exact .inr ⟨k, c, e, cellK x c e _ z⟩
  · obtain ⟨v, z⟩ := I.cell x c e
    exact ⟨v, cellK x c e v z⟩
  · obtain ⟨m, ⟨o, _, _, ho, _⟩, _⟩ := I.loc
    exact free _ o (fun z => (hch _ z).2.1 rfl) ho I.free
  · obtain ⟨v, o, ho, hd⟩ := I.cell x c e
    exact free c o (fun z => (hch c z).2.2.1 x c e rfl) ho (I.freeC x c e)
  · obtain ⟨e, n, ne, nf, d⟩ := I.pin p hp
    have nch : p.1 ∉ ch := fun z => (hch p.1 z).2.2.2 p hp rfl
    exact ⟨keep p.1 p.2 ne nf nch e n, free p.1 p.2 nch e n, ne, nf, d⟩
/-- .. where the frame's own object is kept too -/
theorem Inv.un {t' : Nat} (I : Inv X pins σ H s) (u : Un X.fs [] H H' s.heap h') (hok : HOk X.prog X.w H' h') : Inv X pins σ H' { s with heap := h', toks := t' } := by
  obtain ⟨m, ⟨o, es, ep, ho, r⟩, _⟩ := id I.loc
  obtain ⟨sl, hL⟩ := u.any ho I.free (by simp)
  exact I.step (g' := s.gens) (d' := s.drawn) (ch := []) (fun _ z => nomatch z) (fun b o _ hb _ e n => u.keep b o e n hb (by simp)) (fun b o _ hb _ e n => u.slot b o e n hb (by simp)) (fun b o _ e n => u.free b o e n (by simp)) (fun b o _ e => u.there b o e (by simp)) u.tups u.frzs u.tbls (fun m' hm => by
    obtain ⟨o', es', ep', ho', r'⟩ := hm
    rw [ho] at ho'; cases ho'
    exact ⟨_, es', ep', hL, r'⟩) hok I.bare
/-- behind a call (or a comprehension's block): the slots of this frame may have changed too, the records at ch may have turned -/
theorem Inv.call {g' : Array GenState} {t' : Nat} {d' : Drawn} {ch : List Addr} (I : Inv X pins σ H s) (u : Un (frs X.stack) ch H H' s.heap h') (hok : HOk X.prog X.w H' h') (hg : AllBare g')
    (hch : ∀ b ∈ ch, (b ∈ X.ex ∨ X.s₀.heap.objs.size ≤ b) ∧ b ≠ X.env.locals ∧ (∀ x c, X.env.cells.lookup x = some c → c ≠ b) ∧ ∀ p ∈ X.pn ++ pins, p.1 ≠ b) :
    Inv X pins σ H' { s with heap := h', gens := g', drawn := d', toks := t' } := by
  obtain ⟨m, ⟨o, es, ep, ho, r⟩, _⟩ := id I.loc
  obtain ⟨sl, hL⟩ := u.any ho I.free fun z => (hch _ z).2.1 rfl
  exact I.step (ch := ch) hch (fun b o hL hb hc e n => u.keep b o e n (fun z => (List.mem_cons.mp (I.stkSub b z)).elim hL hb) hc) (fun b o _ _ hc e n => u.any e n hc) (fun b o hc e n => u.free b o e n hc) (fun b o hc e => u.there b o e hc) u.tups u.frzs u.tbls (fun m' hm => by
    obtain ⟨o', es', ep', ho', r'⟩ := hm
    rw [ho] at ho'; cases ho'
    exact ⟨_, es', ep', hL, r'⟩) hok hg
/-- an untracked record of ours (an iterator) has turned -/
theorem Inv.turned {t' : Nat} {it : Addr} (I : Inv X pins σ H s) (k : ∀ b o, b ≠ it → s.heap.get? b = some o → h'.get? b = some o) (hn : H it = none) (hL : it ≠ X.env.locals)
    (h1 : it ∈ X.ex ∨ X.s₀.heap.objs.size ≤ it) (h2 : ∀ x c, X.env.cells.lookup x = some c → c ≠ it) (h3 : ∀ p ∈ X.pn ++ pins, p.1 ≠ it) : Inv X pins σ H { s with heap := h', toks := t' } := by
  have nit : ∀ b u, H b = some u → b ≠ it := fun b u e z => by rw [z, hn] at e; cases e
  refine I.step (g' := s.gens) (d' := s.drawn) (ch := [it]) (fun b hb => ?_) (fun b o _ _ hc e _ => k b o (fun z => hc (by simp [z])) e) (fun b o _ _ hc e _ => ⟨o.slots, k b o (fun z => hc (by simp [z])) e⟩) (fun _ _ _ _ n => n)
    (fun b o hc e => ⟨o, k b o (fun z => hc (by simp [z])) e⟩) (fun _ _ e => e) (fun _ _ _ e => e) (fun b ps e => ⟨#[], by rw [e]; simp⟩) (fun m hm => ?_) (fun b u e => ?_) I.bare
  · have e : b = it := by simpa using hb
    subst e
    exact ⟨h1, hL, h2, h3⟩
  · obtain ⟨o, es, ep, ho, r⟩ := hm
    exact ⟨o, es, ep, k _ o (Ne.symm hL) ho, r⟩
  · refine (I.hok b u e).stay (fun c v hc q => k c v ?_ q) (fun _ q => q) fun _ _ q => q
    rcases hc with z | z
    · rw [z]; exact nit b u e
    · exact nit c _ z
theorem Inv.tok (I : Inv X pins σ H s) (t : Nat) : Inv X pins σ H { s with toks := t } := I.un (h' := s.heap) (t' := t) Un.refl I.hok
/-- all objects kept -/
theorem Inv.kept {t' : Nat} (I : Inv X pins σ H s) (k : ∀ b u, s.heap.get? b = some u → h'.get? b = some u) : Inv X pins σ H { s with heap := h', toks := t' } := I.un (Un.kept k) (I.hok.kept k)
/-- a new object laid and tracked -/
theorem Inv.laid {a : Addr} {o : HO} {t' : Nat} (I : Inv X pins σ H s) (k : ∀ b u, s.heap.get? b = some u → h'.get? b = some u) (hp : s.heap.objs.size ≤ a) (new : ObjOk X.prog X.w (upd H a o) h' a o) :
    Inv X pins σ (upd H a o) { s with heap := h', toks := t' } := I.un (Un.laid k hp (I.hok.fresh hp)) (I.hok.laid k hp new)
/-- an object written -/
theorem Inv.write {x e : Addr} {o : HO} {t' : Nat} (I : Inv X pins σ H s) (mu : Mut (H x)) (he : e = x ∨ H e = some (.own x)) (k : ∀ b u, b ≠ e → s.heap.get? b = some u → h'.get? b = some u) (heo : ∃ u, h'.get? e = some u)
    (new : ObjOk X.prog X.w (upd H x o) h' x o) : Inv X pins σ (upd H x o) { s with heap := h', toks := t' } := I.un (Un.write mu he k heo) (I.hok.write mu he k heo new)
theorem Inv.pins_of {pins' : List (Addr × Obj)} (I : Inv X pins σ H s) (h : ∀ p ∈ pins', s.heap.get? p.1 = some p.2 ∧ H p.1 = none ∧ p.1 ≠ X.env.locals ∧ p.1 ∉ X.fs ∧ ∀ v, p.2.data ≠ .cell v) : Inv X pins' σ H s :=
  ⟨I.ok, I.os, I.bare, I.base, I.loc, I.cell, I.free, I.freeC, fun p hp => (List.mem_append.mp hp).elim (fun z => I.pin p (List.mem_append_left _ z)) (h p), I.hok, I.len⟩

theorem nodup_ix {N : List Str} (hN : N.Nodup) {i j : Nat} {x : Str} (a : N[i]? = some x) (b : N[j]? = some x) : i = j := by
  obtain ⟨h1, e1⟩ := List.getElem?_eq_some_iff.mp a
  obtain ⟨h2, e2⟩ := List.getElem?_eq_some_iff.mp b
  exact (List.getElem_inj hN).mp (e1.trans e2.symm)

/-- a name is stored; what changed -/
theorem store_ok2 {M : Model} {A : Around} {E : Value → Shared → Prop} {i : Nat} {x : Str} {v : V} {u : Value} {Q : Unit → Shared → Prop} (I : Inv X pins σ H s) (hN : X.N.Nodup) (hi : X.N[i]? = some x) (hx : Loc X.env.scope x) (r : RelV v u)
    (h : ∀ s', Inv X pins (σ.set i (some v)) H s' → (∃ a, Heap.SameBut a s.heap s'.heap ∧ (a = X.env.locals ∨ X.env.cells.lookup x = some a)) → Q () s') (hf : X.fn x = true ∨ X.env.scope.names.lookup x = some .local := by first | exact .inl rfl | exact .inr rfl | assumption) : wpAny M A (storeName X.env x u) Q E s := by
  obtain ⟨m, hn, hl⟩ := id I.loc
  have hcls : (X.env.scope.kind == .class || (X.env.scope.kind == .module && X.env.locals != X.env.globals)) = false := by rw [I.ok.kind]; rfl
  have hiσ : i < σ.length := by rw [I.len]; exact (List.getElem?_eq_some_iff.mp hi).1
  have cne := I.cne
  have tracked : ∀ {a : Addr} {h' : Heap}, (∃ o, s.heap.get? a = some o ∧ H a = none) → Heap.SameBut a s.heap h' → HOk X.prog X.w H h' := fun {a h'} ha hs b ob e => by
    obtain ⟨_, _, hfree⟩ := ha
    refine (I.hok b ob e).stay (fun c w' hc q => (hs.2 c ?_).trans q) (fun _ q => q) fun _ _ q => q
    rintro rfl
    rcases hc with rfl | hc
    · rw [hfree] at e; cases e
    · rw [hfree] at hc; cases hc
  rcases hx with hk | hk
  · refine wpAny_storeName_local hk hn (fun h' hn' hs => ?_) hcls
    obtain ⟨oL, _, _, hoL, _⟩ := id hn
    refine h _ ⟨I.ok, I.os, I.bare, ⟨fun b o e n hb hx => ?_, fun b o e n hb hx => ?_, I.base.free, fun b o e hx => ?_, I.base.tups, I.base.frzs, I.base.tbls⟩, ⟨_, hn', fun j y v' e1 e2 e3 => ?_⟩, fun y c e => ?_, I.free, I.freeC, fun p hp => ?_, tracked ⟨oL, hoL, I.free⟩ hs, by simpa using I.len⟩ ⟨_, hs, .inl rfl⟩
    · exact (hs.2 b (Nat.ne_of_lt (Nat.lt_of_lt_of_le (Heap.lt_size e) I.ok.above))).trans (I.base.keep b o e n hb hx)
    · obtain ⟨sl, e1⟩ := I.base.slot b o e n hb hx
      exact ⟨sl, (hs.2 b (Nat.ne_of_lt (Nat.lt_of_lt_of_le (Heap.lt_size e) I.ok.above))).trans e1⟩
    · obtain ⟨o', e1⟩ := I.base.there b o e hx
      exact ⟨o', (hs.2 b (Nat.ne_of_lt (Nat.lt_of_lt_of_le (Heap.lt_size e) I.ok.above))).trans e1⟩
    · by_cases hj : j = i
      · subst hj
        rw [hi] at e1; cases e1
        rw [List.getElem?_set_self hiσ] at e2
        cases e2
        exact ⟨u, r, .inl ⟨hk, by simp⟩⟩
      · rw [List.getElem?_set_ne (Ne.symm hj)] at e2
        obtain ⟨u', r', q⟩ := hl j y v' e1 e2 e3
        refine ⟨u', r', ?_⟩
        rcases q with ⟨k, e⟩ | ⟨k, c, e, z⟩
        · refine .inl ⟨k, ?_⟩
          have : y ≠ x := fun e => hj (nodup_ix hN e1 (e ▸ hi))
          simp [this, e]
        · exact .inr ⟨k, c, e, z.sameBut hs (cne y c e)⟩
    · obtain ⟨w', z⟩ := I.cell y c e
      exact ⟨w', z.sameBut hs (cne y c e)⟩
    · obtain ⟨e, n, ne, nf, d⟩ := I.pin p hp
      exact ⟨(hs.2 p.1 ne).trans e, n, ne, nf, d⟩
  · have hfn : X.fn x = true := by
      rcases hf with z | z
      · exact z
      · rw [z] at hk; cases hk
    obtain ⟨c, hc⟩ := I.ok.has x (.inl hk)
    obtain ⟨w', z⟩ := I.cell x c hc
    refine wpAny_storeName_cell I.ok.kind hk hc z (fun h' hc' hs => ?_)
    obtain ⟨oc, hoc, hocd⟩ := id z
    refine h { s with heap := h' } ⟨I.ok, I.os, I.bare, ⟨fun b o e n hb hx => ?_, fun b o e n hb hx => ?_, I.base.free, fun b o e hx => ?_, I.base.tups, I.base.frzs, I.base.tbls⟩, ⟨m, hn.sameBut hs (Ne.symm (cne x c hc)), fun j y v' e1 e2 e3 => ?_⟩, fun y c' e => ?_, I.free, I.freeC, fun p hp => ?_, tracked ⟨oc, hoc, I.freeC x c hc⟩ hs, by simpa using I.len⟩ ⟨c, hs, .inr hc⟩
    · exact (hs.2 b (Nat.ne_of_lt (Nat.lt_of_lt_of_le (Heap.lt_size e) (I.ok.cab x c hfn hc)))).trans (I.base.keep b o e n hb hx)
    · obtain ⟨sl, e1⟩ := I.base.slot b o e n hb hx
      exact ⟨sl, (hs.2 b (Nat.ne_of_lt (Nat.lt_of_lt_of_le (Heap.lt_size e) (I.ok.cab x c hfn hc)))).trans e1⟩
    · obtain ⟨o', e1⟩ := I.base.there b o e hx
      exact ⟨o', (hs.2 b (Nat.ne_of_lt (Nat.lt_of_lt_of_le (Heap.lt_size e) (I.ok.cab x c hfn hc)))).trans e1⟩
    · by_cases hj : j = i
      · subst hj
        rw [hi] at e1; cases e1
        rw [List.getElem?_set_self hiσ] at e2
        cases e2
        exact ⟨u, r, .inr ⟨.inl hk, c, hc, hc'⟩⟩
      · rw [List.getElem?_set_ne (Ne.symm hj)] at e2
        obtain ⟨u', r', q⟩ := hl j y v' e1 e2 e3
        refine ⟨u', r', ?_⟩
        rcases q with q | ⟨k, c', e, z'⟩
        · exact .inl q
        · refine .inr ⟨k, c', e, z'.sameBut hs ?_⟩
          rintro rfl
          exact hj (nodup_ix hN e1 (I.ok.inj _ _ _ e hc ▸ hi))
    · by_cases hcc : c' = c
      · subst hcc; exact ⟨_, hc'⟩
      · obtain ⟨w2, z2⟩ := I.cell y c' e
        exact ⟨w2, z2.sameBut hs hcc⟩
    · obtain ⟨e, n, ne, nf, d⟩ := I.pin p hp
      refine ⟨(hs.2 p.1 ?_).trans e, n, ne, nf, d⟩
      intro q
      rw [q, hoc] at e
      have q' : oc = p.2 := Option.some.inj e
      exact d w' (by rw [← q']; exact hocd)
theorem store_ok {M : Model} {A : Around} {E : Value → Shared → Prop} {i : Nat} {x : Str} {v : V} {u : Value} {Q : Unit → Shared → Prop} (I : Inv X pins σ H s) (hN : X.N.Nodup) (hi : X.N[i]? = some x) (hx : Loc X.env.scope x) (r : RelV v u)
    (h : ∀ s', Inv X pins (σ.set i (some v)) H s' → Q () s') (hf : X.fn x = true ∨ X.env.scope.names.lookup x = some .local := by first | exact .inl rfl | exact .inr rfl | assumption) : wpAny M A (storeName X.env x u) Q E s :=
  store_ok2 I hN hi hx r (fun s' I' _ => h s' I') hf
/-- behind a call or a block, the state as it is -/
theorem Inv.call' {s' : Shared} {ch : List Addr} (I : Inv X pins σ H s) (ho : s'.os = s.os) (u : Un (frs X.stack) ch H H' s.heap s'.heap) (hok : HOk X.prog X.w H' s'.heap) (hg : AllBare s'.gens)
    (hch : ∀ b ∈ ch, (b ∈ X.ex ∨ X.s₀.heap.objs.size ≤ b) ∧ b ≠ X.env.locals ∧ (∀ x c, X.env.cells.lookup x = some c → c ≠ b) ∧ ∀ p ∈ X.pn ++ pins, p.1 ≠ b) : Inv X pins σ H' s' := by
  obtain ⟨h', g', d', t', o'⟩ := s'
  have e : o' = s.os := ho
  subst e
  exact I.call (g' := g') (t' := t') (d' := d') u hok hg hch
end

/-! ### the judgements -/
/-- an exception: its class, its own dict's address (where it has one), the abstract heap behind it -/
abbrev XK := Value → Option Addr → Hp → Prop
abbrev St := List (Option V)
abbrev VK := V → Hp → Prop
/-- an expression's reading; a test's; an argument list's -/
abbrev TE := St → Hp → VK → Prop
abbrev TT := St → Hp → (Bool → Hp → Prop) → Prop
abbrev TA := St → Hp → (List V → Hp → Prop) → Prop
/-- what is wanted behind a statement -/
structure Ends where
  nx : St → Hp → Prop
  rt : VK
  bk : St → Hp → Prop := fun _ _ => False
  ct : St → Hp → Prop := fun _ _ => False
abbrev TS := Ends → St → Hp → Prop

def EP (X : Cx) (pins : List (Addr × Obj)) (σ : St) (Q : VK) (u : Value) (s' : Shared) : Prop := ∃ v H', Inv X pins σ H' s' ∧ RelV v u ∧ Q v H'
def TP (X : Cx) (pins : List (Addr × Obj)) (σ : St) (Q : Bool → Hp → Prop) (b : Bool) (s' : Shared) : Prop := ∃ H', Inv X pins σ H' s' ∧ Q b H'
def AP (X : Cx) (pins : List (Addr × Obj)) (σ : St) (Q : List V → Hp → Prop) (us : List Value) (s' : Shared) : Prop := ∃ vs H', Inv X pins σ H' s' ∧ Vals vs us ∧ Q vs H'
def SP (X : Cx) (pins : List (Addr × Obj)) (D : Ends) (f : Flow) (s' : Shared) : Prop :=
  match f with
  | .next => ∃ σ' H', Inv X pins σ' H' s' ∧ D.nx σ' H'
  | .brk => ∃ σ' H', Inv X pins σ' H' s' ∧ D.bk σ' H'
  | .cont => ∃ σ' H', Inv X pins σ' H' s' ∧ D.ct σ' H'
  | .ret u => ∃ v σ' H', Inv X pins σ' H' s' ∧ RelV v u ∧ D.rt v H'

def PE (X : Cx) (e : Expr) (t : TE) : Prop :=
  ∀ (pins : List (Addr × Obj)) (s : Shared) (σ : St) (H : Hp) (Q : VK), Inv X pins σ H s → t σ H Q → wpAny (model X.prog X.w) X.A (eval e X.env) (EP X pins σ Q) X.xe s
def PT (X : Cx) (e : Expr) (t : TT) : Prop :=
  ∀ (pins : List (Addr × Obj)) (s : Shared) (σ : St) (H : Hp) (Q : Bool → Hp → Prop), Inv X pins σ H s → t σ H Q → wpAny (model X.prog X.w) X.A (isTrue e X.env (eval e X.env)) (TP X pins σ Q) X.xe s
/-- a test whatever its 'whole' is (and, or) -/
def PW (X : Cx) (e : Expr) (t : TT) : Prop :=
  ∀ (whole : Sem Value) (pins : List (Addr × Obj)) (s : Shared) (σ : St) (H : Hp) (Q : Bool → Hp → Prop), Inv X pins σ H s → t σ H Q → wpAny (model X.prog X.w) X.A (isTrue e X.env whole) (TP X pins σ Q) X.xe s
theorem PW.pt {X : Cx} {e : Expr} {t : TT} (h : PW X e t) : PT X e t := h _
/-- an argument list (no star), from the left -/
def PA (X : Cx) (es : List Expr) (t : TA) : Prop :=
  ∀ (pos : Pos) (pins : List (Addr × Obj)) (s : Shared) (σ : St) (H : Hp) (Q : List V → Hp → Prop), Inv X pins σ H s → t σ H Q → wpAny (model X.prog X.w) X.A (spliced (backTo pos (starEach es X.env))) (AP X pins σ Q) X.xe s
def PS (X : Cx) (st : Stmt) (t : TS) : Prop :=
  ∀ (pins : List (Addr × Obj)) (s : Shared) (σ : St) (H : Hp) (D : Ends), Inv X pins σ H s → t D σ H → wpAny (model X.prog X.w) X.A (exec st X.env) (SP X pins D) X.xe s
def PSs (X : Cx) (st : List Stmt) (t : TS) : Prop :=
  ∀ (pins : List (Addr × Obj)) (s : Shared) (σ : St) (H : Hp) (D : Ends), Inv X pins σ H s → t D σ H → wpAny (model X.prog X.w) X.A (execs st X.env) (SP X pins D) X.xe s
/-- weaken the end -/
theorem thn {α : Type} {t : Sem α} {Q Q' : α → Shared → Prop} {M : Model} {A : Around} {E : Value → Shared → Prop} {s : Shared} (h : wpAny M A t Q E s) (hQ : ∀ a s, Q a s → Q' a s) : wpAny M A t Q' E s := wpAny_mono h hQ fun _ _ x => x
end L2

namespace L2
open PySem PySem.Spec PyProof.Rows
section
variable {X : Cx}

/-! ### names and constants -/
def tVar (i : Nat) : TE := fun σ H Q => ∃ v, σ[i]? = some (some v) ∧ Q v H
def tC (v : V) : TE := fun _ H Q => Q v H
theorem pe_var {i : Nat} {x : Str} {pos : Pos} (hN : X.N[i]? = some x) (hv : Vis X.env.scope x) (hd : (x == ("__debug__" : Str)) = false := by decide) (hcd : (x == ("__classdict__" : Str)) = false := by decide) : PE X (.Name x pos) (tVar i) := by
  intro pins s σ H Q I h
  obtain ⟨v, e, h⟩ := h
  obtain ⟨m, hn, hl⟩ := I.loc
  obtain ⟨u, r, l⟩ := hl i x v hN e hv
  have fin : EP X pins σ Q u s := ⟨v, H, I, r, h⟩
  rcases l with ⟨hk, hm⟩ | ⟨hk, c, hc, hcell⟩
  · exact wpAny_Name (wpAny_loadName_local I.ok.kind hk hn hm fin) hd
  · rcases hk with hk | hk
    · exact wpAny_Name (wpAny_loadName_cell I.ok.kind hk hc hcell fin) hd
    · exact wpAny_Name (wpAny_loadName_free I.ok.kind hk hc hcell fin hcd) hd
theorem pe_int {i j pos} : PE X (.Constant (.int i) j pos) (tC (.int i)) := fun _ _ _ H _ I h => wpAny_Constant_int ⟨.int i, H, I.tok _, ⟨_, rfl⟩, h⟩
theorem pe_bl {b j pos} : PE X (.Constant (.bool b) j pos) (tC (.bl b)) := fun _ _ _ H _ I h => Constant_bool ⟨.bl b, H, I, rfl, h⟩
theorem pe_non {j pos} : PE X (.Constant .none j pos) (tC .non) := fun _ _ _ H _ I h => Constant_none ⟨.non, H, I, rfl, h⟩
theorem pe_str {x j pos} : PE X (.Constant (.str x) j pos) (tC (.str x)) := fun _ _ _ H _ I h => Calls.Constant_str ⟨.str x, H, I.tok _, ⟨_, rfl⟩, h⟩

/-- a global name of the def -/
def Gl (X : Cx) (x : Str) : Prop := X.env.kindOf x = some .globalImplicit
theorem ld_glob {E : Value → Shared → Prop} {pins : List (Addr × Obj)} {s : Shared} {σ : St} {H : Hp} {x : Str} {u : Value} {pos : Pos} {Q : Value → Shared → Prop} (I : Inv X pins σ H s) (hg : Gl X x) (hm : X.mg x = some u) (h : Q u s)
    (hd : (x == ("__debug__" : Str)) = false := by decide) : wpAny (model X.prog X.w) X.A (eval (.Name x pos) X.env) Q E s :=
  Calls.Name_function_global I.ok.kind hg (Calls.loadGlobal_global (by rw [I.ok.glob]; exact I.mod.glob.keeps I.bk) hm h) hd
theorem ld_blt {E : Value → Shared → Prop} {pins : List (Addr × Obj)} {s : Shared} {σ : St} {H : Hp} {x : Str} {u : Value} {pos : Pos} {Q : Value → Shared → Prop} (I : Inv X pins σ H s) (hg : Gl X x) (hm : X.mg x = none) (hv : bootBuiltins x = some u) (h : Q u s)
    (hn : x ≠ "__name__" := by decide) (hd : (x == ("__debug__" : Str)) = false := by decide) : wpAny (model X.prog X.w) X.A (eval (.Name x pos) X.env) Q E s := by
  obtain ⟨mb, h1, h2⟩ := I.mod.blt
  exact Calls.Name_function_global I.ok.kind hg (Calls.loadGlobal_builtin (by rw [I.ok.glob]; exact I.mod.glob.keeps I.bk) hm (by rw [I.ok.blt]; exact h1.keeps I.bk) ((h2 x hn).trans hv) h) hd
/-- a module's constant, a class, a function, as a value -/
theorem pe_glob {x : Str} {v : V} {u : Value} {pos : Pos} (hg : Gl X x) (hm : X.mg x = some u) (r : RelV v u) (hd : (x == ("__debug__" : Str)) = false := by decide) : PE X (.Name x pos) (tC v) :=
  fun _ _ _ H _ I h => ld_glob I hg hm ⟨v, H, I, r, h⟩ hd
theorem pe_bltn {x : Str} {v : V} {u : Value} {pos : Pos} (hg : Gl X x) (hm : X.mg x = none) (hv : bootBuiltins x = some u) (r : RelV v u) (hn : x ≠ "__name__" := by decide) (hd : (x == ("__debug__" : Str)) = false := by decide) : PE X (.Name x pos) (tC v) :=
  fun _ _ _ H _ I h => ld_blt I hg hm hv ⟨v, H, I, r, h⟩ hn hd

/-! ### arithmetic -/
/-- two ints -/
def t2I (ta tb : TE) (k : Int → Int → Hp → Prop) : St → Hp → Prop := fun σ H => ta σ H fun x H1 => tb σ H1 fun y H2 => ∃ i j, x = .int i ∧ y = .int j ∧ k i j H2
def tAdd (ta tb : TE) : TE := fun σ H Q => t2I ta tb (fun i j H2 => Q (.int (i + j)) H2) σ H
def tSub (ta tb : TE) : TE := fun σ H Q => t2I ta tb (fun i j H2 => Q (.int (i - j)) H2) σ H
/-- the left factor below 2^64 -/
def tMul (ta tb : TE) : TE := fun σ H Q => t2I ta tb (fun i j H2 => (-(2 ^ 64) < i ∧ i < 2 ^ 64) ∧ Q (.int (i * j)) H2) σ H
variable {a b : Expr} {ta tb : TE} {pos : Pos}
/-! ### comparisons -/
def PC (X : Cx) (op : CmpOp) (a b : Expr) (t : TE) : Prop :=
  ∀ (pins : List (Addr × Obj)) (s : Shared) (σ : St) (H : Hp) (Q : VK), Inv X pins σ H s → t σ H Q →
    wpAny (model X.prog X.w) X.A (eval a X.env) (fun v s₁ => wpAny (model X.prog X.w) X.A (eval b X.env) (fun u s₂ => wpAny (model X.prog X.w) X.A (compareOp op v u) (EP X pins σ Q) X.xe s₂) X.xe s₁) X.xe s
def tCmp (p : Int → Int → Bool) (ta tb : TE) : TE := fun σ H Q => t2I ta tb (fun i j H2 => Q (.bl (p i j)) H2) σ H
abbrev tLt : TE → TE → TE := tCmp fun i j => decide (i < j)
abbrev tLe : TE → TE → TE := tCmp fun i j => decide (i ≤ j)
abbrev tGt : TE → TE → TE := tCmp fun i j => decide (j < i)
abbrev tGe : TE → TE → TE := tCmp fun i j => decide (j ≤ i)
abbrev tEqI : TE → TE → TE := tCmp fun i j => decide (i = j)
abbrev tNeI : TE → TE → TE := tCmp fun i j => !decide (i = j)
/-- is None -/
def tIsN (ta : TE) : TE := fun σ H Q => ta σ H fun x H1 => Q (.bl (decide (x = .non))) H1
def tNotN (ta : TE) : TE := fun σ H Q => ta σ H fun x H1 => Q (.bl (!decide (x = .non))) H1
/-- a comparison as a value, as a test -/
def tB (t : TE) : TT := fun σ H Q => t σ H fun x H1 => ∃ c, x = .bl c ∧ Q c H1
/-- an expression whose value is a bool, as a test -/
theorem pt_val {e : Expr} {t : TE} (h : PE X e t) (he : ∀ whole, isTrue e X.env whole = (do let v ← whole; standAt e.pos; holding [v] (truthy v)) := by intro _; rfl) : PT X e (tB t) := by
  intro pins s σ H Q I hw
  refine isTrue_plain (thn (h pins s σ H _ I hw) fun v s1 ⟨x, H1, I1, r1, q1⟩ => ?_) (he _)
  obtain ⟨d, rfl, q⟩ := q1
  cases r1
  exact wpAny_truthy_bool ⟨H1, I1, q⟩

/-! ### and, or, not -/
variable {tA tB' : TT} {rest : List Expr}
def tAnd (t u : TT) : TT := fun σ H Q => t σ H fun c H1 => if c = true then u σ H1 Q else Q false H1
def tOr (t u : TT) : TT := fun σ H Q => t σ H fun c H1 => if c = true then Q true H1 else u σ H1 Q
def tNot (t : TT) : TT := fun σ H Q => t σ H fun c H1 => Q (!c) H1
theorem pw_and1 (ha : PT X a tA) : PW X (.BoolOp .And [a] pos) tA := by
  intro wh pins s σ H Q I h
  refine isTrue_and (thn (ha pins s σ H Q I h) fun c s1 e => ?_)
  cases c with
  | true => exact isTrue_and_nil e
  | false => exact e
theorem pw_or1 (ha : PT X a tA) : PW X (.BoolOp .Or [a] pos) tA := by
  intro wh pins s σ H Q I h
  refine isTrue_or (thn (ha pins s σ H Q I h) fun c s1 e => ?_)
  cases c with
  | false => exact isTrue_or_nil e
  | true => exact e
theorem pw_and (ha : PT X a tA) (hb : PW X (.BoolOp .And (b :: rest) pos) tB') : PW X (.BoolOp .And (a :: b :: rest) pos) (tAnd tA tB') := by
  intro wh pins s σ H Q I h
  refine isTrue_and (thn (ha pins s σ H _ I h) fun c s1 ⟨H1, I1, q1⟩ => ?_)
  cases c with
  | true => exact hb wh pins s1 σ H1 Q I1 q1
  | false => exact ⟨H1, I1, q1⟩
theorem pw_or (ha : PT X a tA) (hb : PW X (.BoolOp .Or (b :: rest) pos) tB') : PW X (.BoolOp .Or (a :: b :: rest) pos) (tOr tA tB') := by
  intro wh pins s σ H Q I h
  refine isTrue_or (thn (ha pins s σ H _ I h) fun c s1 ⟨H1, I1, q1⟩ => ?_)
  cases c with
  | true => exact ⟨H1, I1, q1⟩
  | false => exact hb wh pins s1 σ H1 Q I1 q1
theorem pt_not (ha : PT X a tA) : PT X (.UnaryOp .Not a pos) (tNot tA) := by
  intro pins s σ H Q I h
  exact isTrue_not (ha pins s σ H (fun c H1 => Q (!c) H1) I h)
/-- .. as values (bools) -/
def tAndV (ta tb : TE) : TE := fun σ H Q => ta σ H fun x H1 => ∃ c, x = .bl c ∧ if c = true then tb σ H1 Q else Q (.bl false) H1
def tOrV (ta tb : TE) : TE := fun σ H Q => ta σ H fun x H1 => ∃ c, x = .bl c ∧ if c = true then Q (.bl true) H1 else tb σ H1 Q
def tNotV (ta : TE) : TE := fun σ H Q => ta σ H fun x H1 => ∃ c, x = .bl c ∧ Q (.bl (!c)) H1
theorem pe_one {op} {t : TE} (h : PE X a t) : PE X (.BoolOp op [a] pos) t := fun pins s σ H Q I hw => BoolOp_one (h pins s σ H Q I hw)
theorem pe_and (ha : PE X a ta) (hb : PE X (.BoolOp .And (b :: rest) pos) tb) : PE X (.BoolOp .And (a :: b :: rest) pos) (tAndV ta tb) := by
  intro pins s σ H Q I h
  refine BoolOp_and (thn (ha pins s σ H _ I h) fun v s1 ⟨x, H1, I1, r1, q1⟩ => ?_)
  obtain ⟨c, rfl, q1⟩ := q1
  cases r1
  refine wpAny_truthy_bool ?_
  cases c with
  | true => exact hb pins s1 σ H1 Q I1 q1
  | false => exact ⟨.bl false, H1, I1, rfl, q1⟩
/-- a if t else b -/
def tIf (t : TT) (ta tb : TE) : TE := fun σ H Q => t σ H fun c H1 => if c = true then ta σ H1 Q else tb σ H1 Q
theorem pe_ifExp {c : Expr} (hc : PT X c tA) (ha : PE X a ta) (hb : PE X b tb) : PE X (.IfExp c a b pos) (tIf tA ta tb) := by
  intro pins s σ H Q I h
  refine wpAny_IfExp (thn (hc pins s σ H _ I h) fun d s1 ⟨H1, I1, q1⟩ => ?_)
  cases d with
  | true => exact ha pins s1 σ H1 Q I1 q1
  | false => exact hb pins s1 σ H1 Q I1 q1
end
end L2

namespace L2
open PySem PySem.Spec PyProof.Rows

/-! ### a list, a tuple that is read: tracked, frozen, or an object of the module -/
def SqL (K : PySem.W.Frag) (H : Hp) (a : Addr) (xs : List V) : Prop :=
  Rd H a (.lst xs) ∨
    ∃ (o : Obj) (its : Array Value) (n : Nat), K.lookup a = some o ∧ o.cls = .type "list" ∧ o.dict = none ∧ o.data = .seq its n ∧ its.size ≤ sizeLine ∧ Vals xs its.toList
def SqT (K : PySem.W.Frag) (H : Hp) (a : Addr) (xs : List V) : Prop :=
  Rd H a (.tup xs) ∨
    ∃ (o : Obj) (its : Array Value) (n : Nat), K.lookup a = some o ∧ o.cls = .type "tuple" ∧ o.data = .seq its n ∧ its.size ≤ sizeLine ∧ Vals xs its.toList
def absV : Value → Option V
  | .none => some .non
  | .bool b => some (.bl b)
  | .int i _ => some (.int i)
  | .str x _ => some (.str x)
  | .bytes b _ => some (.byt b)
  | .float b _ => some (.flt b)
  | .ref a => some (.ref a)
  | .type n => some (.ty n)
  | _ => none
theorem RelV.abs {x : V} {u : Value} (r : RelV x u) : absV u = some x := by
  cases x with
  | non => cases r; rfl
  | bl _ => cases r; rfl
  | int _ => obtain ⟨t, rfl⟩ := r; rfl
  | str _ => obtain ⟨t, rfl⟩ := r; rfl
  | byt _ => obtain ⟨t, rfl⟩ := r; rfl
  | flt _ => obtain ⟨t, rfl⟩ := r; rfl
  | ref _ => cases r; rfl
  | ty _ => cases r; rfl
theorem RelV.inj {x y : V} {u : Value} (r : RelV x u) (q : RelV y u) : x = y := Option.some.inj (r.abs.symm.trans q.abs)
theorem Vals.inj : ∀ {xs ys : List V} {us : List Value}, Vals xs us → Vals ys us → xs = ys
  | _, _, _, .nil, .nil => rfl
  | _, _, _, .cons r t, .cons r' t' => by rw [r.inj r', Vals.inj t t']
section
variable {X : Cx} {pins : List (Addr × Obj)} {σ : St} {H : Hp} {s : Shared} {a : Addr} {xs ys : List V}
theorem SqL.of {K : PySem.W.Frag} (h : H a = some (.lst xs)) : SqL K H a xs := .inl (.inl h)
theorem SqT.of {K : PySem.W.Frag} (h : H a = some (.tup xs)) : SqT K H a xs := .inl (.inl h)
theorem Inv.list (I : Inv X pins σ H s) (h : SqL X.K H a xs) : ∃ its : List Value, Vals xs its ∧ PlainL s.heap a its.toArray ∧ xs.length ≤ sizeLine := by
  rcases h with h | ⟨o, its, n, hk, hc, hd, hs, hz, r⟩
  · obtain ⟨z, its, n, r, e⟩ := h.ok I.hok
    exact ⟨its, r, ⟨_, n, e, rfl, rfl, rfl⟩, z⟩
  · refine ⟨its.toList, r, ⟨o, n, I.kIn a o hk, hc, hd, by simpa using hs⟩, ?_⟩
    have e := r.length
    simp only [Array.length_toList] at e
    omega
theorem Inv.tuple (I : Inv X pins σ H s) (h : SqT X.K H a xs) : ∃ its : List Value, Vals xs its ∧ IsTup s.heap a its.toArray ∧ xs.length ≤ sizeLine := by
  rcases h with h | ⟨o, its, n, hk, hc, hs, hz, r⟩
  · obtain ⟨z, its, r, p⟩ := h.ok I.hok
    exact ⟨its, r, p, z⟩
  · refine ⟨its.toList, r, ⟨o, I.kIn a o hk, hc, n, by simpa using hs⟩, ?_⟩
    have e := r.length
    simp only [Array.length_toList] at e
    omega
theorem Inv.list_inj (I : Inv X pins σ H s) (h : SqL X.K H a xs) (h' : SqL X.K H a ys) : xs = ys := by
  obtain ⟨its, r, ⟨o, n, e, _, _, d⟩, _⟩ := I.list h
  obtain ⟨its', r', ⟨o', n', e', _, _, d'⟩, _⟩ := I.list h'
  rw [e] at e'; cases e'
  rw [d] at d'
  injection d' with d1 _
  have : its = its' := by simpa using congrArg Array.toList d1
  subst this
  exact r.inj r'
end

/-! ### another wish about exceptions -/
abbrev Cx.wish (X : Cx) (E : Value → Shared → Prop) : Cx := { X with xe := E }
/-- no exception leaves -/
abbrev Cx.nox (X : Cx) : Cx := X.wish fun _ _ => False
theorem Cx.Ok.wish {X : Cx} (ok : X.Ok) (E : Value → Shared → Prop) : (X.wish E).Ok :=
  ⟨ok.mod, ok.kind, ok.glob, ok.blt, ok.above, ok.inj, ok.has, ok.cab, ok.hd, ok.frames, ok.stk, ok.exf, ok.bs, ok.bsz, ok.noex, ok.exfs, ok.funs, ok.frf⟩
theorem Cx.Ok.unwish {X : Cx} {E : Value → Shared → Prop} (ok : (X.wish E).Ok) : X.Ok :=
  ⟨ok.mod, ok.kind, ok.glob, ok.blt, ok.above, ok.inj, ok.has, ok.cab, ok.hd, ok.frames, ok.stk, ok.exf, ok.bs, ok.bsz, ok.noex, ok.exfs, ok.funs, ok.frf⟩
section
variable {X : Cx} {pins : List (Addr × Obj)} {σ : St} {H : Hp} {s : Shared} {E : Value → Shared → Prop}
theorem Inv.wish (I : Inv X pins σ H s) (E : Value → Shared → Prop) : Inv (X.wish E) pins σ H s := ⟨I.ok.wish E, I.os, I.bare, I.base, I.loc, I.cell, I.free, I.freeC, I.pin, I.hok, I.len⟩
theorem Inv.unwish (I : Inv (X.wish E) pins σ H s) : Inv X pins σ H s := ⟨I.ok.unwish, I.os, I.bare, I.base, I.loc, I.cell, I.free, I.freeC, I.pin, I.hok, I.len⟩
theorem SP.unwish {D : Ends} {f : Flow} {s' : Shared} (h : SP (X.wish E) pins D f s') : SP X pins D f s' := by
  cases f with
  | next => obtain ⟨σ', H', I, q⟩ := h; exact ⟨σ', H', I.unwish, q⟩
  | brk => obtain ⟨σ', H', I, q⟩ := h; exact ⟨σ', H', I.unwish, q⟩
  | cont => obtain ⟨σ', H', I, q⟩ := h; exact ⟨σ', H', I.unwish, q⟩
  | ret u => obtain ⟨v, σ', H', I, r, q⟩ := h; exact ⟨v, σ', H', I.unwish, r, q⟩
theorem PSs.nox {st : List Stmt} {t : TS} (h : PSs X.nox st t) : PSs X st t := fun pins s σ H D I hw =>
  wpAny_mono (h pins s σ H D (I.wish _) hw) (fun _ _ q => q.unwish) fun _ _ z => False.elim z
end

/-! ### blocks and small statements -/
section
variable {X : Cx} {st : Stmt} {rest : List Stmt} {t u : TS} {e : Expr} {te : TE} {pos : Pos}
def tNext : TS := fun D σ H => D.nx σ H
def tSeq (t u : TS) : TS := fun D σ H => t { D with nx := u D } σ H
theorem pss_nil : PSs X [] tNext := fun _ _ σ H _ I h => wpAny_execs_nil ⟨σ, H, I, h⟩
theorem pss_cons (h1 : PS X st t) (h2 : PSs X rest u) : PSs X (st :: rest) (tSeq t u) := by
  intro pins s σ H D I h
  refine wpAny_execs_cons (thn (h1 pins s σ H { D with nx := u D } I h) fun f s1 q => ?_)
  cases f with
  | next =>
    obtain ⟨σ', H', I', q⟩ := q
    exact h2 pins s1 σ' H' D I' q
  | ret v => exact q
  | brk => exact q
  | cont => exact q
theorem pss_one (h1 : PS X st t) : PSs X [st] t := by
  intro pins s σ H D I h
  refine wpAny_execs_cons (thn (h1 pins s σ H D I h) fun f s1 q => ?_)
  cases f with
  | next => exact wpAny_execs_nil q
  | ret v => exact q
  | brk => exact q
  | cont => exact q
def tBreak : TS := fun D σ H => D.bk σ H
def tCont : TS := fun D σ H => D.ct σ H
/-- in a def's body nothing is shown -/
theorem Inv.quiet {pins : List (Addr × Obj)} {σ : St} {H : Hp} {s : Shared} (I : Inv X pins σ H s) : interactive X.env = false := by simp [interactive, I.ok.kind]
/-- an expression whose value is dropped -/
def tDrop (te : TE) : TS := fun D σ H => te σ H fun _ H1 => D.nx σ H1
theorem ps_expr (he : PE X e te) (hs : swapsWith e none pos.line X.env = pure false := by rfl) : PS X (.Expr e pos) (tDrop te) := by
  intro pins s σ H D I h
  exact wpAny_Expr_any (thn (he pins s σ H _ I h) fun v s1 ⟨x, H1, I1, r1, q1⟩ => ⟨σ, H1, I1, q1⟩) I.quiet hs
def tRet (te : TE) : TS := fun D σ H => te σ H D.rt
theorem ps_ret (he : PE X e te) : PS X (.Return (some e) pos) (tRet te) := by
  intro pins s σ H D I h
  exact wpAny_Return_some (thn (he pins s σ H _ I h) fun v s1 ⟨x, H1, I1, r1, q1⟩ => ⟨x, σ, H1, I1, r1, q1⟩)
def tRetN : TS := fun D _ H => D.rt .non H
def tIfS (c : TT) (t u : TS) : TS := fun D σ H => c σ H fun b H1 => if b = true then t D σ H1 else u D σ H1
theorem ps_if {c : Expr} {a b : List Stmt} {tc : TT} (hc : PT X c tc) (ha : PSs X a t) (hb : PSs X b u) : PS X (.If c a b pos) (tIfS tc t u) := by
  intro pins s σ H D I h
  refine wpAny_If (thn (hc pins s σ H _ I h) fun d s1 ⟨H1, I1, q1⟩ => ?_)
  cases d with
  | true => exact ha pins s1 σ H1 D I1 q1
  | false => exact hb pins s1 σ H1 D I1 q1
/-- code that the proof never comes to -/
def tNever : TS := fun _ _ _ => False
end

/-! ### targets -/
abbrev TG := V → St → Hp → (St → Hp → Prop) → Prop
abbrev TGs := List V → St → Hp → (St → Hp → Prop) → Prop
def PG (X : Cx) (target : Expr) (t : TG) : Prop :=
  ∀ (pins : List (Addr × Obj)) (s : Shared) (σ : St) (H : Hp) (v : V) (u : Value) (Q : St → Hp → Prop), Inv X pins σ H s → RelV v u → t v σ H Q →
    wpAny (model X.prog X.w) X.A (assign target X.env u) (fun _ s' => ∃ σ' H', Inv X pins σ' H' s' ∧ Q σ' H') X.xe s
/-- several targets, one after another -/
def PGs (X : Cx) (ts : List Expr) (t : TGs) : Prop :=
  ∀ (pins : List (Addr × Obj)) (s : Shared) (σ : St) (H : Hp) (vs : List V) (us : List Value) (Q : St → Hp → Prop), Inv X pins σ H s → Vals vs us → t vs σ H Q →
    wpAny (model X.prog X.w) X.A (assignInOrder ((assignEach ts X.env).map (·.2)) us) (fun _ s' => ∃ σ' H', Inv X pins σ' H' s' ∧ Q σ' H') X.xe s
/-- o[i] = v, by values -/
abbrev TSet := V → V → V → Hp → (Hp → Prop) → Prop
def PSet (X : Cx) (t : TSet) : Prop :=
  ∀ (pins : List (Addr × Obj)) (s : Shared) (σ : St) (H : Hp) (o i v : V) (ov iv u : Value) (Q : Hp → Prop), Inv X pins σ H s → RelV o ov → RelV i iv → RelV v u → t o i v H Q →
    wpAny (model X.prog X.w) X.A (setItem ov iv u) (fun _ s' => ∃ H', Inv X pins σ H' s' ∧ Q H') X.xe s
/-- a op= b, by values -/
abbrev TIp := V → V → Hp → VK → Prop
def PIp (X : Cx) (op : Operator) (t : TIp) : Prop :=
  ∀ (pins : List (Addr × Obj)) (s : Shared) (σ : St) (H : Hp) (x y : V) (v u : Value) (Q : VK), Inv X pins σ H s → RelV x v → RelV y u → t x y H Q →
    wpAny (model X.prog X.w) X.A (inplaceOp op v u) (EP X pins σ Q) X.xe s
section
variable {X : Cx} {pos : Pos}
def gName (i : Nat) : TG := fun v σ H Q => Q (σ.set i (some v)) H
theorem pg_name {i : Nat} {x : Str} (hN : X.N.Nodup) (hi : X.N[i]? = some x) (hx : Loc X.env.scope x) (hf : X.fn x = true ∨ X.env.scope.names.lookup x = some .local := by first | exact .inl rfl | exact .inr rfl | assumption) : PG X (.Name x pos) (gName i) := by
  intro pins s σ H v u Q I r h
  exact wpAny_assign_Name (store_ok I hN hi hx r (fun s' I' => ⟨_, H, I', h⟩) hf)
def gNil : TGs := fun vs σ H Q => vs = [] ∧ Q σ H
def gCons (t : TG) (u : TGs) : TGs := fun vs σ H Q => ∃ v r, vs = v :: r ∧ t v σ H fun σ' H' => u r σ' H' Q
theorem pgs_nil : PGs X [] gNil := by
  intro pins s σ H vs us Q I r h
  obtain ⟨e, h⟩ := h
  subst e
  cases r
  exact assignInOrder_nil ⟨σ, H, I, h⟩
theorem pgs_cons {e : Expr} {es : List Expr} {t : TG} {u : TGs} (h1 : PG X e t) (h2 : PGs X es u)
    (hs : (assignEach (e :: es) X.env).map (·.2) = assign e X.env :: (assignEach es X.env).map (·.2) := by rfl) : PGs X (e :: es) (gCons t u) := by
  intro pins s σ H vs us Q I r h
  obtain ⟨v, vr, e1, h⟩ := h
  subst e1
  cases r with
  | cons r rr =>
    rw [hs]
    refine assignInOrder_cons (thn (h1 pins s σ H _ _ _ I r h) fun _ s1 ⟨σ1, H1, I1, q1⟩ => ?_)
    exact h2 pins s1 σ1 H1 _ _ Q I1 rr q1
/-- (a, b, ..) = a tuple of that length -/
def gTup (K : PySem.W.Frag) (n : Nat) (t : TGs) : TG := fun v σ H Q => ∃ a xs, v = .ref a ∧ SqT K H a xs ∧ xs.length = n ∧ t xs σ H Q
theorem pg_tup {es : List Expr} {k : Nat} {t : TGs} {n : Nat} (hc : X.calm = true) (h : PGs X es t)
    (hn : (assignEach es X.env).length = n := by rfl) (hst : (assignEach es X.env).findIdx? (·.1) = none := by rfl) : PG X (.Tuple es k pos) (gTup X.K n t) := by
  intro pins s σ H v u Q I r hw
  obtain ⟨a, xs, e1, hq, hl, hw⟩ := hw
  subst e1
  cases r
  obtain ⟨its, rv, ht, hz⟩ := I.tuple hq
  refine assign_Tuple_tuple (I.ok.hd hc) ht (by simp [hn, ← hl, rv.length]) hst fun h' hx => ?_
  have I1 : Inv X pins σ H { s with heap := h' } := I.kept (t' := s.toks) fun b o e => hx b o (Nat.ne_of_lt (Heap.lt_size e)) e
  exact h pins _ σ H xs _ Q I1 (by simpa using rv) hw
/-- o[i] = .. -/
def gSub (to ti : TE) (t : TSet) : TG := fun v σ H Q => to σ H fun o H1 => ti σ H1 fun i H2 => t o i v H2 fun H3 => Q σ H3
theorem pg_sub {o i : Expr} {to ti : TE} {t : TSet} (ho : PE X o to) (hi : PE X i ti) (hs : PSet X t)
    (ha : ∀ v, assign (.Subscript o i pos) X.env v = (do
      let ov ← holding [v] (eval o X.env)
      let iv ← holding [v, ov] (eval i X.env)
      standAt pos
      holding [v, ov, iv] (setItem ov iv v)
      release [v, ov, iv] []) := by intro _; rfl) : PG X (.Subscript o i pos) (gSub to ti t) := by
  intro pins s σ H v u Q I r h
  rw [ha]
  refine wpAny_bind (wpAny_holding (thn (ho pins s σ H _ I h) fun ov s1 ⟨x, H1, I1, r1, q1⟩ => ?_))
  refine wpAny_bind (wpAny_holding (thn (hi pins s1 σ H1 _ I1 q1) fun iv s2 ⟨y, H2, I2, r2, q2⟩ => ?_))
  refine wpAny_bind (wpAny_standAt (wpAny_bind (wpAny_holding (thn (hs pins s2 σ H2 x y v ov iv u _ I2 r1 r2 r q2) fun _ s3 ⟨H3, I3, q3⟩ => ?_))))
  exact wpAny_release ⟨σ, H3, I3, q3⟩
/-- target = value -/
def tAsg (te : TE) (g : TG) : TS := fun D σ H => te σ H fun x H1 => g x σ H1 D.nx
theorem ps_asg {tg e : Expr} {te : TE} {g : TG} (he : PE X e te) (hg : PG X tg g) (hs : swapsWithSole [tg] e pos.line X.env = pure false := by rfl) (hw : swappedStores [tg] e X.env = pure none := by rfl)
    (h1 : (assignEach [tg] X.env).map (·.2) = [assign tg X.env] := by rfl) : PS X (.Assign [tg] e pos) (tAsg te g) := by
  intro pins s σ H D I h
  refine wpAny_Assign_stores (thn (he pins s σ H _ I h) fun v s1 ⟨x, H1, I1, r1, q1⟩ => ?_) hs hw
  rw [h1]
  exact thn (hg pins s1 σ H1 x v _ I1 r1 q1) fun _ s2 q => q
/-- name = value -/
theorem ps_set {i : Nat} {x : Str} {e : Expr} {te : TE} {pos' : Pos} (hN : X.N.Nodup) (hi : X.N[i]? = some x) (hx : Loc X.env.scope x) (he : PE X e te) (hs : swapsWith e (some (.Name x pos')) pos.line X.env = pure false := by rfl) (hf : X.fn x = true ∨ X.env.scope.names.lookup x = some .local := by first | exact .inl rfl | exact .inr rfl | assumption) :
    PS X (.Assign [.Name x pos'] e pos) (tAsg te (gName i)) := by
  intro pins s σ H D I h
  refine wpAny_Assign_Name (thn (he pins s σ H _ I h) fun v s1 ⟨y, H1, I1, r1, q1⟩ => ?_) hs
  exact store_ok I1 hN hi hx r1 (fun s2 I2 => ⟨_, H1, I2, q1⟩) hf
/-- a, b = x, y with plain local names: stored from the right; the pair itself is not tracked (the opening rows as in PyProof/Rows/TupAssign.lean:23) -/
def tPar (i j : Nat) (ta : TA) : TS := fun D σ H => ta σ H fun vs H1 => ∃ v w, vs = [v, w] ∧ D.nx ((σ.set i (some v)).set j (some w)) H1
/-- name op= e -/
def tAug (i : Nat) (te : TE) (ti : TIp) : TS := fun D σ H => ∃ x, σ[i]? = some (some x) ∧ te σ H fun y H1 => ti x y H1 fun z H2 => D.nx (σ.set i (some z)) H2
/-- o[i] op= e -/
def tAugS (to ti te : TE) (tget : V → V → Hp → VK → Prop) (tip : TIp) (tset : TSet) : TS := fun D σ H => to σ H fun o H1 => ti σ H1 fun i H2 => tget o i H2 fun x H3 => te σ H3 fun y H4 => tip x y H4 fun z H5 => tset o i z H5 fun H6 => D.nx σ H6
/-- o[i], by values -/
def PGet (X : Cx) (t : V → V → Hp → VK → Prop) : Prop :=
  ∀ (pins : List (Addr × Obj)) (s : Shared) (σ : St) (H : Hp) (o i : V) (ov iv : Value) (Q : VK), Inv X pins σ H s → RelV o ov → RelV i iv → t o i H Q →
    wpAny (model X.prog X.w) X.A (getItem ov iv) (EP X pins σ Q) X.xe s
/-- ints -/
def ipI (f : Int → Int → Int) : TIp := fun x y H Q => ∃ i j, x = .int i ∧ y = .int j ∧ Q (.int (f i j)) H
end

/-! ### while -/
section
variable {X : Cx} {pos : Pos}
/-- the invariant W with its measure -/
def tWhile (c : TT) (tb : TS) : TS := fun D σ H => ∃ W : Nat → St → Hp → Prop, (∃ m, W m σ H) ∧ ∀ m σ H, W m σ H →
  c σ H fun b H1 => if b = true then ∃ N : St → Hp → Prop, (∀ σ' H', N σ' H' → ∃ m', m' < m ∧ W m' σ' H') ∧ tb { D with nx := N, ct := N, bk := D.nx } σ H1 else D.nx σ H1
theorem ps_while {c : Expr} {body : List Stmt} {tc : TT} {tb : TS} (hp : PassesOwn (model X.prog X.w) X.A X.env X.xe) (hc : PT X c tc) (hb : PSs X body tb) : PS X (.While c body [] pos) (tWhile tc tb) := by
  intro pins s σ H D I h
  obtain ⟨W, ⟨m0, w0⟩, turn⟩ := h
  refine wpAny_While (codeAny_whileLoop (fun n s' => ∃ σ' H', Inv X pins σ' H' s' ∧ W n σ' H') ?_ m0 ⟨σ, H, I, w0⟩)
  rintro n s1 ⟨σ1, H1, I1, w1⟩
  refine wpAny_passesOwn hp (thn (hc pins s1 σ1 H1 _ I1 (turn n σ1 H1 w1)) fun b s2 ⟨H2, I2, q2⟩ => ?_)
  cases b with
  | true =>
    obtain ⟨N, hN, q2⟩ := q2
    rw [if_pos rfl]
    refine wpAny_passesOwn hp (thn (hb pins s2 σ1 H2 _ I2 q2) fun f s3 q3 => ?_)
    cases f with
    | next =>
      obtain ⟨σ3, H3, I3, n3⟩ := q3
      obtain ⟨m', hm, w3⟩ := hN σ3 H3 n3
      exact ⟨m', hm, σ3, H3, I3, w3⟩
    | cont =>
      obtain ⟨σ3, H3, I3, n3⟩ := q3
      obtain ⟨m', hm, w3⟩ := hN σ3 H3 n3
      exact ⟨m', hm, σ3, H3, I3, w3⟩
    | brk => exact q3
    | ret v => exact q3
  | false =>
    rw [if_neg Bool.false_ne_true]
    exact wpAny_execs_nil ⟨σ1, H2, I2, q2⟩
end

/-! ### what a loop or a comprehension walks -/
/-- at turn i: it yields x (the heap may grow), or it stops -/
structure It where
  go : Nat → Hp → Prop
  yld : Nat → Hp → V → Hp → Prop
  stop : Nat → Hp → Prop
/-- the iterator's own objects may turn: they are not the frame's, not pinned, younger than the entry (or a comprehension's own) -/
def FpOk (X : Cx) (pins : List (Addr × Obj)) (H : Hp) (b : Addr) : Prop :=
  H b = none ∧ b ≠ X.env.locals ∧ b ∉ X.fs ∧ (b ∈ X.ex ∨ X.s₀.heap.objs.size ≤ b) ∧ (∀ x c, X.env.cells.lookup x = some c → c ≠ b) ∧ ∀ p ∈ X.pn ++ pins, p.1 ≠ b
theorem Inv.fpOk {X : Cx} {pins : List (Addr × Obj)} {σ : St} {H H' : Hp} {s : Shared} {b : Addr} (I : Inv X pins σ H s) (hb : s.heap.objs.size ≤ b) (hn : H' b = none) : FpOk X pins H' b := by
  refine ⟨hn, Nat.ne_of_gt (Nat.lt_of_lt_of_le I.lt hb), I.nofs hb, .inr (Nat.le_trans I.sz hb), fun x c e z => ?_, fun p hp z => ?_⟩
  · obtain ⟨v, q⟩ := I.cell x c e
    exact absurd (Nat.lt_of_lt_of_le q.lt (by rw [z]; exact hb)) (Nat.lt_irrefl _)
  · exact absurd (Nat.lt_of_lt_of_le (Heap.lt_size (I.pin p hp).1) (by rw [z]; exact hb)) (Nat.lt_irrefl _)
structure Turn (P : Program) (w : World) (K : PySem.W.Frag) (tg : Expr) (J : It) (fp : List Addr) (it : Addr) (tn : Nat → Heap → Prop) : Prop where
  mem : it ∈ fp
  obj : ∀ i h, tn i h → ∀ b ∈ fp, ∃ o, h.get? b = some o ∧ ∀ v, o.data ≠ .cell v
  keep : ∀ i h h', tn i h → (∀ b ∈ fp, ∀ o, h.get? b = some o → h'.get? b = some o) → tn i h'
  item : ∀ (X : Cx), X.prog = P → X.w = w → X.K = K → X.calm = true → ∀ (i : Nat) (pins : List (Addr × Obj)) (s : Shared) (σ : St) (H : Hp) (E : Value → Shared → Prop), Inv X pins σ H s → (∀ b ∈ fp, FpOk X pins H b) → tn i s.heap → J.go i H →
    wpAny (model P w) X.A (pyNext (.ref it)) (fun r s1 => ∃ u, r = some u ∧
      wpAny (model P w) X.A (letOwnedTupleGo tg (.ref it) u) (fun _ s2 => ∃ x H', Inv X pins σ H' s2 ∧ RelV x u ∧ J.yld i H x H' ∧ tn (i + 1) s2.heap ∧ ∀ b ∈ fp, H' b = none) E s1) E s
  done : ∀ (X : Cx), X.prog = P → X.w = w → X.K = K → X.calm = true → ∀ (i : Nat) (pins : List (Addr × Obj)) (s : Shared) (σ : St) (H : Hp) (E : Value → Shared → Prop), Inv X pins σ H s → (∀ b ∈ fp, FpOk X pins H b) → tn i s.heap → J.stop i H →
    wpAny (model P w) X.A (pyNext (.ref it)) (fun r s1 => r = none ∧ Inv X pins σ H s1) E s
  self : ∀ (A : Around) (i : Nat) (s : Shared) (Q : Value → Shared → Prop) (E : Value → Shared → Prop), tn i s.heap → Q (.ref it) s → wpAny (model P w) A (pyIter (.ref it)) Q E s
abbrev TI := St → Hp → (It → Hp → Prop) → Prop
/-- an iterator has come -/
def PIE (X : Cx) (pins : List (Addr × Obj)) (σ : St) (tg : Expr) (R : It → Hp → Prop) (itv : Value) (s2 : Shared) : Prop :=
  ∃ (it : Addr) (fp : List Addr) (tn : Nat → Heap → Prop) (J : It) (H' : Hp), itv = .ref it ∧ Inv X pins σ H' s2 ∧ Turn X.prog X.w X.K tg J fp it tn ∧ tn 0 s2.heap ∧ (∀ b ∈ fp, FpOk X pins H' b) ∧ R J H'
def PI (X : Cx) (tg iter : Expr) (wi : TI) : Prop :=
  ∀ (pins : List (Addr × Obj)) (s : Shared) (σ : St) (H : Hp) (R : It → Hp → Prop), Inv X pins σ H s → wi σ H R →
    wpAny (model X.prog X.w) X.A (eval iter X.env) (fun v s1 => wpAny (model X.prog X.w) X.A (pyIter v) (PIE X pins σ tg R) X.xe s1) X.xe s

/-- the step ahead of the store is nothing for an iterator that keeps no tuple -/
theorem go_of {M : Model} {A : Around} {E : Value → Shared → Prop} {s : Shared} {tg : Expr} {it : Addr} {u : Value} {o : Obj} {n : String} {vs : Array Value} {Q : Unit → Shared → Prop} (ho : s.heap.get? it = some o) (hc : o.cls = .type n) (hd : o.data = .fields vs)
    (hn : ["enumerate", "zip", "dict_itemiterator", "dict_reverseitemiterator", "odict_iterator", "itertools.zip_longest", "itertools.pairwise"].contains n = false) (hQ : Q () s) : wpAny M A (letOwnedTupleGo tg (.ref it) u) Q E s := by
  unfold letOwnedTupleGo
  cases tg <;> first
    | exact wpAny_pure hQ
    | (cases u <;> first
        | exact wpAny_pure hQ
        | (refine wpAny_bind (wpAny_load ho ?_)
           rw [hc, hd]
           show wpAny M A (if (["enumerate", "zip", "dict_itemiterator", "dict_reverseitemiterator", "odict_iterator", "itertools.zip_longest", "itertools.pairwise"].contains n && vs[0]? == some (rawInt _)) = true then _ else _) Q E s
           rw [if_neg (by intro h; rw [hn, Bool.false_and] at h; cases h)]
           exact wpAny_pure hQ))

/-- the list at a, as it stands at each turn (a loop may append to it) -/
def Itl (K : PySem.W.Frag) (a : Addr) : It :=
  ⟨fun i H => ∃ xs x, SqL K H a xs ∧ xs[i]? = some x, fun i H x H' => H' = H ∧ ∀ xs, SqL K H a xs → xs[i]? = some x, fun i H => ∃ xs, SqL K H a xs ∧ xs.length ≤ i⟩
def Itt (K : PySem.W.Frag) (a : Addr) : It :=
  ⟨fun i H => ∃ xs x, SqT K H a xs ∧ xs[i]? = some x, fun i H x H' => H' = H ∧ ∀ xs, SqT K H a xs → xs[i]? = some x, fun i H => ∃ xs, SqT K H a xs ∧ xs.length ≤ i⟩
/-- lo, lo + 1, .. (n of them) -/
def Itr (lo : Int) (n : Nat) : It := ⟨fun i _ => i < n, fun i H x H' => H' = H ∧ x = .int (lo + i), fun i _ => n ≤ i⟩
theorem turn_list {P : Program} {w : World} {K : PySem.W.Frag} {tg : Expr} (a it : Addr) : Turn P w K tg (Itl K a) [it] it (fun i h => h.IsListIter it a i) where
  mem := by simp
  obj := fun i h st b hb => by
    have e : b = it := by simpa using hb
    subst e
    obtain ⟨o, e, c, d⟩ := st
    exact ⟨o, e, fun v z => by rw [d] at z; cases z⟩
  keep := fun i h h' st k => st.at fun o e => k it (by simp) o e
  item := by
    intro X hP hw hK hc i pins s σ H E I hf st hg
    subst hP hw hK
    obtain ⟨xs, x, hq, hx⟩ := hg
    obtain ⟨its, rv, p, hz⟩ := I.list hq
    obtain ⟨u, hu, ru⟩ := rv.get hx
    obtain ⟨f0, f1, f2, f3, f4, f5⟩ := hf it (by simp)
    refine wpAny_pyNext_list_item st p.isList (x := u) (by simpa using hu) fun h' st' sb => ?_
    have I1 : Inv X pins σ H { s with heap := h' } := I.turned (t' := s.toks) (fun b o hb e => (sb.2 b hb).trans e) f0 f1 f3 f4 f5
    obtain ⟨o, e, c, d⟩ := id st'
    exact ⟨u, rfl, go_of (s := { s with heap := h' }) e c d (by decide) ⟨x, H, I1, ru, ⟨rfl, fun ys hy => by rw [I.list_inj hy hq]; exact hx⟩, st', fun b hb => (hf b hb).1⟩⟩
  done := by
    intro X hP hw hK hc i pins s σ H E I hf st hg
    subst hP hw hK
    obtain ⟨xs, hq, hx⟩ := hg
    obtain ⟨its, rv, p, hz⟩ := I.list hq
    obtain ⟨f0, f1, f2, f3, f4, f5⟩ := hf it (by simp)
    have hl := rv.length
    exact wpAny_pyNext_list_end (I.ok.hd hc) st p.isList (by simp; omega) fun h' eb => ⟨rfl, I.turned (t' := s.toks) (fun b o hb e => eb b o hb e) f0 f1 f3 f4 f5⟩
  self := fun _ _ _ _ _ st h => wpAny_pyIter_listiter st h
theorem turn_range {P : Program} {w : World} {K : PySem.W.Frag} {tg : Expr} (it : Addr) (lo : Int) (n : Nat) : Turn P w K tg (Itr lo n) [it] it (fun i h => IsRangeIter h it (lo + (i : Nat) * 1) ((n : Int) - (i : Nat)) 1) where
  mem := by simp
  obj := fun i h st b hb => by
    have e : b = it := by simpa using hb
    subst e
    exact ⟨_, st, fun v z => by
      have z' : Data.fields _ = Data.cell v := z
      cases z'⟩
  keep := fun i h h' st k => k it (by simp) _ st
  item := by
    intro X hP hw hK hc i pins s σ H E I hf st hg
    subst hP hw hK
    obtain ⟨f0, f1, f2, f3, f4, f5⟩ := hf it (by simp)
    have W := Walks.range (prog := X.prog) (w := X.w) (I.ok.hd hc) it lo 1 n
    refine W.item i s _ _ hg st fun v h' tk hv st' kk => ?_
    obtain ⟨t, rfl⟩ := hv
    have I1 : Inv X pins σ H { s with heap := h', toks := tk } := I.turned (fun b o hb e => kk b o (by simpa using hb) e) f0 f1 f3 f4 f5
    refine ⟨_, rfl, go_of (s := { s with heap := h', toks := tk }) (n := "range_iterator") st' rfl rfl (by decide) ⟨.int (lo + i), H, I1, ⟨t, ?_⟩, ⟨rfl, rfl⟩, st', fun b hb => (hf b hb).1⟩⟩
    rw [Int.mul_one]
  done := by
    intro X hP hw hK hc i pins s σ H E I hf st hg
    subst hP hw hK
    obtain ⟨f0, f1, f2, f3, f4, f5⟩ := hf it (by simp)
    exact wpAny_pyNext_range_end (I.ok.hd hc) st (by have : n ≤ i := hg; omega) fun h' eb => ⟨rfl, I.turned (t' := s.toks) (fun b o hb e => eb b o hb e) f0 f1 f3 f4 f5⟩
  self := fun _ _ _ _ _ st h => wpAny_pyIter_rangeiter st h
end L2

namespace L2
open PySem PySem.Spec PyProof.Rows
section
variable {X : Cx} {tg : Expr}
def iList (K : PySem.W.Frag) (tl : TE) : TI := fun σ H R => tl σ H fun x H1 => ∃ a, x = .ref a ∧ (∃ xs, SqL K H1 a xs) ∧ R (Itl K a) H1
def iTup (K : PySem.W.Frag) (tl : TE) : TI := fun σ H R => tl σ H fun x H1 => ∃ a, x = .ref a ∧ (∃ xs, SqT K H1 a xs) ∧ R (Itt K a) H1
theorem pi_list {l : Expr} {tl : TE} (hl : PE X l tl) : PI X tg l (iList X.K tl) := by
  intro pins s σ H R I h
  refine thn (hl pins s σ H _ I h) fun v s1 ⟨x, H1, I1, r1, q1⟩ => ?_
  obtain ⟨a, e, ⟨xs, hq⟩, q⟩ := q1
  subst e
  cases r1
  obtain ⟨its, rv, p, hz⟩ := I1.list hq
  refine wpAny_pyIter_list p.isList ?_
  refine ⟨s1.heap.objs.size, [s1.heap.objs.size], _, _, H1, rfl, I1.kept (t' := s1.toks) fun b o e => Heap.get?_push_of_some _ e, turn_list a _, ⟨_, Heap.get?_push_size _ rfl, rfl, rfl⟩, fun b hb => ?_, q⟩
  have e : b = s1.heap.objs.size := by simpa using hb
  subst e
  exact I1.fpOk (Nat.le_refl _) (I1.hok.fresh (Nat.le_refl _))
/-- a range object just made, walked -/
theorem range_it {pins : List (Addr × Obj)} {σ : St} {H : Hp} {s : Shared} {R : It → Hp → Prop} {E : Value → Shared → Prop} {lo hi : Int} {t u v : Tok} {tk : Nat} (I : Inv X pins σ H s) (h1 : -(2 ^ 62) ≤ lo) (h2 : lo < 2 ^ 62) (h3 : -(2 ^ 62) ≤ hi) (h4 : hi < 2 ^ 62)
    (q : R (Itr lo (hi - lo).toNat) H) : wpAny (model X.prog X.w) X.A (pyIter (.ref s.heap.objs.size)) (PIE X pins σ tg R) E { s with heap := s.heap.push { cls := .type "range", data := .fields #[.int lo t, .int hi u, .int 1 v] }, toks := tk } := by
  refine wpAny_pyIter_range (IsRange.new ..) (small_one h1 h2 h3 h4) ?_
  have I1 : Inv X pins σ H { s with heap := s.heap.push { cls := .type "range", data := .fields #[.int lo t, .int hi u, .int 1 v] }, toks := tk } := I.kept fun b o e => Heap.get?_push_of_some _ e
  refine ⟨(s.heap.push { cls := .type "range", data := .fields #[.int lo t, .int hi u, .int 1 v] }).objs.size, [(s.heap.push { cls := .type "range", data := .fields #[.int lo t, .int hi u, .int 1 v] }).objs.size], _, _, H, rfl,
    I1.kept (t' := tk) fun b o e => Heap.get?_push_of_some _ e, turn_range _ lo (hi - lo).toNat, ?_, fun b hb => ?_, q⟩
  · have e1 : lo + ((0 : Nat) : Int) * 1 = lo := by simp
    have e2 : (((hi - lo).toNat : Nat) : Int) - ((0 : Nat) : Int) = Builtin.Range.rangeSize lo hi 1 := by rw [rangeSize_one]; split <;> omega
    show IsRangeIter _ _ (lo + ((0 : Nat) : Int) * 1) ((((hi - lo).toNat : Nat) : Int) - ((0 : Nat) : Int)) 1
    rw [e1, e2]
    exact Heap.get?_push_size _ rfl
  · have e : b = (s.heap.push { cls := .type "range", data := .fields #[.int lo t, .int hi u, .int 1 v] }).objs.size := by simpa using hb
    subst e
    exact I1.fpOk (Nat.le_refl _) (I1.hok.fresh (Nat.le_refl _))
def iRng1 (ta : TA) : TI := fun σ H R => ta σ H fun vs H1 => ∃ j : Int, vs = [.int j] ∧ -(2 ^ 62) ≤ j ∧ j < 2 ^ 62 ∧ R (Itr 0 j.toNat) H1
def iRng2 (ta : TA) : TI := fun σ H R => ta σ H fun vs H1 => ∃ i j : Int, vs = [.int i, .int j] ∧ (-(2 ^ 62) ≤ i ∧ i < 2 ^ 62 ∧ -(2 ^ 62) ≤ j ∧ j < 2 ^ 62) ∧ R (Itr i (j - i).toNat) H1
theorem pi_range1 {a : Expr} {ta : TA} {p pos : Pos} (hg : Gl X "range") (hm : X.mg "range" = none) (ha : PA X [a] ta) (hs : starEach [a] X.env = [(false, eval a X.env)] := by rfl) : PI X tg (.Call (.Name "range" p) [a] [] pos) (iRng1 ta) := by
  intro pins s σ H R I h
  refine Call_ (ld_blt I hg hm boot_range (PyProof.Rows.callWith_type1 (thn (ha pos pins s σ H _ I h) fun us s1 ⟨vs, H1, I1, r1, q1⟩ => ?_) hs rfl))
  obtain ⟨j, e, q1, q2, q⟩ := q1
  subst e
  cases r1 with
  | cons r rr =>
    cases rr
    obtain ⟨t, rfl⟩ := r
    exact call_range_1 (range_it I1 (by omega) (by omega) q1 q2 (by simpa using q))
/-! ### for -/
/-- W: the invariant by the turn and a measure; N: what the body is to reach -/
def tFor (wi : TI) (g : TG) (tb : TS) : TS := fun D σ H => wi σ H fun J H1 => ∃ W : Nat → Nat → St → Hp → Prop, (∃ m, W 0 m σ H1) ∧ ∀ i m σ H, W i m σ H →
  (J.stop i H ∧ D.nx σ H) ∨ (J.go i H ∧ ∃ N : St → Hp → Prop, (∀ σ' H', N σ' H' → ∃ m', m' < m ∧ W (i + 1) m' σ' H') ∧ ∀ x H', J.yld i H x H' → g x σ H' fun σ2 H2 => tb { D with nx := N, ct := N, bk := D.nx } σ2 H2)
/-- the records at fp as they stand -/
def pinsAt (fp : List Addr) (h : Heap) : List (Addr × Obj) := fp.filterMap fun b => (h.get? b).map fun o => (b, o)
theorem mem_pinsAt {fp : List Addr} {h : Heap} {b : Addr} {o : Obj} (hb : b ∈ fp) (e : h.get? b = some o) : (b, o) ∈ pinsAt fp h := List.mem_filterMap.mpr ⟨b, hb, by rw [e]; rfl⟩
theorem of_pinsAt {fp : List Addr} {h : Heap} {p : Addr × Obj} (hp : p ∈ pinsAt fp h) : p.1 ∈ fp ∧ h.get? p.1 = some p.2 := by
  obtain ⟨b, hb, e⟩ := List.mem_filterMap.mp hp
  cases q : h.get? b with
  | none => rw [q] at e; cases e
  | some o =>
    rw [q] at e
    have e' : (b, o) = p := Option.some.inj e
    subst e'
    exact ⟨hb, q⟩
theorem Inv.pinned {pins : List (Addr × Obj)} {σ : St} {H : Hp} {s : Shared} {fp : List Addr} (I : Inv X pins σ H s) (hf : ∀ b ∈ fp, FpOk X pins H b) (ho : ∀ b ∈ fp, ∃ o, s.heap.get? b = some o ∧ ∀ v, o.data ≠ .cell v) : Inv X (pins ++ pinsAt fp s.heap) σ H s :=
  I.pins_of fun p hp => (List.mem_append.mp hp).elim (fun z => I.pin p (List.mem_append_right _ z)) fun z => by
    obtain ⟨hb, e⟩ := of_pinsAt z
    obtain ⟨f0, f1, f2, _⟩ := hf p.1 hb
    obtain ⟨o, e', d⟩ := ho p.1 hb
    rw [e] at e'; cases e'
    exact ⟨e, f0, f1, f2, d⟩
theorem Inv.unpinned {pins pl : List (Addr × Obj)} {σ : St} {H : Hp} {s : Shared} (I : Inv X (pins ++ pl) σ H s) : Inv X pins σ H s := I.pins_of fun p hp => I.pin p (List.mem_append_right _ (List.mem_append_left _ hp))
theorem ps_for {iter : Expr} {body : List Stmt} {wi : TI} {g : TG} {tb : TS} {pos : Pos} (hp : PassesOwn (model X.prog X.w) X.A X.env X.xe) (hc : X.calm = true) (hi : PI X tg iter wi) (hg : PG X tg g) (hb : PSs X body tb)
    (hs : ∀ x, foldedSetIterable iter X.env x = pure x := by intro _; rfl) : PS X (.For tg iter body [] pos) (tFor wi g tb) := by
  intro pins s σ H D I h
  refine wpAny_For (thn (hi pins s σ H _ I h) fun v s1 h1 => thn h1 fun itv s2 h2 => ?_) hs
  obtain ⟨it, fp, tn, J, H2, e, I2, T, st2, f2, W, ⟨m0, w0⟩, turn⟩ := h2
  subst e
  -- what stays true of the iterator's objects through the loop
  have stat : ∀ {H' : Hp}, (∀ b ∈ fp, H' b = none) → ∀ b ∈ fp, FpOk X pins H' b := fun hn b hb => ⟨hn b hb, (f2 b hb).2⟩
  refine codeAny_forLoop_any (fun n s' => ∃ i σ' H', Inv X pins σ' H' s' ∧ tn i s'.heap ∧ (∀ b ∈ fp, H' b = none) ∧ W i n σ' H') ?_ m0 ⟨0, σ, H2, I2, st2, fun b hb => (f2 b hb).1, w0⟩
  rintro n s3 ⟨i, σ3, H3, I3, st3, fr3, w3⟩
  rcases turn i n σ3 H3 w3 with ⟨stop, qn⟩ | ⟨go, N, hN, step⟩
  · refine wpAny_passesOwn hp (thn (T.done X rfl rfl rfl hc i pins s3 σ3 H3 X.xe I3 (stat fr3) st3 stop) fun r s4 ⟨hr, I4⟩ => ?_)
    subst hr
    exact wpAny_execs_nil ⟨σ3, H3, I4, qn⟩
  · refine wpAny_passesOwn hp (thn (T.item X rfl rfl rfl hc i pins s3 σ3 H3 X.xe I3 (stat fr3) st3 go) fun r s4 ⟨u, hr, h4⟩ => ?_)
    subst hr
    refine wpAny_passesOwn hp (thn h4 fun _ s5 ⟨x, H5, I5, r5, y5, st5, fr5⟩ => ?_)
    have I5' := I5.pinned (stat fr5) (T.obj _ _ st5)
    refine wpAny_passesOwn hp (thn (hg _ s5 σ3 H5 x u _ I5' r5 (step x H5 y5)) fun _ s6 ⟨σ6, H6, I6, q6⟩ => ?_)
    refine wpAny_passesOwn hp (thn (hb _ s6 σ6 H6 _ I6 q6) fun f s7 q7 => ?_)
    have again : ∀ {σ7 : St} {H7 : Hp}, Inv X (pins ++ pinsAt fp s5.heap) σ7 H7 s7 → N σ7 H7 → ∃ m, m < n ∧ ∃ i σ' H', Inv X pins σ' H' s7 ∧ tn i s7.heap ∧ (∀ b ∈ fp, H' b = none) ∧ W i m σ' H' := fun {σ7 H7} I7 n7 => by
      obtain ⟨m', hm, w7⟩ := hN σ7 H7 n7
      refine ⟨m', hm, i + 1, σ7, H7, I7.unpinned, T.keep _ _ _ st5 fun b hb o e => (I7.pin (b, o) (List.mem_append_right _ (List.mem_append_right _ (mem_pinsAt hb e)))).1, fun b hb => ?_, w7⟩
      obtain ⟨o, e, d⟩ := T.obj _ _ st5 b hb
      exact (I7.pin (b, o) (List.mem_append_right _ (List.mem_append_right _ (mem_pinsAt hb e)))).2.1
    cases f with
    | next => obtain ⟨σ7, H7, I7, n7⟩ := q7; exact again I7 n7
    | cont => obtain ⟨σ7, H7, I7, n7⟩ := q7; exact again I7 n7
    | brk => obtain ⟨σ7, H7, I7, q7⟩ := q7; exact ⟨σ7, H7, I7.unpinned, q7⟩
    | ret v => obtain ⟨x7, σ7, H7, I7, r7, q7⟩ := q7; exact ⟨x7, σ7, H7, I7.unpinned, r7, q7⟩
end

/-! ### the forms one uses -/
/-- over a list that the body leaves as it is -/
theorem for_list {K : PySem.W.Frag} {a : Addr} {xs : List V} {g : TG} {tb : TS} {D : Ends} {σ : St} {H : Hp} (Pv : Nat → St → Hp → Prop) (h0 : Pv 0 σ H) (hl : ∀ i σ H, i ≤ xs.length → Pv i σ H → SqL K H a xs)
    (hs : ∀ i x σ H, xs[i]? = some x → Pv i σ H → g x σ H fun σ2 H2 => tb { D with nx := Pv (i + 1), ct := Pv (i + 1), bk := D.nx } σ2 H2) (hd : ∀ σ H, Pv xs.length σ H → D.nx σ H) :
    ∃ W : Nat → Nat → St → Hp → Prop, (∃ m, W 0 m σ H) ∧ ∀ i m σ H, W i m σ H →
      ((Itl K a).stop i H ∧ D.nx σ H) ∨ ((Itl K a).go i H ∧ ∃ N : St → Hp → Prop, (∀ σ' H', N σ' H' → ∃ m', m' < m ∧ W (i + 1) m' σ' H') ∧ ∀ x H', (Itl K a).yld i H x H' → g x σ H' fun σ2 H2 => tb { D with nx := N, ct := N, bk := D.nx } σ2 H2) := by
  refine ⟨fun i m σ H => m = xs.length - i ∧ i ≤ xs.length ∧ Pv i σ H, ⟨xs.length, by simp, Nat.zero_le _, h0⟩, ?_⟩
  rintro i m σ H ⟨rfl, hi, p⟩
  have q := hl i σ H hi p
  by_cases hlt : i < xs.length
  · refine .inr ⟨⟨xs, xs[i], q, by simp [hlt]⟩, Pv (i + 1), fun σ' H' p' => ⟨xs.length - (i + 1), by omega, rfl, hlt, p'⟩, fun x H' y => ?_⟩
    obtain ⟨e, y⟩ := y
    subst e
    exact hs i x σ _ (y xs q) p
  · have e : i = xs.length := by omega
    subst e
    exact .inl ⟨⟨xs, q, Nat.le_refl _⟩, hd σ H p⟩
theorem for_range {lo : Int} {n : Nat} {g : TG} {tb : TS} {D : Ends} {σ : St} {H : Hp} (Pv : Nat → St → Hp → Prop) (h0 : Pv 0 σ H)
    (hs : ∀ i σ H, i < n → Pv i σ H → g (.int (lo + i)) σ H fun σ2 H2 => tb { D with nx := Pv (i + 1), ct := Pv (i + 1), bk := D.nx } σ2 H2) (hd : ∀ σ H, Pv n σ H → D.nx σ H) :
    ∃ W : Nat → Nat → St → Hp → Prop, (∃ m, W 0 m σ H) ∧ ∀ i m σ H, W i m σ H →
      ((Itr lo n).stop i H ∧ D.nx σ H) ∨ ((Itr lo n).go i H ∧ ∃ N : St → Hp → Prop, (∀ σ' H', N σ' H' → ∃ m', m' < m ∧ W (i + 1) m' σ' H') ∧ ∀ x H', (Itr lo n).yld i H x H' → g x σ H' fun σ2 H2 => tb { D with nx := N, ct := N, bk := D.nx } σ2 H2) := by
  refine ⟨fun i m σ H => m = n - i ∧ i ≤ n ∧ Pv i σ H, ⟨n, by simp, Nat.zero_le _, h0⟩, ?_⟩
  rintro i m σ H ⟨rfl, hi, p⟩
  by_cases hlt : i < n
  · refine .inr ⟨hlt, Pv (i + 1), fun σ' H' p' => ⟨n - (i + 1), by omega, rfl, hlt, p'⟩, fun x H' y => ?_⟩
    obtain ⟨e, y⟩ := y
    subst e y
    exact hs i σ _ hlt p
  · have e : i = n := by omega
    subst e
    exact .inl ⟨Nat.le_refl _, hd σ H p⟩
end L2

namespace L2
open PySem PySem.Spec PyProof.Rows

abbrev R2 := V → V → Hp → VK → Prop
/-- a two-place operation on values: f is binaryOp op, inplaceOp op or compareOp op -/
def OpR (X : Cx) (f : Value → Value → Sem Value) (r : R2) : Prop :=
  ∀ (pins : List (Addr × Obj)) (s : Shared) (σ : St) (H : Hp) (x y : V) (v u : Value) (Q : VK), Inv X pins σ H s → RelV x v → RelV y u → r x y H Q →
    wpAny (model X.prog X.w) X.A (f v u) (EP X pins σ Q) X.xe s
/-- a one-place operation -/
def UnR (X : Cx) (f : Value → Sem Value) (r : V → Hp → VK → Prop) : Prop :=
  ∀ (pins : List (Addr × Obj)) (s : Shared) (σ : St) (H : Hp) (x : V) (v : Value) (Q : VK), Inv X pins σ H s → RelV x v → r x H Q →
    wpAny (model X.prog X.w) X.A (f v) (EP X pins σ Q) X.xe s
/-- a call of a value that is known (a builtin, a type) with values -/
def CallR (X : Cx) (f : Value) (r : List V → Hp → VK → Prop) : Prop :=
  ∀ (pins : List (Addr × Obj)) (s : Shared) (σ : St) (H : Hp) (xs : List V) (us : List Value) (Q : VK), Inv X pins σ H s → Vals xs us → r xs H Q →
    wpAny (model X.prog X.w) X.A (call f us) (EP X pins σ Q) X.xe s
/-- a value's truth -/
def TruR (X : Cx) (r : V → Hp → (Bool → Hp → Prop) → Prop) : Prop :=
  ∀ (pins : List (Addr × Obj)) (s : Shared) (σ : St) (H : Hp) (x : V) (v : Value) (Q : Bool → Hp → Prop), Inv X pins σ H s → RelV x v → r x H Q →
    wpAny (model X.prog X.w) X.A (truthy v) (TP X pins σ Q) X.xe s

def tOp (r : R2) (ta tb : TE) : TE := fun σ H Q => ta σ H fun x H1 => tb σ H1 fun y H2 => r x y H2 Q
def tUn (r : V → Hp → VK → Prop) (ta : TE) : TE := fun σ H Q => ta σ H fun x H1 => r x H1 Q
/-- ints in, under C, and a value out -/
def rI (C : Int → Int → Prop) (g : Int → Int → V) : R2 := fun x y H Q => ∃ i j, x = .int i ∧ y = .int j ∧ C i j ∧ Q (g i j) H
def rI0 (g : Int → Int → V) : R2 := fun x y H Q => ∃ i j, x = .int i ∧ y = .int j ∧ Q (g i j) H
def rU (g : Int → V) : V → Hp → VK → Prop := fun x H Q => ∃ i, x = .int i ∧ Q (g i) H

section
variable {X : Cx} {a b c : Expr} {ta tb tc : TE} {pos : Pos}

theorem binT (ha : PE X a ta) (hb : PE X b tb) {pins : List (Addr × Obj)} {s : Shared} {σ : St} {H : Hp} {R : V → V → Hp → Prop} (I : Inv X pins σ H s)
    (h : ta σ H fun x H1 => tb σ H1 fun y H2 => R x y H2) {Q : Value → Shared → Prop} {f : Value → Value → Sem Value}
    (hf : ∀ v u s2 x y H2, Inv X pins σ H2 s2 → RelV x v → RelV y u → R x y H2 → wpAny (model X.prog X.w) X.A (f v u) Q X.xe s2) :
    wpAny (model X.prog X.w) X.A (eval a X.env) (fun v s₁ => wpAny (model X.prog X.w) X.A (eval b X.env) (fun u s₂ => wpAny (model X.prog X.w) X.A (f v u) Q X.xe s₂) X.xe s₁) X.xe s := by
  refine thn (ha pins s σ H _ I h) fun v s1 ⟨x, H1, I1, r1, q1⟩ => ?_
  refine thn (hb pins s1 σ H1 _ I1 q1) fun u s2 ⟨y, H2, I2, r2, q2⟩ => ?_
  exact hf v u s2 x y H2 I2 r1 r2 q2

theorem pe_op {op : Operator} {r : R2} (ho : OpR X (binaryOp op) r) (ha : PE X a ta) (hb : PE X b tb) : PE X (.BinOp a op b pos) (tOp r ta tb) := by
  intro pins s σ H Q I h
  exact wpAny_BinOp (binT ha hb I h fun v u s2 x y H2 I2 rx ry q => ho pins s2 σ H2 x y v u Q I2 rx ry q)
theorem pe_un {op : UnaryOp} {r : V → Hp → VK → Prop} (ho : UnR X (unaryOp op) r) (ha : PE X a ta) : PE X (.UnaryOp op a pos) (tUn r ta) := by
  intro pins s σ H Q I h
  exact UnaryOp_ (thn (ha pins s σ H _ I h) fun v s1 ⟨x, H1, I1, r1, q1⟩ => ho pins s1 σ H1 x v Q I1 r1 q1)
/-! ### ints -/
theorem opI {f : Value → Value → Sem Value} {C : Int → Int → Prop} {g : Int → Int → Int}
    (rule : ∀ (i j : Int) (t u : Tok) (s : Shared) (Q : Value → Shared → Prop) (E : Value → Shared → Prop), C i j → Q (.int (g i j) s.toks) { s with toks := s.toks + 1 } → wpAny (model X.prog X.w) X.A (f (.int i t) (.int j u)) Q E s) :
    OpR X f (rI C fun i j => .int (g i j)) := by
  intro pins s σ H x y v u Q I rx ry h
  obtain ⟨i, j, rfl, rfl, hc, q⟩ := h
  obtain ⟨t, rfl⟩ := rx
  obtain ⟨t', rfl⟩ := ry
  exact rule i j t t' s _ _ hc ⟨.int (g i j), H, I.tok _, ⟨_, rfl⟩, q⟩
theorem opI0 {f : Value → Value → Sem Value} {g : Int → Int → Int}
    (rule : ∀ (i j : Int) (t u : Tok) (s : Shared) (Q : Value → Shared → Prop) (E : Value → Shared → Prop), Q (.int (g i j) s.toks) { s with toks := s.toks + 1 } → wpAny (model X.prog X.w) X.A (f (.int i t) (.int j u)) Q E s) :
    OpR X f (rI0 fun i j => .int (g i j)) := by
  intro pins s σ H x y v u Q I rx ry h
  obtain ⟨i, j, rfl, rfl, q⟩ := h
  obtain ⟨t, rfl⟩ := rx
  obtain ⟨t', rfl⟩ := ry
  exact rule i j t t' s _ _ ⟨.int (g i j), H, I.tok _, ⟨_, rfl⟩, q⟩
theorem opB0 {f : Value → Value → Sem Value} {g : Int → Int → Bool}
    (rule : ∀ (i j : Int) (t u : Tok) (s : Shared) (Q : Value → Shared → Prop) (E : Value → Shared → Prop), Q (.bool (g i j)) s → wpAny (model X.prog X.w) X.A (f (.int i t) (.int j u)) Q E s) :
    OpR X f (rI0 fun i j => .bl (g i j)) := by
  intro pins s σ H x y v u Q I rx ry h
  obtain ⟨i, j, rfl, rfl, q⟩ := h
  obtain ⟨t, rfl⟩ := rx
  obtain ⟨t', rfl⟩ := ry
  exact rule i j t t' s _ _ ⟨.bl (g i j), H, I, rfl, q⟩

def CDiv (i j : Int) : Prop := 0 < j ∧ j < 1073741824
def CDivN (i j : Int) : Prop := j ≠ 0 ∧ j.natAbs < 1073741824
def CPow (i j : Int) : Prop := 0 ≤ j ∧ j ≤ 1000000 ∧ i.natAbs < 2 ^ 64
def CMul (i j : Int) : Prop := (-(2 ^ 64) < i ∧ i < 2 ^ 64) ∨ (-(2 ^ 64) < j ∧ j < 2 ^ 64)
theorem CMul.ok {i j : Int} (h : CMul i j) : IntMulOk i j := by
  rcases h with ⟨h1, h2⟩ | ⟨h1, h2⟩
  · exact .of_left (intBits_le_64 h1 h2)
  · exact .of_right (intBits_le_64 h1 h2)
theorem op_add : OpR X (binaryOp .Add) (rI0 fun i j => .int (i + j)) := opI0 fun _ _ _ _ _ _ _ q => add_int q
theorem op_sub : OpR X (binaryOp .Sub) (rI0 fun i j => .int (i - j)) := opI0 fun _ _ _ _ _ _ _ q => sub_int q
theorem op_mul : OpR X (binaryOp .Mult) (rI CMul fun i j => .int (i * j)) := opI fun _ _ _ _ _ _ _ hc q => mul_int q hc.ok
/-- // by a positive divisor -/
theorem op_fdiv : OpR X (binaryOp .FloorDiv) (rI CDiv fun i j => .int (i / j)) := opI fun i j _ _ _ _ _ hc q => by
  have h1 : (0 : Int) < j := hc.1
  have h2 : j < 1073741824 := hc.2
  exact floordiv_int (by omega) (by rw [Int.fdiv_eq_ediv_of_nonneg i (by omega)]; exact q) (.inl (PyProof.noPylong_small (by omega)))
/-- % by a positive divisor of any size -/
theorem op_mod : OpR X (binaryOp .Mod) (rI (fun _ j => 0 < j) fun i j => .int (i % j)) := opI fun i j _ _ _ _ _ hc q => by
  have h1 : (0 : Int) < j := hc
  exact mod_int' (by omega) (by rw [Int.fmod_eq_emod_of_nonneg i (by omega)]; exact q)
theorem op_pow : OpR X (binaryOp .Pow) (rI CPow fun i j => .int (i ^ j.toNat)) := opI fun _ _ _ _ _ _ _ hc q => pow_int_small hc.1 hc.2.1 hc.2.2 q
theorem unI {f : Value → Sem Value} {g : Int → Int}
    (rule : ∀ (i : Int) (t : Tok) (s : Shared) (Q : Value → Shared → Prop) (E : Value → Shared → Prop), Q (.int (g i) s.toks) { s with toks := s.toks + 1 } → wpAny (model X.prog X.w) X.A (f (.int i t)) Q E s) :
    UnR X f (rU fun i => .int (g i)) := by
  intro pins s σ H x v Q I rx h
  obtain ⟨i, rfl, q⟩ := h
  obtain ⟨t, rfl⟩ := rx
  exact rule i t s _ _ ⟨.int (g i), H, I.tok _, ⟨_, rfl⟩, q⟩
theorem un_neg : UnR X (unaryOp .USub) (rU fun i => .int (-i)) := unI fun _ _ _ _ _ q => neg_int q
/-! ### bools among ints: n += (a < b) -/
end

/-! ### comparisons -/
/-- the scalars that == tells apart as data does -/
def scal : V → V → Bool
  | .non, .non => true | .non, .int _ => true | .int _, .non => true | .non, .bl _ => true | .bl _, .non => true | .non, .str _ => true | .str _, .non => true
  | .int _, .int _ => true | .bl _, .bl _ => true | .str _, .str _ => true | .byt _, .byt _ => true
  | .int _, .str _ => true | .str _, .int _ => true | .bl _, .str _ => true | .str _, .bl _ => true
  | _, _ => false
def rEq : R2 := fun x y H Q => scal x y = true ∧ Q (.bl (decide (x = y))) H
def rNe : R2 := fun x y H Q => scal x y = true ∧ Q (.bl (!decide (x = y))) H

theorem dec_int {i j : Int} : decide (V.int i = V.int j) = (i == j) := by
  rw [Bool.eq_iff_iff]
  simp
theorem dec_bl {i j : Bool} : decide (V.bl i = V.bl j) = (i == j) := by
  rw [Bool.eq_iff_iff]
  simp
theorem dec_str {i j : Str} : decide (V.str i = V.str j) = (i == j) := by
  rw [Bool.eq_iff_iff]
  simp
theorem dec_byt {i j : Array UInt8} : decide (V.byt i = V.byt j) = (i.toList == j.toList) := by
  rw [Bool.eq_iff_iff]
  cases i
  cases j
  simp

section
variable {X : Cx} {a b c : Expr} {ta tb tc : TE} {pos : Pos}
theorem fin_bl {pins : List (Addr × Obj)} {σ : St} {H : Hp} {s : Shared} {Q : VK} {k k' : Bool} (I : Inv X pins σ H s) (q : Q (.bl k) H) (e : k = k') : EP X pins σ Q (.bool k') s := by
  subst e
  exact ⟨.bl k, H, I, rfl, q⟩
theorem op_eq : OpR X (compareOp .Eq) rEq := by
  intro pins s σ H x y v u Q I rx ry h
  obtain ⟨hs, q⟩ := h
  cases x with
  | non =>
    cases rx
    cases y with
    | non => cases ry; exact PySem.EqNone.eq_none_none (fin_bl I q (by simp))
    | bl j => cases ry; exact PySem.EqNone.eq_none_bool (fin_bl I q (by simp))
    | int j => obtain ⟨t', rfl⟩ := ry; exact PySem.EqNone.eq_none_int (fin_bl I q (by simp))
    | str j => obtain ⟨t', rfl⟩ := ry; exact PySem.EqNone.eq_none_str (fin_bl I q (by simp))
    | _ => exact absurd (show false = true from hs) Bool.false_ne_true
  | bl i =>
    cases rx
    cases y with
    | non => cases ry; exact PySem.EqNone.eq_bool_none (fin_bl I q (by simp))
    | bl j => cases ry; exact eq_bool (fin_bl I q dec_bl)
    | str j => obtain ⟨t', rfl⟩ := ry; exact PySem.EqMixed.eq_bool_str (fin_bl I q (by simp))
    | _ => exact absurd (show false = true from hs) Bool.false_ne_true
  | int i =>
    obtain ⟨t, rfl⟩ := rx
    cases y with
    | non => cases ry; exact PySem.EqNone.eq_int_none (fin_bl I q (by simp))
    | int j => obtain ⟨t', rfl⟩ := ry; exact eq_int (fin_bl I q dec_int)
    | str j => obtain ⟨t', rfl⟩ := ry; exact PySem.EqMixed.eq_int_str (fin_bl I q (by simp))
    | _ => exact absurd (show false = true from hs) Bool.false_ne_true
  | str i =>
    obtain ⟨t, rfl⟩ := rx
    cases y with
    | non => cases ry; exact PySem.EqNone.eq_str_none (fin_bl I q (by simp))
    | bl j => cases ry; exact PySem.EqMixed.eq_str_bool (fin_bl I q (by simp))
    | int j => obtain ⟨t', rfl⟩ := ry; exact PySem.EqMixed.eq_str_int (fin_bl I q (by simp))
    | str j => obtain ⟨t', rfl⟩ := ry; exact eq_str (fin_bl I q dec_str)
    | _ => exact absurd (show false = true from hs) Bool.false_ne_true
  | byt i =>
    obtain ⟨t, rfl⟩ := rx
    cases y with
    | byt j => obtain ⟨t', rfl⟩ := ry; exact PySem.W.eq_bytes (fin_bl I q dec_byt)
    | _ => exact absurd (show false = true from hs) Bool.false_ne_true
  | _ => cases y <;> exact absurd (show false = true from hs) Bool.false_ne_true
theorem op_ne : OpR X (compareOp .NotEq) rNe := by
  intro pins s σ H x y v u Q I rx ry h
  obtain ⟨hs, q⟩ := h
  cases x with
  | non =>
    cases rx
    cases y with
    | non => cases ry; exact PySem.EqNone.ne_none_none (fin_bl I q (by simp))
    | bl j => cases ry; exact PySem.EqNone.ne_none_bool (fin_bl I q (by simp))
    | int j => obtain ⟨t', rfl⟩ := ry; exact PySem.EqNone.ne_none_int (fin_bl I q (by simp))
    | str j => obtain ⟨t', rfl⟩ := ry; exact PySem.EqNone.ne_none_str (fin_bl I q (by simp))
    | _ => exact absurd (show false = true from hs) Bool.false_ne_true
  | bl i =>
    cases rx
    cases y with
    | non => cases ry; exact PySem.EqNone.ne_bool_none (fin_bl I q (by simp))
    | bl j => cases ry; exact ne_bool (fin_bl I q (congrArg not dec_bl))
    | str j => obtain ⟨t', rfl⟩ := ry; exact PySem.EqMixed.ne_bool_str (fin_bl I q (by simp))
    | _ => exact absurd (show false = true from hs) Bool.false_ne_true
  | int i =>
    obtain ⟨t, rfl⟩ := rx
    cases y with
    | non => cases ry; exact PySem.EqNone.ne_int_none (fin_bl I q (by simp))
    | int j => obtain ⟨t', rfl⟩ := ry; exact ne_int (fin_bl I q (congrArg not dec_int))
    | str j => obtain ⟨t', rfl⟩ := ry; exact PySem.EqMixed.ne_int_str (fin_bl I q (by simp))
    | _ => exact absurd (show false = true from hs) Bool.false_ne_true
  | str i =>
    obtain ⟨t, rfl⟩ := rx
    cases y with
    | non => cases ry; exact PySem.EqNone.ne_str_none (fin_bl I q (by simp))
    | bl j => cases ry; exact PySem.EqMixed.ne_str_bool (fin_bl I q (by simp))
    | int j => obtain ⟨t', rfl⟩ := ry; exact PySem.EqMixed.ne_str_int (fin_bl I q (by simp))
    | str j => obtain ⟨t', rfl⟩ := ry; exact ne_str (fin_bl I q (congrArg not dec_str))
    | _ => exact absurd (show false = true from hs) Bool.false_ne_true
  | byt i =>
    obtain ⟨t, rfl⟩ := rx
    cases y with
    | byt j => obtain ⟨t', rfl⟩ := ry; exact PySem.W.ne_bytes (fin_bl I q (congrArg not dec_byt))
    | _ => exact absurd (show false = true from hs) Bool.false_ne_true
  | _ => cases y <;> exact absurd (show false = true from hs) Bool.false_ne_true

theorem op_lt : OpR X (compareOp .Lt) (rI0 fun i j => .bl (decide (i < j))) := opB0 fun _ _ _ _ _ _ _ q => lt_int q
theorem op_gt : OpR X (compareOp .Gt) (rI0 fun i j => .bl (decide (j < i))) := opB0 fun _ _ _ _ _ _ _ q => gt_int q
theorem op_ge : OpR X (compareOp .GtE) (rI0 fun i j => .bl (decide (j ≤ i))) := opB0 fun _ _ _ _ _ _ _ q => ge_int q
/-- is None, is not None: the right side a value none -/
theorem op_isN : OpR X (compareOp .Is) (fun x y H Q => y = .non ∧ Q (.bl (decide (x = .non))) H) := by
  intro pins s σ H x y v u Q I rx ry h
  obtain ⟨rfl, q⟩ := h
  cases ry
  refine is_none_gen (fin_bl I q ?_)
  cases x <;> first
    | (cases rx; rfl)
    | (obtain ⟨t, rfl⟩ := rx; rfl)
theorem op_notin_str : OpR X (compareOp .NotIn) (fun x y H Q => ∃ i j, x = .str i ∧ y = .str j ∧ Q (.bl (!(!(Builtin.Str.occurrences j i 0 j.length 1).isEmpty))) H) := by
  intro pins s σ H x y v u Q I rx ry h
  obtain ⟨i, j, rfl, rfl, q⟩ := h
  obtain ⟨t, rfl⟩ := rx
  obtain ⟨t', rfl⟩ := ry
  exact notIn_str (fin_bl I q rfl)
/-- is, is not of two objects that are tracked lists or instances -/
def isObj : HO → Bool
  | .lst _ => true
  | .ins _ _ _ => true
  | _ => false
theorem nomark (b : Expr) {op : CmpOp} (h : op ≠ .In := by decide) (h2 : op ≠ .NotIn := by decide) : behindInMarks op b = false := by
  have e1 : (op == CmpOp.In) = false := by cases op <;> first | rfl | exact absurd rfl h
  have e2 : (op == CmpOp.NotIn) = false := by cases op <;> first | rfl | exact absurd rfl h2
  cases b <;> simp [behindInMarks, e1, e2]
/-- a comparison as a value; hm: nomark b, or (for in, not in) by with_unfolding_all rfl -/
theorem pe_cmpR {op : CmpOp} {r : R2} (ho : OpR X (compareOp op) r) (ha : PE X a ta) (hb : PE X b tb) (hm : behindInMarks op b = false) : PE X (.Compare a [op] [b] pos) (tOp r ta tb) := by
  intro pins s σ H Q I h
  exact wpAny_Compare1 (binT ha hb I h fun v u s2 x y H2 I2 rx ry q => ho pins s2 σ H2 x y v u Q I2 rx ry q) hm
/-- a reading of a value as a test -/
def tTest (t : TE) : TT := fun σ H Q => t σ H fun x H' => ∃ k, x = .bl k ∧ Q k H'
theorem pt_cmpR {op : CmpOp} {r : R2} (ho : OpR X (compareOp op) r) (ha : PE X a ta) (hb : PE X b tb) (hm : behindInMarks op b = false) : PT X (.Compare a [op] [b] pos) (tTest (tOp r ta tb)) := by
  intro pins s σ H Q I h
  refine wpAny_isTrue_Compare1 (thn (ha pins s σ H _ I h) fun v s1 ⟨x, H1, I1, r1, q1⟩ => thn (hb pins s1 σ H1 _ I1 q1) fun u s2 ⟨y, H2, I2, r2, q2⟩ =>
    thn (ho pins s2 σ H2 x y v u _ I2 r1 r2 q2) fun c s3 ⟨z, H3, I3, r3, k, e, q3⟩ => ?_) hm
  subst e
  cases r3
  exact wpAny_truthy_bool ⟨H3, I3, q3⟩
/-- a op1 b op2 c -/
def tChain (r r' : R2) (ta tb tc : TE) : TE := fun σ H Q => ta σ H fun x H1 => tb σ H1 fun y H2 => r x y H2 fun z H3 => ∃ k, z = .bl k ∧
  (if k = true then tc σ H3 fun w' H4 => r' y w' H4 Q else Q (.bl false) H3)
/-! ### truth -/
/-- a value's truth by the abstract heap -/
def TruV (K : PySem.W.Frag) (x : V) (H : Hp) (k : Bool) : Prop :=
  match x with
  | .non => k = false
  | .bl b => k = b
  | .int i => k = (i != 0)
  | .str y => y.length ≤ sizeLine ∧ k = ((y.length : Int) != 0)
  | .byt y => y.size ≤ sizeLine ∧ k = ((y.size : Int) != 0)
  | .ref p => (∃ xs, SqL K H p xs ∧ k = !xs.isEmpty) ∨ (∃ xs, SqT K H p xs ∧ k = !xs.isEmpty) ∨ ∃ kvs, H p = some (.dK kvs) ∧ k = !kvs.isEmpty
  | _ => False
theorem line63 : (sizeLine : Nat) < 2 ^ 63 := by rw [sizeLine_eq]; decide
/-! ### strs and bytes -/
theorem op_add_str : OpR X (binaryOp .Add) (fun x y H Q => ∃ i j, x = .str i ∧ y = .str j ∧ i.length + j.length ≤ sizeLine ∧ Q (.str (i ++ j)) H) := by
  intro pins s σ H x y v u Q I rx ry h
  obtain ⟨i, j, rfl, rfl, hz, q⟩ := h
  obtain ⟨t, rfl⟩ := rx
  obtain ⟨t', rfl⟩ := ry
  exact add_str (fun t' tk => ⟨.str (i ++ j), H, I.tok _, ⟨_, rfl⟩, q⟩) hz
def PlainIxT (b : Expr) : Prop := ∀ o i, subscripted b false o i = operate [o, i] (getItem o i)
/-! ### scalar builtins, by CallR -/
theorem vals1 {x : V} {us : List Value} (r : Vals [x] us) : ∃ u, us = [u] ∧ RelV x u := by
  cases r with
  | cons r1 r2 => cases r2; exact ⟨_, rfl, r1⟩
/-- len of a str, a bytes, a list, a tuple -/
def LenV (K : PySem.W.Frag) (x : V) (H : Hp) (n : Nat) : Prop :=
  match x with
  | .str y => y.length ≤ sizeLine ∧ n = y.length
  | .byt y => y.size ≤ sizeLine ∧ n = y.size
  | .ref p => (∃ xs, SqL K H p xs ∧ n = xs.length) ∨ ∃ xs, SqT K H p xs ∧ n = xs.length
  | _ => False
end
end L2

namespace L2
open PySem PySem.Spec PyProof.Rows

/-! ### an instance, its attributes a map -/
structure ObjM (h : Heap) (x dx C : Addr) (mA : Str → Option Value) : Prop where
  obj : h.get? x = some (PySem.W.instObj C dx)
  ns : h.Ns1 dx mA
  ne : dx ≠ x

theorem lookIn_ns {h : Heap} {dx : Addr} {mA : Str → Option Value} (n : h.Ns1 dx mA) : ∃ od, h.get? dx = some od ∧ ∀ name, PySem.W.lookIn name od = some (mA name) := by
  obtain ⟨o, es, ep, ho, hd, hk, _, hm⟩ := n
  refine ⟨o, ho, fun name => ?_⟩
  have e := hm name
  unfold nsFind findBy at e
  rw [← Array.find?_toList] at e
  unfold PySem.W.lookIn
  rw [hd]
  dsimp only
  split
  · rename_i y q
    rw [q] at e
    exact congrArg some e
  · rename_i q
    rw [q] at e
    have a : es.toList.any (·.refKey) = false := by
      rw [List.any_eq_false]
      intro y hy
      obtain ⟨z, t, hkey⟩ := hk y (Array.mem_toList_iff.mp hy)
      simp [DictEntry.refKey, hkey]
    have a' : ¬ es.toList.any (·.refKey) = true := by rw [a]; exact Bool.false_ne_true
    rw [if_neg a']
    exact congrArg some e

theorem ObjM.look {h : Heap} {x dx C : Addr} {mA : Str → Option Value} (I : ObjM h x dx C mA) : ∃ od, PySem.W.InstAt h x (PySem.W.instObj C dx) C (some od) ∧ ∀ name, PySem.W.lookIn name od = some (mA name) :=
  let ⟨od, ho, hl⟩ := lookIn_ns I.ns
  ⟨od, ⟨I.obj, rfl, rfl, ho⟩, hl⟩

section
variable {prog : Program} {w : World} {A : Around} {E : Value → Shared → Prop} {s : Shared} {K : PySem.W.Frag} {x dx C f : Addr} {mA : Str → Option Value} {name : Str} {v : Value}

end

/-! ### the attributes as a list of pairs -/
def putF (f : Str) (v : V) : List (Str × V) → List (Str × V)
  | [] => [(f, v)]
  | (g, x) :: r => if g = f then (g, v) :: r else (g, x) :: putF f v r
section
variable {P : Program} {w : World} {H H' : Hp} {h h' : Heap} {a C dx : Addr} {fs fs' : List (Str × V)}
theorem ins_get (hok : HOk P w H h) (e : H a = some (.ins C dx fs)) : ∃ mA, ObjM h a dx C mA ∧ (∀ f, RelO (fs.lookup f) (mA f)) ∧ PySem.Within mA (fs.map (·.1)) ∧ fs.length ≤ 1000 ∧ H dx = some (.own a) := by
  obtain ⟨d, z, ne, ob, mA, n, r, q⟩ := (show ObjOk P w H h a (.ins C dx fs) from hok a _ e)
  exact ⟨mA, ⟨ob, n, ne⟩, r, q, z, d⟩
end

/-! ### what of the text a class must have -/
structure Cls (K : PySem.W.Frag) (C : Addr) : Prop where
  pg : PySem.W.plainGet K C Str.empty = true
  hd : PySem.W.hasDictIn K C = true
  po : PySem.W.plainOver K C = true
  sa : PySem.W.findIn K (.ref C) "__setattr__" = some (some (.builtin "object.__setattr__"))
theorem Cls.get {K : PySem.W.Frag} {C : Addr} (c : Cls K C) (f : Str) : PySem.W.plainGet K C f = true := c.pg
/-- no class of it has the name -/
def NoAttr (K : PySem.W.Frag) (C : Addr) (f : Str) : Prop := PySem.W.findIn K (.ref C) f = some none
/-- a constant of the class -/
structure Con (K : PySem.W.Frag) (C : Addr) (f : Str) (v : V) (u : Value) : Prop where
  at_ : PySem.W.findIn K (.ref C) f = some (some u)
  rel : RelV v u
  get : PySem.W.specialIn K u "__get__" = some none
  cp : PySem.W.copiedNames.contains f = false
/-- a method: a plain def of the class or of one above it -/
structure Meth (K : PySem.W.Frag) (C : Addr) (m : Str) (f : Addr) : Prop where
  at_ : PySem.W.findIn K (.ref C) m = some (some (.ref f))
  fn : PySem.W.isFn K (.ref f) = true
  kp : PySem.W.keepIn K (.ref f) = true

section
variable {X : Cx} {pins : List (Addr × Obj)} {σ : St} {H : Hp} {s : Shared} {a C dx : Addr} {fs : List (Str × V)} {f : Str} {v : V} {A : Around} {E : Value → Shared → Prop}

end

/-! ### readings and rules -/
/-- e.f, an attribute of the instance -/
def tFld (K : PySem.W.Frag) (ta : TE) (f : Str) : TE := fun σ H Q => ta σ H fun x H1 => ∃ a C dx fs v, x = .ref a ∧ H1 a = some (.ins C dx fs) ∧ Cls K C ∧ NoAttr K C f ∧ fs.lookup f = some v ∧ Q v H1
/-- e.f, a constant of the class -/
def tCon (K : PySem.W.Frag) (ta : TE) (f : Str) : TE := fun σ H Q => ta σ H fun x H1 => ∃ a C dx fs v u, x = .ref a ∧ H1 a = some (.ins C dx fs) ∧ Cls K C ∧ Con K C f v u ∧ fs.lookup f = none ∧ Q v H1
/-- e.f = value -/
def sFld (K : PySem.W.Frag) (ta tv : TE) (f : Str) : TS := fun D σ H => tv σ H fun y H1 => ta σ H1 fun x H2 => ∃ a C dx fs, x = .ref a ∧ H2 a = some (.ins C dx fs) ∧ Cls K C ∧ NoAttr K C f ∧ fs.length < 1000 ∧
  D.nx σ (upd H2 a (.ins C dx (putF f y fs)))
/-- an augmented operator on two values -/
def InOp (X : Cx) (op : Operator) (rd : V → V → Hp → VK → Prop) : Prop :=
  ∀ (pins : List (Addr × Obj)) (s : Shared) (σ : St) (H : Hp) (x y : V) (u v : Value) (Q : VK), Inv X pins σ H s → RelV x u → RelV y v → rd x y H Q → wpAny (model X.prog X.w) X.A (inplaceOp op u v) (EP X pins σ Q) X.xe s
/-- e.f op= value -/
def sFldAug (K : PySem.W.Frag) (ta tv : TE) (rd : V → V → Hp → VK → Prop) (f : Str) : TS := fun D σ H => ta σ H fun x H1 => ∃ a C dx fs v, x = .ref a ∧ H1 a = some (.ins C dx fs) ∧ Cls K C ∧ NoAttr K C f ∧ fs.lookup f = some v ∧
  tv σ H1 fun y H2 => rd v y H2 fun z H3 => ∃ dx' fs', H3 a = some (.ins C dx' fs') ∧ fs'.length < 1000 ∧ D.nx σ (upd H3 a (.ins C dx' (putF f z fs')))

section
variable {X : Cx} {o e value : Expr} {f : Str} {pos pos' tpos : Pos} {ta tv : TE}
def rAdd : V → V → Hp → VK → Prop := fun x y H Q => ∃ i j, x = .int i ∧ y = .int j ∧ Q (.int (i + j)) H
def rSub : V → V → Hp → VK → Prop := fun x y H Q => ∃ i j, x = .int i ∧ y = .int j ∧ Q (.int (i - j)) H
end

/-! ### isinstance -/
section
variable {X : Cx} {pins : List (Addr × Obj)} {σ : St} {H : Hp} {s : Shared} {A : Around} {E : Value → Shared → Prop} {Q : Value → Shared → Prop} {c : Value} {b : Bool}
/-- the type of a value, as the fragment's deciders take it; for an instance its class -/
inductive TyOf (K : PySem.W.Frag) (H : Hp) : V → Value → Prop where
  | non : TyOf K H .non (.type "NoneType")
  | bl (x : Bool) : TyOf K H (.bl x) (.type "bool")
  | int (i : Int) : TyOf K H (.int i) (.type "int")
  | str (x : Str) : TyOf K H (.str x) (.type "str")
  | flt (x : UInt64) : TyOf K H (.flt x) (.type "float")
  | lst {a : Addr} {xs : List V} (e : H a = some (.lst xs)) : TyOf K H (.ref a) (.type "list")
  | frz {a : Addr} {o : Obj} {xs : List V} (e : H a = some (.frz o (.lst xs))) : TyOf K H (.ref a) (.type "list")
  | tup {a : Addr} {xs : List V} (e : H a = some (.tup xs)) : TyOf K H (.ref a) (.type "tuple")
  | dK {a : Addr} {kvs : List (Key × V)} (e : H a = some (.dK kvs)) : TyOf K H (.ref a) (.type "dict")
  | dT {a : Addr} {kvs : List (List Key × V)} (e : H a = some (.dT kvs)) : TyOf K H (.ref a) (.type "dict")
  | ins {a C dx : Addr} {fs : List (Str × V)} (e : H a = some (.ins C dx fs)) (cl : Cls K C) (ha : PySem.W.findIn K (.ref C) "__class__" = some (some (.builtin "object.__class__")))
      (hn : PySem.W.specialIn K (.builtin "object.__class__") "__get__" = some (some (.builtin "getset_descriptor.__get__"))) (htk : PySem.W.takesIn K (.builtin "object.__class__") = some true)
      (hm : PySem.W.mroIn K C (.type "object") = some true) : TyOf K H (.ref a) (.ref C)
/-- isinstance(x, c) for one class c, a built-in or an own one: kitOne's answer -/
theorem isinst_ok {x : V} {u t : Value} (I : Inv X pins σ H s) (rx : RelV x u) (ty : TyOf X.K H x t) (e : PySem.W.kitOne X.K t c = some b) (h : ∀ tk, Q (.bool b) { s with toks := tk }) :
    wpAny (model X.prog X.w) A (call (.builtin "isinstance") [u, c]) Q E s := by
  cases ty with
  | non => cases (show u = Value.none from rx); exact PySem.W.kia_one PySem.W.kitx_none I.kIn True.intro e (fun z => nomatch z) h
  | bl y => cases (show u = Value.bool y from rx); exact PySem.W.kia_one PySem.W.kitx_bool I.kIn True.intro e (fun z => nomatch z) h
  | int i => obtain ⟨t, q⟩ := (show ∃ t, u = Value.int i t from rx); cases q; exact PySem.W.kia_one PySem.W.kitx_int I.kIn True.intro e (fun z => nomatch z) h
  | str y => obtain ⟨t, q⟩ := (show ∃ t, u = Value.str y t from rx); cases q; exact PySem.W.kia_one PySem.W.kitx_str I.kIn True.intro e (fun z => nomatch z) h
  | flt y => obtain ⟨t, q⟩ := (show ∃ t, u = Value.float y t from rx); cases q; exact PySem.W.kia_one PySem.W.kitx_float I.kIn True.intro e (fun z => nomatch z) h
  | @lst a xs ea =>
    cases (show u = Value.ref a from rx)
    obtain ⟨_, _, n, _, h1⟩ := (show ObjOk X.prog X.w H s.heap a (.lst xs) from I.hok a _ ea)
    exact PySem.W.kia_one PySem.W.kitx_list I.kIn ⟨_, h1, rfl⟩ e (fun z => nomatch z) h
  | @frz a ob xs ea =>
    cases (show u = Value.ref a from rx)
    obtain ⟨_, _, _, n, _, h1⟩ := (show ObjOk X.prog X.w H s.heap a (.frz ob (.lst xs)) from I.hok a _ ea)
    exact PySem.W.kia_one PySem.W.kitx_list I.kIn ⟨_, h1, rfl⟩ e (fun z => nomatch z) h
  | @tup a xs ea =>
    cases (show u = Value.ref a from rx)
    obtain ⟨_, _, _, p⟩ := (show ObjOk X.prog X.w H s.heap a (.tup xs) from I.hok a _ ea)
    obtain ⟨o, h1, h2, _⟩ := p
    exact PySem.W.kia_one PySem.W.kitx_tuple I.kIn ⟨o, h1, h2⟩ e (fun z => nomatch z) h
  | @dK a kvs ea =>
    cases (show u = Value.ref a from rx)
    obtain ⟨_, _, vs, _, p⟩ := (show ObjOk X.prog X.w H s.heap a (.dK kvs) from I.hok a _ ea)
    obtain ⟨o, es, ep, h1, h2, _⟩ := p
    exact PySem.W.kia_one PySem.W.kitx_dict I.kIn ⟨o, h1, h2.1⟩ e (fun z => nomatch z) h
  | @dT a kvs ea =>
    cases (show u = Value.ref a from rx)
    obtain ⟨_, _, xs, _, o, es, ep, h1, h2, _⟩ := (show ObjOk X.prog X.w H s.heap a (.dT kvs) from I.hok a _ ea)
    exact PySem.W.kia_one PySem.W.kitx_dict I.kIn ⟨o, h1, h2.1⟩ e (fun z => nomatch z) h
  | @ins a C dx fs ea cl ha hn htk hm =>
    cases (show u = Value.ref a from rx)
    obtain ⟨mA, O, _⟩ := ins_get I.hok ea
    obtain ⟨od, J, _⟩ := O.look
    exact PySem.W.kia_one (PySem.W.kitx_own (cl.get _) cl.hd ha hn htk hm) I.kIn J e (fun z => nomatch z) h
end
end L2

namespace L2
open PySem PySem.Spec PyProof.Rows

/-! ### room -/
structure Room (k : Nat) (A : Around) : Prop where
  hd : A.handled = none
  dp : A.depth + 3 * k + 5 < recursionLimit
  un : A.units + 16 * k + 200 < cLine
theorem Room.mono {j k : Nat} {A : Around} (r : Room k A) (h : j ≤ k) : Room j A := ⟨r.hd, by have := r.dp; omega, by have := r.un; omega⟩
theorem Room.deeper {k : Nat} {A : Around} (r : Room (k + 1) A) (env : Env) : Room k (A.deeper env) :=
  ⟨r.hd, by have := r.dp; show A.depth + 1 + 3 * k + 5 < _; omega, by have := r.un; show A.units + 3 + 16 * k + 200 < _; omega⟩
theorem Room.depth {k : Nat} {A : Around} (r : Room k A) : A.depth < recursionLimit := by have := r.dp; omega
theorem Room.units0 {k : Nat} {A : Around} (r : Room k A) : A.units < cLine := by have := r.un; omega

/-! ### argument lists and displays -/
def tNil : TA := fun _ H Q => Q [] H
def tCons (ta : TE) (tr : TA) : TA := fun σ H Q => ta σ H fun x H1 => tr σ H1 fun xs H2 => Q (x :: xs) H2
section
variable {X : Cx} {e : Expr} {es : List Expr} {te : TE} {t : TA} {pos : Pos}
theorem pa_nil : PA X [] tNil := fun _ _ _ _ H Q I h => Calls.spliced_nil ⟨[], H, I, .nil, h⟩
theorem pa_cons (ha : PE X e te) (hr : PA X es t) (hs : starEach (e :: es) X.env = (false, eval e X.env) :: starEach es X.env := by rfl) : PA X (e :: es) (tCons te t) := by
  intro pos pins s σ H Q I h
  rw [hs]
  show wpAny _ _ (spliced ((false, eval e X.env) :: backTo pos (starEach es X.env))) _ _ s
  refine Calls.spliced_cons (thn (ha pins s σ H _ I h) fun u s1 ⟨x, H1, I1, r1, q1⟩ => ?_)
  exact thn (hr pos pins s1 σ H1 _ I1 q1) fun us s2 ⟨xs, H2, I2, r2, q2⟩ => ⟨x :: xs, H2, I2, .cons r1 r2, q2⟩

/-- a tuple, a list of written items -/
def tTup (t : TA) : TE := fun σ H Q => t σ H fun xs H1 => xs.length ≤ sizeLine ∧ ∀ p, H1 p = none → Q (.ref p) (upd H1 p (.tup xs))
def tLst (t : TA) : TE := fun σ H Q => t σ H fun xs H1 => xs.length ≤ sizeLine ∧ ∀ p, H1 p = none → Q (.ref p) (upd H1 p (.lst xs))
theorem pe_tup {x1} (h : PA X es t) : PE X (.Tuple es x1 pos) (tTup t) := by
  intro pins s σ H Q I hq
  refine wpAny_Tuple_spliced (thn (h pos pins s σ H _ I hq) fun us s1 ⟨xs, H1, I1, r, z, q⟩ => ⟨by rw [← r.length]; exact z, ?_⟩)
  have hf : H1 s1.heap.objs.size = none := I1.hok.fresh (Nat.le_refl _)
  refine ⟨.ref s1.heap.objs.size, upd H1 s1.heap.objs.size (.tup xs), I1.laid (t' := s1.toks) (fun b u e => Heap.get?_push_of_some _ e) (Nat.le_refl _) ?_, rfl, q _ hf⟩
  exact ⟨z, us, r, ⟨_, Heap.get?_push_size _ rfl, rfl, _, rfl⟩⟩
theorem pe_lst (h : PA X es t) : PE X (.List es pos) (tLst t) := by
  intro pins s σ H Q I hq
  refine wpAny_List_spliced (thn (h pos pins s σ H _ I hq) fun us s1 ⟨xs, H1, I1, r, z, q⟩ => ⟨by rw [← r.length]; exact z, ?_⟩)
  have hf : H1 s1.heap.objs.size = none := I1.hok.fresh (Nat.le_refl _)
  refine ⟨.ref s1.heap.objs.size, upd H1 s1.heap.objs.size (.lst xs), I1.laid (t' := s1.toks) (fun b u e => Heap.get?_push_of_some _ e) (Nat.le_refl _) ?_, rfl, q _ hf⟩
  exact ⟨z, us, 0, r, Heap.get?_push_size _ rfl⟩
end

/-! ### what a def promises -/
/-- a def's promise: the bound arguments in the parameters' order, the heap, the wanted end, the wanted exception -/
abbrev Sp := List V → Hp → VK → XK → Prop
/-- how an exception lies behind a call (file 08 gives it): the callers' frames, abstract heap and state ahead of the call, the wish, the exception, the state -/
abbrev CXT := List Env → Hp → Shared → XK → Value → Shared → Prop

/-- the state at a call -/
structure Env0 (P : Program) (w : World) (K : PySem.W.Frag) (mg : Str → Option Value) (base : Heap) (A : Around) (outer : List Env) (s : Shared) (H : Hp) : Prop where
  frames : A.frames = some outer
  mod : Mod K mg base
  bs : ∀ b o, base.get? b = some o → s.heap.get? b = some o ∧ H b = none
  bsz : base.objs.size ≤ s.heap.objs.size
  funs : s.heap.FunFrames base outer
  frf : ∀ b ∈ frs outer, H b = none
  hok : HOk P w H s.heap
  bare : AllBare s.gens
/-- a call's end -/
def CE (outer : List Env) (P : Program) (w : World) (H : Hp) (s : Shared) (Q : VK) (u : Value) (s' : Shared) : Prop :=
  ∃ v H', s'.os = s.os ∧ AllBare s'.gens ∧ Un (frs outer) [] H H' s.heap s'.heap ∧ HOk P w H' s'.heap ∧ RelV v u ∧ Q v H'
def CR (CX : CXT) (outer : List Env) (P : Program) (w : World) (H : Hp) (s : Shared) (Q : VK) (E : XK) (r : Result) (s' : Shared) : Prop :=
  match r with
  | .ok (.ret u) => CE outer P w H s Q u s'
  | .ok _ => False
  | .error e => CX outer H s E e s'
structure FnOk (P : Program) (w : World) (K : PySem.W.Frag) (mg : Str → Option Value) (base : Heap) (CX : CXT) (k : Nat) (f : Addr) (fd : FuncData) (ps : List Str) (sp : Sp) : Prop where
  len : ∀ vs H Q E, sp vs H Q E → vs.length = ps.length
  run : ∀ (A : Around) (outer : List Env) (s : Shared) (H : Hp) (args : Args) (us : List Value) (vs : List V) (Q : VK) (E : XK), Room k A → Env0 P w K mg base A outer s H → BindsTo s fd args (ps.zip us) → Vals vs us → sp vs H Q E →
    codeAny (model P w) A (.call (.ref f) args) (CR CX outer P w H s Q E) s
theorem FnOk.mono {P : Program} {w : World} {K : PySem.W.Frag} {mg : Str → Option Value} {base : Heap} {CX : CXT} {j k : Nat} {f : Addr} {fd : FuncData} {ps : List Str} {sp : Sp} (F : FnOk P w K mg base CX j f fd ps sp) (h : j ≤ k) :
    FnOk P w K mg base CX k f fd ps sp := ⟨F.len, fun A outer s H args us vs Q E hr => F.run A outer s H args us vs Q E (hr.mono h)⟩
section
variable {X : Cx} {pins : List (Addr × Obj)} {σ : St} {H : Hp} {s s' : Shared}
/-- from a body: what a callee wants -/
theorem Inv.env0 (I : Inv X pins σ H s) : Env0 X.prog X.w X.K X.mg X.base X.A X.stack s H :=
  ⟨I.ok.frames, I.ok.mod, I.bs, Nat.le_trans I.ok.bsz I.sz, I.stack, I.stkFree, I.hok, I.bare⟩
/-- behind a call -/
theorem Inv.after {Q : VK} {u : Value} (I : Inv X pins σ H s) (h : CE X.stack X.prog X.w H s Q u s') : EP X pins σ Q u s' := by
  obtain ⟨v, H', os, bare, un, hok, r, q⟩ := h
  obtain ⟨hh, g, d, t, os'⟩ := s'
  obtain rfl : os' = s.os := os
  exact ⟨v, H', I.call (h' := hh) (g' := g) (d' := d) (t' := t) (ch := []) un hok bare (fun b z => absurd z (by simp)), r, q⟩
end

/-! ### calls -/
/-- f(..): the written arguments, then the defaults dvs; E: what is wanted of an exception -/
def tCall (sp : Sp) (dvs : List V) (E : XK) (t : TA) : TE := fun σ H Q => t σ H fun vs H1 => sp (vs ++ dvs) H1 Q E
/-- o.m(..) of an instance of the class at C -/
def tMeth (C : Addr) (m : Str) (sp : Sp) (dvs : List V) (E : XK) (ta : TE) (t : TA) : TE := fun σ H Q => ta σ H fun x H1 => ∃ a dx fs, x = .ref a ∧ H1 a = some (.ins C dx fs) ∧ fs.lookup m = none ∧
  t σ H1 fun vs H2 => sp (x :: (vs ++ dvs)) H2 Q E
/-- C(..): a new instance and its dict, then __init__ -/
def tMake (C : Addr) (sp : Sp) (dvs : List V) (E : XK) (t : TA) : TE := fun σ H Q => t σ H fun vs H1 => ∀ x dx, H1 x = none → H1 dx = none → dx ≠ x →
  sp (.ref x :: (vs ++ dvs)) (upd (upd H1 dx (.own x)) x (.ins C dx [])) (fun v H2 => v = .non ∧ Q (.ref x) H2) E

/-- how the parameters are bound: us the positional arguments, kw the keywords' values by name, ds the defaults that fill up -/
def Binds (K : PySem.W.Frag) (fd : FuncData) (ps : List Str) (ds : List Value) : Prop :=
  ∀ (s : Shared) (us : List Value), K.In s.heap → (us ++ ds).length = ps.length → BindsTo s fd ⟨us, []⟩ (ps.zip (us ++ ds))
/-- every parameter is given -/
theorem Binds.all {K : PySem.W.Frag} {fd : FuncData} {ps : List Str} (h : ∀ us : List Value, us.length = ps.length → bindArgs fd ⟨us, []⟩ = pure (ps.zip us)) : Binds K fd ps [] := fun s us _ hl => by
  rw [List.append_nil] at hl ⊢
  exact .of_eq (h us hl)

/-- an exception of a callee reaches what this body wants of exceptions -/
def Passes (CX : CXT) (X : Cx) (E : XK) : Prop := ∀ (pins : List (Addr × Obj)) (σ : St) (H : Hp) (s : Shared) (e : Value) (s' : Shared), Inv X pins σ H s → CX X.stack H s E e s' → X.xe e s'

section
variable {X : Cx} {CX : CXT} {k : Nat} {f C : Addr} {fd : FuncData} {ps : List Str} {sp : Sp} {dvs : List V} {ds : List Value} {E : XK} {x m : Str} {p pos apos : Pos} {e o : Expr} {es : List Expr} {ta : TE} {t : TA}

/-- the callee runs -/
theorem run_fn {pins : List (Addr × Obj)} {σ : St} {H : Hp} {s : Shared} {Q : VK} {us : List Value} {vs : List V} (F : FnOk X.prog X.w X.K X.mg X.base CX k f fd ps sp) (hr : Room k X.A) (hb : Binds X.K fd ps ds) (hd : Vals dvs ds) (hx : Passes CX X E)
    (I : Inv X pins σ H s) (r : Vals vs us) (h : sp (vs ++ dvs) H Q E) : wpAny (model X.prog X.w) X.A (call (.ref f) us) (EP X pins σ Q) X.xe s := by
  have r2 : Vals (vs ++ dvs) (us ++ ds) := r.append hd
  have hl : (us ++ ds).length = ps.length := by rw [← r2.length]; exact F.len _ _ _ _ h
  refine wpAny_call (codeAny_mono (F.run X.A X.stack s H ⟨us, []⟩ (us ++ ds) (vs ++ dvs) Q E hr I.env0 (hb s us I.kIn hl) r2 h) fun r s' hq => ?_)
  cases r with
  | error e => exact hx pins σ H s e s' I hq
  | ok fl =>
    cases fl with
    | ret u => exact I.after hq
    | next => exact False.elim hq
    | brk => exact False.elim hq
    | cont => exact False.elim hq

theorem pe_call (F : FnOk X.prog X.w X.K X.mg X.base CX k f fd ps sp) (hr : Room k X.A) (hg : Gl X x) (hm : X.mg x = some (.ref f)) (hk : PySem.W.keepIn X.K (.ref f) = true) (hb : Binds X.K fd ps ds) (hd : Vals dvs ds) (hx : Passes CX X E)
    (ha : PA X (e :: es) t) (hdb : (x == ("__debug__" : Str)) = false := by decide) (he : starEach (e :: es) X.env = (false, eval e X.env) :: starEach es X.env := by rfl) (hpl : (backTo pos (starEach es X.env)).any (·.1) = false := by rfl) :
    PE X (.Call (.Name x p) (e :: es) [] pos) (tCall sp dvs E t) := by
  intro pins s σ H Q I h
  refine wpAny_Call_Name_kw (ld_glob I hg hm ?_ hdb)
  refine PySem.W.callWith_K (h₀ := X.base) I.ok.mod.kin hk (thn (ha pos pins s σ H _ I h) fun us s1 ⟨vs, H1, I1, r, q⟩ => ⟨I1.kIn, ?_⟩) he hpl
  exact run_fn F hr hb hd hx I1 r q
/-- what a class must have to be made -/
structure Mk (K : PySem.W.Frag) (C f : Addr) : Prop where
  makes : PySem.W.makesIn K C = true
  init : PySem.W.findIn K (.ref C) "__init__" = some (some (.ref f))
  fn : PySem.W.isFn K (.ref f) = true
  kp : PySem.W.keepIn K (.ref C) = true

end

/-! ### keywords -/
/-- the values of the keywords, from the left -/
def PK (X : Cx) (kws : List Keyword) (t : TA) : Prop :=
  ∀ (pos : Pos) (pins : List (Addr × Obj)) (s : Shared) (σ : St) (H : Hp) (Q : List V → Hp → Prop), Inv X pins σ H s → t σ H Q → wpAny (model X.prog X.w) X.A (evalAll ((backToKw pos (keywordEach kws X.env)).map (·.2))) (AP X pins σ Q) X.xe s
section
variable {X : Cx} {CX : CXT} {k : Nat} {f C : Addr} {fd : FuncData} {ps ks : List Str} {sp : Sp} {E : XK} {x m : Str} {p pos apos kpos : Pos} {e o : Expr} {es : List Expr} {kws : List Keyword} {te ta : TE} {t tk : TA} {nm : Option Str}
/-- how a call with keywords binds: g puts the positional values us and the keywords' values ws (names ks) in the parameters' order, defaults among them -/
structure KBinds (K : PySem.W.Frag) (fd : FuncData) (ps ks : List Str) (g : List Value → List Value → List Value) (gV : List V → List V → List V) : Prop where
  to : ∀ (s : Shared) (us ws : List Value), K.In s.heap → (g us ws).length = ps.length → BindsTo s fd ⟨us, ks.zip ws⟩ (ps.zip (g us ws))
  rel : ∀ {vs : List V} {us : List Value} {zs : List V} {ws : List Value}, Vals vs us → Vals zs ws → Vals (gV vs zs) (g us ws)
def tCallK (sp : Sp) (gV : List V → List V → List V) (E : XK) (t tk : TA) : TE := fun σ H Q => t σ H fun vs H1 => tk σ H1 fun zs H2 => sp (gV vs zs) H2 Q E
variable {g : List Value → List Value → List Value} {gV : List V → List V → List V}
end

/-! ### a def's body keeps its promise -/
/-- names: the parameters first -/
structure FnScope (N P : List Str) (sc : Scope) : Prop where
  kind : sc.kind = .function
  co : sc.isCoroutine = false
  gen : sc.isGenerator = false
  nd : N.Nodup
  pre : N.take P.length = P
  par : ∀ x ∈ P, sc.names.lookup x = some .local ∨ sc.names.lookup x = some .cell
  nofree : ∀ y ∈ sc.names, y.2 ≠ .free

theorem bindL_out {kindOf : Str → Option NameKind} {x : Str} : ∀ {binds : List (Str × Value)} {m : Str → Option Value}, (∀ v, (x, v) ∉ binds) → bindL kindOf binds m x = m x
  | [], _, _ => rfl
  | (n, v) :: r, m, h => by
    unfold bindL
    rw [bindL_out fun w hw => h w (List.mem_cons_of_mem _ hw)]
    split
    · have : x ≠ n := by rintro rfl; exact h v List.mem_cons_self
      simp [this]
    · rfl
theorem bindC_out {kindOf : Str → Option NameKind} {x : Str} : ∀ {binds : List (Str × Value)} {m : Str → Option Value}, (∀ v, (x, v) ∉ binds) → bindC kindOf binds m x = m x
  | [], _, _ => rfl
  | (n, v) :: r, m, h => by
    unfold bindC
    rw [bindC_out fun w hw => h w (List.mem_cons_of_mem _ hw)]
    split
    · rfl
    · have : x ≠ n := by rintro rfl; exact h v List.mem_cons_self
      simp [this]
theorem bindL_get {kindOf : Str → Option NameKind} {x : Str} {v : Value} : ∀ {P : List Str} {vs : List Value} {i : Nat} {m : Str → Option Value}, P.Nodup → P[i]? = some x → vs[i]? = some v → kindOf x = some .local →
    bindL kindOf (P.zip vs) m x = some v
  | [], _, _, _, _, h, _, _ => by simp at h
  | _ :: _, [], _, _, _, _, h, _ => by simp at h
  | p :: P, w :: vs, 0, m, nd, h1, h2, hk => by
    simp at h1 h2; subst h1; subst h2
    show bindL kindOf ((p, w) :: P.zip vs) m p = _
    unfold bindL
    rw [bindL_out fun v hv => (List.nodup_cons.mp nd).1 (List.of_mem_zip hv).1, if_pos hk]
    simp
  | p :: P, w :: vs, i + 1, m, nd, h1, h2, hk => by
    show bindL kindOf ((p, w) :: P.zip vs) m x = _
    unfold bindL
    exact bindL_get (i := i) (List.nodup_cons.mp nd).2 (by simpa using h1) (by simpa using h2) hk
theorem bindC_get {kindOf : Str → Option NameKind} {x : Str} {v : Value} : ∀ {P : List Str} {vs : List Value} {i : Nat} {m : Str → Option Value}, P.Nodup → P[i]? = some x → vs[i]? = some v → kindOf x ≠ some .local →
    bindC kindOf (P.zip vs) m x = some v
  | [], _, _, _, _, h, _, _ => by simp at h
  | _ :: _, [], _, _, _, _, h, _ => by simp at h
  | p :: P, w :: vs, 0, m, nd, h1, h2, hk => by
    simp at h1 h2; subst h1; subst h2
    show bindC kindOf ((p, w) :: P.zip vs) m p = _
    unfold bindC
    rw [bindC_out fun v hv => (List.nodup_cons.mp nd).1 (List.of_mem_zip hv).1, if_neg hk]
    simp
  | p :: P, w :: vs, i + 1, m, nd, h1, h2, hk => by
    show bindC kindOf ((p, w) :: P.zip vs) m x = _
    unfold bindC
    exact bindC_get (i := i) (List.nodup_cons.mp nd).2 (by simpa using h1) (by simpa using h2) hk

/-- the names' values at the entry -/
def start (N : List Str) (vs : List V) : St := vs.map some ++ List.replicate (N.length - vs.length) none

/-- the context of a def's body, at its entry; an exception leaves the frame, then lies as CX says -/
def cxOf (CX : CXT) (P : Program) (w : World) (K : PySem.W.Frag) (mg : Str → Option Value) (base : Heap) (N : List Str) (qual : Str) (scope : Scope) (f : Addr) (cd : Value) (A : Around) (outer : List Env) (s : Shared) (H : Hp) (E : XK) : Cx where
  prog := P
  w := w
  K := K
  mg := mg
  base := base
  A := A.deeper (envOfC qual scope s.heap.objs.size f cd)
  N := N
  s₀ := s
  H₀ := H
  env := envOfC qual scope s.heap.objs.size f cd
  outer := outer
  stack := envOfC qual scope s.heap.objs.size f cd :: outer
  ex := []
  calm := true
  fn := fun _ => true
  pn := []
  xe := fun e s' => wpAny (model P w) (A.deeper (envOfC qual scope s.heap.objs.size f cd)) (leaving (envOfC qual scope s.heap.objs.size f cd) e) (fun _ s'' => CX outer H s E e s'') (fun e' s'' => CX outer H s E e' s'') s'

theorem cell_has {sc : Scope} {n : Nat} {x : Str} (h : sc.names.lookup x = some .cell) : ∃ c, (cellsFrom n sc.names []).lookup x = some c := by
  have q := PySem.W.cellsFrom_some sc.names n [] (.inl h)
  exact Option.isSome_iff_exists.mp q

theorem inv_start {CX : CXT} {P : Program} {w : World} {K : PySem.W.Frag} {mg : Str → Option Value} {base : Heap} {N ps : List Str} {qual : Str} {scope : Scope} {f : Addr} {cd : Value} {A : Around} {outer : List Env} {s s1 : Shared} {H : Hp} {E : XK} {us : List Value} {vs : List V}
    (S : FnScope N ps scope) (hd : A.handled = none) (e0 : Env0 P w K mg base A outer s H) (hl : vs.length = ps.length) (r : Vals vs us)
    (x : InCallC s s.heap.objs.size (bindL (envOfC qual scope s.heap.objs.size f cd).kindOf (ps.zip us) fun _ => none) (cellsFrom (s.heap.objs.size + 1) scope.names []) (bindC (envOfC qual scope s.heap.objs.size f cd).kindOf (ps.zip us) fun _ => none) s1) :
    Inv (cxOf CX P w K mg base N qual scope f cd A outer s H E) [] (start N vs) H s1 := by
  have hpl : ps.length ≤ N.length := by have := congrArg List.length S.pre; rw [List.length_take] at this; omega
  obtain ⟨h1, tk, rfl, hk⟩ := x.done
  have noA : ∀ b : Addr, b ∉ (cxOf CX P w K mg base N qual scope f cd A outer s H E).ex := fun b z => absurd (show b ∈ ([] : List Addr) from z) (by simp)
  refine ⟨⟨e0.mod, S.kind, rfl, rfl, Nat.le_refl _, fun y z c h1 h2 => ?_, fun y hy => ?_, fun y c _ h => ?_, fun _ => hd, Around.frames_deeper e0.frames, .inr ⟨rfl, rfl⟩, fun b z => absurd z (noA b), e0.bs, e0.bsz, fun b _ _ => noA b, fun b z => absurd z (noA b), e0.funs, e0.frf⟩,
    rfl, e0.bare, Un.kept hk, ⟨_, x.toInCall.ns, fun i y v h1 h2 h3 => ?_⟩, fun y c h => ⟨_, x.cell y c h⟩, e0.hok.fresh (Nat.le_refl _), fun y c h => ?_, fun p hp => absurd (show p ∈ ([] : List (Addr × Obj)) from hp) (by simp), e0.hok.kept hk, ?_⟩
  · exact name_of_addr x.apart (PySem.mem_of_lookup h1) (PySem.mem_of_lookup h2)
  · have hy : scope.names.lookup y = some .cell ∨ scope.names.lookup y = some .free := hy
    rcases hy with hy | hy
    · exact cell_has hy
    · exact absurd rfl (S.nofree _ (PySem.mem_of_lookup hy))
  · exact Nat.le_of_lt (x.above y c (PySem.mem_of_lookup h))
  · have hi : i < vs.length := by
      unfold start at h2
      by_cases hi : i < vs.length
      · exact hi
      · rw [List.getElem?_append_right (by simpa using hi)] at h2
        rw [List.getElem?_replicate] at h2
        split at h2 <;> cases h2
    have ha : vs[i]? = some v := by
      unfold start at h2
      rw [List.getElem?_append_left (by simpa using hi), List.getElem?_map] at h2
      cases e : vs[i]? with
      | none => rw [e] at h2; cases h2
      | some a => rw [e] at h2; cases h2; rfl
    obtain ⟨u, hu, rv⟩ := r.get ha
    have hp : ps[i]? = some y := by
      rw [← S.pre, List.getElem?_take_of_lt (by omega)]; exact h1
    have ndP : ps.Nodup := by rw [← S.pre]; exact S.nd.sublist (List.take_sublist _ _)
    refine ⟨u, rv, ?_⟩
    rcases S.par y (List.mem_of_getElem? hp) with k | k
    · exact .inl ⟨k, bindL_get ndP hp hu k⟩
    · obtain ⟨c, e⟩ := cell_has (n := s.heap.objs.size + 1) k
      refine .inr ⟨.inl k, c, e, ?_⟩
      have q := x.cell y c e
      rw [bindC_get ndP hp hu (by show scope.names.lookup y ≠ _; rw [k]; decide)] at q
      exact q
  · exact e0.hok.fresh (Nat.le_of_lt (x.above y c (PySem.mem_of_lookup h)))
  · unfold start
    show _ = N.length
    rw [List.length_append, List.length_map, List.length_replicate]
    omega

/-- THE RULE: a def (or a method) of the text, by its body. The body's reading t is chosen for each entry; it is run at the parameters' values -/
theorem fn_of {CX : CXT} {P : Program} {w : World} {K : PySem.W.Frag} {mg : Str → Option Value} {base : Heap} {k : Nat} {f : Addr} {name qual : Str} {params : Arguments} {body : List Stmt} {scope : Scope} {dV kV doc pm cdv ct oc : Value} {an od : Option Addr}
    {osl : Array (Option Value)} {N ps : List Str} {sp : Sp} (lk : K.lookup f = some ⟨oc, od, .func (PySem.W.fnOf name qual params body scope dV kV doc pm an cdv ct), osl⟩) (hcd : PySem.W.codeIn K cdv qual = true) (S : FnScope N ps scope)
    (len : ∀ vs H Q E, sp vs H Q E → vs.length = ps.length)
    (hbody : ∀ (A : Around) (outer : List Env) (s : Shared) (H : Hp) (vs : List V) (Q : VK) (E : XK), Room k (A.deeper (envOfC qual scope s.heap.objs.size f cdv)) → sp vs H Q E →
      ∃ t, PSs (cxOf CX P w K mg base N qual scope f cdv A outer s H E) body t ∧ t { nx := fun _ H' => Q .non H', rt := Q } (start N vs) H) :
    FnOk P w K mg base CX (k + 1) f (PySem.W.fnOf name qual params body scope dV kV doc pm an cdv ct) ps sp := by
  refine ⟨len, fun A outer s H args us vs Q E hr e0 hb r hsp => ?_⟩
  have hl := len _ _ _ _ hsp
  have KX : K.In s.heap := e0.mod.kin.keeps fun b o e => (e0.bs b o e).1
  have lim : s.heap.NoLimit := e0.mod.nolimit.keeps fun b o e => (e0.bs b o e).1
  have hkind : ∀ y ∈ ps.zip us, scope.names.lookup y.1 = some .local ∨ (scope.names.lookup y.1 = some .cell ∧ ((cellsFrom (s.heap.objs.size + 1) scope.names []).lookup y.1).isSome = true) := fun ⟨n, v⟩ hy => by
    rcases S.par n (List.of_mem_zip hy).1 with q | q
    · exact .inl q
    · exact .inr ⟨q, PySem.W.cellsFrom_some _ _ _ (.inl q)⟩
  refine codeAny_call_function hr.depth (KX _ _ lk) rfl S.co S.gen rfl (PySem.W.codeRec_of KX hcd) (hb _ _ _ _ ?_)
  refine wpAny_newFunctionEnv_cells S.kind hkind fun env he s1 x => ?_
  subst he
  refine ⟨lim.keeps x.toInCall.keep, codeAny_func ?_⟩
  obtain ⟨t, ht, hq⟩ := hbody A outer s H vs Q E (hr.deeper _) hsp
  have I : Inv (cxOf CX P w K mg base N qual scope f cdv A outer s H E) [] (start N vs) H s1 := inv_start S hr.hd e0 hl r x
  refine wpAny_mono (ht [] s1 (start N vs) H _ I hq) (fun fl s' hs => ?_) fun e s' hs => hs
  have fin : ∀ {σ' : St} {H' : Hp} {v : V} {u : Value}, Inv (cxOf CX P w K mg base N qual scope f cdv A outer s H E) [] σ' H' s' → RelV v u → Q v H' → CE outer P w H s Q u s' :=
    fun {σ' H' v u} J rv q => ⟨v, H', J.os, J.bare, J.base, J.hok, rv, q⟩
  cases fl with
  | ret u =>
    obtain ⟨v, σ', H', J, rv, q⟩ := hs
    exact fin J rv q
  | next =>
    obtain ⟨σ', H', J, q⟩ := hs
    exact fin (v := V.non) (u := Value.none) J rfl q
  | brk =>
    obtain ⟨_, _, _, q⟩ := hs
    exact False.elim q
  | cont =>
    obtain ⟨_, _, _, q⟩ := hs
    exact False.elim q
end L2

namespace L2
open PySem PySem.Spec PyProof.Rows
section
variable {X : Cx} {x : Str} {p pos : Pos} {e : Expr} {es : List Expr} {t : TA} {id T : String} {r : List V → Hp → VK → Prop}

def tCB (r : List V → Hp → VK → Prop) (t : TA) : TE := fun σ H Q => t σ H fun vs H1 => r vs H1 Q
/-- f(e, ..), f a built-in function -/
theorem pe_callB (hc : CallR X (.builtin id) r) (hg : Gl X x) (hm : X.mg x = none) (hv : bootBuiltins x = some (.builtin id)) (ha : PA X (e :: es) t) (hn : x ≠ "__name__" := by decide) (hdb : (x == ("__debug__" : Str)) = false := by decide)
    (he : starEach (e :: es) X.env = (false, eval e X.env) :: starEach es X.env := by rfl) (hpl : (backTo pos (starEach es X.env)).any (·.1) = false := by rfl) : PE X (.Call (.Name x p) (e :: es) [] pos) (tCB r t) := by
  intro pins s σ H Q I h
  refine wpAny_Call_Name_kw (ld_blt I hg hm hv ?_ hn hdb)
  exact PyProof.Rows.callWith_builtin1 (thn (ha pos pins s σ H _ I h) fun us s1 ⟨vs, H1, I1, r1, q1⟩ => hc pins s1 σ H1 vs us Q I1 r1 q1) he hpl
/-- T(e, ..), T a built-in type -/
theorem pe_callTy (hc : CallR X (.type T) r) (hg : Gl X x) (hm : X.mg x = none) (hv : bootBuiltins x = some (.type T)) (ha : PA X (e :: es) t) (hn : x ≠ "__name__" := by decide) (hdb : (x == ("__debug__" : Str)) = false := by decide)
    (he : starEach (e :: es) X.env = (false, eval e X.env) :: starEach es X.env := by rfl) (hpl : (backTo pos (starEach es X.env)).any (·.1) = false := by rfl) : PE X (.Call (.Name x p) (e :: es) [] pos) (tCB r t) := by
  intro pins s σ H Q I h
  refine wpAny_Call_Name_kw (ld_blt I hg hm hv ?_ hn hdb)
  exact PyProof.Rows.callWith_type1 (thn (ha pos pins s σ H _ I h) fun us s1 ⟨vs, H1, I1, r1, q1⟩ => hc pins s1 σ H1 vs us Q I1 r1 q1) he hpl
end
end L2

namespace HT
open PySem PyProof.Rows

/-- t < u of tuples of ints -/
def lexLt : List Int → List Int → Bool
  | [], [] => false
  | [], _ :: _ => true
  | _ :: _, [] => false
  | x :: xs, y :: ys => if x = y then lexLt xs ys else decide (x < y)
section
open PySem.SeqAt
open PySem.AutoSeq1 (wpAny_loadPart')
open PySem.MeetsSeq PySem.MeetsSeq2 PySem.MeetsSeq3

end

section
variable {prog : Program} {w : World} {A : Around} {E : Value → Shared → Prop} {s : Shared}

/-! ### t[a:b], not the whole -/
/-- a slice's bound as a place among n (d where it is left out) -/
def sIx (n d : Nat) : Option Int → Nat
  | none => d
  | some v => if v < 0 then (v + (n : Int)).toNat else min v.toNat n
theorem sIx_none (n d : Nat) : sIx n d none = d := rfl
theorem sIx_nat (n d k : Nat) : sIx n d (some (k : Int)) = min k n := by
  show (if (k : Int) < 0 then ((k : Int) + (n : Int)).toNat else min (k : Int).toNat n) = min k n
  rw [if_neg (by omega), Int.toNat_natCast]
theorem sIx_le (n d : Nat) (hd : d ≤ n) (o : Option Int) : sIx n d o ≤ n := by
  cases o with
  | none => exact hd
  | some v =>
    show (if v < 0 then (v + (n : Int)).toNat else min v.toNat n) ≤ n
    by_cases hv : v < 0
    · rw [if_pos hv]; omega
    · rw [if_neg hv]; exact Nat.min_le_right _ _
end
end HT

namespace L2
open PySem PySem.Spec PyProof.Rows

/-! ### the parts of a slice -/
abbrev TO := St → Hp → (Option Int → Hp → Prop) → Prop
/-- a slice's part (left out, or an int) -/
def PO (X : Cx) (e : Option Expr) (t : TO) : Prop :=
  ∀ (pins : List (Addr × Obj)) (s : Shared) (σ : St) (H : Hp) (Q : Option Int → Hp → Prop), Inv X pins σ H s → t σ H Q →
    wpAny (model X.prog X.w) X.A (evalPart e X.env) (fun u s' => ∃ o H', Inv X pins σ H' s' ∧ IsPart u o ∧ Q o H') X.xe s
def tNoPart : TO := fun _ H Q => Q none H
def tPart (t : TE) : TO := fun σ H Q => t σ H fun x H1 => ∃ i, x = .int i ∧ Q (some i) H1

theorem intsAre_of {ns : List Int} : ∀ {us : List Value}, Vals (ns.map V.int) us → IntsAre us ns := by
  induction ns with
  | nil => intro us r; rw [List.map_nil] at r; cases r; exact .nil
  | cons n ns ih =>
    intro us r
    rw [List.map_cons] at r
    cases r with
    | cons r1 r2 =>
      obtain ⟨t, e⟩ := r1
      subst e
      exact .cons n t (ih r2)

section
variable {X : Cx} {e : Expr} {te : TE} {lo hi : Option Expr} {tl th : TO} {pos p2 : Pos}

theorem po_none : PO X none tNoPart := by
  intro pins s σ H Q I h
  rw [evalPart_none]
  exact wpAny_pure ⟨none, H, I, .none, h⟩
theorem po_some (h : PE X e te) : PO X (some e) (tPart te) := by
  intro pins s σ H Q I hw
  rw [evalPart_some]
  refine thn (h pins s σ H _ I hw) fun u s1 ⟨x, H1, I1, r1, q1⟩ => ?_
  obtain ⟨i, rfl, q⟩ := q1
  obtain ⟨t, rfl⟩ := r1
  exact ⟨some i, H1, I1, .int i t, q⟩

/-- what a slice of a value is, by values: the slice object stands at sl -/
def SlR (X : Cx) (r : V → Option Int → Option Int → Hp → VK → Prop) : Prop :=
  ∀ (pins : List (Addr × Obj)) (s : Shared) (σ : St) (H : Hp) (x : V) (v vl vu : Value) (lo hi : Option Int) (sl : Addr) (Q : VK), Inv X pins σ H s → RelV x v → s.heap.IsSliceOf sl vl vu .none → IsPart vl lo → IsPart vu hi → r x lo hi H Q →
    ∃ T id, typeLookup (.type T) "__getitem__" = pure (some (.builtin id)) ∧ s.TypeIs v T ∧ wpAny (model X.prog X.w) X.A (getItem v (.ref sl)) (EP X pins σ Q) X.xe s
def tSl (r : V → Option Int → Option Int → Hp → VK → Prop) (te : TE) (tl th : TO) : TE := fun σ H Q => te σ H fun x H1 => tl σ H1 fun l H2 => th σ H2 fun u H3 => r x l u H3 Q
/-- a[lo:hi], any a -/
theorem pe_slice {r : V → Option Int → Option Int → Hp → VK → Prop} (hr : SlR X r) (he : PE X e te) (hl : PO X lo tl) (hu : PO X hi th) : PE X (.Subscript e (.Slice lo hi none p2) pos) (tSl r te tl th) := by
  intro pins s σ H Q I h
  refine Subscript_ (thn (he pins s σ H _ I h) fun v s1 ⟨x, H1, I1, r1, q1⟩ => ?_)
  refine wpAny_Slice (thn (hl pins s1 σ H1 _ I1 q1) fun vl s2 ⟨l, H2, I2, pl, q2⟩ => thn (hu pins s2 σ H2 _ I2 q2) fun vu s3 ⟨u, H3, I3, pu, q3⟩ => ?_)
  rw [evalPart_none]
  refine wpAny_pure ?_
  have I4 : Inv X pins σ H3 { s3 with heap := s3.heap.push { cls := .type "slice", data := .fields #[vl, vu, .none] } } := I3.kept (t' := s3.toks) fun b ob q => Heap.get?_push_of_some _ q
  obtain ⟨T, id, hT, ht, hg⟩ := hr pins { s3 with heap := s3.heap.push { cls := .type "slice", data := .fields #[vl, vu, .none] } } σ H3 x v vl vu l u s3.heap.objs.size Q I4 r1 (Heap.IsSliceOf.new ..) pl pu q3
  show wpAny (model X.prog X.w) X.A (subscriptTail e (.Slice lo hi none p2) v (.ref s3.heap.objs.size)) (EP X pins σ Q) X.xe { s3 with heap := s3.heap.push { cls := .type "slice", data := .fields #[vl, vu, .none] } }
  exact tail_any (ops := [.ref s3.heap.objs.size, v]) ht hT hg (by with_unfolding_all rfl)

/-- the items of xs[lo:hi] -/
def cutV (xs : List V) (lo hi : Option Int) : List V := (xs.drop (HT.sIx xs.length 0 lo)).take (HT.sIx xs.length xs.length hi - HT.sIx xs.length 0 lo)
theorem cutV_length (xs : List V) (lo hi : Option Int) : (cutV xs lo hi).length ≤ xs.length := by
  unfold cutV
  rw [List.length_take, List.length_drop]
  omega
/-- t[lo:hi], not the whole of it (the whole would be t itself) -/
def rSlT (K : PySem.W.Frag) : V → Option Int → Option Int → Hp → VK → Prop := fun x lo hi H Q => ∃ a xs, x = .ref a ∧ SqT K H a xs ∧
  ¬ (HT.sIx xs.length 0 lo = 0 ∧ HT.sIx xs.length xs.length hi = xs.length) ∧ ∀ p, H p = none → Q (.ref p) (upd H p (.tup (cutV xs lo hi)))
/-! ### t < u, t + u -/
def rLtT (K : PySem.W.Frag) : R2 := fun x y H Q => ∃ a b ns ms, x = .ref a ∧ y = .ref b ∧ SqT K H a (ns.map V.int) ∧ SqT K H b (ms.map V.int) ∧ Q (.bl (HT.lexLt ns ms)) H
/-- t + u, t not empty: u empty gives t itself -/
def rCatT (K : PySem.W.Frag) : R2 := fun x y H Q => ∃ a b xs ys, x = .ref a ∧ y = .ref b ∧ SqT K H a xs ∧ SqT K H b ys ∧ xs ≠ [] ∧ xs.length + ys.length ≤ sizeLine ∧
  (ys = [] → Q (.ref a) H) ∧ (ys ≠ [] → ∀ p, H p = none → Q (.ref p) (upd H p (.tup (xs ++ ys))))
end
end L2

namespace L2
open PySem PySem.Spec PyProof.Rows

/-! ### places -/
/-- the place that an index of any sign means -/
def ixN (n : Nat) (i : Int) : Option Nat := if 0 ≤ i then (if i < n then some i.toNat else none) else if -(n : Int) ≤ i then some (i + n).toNat else none
def atI {α : Type} (xs : List α) (i : Int) : Option α := (ixN xs.length i).bind fun j => xs[j]?
theorem ixN_seq {n : Nat} {i : Int} {j : Nat} (h : ixN n i = some j) : seqIndex? i n = some j ∧ j < n ∧ -(n : Int) ≤ i ∧ i < n := by
  unfold ixN at h
  by_cases h0 : 0 ≤ i
  · rw [if_pos h0] at h
    by_cases h1 : i < n
    · rw [if_pos h1] at h
      have e : i.toNat = j := Option.some.inj h
      exact ⟨by rw [seqIndex_of h0 h1, e], by omega, by omega, h1⟩
    · rw [if_neg h1] at h; cases h
  · rw [if_neg h0] at h
    by_cases h1 : -(n : Int) ≤ i
    · rw [if_pos h1] at h
      have e : (i + n).toNat = j := Option.some.inj h
      exact ⟨by rw [seqIndex_neg (by omega) h1, e], by omega, h1, by omega⟩
    · rw [if_neg h1] at h; cases h
theorem atI_get {α : Type} {xs : List α} {i : Int} {v : α} (h : atI xs i = some v) : ∃ j, seqIndex? i xs.length = some j ∧ xs[j]? = some v ∧ j < xs.length ∧ -(xs.length : Int) ≤ i ∧ i < xs.length := by
  unfold atI at h
  cases e : ixN xs.length i with
  | none => rw [e] at h; cases h
  | some j =>
    rw [e] at h
    obtain ⟨h1, h2, h3, h4⟩ := ixN_seq e
    exact ⟨j, h1, h, h2, h3, h4⟩
theorem atI_nat {α : Type} {xs : List α} {j : Nat} {v : α} (h : xs[j]? = some v) : atI xs (j : Int) = some v := by
  have hj : j < xs.length := (List.getElem?_eq_some_iff.mp h).1
  have e : ixN xs.length (j : Int) = some j := by
    unfold ixN
    rw [if_pos (by omega), if_pos (by omega)]; simp
  unfold atI; rw [e]; exact h
/-! ### what may be subscripted -/
/-- what stands as an index of a plain subscript -/
def PlainIx (b : Expr) : Prop := ∀ o i, subscripted b false o i = operate [o, i] (getItem o i)
/-- a subscript by values -/
def IxR (X : Cx) (r : R2) : Prop :=
  ∀ (value slice : Expr) (pins : List (Addr × Obj)) (s : Shared) (σ : St) (H : Hp) (x y : V) (v u : Value) (Q : VK), Inv X pins σ H s → RelV x v → RelV y u → r x y H Q →
    subscripted slice false v u = operate [v, u] (getItem v u) → wpAny (model X.prog X.w) X.A (subscriptTail value slice v u) (EP X pins σ Q) X.xe s
/-- a call of a builtin's method by values: the receiver, the arguments -/
def MtR (X : Cx) (id : String) (r : V → List V → Hp → VK → Prop) : Prop :=
  ∀ (pins : List (Addr × Obj)) (s : Shared) (σ : St) (H : Hp) (x : V) (xs : List V) (v : Value) (us : List Value) (Q : VK), Inv X pins σ H s → RelV x v → Vals xs us → r x xs H Q →
    wpAny (model X.prog X.w) X.A (call (.builtin id) (v :: us)) (EP X pins σ Q) X.xe s
section
variable {X : Cx} {a b : Expr} {ta tb : TE} {pos : Pos}
/-- a[b] -/
theorem pe_ix {r : R2} (hr : IxR X r) (ha : PE X a ta) (hb : PE X b tb) (hs : PlainIx b) : PE X (.Subscript a b pos) (tOp r ta tb) := by
  intro pins s σ H Q I h
  exact Subscript_ (binT ha hb I h fun v u s2 x y H2 I2 rx ry q => hr a b pins s2 σ H2 x y v u Q I2 rx ry q (hs _ _))

def rIxL (K : PySem.W.Frag) : R2 := fun x y H Q => ∃ p xs i v, x = .ref p ∧ y = .int i ∧ SqL K H p xs ∧ atI xs i = some v ∧ Q v H
def rIxT (K : PySem.W.Frag) : R2 := fun x y H Q => ∃ p xs i v, x = .ref p ∧ y = .int i ∧ SqT K H p xs ∧ atI xs i = some v ∧ Q v H
def rIxS : R2 := fun x y H Q => ∃ z i c, x = .str z ∧ y = .int i ∧ z.length ≤ sizeLine ∧ atI z.cps.toList i = some c ∧ Q (.str ⟨#[c]⟩) H
theorem ix_list : IxR X (rIxL X.K) := by
  intro value slice pins s σ H x y v u Q I rx ry h hs
  obtain ⟨p, xs, i, z, rfl, rfl, hq, he, q⟩ := h
  cases rx
  obtain ⟨t, rfl⟩ := ry
  obtain ⟨its, r, pl, hz⟩ := I.list hq
  obtain ⟨j, h1, h2, h3, h4, h5⟩ := atI_get he
  obtain ⟨w, ew, rw'⟩ := r.get h2
  have hl := r.length
  have hn := line63
  have fin : EP X pins σ Q w s := ⟨z, H, I, rw', q⟩
  by_cases h0 : 0 ≤ i
  · have hj : i.toNat = j := by
      rw [seqIndex_of h0 h5] at h1
      exact Option.some.inj h1
    exact item_listR pl.isList h0 (by omega) (by rw [hj]; simpa using ew) fin hs
  · have hj : (i + (its.toArray.size : Int)).toNat = j := by
      rw [seqIndex_neg (by omega) h4] at h1
      rw [List.size_toArray, ← hl]
      exact Option.some.inj h1
    exact subscriptTail_builtinR (x := w) pl.isList.typeIs slot_list_getitem.lookup
      (wpAny_getItem_list_neg (Q := fun r s' => r = w ∧ EP X pins σ Q r s') pl.isList (by omega) (by rw [List.size_toArray] <;> omega) (by omega) (by rw [hj]; simpa using ew) ⟨rfl, fin⟩) hs
theorem ix_str : IxR X rIxS := by
  intro value slice pins s σ H x y v u Q I rx ry h hs
  obtain ⟨z, i, c, rfl, rfl, hz, he, q⟩ := h
  obtain ⟨t, rfl⟩ := rx
  obtain ⟨t', rfl⟩ := ry
  obtain ⟨j, h1, h2, h3, h4, h5⟩ := atI_get he
  have hl : z.cps.toList.length = z.length := by simp [Str.length]
  rw [hl] at h1 h4 h5
  have hn := line63
  exact tail_any (typeIs_str s z t) slot_str_getitem.lookup (getItem_str (c := c) (by
    have e1 : decide (i < -(2 ^ 63 : Int)) = false := decide_eq_false (by omega)
    have e2 : decide (i ≥ 2 ^ 63) = false := decide_eq_false (by omega)
    rw [e1, e2, Bool.or_false]) (by rw [h1]; simpa using h2) ⟨.str ⟨#[c]⟩, H, I.tok _, ⟨_, rfl⟩, q⟩) hs
/-- list, tuple or str -/
def rIx (K : PySem.W.Frag) : R2 := fun x y H Q => rIxL K x y H Q ∨ rIxT K x y H Q ∨ rIxS x y H Q
/-! ### xs[i] = v, any sign -/
/-- the list's object behind a store -/
theorem mapSeq_set (its : List Value) (n j : Nat) (u : Value) : Obj.mapSeq (·.setIfInBounds j u) { cls := .type "list", data := .seq its.toArray n } = { cls := .type "list", data := .seq (its.set j u).toArray n } := by
  simp [Obj.mapSeq]
theorem Inv.lst {pins : List (Addr × Obj)} {σ : St} {H : Hp} {s : Shared} {p : Addr} {xs : List V} (I : Inv X pins σ H s) (h : H p = some (.lst xs)) :
    ∃ (its : List Value) (n : Nat), Vals xs its ∧ s.heap.get? p = some { cls := .type "list", data := .seq its.toArray n } ∧ xs.length ≤ sizeLine := by
  obtain ⟨z, its, n, r, e⟩ := I.hok p _ h
  exact ⟨its, n, r, e, z⟩
/-- the list at p is written by an update of its object -/
theorem Inv.lstUpd {pins : List (Addr × Obj)} {σ : St} {H : Hp} {s : Shared} {p : Addr} {xs ys : List V} {its its' : List Value} {n n' : Nat} {f : Obj → Obj} (I : Inv X pins σ H s) (h : H p = some (.lst xs))
    (ho : s.heap.get? p = some { cls := .type "list", data := .seq its.toArray n }) (hf : f { cls := .type "list", data := .seq its.toArray n } = { cls := .type "list", data := .seq its'.toArray n' }) (r : Vals ys its') (hz : ys.length ≤ sizeLine) (t : Nat) :
    Inv X pins σ (upd H p (.lst ys)) { s with heap := s.heap.update p f, toks := t } := by
  have e : (s.heap.update p f).get? p = some { cls := .type "list", data := .seq its'.toArray n' } := by
    rw [Heap.get?_update_self f ho (by rw [hf] <;> rfl), hf]
  refine I.write (x := p) (e := p) (by rw [h]; trivial) (.inl rfl) (fun b u hb q => (Heap.get?_update_other _ _ (Ne.symm hb)).trans q) ⟨_, e⟩ ?_
  exact ⟨hz, its', n', r, e⟩
def rSetL : V → V → V → Hp → (Hp → Prop) → Prop := fun o i v H Q => ∃ p xs k j, o = .ref p ∧ i = .int k ∧ H p = some (.lst xs) ∧ ixN xs.length k = some j ∧ Q (upd H p (.lst (xs.set j v)))
theorem set_list : PSet X rSetL := by
  intro pins s σ H o i v ov iv u Q I ro ri rv h
  obtain ⟨p, xs, k, j, rfl, rfl, hp, hj, q⟩ := h
  cases ro
  obtain ⟨t, rfl⟩ := ri
  obtain ⟨its, n, r, ho, hz⟩ := I.lst hp
  obtain ⟨h1, h2, h3, h4⟩ := ixN_seq hj
  have hl := r.length
  have hn := line63
  have I' : Inv X pins σ (upd H p (.lst (xs.set j v))) { s with heap := s.heap.update p (Obj.mapSeq (·.setIfInBounds j u)) } :=
    I.lstUpd hp ho (mapSeq_set its n j u) (r.set rv j) (by rw [List.length_set]; exact hz) s.toks
  by_cases h0 : 0 ≤ k
  · have hk : k.toNat = j := by
      rw [seqIndex_of h0 h4] at h1
      exact Option.some.inj h1
    exact PySem.W.ki_setAt ho h0 (by omega) (by rw [List.size_toArray, ← hl]; exact h4) (by rw [hk]; exact ⟨_, I', q⟩)
  · have hk : (k + (its.toArray.size : Int)).toNat = j := by
      rw [seqIndex_neg (by omega) h3] at h1
      rw [List.size_toArray, ← hl]
      exact Option.some.inj h1
    exact PySem.W.ki_setBack ho (by omega) (by rw [List.size_toArray, ← hl]; exact h3) (by omega) (by rw [hk]; exact ⟨_, I', q⟩)

/-! ### slices -/
theorem slice_bounds (lo hi : Option Int) (n : Nat) : (sliceBounds lo hi none n).1 = ((HT.sIx n 0 lo : Nat) : Int) ∧ (sliceBounds lo hi none n).2.1 = ((HT.sIx n n hi : Nat) : Int) ∧ (sliceBounds lo hi none n).2.2 = 1 := by
  refine ⟨?_, ?_, rfl⟩
  · cases lo with
    | none => simp [sliceBounds, HT.sIx]
    | some i =>
      simp only [sliceBounds, HT.sIx, Option.getD_none, show (1 : Int) > 0 by decide, if_true]
      by_cases h : i < 0
      · simp only [h, if_true] <;> omega
      · simp only [h, if_false] <;> omega
  · cases hi with
    | none => simp [sliceBounds, HT.sIx]
    | some i =>
      simp only [sliceBounds, HT.sIx, Option.getD_none, show (1 : Int) > 0 by decide, if_true]
      by_cases h : i < 0
      · simp only [h, if_true] <;> omega
      · simp only [h, if_false] <;> omega
theorem slicePick_cut (its : List Value) (lo hi : Option Int) : slicePick its.toArray lo hi none = ((its.drop (HT.sIx its.length 0 lo)).take (HT.sIx its.length its.length hi - HT.sIx its.length 0 lo)).toArray := by
  obtain ⟨h1, h2, h3⟩ := slice_bounds lo hi its.toArray.size
  unfold slicePick
  rw [h1, h2, h3]
  simp only [sliceRange_one, pick_run, List.size_toArray] <;> rfl
/-- xs[lo:hi] of a list: a new list -/
def rSlL (K : PySem.W.Frag) : V → Option Int → Option Int → Hp → VK → Prop := fun x lo hi H Q => ∃ a xs, x = .ref a ∧ SqL K H a xs ∧ ∀ p, H p = none → Q (.ref p) (upd H p (.lst (cutV xs lo hi)))
theorem sl_list : SlR X (rSlL X.K) := by
  intro pins s σ H x v vl vu lo hi sl Q I rx hs pl pu h
  obtain ⟨a, xs, rfl, hx, q⟩ := h
  cases rx
  obtain ⟨its, r, ht, hz⟩ := I.list hx
  have hlen := r.length
  refine ⟨"list", _, slot_list_getitem.lookup, ht.isList.typeIs, ?_⟩
  refine wpAny_getItem_list_slice ht.isList hs pl pu .none (by simp) ?_ (by rw [List.size_toArray] <;> omega)
  rw [slicePick_cut, ← hlen]
  refine ⟨.ref s.heap.objs.size, _, I.laid (t' := s.toks) (o := .lst (cutV xs lo hi)) (fun b ob q => Heap.get?_push_of_some _ q) (Nat.le_refl _) ?_, rfl, q _ (I.hok.fresh (Nat.le_refl _))⟩
  exact ⟨Nat.le_trans (cutV_length xs lo hi) hz, _, 0, (r.drop (HT.sIx xs.length 0 lo)).take (HT.sIx xs.length xs.length hi - HT.sIx xs.length 0 lo), Heap.get?_push_size _ rfl⟩

/-! ### in, not in: flat items -/
def flatV : V → Bool
  | .non => true
  | .bl _ => true
  | .int _ => true
  | .str _ => true
  | _ => false
/-- == of flat values -/
def eqV : V → V → Bool
  | .non, .non => true
  | .bl a, .bl b => a == b
  | .bl a, .int b => (if a then 1 else 0) == b
  | .int a, .bl b => a == (if b then 1 else 0)
  | .int a, .int b => a == b
  | .str a, .str b => a == b
  | _, _ => false
theorem eqAt_V {A : Around} {s : Shared} {y x : V} {u v : Value} (ry : RelV y u) (rx : RelV x v) (fy : flatV y = true) (fx : flatV x = true) : SeqAt.EqAt A s u v (eqV y x) := by
  cases y with
  | non =>
    cases ry
    cases x with
    | non => cases rx; exact SeqAt.EqAt.same _
    | bl b => cases rx; exact SeqAt.EqAt.none_bool b
    | int b => obtain ⟨t, rfl⟩ := rx; exact SeqAt.EqAt.none_int b t
    | str b => obtain ⟨t, rfl⟩ := rx; exact SeqAt.EqAt.none_str b t
    | _ => exact absurd (show false = true from fx) Bool.false_ne_true
  | bl a =>
    cases ry
    cases x with
    | non => cases rx; exact SeqAt.EqAt.bool_none a
    | bl b => cases rx; exact SeqAt.EqAt.bool_bool a b
    | int b => obtain ⟨t, rfl⟩ := rx; exact SeqAt.EqAt.bool_int a b t
    | str b => obtain ⟨t, rfl⟩ := rx; exact SeqAt.EqAt.bool_str a b t
    | _ => exact absurd (show false = true from fx) Bool.false_ne_true
  | int a =>
    obtain ⟨t', rfl⟩ := ry
    cases x with
    | non => cases rx; exact SeqAt.EqAt.int_none a t'
    | bl b => cases rx; exact SeqAt.EqAt.int_bool a t' b
    | int b => obtain ⟨t, rfl⟩ := rx; exact SeqAt.EqAt.int_int a t' b t
    | str b => obtain ⟨t, rfl⟩ := rx; exact SeqAt.EqAt.int_str a t' b t
    | _ => exact absurd (show false = true from fx) Bool.false_ne_true
  | str a =>
    obtain ⟨t', rfl⟩ := ry
    cases x with
    | non => cases rx; exact SeqAt.EqAt.str_none a t'
    | bl b => cases rx; exact SeqAt.EqAt.str_bool a t' b
    | int b => obtain ⟨t, rfl⟩ := rx; exact SeqAt.EqAt.str_int a t' b t
    | str b => obtain ⟨t, rfl⟩ := rx; exact SeqAt.EqAt.str_str a t' b t
    | _ => exact absurd (show false = true from fx) Bool.false_ne_true
  | _ => exact absurd (show false = true from fy) Bool.false_ne_true
/-- the items' answers, read off the values (a value's own answer does not lean on its token) -/
def eqU (x : V) (u : Value) : Bool := match u with
  | .none => eqV .non x
  | .bool b => eqV (.bl b) x
  | .int i _ => eqV (.int i) x
  | .str z _ => eqV (.str z) x
  | _ => false
def inV (x : V) (xs : List V) : Bool := xs.any fun y => eqV y x
/-- x in a list or tuple of flat items -/
def rIn (K : PySem.W.Frag) (neg : Bool) : R2 := fun x y H Q => ∃ p xs, y = .ref p ∧ (SqL K H p xs ∨ SqT K H p xs) ∧ flatV x = true ∧ xs.all flatV = true ∧ Q (.bl (if neg then !inV x xs else inV x xs)) H
/-! ### len, list(x), tuple(x) of any list or tuple that is read -/
theorem call_len_seq : CallR X (.builtin "len") (fun xs H Q => ∃ p ys, xs = [.ref p] ∧ (SqL X.K H p ys ∨ SqT X.K H p ys) ∧ Q (.int ys.length) H) := by
  intro pins s σ H xs us Q I r h
  obtain ⟨p, ys, rfl, hq, q⟩ := h
  obtain ⟨u, rfl, rx⟩ := vals1 r
  cases rx
  have hn := line63
  rcases hq with hq | hq
  · obtain ⟨its, r', pl, hz⟩ := I.list hq
    have hlen := r'.length
    exact Calls.call_len_list pl.isList (by simp only [List.size_toArray] <;> omega) ⟨.int ys.length, H, I.tok _, ⟨s.toks + 1, by rw [List.size_toArray, hlen]⟩, q⟩
  · obtain ⟨its, r', pl, hz⟩ := I.tuple hq
    have hlen := r'.length
    exact len_tuple pl (by simp only [List.size_toArray] <;> omega) ⟨.int ys.length, H, I.tok _, ⟨s.toks + 1, by rw [List.size_toArray, hlen]⟩, q⟩
theorem call_len_str : CallR X (.builtin "len") (fun xs H Q => ∃ z, xs = [.str z] ∧ z.length ≤ sizeLine ∧ Q (.int z.length) H) := by
  intro pins s σ H xs us Q I r h
  obtain ⟨z, rfl, hz, q⟩ := h
  obtain ⟨u, rfl, t, rfl⟩ := vals1 r
  have hn := line63
  exact len_str (by omega) ⟨.int z.length, H, I.tok _, ⟨_, rfl⟩, q⟩
theorem call_list_of : CallR X (.type "list") (fun xs H Q => ∃ p ys, xs = [.ref p] ∧ (SqL X.K H p ys ∨ SqT X.K H p ys) ∧ ∀ l, H l = none → Q (.ref l) (upd H l (.lst ys))) := by
  intro pins s σ H xs us Q I r h
  obtain ⟨p, ys, rfl, hq, q⟩ := h
  obtain ⟨u, rfl, rx⟩ := vals1 r
  cases rx
  have fin : ∀ (its : List Value), Vals ys its → ys.length ≤ sizeLine → ∀ (h' : Heap) (c' : Nat), (∀ b o', s.heap.get? b = some o' → h'.get? b = some o') →
      h'.get? s.heap.objs.size = some { cls := .type "list", dict := none, data := .seq its.toArray c', slots := #[] } → EP X pins σ Q (.ref s.heap.objs.size) { s with heap := h' } := fun its r' hz h' c' kp e =>
    ⟨.ref s.heap.objs.size, _, I.laid (t' := s.toks) kp (Nat.le_refl _) (show ObjOk X.prog X.w _ h' _ (.lst ys) from ⟨hz, its, c', r', e⟩), rfl, q _ (I.hok.fresh (Nat.le_refl _))⟩
  rcases hq with hq | hq
  · obtain ⟨its, r', pl, hz⟩ := I.list hq
    have hlen := r'.length
    obtain ⟨o, ho, hc, n, hd⟩ := pl.isList
    exact call_list_seq p (.inl rfl) ho hc hd (fun h' c' kp e => fin its r' hz h' c' kp e) (by simp only [List.size_toArray] <;> omega)
  · obtain ⟨its, r', pl, hz⟩ := I.tuple hq
    have hlen := r'.length
    obtain ⟨o, ho, hc, n, hd⟩ := pl
    exact call_list_seq p (.inr rfl) ho hc hd (fun h' c' kp e => fin its r' hz h' c' kp e) (by simp only [List.size_toArray] <;> omega)
/-! ### the call of a builtin's method: o.m(..) -/
/-- the value is of that builtin type -/
def tyV (K : PySem.W.Frag) (T : String) (x : V) (H : Hp) : Prop := match x with
  | .str _ => T = "str"
  | .int _ => T = "int"
  | .ref p => (T = "list" ∧ ∃ xs, SqL K H p xs) ∨ (T = "tuple" ∧ ∃ o, K.lookup p = some o ∧ o.cls = .type "tuple" ∧ o.dict = none) ∨
      (T = "dict" ∧ ((∃ kvs, H p = some (.dK kvs)) ∨ ∃ kvs, H p = some (.dT kvs))) ∨ (T = "set" ∧ ∃ S n, H p = some (.set S n))
  | _ => False
theorem tyV_is {pins : List (Addr × Obj)} {σ : St} {H : Hp} {s : Shared} {T : String} {x : V} {v : Value} (I : Inv X pins σ H s) (r : RelV x v) (ty : tyV X.K T x H) :
    s.TypeIs v T ∧ ∀ a, v = .ref a → ∃ ob, s.heap.get? a = some ob ∧ ob.dict = none := by
  cases x with
  | str z =>
    obtain ⟨t, rfl⟩ := r
    cases (show T = "str" from ty)
    exact ⟨typeIs_str s z t, fun _ e => nomatch e⟩
  | int i =>
    obtain ⟨t, rfl⟩ := r
    cases (show T = "int" from ty)
    exact ⟨typeIs_int s i t, fun _ e => nomatch e⟩
  | ref p =>
    cases r
    rcases ty with ⟨rfl, xs, hq⟩ | ⟨rfl, o, hk, hc, hd⟩ | ⟨rfl, hk⟩ | ⟨rfl, S, n, hk⟩
    · obtain ⟨its, _, pl, _⟩ := I.list hq
      refine ⟨pl.isList.typeIs, fun a e => ?_⟩
      cases e
      obtain ⟨o, n, e, c, hd, _⟩ := pl
      exact ⟨o, e, hd⟩
    · refine ⟨⟨o, I.kIn p o hk, hc⟩, fun a e => ?_⟩
      cases e
      exact ⟨o, I.kIn _ o hk, hd⟩
    · have z : ∃ o, s.heap.get? p = some o ∧ o.ExactDict := by
        rcases hk with ⟨kvs, hk⟩ | ⟨kvs, hk⟩
        · obtain ⟨_, _, _, _, o, _, _, e, ex, _⟩ := I.hok p _ hk
          exact ⟨o, e, ex⟩
        · obtain ⟨_, _, _, _, o, _, _, e, ex, _⟩ := I.hok p _ hk
          exact ⟨o, e, ex⟩
      obtain ⟨o, e, ex⟩ := z
      refine ⟨⟨o, e, ex.1⟩, fun a e2 => ?_⟩
      cases e2
      exact ⟨o, e, ex.2.1⟩
    · obtain ⟨o, _, _, _, e, ex, _⟩ := I.hok p _ hk
      refine ⟨⟨o, e, ex.1⟩, fun a e2 => ?_⟩
      cases e2
      exact ⟨o, e, ex.2.1⟩
  | _ => exact False.elim ty
def tBM0 (K : PySem.W.Frag) (T : String) (r : V → List V → Hp → VK → Prop) (to : TE) : TE := fun σ H Q => to σ H fun x H1 => tyV K T x H1 ∧ r x [] H1 Q
def tBM (K : PySem.W.Frag) (T : String) (r : V → List V → Hp → VK → Prop) (to : TE) (t : TA) : TE := fun σ H Q => to σ H fun x H1 => tyV K T x H1 ∧ t σ H1 fun xs H2 => r x xs H2 Q
variable {o e : Expr} {es : List Expr} {to : TE} {t : TA} {name : Str} {apos cpos : Pos} {T id : String} {r : V → List V → Hp → VK → Prop}
theorem pe_bm (pa : PlainAttrs T) (slot : Slot T name id) (hty : typeOf (.builtin id) = pure (.type "method_descriptor")) (hm : MtR X id r) (ho : PE X o to) (ha : PA X (e :: es) t)
    (hbase : attributeBase o name X.env (eval o X.env) = eval o X.env := by rfl)
    (hfew : ((backTo cpos (starEach (e :: es) X.env)).all (fun x => !x.1) && (backToKw cpos (keywordEach [] X.env)).all (fun x => x.1.isSome)
      && decide ((e :: es).length + ([] : List Keyword).length + (if ([] : List Keyword).isEmpty then 0 else 1) < 30)) = true := by rfl)
    (hline : (apos.endLine == cpos.line) = true := by rfl) (hs : starEach (e :: es) X.env = (false, eval e X.env) :: starEach es X.env := by rfl) (hplain : (backTo cpos (starEach es X.env)).any (·.1) = false := by rfl) :
    PE X (.Call (.Attribute o name apos) (e :: es) [] cpos) (tBM X.K T r to t) := by
  intro pins s σ H Q I h
  refine wpAny_Call_method_late hbase hfew hline rfl (thn (ho pins s σ H _ I h) fun v s1 ⟨x, H1, I1, r1, ty, q1⟩ => ?_)
  obtain ⟨h1, h2⟩ := tyV_is I1 r1 ty
  refine ⟨T, id, pa, slot, hty, h1, h2, ?_⟩
  have hA := ha cpos pins s1 σ H1 _ I1 q1
  rw [hs] at hA ⊢
  refine Calls.callWith_builtin (by show (false || (backTo cpos (starEach es X.env)).any (·.1)) = false; rw [hplain] <;> rfl) (Calls.evalArgs_plain ?_)
  exact thn hA fun us s2 ⟨vs, H2, I2, r2, q2⟩ => hm pins s2 σ H2 x vs v us Q I2 r1 r2 q2
/- xs.append(e), list.index on a module's tuple .. are MtR facts of 06m -/
end
end L2

namespace L2
open PySem PySem.Spec PyProof.Rows

def MtM (X : Cx) (id : String) (r : V → List V → Hp → VK → Prop) : Prop :=
  ∀ (pins : List (Addr × Obj)) (s : Shared) (σ : St) (H : Hp) (x : V) (xs : List V) (v : Value) (us : List Value) (Q : VK), Inv X pins σ H s → RelV x v → Vals xs us → r x xs H Q →
    wpAny (model X.prog X.w) X.A (call (.builtin id) (v :: us)) (EP X pins σ Q) X.xe s

/-! ### lists of values -/
theorem Vals.one : ∀ {x : V} {us : List Value}, Vals [x] us → ∃ u, us = [u] ∧ RelV x u
  | _, _, .cons r .nil => ⟨_, rfl, r⟩
theorem Vals.two : ∀ {x y : V} {us : List Value}, Vals [x, y] us → ∃ u v, us = [u, v] ∧ RelV x u ∧ RelV y v
  | _, _, _, .cons r (.cons q .nil) => ⟨_, _, rfl, r, q⟩
theorem Vals.eraseIdx : ∀ {xs : List V} {us : List Value} (i : Nat), Vals xs us → Vals (xs.eraseIdx i) (us.eraseIdx i)
  | _, _, _, .nil => .nil
  | _, _, 0, .cons _ t => t
  | _, _, i + 1, .cons r t => .cons r (Vals.eraseIdx i t)
theorem len_erase {α : Type} : ∀ (l : List α) (i : Nat), (l.eraseIdx i).length ≤ l.length
  | [], _ => Nat.le_refl _
  | _ :: _, 0 => Nat.le_succ _
  | _ :: r, i + 1 => Nat.succ_le_succ (len_erase r i)
section
variable {X : Cx} {pins : List (Addr × Obj)} {σ : St} {H : Hp} {s : Shared} {l b : Addr} {xs ys zs : List V}

/-! ### the two steps: a tracked list is rewritten, a new list is laid -/
theorem Inv.lset {its its' : List Value} {n : Nat} {f : Array Value → Array Value} {t' : Nat} (I : Inv X pins σ H s) (hH : H l = some (.lst xs))
    (e : s.heap.get? l = some { cls := .type "list", data := .seq its.toArray n }) (hf : f its.toArray = its'.toArray) (hv : Vals ys its') (hz : ys.length ≤ sizeLine) :
    Inv X pins σ (upd H l (.lst ys)) { s with heap := s.heap.update l (Obj.mapSeq f), toks := t' } := by
  have q := PySem.IsL.update e f
  rw [hf] at q
  refine I.write (x := l) (e := l) (by rw [hH]; exact trivial) (.inl rfl) (fun b' u hb hu => (Heap.get?_update_other s.heap (Obj.mapSeq f) (Ne.symm hb)).trans hu) ⟨_, q⟩ ?_
  exact ⟨hz, its', _, hv, q⟩
theorem Inv.lstM (I : Inv X pins σ H s) (hH : H l = some (.lst xs)) : xs.length ≤ sizeLine ∧ ∃ (its : List Value) (n : Nat), Vals xs its ∧ xs.length = its.length ∧ s.heap.get? l = some { cls := .type "list", data := .seq its.toArray n } := by
  obtain ⟨z, its, n, r, e⟩ := I.hok l _ hH
  exact ⟨z, its, n, r, r.length, e⟩

end

section
variable {X : Cx}

/-! ### methods -/
def rAppend : V → List V → Hp → VK → Prop := fun x vs H Q => ∃ l xs y, x = .ref l ∧ vs = [y] ∧ H l = some (.lst xs) ∧ xs.length < sizeLine ∧ Q .non (upd H l (.lst (xs ++ [y])))
theorem mt_append : MtM X "list.append" rAppend := by
  intro pins s σ H x vs v us Q I rx rv h
  obtain ⟨l, xs, y, rfl, rfl, hH, hz, q⟩ := h
  cases rx
  obtain ⟨u, rfl, ru⟩ := rv.one
  obtain ⟨z, its, n, r, hl, e⟩ := I.lstM hH
  refine call_meets F.slot_list_append ⟨_, e, rfl⟩ F.entry_list_append (F.args_list_append_2 _ _) (PySem.list_append l its.toArray n u (by rw [List.size_toArray]; omega)) ⟨e, ?_⟩
  refine ⟨.non, _, I.lset (its' := its ++ [u]) hH e (by simp) (r.append (.cons ru .nil)) ?_, rfl, q⟩
  rw [List.length_append, List.length_singleton]
  omega

def rExtend : V → List V → Hp → VK → Prop := fun x vs H Q => ∃ l b xs zs, x = .ref l ∧ vs = [.ref b] ∧ H l = some (.lst xs) ∧ H b = some (.lst zs) ∧ xs.length + zs.length ≤ sizeLine ∧ Q .non (upd H l (.lst (xs ++ zs)))
def rPop : V → List V → Hp → VK → Prop := fun x vs H Q => ∃ l xs y, x = .ref l ∧ vs = [] ∧ H l = some (.lst xs) ∧ xs[xs.length - 1]? = some y ∧ Q y (upd H l (.lst xs.dropLast))
def rPopAt : V → List V → Hp → VK → Prop := fun x vs H Q => ∃ l xs i k y, x = .ref l ∧ vs = [.int i] ∧ H l = some (.lst xs) ∧ -(2 ^ 63) ≤ i ∧ i < 2 ^ 63 ∧ seqIndex? i xs.length = some k ∧ xs[k]? = some y ∧ Q y (upd H l (.lst (xs.eraseIdx k)))
theorem mt_popAt : MtM X "list.pop" rPopAt := by
  intro pins s σ H x vs v us Q I rx rv h
  obtain ⟨l, xs, i, k, y, rfl, rfl, hH, h1, h2, hk, hy, q⟩ := h
  cases rx
  obtain ⟨u, rfl, ru⟩ := rv.one
  obtain ⟨t, rfl⟩ := ru
  obtain ⟨z, its, n, r, hl, e⟩ := I.lstM hH
  obtain ⟨w, hw, rw'⟩ := r.get hy
  refine call_meets F.slot_list_pop ⟨_, e, rfl⟩ F.entry_list_pop (F.args_list_pop_2 _ _)
    (MeetsSeq.list_pop_at l its.toArray n i t k w (fitsIndex_both h1 h2) (by rw [List.size_toArray, ← hl]; exact hk) (by rw [← Array.getElem?_toList]; exact hw) (by rw [List.size_toArray]; omega)) ⟨e, ?_⟩
  refine ⟨y, _, I.lset (its' := its.eraseIdx k) hH e ?_ (r.eraseIdx k) ?_, rw', q⟩
  · show its.toArray.eraseIdxIfInBounds k = (its.eraseIdx k).toArray
    rw [List.eraseIdxIfInBounds_toArray]
  · have := len_erase xs k
    omega

def rReverse : V → List V → Hp → VK → Prop := fun x vs H Q => ∃ l xs, x = .ref l ∧ vs = [] ∧ H l = some (.lst xs) ∧ Q .non (upd H l (.lst xs.reverse))
def rClear : V → List V → Hp → VK → Prop := fun x vs H Q => ∃ l xs, x = .ref l ∧ vs = [] ∧ H l = some (.lst xs) ∧ Q .non (upd H l (.lst []))
/-! ### list + list, list += list, list * int -/
def rCat : R2 := fun x y H Q => ∃ l b xs zs, x = .ref l ∧ y = .ref b ∧ H l = some (.lst xs) ∧ H b = some (.lst zs) ∧ xs.length + zs.length ≤ sizeLine ∧ ∀ p, H p = none → Q (.ref p) (upd H p (.lst (xs ++ zs)))
/-- a list times an int (a negative one is nothing) -/
def rRep : R2 := fun x y H Q => ∃ l k xs, x = .ref l ∧ y = .int k ∧ H l = some (.lst xs) ∧ -(2 ^ 63) ≤ k ∧ k < 2 ^ 63 ∧ xs.length * k.toNat ≤ sizeLine ∧
  ∀ p, H p = none → Q (.ref p) (upd H p (.lst (List.replicate k.toNat xs).flatten))
theorem len_rep {α : Type} (xs : List α) (k : Nat) : (List.replicate k xs).flatten.length = k * xs.length := by
  induction k with
  | zero => simp
  | succ k ih => rw [List.replicate_succ, List.flatten_cons, List.length_append, ih, Nat.succ_mul, Nat.add_comm]
/-! ### del xs[i] -/
end

/-! ### xs[a:b] = ys -/
section
variable {prog : Program} {w : World} {A : Around} {E : Value → Shared → Prop} {s : Shared}
end

section
variable {X : Cx}
end
end L2

namespace Att
open PySem PySem.W PySem.Calls PyProof.Rows

/-! ### the script -/
theorem ints_of_wellAll {P : Params} {h : Heap} : ∀ (ns : List Int) (vs : List Value), WellAll P h vs (ns.map WData.int) → IntsAre vs ns := by
  intro ns
  induction ns with
  | nil =>
    intro vs w
    rw [List.map_nil] at w
    cases w
    exact .nil
  | cons n ns ih =>
    intro vs w
    rw [List.map_cons] at w
    cases w with
    | cons a b =>
      cases a
      exact .cons _ _ (ih _ b)

theorem script_of {l : OpenLaw} {n : Nat} (hn : l.most = some n) {P : Params} {h : Heap} {args : List WData} {vals : List Value}
    (hpre : l.row.toRowW.claim.pre args = true) (hwl : WellAll P h vals args) :
    ∃ a vs ns, vals = [Value.ref a] ∧ args = [WData.list (ns.map WData.int)] ∧ h.get? a = some { cls := .type "list", data := .seq vs.toArray } ∧ IntsAre vs ns ∧ ns.length ≤ n := by
  have hsh : WShape.hasAll [] args [.list .int] = true := (pre_splitW hpre).1
  have hc : l.pre.holds [] { args := args } = true := (pre_splitW hpre).2
  obtain ⟨d, r, rfl, h1, h2⟩ := hasAllW_cons hsh
  obtain rfl := hasAllW_nil h2
  obtain ⟨xs, rfl, h3⟩ := hasW_list h1
  obtain ⟨ns, rfl⟩ := items_int h3
  have hlen : ns.length ≤ n := by
    unfold OpenLaw.pre at hc
    have h4 : (WTm.not (.lt (.lit (.int (n : Int))) (.len (.arg 0)))).holds [] { args := [.list (ns.map .int)] } = true := by
      have h4 := (holds_andW hc).1
      rw [hn] at h4
      exact h4
    have h5 := condW_of h4 (w_not (w_lt w_lit (w_len_list (w_arg rfl))))
    rw [List.length_map] at h5
    refine Nat.le_of_not_lt fun q => ?_
    have q' : (n : Int) < ((ns.length : Nat) : Int) := by omega
    first
      | (rw [decide_eq_true q'] at h5; exact absurd h5 (by decide))
      | (simp at h5; omega)
  cases hwl with
  | cons w1 w2 =>
    cases w2
    cases w1 with
    | list ho hall => exact ⟨_, _, ns, rfl, rfl, ho, ints_of_wellAll ns _ hall, hlen⟩

theorem post_true (l : OpenLaw) (args : List WData) : l.row.toRowW.claim.post args (.bool true) args = true :=
  postW_of (r := l.row.toRowW) (X := (true == true))
    (show WShape.has [] (.bool true) .bool = true by first | rfl | decide | simp [WShape.has, WShape.arms, WShape.armsAll])
    (show (WTm.eq .res (.lit (.bool true))).value [] { args := args, res := some (.bool true), after := args } = some (.bool (true == true)) from w_eq_bool (w_res rfl) w_lit) rfl

/-! ### the attachment: holds_open's last premise (the goal 'hc' behind k_head) from a wpAny of the law's body -/
/-- the same from a codeAny of the CALL (for a layer whose function contracts speak of calls) -/
theorem attach_call {l : OpenLaw} {n : Nat} {q : Program} {loose : List Str} {XP : (Str → Option Value) → Heap → Prop} {YP : World → Heap → Prop} {d : DefRec}
    (hn : l.most = some n) (hdf : d.params.defaults = [])
    (call : ∀ (w : World) (s₀ s₁ : Shared) (mg mb : Str → Option Value) (fa : Addr) (o : Obj) (pm cd doc : Value) (a : Addr) (vs : List Value) (ns : List Int),
      Ground q loose [] XP w s₀ mg mb s₁.heap → YP w s₁.heap →
      s₁.heap.get? fa = some o → o.data = .func (docDef d.name d.params d.body d.scope pm cd doc) → s₁.heap.CodeRec cd d.name → mg d.name = some (.ref fa) →
      s₁.heap.get? a = some { cls := .type "list", data := .seq vs.toArray } → IntsAre vs ns → ns.length ≤ n → s₁.gens = #[] →
      codeAny (model l.prog w) callerA (.call (.ref fa) ⟨[.ref a], []⟩) (fun r s' => r = .ok (.ret (.bool true)) ∧ OldK s₁.heap s'.heap ∧ s'.os = s₁.os ∧ AllBare s'.gens) s₁) :
    WalkO q loose XP YP l.row.toRowW d [] (fun f vs => PySem.call f vs) := by
  intro w s₀ s₁ mg mb G Y fa o pm cd doc dV kV ho hd hcd hD hmg hg args vals as hpre hlay hrd hwl hlo
  obtain rfl : dV = .none := Dflts.none hD hdf
  obtain rfl : kV = .none := Dflts.noKw hD
  obtain ⟨a, vs, ns, rfl, rfl, hobj, hints, hlen⟩ := script_of hn hpre hwl
  refine enter_call (codeAny_mono (call w s₀ s₁ mg mb fa o pm cd doc a vs ns G Y ho (fd_plain hd) hcd hmg hobj hints hlen hg) fun r s' hq => ?_)
  obtain ⟨rfl, h2, h3, h4⟩ := hq
  exact ⟨.inl ⟨.bool true, .bool true, [], rfl, fun _ => rfl, .bool true, post_true l _, fun _ => ⟨List.Pairwise.nil, fun _ hm => (nomatch hm)⟩⟩, h2, h3, h4⟩

/-! ### rules over ANY heap (no ledger) from facts about the written part K: the library's own take a ledger (News) for what they write -/
section
variable {prog : Program} {w : World} {A : Around} {E : Value → Shared → Prop} {s : Shared} {K : Frag}

/-! the whole heap as the ledger: makes every rule that writes through a ledger a rule over any heap -/
def noObjs (h : Heap) : Heap := { h with objs := #[] }
def ledger (h : Heap) (L d : Addr) : List (Addr × Obj) := (List.range h.objs.size).filterMap fun a => if a = L ∨ a = d then none else (h.get? a).map fun o => (a, o)
end
end Att

namespace L2
open PySem PySem.Spec PyProof.Rows

theorem vals_ints : ∀ {vs : List Value} {ns : List Int}, IntsAre vs ns → Vals (ns.map V.int) vs
  | _, _, .nil => .nil
  | _, _, .cons n t h => .cons ⟨t, rfl⟩ (vals_ints h)

/-- nothing is tracked but the script, known to the object (or it is an object of the module) -/
def Only (H : Hp) : Prop := ∀ b, H b = none ∨ ∃ o xs, H b = some (.frz o (.lst xs))

/-- THE HEAD: the law's promise, at the heap behind the top. F, the promise of the law's def, may use that base is part of the heap (so K.In base, base.Ns mainGlobals mg stand in Mod) -/
theorem law_call {P : Program} {w : World} {K : PySem.W.Frag} {mg mb : Str → Option Value} {CX : CXT} {k : Nat} {fa a : Addr} {fd : FuncData} {x : Str} {sp : Sp} {s₁ : Shared} {vs : List Value} {ns : List Int}
    (KX : K.In s₁.heap) (hns : s₁.heap.Ns mainGlobals mg) (hb : s₁.heap.Ns builtinsNs mb) (hbb : ∀ x : Str, x ≠ "__name__" → mb x = bootBuiltins x) (hlim : s₁.heap.NoLimit) (hg : s₁.gens = #[])
    (ha : s₁.heap.get? a = some { cls := .type "list", data := .seq vs.toArray }) (hi : IntsAre vs ns) (hl : ns.length ≤ sizeLine) (hr : Room k callerA)
    (F : ∀ base : Heap, K.In base → base.Ns mainGlobals mg → FnOk P w K mg base CX k fa fd [x] sp) (hbind : ∀ (s : Shared) (u : Value), BindsTo s fd ⟨[u], []⟩ [(x, u)])
    (hsp : ∀ H : Hp, Only H → SqL K H a (ns.map V.int) → sp [.ref a] H (fun v _ => v = .bl true) fun _ _ _ => False)
    (hCX : ∀ H e s', CX [] H s₁ (fun _ _ _ => False) e s' → False) :
    codeAny (model P w) callerA (.call (.ref fa) ⟨[.ref a], []⟩) (fun r s' => r = .ok (.ret (.bool true)) ∧ OldK s₁.heap s'.heap ∧ s'.os = s₁.os ∧ AllBare s'.gens) s₁ := by
  have rv := vals_ints hi
  have lenV := hi.length
  -- from an abstract heap in which nothing but the script may be tracked
  have core : ∀ H : Hp, Only H → SqL K H a (ns.map V.int) → HOk P w H s₁.heap → (∀ b, H b ≠ none → b = a) → (H a ≠ none → K.lookup a = none) →
      codeAny (model P w) callerA (.call (.ref fa) ⟨[.ref a], []⟩) (fun r s' => r = .ok (.ret (.bool true)) ∧ OldK s₁.heap s'.heap ∧ s'.os = s₁.os ∧ AllBare s'.gens) s₁ := by
    intro H hO hS hok hA hK
    have base_of : ∀ {b : Addr} {o : Obj}, s₁.heap.get? b = some o → H b = none → (hidT s₁.heap H).get? b = some o := fun e n => hidT_get e n
    have noA : ∀ {b : Addr} {o : Obj} {es : Array DictEntry} {ep : Nat}, s₁.heap.get? b = some o → o.data = .dict es ep → H b = none := fun {b o es ep} e d => by
      cases q : H b with
      | none => rfl
      | some u =>
        have e' : b = a := hA b (by rw [q]; simp)
        subst e'
        rw [ha] at e; cases e
        have d' : Data.seq vs.toArray _ = Data.dict es ep := d
        cases d'
    have nsK : ∀ {b : Addr} {m : Str → Option Value}, s₁.heap.Ns b m → (hidT s₁.heap H).Ns b m := fun {b m} ⟨o, es, ep, e, d, r⟩ => ⟨o, es, ep, base_of e (noA e d), d, r⟩
    have hKb : K.In (hidT s₁.heap H) := fun b o e => base_of (KX b o e) (by
      cases q : H b with
      | none => rfl
      | some u =>
        have e' : b = a := hA b (by rw [q]; simp)
        subst e'
        rw [hK (by rw [q]; simp)] at e; cases e)
    have hM : Mod K mg (hidT s₁.heap H) := ⟨hKb, nsK hns, ⟨mb, nsK hb, hbb⟩, let ⟨mc, h1, h2⟩ := hlim; ⟨mc, nsK h1, h2⟩⟩
    have e0 : Env0 P w K mg (hidT s₁.heap H) callerA [] s₁ H := ⟨rfl, hM, fun b o e => of_hidT e, Nat.le_of_eq (hidT_size _ _), trivial, fun b hb => absurd (show b ∈ ([] : List Addr) from hb) (by simp), hok, .of_eq hg⟩
    refine codeAny_mono ((F _ hKb (nsK hns)).run callerA [] s₁ H ⟨[.ref a], []⟩ [.ref a] [.ref a] _ _ hr e0 (hbind s₁ (.ref a)) (.cons rfl .nil) (hsp H hO hS)) fun r s' h => ?_
    cases r with
    | error e => exact (hCX H e s' h).elim
    | ok fl =>
      cases fl with
      | next => exact False.elim h
      | brk => exact False.elim h
      | cont => exact False.elim h
      | ret u =>
        obtain ⟨v, H', os, bare, un, hok', r', q⟩ := h
        have q' : v = .bl true := q
        subst q'
        obtain rfl : u = Value.bool true := r'
        refine ⟨rfl, OldK.of_keep fun b o e => ?_, os, bare⟩
        cases q : H b with
        | none => exact un.keep b o e q (by intro z; exact absurd (show b ∈ ([] : List Addr) from z) (by simp)) (by simp)
        | some u =>
          rcases hO b with z | ⟨ob, xs, z⟩
          · rw [q] at z; cases z
          · have z2 := un.frzs b ob _ z
            obtain ⟨e1, _⟩ := hok b _ z
            obtain ⟨e2, _⟩ := hok' b _ z2
            rw [e] at e1; cases e1
            exact e2
  cases hk : K.lookup a with
  | some o =>
    -- the script is one of the module's own objects
    have e := KX a o hk
    rw [ha] at e
    cases e
    refine core (fun _ => none) (fun _ => .inl rfl) (.inr ⟨_, vs.toArray, _, hk, rfl, rfl, rfl, by rw [List.size_toArray, lenV]; exact hl, by simpa using rv⟩) (fun b u z => by have z' : (none : Option HO) = some u := z; cases z') (fun b z => absurd rfl z) fun z => absurd rfl z
  | none =>
    refine core (fun b => if b = a then some (.frz { cls := .type "list", data := .seq vs.toArray } (.lst (ns.map V.int))) else none) (fun b => ?_) (.inl (.inr ⟨{ cls := .type "list", data := .seq vs.toArray }, if_pos rfl⟩)) (fun b u z => ?_) (fun b z => ?_) fun _ => hk
    · by_cases hb : b = a
      · exact .inr ⟨_, _, if_pos hb⟩
      · exact .inl (if_neg hb)
    · by_cases hb : b = a
      · have z' := (if_pos hb).symm.trans z
        cases z'
        subst hb
        exact ⟨ha, by rw [List.length_map]; exact hl, vs, _, rv, ha⟩
      · have z' := (if_neg hb).symm.trans z
        cases z'
    · by_cases hb : b = a
      · exact hb
      · exact absurd (if_neg hb) z
end L2

namespace L2
open PySem PySem.Spec PyProof.Rows

abbrev KOf {K : PySem.W.Frag} {h : Heap} (_ : K.In h) : PySem.W.Frag := K

/-- the goal that k_head leaves (case hc), from the law's promise. F gives the function object fd (K's own) once, then the promise over every base -/
theorem walk_of {l : PySem.W.OpenLaw} {n k : Nat} {q : Program} {loose : List Str} {XP : (Str → Option Value) → Heap → Prop} {YP : World → Heap → Prop} {d : DefRec} {K : Params → PySem.W.Frag} {CX : World → CXT} {sp : World → Sp} {x : Str}
    (hn : l.most = some n) (hn2 : n ≤ sizeLine) (hdf : d.params.defaults = []) (hr : Room k callerA)
    (hY : ∀ (w : World) (h : Heap), YP w h → (K w.params).In h)
    (F : ∀ (w : World) (mg : Str → Option Value) (fa : Addr) (h : Heap), (K w.params).In h → h.Ns mainGlobals mg → mg d.name = some (.ref fa) →
      ∃ fd : FuncData, (∀ (s : Shared) (u : Value), BindsTo s fd ⟨[u], []⟩ [(x, u)]) ∧
        ∀ base : Heap, (K w.params).In base → base.Ns mainGlobals mg → FnOk l.prog w (K w.params) mg base (CX w) k fa fd [x] (sp w))
    (hsp : ∀ (w : World) (H : Hp) (a : Addr) (ns : List Int), ns.length ≤ n → Only H → SqL (K w.params) H a (ns.map V.int) → sp w [.ref a] H (fun v _ => v = .bl true) fun _ _ _ => False)
    (hCX : ∀ (w : World) (H : Hp) (s : Shared) (e : Value) (s' : Shared), CX w [] H s (fun _ _ _ => False) e s' → False) :
    PySem.W.WalkO q loose XP YP l.row.toRowW d [] (fun f vs => PySem.call f vs) := by
  refine Att.attach_call hn hdf fun w s₀ s₁ mg mb fa o pm cd doc a vs ns G Y ho hd hcd hmg hobj hints hlen hg => ?_
  have KX := hY w _ Y
  obtain ⟨fd, hb, hF⟩ := F w mg fa _ KX G.T.g hmg
  exact law_call KX G.T.g G.T.b G.T.builtins G.T.nolimit hg hobj hints (Nat.le_trans hlen hn2) hr hF hb (fun H hO hS => hsp w H a ns hlen hO hS) fun H e s' => hCX w H s₁ e s'
/-- the same where the promise hangs on the written part alone: (sp := My.sp_law), no hole under a binder -/
theorem walk_ofK {l : PySem.W.OpenLaw} {n k : Nat} {q : Program} {loose : List Str} {XP : (Str → Option Value) → Heap → Prop} {YP : World → Heap → Prop} {d : DefRec} {K : Params → PySem.W.Frag} {CX : CXT} {sp : PySem.W.Frag → Sp} {x : Str}
    (hn : l.most = some n) (hn2 : n ≤ sizeLine) (hdf : d.params.defaults = []) (hr : Room k callerA)
    (hY : ∀ (w : World) (h : Heap), YP w h → (K w.params).In h)
    (F : ∀ (w : World) (mg : Str → Option Value) (fa : Addr) (h : Heap), (K w.params).In h → h.Ns mainGlobals mg → mg d.name = some (.ref fa) →
      ∃ fd : FuncData, (∀ (s : Shared) (u : Value), BindsTo s fd ⟨[u], []⟩ [(x, u)]) ∧
        ∀ base : Heap, (K w.params).In base → base.Ns mainGlobals mg → FnOk l.prog w (K w.params) mg base CX k fa fd [x] (sp (K w.params)))
    (hsp : ∀ (K : PySem.W.Frag) (H : Hp) (a : Addr) (ns : List Int), ns.length ≤ n → Only H → SqL K H a (ns.map V.int) → sp K [.ref a] H (fun v _ => v = .bl true) fun _ _ _ => False)
    (hCX : ∀ (H : Hp) (s : Shared) (e : Value) (s' : Shared), CX [] H s (fun _ _ _ => False) e s' → False) :
    PySem.W.WalkO q loose XP YP l.row.toRowW d [] (fun f vs => PySem.call f vs) :=
  walk_of (K := K) (CX := fun _ => CX) (sp := fun w => sp (K w.params)) hn hn2 hdf hr hY F (fun w H a ns h1 h2 h3 => hsp (K w.params) H a ns h1 h2 h3) fun _ H s e s' => hCX H s e s'
end L2

/- THE LAST THEOREM (shape; LID, My.* are yours):
   My.Adr: a structure of the addresses that your layer names (classes, functions); My.Txt K t: a structure (Prop) of the equations over K;
   My.txt_mk : {K} {implicit addresses ..} (e1 : nsIn K mainGlobals "law" = some (some (.ref f))) (e2 : K.lookup f = some ⟨oc, od, .func (fnOf "law" "law" params body scope dV kV doc pm an cdv ct), sl⟩) (e3 : codeIn K cdv "law" = true) .. : ∃ t, My.Txt K t

set_option maxRecDepth 100000 in
set_option maxHeartbeats 0 in
theorem PySem.Challenge.cw_LID_holds : PySem.Challenge.rw_LID.Holds := by
  w_on; o_law; k_head; (case hw => w_witness2)
  k_fill
  refine L2.walk_of (l := PySem.Challenge.rw_LID) (n := 63) (k := 40) (x := "script") (CX := fun w => ..) (sp := fun _ => My.sp_law) rfl (by decide) rfl ⟨rfl, by decide, by decide⟩ (fun w h Y => PySem.W.kIn_of Y) ?F ?S ?C
  case F =>
    intro w mg fa h KX G hmg
    have T : ∃ t, My.Txt (L2.KOf KX) t := by
      dsimp only [L2.KOf]                          -- K must stand as «<heap const> w.params» for k_is
      refine' My.txt_mk ?e1 ?e2 ?e3 ..
      (case e1 => PySem.W.k_is)                    -- in the order: a name -> its address -> its object -> its parts
      (case e2 => PySem.W.k_is)
      ..
    obtain ⟨t, T⟩ := T
    have e0 := hmg.symm.trans (PySem.W.mg_of KX G T.law)
    cases e0                                       -- fa is the law's own address
    exact ⟨_, fun s u => .of_eq rfl, fun base kb nb => My.law_fn T kb nb⟩     -- if «.of_eq rfl» comes too early: refine' ⟨_, ?b, fun base kb nb => My.law_fn T kb nb⟩; exact fun s u => .of_eq rfl
  case S => exact fun w H a ns hl hO hS => ..
  case C => exact ..
(the tactic k_is has no namespace: write k_is) -/

/-! SHORT WORDS over the layer: a def of the text, its body, what a loop and a test want. -/
namespace L2
open PySem PySem.Spec PyProof.Rows

/-! ### the text by places -/
/-- the j-th statement of a class's body -/
def inClass (s : Stmt) (j : Nat) : Stmt := match s with
  | .ClassDef _ _ _ body _ _ _ _ _ _ _ => body.getD j (.Pass ⟨0, 0, 0, 0⟩)
  | _ => .Pass ⟨0, 0, 0, 0⟩
def defArgs (s : Stmt) : Arguments := match s with
  | .FunctionDef _ a _ _ _ _ _ _ _ _ => a
  | _ => { posonlyargs := [], args := [], vararg := none, kwonlyargs := [], kw_defaults := [], kwarg := none, defaults := [] }
def defBody (s : Stmt) : List Stmt := match s with
  | .FunctionDef _ _ b _ _ _ _ _ _ _ => b
  | _ => []
def defScope (s : Stmt) : Scope := match s with
  | .FunctionDef _ _ _ _ _ _ sc _ _ _ => sc
  | _ => { kind := .function, names := [], isGenerator := false, isCoroutine := false }

/-! ### no exception leaves a def -/
abbrev CX0 : CXT := fun _ _ _ _ _ _ => False
abbrev E0 : XK := fun _ _ _ => False
theorem pass0 {X : Cx} : Passes CX0 X E0 := fun _ _ _ _ _ _ _ h => h.elim

/-! ### a def (or method) of the text as it stands behind the top -/
structure Fun (K : PySem.W.Frag) (x qual : Str) (st : Stmt) (f : Addr) (fd : FuncData) : Prop where
  ex : ∃ (oc : Value) (od : Option Addr) (kV doc pm : Value) (an : Option Addr) (cdv ct : Value) (osl : Array (Option Value)),
    fd = PySem.W.fnOf x qual (defArgs st) (defBody st) (defScope st) .none kV doc pm an cdv ct ∧ K.lookup f = some ⟨oc, od, .func fd, osl⟩ ∧ PySem.W.codeIn K cdv qual = true
  kp : PySem.W.keepIn K (.ref f) = true
section
variable {P : Program} {w : World} {K : PySem.W.Frag} {mg : Str → Option Value} {base : Heap}
/-- THE RULE for a def: its body as a term of rules, and the reading of that term -/
theorem Fun.ok {x qual : Str} {st : Stmt} {f : Addr} {fd : FuncData} {N ps : List Str} {k : Nat} {sp : Sp} (F : Fun K x qual st f fd) (S : FnScope N ps (defScope st)) (len : ∀ vs H Q E, sp vs H Q E → vs.length = ps.length)
    (hbody : ∀ (cdv : Value) (A : Around) (outer : List Env) (s : Shared) (H : Hp) (vs : List V) (Q : VK) (E : XK), Room k (A.deeper (envOfC qual (defScope st) s.heap.objs.size f cdv)) → sp vs H Q E →
      ∃ t, PSs (cxOf CX0 P w K mg base N qual (defScope st) f cdv A outer s H E).nox (defBody st) t ∧ t { nx := fun _ H' => Q .non H', rt := Q } (start N vs) H) : FnOk P w K mg base CX0 (k + 1) f fd ps sp := by
  obtain ⟨oc, od, kV, doc, pm, an, cdv, ct, osl, rfl, lk, hcd⟩ := F.ex
  refine fn_of lk hcd S len fun A outer s H vs Q E hr hsp => ?_
  obtain ⟨t, h, q⟩ := hbody cdv A outer s H vs Q E hr hsp
  exact ⟨t, h.nox, q⟩
/-- how its arguments bind (no defaults): h is «fun _ _ _ _ _ _ us hl => match us, hl with | [_, _], _ => rfl», one _ a parameter -/
theorem Fun.binds {x qual : Str} {st : Stmt} {f : Addr} {fd : FuncData} {ps : List Str} (F : Fun K x qual st f fd)
    (h : ∀ (kV doc pm : Value) (an : Option Addr) (cdv ct : Value) (us : List Value), us.length = ps.length → bindArgs (PySem.W.fnOf x qual (defArgs st) (defBody st) (defScope st) .none kV doc pm an cdv ct) ⟨us, []⟩ = pure (ps.zip us)) : Binds K fd ps [] := by
  obtain ⟨oc, od, kV, doc, pm, an, cdv, ct, osl, rfl, lk, hcd⟩ := F.ex
  exact .all (h kV doc pm an cdv ct)
theorem fun_mk {x qual : Str} {st : Stmt} {f : Addr} {oc : Value} {od an : Option Addr} {osl : Array (Option Value)} {kV doc pm cdv ct : Value} (l : K.lookup f = some ⟨oc, od, .func (PySem.W.fnOf x qual (defArgs st) (defBody st) (defScope st) .none kV doc pm an cdv ct), osl⟩)
    (c : PySem.W.codeIn K cdv qual = true) (k : PySem.W.keepIn K (.ref f) = true) : Fun K x qual st f (PySem.W.fnOf x qual (defArgs st) (defBody st) (defScope st) .none kV doc pm an cdv ct) := ⟨⟨oc, od, kV, doc, pm, an, cdv, ct, osl, rfl, l, c⟩, k⟩
end
/-! ### expressions in short: the name that stands in the i-th slot -/
section
variable {X : Cx}
theorem pv (i : Nat) {x : Str} {pos : Pos} (hN : X.N[i]? = some x := by rfl) (hv : Vis X.env.scope x := by first | exact Or.inl rfl | exact Or.inr (Or.inl rfl) | exact Or.inr (Or.inr rfl)) (hd : (x == ("__debug__" : Str)) = false := by decide)
    (hcd : (x == ("__classdict__" : Str)) = false := by decide) : PE X (.Name x pos) (tVar i) := pe_var hN hv hd hcd
end

/-! ### tests -/
theorem iteF {A B : Prop} (h : B) : if false = true then A else B := by
  rw [if_neg Bool.false_ne_true]
  exact h
theorem iteT {A B : Prop} (h : A) : if true = true then A else B := by
  rw [if_pos rfl]
  exact h
theorem iteNS {c A B : Prop} [Decidable c] (hc : c) (h : B) : if (!decide c) = true then A else B := by
  rw [decide_eq_true hc]
  exact iteF h

/-! ### heaps -/
/-- all that was tracked is as it was -/
def Same (H H' : Hp) : Prop := ∀ b o, H b = some o → H' b = some o
theorem Same.refl (H : Hp) : Same H H := fun _ _ h => h
theorem Same.trans {H H1 H2 : Hp} (a : Same H H1) (b : Same H1 H2) : Same H H2 := fun c o h => b c o (a c o h)
theorem Same.free {H H' : Hp} (e : Same H H') {l : Addr} (h : H' l = Option.none) : H l = Option.none := by
  cases q : H l with
  | none => rfl
  | some o =>
    rw [e l o q] at h
    cases h
theorem Same.seq {K : PySem.W.Frag} {H H' : Hp} {a : Addr} {xs : List V} (e : Same H H') (h : SqL K H a xs) : SqL K H' a xs := by
  rcases h with (h | ⟨o, h⟩) | h
  · exact .inl (.inl (e _ _ h))
  · exact .inl (.inr ⟨o, e _ _ h⟩)
  · exact .inr h

end L2

set_option Elab.async false
set_option linter.all false
set_option maxRecDepth 100000
namespace L2
open PySem PySem.Spec PyProof.Rows

/-! ### list comprehensions: one clause, a name as its target, at most one test; no exception leaves it -/
theorem closure_is {scope : Scope} {env : Env} (h : ∀ y ∈ scope.names, y.2 = .free → ∃ c, env.cells.lookup y.1 = some c) :
    ∃ cl, closureFor scope env = pure cl ∧ (∀ x c, cl.lookup x = some c → env.cells.lookup x = some c ∧ (x, NameKind.free) ∈ scope.names) ∧
      ∀ x, (x, NameKind.free) ∈ scope.names → cl.lookup x = env.cells.lookup x := by
  have key : ∀ (l : List (Str × NameKind)) (cs : List (Str × Addr)), (∀ y ∈ l, y.2 = .free → ∃ c, env.cells.lookup y.1 = some c) →
      ∃ cl, (forIn l cs (fun (x : Str × NameKind) (cs : List (Str × Addr)) => do
          if x.2 == .free then
            let c ← cellOf env x.1
            pure (ForInStep.yield ((x.1, c) :: cs))
          else pure (ForInStep.yield cs)) : Sem (List (Str × Addr))) = pure cl ∧
        (∀ x c, cl.lookup x = some c → (env.cells.lookup x = some c ∧ (x, NameKind.free) ∈ l) ∨ cs.lookup x = some c) ∧
        ∀ x, ((x, NameKind.free) ∈ l → cl.lookup x = env.cells.lookup x) ∧ ((cs.lookup x = env.cells.lookup x) → cl.lookup x = env.cells.lookup x) := by
    intro l
    induction l with
    | nil => intro cs _; exact ⟨cs, rfl, fun x c e => .inr e, fun x => ⟨fun z => absurd z (by simp), fun z => z⟩⟩
    | cons y r ih =>
      intro cs hl
      obtain ⟨n, k⟩ := y
      by_cases hk : k = .free
      · subst hk
        obtain ⟨c, hc⟩ := hl (n, .free) List.mem_cons_self rfl
        obtain ⟨cl, e1, e2, e3⟩ := ih ((n, c) :: cs) fun y hy => hl y (List.mem_cons_of_mem _ hy)
        refine ⟨cl, ?_, fun x d e => ?_, fun x => ⟨fun z => ?_, fun z => ?_⟩⟩
        · rw [List.forIn_cons]
          simp only [beq_self_eq_true, if_true, cellOf, hc]
          exact e1
        · rcases e2 x d e with ⟨z1, z2⟩ | z
          · exact .inl ⟨z1, List.mem_cons_of_mem _ z2⟩
          · rw [List.lookup_cons] at z
            by_cases hx : x == n
            · rw [hx] at z
              have hx' : x = n := by simpa using hx
              subst hx'
              refine .inl ⟨?_, List.mem_cons_self⟩
              rw [hc]; exact z
            · have hx' : (x == n) = false := by simpa using hx
              rw [hx'] at z
              exact .inr z
        · rcases List.mem_cons.mp z with z | z
          · injection z with z1 _
            subst z1
            refine (e3 x).2 ?_
            rw [List.lookup_cons, hc]
            simp
          · exact (e3 x).1 z
        · by_cases hx : x = n
          · subst hx
            refine (e3 x).2 ?_
            rw [List.lookup_cons, hc]
            simp
          · refine (e3 x).2 ?_
            rw [List.lookup_cons]
            have hx' : (x == n) = false := by simpa using hx
            rw [hx']
            exact z
      · obtain ⟨cl, e1, e2, e3⟩ := ih cs fun y hy => hl y (List.mem_cons_of_mem _ hy)
        have hb : (k == NameKind.free) = false := by simpa using hk
        refine ⟨cl, ?_, fun x d e => ?_, fun x => ⟨fun z => ?_, (e3 x).2⟩⟩
        · rw [List.forIn_cons]
          simp only [hb, Bool.false_eq_true, if_false]
          exact e1
        · rcases e2 x d e with ⟨z1, z2⟩ | z
          · exact .inl ⟨z1, List.mem_cons_of_mem _ z2⟩
          · exact .inr z
        · rcases List.mem_cons.mp z with z | z
          · injection z with _ z2
            exact absurd z2.symm hk
          · exact (e3 x).1 z
  obtain ⟨cl, e1, e2, e3⟩ := key scope.names [] h
  refine ⟨cl, ?_, fun x c e => ?_, fun x z => (e3 x).1 z⟩
  · unfold closureFor
    have := e1
    simpa using this
  · rcases e2 x c e with z | z
    · exact z
    · simp at z

theorem lookup_relabel {env : Env} (hk : env.scope.kind = .function) : ∀ {names : List (Str × NameKind)} {x : Str} {k : NameKind}, names.lookup x = some k → k ≠ .free →
    (names.map fun (n, k) => if (k == NameKind.free && env.scope.kind == .function && env.kindOf n == some .cell) then (n, NameKind.cell) else (n, k)).lookup x = some k
  | [], _, _, h, _ => by simp at h
  | (n, k') :: r, x, k, h, hf => by
    have ih := @lookup_relabel env hk r x k
    show List.lookup x ((if (k' == NameKind.free && env.scope.kind == .function && env.kindOf n == some .cell) = true then (n, NameKind.cell) else (n, k')) :: _) = _
    cases hx : x == n with
    | true =>
      simp only [List.lookup_cons, hx] at h
      cases h
      have : (k' == NameKind.free) = false := by simpa using hf
      simp [List.lookup_cons, hx, this]
    | false =>
      simp only [List.lookup_cons, hx] at h
      by_cases hc : (k' == NameKind.free && env.scope.kind == .function && env.kindOf n == some .cell) = true
      · rw [if_pos hc]; simp only [List.lookup_cons, hx]; exact ih h hf
      · rw [if_neg hc]; simp only [List.lookup_cons, hx]; exact ih h hf
theorem lookup_relabel_free {env : Env} (hk : env.scope.kind = .function) : ∀ {names : List (Str × NameKind)} {x : Str}, names.lookup x = some .free → env.kindOf x = some .cell →
    (names.map fun (n, k) => if (k == NameKind.free && env.scope.kind == .function && env.kindOf n == some .cell) then (n, NameKind.cell) else (n, k)).lookup x = some .cell
  | [], _, h, _ => by simp at h
  | (n, k') :: r, x, h, hc => by
    have ih := @lookup_relabel_free env hk r x
    show List.lookup x ((if (k' == NameKind.free && env.scope.kind == .function && env.kindOf n == some .cell) = true then (n, NameKind.cell) else (n, k')) :: _) = _
    cases hx : x == n with
    | true =>
      simp only [List.lookup_cons, hx] at h
      cases h
      have hxn : x = n := by simpa using hx
      subst hxn
      simp [List.lookup_cons, hk, hc]
    | false =>
      simp only [List.lookup_cons, hx] at h
      by_cases hd : (k' == NameKind.free && env.scope.kind == .function && env.kindOf n == some .cell) = true
      · rw [if_pos hd]; simp only [List.lookup_cons, hx]; exact ih h hc
      · rw [if_neg hd]; simp only [List.lookup_cons, hx]; exact ih h hc

/-- the context of a comprehension's block; Nc: its own name, then the names it takes from around it -/
def cxComp (X : Cx) (Nc : List Str) (scope : Scope) (cl : List (Str × Addr)) (C : Addr) (fp : List Addr) (s : Shared) (H : Hp) : Cx where
  prog := X.prog
  w := X.w
  K := X.K
  mg := X.mg
  base := X.base
  A := X.A
  N := Nc
  s₀ := s
  H₀ := H
  env := compEnvC scope cl C X.env
  outer := X.stack
  stack := X.stack
  ex := fp
  fn := fun _ => false
  calm := X.calm
  pn := []
  xe := fun _ _ => False

/-- the slots of the names that are taken from around: their values -/
def capV (σ : St) (caps : List Nat) : St := caps.map fun j => (σ[j]?).join

structure CompOk (X : Cx) (x : Str) (Nc : List Str) (caps : List Nat) (scope : Scope) : Prop where
  kind : scope.kind = .function
  cell : ∀ y ∈ scope.names, y.2 ≠ .cell
  names : ∀ y ∈ scope.names, y.2 = .local → scope.names.lookup y.1 = some .local
  fr : ∀ y ∈ scope.names, y.2 = .free → X.env.scope.names.lookup y.1 = some .cell ∧ scope.names.lookup y.1 = some .free
  loc : scope.names.lookup x = some .local
  len : Nc.length = caps.length + 1
  hd : Nc[0]? = some x
  nd : Nc.Nodup
  cap : ∀ k j, caps[k]? = some j → ∃ y, Nc[k + 1]? = some y ∧ X.N[j]? = some y ∧ scope.names.lookup y = some .free

theorem compLoop_any {prog : Program} {w : World} {A : Around} {R : Result → Shared → Prop} {s : Shared} {elt target iter : Expr} {ifs : List Expr} {scope : Scope} {pos : Pos} {it acc : Value} {env : Env} (I : Nat → Shared → Prop)
    (turn : ∀ n s, I n s → wpAny (model prog w) A (pyNext it) (fun r s₁ => match r with
      | none => R (.ok .next) s₁
      | some v => wpAny (model prog w) A (letOwnedTupleGo target it v) (fun _ s1' => wpAny (model prog w) A (assign target env v) (fun _ s₂ =>
          wpAny (model prog w) A (forIn ifs true fun c r => if r = true then do let ok ← isTrue c env (eval c env); pure (ForInStep.yield ok) else pure (ForInStep.yield r)) (fun ok s₃ =>
            if ok = true then wpAny (model prog w) A (eval elt env) (fun x s₄ =>
              wpAny (model prog w) A (call (.builtin "list.append") [acc, x]) (fun _ s₅ => ∃ m, m < n ∧ I m s₅) (notedBy (model prog w) A env fun e s' => R (.error e) s') s₄) (notedBy (model prog w) A env fun e s' => R (.error e) s') s₃
            else ∃ m, m < n ∧ I m s₃) (notedBy (model prog w) A env fun e s' => R (.error e) s') s₂) (notedBy (model prog w) A env fun e s' => R (.error e) s') s1') (notedBy (model prog w) A env fun e s' => R (.error e) s') s₁) (notedBy (model prog w) A env fun e s' => R (.error e) s') s)
    (n : Nat) (h : I n s) :
    codeAny (model prog w) A (.compLoop (.ListComp elt [⟨target, iter, ifs, 0⟩] scope pos) 0 it acc env) R s := by
  refine codeAny_loop rfl I (fun n s hI => ?_) n h
  show wpAny _ A ((compTurn (.ListComp elt [⟨target, iter, ifs, 0⟩] scope pos) 0 it acc env).onRaise (fun x => do noteFrame x env; theTreesLotGoes x)) _ _ s
  refine wpAny_noted ?_
  rw [compTurn_list]
  refine wpAny_bind (wpAny_standAt (wpAny_bind (wpAny_mono (turn n s hI) (fun r s₁ h₁ => ?_) fun _ _ h' => h')))
  cases r with
  | none => exact wpAny_pure h₁
  | some v =>
    refine wpAny_bind (wpAny_mono h₁ (fun _ s1' h₁ => ?_) fun _ _ h' => h')
    refine wpAny_bind (wpAny_mono h₁ (fun _ s₂ h₂ => wpAny_bind (wpAny_mono h₂ (fun ok s₃ h₃ => ?_) fun _ _ h' => h')) fun _ _ h' => h')
    cases ok with
    | false => exact wpAny_pure ⟨rfl, h₃⟩
    | true =>
      exact wpAny_bind (wpAny_bind (wpAny_mono h₃ (fun x s₄ h₄ => wpAny_bind (wpAny_mono h₄ (fun _ s₅ h₅ => wpAny_pure (wpAny_pure ⟨rfl, h₅⟩)) fun _ _ h' => h')) fun _ _ h' => h'))

/-- the test, where there is one -/
def tNoTest : TT := fun _ H Q => Q true H
inductive PIf (X : Cx) : List Expr → TT → Prop where
  | nil : PIf X [] tNoTest
  | one {c : Expr} {t : TT} (h : PT X c t) : PIf X [c] t
theorem PIf.run {X : Cx} {ifs : List Expr} {t : TT} (h : PIf X ifs t) {pins : List (Addr × Obj)} {s : Shared} {σ : St} {H : Hp} {Q : Bool → Hp → Prop} (I : Inv X pins σ H s) (ht : t σ H Q) :
    wpAny (model X.prog X.w) X.A (forIn ifs true fun c r => if r = true then do let ok ← isTrue c X.env (eval c X.env); pure (ForInStep.yield ok) else pure (ForInStep.yield r)) (TP X pins σ Q) X.xe s := by
  cases h with
  | nil => exact wpAny_tests_nil ⟨H, I, ht⟩
  | one h => exact wpAny_tests_one (h pins s σ H Q I ht)

/-- the reading: W by the turn, a measure, what is made so far -/
def tCompW (caps : List Nat) (tc : TT) (te : TE) (J : It) (σ : St) (H : Hp) (Q : VK) : Prop :=
  ∃ W : Nat → Nat → List V → Hp → Prop, (∃ m, W 0 m [] H) ∧ ∀ i m ys H, W i m ys H →
    (J.stop i H ∧ ys.length ≤ sizeLine ∧ ∀ p, H p = none → Q (.ref p) (upd H p (.lst ys))) ∨
    (J.go i H ∧ ys.length < sizeLine ∧ ∀ x H', J.yld i H x H' → tc (some x :: capV σ caps) H' fun b H2 =>
      if b = true then te (some x :: capV σ caps) H2 fun y H3 => ∃ m', m' < m ∧ W (i + 1) m' (ys ++ [y]) H3 else ∃ m', m' < m ∧ W (i + 1) m' ys H2)
def tComp (wi : TI) (caps : List Nat) (tc : TT) (te : TE) : TE := fun σ H Q => wi σ H fun J H1 => tCompW caps tc te J σ H1 Q

section
variable {X : Cx} {pins : List (Addr × Obj)} {σ : St} {H : Hp} {s : Shared}

theorem Un.track {fs ex : List Addr} {H H' : Hp} {h h' : Heap} {a : Addr} {o : HO} (u : Un fs ex H H' h h') (ha : h.objs.size ≤ a) (hn : H' a = none) : Un fs ex H (upd H' a o) h h' where
  keep := u.keep
  slot := u.slot
  free := fun b ob q n hx => by rw [upd_ne (Nat.ne_of_lt (Nat.lt_of_lt_of_le (Heap.lt_size q) ha))]; exact u.free b ob q n hx
  there := u.there
  tups := fun b xs q => by rw [upd_ne (ne_of_none (u.tups b xs q) hn)]; exact u.tups b xs q
  frzs := fun b ob xs q => by rw [upd_ne (ne_of_none (u.frzs b ob xs q) hn)]; exact u.frzs b ob xs q
  tbls := fun b ps q => by
    obtain ⟨m, e⟩ := u.tbls b ps q
    exact ⟨m, by rw [upd_ne (ne_of_none e hn)]; exact e⟩
theorem HOk.track {P : Program} {w : World} {H : Hp} {h : Heap} {a : Addr} {o : HO} (x : HOk P w H h) (hn : H a = none) (new : ObjOk P w (upd H a o) h a o) : HOk P w (upd H a o) h := fun b u e => by
  by_cases hb : b = a
  · subst hb; rw [upd_same] at e; cases e; exact new
  · rw [upd_ne hb] at e
    exact (x b u e).stay (fun c v _ q => q) (fun c q => by rw [upd_ne (ne_of_none q hn)]; exact q) fun c xs q => by rw [upd_ne (ne_of_none q hn)]; exact q

/-- the block's context is good -/
theorem comp_ok {x : Str} {Nc : List Str} {caps : List Nat} {scope : Scope} {cl : List (Str × Addr)} {C : Addr} {fp : List Addr} (I : Inv X pins σ H s) (O : CompOk X x Nc caps scope)
    (hcl : ∀ x c, cl.lookup x = some c → X.env.cells.lookup x = some c ∧ (x, NameKind.free) ∈ scope.names) (hcl2 : ∀ x, (x, NameKind.free) ∈ scope.names → cl.lookup x = X.env.cells.lookup x)
    (hC : s.heap.objs.size ≤ C) (hfp : ∀ b ∈ fp, FpOk X pins H b) (hfo : ∀ b ∈ fp, b < s.heap.objs.size) : (cxComp X Nc scope cl C fp s H).Ok where
  mod := I.ok.mod
  kind := O.kind
  glob := I.ok.glob
  blt := I.ok.blt
  above := hC
  inj := fun a b c e1 e2 => I.ok.inj a b c (hcl a c e1).1 (hcl b c e2).1
  has := fun y hy => by
    have mem : (y, NameKind.free) ∈ scope.names := by
      have hy' : ((relabel scope X.env).names.lookup y = some .cell) ∨ ((relabel scope X.env).names.lookup y = some .free) := hy
      have hm : ∃ k, (y, k) ∈ (relabel scope X.env).names ∧ (k = .cell ∨ k = .free) := by
        rcases hy' with h | h
        · exact ⟨_, PySem.mem_of_lookup h, .inl rfl⟩
        · exact ⟨_, PySem.mem_of_lookup h, .inr rfl⟩
      obtain ⟨k, hm, hk⟩ := hm
      obtain ⟨⟨n, k'⟩, hm', e⟩ := List.mem_map.mp hm
      dsimp only at e
      by_cases hc : (k' == NameKind.free && X.env.scope.kind == .function && X.env.kindOf n == some .cell) = true
      · rw [if_pos hc] at e
        injection e with e1 _
        subst e1
        have : k' = .free := by
          have := (Bool.and_eq_true _ _ ▸ (Bool.and_eq_true _ _ ▸ hc).1).1
          simpa using this
        subst this
        exact hm'
      · rw [if_neg hc] at e
        injection e with e1 e2
        subst e1 e2
        rcases hk with hk | hk
        · subst hk; exact absurd rfl (O.cell _ hm')
        · subst hk; exact hm'
    obtain ⟨c, e⟩ := I.ok.has y (.inl (O.fr _ mem rfl).1)
    exact ⟨c, (hcl2 y mem).trans e⟩
  cab := fun _ _ z => nomatch z
  hd := I.ok.hd
  frames := I.ok.frames
  stk := .inl rfl
  exf := fun b hb => ⟨Nat.ne_of_lt (Nat.lt_of_lt_of_le (hfo b hb) hC), fun y c e => (hfp b hb).2.2.2.2.1 y c (hcl y c e).1⟩
  bs := I.bs
  bsz := Nat.le_trans I.ok.bsz I.sz
  noex := fun b o e hb => by
    rcases (hfp b hb).2.2.2.1 with z | z
    · exact I.ok.noex b o e z
    · exact absurd (Nat.lt_of_lt_of_le (Heap.lt_size e) (Nat.le_trans I.ok.bsz z)) (Nat.lt_irrefl _)
  exfs := fun b hb z => by
    rcases List.mem_cons.mp (I.stkSub b z) with e | e
    · exact (hfp b hb).2.1 e
    · exact (hfp b hb).2.2.1 e
  funs := I.stack
  frf := I.stkFree
end
end L2

set_option Elab.async false
set_option linter.all false
set_option maxRecDepth 100000
namespace L2
open PySem PySem.Spec PyProof.Rows
section
variable {X : Cx} {pins : List (Addr × Obj)} {σ : St} {H : Hp} {s : Shared}

theorem capV_len (σ : St) (caps : List Nat) : (capV σ caps).length = caps.length := by unfold capV; rw [List.length_map]
theorem capV_get {σ : St} {caps : List Nat} {k : Nat} {v : V} (e : (capV σ caps)[k]? = some (some v)) : ∃ j, caps[k]? = some j ∧ σ[j]? = some (some v) := by
  unfold capV at e
  rw [List.getElem?_map] at e
  cases hk : caps[k]? with
  | none => rw [hk] at e; cases e
  | some j =>
    rw [hk] at e
    have e' : (σ[j]?).join = some v := Option.some.inj e
    refine ⟨j, rfl, ?_⟩
    cases hj : σ[j]? with
    | none => rw [hj] at e'; cases e'
    | some o => rw [hj] at e'; rw [show o = some v from e']

theorem Un.but {fs ex : List Addr} {H H' : Hp} {h h1 h2 : Heap} {C : Addr} (u : Un fs ex H H' h h1) (hs : Heap.SameBut C h1 h2) (hC : h.objs.size ≤ C) : Un fs ex H H' h h2 where
  keep := fun b o q n hb hx => (hs.2 b (Nat.ne_of_lt (Nat.lt_of_lt_of_le (Heap.lt_size q) hC))).trans (u.keep b o q n hb hx)
  slot := fun b o q n hb hx => by
    obtain ⟨sl, e⟩ := u.slot b o q n hb hx
    exact ⟨sl, (hs.2 b (Nat.ne_of_lt (Nat.lt_of_lt_of_le (Heap.lt_size q) hC))).trans e⟩
  free := u.free
  there := fun b o q hx => by
    obtain ⟨o', e⟩ := u.there b o q hx
    exact ⟨o', (hs.2 b (Nat.ne_of_lt (Nat.lt_of_lt_of_le (Heap.lt_size q) hC))).trans e⟩
  tups := u.tups
  frzs := u.frzs
  tbls := u.tbls
/-- the block's state at its start -/
theorem comp_start {x : Str} {Nc : List Str} {caps : List Nat} {scope : Scope} {cl : List (Str × Addr)} {C : Addr} {fp : List Addr} {h' : Heap} {tk : Nat} {m0 : Str → Option Value} (I : Inv X pins σ H s) (O : CompOk X x Nc caps scope)
    (hcl : ∀ x c, cl.lookup x = some c → X.env.cells.lookup x = some c ∧ (x, NameKind.free) ∈ scope.names) (hcl2 : ∀ x, (x, NameKind.free) ∈ scope.names → cl.lookup x = X.env.cells.lookup x)
    (hC : s.heap.objs.size ≤ C) (hfp : ∀ b ∈ fp, FpOk X pins H b) (hfo : ∀ b ∈ fp, b < s.heap.objs.size)
    (old : ∀ b o, s.heap.get? b = some o → h'.get? b = some o) (hns : h'.Ns C m0) :
    Inv (cxComp X Nc scope cl C fp s H) [] (none :: capV σ caps) H { s with heap := h', toks := tk } where
  ok := comp_ok I O hcl hcl2 hC hfp hfo
  os := rfl
  bare := I.bare
  base := Un.kept old
  loc := by
    refine ⟨m0, hns, fun i y v hN hσ hv => ?_⟩
    cases i with
    | zero => simp at hσ
    | succ k =>
      rw [List.getElem?_cons_succ] at hσ
      obtain ⟨j, hj, hs⟩ := capV_get hσ
      obtain ⟨z, hz1, hz2, hz3⟩ := O.cap k j hj
      have hN' : Nc[k + 1]? = some y := hN
      rw [hz1] at hN'
      cases hN'
      have mem : (y, NameKind.free) ∈ scope.names := PySem.mem_of_lookup hz3
      have hk := (O.fr _ mem rfl).1
      obtain ⟨m, hn, hl⟩ := I.loc
      obtain ⟨u, r, l⟩ := hl j y v hz2 hs (.inr (.inl hk))
      refine ⟨u, r, ?_⟩
      rcases l with ⟨k', _⟩ | ⟨_, c, hc, z⟩
      · have k'' : X.env.scope.names.lookup y = some .local := k'
        rw [hk] at k''; cases k''
      · obtain ⟨o, ho, hd⟩ := z
        exact .inr ⟨.inl (lookup_relabel_free I.ok.kind hz3 hk), c, (hcl2 y mem).trans hc, o, old _ _ ho, hd⟩
  cell := fun y c e => by
    obtain ⟨v, o, ho, hd⟩ := I.cell y c (hcl y c e).1
    exact ⟨v, o, old _ _ ho, hd⟩
  free := I.hok.fresh hC
  freeC := fun y c e => I.freeC y c (hcl y c e).1
  pin := fun p hp => absurd (show p ∈ ([] : List (Addr × Obj)) from hp) (by simp)
  hok := I.hok.kept old
  len := by
    show (none :: capV σ caps).length = Nc.length
    rw [List.length_cons, capV_len, O.len]

/-- a list that only the block knows, as it stands -/
abbrev rawL (us : List Value) (n : Nat) : Obj := { cls := .type "list", data := .seq us.toArray n }

theorem comp_fr {X : Cx} {sc0 scope : Scope} (h : X.env.scope = sc0) (hd : ∀ y ∈ scope.names, y.2 = .free → sc0.names.lookup y.1 = some .cell ∧ scope.names.lookup y.1 = some .free) :
    ∀ y ∈ scope.names, y.2 = .free → X.env.scope.names.lookup y.1 = some .cell ∧ scope.names.lookup y.1 = some .free := by
  rw [h]
  exact hd

/-- THE BLOCK: the list is made, the variables live, the turns go; RR is what is wanted at the block's end -/
theorem comp_block {x : Str} {px : Pos} {Nc : List Str} {caps : List Nat} {scope : Scope} {cl : List (Str × Addr)} {iter elt : Expr} {ifs : List Expr} {pos : Pos} {tc : TT} {te : TE} {Q : VK} {it : Addr} {fp : List Addr} {tn : Nat → Heap → Prop} {J : It}
    {RR : Value → Addr → Result → Shared → Prop} {E : Value → Shared → Prop}
    (O : CompOk X x Nc caps scope) (hc : X.calm = true)
    (hcl : ∀ x c, cl.lookup x = some c → X.env.cells.lookup x = some c ∧ (x, NameKind.free) ∈ scope.names) (hcl2 : ∀ x, (x, NameKind.free) ∈ scope.names → cl.lookup x = X.env.cells.lookup x)
    (hte : ∀ C fp s H, PE (cxComp X Nc scope cl C fp s H) elt te) (htc : ∀ C fp s H, PIf (cxComp X Nc scope cl C fp s H) ifs tc)
    (I : Inv X pins σ H s) (T : Turn X.prog X.w X.K (.Name x px) J fp it tn) (st : tn 0 s.heap) (hfp : ∀ b ∈ fp, FpOk X pins H b) (h : tCompW caps tc te J σ H Q)
    (hRR : ∀ (D C : Addr) (s' : Shared) (m : Str → Option Value), s'.heap.Ns C m → (∀ h', Heap.SameBut C s'.heap h' → ∃ H', Inv X pins σ H' { s' with heap := h' } ∧ H' C = none ∧ Q (.ref D) H') →
      s.heap.objs.size ≤ C → RR (.ref D) C (.ok .next) s') :
    wpAny (model X.prog X.w) X.A (newList []) (fun acc s₃ => wpAny (model X.prog X.w) X.A (newFunctionEnv scope X.env.globals cl [] X.env.qual none .none (some X.env)) (fun cenv s₄ =>
      codeAny (model X.prog X.w) X.A (.compStart (.ListComp elt [⟨.Name x px, iter, ifs, 0⟩] scope pos) 0 (.ref it) acc { cenv with scope := relabel scope X.env }) (RR acc cenv.locals) s₄) E s₃) E s := by
  refine wpAny_newObj_type (wpAny_newFunctionEnv O.cell (by intro y hy; simp at hy) (fun h₁ hns₁ hsb₁ => ?_) O.kind)
  dsimp only at hns₁ hsb₁ ⊢
  generalize hH2 : s.heap.push { cls := .type "list", dict := none, data := .seq ([] : List Value).toArray } = H2 at hns₁ hsb₁ ⊢
  have hC : H2.objs.size = s.heap.objs.size + 1 := by rw [← hH2, Heap.size_push]
  have hCle : s.heap.objs.size ≤ H2.objs.size := by rw [hC]; exact Nat.le_succ _
  have hDC : s.heap.objs.size ≠ H2.objs.size := by rw [hC]; exact Nat.ne_of_lt (Nat.lt_succ_self _)
  have below : ∀ b, b < s.heap.objs.size → b ≠ H2.objs.size ∧ b ≠ s.heap.objs.size := fun b hb => ⟨by rw [hC]; exact Nat.ne_of_lt (Nat.lt_succ_of_lt hb), Nat.ne_of_lt hb⟩
  have old : ∀ b o, s.heap.get? b = some o → h₁.get? b = some o := fun b o e => hsb₁.extBut b o (below b (Heap.lt_size e)).1 (Heap.get?_push_of_some _ (hH2 ▸ Heap.get?_push_of_some _ e))
  have hacc : h₁.get? s.heap.objs.size = some (rawL [] 0) := hsb₁.extBut _ _ hDC (Heap.get?_push_of_some _ (hH2 ▸ Heap.get?_push_size _ rfl))
  have hfo : ∀ b ∈ fp, b < s.heap.objs.size := fun b hb => by
    obtain ⟨o, e, _⟩ := T.obj _ _ st b hb
    exact Heap.lt_size e
  have st1 : tn 0 h₁ := T.keep _ _ _ st fun b _ o e => old b o e
  generalize hDD : s.heap.objs.size = D at *
  generalize hCC : H2.objs.size = C at *
  have DleC : D ≤ C := hCle
  let Y : Cx := cxComp X Nc scope cl C fp s H
  have I0 : Inv Y [] (none :: capV σ caps) H { s with heap := h₁, toks := s.toks + ([] : List (Str × Value)).length } := comp_start I O hcl hcl2 (by rw [hDD]; exact hCle) hfp (fun b hb => by rw [hDD]; exact hfo b hb) old hns₁
  have Dfree : H D = none := by rw [← hDD]; exact I.hok.fresh (Nat.le_refl _)
  have DneC : D ≠ C := hDC
  -- what stays true of D, of the iterator's objects
  have Dfs : D ∉ Y.fs := fun z => by
    have := I.stack.mem (show D ∈ frs X.stack from z)
    obtain ⟨_, o, e, _⟩ := this
    have := Heap.lt_size e
    rw [hDD] at this
    exact Nat.lt_irrefl _ this
  have Dcell : ∀ y c, Y.env.cells.lookup y = some c → c ≠ D := fun y c e z => by
    obtain ⟨v, q⟩ := I.cell y c (hcl y c e).1
    have := q.lt
    rw [z, hDD] at this
    exact Nat.lt_irrefl _ this
  have Dfp : ∀ b ∈ fp, b ≠ D := fun b hb => Nat.ne_of_lt (hfo b hb)
  have fpY : ∀ {H' : Hp}, (∀ b ∈ fp, H' b = none) → ∀ b ∈ fp, FpOk Y [] H' b := fun hn b hb =>
    ⟨hn b hb, Nat.ne_of_lt (Nat.lt_of_lt_of_le (hfo b hb) DleC), fun z => I0.ok.exfs b hb z, .inl hb, fun y c e => (I0.ok.exf b hb).2 y c e, fun p hp => absurd (show p ∈ ([] : List (Addr × Obj)) from hp) (by simp)⟩
  obtain ⟨W, ⟨m0, w0⟩, turn⟩ := h
  have loop : ∀ s₃ : Shared, s₃ = { s with heap := h₁, toks := s.toks + ([] : List (Str × Value)).length } →
      codeAny (model X.prog X.w) X.A (.compLoop (.ListComp elt [⟨.Name x px, iter, ifs, 0⟩] scope pos) 0 (.ref it) (.ref D) (compEnvC scope cl C X.env)) (RR (.ref D) C) s₃ := by
    rintro s₃ rfl
    refine compLoop_any (fun n s' => ∃ (i : Nat) (o : Option V) (H' : Hp) (ys : List V) (us : List Value) (k : Nat), Inv Y [] (o :: capV σ caps) H' s' ∧ tn i s'.heap ∧ (∀ b ∈ fp, H' b = none) ∧ s'.heap.get? D = some (rawL us k) ∧ H' D = none ∧ Vals ys us ∧ W i n ys H')
      ?_ m0 ⟨0, none, H, [], [], 0, I0, st1, fun b hb => (hfp b hb).1, hacc, Dfree, .nil, w0⟩
    rintro n s3 ⟨i, o3, H3, ys, us, k, I3, st3, fr3, hD3, nD3, rv, w3⟩
    have fpP : ∀ {H' : Hp} {ob : Obj}, (∀ b ∈ fp, H' b = none) → ∀ b ∈ fp, FpOk Y [(D, ob)] H' b := fun hn b hb => by
      obtain ⟨g0, g1, g2, g3, g4, _⟩ := fpY hn b hb
      refine ⟨g0, g1, g2, g3, g4, fun p hp => ?_⟩
      have e : p = (D, _) := List.mem_singleton.mp (show p ∈ [(D, _)] from hp)
      rw [e]
      exact Ne.symm (Dfp b hb)
    have IP : Inv Y [(D, rawL us k)] (o3 :: capV σ caps) H3 s3 := I3.pins_of fun p hp => by
      have e : p = (D, rawL us k) := List.mem_singleton.mp hp
      subst e
      exact ⟨hD3, nD3, DneC, Dfs, fun v z => by cases z⟩
    have pinD : ∀ {σ' : St} {H' : Hp} {s' : Shared} {pl : List (Addr × Obj)}, Inv Y ([(D, rawL us k)] ++ pl) σ' H' s' → s'.heap.get? D = some (rawL us k) ∧ H' D = none := fun I' => by
      have z := I'.pin (D, rawL us k) (List.mem_append_right _ (List.mem_append_left _ List.mem_cons_self))
      exact ⟨z.1, z.2.1⟩
    rcases turn i n ys H3 w3 with ⟨stop, hlen, fin⟩ | ⟨go, hlen, step⟩
    · -- the end
      refine wpAny_mono (T.done Y rfl rfl rfl hc i _ s3 _ H3 (fun _ _ => False) IP (fpP fr3) st3 stop) (fun r s4 hr => ?_) fun _ _ z => z.elim
      obtain ⟨hr, I4⟩ := hr
      subst hr
      obtain ⟨gD, nD⟩ := pinD (pl := []) (by simpa using I4)
      obtain ⟨m, hn, _⟩ := I4.loc
      refine hRR D C s4 m hn (fun h' hs' => ⟨upd H3 D (.lst ys), ?_, (upd_ne (Ne.symm DneC)).trans I4.free, fin D nD⟩) hCle
      have nt : ∀ b ob, H3 b = some ob → b ≠ C := fun b ob e z => by
        have := I4.free
        rw [z] at e
        rw [show H3 C = none from this] at e
        cases e
      have u1 : Un (frs X.stack) fp H H3 s.heap h' := Un.but I4.base hs' (show s.heap.objs.size ≤ C by rw [hDD]; exact hCle)
      have ok1 : HOk X.prog X.w H3 h' := fun b ob e => (I4.hok b ob e).stay (fun c v hc q => (hs'.2 c (by
        rcases hc with z | z
        · rw [z]; exact nt b ob e
        · exact nt c _ z)).trans q) (fun _ q => q) fun _ _ q => q
      have gD' : h'.get? D = some (rawL us k) := (hs'.2 D DneC).trans gD
      exact I.call' (s' := { s4 with heap := h' }) (ch := fp) I4.os (u1.track (Nat.le_of_eq hDD) nD) (ok1.track nD ⟨hlen, us, k, rv, gD'⟩) I4.bare fun b hb => by
        obtain ⟨_, g1, _, g3, g4, g5⟩ := hfp b hb
        exact ⟨g3, g1, g4, g5⟩
    · -- a turn
      refine wpAny_mono (T.item Y rfl rfl rfl hc i _ s3 _ H3 (fun _ _ => False) IP (fpP fr3) st3 go) (fun r s4 hr => ?_) fun _ _ z => z.elim
      obtain ⟨u0, hr, h4⟩ := hr
      subst hr
      refine wpAny_mono h4 (fun _ s5 h5 => ?_) fun _ _ z => z.elim
      obtain ⟨x5, H5, I5, r5, y5, st5, fr5⟩ := h5
      have I5' := I5.pinned (fpP fr5) (T.obj _ _ st5)
      have tgt : PG Y (.Name x px) (gName 0) := pg_name (i := 0) O.nd O.hd (.inl (lookup_relabel I.ok.kind O.loc (by intro z; cases z))) (.inr (lookup_relabel I.ok.kind O.loc (by intro z; cases z)))
      refine wpAny_mono (tgt _ s5 _ H5 x5 u0 (fun σ2 H2 => σ2 = some x5 :: capV σ caps ∧ H2 = H5) I5' r5 ⟨rfl, rfl⟩) (fun _ s6 h6 => ?_) fun _ _ z => z.elim
      obtain ⟨_, _, I6, rfl, rfl⟩ := h6
      refine wpAny_mono ((htc C fp s H).run I6 (step x5 _ y5)) (fun b s7 h7 => ?_) fun _ _ z => z.elim
      obtain ⟨H7, I7, q7⟩ := h7
      have keepT : ∀ {σ' : St} {H' : Hp} {s' : Shared}, Inv Y ([(D, rawL us k)] ++ pinsAt fp s5.heap) σ' H' s' → tn (i + 1) s'.heap ∧ ∀ b ∈ fp, H' b = none := fun I' =>
        ⟨T.keep _ _ _ st5 fun b hb o e => (I'.pin (b, o) (List.mem_append_right _ (List.mem_append_right _ (mem_pinsAt hb e)))).1, fun b hb => by
          obtain ⟨o, e, d⟩ := T.obj _ _ st5 b hb
          exact (I'.pin (b, o) (List.mem_append_right _ (List.mem_append_right _ (mem_pinsAt hb e)))).2.1⟩
      cases b with
      | false =>
        rw [if_neg Bool.false_ne_true] at q7
        rw [if_neg Bool.false_ne_true]
        obtain ⟨m', hm, w7⟩ := q7
        obtain ⟨gD, nD⟩ := pinD I7
        obtain ⟨k1, k2⟩ := keepT I7
        exact ⟨m', hm, i + 1, some x5, H7, ys, us, k, I7.pins_of (fun p hp => nomatch hp), k1, k2, gD, nD, rv, w7⟩
      | true =>
        rw [if_pos rfl] at q7
        rw [if_pos rfl]
        refine wpAny_mono (hte C fp s H _ s7 _ H7 _ I7 q7) (fun u8 s8 h8 => ?_) fun _ _ z => z.elim
        obtain ⟨y8, H8, I8, r8, m', hm, w8⟩ := h8
        obtain ⟨gD, nD⟩ := pinD I8
        obtain ⟨k1, k2⟩ := keepT I8
        refine call_meets F.slot_list_append ⟨_, gD, rfl⟩ F.entry_list_append (F.args_list_append_2 _ _) (PySem.list_append D us.toArray k u8 (by rw [List.size_toArray, ← rv.length]; omega)) ⟨gD, ?_⟩
        have q := PySem.IsL.update gD (·.push u8)
        have e1 : us.toArray.push u8 = (us ++ [u8]).toArray := by simp
        rw [e1] at q
        have I8' : Inv Y [] (some x5 :: capV σ caps) H8 s8 := I8.pins_of (fun p hp => nomatch hp)
        have I9 : Inv Y [] (some x5 :: capV σ caps) H8 { s8 with heap := s8.heap.update D (Obj.mapSeq (·.push u8)), toks := s8.toks } :=
          I8'.turned (it := D) (fun b o hb e => (Heap.get?_update_other s8.heap (Obj.mapSeq (·.push u8)) (Ne.symm hb)).trans e) nD DneC (.inr (Nat.le_of_eq hDD)) Dcell (fun p hp => nomatch hp)
        refine ⟨m', hm, i + 1, some x5, H8, ys ++ [y8], us ++ [u8], _, I9, T.keep _ _ _ k1 fun b hb o e => (Heap.get?_update_other s8.heap (Obj.mapSeq (·.push u8)) (Ne.symm (Dfp b hb))).trans e, k2, q, nD, rv.append (.cons r8 .nil), w8⟩
  exact codeAny_compStart_list (loop _ rfl) (T.self X.A 0 _ _ _ st1 (loop _ rfl))

/-- [elt for x in iter if test] -/
theorem pe_comp {x : Str} {px pos : Pos} {Nc : List Str} {caps : List Nat} {scope : Scope} {iter elt : Expr} {ifs : List Expr} {wi : TI} {tc : TT} {te : TE} (O : CompOk X x Nc caps scope) (hc : X.calm = true) (hi : PI X (.Name x px) iter wi)
    (htc : ∀ cl C fp s H, PIf (cxComp X Nc scope cl C fp s H) ifs tc) (hte : ∀ cl C fp s H, PE (cxComp X Nc scope cl C fp s H) elt te) (hs : ∀ x, foldedSetIterable iter X.env x = pure x := by intro _; rfl) :
    PE X (.ListComp elt [⟨.Name x px, iter, ifs, 0⟩] scope pos) (tComp wi caps tc te) := by
  intro pins s σ H Q I h
  rw [eval_ListComp]
  obtain ⟨cl, e1, e2, e3⟩ := closure_is (scope := scope) (env := X.env) fun y hy hf => I.ok.has y.1 (.inl (O.fr y hy hf).1)
  refine wpAny_comprehension_free (use := none) rfl hs e1 O.kind O.names (thn (hi pins s σ H _ I h) fun v s1 h1 => thn h1 fun itv s2 h2 => ?_)
  obtain ⟨it, fp, tn, J, H2, e, I2, T, st2, f2, w2⟩ := h2
  subst e
  refine comp_block (RR := fun acc C => compPost (model X.prog X.w) X.A X.xe none (EP X pins σ Q) acc C) O hc e2 e3 (hte cl) (htc cl) I2 T st2 f2 w2 ?_
  intro D C s' m hn hq hC
  refine ⟨m, hn, fun h' hs' => ?_⟩
  obtain ⟨H', I', _, q⟩ := hq h' hs'
  exact ⟨.ref D, H', I', rfl, q⟩

/-- y = [elt for x in iter if test], where the value is stored ahead of the variables' going -/
theorem ps_setC {i : Nat} {y x : Str} {px py pos spos : Pos} {Nc : List Str} {caps : List Nat} {scope : Scope} {iter elt : Expr} {ifs : List Expr} {wi : TI} {tc : TT} {te : TE} (O : CompOk X x Nc caps scope) (hc : X.calm = true)
    (hN : X.N.Nodup) (hy : X.N[i]? = some y) (hx : X.env.scope.names.lookup y = some .local) (hi : PI X (.Name x px) iter wi)
    (htc : ∀ cl C fp s H, PIf (cxComp X Nc scope cl C fp s H) ifs tc) (hte : ∀ cl C fp s H, PE (cxComp X Nc scope cl C fp s H) elt te)
    (hsw : swapsWith (.ListComp elt [⟨.Name x px, iter, ifs, 0⟩] scope pos) (some (.Name y py)) spos.line X.env = pure true) (hs : ∀ x, foldedSetIterable iter X.env x = pure x := by intro _; rfl) :
    PS X (.Assign [.Name y py] (.ListComp elt [⟨.Name x px, iter, ifs, 0⟩] scope pos) spos) (tAsg (tComp wi caps tc te) (gName i)) := by
  intro pins s σ H Dn I h
  rw [exec_Assign_Name_used _ _ _ _ hsw]
  refine wpAny_bind (wpAny_standAt (wpAny_bind ?_))
  obtain ⟨cl, e1, e2, e3⟩ := closure_is (scope := scope) (env := X.env) fun y hy hf => I.ok.has y.1 (.inl (O.fr y hy hf).1)
  show wpAny _ X.A (do let _ ← comprehension (.ListComp elt [⟨.Name x px, iter, ifs, 0⟩] scope pos) scope X.env _ (newList []) false (eval iter X.env) (some (assign (.Name y py) X.env))) _ _ s
  refine wpAny_bind (wpAny_mono (wpAny_comprehension_free (use := some (assign (.Name y py) X.env)) (Q := fun _ s' => SP X pins Dn .next s') rfl hs e1 O.kind O.names
    (thn (hi pins s σ H _ I h) fun v s1 h1 => thn h1 fun itv s2 h2 => ?_)) (fun _ s' hq => wpAny_pure (wpAny_pure hq)) fun _ _ e => e)
  obtain ⟨it, fp, tn, J, H2, e, I2, T, st2, f2, w2⟩ := h2
  subst e
  refine comp_block (RR := fun acc C => compPost (model X.prog X.w) X.A X.xe (some (assign (.Name y py) X.env)) (fun _ s' => SP X pins Dn .next s') acc C) O hc e2 e3 (hte cl) (htc cl) I2 T st2 f2 w2 ?_
  intro D C s' m hn hq hC
  show wpAny _ X.A (assign (.Name y py) X.env (.ref D)) _ _ _
  obtain ⟨H', I', nC, q⟩ := hq s'.heap (.refl ..)
  have I'' : Inv X pins σ H' s' := I'
  have CL : C ≠ X.env.locals := Nat.ne_of_gt (Nat.lt_of_lt_of_le I2.lt hC)
  have Ccell : ∀ y c, X.env.cells.lookup y = some c → c ≠ C := fun y c e z => by
    obtain ⟨v, q⟩ := I2.cell y c e
    have := Nat.lt_of_lt_of_le q.lt hC
    rw [z] at this
    exact Nat.lt_irrefl _ this
  refine wpAny_assign_Name (store_ok2 I'' hN hy (.inl hx) (show RelV (.ref D) (.ref D) from rfl) (fun s3 I3 hsb => ?_) (.inr hx))
  obtain ⟨a, hsb, ha⟩ := hsb
  have aC : C ≠ a := by
    rcases ha with z | z
    · rw [z]; exact CL
    · exact Ne.symm (Ccell _ _ z)
  refine ⟨m, hn.sameBut hsb aC, fun h4 hs4 => ?_⟩
  refine ⟨_, H', I3.turned (it := C) (t' := s3.toks) (fun b o hb e => (hs4.2 b hb).trans e) nC CL (.inr (Nat.le_trans I2.sz hC)) Ccell (fun p hp z => ?_), q⟩
  · have := Nat.lt_of_lt_of_le (Heap.lt_size (I2.pin p hp).1) hC
    rw [z] at this
    exact Nat.lt_irrefl _ this
end
end L2

set_option Elab.async false
set_option linter.all false
set_option maxRecDepth 100000
namespace L2
open PySem PySem.Spec PyProof.Rows

/-! ### for c in text -/
def Its (x : Str) : It := ⟨fun i _ => i < x.cps.size, fun i H v H' => H' = H ∧ ∃ c, x.cps[i]? = some c ∧ v = .str ⟨#[c]⟩, fun i _ => x.cps.size ≤ i⟩
theorem turn_strA {P : Program} {w : World} {K : PySem.W.Frag} {tg : Expr} (it : Addr) (x : Str) (t : Tok) : Turn P w K tg (Its x) [it] it (fun i h => i ≤ x.cps.size ∧ h.IsStrIter it "str_ascii_iterator" x t i) where
  mem := by simp
  obj := fun i h st b hb => by
    have e : b = it := by simpa using hb
    subst e
    obtain ⟨_, o, e, c, d⟩ := st
    exact ⟨o, e, fun v z => by rw [d] at z; cases z⟩
  keep := fun i h h' st k => by
    obtain ⟨hl, o, e, c, d⟩ := st
    exact ⟨hl, o, k it (by simp) o e, c, d⟩
  item := by
    intro X hP hw hK hc i pins s σ H E I hf st hg
    subst hP hw hK
    obtain ⟨hl, st⟩ := st
    have hg : i < x.cps.size := hg
    obtain ⟨f0, f1, f2, f3, f4, f5⟩ := hf it (by simp)
    have hx : x.cps[i]? = some x.cps[i] := by simp [hg]
    refine wpAny_pyNext_ascii_item st hx fun h' st' sb => ?_
    have I1 : Inv X pins σ H { s with heap := h', toks := s.toks + 1 } := I.turned (fun b o hb e => (sb.2 b hb).trans e) f0 f1 f3 f4 f5
    obtain ⟨o, e, c, d⟩ := id st'
    exact ⟨_, rfl, go_of (s := { s with heap := h', toks := s.toks + 1 }) e c d (by decide) ⟨.str ⟨#[x.cps[i]]⟩, H, I1, ⟨_, rfl⟩, ⟨rfl, _, hx, rfl⟩, ⟨hg, st'⟩, fun b hb => (hf b hb).1⟩⟩
  done := by
    intro X hP hw hK hc i pins s σ H E I hf st hg
    subst hP hw hK
    obtain ⟨hl, st⟩ := st
    have hg : x.cps.size ≤ i := hg
    obtain ⟨f0, f1, f2, f3, f4, f5⟩ := hf it (by simp)
    exact wpAny_pyNext_ascii_end (I.ok.hd hc) st (by simp; omega) fun h' eb => ⟨rfl, I.turned (t' := s.toks) (fun b o hb e => eb b o hb e) f0 f1 f3 f4 f5⟩
  self := fun _ _ _ _ _ st h => wpAny_pyIter_striter_ascii st.2 h
theorem turn_strW {P : Program} {w : World} {K : PySem.W.Frag} {tg : Expr} (it : Addr) (x : Str) (t : Tok) : Turn P w K tg (Its x) [it] it (fun i h => i ≤ x.cps.size ∧ h.IsStrIter it "str_iterator" x t i) where
  mem := by simp
  obj := fun i h st b hb => by
    have e : b = it := by simpa using hb
    subst e
    obtain ⟨_, o, e, c, d⟩ := st
    exact ⟨o, e, fun v z => by rw [d] at z; cases z⟩
  keep := fun i h h' st k => by
    obtain ⟨hl, o, e, c, d⟩ := st
    exact ⟨hl, o, k it (by simp) o e, c, d⟩
  item := by
    intro X hP hw hK hc i pins s σ H E I hf st hg
    subst hP hw hK
    obtain ⟨hl, st⟩ := st
    have hg : i < x.cps.size := hg
    obtain ⟨f0, f1, f2, f3, f4, f5⟩ := hf it (by simp)
    have hx : x.cps[i]? = some x.cps[i] := by simp [hg]
    refine wpAny_pyNext_wide_item st hx fun h' st' sb => ?_
    have I1 : Inv X pins σ H { s with heap := h', toks := s.toks + 1 } := I.turned (fun b o hb e => (sb.2 b hb).trans e) f0 f1 f3 f4 f5
    obtain ⟨o, e, c, d⟩ := id st'
    exact ⟨_, rfl, go_of (s := { s with heap := h', toks := s.toks + 1 }) e c d (by decide) ⟨.str ⟨#[x.cps[i]]⟩, H, I1, ⟨_, rfl⟩, ⟨rfl, _, hx, rfl⟩, ⟨hg, st'⟩, fun b hb => (hf b hb).1⟩⟩
  done := by
    intro X hP hw hK hc i pins s σ H E I hf st hg
    subst hP hw hK
    obtain ⟨hl, st⟩ := st
    have hg : x.cps.size ≤ i := hg
    obtain ⟨f0, f1, f2, f3, f4, f5⟩ := hf it (by simp)
    exact wpAny_pyNext_wide_end (I.ok.hd hc) st (by simp; omega) fun h' eb => ⟨rfl, I.turned (t' := s.toks) (fun b o hb e => eb b o hb e) f0 f1 f3 f4 f5⟩
  self := fun _ _ _ _ _ st h => wpAny_pyIter_striter_wide st.2 h
section
variable {X : Cx} {tg : Expr}
def iStr (tl : TE) : TI := fun σ H R => tl σ H fun x H1 => ∃ z, x = .str z ∧ R (Its z) H1
theorem pi_str {l : Expr} {tl : TE} (hl : PE X l tl) : PI X tg l (iStr tl) := by
  intro pins s σ H R I h
  refine thn (hl pins s σ H _ I h) fun v s1 ⟨x, H1, I1, r1, q1⟩ => ?_
  obtain ⟨z, e, q⟩ := q1
  subst e
  obtain ⟨t, rfl⟩ := r1
  have fpn : ∀ b ∈ [s1.heap.objs.size], FpOk X pins H1 b := fun b hb => by
    have e : b = s1.heap.objs.size := by simpa using hb
    subst e
    exact I1.fpOk (Nat.le_refl _) (I1.hok.fresh (Nat.le_refl _))
  cases ha : z.cps.all (· < 128)
  · refine wpAny_pyIter_wide ha ?_
    exact ⟨s1.heap.objs.size, [s1.heap.objs.size], _, _, H1, rfl, I1.kept (t' := s1.toks) fun b o e => Heap.get?_push_of_some _ e, turn_strW _ z t, ⟨Nat.zero_le _, _, Heap.get?_push_size _ rfl, rfl, rfl⟩, fpn, q⟩
  · refine wpAny_pyIter_ascii ha ?_
    exact ⟨s1.heap.objs.size, [s1.heap.objs.size], _, _, H1, rfl, I1.kept (t' := s1.toks) fun b o e => Heap.get?_push_of_some _ e, turn_strA _ z t, ⟨Nat.zero_le _, _, Heap.get?_push_size _ rfl, rfl, rfl⟩, fpn, q⟩
end
/-- over a text -/
theorem for_str {z : Str} {g : TG} {tb : TS} {D : Ends} {σ : St} {H : Hp} (Pv : Nat → St → Hp → Prop) (h0 : Pv 0 σ H)
    (hs : ∀ i c σ H, z.cps[i]? = some c → Pv i σ H → g (.str ⟨#[c]⟩) σ H fun σ2 H2 => tb { D with nx := Pv (i + 1), ct := Pv (i + 1), bk := D.nx } σ2 H2) (hd : ∀ σ H, Pv z.cps.size σ H → D.nx σ H) :
    ∃ W : Nat → Nat → St → Hp → Prop, (∃ m, W 0 m σ H) ∧ ∀ i m σ H, W i m σ H →
      ((Its z).stop i H ∧ D.nx σ H) ∨ ((Its z).go i H ∧ ∃ N : St → Hp → Prop, (∀ σ' H', N σ' H' → ∃ m', m' < m ∧ W (i + 1) m' σ' H') ∧ ∀ x H', (Its z).yld i H x H' → g x σ H' fun σ2 H2 => tb { D with nx := N, ct := N, bk := D.nx } σ2 H2) := by
  refine ⟨fun i m σ H => m = z.cps.size - i ∧ i ≤ z.cps.size ∧ Pv i σ H, ⟨z.cps.size, by simp, Nat.zero_le _, h0⟩, ?_⟩
  rintro i m σ H ⟨rfl, hi, p⟩
  by_cases hlt : i < z.cps.size
  · refine .inr ⟨hlt, Pv (i + 1), fun σ' H' p' => ⟨z.cps.size - (i + 1), by omega, rfl, hlt, p'⟩, fun x H' y => ?_⟩
    obtain ⟨e, c, hc, rfl⟩ := y
    subst e
    exact hs i c σ _ hc p
  · have e : i = z.cps.size := by omega
    subst e
    exact .inl ⟨Nat.le_refl _, hd σ H p⟩

/-! ### the forms of a comprehension that one uses: what stands behind i items -/
/-- one item more is behind -/
def CN (n : Nat) (Pv : Nat → List V → Hp → Prop) (i : Nat) (ys : List V) (H : Hp) : Prop := ∃ m', m' < n - i ∧ m' = n - (i + 1) ∧ i + 1 ≤ n ∧ Pv (i + 1) ys H
theorem CN.of {n : Nat} {Pv : Nat → List V → Hp → Prop} {i : Nat} {ys : List V} {H : Hp} (h : i < n) (p : Pv (i + 1) ys H) : CN n Pv i ys H := ⟨n - (i + 1), by omega, rfl, h, p⟩
/-- a turn: the test, then the element -/
def CTurn (n : Nat) (Pv : Nat → List V → Hp → Prop) (tc : TT) (te : TE) (σ : St) (i : Nat) (ys : List V) (H : Hp) : Prop :=
  tc σ H fun b H2 => if b = true then te σ H2 fun y H3 => CN n Pv i (ys ++ [y]) H3 else CN n Pv i ys H2
theorem CTurn.no {n : Nat} {Pv : Nat → List V → Hp → Prop} {te : TE} {σ : St} {i : Nat} {ys : List V} {H : Hp} (h : te σ H fun y H3 => CN n Pv i (ys ++ [y]) H3) : CTurn n Pv tNoTest te σ i ys H := by
  unfold CTurn tNoTest
  exact iteT h
theorem comp_list {K : PySem.W.Frag} {a : Addr} {xs : List V} {caps : List Nat} {tc : TT} {te : TE} {σ : St} {H : Hp} {Q : VK} (Pv : Nat → List V → Hp → Prop) (h0 : Pv 0 [] H) (hl : ∀ i ys H, i ≤ xs.length → Pv i ys H → SqL K H a xs ∧ ys.length ≤ i)
    (hz : xs.length ≤ sizeLine) (hs : ∀ i x ys H, i < xs.length → xs[i]? = some x → Pv i ys H → CTurn xs.length Pv tc te (some x :: capV σ caps) i ys H)
    (hd : ∀ ys H p, Pv xs.length ys H → H p = none → Q (.ref p) (upd H p (.lst ys))) : tCompW caps tc te (Itl K a) σ H Q := by
  refine ⟨fun i m ys H => m = xs.length - i ∧ i ≤ xs.length ∧ Pv i ys H, ⟨xs.length, by simp, Nat.zero_le _, h0⟩, ?_⟩
  rintro i m ys H ⟨rfl, hi, p⟩
  obtain ⟨q, hy⟩ := hl i ys H hi p
  by_cases hlt : i < xs.length
  · refine .inr ⟨⟨xs, xs[i], q, by simp [hlt]⟩, by omega, fun x H' y => ?_⟩
    obtain ⟨e, y⟩ := y
    subst e
    exact hs i x ys _ hlt (y xs q) p
  · have e : i = xs.length := by omega
    subst e
    exact .inl ⟨⟨xs, q, Nat.le_refl _⟩, by omega, fun p' hp => hd ys H p' p hp⟩
theorem comp_range {lo : Int} {n : Nat} {caps : List Nat} {tc : TT} {te : TE} {σ : St} {H : Hp} {Q : VK} (Pv : Nat → List V → Hp → Prop) (h0 : Pv 0 [] H) (hl : ∀ i ys H, i ≤ n → Pv i ys H → ys.length ≤ i)
    (hz : n ≤ sizeLine) (hs : ∀ i ys H, i < n → Pv i ys H → CTurn n Pv tc te (some (.int (lo + i)) :: capV σ caps) i ys H)
    (hd : ∀ ys H p, Pv n ys H → H p = none → Q (.ref p) (upd H p (.lst ys))) : tCompW caps tc te (Itr lo n) σ H Q := by
  refine ⟨fun i m ys H => m = n - i ∧ i ≤ n ∧ Pv i ys H, ⟨n, by simp, Nat.zero_le _, h0⟩, ?_⟩
  rintro i m ys H ⟨rfl, hi, p⟩
  have hy := hl i ys H hi p
  by_cases hlt : i < n
  · refine .inr ⟨hlt, by omega, fun x H' y => ?_⟩
    obtain ⟨e, y⟩ := y
    subst e y
    exact hs i ys _ hlt p
  · have e : i = n := by omega
    subst e
    exact .inl ⟨Nat.le_refl _, by omega, fun p' hp => hd ys H p' p hp⟩
/-! ### sep.join(list of texts) -/
theorem strsAre_of {ys : List Str} : ∀ {us : List Value}, Vals (ys.map V.str) us → StrsAre us ys := by
  induction ys with
  | nil => intro us r; rw [List.map_nil] at r; cases r; exact .nil
  | cons n ns ih =>
    intro us r
    rw [List.map_cons] at r
    cases r with
    | cons r1 r2 =>
      obtain ⟨t, e⟩ := r1
      subst e
      exact .cons n t (ih r2)
def rJoin (K : PySem.W.Frag) : V → List V → Hp → VK → Prop := fun x vs H Q => ∃ z a ys, x = .str z ∧ vs = [.ref a] ∧ SqL K H a (ys.map V.str) ∧ (ys.map (·.length)).sum + ys.length * z.length ≤ 16777216 ∧ Q (.str (Txt.join z ys)) H
section
variable {X : Cx}
theorem mt_join : MtR X "str.join" (rJoin X.K) := by
  intro pins s σ H x vs v us Q I rx rv h
  obtain ⟨z, a, ys, rfl, rfl, hq, hz, q⟩ := h
  obtain ⟨t, rfl⟩ := rx
  obtain ⟨u, rfl, ru⟩ := rv.one
  cases ru
  obtain ⟨its, r, pl, hl⟩ := I.list hq
  exact join_list pl.isList (strsAre_of (by simpa using r)) hz fun t' k => ⟨.str _, H, I.tok _, ⟨_, rfl⟩, q⟩

/-! ### isinstance(x, C) -/
def rIsi (K : PySem.W.Frag) : List V → Hp → VK → Prop := fun vs H Q => ∃ x t b, TyOf K H x t ∧
  ((∃ n, vs = [x, .ty n] ∧ PySem.W.kitOne K t (.type n) = some b) ∨ (∃ a, vs = [x, .ref a] ∧ PySem.W.kitOne K t (.ref a) = some b)) ∧ Q (.bl b) H
theorem call_isi : CallR X (.builtin "isinstance") (rIsi X.K) := by
  intro pins s σ H xs us Q I rv h
  obtain ⟨x, t, b, ty, hv, q⟩ := h
  rcases hv with ⟨n, rfl, e⟩ | ⟨a, rfl, e⟩
  · obtain ⟨u1, u2, rfl, r1, r2⟩ := rv.two
    cases r2
    exact isinst_ok I r1 ty e fun tk => ⟨.bl b, H, I.tok _, rfl, q⟩
  · obtain ⟨u1, u2, rfl, r1, r2⟩ := rv.two
    cases r2
    exact isinst_ok I r1 ty e fun tk => ⟨.bl b, H, I.tok _, rfl, q⟩

/-! ### == of two lists of flat values -/
def eqL : List V → List V → Bool
  | [], [] => true
  | x :: xs, y :: ys => eqV x y && eqL xs ys
  | _, _ => false
theorem eqV_refl {x : V} (h : flatV x = true) : eqV x x = true := by
  cases x with
  | non => rfl
  | bl b => simp [eqV]
  | int i => simp [eqV]
  | str z => simp [eqV]
  | _ => exact absurd (show false = true from h) Bool.false_ne_true
theorem eqL_len : ∀ {xs ys : List V}, xs.length ≠ ys.length → eqL xs ys = false
  | [], [], h => absurd rfl h
  | [], _ :: _, _ => rfl
  | _ :: _, [], _ => rfl
  | x :: xs, y :: ys, h => by
    rw [eqL, eqL_len (xs := xs) (ys := ys) (fun z => h (by rw [List.length_cons, List.length_cons, z])), Bool.and_false]
theorem eqL_range : ∀ {xs ys : List V}, xs.length = ys.length → (List.range xs.length).all (fun j => eqV (xs.getD j .non) (ys.getD j .non)) = eqL xs ys
  | [], [], _ => rfl
  | [], _ :: _, h => by simp at h
  | _ :: _, [], h => by simp at h
  | x :: xs, y :: ys, h => by
    have h' : xs.length = ys.length := by simpa using h
    rw [List.length_cons, List.range_succ_eq_map, List.all_cons, List.all_map]
    rw [eqL, ← eqL_range h']
    rfl
def rEqL (K : PySem.W.Frag) : R2 := fun x y H Q => ∃ p q xs ys, x = .ref p ∧ y = .ref q ∧ SqL K H p xs ∧ SqL K H q ys ∧ xs.all flatV = true ∧ ys.all flatV = true ∧ Q (.bl (eqL xs ys)) H
theorem op_eqL (hu : X.A.units < cLine) : OpR X (compareOp .Eq) (rEqL X.K) := by
  intro pins s σ H x y v u Q I rx ry h
  obtain ⟨p, q, xs, ys, rfl, rfl, hx, hy, fx, fy, k⟩ := h
  cases rx
  cases ry
  obtain ⟨its, r, pl, hz⟩ := I.list hx
  obtain ⟨its2, r2, pl2, hz2⟩ := I.list hy
  have l1 := r.length
  have l2 := r2.length
  by_cases hl : xs.length = ys.length
  · refine SeqAt.eq_listAt (e := fun j => eqV (xs.getD j .non) (ys.getD j .non)) pl.isList pl2.isList (by simp only [List.size_toArray]; omega) hu (fun j h1 h2 => ?_) ?_
    · have j1 : j < xs.length := by simp only [List.size_toArray] at h1; omega
      have j2 : j < ys.length := by omega
      obtain ⟨w1, e1, q1⟩ := r.get (i := j) (x := xs[j]) (by simp [j1])
      obtain ⟨w2, e2, q2⟩ := r2.get (i := j) (x := ys[j]) (by simp [j2])
      have g1 : its.toArray[j] = w1 := by
        have : its.toArray[j]? = some w1 := by simpa using e1
        exact Option.some.inj ((Array.getElem?_eq_getElem h1).symm.trans this)
      have g2 : its2.toArray[j] = w2 := by
        have : its2.toArray[j]? = some w2 := by simpa using e2
        exact Option.some.inj ((Array.getElem?_eq_getElem h2).symm.trans this)
      rw [g1, g2]
      have d1 : xs.getD j .non = xs[j] := by simp [List.getD, j1]
      have d2 : ys.getD j .non = ys[j] := by simp [List.getD, j2]
      show SeqAt.EqAt _ _ _ _ (eqV (xs.getD j .non) (ys.getD j .non))
      rw [d1, d2]
      exact eqAt_V q1 q2 (List.all_eq_true.mp fx _ (List.getElem_mem j1)) (List.all_eq_true.mp fy _ (List.getElem_mem j2))
    · refine ⟨.bl (eqL xs ys), H, I, ?_, k⟩
      show Value.bool _ = Value.bool _
      rw [List.size_toArray, ← l1, eqL_range hl]
  · refine SeqAt.eq_list_lengthsAt pl.isList pl2.isList (by simp only [List.size_toArray, bne_iff_ne]; omega) hu ?_
    exact ⟨.bl (eqL xs ys), H, I, by rw [eqL_len hl]; rfl, k⟩
end
end L2

namespace L2
open PySem
/-- a text by its codes -/
def tx (l : List Nat) : Str := ⟨l.toArray⟩
theorem tx_len (l : List Nat) : (tx l).length = l.length := by simp [tx, Str.length]
theorem tx_get (l : List Nat) (i : Nat) : (tx l).cps[i]? = l[i]? := by simp [tx]
theorem tx_app (a b : List Nat) : tx a ++ tx b = tx (a ++ b) := by
  show Str.append (tx a) (tx b) = _
  simp [tx, Str.append]
theorem tx_one (c : Nat) : (⟨#[c]⟩ : Str) = tx [c] := rfl
theorem glue_fold : ∀ (ys : List (List Nat)) (acc : Array Nat), (ys.map tx).foldl (fun acc p => acc ++ (tx []).cps ++ p.cps) acc = acc ++ ys.flatten.toArray
  | [], acc => by simp
  | y :: ys, acc => by
    rw [List.map_cons, List.foldl_cons, glue_fold ys]
    simp [tx]
theorem tx_join : ∀ (ys : List (List Nat)), Txt.join (tx []) (ys.map tx) = tx ys.flatten
  | [] => by simp [Txt.join, Builtin.Str.glued, tx, Str.empty]
  | y :: ys => by
    show Str.mk _ = _
    simp only [List.map_cons, List.drop_one, List.tail_cons, List.headD_cons]
    rw [glue_fold]
    simp [tx]
theorem flat1 {α : Type} (f : α → Nat) : ∀ (l : List α), (l.map fun c => [f c]).flatten = l.map f
  | [] => rfl
  | a :: l => by rw [List.map_cons, List.flatten_cons, flat1 f l]; rfl
theorem sum1 {α : Type} (f : α → Nat) : ∀ (l : List α), (((l.map fun c => [f c]).map tx).map (·.length)).sum = l.length
  | [] => rfl
  | a :: l => by
    rw [List.map_cons, List.map_cons, List.map_cons, List.sum_cons, sum1 f l, tx_len, List.length_cons]
    show 1 + l.length = l.length + 1
    omega
end L2

set_option maxRecDepth 100000
set_option linter.all false
namespace PySem
open Sem (wp)
open Builtin Builtin.Str Builtin.Int
namespace RV
end RV
def revS (x : Str) (t : Tok) (i : Int) : Obj := { cls := .type "reversed", data := .fields #[.str x t, rawInt i] }
def Heap.IsRevS (h : Heap) (a : Addr) (x : Str) (t : Tok) (i : Int) : Prop := ∃ o, h.get? a = some o ∧ o.cls = .type "reversed" ∧ o.data = .fields #[.str x t, rawInt i]
section
variable {prog : Program} {w : World} {A : Around} {E : Value → Shared → Prop} {s : Shared}
end
end PySem

set_option Elab.async false
set_option linter.all false
set_option maxRecDepth 100000
namespace L2
open PySem PySem.Spec PyProof.Rows
/-! ### sep.join(reversed(text)) -/
def revO (p : Addr) (x : Str) : HO := .ext fun h => ∃ t, h.IsRevS p x t ((x.length : Int) - 1)
def anyO (p : Addr) : HO := .ext fun h => ∃ o, h.get? p = some o
section
variable {X : Cx}
end
end L2

set_option Elab.async false
set_option linter.all false
set_option maxRecDepth 100000
namespace L2
open PySem PySem.Spec PyProof.Rows
/-! ### tests that are known -/
theorem iteDn {c A B : Prop} [Decidable c] (h : ¬ c) (k : B) : if decide c = true then A else B := by rw [decide_eq_false h]; exact iteF k
theorem iteDp {c A B : Prop} [Decidable c] (h : c) (k : A) : if decide c = true then A else B := by rw [decide_eq_true h]; exact iteT k
theorem iteNp {c A B : Prop} [Decidable c] (h : ¬ c) (k : A) : if (!decide c) = true then A else B := by rw [decide_eq_false h]; exact iteT k
theorem ite2D {c A B : Prop} [Decidable c] (h1 : c → A) (h2 : ¬ c → B) : if decide c = true then A else B := by
  by_cases h : c
  · exact iteDp h (h1 h)
  · exact iteDn h (h2 h)
/-! ### heaps -/
theorem Same.upd {H : Hp} {p : Addr} {o : HO} (h : H p = none) : Same H (L2.upd H p o) := fun b o' e => by rw [upd_ne (ne_of_none e h)]; exact e
theorem Same.new {H H1 : Hp} {p : Addr} {o : HO} (e : Same H H1) (h : H1 p = none) : Same H (L2.upd H1 p o) := e.trans (.upd h)
/-- a write at p, which was not there at H -/
theorem Same.over {H H1 : Hp} {p : Addr} {o : HO} (e : Same H H1) (h : H p = none) : Same H (L2.upd H1 p o) := fun b o' q => by rw [upd_ne (ne_of_none q h)]; exact e b o' q
/-! ### Python's own names -/
theorem bt_len : bootBuiltins "len" = some (.builtin "len") := by decide +kernel
theorem bt_isinstance : bootBuiltins "isinstance" = some (.builtin "isinstance") := by decide +kernel
theorem bt_list : bootBuiltins "list" = some (.type "list") := by decide +kernel
theorem bt_str : bootBuiltins "str" = some (.type "str") := by decide +kernel
theorem bt_enumerate : bootBuiltins "enumerate" = some (.type "enumerate") := by decide +kernel
theorem bt_zip : bootBuiltins "zip" = some (.type "zip") := by decide +kernel
/-! ### a def of the text, its name, its parameters -/
structure Df (K : PySem.W.Frag) (mg : Str → Option Value) (x : Str) (st : Stmt) (ps : List Str) (f : Addr) (fd : FuncData) : Prop where
  F : Fun K x x st f fd
  m : mg x = some (.ref f)
  b : Binds K fd ps []
/-! ### lists of texts, of ints -/
def vS (cl : List (List Nat)) : List V := cl.map fun t => V.str (tx t)
def vI (ns : List Int) : List V := ns.map V.int
theorem vS_len (cl : List (List Nat)) : (vS cl).length = cl.length := by unfold vS; rw [List.length_map]
theorem vI_len (ns : List Int) : (vI ns).length = ns.length := by unfold vI; rw [List.length_map]
theorem vS_get {cl : List (List Nat)} {i : Nat} {t : List Nat} (h : cl[i]? = some t) : (vS cl)[i]? = some (.str (tx t)) := by unfold vS; rw [List.getElem?_map, h]; rfl
theorem vI_get {ns : List Int} {i : Nat} {n : Int} (h : ns[i]? = some n) : (vI ns)[i]? = some (.int n) := by unfold vI; rw [List.getElem?_map, h]; rfl
theorem vS_got {cl : List (List Nat)} {i : Nat} {v : V} (h : (vS cl)[i]? = some v) : ∃ t, cl[i]? = some t ∧ v = .str (tx t) := by
  unfold vS at h
  rw [List.getElem?_map] at h
  cases e : cl[i]? with
  | none => rw [e] at h; cases h
  | some t => rw [e] at h; exact ⟨t, rfl, (Option.some.inj h).symm⟩
theorem vI_got {ns : List Int} {i : Nat} {v : V} (h : (vI ns)[i]? = some v) : ∃ t, ns[i]? = some t ∧ v = .int t := by
  unfold vI at h
  rw [List.getElem?_map] at h
  cases e : ns[i]? with
  | none => rw [e] at h; cases h
  | some t => rw [e] at h; exact ⟨t, rfl, (Option.some.inj h).symm⟩
theorem vI_flat (ns : List Int) : (vI ns).all flatV = true := by unfold vI; rw [List.all_map]; exact List.all_eq_true.mpr fun _ _ => rfl
theorem vS_flat (cl : List (List Nat)) : (vS cl).all flatV = true := by unfold vS; rw [List.all_map]; exact List.all_eq_true.mpr fun _ _ => rfl
theorem vS_map (cl : List (List Nat)) : vS cl = (cl.map tx).map V.str := by unfold vS; rw [List.map_map]; rfl
theorem vI_set (ns : List Int) (j : Nat) (n : Int) : (vI ns).set j (.int n) = vI (ns.set j n) := by unfold vI; rw [List.map_set]
theorem vI_app (ns : List Int) (n : Int) : vI ns ++ [.int n] = vI (ns ++ [n]) := by unfold vI; rw [List.map_append]; rfl
theorem vS_app (cl : List (List Nat)) (t : List Nat) : vS cl ++ [.str (tx t)] = vS (cl ++ [t]) := by unfold vS; rw [List.map_append]; rfl
/-- the item at a place that is there -/
theorem atI_of {α : Type} {xs : List α} {i : Int} {v : α} (h0 : 0 ≤ i) (h : xs[i.toNat]? = some v) : atI xs i = some v := by
  have e : i = (i.toNat : Int) := by omega
  rw [e]
  exact atI_nat h
theorem ixN_of {n : Nat} {i : Int} (h0 : 0 ≤ i) (h : i < n) : ixN n i = some i.toNat := by unfold ixN; rw [if_pos h0, if_pos h]
end L2

set_option Elab.async false
set_option linter.all false
set_option maxRecDepth 100000
namespace L2
open PySem PySem.Spec PyProof.Rows
/-! ### the rules that name the written part, with its name given (within a comprehension's block the reading may not lean on the block) -/
section
variable {X : Cx} {K : PySem.W.Frag} {tg : Expr}
theorem ix_listK (hK : X.K = K := by rfl) : IxR X (rIxL K) := by subst hK; exact ix_list
theorem op_eqLK (hu : X.A.units < cLine) (hK : X.K = K := by rfl) : OpR X (compareOp .Eq) (rEqL K) := by subst hK; exact op_eqL hu
theorem call_len_seqK (hK : X.K = K := by rfl) : CallR X (.builtin "len") (fun xs H Q => ∃ p ys, xs = [.ref p] ∧ (SqL K H p ys ∨ SqT K H p ys) ∧ Q (.int ys.length) H) := by subst hK; exact call_len_seq
theorem call_list_ofK (hK : X.K = K := by rfl) : CallR X (.type "list") (fun xs H Q => ∃ p ys, xs = [.ref p] ∧ (SqL K H p ys ∨ SqT K H p ys) ∧ ∀ l, H l = none → Q (.ref l) (upd H l (.lst ys))) := by subst hK; exact call_list_of
theorem call_isiK (hK : X.K = K := by rfl) : CallR X (.builtin "isinstance") (rIsi K) := by subst hK; exact call_isi
theorem mt_joinK (hK : X.K = K := by rfl) : MtR X "str.join" (rJoin K) := by subst hK; exact mt_join
theorem sl_listK (hK : X.K = K := by rfl) : SlR X (rSlL K) := by subst hK; exact sl_list
theorem pi_listK {l : Expr} {tl : TE} (hl : PE X l tl) (hK : X.K = K := by rfl) : PI X tg l (iList K tl) := by subst hK; exact pi_list hl
variable {o e : Expr} {es : List Expr} {to : TE} {t : TA} {name : Str} {apos cpos : Pos} {T id : String} {r : V → List V → Hp → VK → Prop}
theorem pe_bmK (pa : PlainAttrs T) (slot : Slot T name id) (hty : typeOf (.builtin id) = pure (.type "method_descriptor")) (hm : MtR X id r) (ho : PE X o to) (ha : PA X (e :: es) t)
    (hbase : attributeBase o name X.env (eval o X.env) = eval o X.env := by rfl)
    (hfew : ((backTo cpos (starEach (e :: es) X.env)).all (fun x => !x.1) && (backToKw cpos (keywordEach [] X.env)).all (fun x => x.1.isSome)
      && decide ((e :: es).length + ([] : List Keyword).length + (if ([] : List Keyword).isEmpty then 0 else 1) < 30)) = true := by rfl)
    (hline : (apos.endLine == cpos.line) = true := by rfl) (hs : starEach (e :: es) X.env = (false, eval e X.env) :: starEach es X.env := by rfl) (hplain : (backTo cpos (starEach es X.env)).any (·.1) = false := by rfl) (hK : X.K = K := by rfl) :
    PE X (.Call (.Attribute o name apos) (e :: es) [] cpos) (tBM K T r to t) := by
  subst hK
  exact pe_bm pa slot hty hm ho ha hbase hfew hline hs hplain
end
end L2

set_option Elab.async false
set_option linter.all false
set_option maxRecDepth 100000
namespace L2
open PySem PySem.Spec PyProof.Rows

/-! ### an exception of an own class, on its way through the frames: its whole record is known but for where its trace stands -/
abbrev exO (C t : Addr) (tb : Value) : Obj := { cls := .ref C, data := .fields #[.ref t, tb, .none, .none, .bool false, .none] }
/-- B: all that stood at the raise but the frames; fl: what the newest entry of the trace says of the flight -/
structure Fx (B : Heap) (l : List Env) (e C t : Addr) (fl : Value) (h : Heap) : Prop where
  st : B.StaysIn h
  ne : B.get? e = none
  fr : h.FunFrames B l
  ob : ∃ (T : Addr) (oT : Obj) (ts : Array Value), h.get? e = some (exO C t (.ref T)) ∧ B.get? T = none ∧ T ≠ e ∧ h.get? T = some oT ∧ oT.data = .fields ts ∧ ts[3]? = some fl
theorem Fx.outer {B : Heap} {env : Env} {l : List Env} {e C t : Addr} {fl : Value} {h : Heap} (x : Fx B (env :: l) e C t fl h) : Fx B l e C t fl h := ⟨x.st, x.ne, x.fr.2.2, x.ob⟩
section
variable {M : Model} {A : Around} {E : Value → Shared → Prop} {s : Shared} {B : Heap} {env : Env} {l : List Env} {e C t L : Addr}
/-- the flight ends, or goes on elsewhere -/
theorem fx_land {fl : Value} {Q : Unit → Shared → Prop} (x : Fx B l e C t fl s.heap) (k : ∀ h', Fx B l e C t .none h' → s.heap.UpToSlots h' → Q () { s with heap := h' }) : wpAny M A (setFlight (.ref e) none) Q E s := by
  obtain ⟨st, ne, fr, T, oT, ts, hE, hBT, hTe, hT, hdT, h3⟩ := x
  have h3s : 3 < ts.size := (Array.getElem?_eq_some_iff.mp h3).1
  unfold setFlight
  refine wpAny_bind (wpAny_field hE rfl (x := .ref T) rfl ?_)
  rw [if_pos (show (Value.ref T != Value.none) = true by simp)]
  refine wpAny_setField hT hdT h3s (k _ ?_ ?_)
  all_goals
    have oth : ∀ b, b ≠ T → (s.heap.update T (Obj.mapFields (·.setIfInBounds 3 ((none : Option Addr).elim Value.none fun f => rawInt f)))).get? b = s.heap.get? b := fun b hb => Heap.get?_update_other _ _ (Ne.symm hb)
    have nrec : ∀ b o, s.heap.get? b = some o → (∀ vs, o.data ≠ .fields vs) → b ≠ T := fun b o hb hn q => by
      rw [q, hT] at hb
      cases hb
      exact hn ts hdT
  · refine ⟨fun b o hb => (oth b fun q => by rw [q, hBT] at hb; cases hb).trans (st b o hb), ne, fr.of_keeps fun b o hb hn => ⟨o, (oth b (nrec b o hb hn)).trans hb, rfl⟩, T, _, _, (oth e (Ne.symm hTe)).trans hE, hBT, hTe,
      Heap.get?_update_self _ hT (Obj.isFreed_of_fields (Obj.data_mapFields hdT _)), Obj.data_mapFields hdT _, ?_⟩
    simp [h3s]
  · exact fun b o hb hn => ⟨o.slots, (oth b (nrec b o hb hn)).trans hb⟩
/-- the frame enters itself into the trace -/
theorem fx_enter {tb : Value} {had : Bool} {Q : Unit → Shared → Prop} (hfr : A.frames = some (env :: l)) (hf : env.frame = some L) (st : B.StaysIn s.heap) (ne : B.get? e = none) (fr : s.heap.FunFrames B (env :: l))
    (hE : s.heap.get? e = some (exO C t tb)) (k : ∀ h', Fx B (env :: l) e C t (rawInt L) h' → s.heap.UpToSlots h' → Q () { s with heap := h' }) :
    wpAny M A (do let a ← frameOf env; let pl ← entryPlaceOf L had; let b ← EntryCells.newEntry tb a .none (rawInt L) .none pl; setField (.ref e) 1 b) Q E s := by
  have eF : e ∉ (env :: l).filterMap (·.frame) := fun hm => by
    obtain ⟨_, o, ho, hn⟩ := fr.mem hm
    rw [hE] at ho
    cases ho
    exact hn _ rfl
  refine wpAny_bind (wpAny_frameOf_fun hfr fr hf fun h1 so => wpAny_bind (wpAny_entryPlaceOf fun pl hpl => ?_))
  unfold EntryCells.newEntry newFields
  refine wpAny_bind (wpAny_newObj_type ?_ (hpl.sizeOk5 _ _ _ _ _))
  have E1 : h1.get? e = some (exO C t tb) := (so.2.1 e eF).trans hE
  have st1 : B.StaysIn h1 := fun b o hb => (so.2.1 b fun hm => by rw [(fr.mem hm).1] at hb; cases hb).trans (st b o hb)
  have TE : h1.objs.size ≠ e := Nat.ne_of_gt (Heap.lt_size E1)
  generalize hN : ({ cls := .type "traceback", dict := none, data := .fields ([tb, .ref L, .none, rawInt L, .none] ++ (if pl.isEmpty then List.replicate 6 Value.none else pl)).toArray } : Obj) = nT
  have E2 : (h1.push nT).get? e = some (exO C t tb) := Heap.get?_push_of_some nT E1
  refine wpAny_setField (s := { s with heap := h1.push nT }) E2 rfl (by show 1 < 6; decide) (k _ ?_ ?_)
  all_goals
    have kp : ∀ b o, b ≠ e → h1.get? b = some o → ((h1.push nT).update e (Obj.mapFields (·.setIfInBounds 1 (Value.ref h1.objs.size)))).get? b = some o := fun b o hb q =>
      (Heap.get?_update_other _ _ (Ne.symm hb)).trans (Heap.get?_push_of_some nT q)
    have nrec : ∀ b o, s.heap.get? b = some o → (∀ vs, o.data ≠ .fields vs) → b ≠ e := fun b o hb hn q => by
      rw [q, hE] at hb
      cases hb
      exact hn _ rfl
  · have freed : nT.isFreed = false := by rw [← hN]; rfl
    refine ⟨fun b o hb => kp b o (fun q => by rw [q, ne] at hb; cases hb) (st1 b o hb), ne, fr.of_keeps fun b o hb hn => ?_, h1.objs.size, nT, _, Heap.get?_update_self _ E2 rfl, st1.fresh, TE,
      (Heap.get?_update_other _ _ (Ne.symm TE)).trans (Heap.get?_push_size h1 freed), by rw [← hN], by simp⟩
    obtain ⟨sl, q⟩ := so.2.2 b o hb
    exact ⟨_, kp b _ (nrec b o hb hn) q, rfl⟩
  · intro b o hb hn
    obtain ⟨sl, q⟩ := so.2.2 b o hb
    exact ⟨sl, kp b _ (nrec b o hb hn) q⟩
/-- a new exception is looked at by its own frame -/
theorem fx_note0 {Q : Unit → Shared → Prop} (hfr : A.frames = some (env :: l)) (hf : env.frame = some L) (st : B.StaysIn s.heap) (ne : B.get? e = none) (fr : s.heap.FunFrames B (env :: l))
    (hE : s.heap.get? e = some (exO C t .none)) (k : ∀ h', Fx B (env :: l) e C t (rawInt L) h' → s.heap.UpToSlots h' → Q () { s with heap := h' }) : wpAny M A (noteFrame (.ref e) env) Q E s := by
  unfold noteFrame
  simp only [hf]
  refine wpAny_bind (wpAny_field hE rfl (x := .none) rfl ?_)
  rw [if_neg (by decide)]
  exact fx_enter hfr hf st ne fr hE k
/-- one that comes from a callee -/
theorem fx_note {Q : Unit → Shared → Prop} (hfr : A.frames = some (env :: l)) (hf : env.frame = some L) (x : Fx B (env :: l) e C t .none s.heap)
    (k : ∀ h', Fx B (env :: l) e C t (rawInt L) h' → s.heap.UpToSlots h' → Q () { s with heap := h' }) : wpAny M A (noteFrame (.ref e) env) Q E s := by
  obtain ⟨st, ne, fr, T, oT, ts, hE, hBT, hTe, hT, hdT, h3⟩ := x
  unfold noteFrame
  simp only [hf]
  refine wpAny_bind (wpAny_field hE rfl (x := .ref T) rfl ?_)
  rw [if_pos (show (Value.ref T != Value.none) = true by simp)]
  refine wpAny_bind (wpAny_field hT hdT h3 ?_)
  rw [if_neg (show ¬ ((Value.none == rawInt L) = true) by simp [rawInt])]
  refine wpAny_bind (wpAny_setField hT hdT (Array.getElem?_eq_some_iff.mp h3).1 ?_)
  have oth : ∀ b, b ≠ T → (s.heap.update T (Obj.mapFields (·.setIfInBounds 3 Value.none))).get? b = s.heap.get? b := fun b hb => Heap.get?_update_other _ _ (Ne.symm hb)
  have nrec : ∀ b o, s.heap.get? b = some o → (∀ vs, o.data ≠ .fields vs) → b ≠ T := fun b o hb hn q => by
    rw [q, hT] at hb
    cases hb
    exact hn ts hdT
  exact fx_enter (s := { s with heap := s.heap.update T (Obj.mapFields (·.setIfInBounds 3 Value.none)) }) hfr hf (fun b o hb => (oth b fun q => by rw [q, hBT] at hb; cases hb).trans (st b o hb)) ne
    (fr.of_keeps fun b o hb hn => ⟨o, (oth b (nrec b o hb hn)).trans hb, rfl⟩) ((oth e (Ne.symm hTe)).trans hE)
    fun h' y u => k h' y fun b o hb hn => u b o ((oth b (nrec b o hb hn)).trans hb) hn
end
end L2

set_option Elab.async false
set_option linter.all false
set_option maxRecDepth 100000
namespace L2
open PySem PySem.Spec PyProof.Rows

section
variable {M : Model} {A : Around} {E : Value → Shared → Prop} {s : Shared} {B : Heap} {env : Env} {l : List Env} {e C t L : Addr}
/-- the flight's mark is set -/
theorem fx_flight {fl : Value} {f : Option Addr} {Q : Unit → Shared → Prop} (x : Fx B l e C t fl s.heap) (k : ∀ h', Fx B l e C t (f.elim Value.none fun f => rawInt f) h' → s.heap.UpToSlots h' → Q () { s with heap := h' }) : wpAny M A (setFlight (.ref e) f) Q E s := by
  obtain ⟨st, ne, fr, T, oT, ts, hE, hBT, hTe, hT, hdT, h3⟩ := x
  have h3s : 3 < ts.size := (Array.getElem?_eq_some_iff.mp h3).1
  unfold setFlight
  refine wpAny_bind (wpAny_field hE rfl (x := .ref T) rfl ?_)
  rw [if_pos (show (Value.ref T != Value.none) = true by simp)]
  refine wpAny_setField hT hdT h3s (k _ ?_ ?_)
  all_goals
    have oth : ∀ b, b ≠ T → (s.heap.update T (Obj.mapFields (·.setIfInBounds 3 (f.elim Value.none fun f => rawInt f)))).get? b = s.heap.get? b := fun b hb => Heap.get?_update_other _ _ (Ne.symm hb)
    have nrec : ∀ b o, s.heap.get? b = some o → (∀ vs, o.data ≠ .fields vs) → b ≠ T := fun b o hb hn q => by
      rw [q, hT] at hb
      cases hb
      exact hn ts hdT
  · refine ⟨fun b o hb => (oth b fun q => by rw [q, hBT] at hb; cases hb).trans (st b o hb), ne, fr.of_keeps fun b o hb hn => ⟨o, (oth b (nrec b o hb hn)).trans hb, rfl⟩, T, _, _, (oth e (Ne.symm hTe)).trans hE, hBT, hTe,
      Heap.get?_update_self _ hT (Obj.isFreed_of_fields (Obj.data_mapFields hdT _)), Obj.data_mapFields hdT _, ?_⟩
    simp [h3s]
  · exact fun b o hb hn => ⟨o.slots, (oth b (nrec b o hb hn)).trans hb⟩
/-- the frame has looked at it already -/
theorem fx_noteN {Q : Unit → Shared → Prop} (hf : env.frame = some L) (x : Fx B l e C t (rawInt L) s.heap) (k : Q () s) : wpAny M A (noteFrame (.ref e) env) Q E s := by
  obtain ⟨st, ne, fr, T, oT, ts, hE, hBT, hTe, hT, hdT, h3⟩ := x
  unfold noteFrame
  simp only [hf]
  refine wpAny_bind (wpAny_field hE rfl (x := .ref T) rfl ?_)
  rw [if_pos (show (Value.ref T != Value.none) = true by simp)]
  refine wpAny_bind (wpAny_field hT hdT h3 ?_)
  rw [if_pos (show ((rawInt L == rawInt L) = true) by simp)]
  exact wpAny_pure k
end

/-! ### what an exception leaves behind: B (all but the frames) holds the abstract heap -/
structure Bk (P : Program) (w : World) (outer : List Env) (H : Hp) (h : Heap) (H' : Hp) (B h' : Heap) : Prop where
  ok : HOk P w H' B
  keep : ∀ b o, h.get? b = some o → H b = none → b ∉ frs outer → B.get? b = some o
  slot : ∀ b o, h.get? b = some o → b ∈ frs outer → ∃ sl, h'.get? b = some { o with slots := sl }
  free : ∀ b o, h.get? b = some o → H b = none → H' b = none
  there : ∀ b o, h.get? b = some o → b ∉ frs outer → ∃ o', B.get? b = some o'
  tups : ∀ b xs, H b = some (.tup xs) → H' b = some (.tup xs)
  frzs : ∀ b o u, H b = some (.frz o u) → H' b = some (.frz o u)
  tbls : ∀ b ps, H b = some (.tbl ps) → ∃ more, H' b = some (.tbl (ps ++ more))
theorem Bk.slots {P : Program} {w : World} {outer : List Env} {H H' : Hp} {h B h1 h2 : Heap} (k : Bk P w outer H h H' B h1) (fr : h1.FunFrames B outer) (u : h1.UpToSlots h2) : Bk P w outer H h H' B h2 :=
  ⟨k.ok, k.keep, fun b o q hb => by
    obtain ⟨sl, e⟩ := k.slot b o q hb
    obtain ⟨_, o2, e2, n2⟩ := fr.mem hb
    rw [e] at e2
    cases e2
    obtain ⟨sl2, e3⟩ := u b _ e n2
    exact ⟨sl2, e3⟩, k.free, k.there, k.tups, k.frzs, k.tbls⟩
/-- behind a call that raised -/
def CX1 (P : Program) (w : World) : CXT := fun outer H s E e s' => ∃ ea C t H' B, e = .ref ea ∧ Fx B outer ea C t .none s'.heap ∧ s'.os = s.os ∧ AllBare s'.gens ∧ Bk P w outer H s.heap H' B s'.heap ∧ E (.ref C) none H'
/-- how an exception lies in a body -/
inductive Fly (B : Heap) (l : List Env) (L ea C t : Addr) (h : Heap) : Prop where
  | new (st : B.StaysIn h) (ne : B.get? ea = none) (fr : h.FunFrames B l) (ob : h.get? ea = some (exO C t .none))
  | came (x : Fx B l ea C t .none h)
  | seen (x : Fx B l ea C t (rawInt L) h)
theorem Fly.fr {B : Heap} {l : List Env} {L ea C t : Addr} {h : Heap} (x : Fly B l L ea C t h) : h.FunFrames B l := by
  cases x with
  | new st ne fr ob => exact fr
  | came x => exact x.fr
  | seen x => exact x.fr
def FlX (X : Cx) (E : XK) : Value → Shared → Prop := fun e s' => ∃ ea C t H' B, e = .ref ea ∧ Fly B X.stack X.env.locals ea C t s'.heap ∧ s'.os = X.s₀.os ∧ AllBare s'.gens ∧ Bk X.prog X.w X.outer X.H₀ X.s₀.heap H' B s'.heap ∧ E (.ref C) none H'
/-- a body, not a comprehension's block -/
structure Body (X : Cx) : Prop where
  stack : X.stack = X.env :: X.outer
  frame : X.env.frame = some X.env.locals
  ex : X.ex = []

section
variable {X : Cx} {pins : List (Addr × Obj)} {σ : St} {H : Hp} {s s' : Shared} {E : XK} {e : Value}
theorem Inv.frsN (I : Inv X pins σ H s) {b : Addr} {o : Obj} (q : X.s₀.heap.get? b = some o) (hb : b ∉ X.fs) : b ∉ frs X.stack := fun hm => by
  rcases List.mem_cons.mp (I.stkSub b hm) with z | z
  · rw [z] at q
    exact absurd (Nat.lt_of_lt_of_le (Heap.lt_size q) I.ok.above) (Nat.lt_irrefl _)
  · exact hb z
/-- an exception of a callee -/
theorem passX (hB : Body X) (I : Inv X pins σ H s) (c : CX1 X.prog X.w X.stack H s E e s') : FlX X E e s' := by
  obtain ⟨ea, C, t, H', B, rfl, fx, os, bare, bk, q⟩ := c
  have nx : ∀ b : Addr, b ∉ X.ex := fun b z => by rw [hB.ex] at z; exact nomatch z
  have fsS : ∀ b, b ∈ X.fs → b ∈ frs X.stack := fun b hb => by
    rw [hB.stack]; unfold frs; rw [List.filterMap_cons, hB.frame]; exact List.mem_cons_of_mem _ hb
  refine ⟨ea, C, t, H', B, rfl, .came fx, os.trans I.os, bare, ⟨bk.ok, fun b o e n hb => ?_, fun b o e hb => ?_, fun b o e n => ?_, fun b o e hb => ?_, fun b xs e => bk.tups b xs (I.base.tups b xs e), fun b o u e => bk.frzs b o u (I.base.frzs b o u e), fun b ps e => ?_⟩, q⟩
  · exact bk.keep b o (I.base.keep b o e n hb (nx b)) (I.base.free b o e n (nx b)) (I.frsN e hb)
  · obtain ⟨sl, e1⟩ := I.base.slot b o e (I.ok.frf b hb) hb (nx b)
    obtain ⟨sl2, e2⟩ := bk.slot b _ e1 (fsS b hb)
    exact ⟨sl2, e2⟩
  · obtain ⟨o', e1⟩ := I.base.there b o e (nx b)
    exact bk.free b o' e1 (I.base.free b o e n (nx b))
  · obtain ⟨o', e1⟩ := I.base.there b o e (nx b)
    exact bk.there b o' e1 (I.frsN e hb)
  · obtain ⟨m1, e1⟩ := I.base.tbls b ps e
    obtain ⟨m2, e2⟩ := bk.tbls b _ e1
    exact ⟨m1 ++ m2, by rw [e2, Array.append_assoc]⟩
/-- an exception made here -/
theorem madeX {h' : Heap} {ea C : Addr} {vs : List Value} (hB : Body X) (I : Inv X pins σ H s) (hx : Heap.MadeExcOf s.heap h' ea (.ref C) vs) (q : E (.ref C) none H) : FlX X E (.ref ea) { s with heap := h' } := by
  obtain ⟨t, ht, _, _⟩ := hx.there
  have nx : ∀ b : Addr, b ∉ X.ex := fun b z => by rw [hB.ex] at z; exact nomatch z
  have nfr : ∀ b u, H b = some u → b ∉ frs X.stack := fun b u e hm => by rw [I.stkFree b hm] at e; cases e
  refine ⟨ea, C, t, H, PySem.W.hideAll s.heap (frs X.stack), rfl, .new (fun b o e => hx.keeps b o (PySem.W.of_hideAll _ e)) ?_ ?_ ht, I.os, I.bare, ⟨fun b u e => ?_, fun b o e n hb => ?_, fun b o e hb => ?_, fun b o e n => I.base.free b o e n (nx b), fun b o e hb => ?_, I.base.tups, I.base.frzs, I.base.tbls⟩, q⟩
  · cases z : (PySem.W.hideAll s.heap (frs X.stack)).get? ea with
    | none => rfl
    | some o =>
      have := PySem.W.of_hideAll _ z
      rw [hx.new] at this
      cases this
  · exact (PySem.W.funFrames_hide I.stack fun env he a ha => List.mem_filterMap.mpr ⟨env, he, ha⟩).of_keeps fun b o hb _ => ⟨o, hx.keeps b o hb, rfl⟩
  · refine (I.hok b u e).stay (fun c v hc z => PySem.W.hideAll_get _ z ?_) (fun _ z => z) fun _ _ z => z
    rcases hc with z | z
    · rw [z]; exact nfr b u e
    · exact nfr c _ z
  · exact PySem.W.hideAll_get _ (I.base.keep b o e n hb (nx b)) (I.frsN e hb)
  · obtain ⟨sl, e1⟩ := I.base.slot b o e (I.ok.frf b hb) hb (nx b)
    exact ⟨sl, hx.keeps _ _ e1⟩
  · obtain ⟨o', e1⟩ := I.base.there b o e (nx b)
    exact ⟨o', PySem.W.hideAll_get _ e1 (I.frsN e hb)⟩
/-- the frame looks at it -/
theorem noteX {M : Model} {Q : Unit → Shared → Prop} {E' : Value → Shared → Prop} {B : Heap} {ea C t : Addr} (hB : Body X) (hfr : X.A.frames = some X.stack) (x : Fly B X.stack X.env.locals ea C t s.heap)
    (k : ∀ h', Fx B X.stack ea C t (rawInt X.env.locals) h' → s.heap.UpToSlots h' → Q () { s with heap := h' }) : wpAny M X.A (noteFrame (.ref ea) X.env) Q E' s := by
  rw [hB.stack] at x hfr k
  cases x with
  | new st ne fr ob => exact fx_note0 hfr hB.frame st ne fr ob k
  | came x => exact fx_note hfr hB.frame x k
  | seen x => exact fx_noteN hB.frame x (k s.heap x (.refl _))
theorem frs_sub (hB : Body X) {B h : Heap} (x : h.FunFrames B X.stack) : h.FunFrames B X.outer := by
  rw [hB.stack] at x
  exact x.2.2
/-- it leaves the frame -/
theorem leaveX {M : Model} {E' : Value → Shared → Prop} (hB : Body X) (hfr : X.A.frames = some X.stack) (c : FlX X E e s) : wpAny M X.A (leaving X.env e) (fun _ s'' => CX1 X.prog X.w X.outer X.H₀ X.s₀ E e s'') E' s := by
  obtain ⟨ea, C, t, H', B, rfl, fx, os, bare, bk, q⟩ := c
  unfold leaving
  refine wpAny_bind (noteX hB hfr fx fun h1 x1 u1 => fx_land (s := { s with heap := h1 }) x1 fun h2 x2 u2 => ?_)
  have x3 := x2
  rw [hB.stack] at x3
  exact ⟨ea, C, t, H', B, rfl, x3.outer, os, bare, bk.slots (frs_sub hB fx.fr) (u1.trans u2), q⟩
/-- .. and may be passed on within it -/
theorem ownX (hB : Body X) (hfr : X.A.frames = some X.stack) : PassesOwn (model X.prog X.w) X.A X.env (FlX X E) := by
  rintro e s ⟨ea, C, t, H', B, rfl, fx, os, bare, bk, q⟩
  unfold notedBy
  refine noteX hB hfr fx fun h1 x1 u1 => ?_
  obtain ⟨T, oT, ts, hE, _⟩ := x1.ob
  unfold cameBackBy
  refine wpAny_bind (wpAny_field (s := { s with heap := h1 }) hE rfl (x := .ref T) rfl ?_)
  rw [if_neg (by simp)]
  refine fx_flight (s := { s with heap := h1 }) (f := X.env.frame) x1 fun h2 x2 u2 => ?_
  rw [hB.frame] at x2
  exact ⟨ea, C, t, H', B, rfl, .seen x2, os, bare, bk.slots (frs_sub hB fx.fr) (u1.trans u2), q⟩
end
end L2

set_option Elab.async false
set_option linter.all false
set_option maxRecDepth 100000
namespace L2
open PySem PySem.Spec PyProof.Rows

/-! ### own exception classes -/
def mroK (K : PySem.W.Frag) (C : Addr) : List Value := match K.lookup C with
  | some ⟨_, _, .cls cd, _⟩ => cd.mro
  | _ => []
theorem exc_obj {K : PySem.W.Frag} {h : Heap} {C : Addr} {bmB : List Value} {nid : String} (X : K.In h) (q : PySem.W.excIn K C bmB nid = true) :
    ∃ bm N nm qn bs hdct sn sub ab col dd k0 k1 k2 k3 k5 mN, mroK K C = .ref C :: bm ∧ h.get? C = some (excClassObj nm qn C N bs bm hdct sn sub ab col dd k0 k1 k2 k3 k5 nid) ∧ h.Ns N mN ∧ mN "__init__" = none ∧ OwnTail h bmB bm := by
  unfold PySem.W.excIn at q
  split at q
  next dd cd sl ho =>
    split at q
    next C' bm k0 k1 k2 k3 n k5 hm hs =>
      have hM : mroK K C = cd.mro := by unfold mroK; rw [ho]
      simp only [Bool.and_eq_true, beq_iff_eq, Bool.not_eq_true'] at q
      obtain ⟨⟨⟨⟨⟨q1, q2⟩, hdel⟩, ht⟩, hok⟩, hni⟩ := q
      subst q1 q2
      have hsl : sl = #[k0, k1, k2, k3, some (.builtin n), k5] := by rw [← hs]
      rw [hm] at hM
      cases cd
      dsimp only at hm hdel hok hni
      subst hm hdel hsl
      exact ⟨bm, _, _, _, _, _, _, _, _, _, dd, k0, k1, k2, k3, k5, _, hM, X _ _ ho, .of_isNs (PySem.W.isNs_of_in X hok), PySem.W.nsMap_none_of_in X hok hni, PySem.W.tail_of_in X ht⟩
    next => cases q
  next => cases q

/-! ### raise C(e, ..) -/
def tRaise (C : Addr) (E : XK) (t : TA) : TS := fun _ σ H => t σ H fun vs H1 => vs.length ≤ sizeLine ∧ E (.ref C) none H1
section
variable {X : Cx} {x : Str} {C : Addr} {bmB bmN : List Value} {B Bn nid nid' iid iid' : String} {E : XK} {e : Expr} {es : List Expr} {t : TA} {np cpos pos : Pos}
theorem ps_raise (hB : Body X) (hc : X.calm = true) (hw : ∀ e s', FlX X E e s' → X.xe e s') (Fn : ExcBaseFacts Bn nid iid bmN) (hn : bmB.contains (.type Bn) = true) (FB : ExcBaseFacts B nid' iid' bmB) (q : PySem.W.excIn X.K C bmB nid = true) (hg : Gl X x) (hm : X.mg x = some (.ref C)) (ha : PA X.nox (e :: es) t)
    (hd : (x == ("__debug__" : Str)) = false := by decide) (he : starEach (e :: es) X.env = (false, eval e X.env) :: starEach es X.env := by rfl) (hpl : (backTo cpos (starEach es X.env)).any (·.1) = false := by rfl) :
    PS X (.Raise (some (.Call (.Name x np) (e :: es) [] cpos)) none pos) (tRaise C E t) := by
  intro pins s σ H D I h
  obtain ⟨bm, N, nm, qn, bs, hdct, sn, sub, ab, col, dd, k0, k1, k2, k3, k5, mN, _, hC, hN, hni, T⟩ := exc_obj I.ok.mod.kin q
  refine wpAny_Raise_call_subU (N := N) (C := C) (k5 := k5) (k3 := k3) (k2 := k2) (k1 := k1) (k0 := k0) (dd := dd) (col := col) (ab := ab) (sub := sub) (sn := sn) (hdct := hdct) (bs := bs) (q := qn) (nm := nm) (newId := nid) Fn hn FB (mN := mN) (T.hasType FB.hasBase) (I.ok.hd hc) (by rw [he]; show (false || (backTo cpos (starEach es X.env)).any (·.1)) = false; rw [hpl]; rfl) hni (ld_glob I hg hm ⟨rfl, ?_⟩ hd)
  have h1 := ha cpos pins s σ H _ (I.wish _) h
  rw [he] at h1 ⊢
  refine Calls.evalArgs_plain (wpAny_mono h1 (fun us s2 z => ?_) fun _ _ z => z.elim)
  obtain ⟨vs, H1, I1, r, hl, hE⟩ := z
  have I2 : Inv X pins σ H1 s2 := I1.unwish
  exact ⟨rfl, by rw [← r.length]; exact hl, I2.bk _ _ hC, hN.keeps I2.bk, T.keeps I2.bk, fun h' ea hx => hw _ _ (madeX hB I2 hx hE)⟩
end

/-! ### a def whose exceptions matter -/
abbrev cx1 (P : Program) (w : World) (K : PySem.W.Frag) (mg : Str → Option Value) (base : Heap) (N : List Str) (qual : Str) (scope : Scope) (f : Addr) (cd : Value) (A : Around) (outer : List Env) (s : Shared) (H : Hp) (E : XK) : Cx :=
  (cxOf (CX1 P w) P w K mg base N qual scope f cd A outer s H E).wish (FlX (cxOf (CX1 P w) P w K mg base N qual scope f cd A outer s H E) E)
section
variable {P : Program} {w : World} {K : PySem.W.Frag} {mg : Str → Option Value} {base : Heap}
theorem body1 {N : List Str} {qual : Str} {scope : Scope} {f : Addr} {cd : Value} {A : Around} {outer : List Env} {s : Shared} {H : Hp} {E : XK} : Body (cx1 P w K mg base N qual scope f cd A outer s H E) := ⟨rfl, rfl, rfl⟩
theorem Fun.okX {x qual : Str} {st : Stmt} {f : Addr} {fd : FuncData} {N ps : List Str} {k : Nat} {sp : Sp} (F : Fun K x qual st f fd) (S : FnScope N ps (defScope st)) (len : ∀ vs H Q E, sp vs H Q E → vs.length = ps.length)
    (hbody : ∀ (cdv : Value) (A : Around) (outer : List Env) (s : Shared) (H : Hp) (vs : List V) (Q : VK) (E : XK), Room k (A.deeper (envOfC qual (defScope st) s.heap.objs.size f cdv)) → sp vs H Q E →
      ∃ t, PSs (cx1 P w K mg base N qual (defScope st) f cdv A outer s H E) (defBody st) t ∧ t { nx := fun _ H' => Q .non H', rt := Q } (start N vs) H) : FnOk P w K mg base (CX1 P w) (k + 1) f fd ps sp := by
  obtain ⟨oc, od, kV, doc, pm, an, cdv, ct, osl, rfl, lk, hcd⟩ := F.ex
  refine fn_of lk hcd S len fun A outer s H vs Q E hr hsp => ?_
  obtain ⟨t, h, q⟩ := hbody cdv A outer s H vs Q E hr hsp
  refine ⟨t, fun pins s1 σ H1 D I h1 => ?_, q⟩
  exact wpAny_mono (h pins s1 σ H1 D (I.wish _) h1) (fun _ _ z => z.unwish) fun e s' z => leaveX (X := cxOf (CX1 P w) P w K mg base N qual (defScope st) f cdv A outer s H E) ⟨rfl, rfl, rfl⟩ I.ok.frames z
/-- the exceptions of a callee of the same wish -/
theorem pass1 {N : List Str} {qual : Str} {scope : Scope} {f : Addr} {cd : Value} {A : Around} {outer : List Env} {s : Shared} {H : Hp} {E : XK} :
    Passes (CX1 P w) (cx1 P w K mg base N qual scope f cd A outer s H E) E := fun _ _ _ _ _ _ I c => passX ⟨rfl, rfl, rfl⟩ I.unwish c
end
theorem PS.nox {X : Cx} {st : Stmt} {t : TS} (h : PS X.nox st t) : PS X st t := fun pins s σ H D I hw =>
  wpAny_mono (h pins s σ H D (I.wish _) hw) (fun _ _ q => q.unwish) fun _ _ z => False.elim z

/-! ### an expression that may raise, tried -/
def PEX (X : Cx) (e : Expr) (t : XK → TE) : Prop := ∀ (pins : List (Addr × Obj)) (s : Shared) (σ : St) (H : Hp) (Q : VK) (E : XK), Inv X pins σ H s → t E σ H Q →
  wpAny (model X.prog X.w) X.A (eval e X.env) (EP X pins σ Q) (fun ex s' => ∃ H1 s1, Inv X pins σ H1 s1 ∧ CX1 X.prog X.w X.stack H1 s1 E ex s') s
section
variable {X : Cx} {k : Nat} {f C : Addr} {fd : FuncData} {ps : List Str} {sp : Sp} {dvs : List V} {ds : List Value} {x m : Str} {p pos apos : Pos} {e o : Expr} {es : List Expr} {ta : TE} {t : TA}
theorem run_fnX {pins : List (Addr × Obj)} {σ : St} {H : Hp} {s : Shared} {Q : VK} {E : XK} {us : List Value} {vs : List V} (F : FnOk X.prog X.w X.K X.mg X.base (CX1 X.prog X.w) k f fd ps sp) (hr : Room k X.A) (hb : Binds X.K fd ps ds) (hd : Vals dvs ds)
    (I : Inv X pins σ H s) (r : Vals vs us) (h : sp (vs ++ dvs) H Q E) : wpAny (model X.prog X.w) X.A (call (.ref f) us) (EP X pins σ Q) (fun ex s' => ∃ H1 s1, Inv X pins σ H1 s1 ∧ CX1 X.prog X.w X.stack H1 s1 E ex s') s := by
  have r2 : Vals (vs ++ dvs) (us ++ ds) := r.append hd
  have hl : (us ++ ds).length = ps.length := (r2.length.symm).trans (F.len _ _ _ _ h)
  refine wpAny_call (codeAny_mono (F.run X.A X.stack s H ⟨us, []⟩ (us ++ ds) (vs ++ dvs) Q E hr I.env0 (hb s us I.kIn hl) r2 h) fun rs s' hq => ?_)
  match rs, hq with
  | .error e, hq => exact ⟨H, s, I, hq⟩
  | .ok (.ret u), hq => exact I.after hq
  | .ok .next, hq => exact False.elim hq
  | .ok .brk, hq => exact False.elim hq
  | .ok .cont, hq => exact False.elim hq
theorem pex_call (F : FnOk X.prog X.w X.K X.mg X.base (CX1 X.prog X.w) k f fd ps sp) (hr : Room k X.A) (hg : Gl X x) (hm : X.mg x = some (.ref f)) (hk : PySem.W.keepIn X.K (.ref f) = true) (hb : Binds X.K fd ps ds) (hd : Vals dvs ds)
    (ha : PA X.nox (e :: es) t) (hdb : (x == ("__debug__" : Str)) = false := by decide) (he : starEach (e :: es) X.env = (false, eval e X.env) :: starEach es X.env := by rfl) (hpl : (backTo pos (starEach es X.env)).any (·.1) = false := by rfl) :
    PEX X (.Call (.Name x p) (e :: es) [] pos) fun E => tCall sp dvs E t := by
  intro pins s σ H Q E I h
  refine wpAny_Call_Name_kw (ld_glob I hg hm ?_ hdb)
  refine PySem.W.callWith_K (h₀ := X.base) I.ok.mod.kin hk (wpAny_mono (ha pos pins s σ H _ (I.wish _) h) (fun us s1 ⟨vs, H1, I1, r, q⟩ => ⟨I1.kIn, ?_⟩) fun _ _ z => z.elim) he hpl
  exact run_fnX F hr hb hd (I1.unwish) r q
end
end L2

set_option Elab.async false
set_option linter.all false
set_option maxRecDepth 100000
namespace L2
open PySem PySem.Spec PyProof.Rows

/-! ### an exception that was caught, as a tracked thing -/
def exH (C a : Addr) : HO := .ext fun h => ∃ t tb, h.get? a = some (exO C t tb)
theorem ObjOk.get {P : Program} {w : World} {H : Hp} {h : Heap} {a : Addr} {o : HO} (x : ObjOk P w H h a o) : ∃ u, h.get? a = some u := by
  induction o with
  | lst xs => obtain ⟨_, _, _, _, e⟩ := x; exact ⟨_, e⟩
  | tup xs => obtain ⟨_, _, _, _, e, _⟩ := x; exact ⟨_, e⟩
  | dK kvs => obtain ⟨_, _, _, _, _, _, _, e, _⟩ := x; exact ⟨_, e⟩
  | dT kvs => obtain ⟨_, _, _, _, _, _, _, e, _⟩ := x; exact ⟨_, e⟩
  | set S n => obtain ⟨_, _, _, _, e, _⟩ := x; exact ⟨_, e⟩
  | ins C dx fs => obtain ⟨_, _, _, e, _⟩ := x; exact ⟨_, e⟩
  | own y => obtain ⟨_, e⟩ := x; exact ⟨_, e⟩
  | xd fs => obtain ⟨_, ⟨_, _, _, e, _⟩, _⟩ := x; exact ⟨_, e⟩
  | rng lo hi => obtain ⟨_, _, _, e⟩ := x; exact ⟨_, e⟩
  | frz ob u ih => obtain ⟨e, _⟩ := x; exact ⟨_, e⟩
  | tbl ps => exact ⟨_, x⟩
  | met f y => exact ⟨_, x⟩
  | ext φ => exact x.2.1
section
variable {X : Cx} {pins : List (Addr × Obj)} {σ : St} {H H' : Hp} {s s' : Shared} {B h2 : Heap} {ea C t : Addr} {fl : Value}
theorem Bk.none {P : Program} {w : World} {outer : List Env} {h h' : Heap} (k : Bk P w outer H h H' B h') (ne : B.get? ea = Option.none) : H' ea = Option.none := by
  cases q : H' ea with
  | none => rfl
  | some o =>
    obtain ⟨u, e⟩ := (k.ok ea o q).get
    rw [ne] at e
    cases e
theorem caughtI (I : Inv X pins σ H s) (os : s'.os = s.os) (bare : AllBare s'.gens) (bk : Bk X.prog X.w X.stack H s.heap H' B h2) (fx : Fx B X.stack ea C t fl h2) :
    Inv X pins σ (upd H' ea (exH C ea)) { s' with heap := h2 } := by
  have hn := bk.none fx.ne
  obtain ⟨T, oT, ts, hE, _⟩ := fx.ob
  have ne : ∀ b o, s.heap.get? b = some o → b ≠ ea := fun b o e z => by
    by_cases hb : b ∈ frs X.stack
    · obtain ⟨_, o2, e2, n2⟩ := fx.fr.mem hb
      rw [z, hE] at e2
      cases e2
      exact n2 _ rfl
    · obtain ⟨o', e1⟩ := bk.there b o e hb
      rw [z, fx.ne] at e1
      cases e1
  have nt : ∀ b u, H' b = some u → b ≠ ea := fun b u e z => by
    rw [z, hn] at e
    cases e
  obtain ⟨hh, g, d, tk, os'⟩ := s'
  obtain rfl : os' = s.os := os
  refine I.call (s := s) (h' := h2) (g' := g) (d' := d) (t' := tk) (ch := []) ⟨fun b o e n hb _ => fx.st _ _ (bk.keep b o e n hb), fun b o e n hb _ => bk.slot b o e hb, fun b o e n _ => ?_, fun b o e _ => ?_, fun b xs e => ?_, fun b o u e => ?_, fun b ps e => ?_⟩ (fun b u e => ?_) bare (fun b z => nomatch z)
  · rw [upd_ne (ne b o e)]
    exact bk.free b o e n
  · by_cases hb : b ∈ frs X.stack
    · obtain ⟨sl, e1⟩ := bk.slot b o e hb
      exact ⟨_, e1⟩
    · obtain ⟨o', e1⟩ := bk.there b o e hb
      exact ⟨o', fx.st _ _ e1⟩
  · have e1 := bk.tups b xs e
    rw [upd_ne (nt _ _ e1)]
    exact e1
  · have e1 := bk.frzs b o u e
    rw [upd_ne (nt _ _ e1)]
    exact e1
  · obtain ⟨m1, e1⟩ := bk.tbls b ps e
    exact ⟨m1, by rw [upd_ne (nt _ _ e1)]; exact e1⟩
  · by_cases hb : b = ea
    · subst hb
      rw [upd_same] at e
      cases e
      exact ⟨⟨t, _, hE⟩, ⟨_, hE⟩, fun h1 h3 ⟨t', tb', q⟩ k => ⟨t', tb', k _ q⟩⟩
    · rw [upd_ne hb] at e
      refine (bk.ok b u e).stay (fun c v _ q => fx.st _ _ q) (fun c q => ?_) fun c xs q => ?_
      · rw [upd_ne (nt _ _ q)]; exact q
      · rw [upd_ne (nt _ _ q)]; exact q

/-! ### the handler's context -/
abbrev Cx.hdl (X : Cx) (e : Addr) : Cx := { X with A := X.A.mark (some (.ref e)), calm := false, xe := fun _ _ => False }
theorem Inv.hdl (I : Inv X pins σ H s) (e : Addr) : Inv (X.hdl e) pins σ H s :=
  ⟨⟨I.ok.mod, I.ok.kind, I.ok.glob, I.ok.blt, I.ok.above, I.ok.inj, I.ok.has, I.ok.cab, (fun z => nomatch z), I.ok.frames, I.ok.stk, I.ok.exf, I.ok.bs, I.ok.bsz, I.ok.noex, I.ok.exfs, I.ok.funs, I.ok.frf⟩, I.os, I.bare, I.base, I.loc, I.cell, I.free, I.freeC, I.pin, I.hok, I.len⟩
theorem Inv.unhdl {e : Addr} (hd : X.calm = true → X.A.handled = none) (I : Inv (X.hdl e) pins σ H s) : Inv X pins σ H s :=
  ⟨⟨I.ok.mod, I.ok.kind, I.ok.glob, I.ok.blt, I.ok.above, I.ok.inj, I.ok.has, I.ok.cab, hd, I.ok.frames, I.ok.stk, I.ok.exf, I.ok.bs, I.ok.bsz, I.ok.noex, I.ok.exfs, I.ok.funs, I.ok.frf⟩, I.os, I.bare, I.base, I.loc, I.cell, I.free, I.freeC, I.pin, I.hok, I.len⟩
/-- the name of the exception goes -/
theorem Inv.forget {n : Str} {j : Nat} {m : Str → Option Value} {v : Option Value} {tk : Nat} {h' : Heap} (I : Inv X pins σ H s) (hN : X.N.Nodup) (hj : X.N[j]? = some n) (hn : s.heap.Ns X.env.locals m)
    (hm : ∀ (i : Nat) (x : Str) (v : V), X.N[i]? = some x → σ[i]? = some (some v) → Vis X.env.scope x → ∃ u, RelV v u ∧ Look X.env s.heap m x u) (hn' : h'.Ns X.env.locals (fun x => if x = n then v else m x)) (hs : Heap.SameBut X.env.locals s.heap h') :
    Inv X pins (σ.set j none) H { s with heap := h', toks := tk } := by
  obtain ⟨oL, _, _, hoL, _⟩ := id hn
  have neL : ∀ b o, X.s₀.heap.get? b = some o → b ≠ X.env.locals := fun b o e => Nat.ne_of_lt (Nat.lt_of_lt_of_le (Heap.lt_size e) I.ok.above)
  refine ⟨I.ok, I.os, I.bare, ⟨fun b o e n hb hx => ?_, fun b o e n hb hx => ?_, I.base.free, fun b o e hx => ?_, I.base.tups, I.base.frzs, I.base.tbls⟩, ⟨_, hn', fun i y w e1 e2 e3 => ?_⟩, fun y c e => ?_, I.free, I.freeC, fun p hp => ?_, fun b u e => ?_, by rw [List.length_set]; exact I.len⟩
  · exact (hs.2 b (neL b o e)).trans (I.base.keep b o e n hb hx)
  · obtain ⟨sl, e1⟩ := I.base.slot b o e n hb hx
    exact ⟨sl, (hs.2 b (neL b o e)).trans e1⟩
  · obtain ⟨o', e1⟩ := I.base.there b o e hx
    exact ⟨o', (hs.2 b (neL b o e)).trans e1⟩
  · by_cases hij : i = j
    · subst hij
      rw [List.getElem?_set] at e2
      split at e2
      · split at e2 <;> cases e2
      · exact absurd rfl ‹_›
    · rw [List.getElem?_set_ne (Ne.symm hij)] at e2
      obtain ⟨u, r, l⟩ := hm i y w e1 e2 e3
      refine ⟨u, r, ?_⟩
      rcases l with ⟨k, z⟩ | ⟨k, c, z, y'⟩
      · have : y ≠ n := fun q => hij (nodup_ix hN e1 (q ▸ hj))
        exact .inl ⟨k, by simp [this, z]⟩
      · exact .inr ⟨k, c, z, y'.sameBut hs (I.cne y c z)⟩
  · obtain ⟨v', z⟩ := I.cell y c e
    exact ⟨v', z.sameBut hs (I.cne y c e)⟩
  · obtain ⟨e, n1, n2, nf, d⟩ := I.pin p hp
    exact ⟨(hs.2 p.1 n2).trans e, n1, n2, nf, d⟩
  · refine (I.hok b u e).stay (fun c w' hc q => (hs.2 c ?_).trans q) (fun _ q => q) fun _ _ q => q
    rintro rfl
    rcases hc with z | z
    · rw [← z, I.free] at e; cases e
    · rw [I.free] at z; cases z
end
end L2

set_option Elab.async false
set_option linter.all false
set_option maxRecDepth 100000
namespace L2
open PySem PySem.Spec PyProof.Rows

section
variable {M : Model} {A : Around} {E : Value → Shared → Prop} {h : Heap} {g : Array GenState} {d : Drawn} {t : Nat} {os : OsState}
/-- is it caught by a class of one's own? -/
theorem exc_matches {K : PySem.W.Frag} {C D e : Addr} {bC bD : List Value} {nC nD : String} {oe : Obj} {Q : Bool → Shared → Prop} (X : K.In h) (qC : PySem.W.excIn K C bC nC = true) (qD : PySem.W.excIn K D bD nD = true)
    (hb : bD.contains (.type "BaseException") = true) (he : h.get? e = some oe) (hc : oe.cls = .ref C) (hq : Q ((mroK K C).contains (.ref D)) ⟨h, g, d, t, os⟩) : wpAny M A (excMatches (.ref e) (.ref D)) Q E ⟨h, g, d, t, os⟩ := by
  obtain ⟨bm1, _, _, _, _, _, _, _, _, _, _, _, _, _, _, _, _, e1, hC, _, _, T1⟩ := exc_obj X qC
  obtain ⟨bm2, _, _, _, _, _, _, _, _, _, _, _, _, _, _, _, _, _, hD, _, _, T2⟩ := exc_obj X qD
  have hcB : (Value.ref D :: bm2).contains (.type "BaseException") = true := by rw [List.contains_cons, T2.hasType hb, Bool.or_true]
  have f := tc_notTuple
  rw [e1] at hq
  unfold excMatches
  repeat (first | (with_reducible refine wpAny_loadPart_at he ?_; rw [hc]) | with_reducible refine wpAny_loadPart_at hD ?_ | (with_reducible refine wpAny_isSubtype_exc hD ?_; rw [hcB]) | with_reducible refine wpAny_isSubtype_exc hC ?_ | wp_step)
  all_goals (revert hq; cases (Value.ref C :: bm1).contains (Value.ref D) <;> intro hq)
  all_goals (repeat (first | exact hq | wp_step))
end

/-! ### a statement that may raise, tried: where it raises the names are as they were -/
abbrev WX (X : Cx) (pins : List (Addr × Obj)) (σ : St) (E : XK) : Value → Shared → Prop := fun ex s' => ∃ H1 s1, Inv X pins σ H1 s1 ∧ CX1 X.prog X.w X.stack H1 s1 E ex s'
def PSX (X : Cx) (st : Stmt) (t : XK → TS) : Prop := ∀ (pins : List (Addr × Obj)) (s : Shared) (σ : St) (H : Hp) (D : Ends) (E : XK), Inv X pins σ H s → t E D σ H → wpAny (model X.prog X.w) X.A (exec st X.env) (SP X pins D) (WX X pins σ E) s
def PSXs (X : Cx) (st : List Stmt) (t : XK → TS) : Prop := ∀ (pins : List (Addr × Obj)) (s : Shared) (σ : St) (H : Hp) (D : Ends) (E : XK), Inv X pins σ H s → t E D σ H → wpAny (model X.prog X.w) X.A (execs st X.env) (SP X pins D) (WX X pins σ E) s
section
variable {X : Cx} {e : Expr} {t u : XK → TS} {te : XK → TE} {pos : Pos} {st : Stmt}
theorem psxs_one (h : PSX X st t) : PSXs X [st] t := by
  intro pins s σ H D E I h1
  refine wpAny_execs_cons (thn (h pins s σ H D E I h1) fun f s1 q => ?_)
  match f, q with
  | .next, q => exact wpAny_execs_nil q
  | .brk, q => exact q
  | .cont, q => exact q
  | .ret u, q => exact q
theorem psx_expr (he : PEX X e te) (hs : swapsWith e none pos.line X.env = pure false := by rfl) : PSX X (.Expr e pos) fun E => tDrop (te E) := by
  intro pins s σ H D E I h
  exact wpAny_Expr_any (thn (he pins s σ H _ E I h) fun v s1 ⟨x, H1, I1, r1, q1⟩ => ⟨σ, H1, I1, q1⟩) I.quiet hs
/-! ### try: .. except D as n: .. -/
abbrev Ends.un (D : Ends) (j : Nat) : Ends := { nx := fun σ H => D.nx (σ.set j none) H, rt := D.rt, bk := fun σ H => D.bk (σ.set j none) H, ct := fun σ H => D.ct (σ.set j none) H }
/-- the class C is one that D's name catches -/
def Sub (K : PySem.W.Frag) (C D : Addr) : Prop := (∃ bm nid, PySem.W.excIn K C bm nid = true) ∧ (mroK K C).contains (.ref D) = true
def tTry (K : PySem.W.Frag) (Ch : Addr) (j : Nat) (t : XK → TS) (ts : TS) : TS := fun D σ H => t (fun c _ H' => ∃ C, c = .ref C ∧ Sub K C Ch ∧ ∀ ea, H' ea = none → ts (D.un j) (σ.set j (some (.ref ea))) (upd H' ea (exH C ea))) D σ H
theorem ps_try {body suite : List Stmt} {b₀ : Stmt} {ts : TS} {n x : Str} {j : Nat} {Ch : Addr} {bmB : List Value} {nid : String} {np hpos : Pos} (hB : Body X) (hc : X.calm = true) (hb : PSXs X body t) (hN : X.N.Nodup) (hj : X.N[j]? = some n)
    (hn : X.env.scope.names.lookup n = some .local) (hg : Gl X x) (hm : X.mg x = some (.ref Ch)) (hq : PySem.W.excIn X.K Ch bmB nid = true) (hbs : bmB.contains (.type "BaseException") = true) (hs : ∀ ea, PSs (X.hdl ea) (b₀ :: suite) ts)
    (hd : (x == ("__debug__" : Str)) = false := by decide) :
    PS X (.Try body [.ExceptHandler (some (.Name x np)) (some n) (b₀ :: suite) hpos] [] [] pos) (tTry X.K Ch j t ts) := by
  intro pins s σ H D I h
  refine wpAny_Try_except (wpAny_mono (hb pins s σ H D _ I h) (fun f s1 q => ?_) fun ex s1 z => ?_)
  · match f, q with
    | .next, q => exact wpAny_execs_nil q
    | .brk, q => exact q
    | .cont, q => exact q
    | .ret u, q => exact q
  · obtain ⟨H1, s0, I0, ea, C, t0, H', B, rfl, fx, os, bare, bk, C', eC, ⟨⟨bC, nC, qC⟩, sub⟩, ht⟩ := z
    obtain rfl : C = C' := by cases eC; rfl
    refine noteX hB I.ok.frames (.came fx) fun h1 x1 u1 => fx_land (s := { s1 with heap := h1 }) x1 fun h2 x2 u2 => ?_
    have bk2 := (bk.slots fx.fr u1).slots x1.fr u2
    have I2 : Inv X pins σ (upd H' ea (exH C ea)) { s1 with heap := h2 } := caughtI I0 os bare bk2 x2
    refine wpAny_handleBy_cons (codeAny_handlers_test (ld_glob (X := X.hdl ea) (I2.hdl ea) hg hm ?_ hd)) (by intro q; cases q)
    obtain ⟨T, oT, tt, hE, _⟩ := x2.ob
    refine exc_matches I2.kIn qC hq hbs hE rfl ?_
    rw [sub]
    refine codeAny_handlers_suite_as ?_
    refine fx_land (s := { s1 with heap := h2 }) x2 fun h3 x3 u3 => ?_
    have I3 : Inv X pins σ (upd H' ea (exH C ea)) { s1 with heap := h3 } := caughtI I0 os bare (bk2.slots x2.fr u3) x3
    refine store_ok (X := X.hdl ea) (I3.hdl ea) hN hj (.inl hn) (v := .ref ea) rfl (fun s4 I4 => ?_) (.inr hn)
    refine wpAny_mono (hs ea pins s4 _ _ _ I4 (ht ea (bk.none fx.ne))) (fun f s5 q => ?_) fun _ _ z => z.elim
    have go : ∀ {σ' : St} {H5 : Hp} {Q : Unit → Shared → Prop}, Inv (X.hdl ea) pins σ' H5 s5 → (∀ s6, Inv X pins (σ'.set j none) H5 s6 → Q () s6) → wpAny (model X.prog X.w) X.A (do bindName X.env n .none; unbindBehindTheSuite X.env n hpos) Q X.xe s5 := fun {σ' H5 Q} J k => by
      have J' : Inv X pins σ' H5 s5 := J.unhdl I.ok.hd
      obtain ⟨m, hns, hl⟩ := id J'.loc
      refine wpAny_nameGoes_keeps hn hns (by rw [I.ok.kind]; rfl) fun h6 v hn6 hs6 => k _ ?_
      exact J'.forget hN hj hns hl hn6 hs6
    match f, q with
    | .next, ⟨σ', H5, J, q⟩ => exact go J fun s6 J6 => ⟨_, H5, J6, q⟩
    | .brk, ⟨σ', H5, J, q⟩ => exact go J fun s6 J6 => ⟨_, H5, J6, q⟩
    | .cont, ⟨σ', H5, J, q⟩ => exact go J fun s6 J6 => ⟨_, H5, J6, q⟩
    | .ret u, ⟨v, σ', H5, J, r, q⟩ => exact go J fun s6 J6 => ⟨v, _, H5, J6, r, q⟩
end
end L2

set_option Elab.async false
set_option linter.all false
set_option maxRecDepth 100000
namespace L2
open PySem PySem.Spec PyProof.Rows

/-! ### an own exception class that was made of a built-in one: what is asked of its things -/
structure ExC (K : PySem.W.Frag) (C : Addr) : Prop where
  ga : PySem.W.findIn K (.ref C) "__getattribute__" = some (some (.builtin "BaseException.__getattribute__"))
  gt : PySem.W.findIn K (.ref C) "__getattr__" = some none
  cl : PySem.W.findIn K (.ref C) "__class__" = some (some (.builtin "object.__class__"))
  gc : PySem.W.specialIn K (.builtin "object.__class__") "__get__" = some (some (.builtin "getset_descriptor.__get__"))
  tk : PySem.W.takesIn K (.builtin "object.__class__") = some true
  ob : PySem.W.mroIn K C (.type "object") = some true
  be : PySem.W.mroIn K C (.type "BaseException") = some true
  is : (PySem.W.clsIn K C).isSome = true

theorem canon_bga : (Manifest.canonical "BaseException.__getattribute__" != "object.__getattribute__") = false := by decide +kernel
section
variable {prog : Program} {w : World} {A : Around} {E : Value → Shared → Prop} {s : Shared} {K : PySem.W.Frag} {x C t : Addr} {tb : Value}
theorem ex_inst {h : Heap} (hx : h.get? x = some (exO C t tb)) : PySem.W.InstAt h x (exO C t tb) C none := ⟨hx, rfl, rfl, True.intro⟩
/-- e.m, to be called -/
theorem ex_meth {m : Str} {f : Addr} {pl : Sem Bool} {Q : Value × List Value → Shared → Prop} (X : K.In s.heap) (hx : s.heap.get? x = some (exO C t tb)) (c : ExC K C) (hf : PySem.W.findIn K (.ref C) m = some (some (.ref f)))
    (ht : PySem.W.isFn K (.ref f) = true) (h : Q (.ref f, [.ref x]) s) : wpAny (model prog w) A (getMethod (.ref x) m pl) Q E s := by
  have I := ex_inst hx
  have hty : PySem.W.typeIn K (.ref f) = some (.type "function") := beq_iff_eq.mp ht
  unfold getMethod specialOf
  refine wpAny_bind (wpAny_bind (I.type.here ((PySem.W.looks_findIn X c.ga).here ?_)))
  dsimp only
  rw [canon_bga, if_neg Bool.false_ne_true]
  refine wpAny_bind (wpAny_bind (I.type.here ((PySem.W.looks_findIn X c.gt).here ?_)))
  refine wpAny_bind (wpAny_bind (I.type.here ((PySem.W.looks_findIn X hf).here (wpAny_bind ((PySem.W.looks_typeIn X hty).here ?_)))))
  rw [if_neg (by decide +kernel)]
  refine wpAny_bind (wpAny_loadPart hx ?_)
  exact wpAny_bind (wpAny_rule (wpAny_pure h))
/-- e.__class__ -/
theorem ex_class {Q : Option Value → Shared → Prop} (X : K.In s.heap) (hx : s.heap.get? x = some (exO C t tb)) (c : ExC K C) (h : Q (some (.ref C)) { s with toks := s.toks + 1 }) : wpAny (model prog w) A (getAttr? (.ref x) "__class__") Q E s := by
  have I := ex_inst hx
  obtain ⟨hh, g, d, tk, os⟩ := s
  have L0 : PySem.W.Looks (model prog w) hh (typeOf (.ref x)) (.ref C) := I.type
  have L1 := PySem.W.looks_findIn (M := model prog w) X c.ga
  have L2 := PySem.W.looks_findIn (M := model prog w) X c.gt
  have hfo : PySem.W.findObj K C none "__class__" = some (.bind (.builtin "getset_descriptor.__get__") (.builtin "object.__class__")) := by
    obtain ⟨cd, hc⟩ := Option.isSome_iff_exists.mp c.is
    unfold PySem.W.findObj
    rw [hc, Option.bind_some, c.cl, Option.bind_some]
    simp [c.gc, c.tk]
  have L3 := PySem.W.looks_find (M := model prog w) X I hfo
  have L4 : PySem.W.Looks (model prog w) hh (isInstance (.ref x) (.type "BaseException")) true := L0.andThen (PySem.W.looks_mroIn X c.be)
  have f3 := F.excAttr_ValueError.ga.bind (.ref x)
  unfold getAttr? getAttrBy? getAttrBy
  refine wpAny_bind (wpAny_mkText (wpAny_bind (wpAny_attempt (wpAny_holding (wpAny_bind (L0.at (wpAny_bind (L1.at ?_))))))))
  show wpAny _ _ (getAttrByItsOwn _ _ _ _ _ _) _ _ _
  unfold getAttrByItsOwn hookBefore
  rw [if_pos (show onTheHeap (Value.ref C) = true from rfl)]
  refine wpAny_bind (L2.at (wpAny_bind (wpAny_attempt (wpAny_holding ?_))))
  unfold callGetattribute
  rw [if_neg (show ¬ ((false && onTheHeap (Value.builtin "BaseException.__getattribute__")) = true) by simp)]
  unfold boundAndCalled
  rw [f3]
  refine wpAny_bind (wpAny_pure (wpAny_call (codeAny_call_builtin F.excAttr_ValueError.ga.plain F.entry_bexc_ga ?_)))
  have hk : builtinKind "BaseException.__getattribute__" = some .slot := by decide +kernel
  have hsp : splitId "BaseException.__getattribute__" = some ("BaseException", "__getattribute__") := by decide +kernel
  have ha := F.args_bexc_ga (.ref x) (.str "__class__" tk)
  simp only [checkBuiltinCall, hk, hsp]
  refine wpAny_bind (L4.at ?_)
  repeat (first | (with_reducible refine wpAny_bind (L0.at (wpAny_bind (L3.at ?_)))) | wp_step)
  refine PySem.W.class_get (s := ⟨hh, g, d, tk + 1, os⟩) (ox := exO C t tb) (od := none) X I c.ob ?_
  exact wpAny_pure (PySem.W.handed_on rfl (wpAny_pure h))
theorem kitx_exc (c : ExC K C) : PySem.W.KitX K (.ref x) (.ref C) (fun h => ∃ t tb, h.get? x = some (exO C t tb)) where
  ty := fun M h _ ⟨t, tb, e⟩ => (ex_inst e).type
  it := fun M h X _ => by
    obtain ⟨cd, hc⟩ := Option.isSome_iff_exists.mp c.is
    unfold PySem.W.clsIn at hc
    split at hc
    next ho =>
      intro A' Q' E' s' k q
      unfold isType loadHead
      exact wpAny_bind (wpAny_loadPart (k _ _ (X _ _ ho)) (wpAny_pure q))
    next => cases hc
  ne := fun h tp dd its n sl X htp => by
    obtain ⟨cd, hc⟩ := Option.isSome_iff_exists.mp c.is
    refine Bool.eq_false_iff.mpr fun q => ?_
    have e : C = tp := Value.ref.inj (beq_iff_eq.mp q)
    subst e
    unfold PySem.W.clsIn at hc
    split at hc
    next ho => cases (X _ _ ho).symm.trans htp
    next => cases hc
  ca := fun X ⟨t, tb, e⟩ k => ex_class X e c k
end

/-! ### isinstance(e, D) and e.m() of a caught one -/
def rIsX (K : PySem.W.Frag) : List V → Hp → VK → Prop := fun vs H Q => ∃ a C b, H a = some (exH C a) ∧ ExC K C ∧
  ((∃ n, vs = [.ref a, .ty n] ∧ PySem.W.kitOne K (.ref C) (.type n) = some b) ∨ (∃ D, vs = [.ref a, .ref D] ∧ PySem.W.kitOne K (.ref C) (.ref D) = some b)) ∧ Q (.bl b) H
section
variable {X : Cx} {K : PySem.W.Frag}
theorem ex_at {pins : List (Addr × Obj)} {σ : St} {H : Hp} {s : Shared} {a C : Addr} (I : Inv X pins σ H s) (e : H a = some (exH C a)) : ∃ t tb, s.heap.get? a = some (exO C t tb) := (I.hok a _ e).1
theorem call_isx (hK : X.K = K := by rfl) : CallR X (.builtin "isinstance") (rIsX K) := by
  subst hK
  intro pins s σ H xs us Q I rv h
  obtain ⟨a, C, b, ea, c, hv, q⟩ := h
  rcases hv with ⟨n, rfl, e⟩ | ⟨D, rfl, e⟩
  · obtain ⟨u1, u2, rfl, r1, r2⟩ := rv.two
    cases r1
    cases r2
    exact PySem.W.kia_one (kitx_exc c) I.kIn (ex_at I ea) e (fun z => nomatch z) fun tk => ⟨.bl b, H, I.tok _, rfl, q⟩
  · obtain ⟨u1, u2, rfl, r1, r2⟩ := rv.two
    cases r1
    cases r2
    exact PySem.W.kia_one (kitx_exc c) I.kIn (ex_at I ea) e (fun z => nomatch z) fun tk => ⟨.bl b, H, I.tok _, rfl, q⟩
variable {CX : CXT} {k : Nat} {ps : List Str} {sp : Addr → Sp} {E : XK} {m : Str} {pos apos : Pos} {o : Expr} {ta : TE}
/-- e.m(), the class being known by the heap -/
def tMethX (K : PySem.W.Frag) (m : Str) (sp : Addr → Sp) (E : XK) (ta : TE) : TE := fun σ H Q => ta σ H fun x H1 => ∃ a C, x = .ref a ∧ H1 a = some (exH C a) ∧ sp C [x] H1 Q E
end
end L2

set_option Elab.async false
set_option linter.all false
set_option maxRecDepth 100000
namespace L2
open PySem PySem.Spec PyProof.Rows

/-! ### the refusals of a text: classes under ValueError, each with a called() -/
abbrev vE : List Value := [.type "ValueError", .type "Exception", .type "BaseException", .type "object"]
abbrev vN : String := "ValueError.__new__"
structure Exn (K : PySem.W.Frag) (C : Addr) : Prop where
  q : PySem.W.excIn K C vE vN = true
  c : ExC K C
  ty : PySem.W.typeIn K (.ref C) = some (.type "type")
  ve : PySem.W.mroIn K C (.type "ValueError") = some true
theorem exn_mk {K : PySem.W.Frag} {C : Addr} (q : PySem.W.excIn K C vE vN = true) (ga : PySem.W.findIn K (.ref C) "__getattribute__" = some (some (.builtin "BaseException.__getattribute__"))) (gt : PySem.W.findIn K (.ref C) "__getattr__" = some none)
    (cl : PySem.W.findIn K (.ref C) "__class__" = some (some (.builtin "object.__class__"))) (gc : PySem.W.specialIn K (.builtin "object.__class__") "__get__" = some (some (.builtin "getset_descriptor.__get__"))) (tk : PySem.W.takesIn K (.builtin "object.__class__") = some true)
    (ob : PySem.W.mroIn K C (.type "object") = some true) (be : PySem.W.mroIn K C (.type "BaseException") = some true) (is : PySem.W.isClsIn K C = true) (ty : PySem.W.typeIn K (.ref C) = some (.type "type")) (ve : PySem.W.mroIn K C (.type "ValueError") = some true) : Exn K C :=
  ⟨q, ⟨ga, gt, cl, gc, tk, ob, be, is⟩, ty, ve⟩
theorem has_base : vE.contains (.type "BaseException") = true := by decide
theorem has_ve : vE.contains (.type "ValueError") = true := by decide
theorem Exn.sub {K : PySem.W.Frag} {C D : Addr} (x : Exn K C) (r : PySem.W.mroIn K C (.ref D) = some true) : Sub K C D := by
  refine ⟨⟨_, _, x.q⟩, ?_⟩
  obtain ⟨cd, h1, h2⟩ := Option.bind_eq_some_iff.mp r
  unfold PySem.W.clsIn at h1
  unfold mroK
  split at h1
  next c d cd' sl ho =>
    cases h1
    rw [ho]
    split at h2
    · cases h2
    · exact Option.some.inj h2
  next => cases h1
theorem kit_ref {K : PySem.W.Frag} {C D : Addr} {b : Bool} (hC : PySem.W.mroIn K C (.ref C) = some true) (x : Exn K D) (r : PySem.W.mroIn K C (.ref D) = some b) : PySem.W.kitOne K (.ref C) (.ref D) = some b := by
  unfold PySem.W.kitOne
  by_cases q : (Value.ref C == Value.ref D) = true
  · rw [if_pos q]
    have e : C = D := Value.ref.inj (beq_iff_eq.mp q)
    subst e
    rw [hC] at r
    exact r
  · rw [if_neg q]
    unfold PySem.W.kitCls
    have h : ((PySem.W.clsIn K D).isSome && PySem.W.typeIn K (.ref D) == some (.type "type")) = true := by rw [x.c.is, x.ty]; rfl
    show (if _ then _ else _) = _
    rw [if_pos h]
    exact r
theorem kit_ve {K : PySem.W.Frag} {C : Addr} (x : Exn K C) : PySem.W.kitOne K (.ref C) (.type "ValueError") = some true := by
  unfold PySem.W.kitOne
  rw [if_neg (by simp)]
  unfold PySem.W.kitCls
  show (if _ then _ else _) = _
  rw [if_pos (by decide +kernel)]
  exact x.ve
section
variable {X : Cx} {CX : CXT} {k : Nat} {C f : Addr} {fd : FuncData} {ps : List Str} {sp : Sp} {E : XK} {m : Str} {pos apos : Pos} {o : Expr} {ta : TE}
/-- e.m(), e of the class C -/
def tMethE (C : Addr) (sp : Sp) (E : XK) (ta : TE) : TE := fun σ H Q => ta σ H fun x H1 => ∃ a, x = .ref a ∧ H1 a = some (exH C a) ∧ sp [x] H1 Q E
theorem pe_methE {pl : Sem Bool} (he : PE X o ta) (c : ExC X.K C) (hm : Meth X.K C m f) (F : FnOk X.prog X.w X.K X.mg X.base CX k f fd ps sp) (hr : Room k X.A) (hb : Binds X.K fd ps []) (hx : Passes CX X E)
    (ht : eval (.Call (.Attribute o m apos) [] [] pos) X.env = (do
      let ov ← eval o X.env
      standAt apos.atName
      let (f, first) ← holding [ov] (getMethod ov m pl)
      callWith pos f first (backTo pos (starEach [] X.env)) (backToKw pos (keywordEach [] X.env))) := by rfl) :
    PE X (.Call (.Attribute o m apos) [] [] pos) (tMethE C sp E ta) := by
  intro pins s σ H Q I h
  refine PySem.W.methodCall_KW (pl := pl) (thn (he pins s σ H _ I h) fun u s1 ⟨x, H1, I1, rx, a, ex, ea, q⟩ => ?_) ht
  subst ex
  obtain rfl : u = Value.ref a := rx
  obtain ⟨t, tb, e1⟩ := ex_at I1 ea
  refine ex_meth I1.kIn e1 c hm.at_ hm.fn ?_
  exact PySem.W.callWith_K0 (first := [.ref a]) I1.kIn hm.kp (run_fn (us := [.ref a]) (vs := [.ref a]) (dvs := []) F hr hb .nil hx I1 (.cons rfl .nil) q)
end
/-! ### a method of the text -/
def clsBody (s : Stmt) : List Stmt := match s with
  | .ClassDef _ _ _ b _ _ _ _ _ _ _ => b
  | _ => []
structure Mf (K : PySem.W.Frag) (x q : Str) (st : Stmt) (ps : List Str) (C f : Addr) (fd : FuncData) : Prop where
  F : Fun K x q st f fd
  m : Meth K C x f
  b : Binds K fd ps []
theorem bt_ValueError : bootBuiltins "ValueError" = some (.type "ValueError") := by decide +kernel
end L2

set_option Elab.async false
set_option linter.all false
set_option maxRecDepth 100000
namespace L2
open PySem PySem.Spec PyProof.Rows
open Builtin Builtin.Str
/-! ### slices of texts -/
def cutT (u : List Nat) (lo hi : Option Int) : List Nat := (u.drop (HT.sIx u.length 0 lo)).take (HT.sIx u.length u.length hi - HT.sIx u.length 0 lo)
theorem rng_eq (a b : Nat) : sliceRange (a : Int) (b : Int) 1 = (List.range (b - a)).map fun k => a + k := by
  unfold sliceRange
  simp only [show (1 : Int) > 0 by decide, if_true]
  by_cases h : (a : Int) < (b : Int)
  · rw [if_pos h, Int.ediv_one, show (b : Int) - (a : Int) + 1 - 1 = ((b - a : Nat) : Int) by omega, Int.toNat_natCast]
    exact List.map_congr_left fun k _ => by omega
  · rw [if_neg h, show b - a = 0 by omega]
    rfl
theorem clip_some (n d : Nat) (i : Int) : max 0 (min (if i < 0 then i + (n : Int) else i) (n : Int)) = (HT.sIx n d (some i) : Int) := by
  show _ = (((if i < 0 then (i + (n : Int)).toNat else min i.toNat n) : Nat) : Int)
  by_cases h : i < 0
  · rw [if_pos h, if_pos h]; omega
  · rw [if_neg h, if_neg h]; omega
theorem idx_eq (n : Nat) (lo hi : Option Int) : strSliceIndices lo hi 1 n = (List.range (HT.sIx n n hi - HT.sIx n 0 lo)).map fun k => HT.sIx n 0 lo + k := by
  rw [← rng_eq]
  cases lo with
  | none =>
    cases hi with
    | none => rfl
    | some j => rw [← clip_some]; rfl
  | some i =>
    cases hi with
    | none => rw [← clip_some n 0 i]; rfl
    | some j => rw [← clip_some n 0 i, ← clip_some n n j]; rfl
theorem tx_slice (u : List Nat) (lo hi : Option Int) : Txt.slice (tx u) lo hi = tx (cutT u lo hi) := by
  unfold Txt.slice cutT
  rw [tx_len, idx_eq]
  have hle : HT.sIx u.length u.length hi ≤ u.length := HT.sIx_le _ _ (Nat.le_refl _) _
  have key : ∀ (a k : Nat), a + k ≤ u.length → ((List.range k).map fun j => a + j).filterMap (fun i => (tx u).cps[i]?) = (u.drop a).take k := by
    intro a k
    induction k with
    | zero => intro _; simp
    | succ k ih =>
      intro h
      rw [List.range_succ, List.map_append, List.filterMap_append, ih (by omega)]
      have : a + k < u.length := by omega
      simp only [List.map_cons, List.map_nil, List.filterMap_cons, List.filterMap_nil, tx_get, List.getElem?_eq_getElem this]
      rw [List.take_succ, List.getElem?_drop, List.getElem?_eq_getElem this]
      rfl
  split
  next h =>
    simp only [List.length_map, List.length_range, Bool.and_eq_true, beq_iff_eq] at h
    have h2 := h.2
    have : HT.sIx u.length 0 lo = 0 ∨ u.length = 0 := by omega
    rcases this with e | e
    · rw [e, List.drop_zero, List.take_of_length_le (by omega)]
    · rw [List.eq_nil_of_length_eq_zero e]; simp
  next h =>
    by_cases hlt : HT.sIx u.length 0 lo ≤ HT.sIx u.length u.length hi
    · show (Str.mk _) = _
      rw [key _ _ (by omega)]
      rfl
    · have e : HT.sIx u.length u.length hi - HT.sIx u.length 0 lo = 0 := by omega
      rw [e]
      simp [tx]
theorem cut_to {u : List Nat} {k : Nat} (h : k ≤ u.length) : cutT u none (some (k : Int)) = u.take k := by
  unfold cutT
  rw [HT.sIx_none, HT.sIx_nat, List.drop_zero, Nat.min_eq_left h, Nat.sub_zero]
section
variable {X : Cx}
theorem sl_str : SlR X (fun x lo hi H Q => ∃ u : List Nat, x = .str (tx u) ∧ u.length ≤ sizeLine ∧ Q (.str (tx (cutT u lo hi))) H) := by
  intro pins s σ H x v vl vu lo hi sl Q I rx hs pl pu h
  obtain ⟨u, rfl, hz, q⟩ := h
  obtain ⟨t, rfl⟩ := rx
  rw [← tx_slice] at q
  refine ⟨"str", _, F.slot_str_getitem.lookup, typeIs_str _ _ _, ?_⟩
  have hsz : (tx u).length ≤ sizeLine := by rw [tx_len]; exact hz
  obtain ⟨os, hos, hcs, hds⟩ := id hs
  have fin : ∀ (l u' : Option (Int × Tok)), s.heap.IsSlice sl l u' none → Q (.str (Txt.slice (tx u) (l.map (·.1)) (u'.map (·.1)))) H → wpAny (model X.prog X.w) X.A (getItem (.str (tx u) t) (.ref sl)) (EP X pins σ Q) X.xe s := fun l u' z q' =>
    wpAny_getItem_str_slice z rfl (post_val_or_str ⟨Nat.le_trans (Txt.slice_le (tx u) _ _) hsz, fun t' k => ⟨.str _, H, I.tok _, ⟨t', rfl⟩, q'⟩⟩)
  cases pl with
  | none => cases pu with
    | none => exact fin none none ⟨os, hos, hcs, hds⟩ q
    | int j tj => exact fin none (some (j, tj)) ⟨os, hos, hcs, hds⟩ q
  | int i ti => cases pu with
    | none => exact fin (some (i, ti)) none ⟨os, hos, hcs, hds⟩ q
    | int j tj => exact fin (some (i, ti)) (some (j, tj)) ⟨os, hos, hcs, hds⟩ q
end
end L2

set_option Elab.async false
set_option linter.all false
set_option maxRecDepth 100000
namespace L2
open PySem PySem.Spec PyProof.Rows
/-! ### range objects as values, list(range(..)) -/
def rngO (p : Addr) (a b c : Int) : HO := .ext fun h => ∃ t u v, IsRange h p a b c t u v
def rngL (a c : Int) (n : Nat) : List Int := (List.range n).map fun (i : Nat) => a + (i : Int) * c
section
variable {X : Cx} {K : PySem.W.Frag}
/-! ### int(text), sum(list) -/
/-! ### a sign among signs -/
end
end L2

set_option Elab.async false
set_option linter.all false
set_option maxRecDepth 100000
namespace L2
open PySem PySem.Spec PyProof.Rows
/-! ### range(a, b) of ints of any size -/
section
variable {X : Cx} {tg : Expr}
def iRng2L (ta : TA) : TI := fun σ H R => ta σ H fun vs H1 => ∃ i j : Int, vs = [.int i, .int j] ∧ R (Itr i (j - i).toNat) H1
end
section
variable {X : Cx}
/-! ### a * b of ints of up to 250 bits -/
/-! ### text * n -/
theorem rep_fold (l : List Nat) : ∀ (k : Nat) (acc : List Nat), List.foldl (fun x1 x2 => x1 ++ x2) acc.toArray (List.replicate k l.toArray) = (acc ++ (List.replicate k l).flatten).toArray
  | 0, acc => by simp
  | k + 1, acc => by
    have e : acc.toArray ++ l.toArray = (acc ++ l).toArray := by simp
    have e2 : (acc ++ l) ++ (List.replicate k l).flatten = acc ++ (List.replicate (k + 1) l).flatten := by
      rw [List.replicate_succ, List.flatten_cons, List.append_assoc]
    rw [← e2, ← rep_fold l k (acc ++ l), ← e, List.replicate_succ, List.foldl_cons]
def rRepS : R2 := fun x y H Q => ∃ u n, x = .str (tx u) ∧ y = .int n ∧ 0 ≤ n ∧ n ≤ 1000000 ∧ u.length * n.toNat ≤ sizeLine ∧ Q (.str (tx (List.replicate n.toNat u).flatten)) H
theorem op_repS : OpR X (binaryOp .Mult) rRepS := by
  intro pins s σ H x y v z Q I rx ry h
  obtain ⟨u, n, rfl, rfl, h0, h1, h2, q⟩ := h
  obtain ⟨t, rfl⟩ := rx
  obtain ⟨t', rfl⟩ := ry
  have hsz : sizeLine = 16777216 := sizeLine_eq
  have hlen : (tx u).length = u.length := tx_len u
  refine P.mul_str ?_ (fun c1 c2 => ?_) (fun c1 c2 => ?_) ?_
  · rw [decide_eq_false (by omega), decide_eq_false (by omega)]
    rfl
  · rw [hlen]
    have hn : 0 < n := by omega
    have hm : (u.length : Int) * n ≤ 16777216 := by
      have e : n = (n.toNat : Int) := by omega
      rw [e, ← Int.natCast_mul]
      omega
    have : (u.length : Int) ≤ (2 ^ 63 - 1) / n := (Int.le_ediv_iff_mul_le hn).mpr (by omega)
    omega
  · rw [hlen]
    exact decide_eq_false (by omega)
  · split
    · next c =>
      have e : n = 0 := by omega
      rw [e] at q
      exact ⟨by decide, .str (tx []), H, I.tok _, ⟨_, rfl⟩, q⟩
    · split
      · next c =>
        have e : tx (List.replicate n.toNat u).flatten = tx u := by
          simp only [Bool.or_eq_true, beq_iff_eq] at c
          rcases c with c | c
          · rw [c]; simp
          · rw [hlen] at c
            rw [List.eq_nil_of_length_eq_zero c]
            simp
        rw [e] at q
        exact ⟨.str (tx u), H, I, ⟨_, rfl⟩, q⟩
      · have hf : (⟨(List.replicate n.toNat (tx u).cps).foldl (· ++ ·) #[]⟩ : Str) = tx (List.replicate n.toNat u).flatten := by
          have := rep_fold u n.toNat []
          simp only [List.nil_append] at this
          exact congrArg Str.mk this
        rw [hf]
        refine ⟨?_, .str (tx (List.replicate n.toNat u).flatten), H, I.tok _, ⟨_, rfl⟩, q⟩
        rw [tx_len, len_rep, Nat.mul_comm]
        exact h2
/-! ### text.count(sign) -/
def rCount : V → List V → Hp → VK → Prop := fun x vs H Q => ∃ u c, x = .str (tx u) ∧ vs = [.str ⟨#[c]⟩] ∧ Q (.int (u.count c : Nat)) H
end
end L2

set_option Elab.async false
set_option linter.all false
set_option maxRecDepth 100000
namespace L2
open PySem PySem.Spec PyProof.Rows
/-! ### isinstance(e, (C, D, ..)) of a caught one -/
theorem vals_refs {Ds : List Addr} : ∀ {us : List Value}, Vals (Ds.map V.ref) us → us = Ds.map Value.ref := by
  induction Ds with
  | nil => intro us r; rw [List.map_nil] at r; cases r; rfl
  | cons n ns ih =>
    intro us r
    rw [List.map_cons] at r
    cases r with
    | cons r1 r2 =>
      cases r1
      rw [ih r2]
      rfl
section
variable {X : Cx} {K : PySem.W.Frag}
def rIsXT (K : PySem.W.Frag) : List V → Hp → VK → Prop := fun vs H Q => ∃ (a C p : Addr) (Ds : List Addr) (b : Bool), vs = [.ref a, .ref p] ∧ H a = some (exH C a) ∧ ExC K C ∧ H p = some (.tup (Ds.map V.ref)) ∧ PySem.W.kitAny K (.ref C) (Ds.map Value.ref) = some b ∧ Q (.bl b) H
theorem call_isxT (hK : X.K = K := by rfl) : CallR X (.builtin "isinstance") (rIsXT K) := by
  subst hK
  intro pins s σ H xs us Q I rv h
  obtain ⟨a, C, p, Ds, b, rfl, ea, c, ep, e, q⟩ := h
  obtain ⟨u1, u2, rfl, r1, r2⟩ := rv.two
  cases r1
  cases r2
  obtain ⟨_, its, vs, ht⟩ := (show ObjOk X.prog X.w H s.heap p (.tup (Ds.map V.ref)) from I.hok p _ ep)
  rw [vals_refs vs] at ht
  obtain ⟨⟨cls, dd, data, sl⟩, h1, h2, n, h3⟩ := ht
  cases h2
  cases h3
  exact PySem.W.kia_tup (kitx_exc c) I.kIn (ex_at I ea) h1 e (fun z => nomatch z) fun tk => ⟨.bl b, H, I.tok _, rfl, q⟩
end
end L2

set_option Elab.async false
set_option linter.all false
set_option maxRecDepth 100000
namespace L2
open PySem PySem.Spec PyProof.Rows
/-- a callee that does not raise here -/
theorem passF {P : Program} {w : World} {X : Cx} : Passes (CX1 P w) X (fun _ _ _ => False) := fun _ _ _ _ _ _ _ c => by
  obtain ⟨_, _, _, _, _, _, _, _, _, _, q⟩ := c
  exact q.elim
section
variable {X : Cx} {K : PySem.W.Frag}
/-! ### != of two lists of flat values -/
def rNeL (K : PySem.W.Frag) : R2 := fun x y H Q => ∃ p q xs ys, x = .ref p ∧ y = .ref q ∧ SqL K H p xs ∧ SqL K H q ys ∧ xs.all flatV = true ∧ ys.all flatV = true ∧ Q (.bl (!eqL xs ys)) H
end
end L2

set_option Elab.async false
set_option linter.all false
set_option maxRecDepth 100000
namespace L2
open PySem PySem.Spec PyProof.Rows
theorem Room.units100 {k : Nat} {A : Around} (r : Room k A) : A.units + 100 < cLine := by have := r.un; omega
/-! ### lists of lists with the same contents -/
def SamL (K : PySem.W.Frag) (H : Hp) (p q : Addr) : Prop := ∃ as bs : List Addr, SqL K H p (as.map V.ref) ∧ SqL K H q (bs.map V.ref) ∧ as.length = bs.length ∧
  ∀ (i : Nat) (a b : Addr), as[i]? = some a → bs[i]? = some b → ∃ xs : List V, xs.all flatV = true ∧ SqL K H a xs ∧ SqL K H b xs
section
variable {X : Cx} {K : PySem.W.Frag}
theorem vals_at {as : List Addr} {us : List Value} (r : Vals (as.map V.ref) us) {i : Nat} {u : Value} (h : us[i]? = some u) : ∃ a, as[i]? = some a ∧ u = .ref a := by
  rw [vals_refs r, List.getElem?_map] at h
  cases e : as[i]? with
  | none => rw [e] at h; cases h
  | some a => rw [e] at h; cases h; exact ⟨a, rfl, rfl⟩
theorem eqAt_lists {pins : List (Addr × Obj)} {σ : St} {H : Hp} {s : Shared} {A : Around} (I : Inv X pins σ H s) {a b : Addr} {xs : List V} (f : xs.all flatV = true) (ha : SqL X.K H a xs) (hb : SqL X.K H b xs) (hu : A.units < cLine) :
    SeqAt.EqAt A s (.ref a) (.ref b) true := by
  by_cases e : a = b
  · subst e; exact SeqAt.EqAt.same _
  · refine SeqAt.EqAt.of_refs e ?_
    obtain ⟨its, r, pl, hz⟩ := I.list ha
    obtain ⟨its2, r2, pl2, hz2⟩ := I.list hb
    have l1 := r.length
    have l2 := r2.length
    have key := SeqAt.RcAt.lists (A := A) (s := s) (e := fun _ => true) pl.isList pl2.isList (by simp only [List.size_toArray]; omega) hu (fun j h1 h2 => ?_)
    · have e1 : (List.range its.toArray.size).all (fun _ => true) = true := by simp
      rw [e1] at key
      exact key
    · have j1 : j < xs.length := by simp only [List.size_toArray] at h1; omega
      obtain ⟨w1, e1, q1⟩ := r.get (i := j) (x := xs[j]) (by simp [j1])
      obtain ⟨w2, e2, q2⟩ := r2.get (i := j) (x := xs[j]) (by simp [j1])
      have g1 : its.toArray[j] = w1 := by
        have : its.toArray[j]? = some w1 := by simpa using e1
        exact Option.some.inj ((Array.getElem?_eq_getElem h1).symm.trans this)
      have g2 : its2.toArray[j] = w2 := by
        have : its2.toArray[j]? = some w2 := by simpa using e2
        exact Option.some.inj ((Array.getElem?_eq_getElem h2).symm.trans this)
      rw [g1, g2]
      have ff := List.all_eq_true.mp f _ (List.getElem_mem j1)
      have := eqAt_V (A := A.in1) (s := s) q1 q2 ff ff
      rw [eqV_refl ff] at this
      exact this
theorem items_same {pins : List (Addr × Obj)} {σ : St} {H : Hp} {s : Shared} {A : Around} (I : Inv X pins σ H s) {as bs : List Addr} {its its2 : List Value} (r : Vals (as.map V.ref) its) (r2 : Vals (bs.map V.ref) its2)
    (h : ∀ (i : Nat) (a b : Addr), as[i]? = some a → bs[i]? = some b → ∃ xs : List V, xs.all flatV = true ∧ SqL X.K H a xs ∧ SqL X.K H b xs) (hu : A.units < cLine) (j : Nat) (h1 : j < its.toArray.size) (h2 : j < its2.toArray.size) :
    SeqAt.EqAt A s its.toArray[j] its2.toArray[j] true := by
  simp only [List.size_toArray] at h1 h2
  obtain ⟨a, ea, e1⟩ := vals_at r (List.getElem?_eq_getElem h1)
  obtain ⟨b, eb, e2⟩ := vals_at r2 (List.getElem?_eq_getElem h2)
  obtain ⟨xs, f, ha, hb⟩ := h j a b ea eb
  simp only [List.getElem_toArray]
  rw [e1, e2]
  exact eqAt_lists I f ha hb hu
def rNeLL (K : PySem.W.Frag) : R2 := fun x y H Q => ∃ p q, x = .ref p ∧ y = .ref q ∧ SamL K H p q ∧ Q (.bl false) H
theorem op_neLL (hu : X.A.units + 100 < cLine) (hK : X.K = K := by rfl) : OpR X (compareOp .NotEq) (rNeLL K) := by
  subst hK
  intro pins s σ H x y v u Q I rx ry h
  obtain ⟨p, q, rfl, rfl, ⟨as, bs, hx, hy, hl, hi⟩, k⟩ := h
  cases rx
  cases ry
  obtain ⟨its, r, pl, hz⟩ := I.list hx
  obtain ⟨its2, r2, pl2, hz2⟩ := I.list hy
  have l1 := r.length
  have l2 := r2.length
  rw [List.length_map] at l1 l2
  refine SeqAt.RcNeAt.lists (e := fun _ => true) pl.isList pl2.isList (by simp only [List.size_toArray]; omega) (by omega) (fun j h1 h2 => items_same I r r2 hi (by show X.A.units + 1 < cLine; omega) j h1 h2) _ _ _ _ ?_
  refine ⟨.bl false, H, I, ?_, k⟩
  show Value.bool _ = Value.bool _
  simp
def rEqLL (K : PySem.W.Frag) : R2 := fun x y H Q => ∃ p q, x = .ref p ∧ y = .ref q ∧ SamL K H p q ∧ Q (.bl true) H
/-! ### a number in a list of numbers -/
end
end L2

set_option Elab.async false
set_option linter.all false
set_option maxRecDepth 100000
namespace L2
open PySem PySem.Spec PyProof.Rows
/-! ### several records turned at once -/
theorem Inv.turnedL {X : Cx} {pins : List (Addr × Obj)} {σ : St} {H : Hp} {s : Shared} {h' : Heap} {t' : Nat} {its : List Addr} (I : Inv X pins σ H s)
    (k : ∀ b o, b ∉ its → s.heap.get? b = some o → h'.get? b = some o) (hf : ∀ b ∈ its, FpOk X pins H b) : Inv X pins σ H { s with heap := h', toks := t' } := by
  have nit : ∀ b u, H b = some u → b ∉ its := fun b u e z => by
    have := (hf b z).1
    rw [this] at e
    cases e
  have nL : X.env.locals ∉ its := fun z => (hf _ z).2.1 rfl
  refine I.step (g' := s.gens) (d' := s.drawn) (ch := its) (fun b hb => ?_) (fun b o _ _ hc e _ => k b o hc e) (fun b o _ _ hc e _ => ⟨o.slots, k b o hc e⟩) (fun _ _ _ _ n => n)
    (fun b o hc e => ⟨o, k b o hc e⟩) (fun _ _ e => e) (fun _ _ _ e => e) (fun b ps e => ⟨#[], by rw [e]; simp⟩) (fun m hm => ?_) (fun b u e => ?_) I.bare
  · obtain ⟨_, h2, _, h4, h5, h6⟩ := hf b hb
    exact ⟨h4, h2, h5, h6⟩
  · obtain ⟨o, es, ep, ho, r⟩ := hm
    exact ⟨o, es, ep, k _ o nL ho, r⟩
  · refine (I.hok b u e).stay (fun c v hc q => k c v ?_ q) (fun _ q => q) fun _ _ q => q
    rcases hc with z | z
    · rw [z]; exact nit b u e
    · exact nit c _ z
/-! ### zip(a, b) of two lists, its pairs unpacked -/
def Itz (K : PySem.W.Frag) (a b : Addr) : It where
  go := fun i H => ∃ xs ys x y, SqL K H a xs ∧ SqL K H b ys ∧ xs[i]? = some x ∧ ys[i]? = some y
  yld := fun i H x H' => ∃ T, x = .ref T ∧ H T = none ∧ ∀ xs ys u v, SqL K H a xs → SqL K H b ys → xs[i]? = some u → ys[i]? = some v → H' = upd H T (.tup [u, v])
  stop := fun i H => ∃ xs ys, SqL K H a xs ∧ SqL K H b ys ∧ (xs.length ≤ i ∨ ys.length ≤ i)
def ZipSt (z TI TO i1 i2 a b : Addr) (i : Nat) (h : Heap) : Prop := IsZip h z TI TO .none ∧ IsPair h TI (.ref i1) (.ref i2) ∧ (∃ p q, IsPair h TO p q) ∧ h.IsListIter i1 a i ∧ h.IsListIter i2 b i
theorem turn_zip {P : Program} {w : World} {K : PySem.W.Frag} {es : List Expr} {kx : Nat} {tp : Pos} {z TI TO i1 i2 a b : Addr} (D : ZipApart z TI TO i1 i2 a b) :
    Turn P w K (.Tuple es kx tp) (Itz K a b) [z, TI, TO, i1, i2] z (ZipSt z TI TO i1 i2 a b) where
  mem := by simp
  obj := fun i h st c hc => by
    obtain ⟨s1, s2, ⟨p, q, s3⟩, s4, s5⟩ := st
    simp only [List.mem_cons, List.not_mem_nil, or_false] at hc
    rcases hc with e | e | e | e | e
    · subst e; exact ⟨_, s1, fun v z => by cases (show Data.fields _ = Data.cell v from z)⟩
    · subst e; exact ⟨_, s2, fun v z => by cases (show Data.seq _ _ = Data.cell v from z)⟩
    · subst e; exact ⟨_, s3, fun v z => by cases (show Data.seq _ _ = Data.cell v from z)⟩
    · subst e; obtain ⟨o, e, _, d⟩ := s4; exact ⟨o, e, fun v z => by rw [d] at z; cases z⟩
    · subst e; obtain ⟨o, e, _, d⟩ := s5; exact ⟨o, e, fun v z => by rw [d] at z; cases z⟩
  keep := fun i h h' st k => by
    obtain ⟨s1, s2, ⟨p, q, s3⟩, s4, s5⟩ := st
    exact ⟨k _ (by simp) _ s1, k _ (by simp) _ s2, ⟨p, q, k _ (by simp) _ s3⟩, s4.at fun o e => k _ (by simp) o e, s5.at fun o e => k _ (by simp) o e⟩
  item := by
    intro X hP hw hK hc i pins s σ H E I hf st hg
    subst hP hw hK
    obtain ⟨xs, ys, x, y, hq1, hq2, hx, hy⟩ := hg
    obtain ⟨its1, rv1, p1, _⟩ := I.list hq1
    obtain ⟨its2, rv2, p2, _⟩ := I.list hq2
    obtain ⟨u, hu, ru⟩ := rv1.get hx
    obtain ⟨v, hv, rw'⟩ := rv2.get hy
    obtain ⟨s1, s2, ⟨p, q, s3⟩, s4, s5⟩ := st
    refine wpAny_pyNext_zip_item D s1 s2 s3 s4 s5 p1.isList p2.isList (x := u) (y := v) (by simpa using hu) (by simpa using hv) fun h1 z1 t1 j1 j2 hT hsz kk => ?_
    refine ⟨_, rfl, wpAny_letOwnedTupleGo_zip z1 fun h2 z2 sb => ?_⟩
    have zl : z < s.heap.objs.size := Heap.lt_size s1
    have TIl : TI < s.heap.objs.size := Heap.lt_size s2
    have TOl : TO < s.heap.objs.size := Heap.lt_size s3
    have i1l : i1 < s.heap.objs.size := by obtain ⟨_, e, _⟩ := s4; exact Heap.lt_size e
    have i2l : i2 < s.heap.objs.size := by obtain ⟨_, e, _⟩ := s5; exact Heap.lt_size e
    have up : ∀ c o, c ≠ z → h1.get? c = some o → h2.get? c = some o := fun c o c1 e => (sb.2 c c1).trans e
    have hTn : H s.heap.objs.size = none := I.hok.fresh (Nat.le_refl _)
    have I1 : Inv X pins σ (upd H s.heap.objs.size (.tup [x, y])) { s with heap := s.heap.push { cls := .type "tuple", data := .seq #[u, v] }, toks := s.toks } :=
      I.laid (fun c o e => Heap.get?_push_of_some _ e) (Nat.le_refl _) ⟨by show 2 ≤ sizeLine; decide, [u, v], .cons ru (.cons rw' .nil), ⟨_, Heap.get?_push_size _ rfl, rfl, _, rfl⟩⟩
    have fp2 : ∀ c ∈ [z, TI, TO, i1, i2], FpOk X pins (upd H s.heap.objs.size (.tup [x, y])) c := fun c hc => by
      obtain ⟨f0, f⟩ := hf c hc
      refine ⟨?_, f⟩
      have lt : c < s.heap.objs.size := by
        simp only [List.mem_cons, List.not_mem_nil, or_false] at hc
        rcases hc with e | e | e | e | e <;> subst e <;> assumption
      rw [upd_ne (Nat.ne_of_lt lt)]
      exact f0
    have I2 : Inv X pins σ (upd H s.heap.objs.size (.tup [x, y])) { s with heap := h2 } := by
      refine Inv.turnedL (s := { s with heap := s.heap.push { cls := .type "tuple", data := .seq #[u, v] }, toks := s.toks }) (h' := h2) (t' := s.toks) (its := [z, TI, TO, i1, i2]) I1 (fun c o hc e => ?_) fp2
      simp only [List.mem_cons, List.not_mem_nil, or_false, not_or] at hc
      refine up c o hc.1 ?_
      by_cases hcs : c = s.heap.objs.size
      · subst hcs
        have e' : (s.heap.push { cls := .type "tuple", data := .seq #[u, v] }).get? s.heap.objs.size = some { cls := .type "tuple", data := .seq #[u, v] } := Heap.get?_push_size _ rfl
        rw [e'] at e
        cases e
        exact hT
      · have e' : s.heap.get? c = some o := by
          rw [← e]
          exact (Heap.get?_push_ne _ _ _ hcs).symm
        exact kk c o hc.1 hc.2.2.1 hc.2.2.2.1 hc.2.2.2.2 e'
    refine ⟨.ref s.heap.objs.size, _, I2, rfl, ⟨s.heap.objs.size, rfl, hTn, fun xs' ys' u' v' a1 a2 a3 a4 => ?_⟩, ⟨z2, up _ _ D.TIz (kk _ _ D.TIz D.TITO D.TIi1 D.TIi2 s2), ⟨u, v, up _ _ D.TOz t1⟩, j1.at fun o e => up _ o D.i1z e, j2.at fun o e => up _ o D.i2z e⟩, fun c hc => (fp2 c hc).1⟩
    rw [I.list_inj a1 hq1, hx] at a3
    rw [I.list_inj a2 hq2, hy] at a4
    cases a3
    cases a4
    rfl
  done := by
    intro X hP hw hK hc i pins s σ H E I hf st hg
    subst hP hw hK
    obtain ⟨xs, ys, hq1, hq2, hend⟩ := hg
    obtain ⟨its1, rv1, p1, _⟩ := I.list hq1
    obtain ⟨its2, rv2, p2, _⟩ := I.list hq2
    have l1 := rv1.length
    have l2 := rv2.length
    obtain ⟨s1, s2, ⟨p, q, s3⟩, s4, s5⟩ := st
    refine wpAny_pyNext_zip_end (I.ok.hd hc) D s1 s2 s3 s4 s5 p1.isList p2.isList ?_ fun h' kk => ⟨rfl, I.turnedL (t' := s.toks) (its := [z, TI, TO, i1, i2]) (fun c o hc e => ?_) hf⟩
    · rcases hend with e | e
      · exact .inl (by simp; omega)
      · exact .inr (by simp; omega)
    · simp only [List.mem_cons, List.not_mem_nil, or_false, not_or] at hc
      exact kk c o hc.1 hc.2.2.1 hc.2.2.2.1 hc.2.2.2.2 e
  self := fun _ _ _ _ _ st h => wpAny_pyIter_zip st.1 h
section
variable {X : Cx} {es : List Expr} {kx : Nat} {tp : Pos}
def iZip (K : PySem.W.Frag) (ta : TA) : TI := fun σ H R => ta σ H fun vs H1 => ∃ a b, vs = [.ref a, .ref b] ∧ (∃ xs, SqL K H1 a xs) ∧ (∃ ys, SqL K H1 b ys) ∧ R (Itz K a b) H1
theorem pi_zip {K : PySem.W.Frag} {a b : Expr} {ta : TA} {p pos : Pos} (hg : Gl X "zip") (hm : X.mg "zip" = none) (ha : PA X [a, b] ta) (hK : X.K = K := by rfl) (hs : starEach [a, b] X.env = [(false, eval a X.env), (false, eval b X.env)] := by rfl) (hs2 : starEach [b] X.env = [(false, eval b X.env)] := by rfl) :
    PI X (.Tuple es kx tp) (.Call (.Name "zip" p) [a, b] [] pos) (iZip K ta) := by
  subst hK
  intro pins s σ H R I h
  refine Call_ (ld_blt I hg hm bt_zip (PyProof.Rows.callWith_type1 (thn (ha pos pins s σ H _ I h) fun us s1 ⟨vs, H1, I1, r1, q1⟩ => ?_) (by rw [hs, hs2]) (by rw [hs2]; rfl)))
  obtain ⟨a, b, e, ⟨xs, hq1⟩, ⟨ys, hq2⟩, q⟩ := q1
  subst e
  cases r1 with
  | cons r rr =>
    cases rr with
    | cons r' rr =>
      cases rr
      cases r
      cases r'
      obtain ⟨its1, rv1, p1, _⟩ := I1.list hq1
      obtain ⟨its2, rv2, p2, _⟩ := I1.list hq2
      obtain ⟨o1, e1, _⟩ := id p1.isList
      obtain ⟨o2, e2, _⟩ := id p2.isList
      refine call_zip_2 p1.isList p2.isList fun h' hz hTI hTO j1 j2 hsz kk => wpAny_pyIter_zip hz ?_
      refine ⟨_, [s1.heap.objs.size + 4, s1.heap.objs.size + 2, s1.heap.objs.size + 3, s1.heap.objs.size, s1.heap.objs.size + 1], _, _, H1, rfl, I1.kept (t' := s1.toks) kk, turn_zip (zipApart_new (Heap.lt_size e1) (Heap.lt_size e2)),
        ⟨hz, hTI, ⟨_, _, hTO⟩, j1, j2⟩, fun c hc => ?_, q⟩
      have le : s1.heap.objs.size ≤ c := by
        simp only [List.mem_cons, List.not_mem_nil, or_false] at hc
        rcases hc with e | e | e | e | e <;> subst e <;> omega
      exact I1.fpOk le (I1.hok.fresh le)
theorem for_zip {K : PySem.W.Frag} {a b : Addr} {xs ys : List V} {g : TG} {tb : TS} {D : Ends} {σ : St} {H : Hp} {n : Nat} (hn : n = min xs.length ys.length) (Pv : Nat → St → Hp → Prop) (h0 : Pv 0 σ H) (hl : ∀ i σ H, Pv i σ H → SqL K H a xs ∧ SqL K H b ys)
    (hs : ∀ i x y σ H T, xs[i]? = some x → ys[i]? = some y → Pv i σ H → H T = none → g (.ref T) σ (upd H T (.tup [x, y])) fun σ2 H2 => tb { D with nx := Pv (i + 1), ct := Pv (i + 1), bk := D.nx } σ2 H2) (hd : ∀ σ H, Pv n σ H → D.nx σ H) :
    ∃ W : Nat → Nat → St → Hp → Prop, (∃ m, W 0 m σ H) ∧ ∀ i m σ H, W i m σ H →
      ((Itz K a b).stop i H ∧ D.nx σ H) ∨ ((Itz K a b).go i H ∧ ∃ N : St → Hp → Prop, (∀ σ' H', N σ' H' → ∃ m', m' < m ∧ W (i + 1) m' σ' H') ∧ ∀ x H', (Itz K a b).yld i H x H' → g x σ H' fun σ2 H2 => tb { D with nx := N, ct := N, bk := D.nx } σ2 H2) := by
  refine ⟨fun i m σ H => m = n - i ∧ i ≤ n ∧ Pv i σ H, ⟨n, by simp, Nat.zero_le _, h0⟩, ?_⟩
  rintro i m σ H ⟨rfl, hi, p⟩
  obtain ⟨q1, q2⟩ := hl i σ H p
  by_cases hlt : i < n
  · have x1 : i < xs.length := by omega
    have y1 : i < ys.length := by omega
    refine .inr ⟨⟨xs, ys, xs[i], ys[i], q1, q2, List.getElem?_eq_getElem x1, List.getElem?_eq_getElem y1⟩, Pv (i + 1), fun σ' H' p' => ⟨n - (i + 1), by omega, rfl, hlt, p'⟩, fun x H' y => ?_⟩
    obtain ⟨T, rfl, hT, y⟩ := y
    have e := y xs ys _ _ q1 q2 (List.getElem?_eq_getElem x1) (List.getElem?_eq_getElem y1)
    subst e
    exact hs i _ _ σ H T (List.getElem?_eq_getElem x1) (List.getElem?_eq_getElem y1) p hT
  · have e : i = n := by omega
    subst e
    exact .inl ⟨⟨xs, ys, q1, q2, by omega⟩, hd σ H p⟩
end
end L2

set_option Elab.async false
set_option linter.all false
set_option maxRecDepth 100000
namespace L2
open PySem PySem.Spec PyProof.Rows
/-! ### a tuple of numbers in a list of such tuples, one of which has the same contents -/
def rInT (K : PySem.W.Frag) : R2 := fun x y H Q => ∃ (p q : Addr) (as : List Addr) (ks : List Int), x = .ref p ∧ y = .ref q ∧ SqL K H q (as.map V.ref) ∧ SqT K H p (vI ks) ∧
  (∀ a ∈ as, ∃ js : List Int, SqT K H a (vI js)) ∧ (∃ a ∈ as, SqT K H a (vI ks)) ∧ Q (.bl true) H
section
variable {X : Cx} {K : PySem.W.Frag}
end
end L2

set_option Elab.async false
set_option linter.all false
set_option maxRecDepth 100000
namespace L2
open PySem PySem.Spec PyProof.Rows
/-! ### zip of lists and texts: each side draws by itself -/
section
variable {prog : Program} {w : World} {A : Around} {E : Value → Shared → Prop} {s : Shared}
theorem drawsStr (hh : A.handled = none) (it : Addr) (x : Str) (t : Tok) : Draws prog w A it [it] x.cps.size (fun i v => ∃ c u, x.cps[i]? = some c ∧ v = .str ⟨#[c]⟩ u) (fun i h => h.IsStrIter it (strIterType x) x t i) := by
  unfold strIterType
  split
  · exact Draws.strAscii hh it x t
  · exact Draws.strWide hh it x t
structure Apart2 (z TI TO i1 i2 : Addr) : Prop where
  TIz : TI ≠ z
  TOz : TO ≠ z
  i1z : i1 ≠ z
  i2z : i2 ≠ z
  TITO : TI ≠ TO
  TIi1 : TI ≠ i1
  TIi2 : TI ≠ i2
  TOi1 : TO ≠ i1
  TOi2 : TO ≠ i2
  i12 : i1 ≠ i2
theorem zipD_item {z TI TO i1 i2 : Addr} {fp1 fp2 : List Addr} {n1 n2 k : Nat} {P1 P2 : Nat → Value → Prop} {S1 S2 : Nat → Heap → Prop} {a b : Value} {Q : Value → Shared → Prop} (D : Apart2 z TI TO i1 i2)
    (D1 : ∀ A' : Around, A'.handled = none → Draws prog w A' i1 fp1 n1 P1 S1) (D2 : ∀ A' : Around, A'.handled = none → Draws prog w A' i2 fp2 n2 P2 S2) (hh : A.handled = none)
    (f1 : ∀ c ∈ fp1, c ≠ z ∧ c ≠ TO ∧ c ≠ i2) (f2 : ∀ c ∈ fp2, c ≠ z ∧ c ≠ TO ∧ c ≠ i1)
    (hz : IsZip s.heap z TI TO .none) (hTI : IsPair s.heap TI (.ref i1) (.ref i2)) (hTO : IsPair s.heap TO a b) (h1 : S1 k s.heap) (h2 : S2 k s.heap) (lt1 : k < n1) (lt2 : k < n2)
    (hQ : ∀ x y h' tk, P1 k x → P2 k y → IsZip h' z TI TO (rawInt s.heap.objs.size) → IsPair h' TO x y → S1 (k + 1) h' → S2 (k + 1) h' → IsPair h' s.heap.objs.size x y → h'.objs.size = s.heap.objs.size + 1 →
      (∀ c o, c ≠ z → c ≠ TO → c ≠ i1 → c ≠ i2 → s.heap.get? c = some o → h'.get? c = some o) → Q (.ref s.heap.objs.size) { s with heap := h', toks := tk }) :
    wpAny (model prog w) A (Builtin.«zip.__next__» ⟨[.ref z], []⟩) (fun fin s' => ∃ v, fin = .done (.ret v) ∧ Q v s') E s := by
  show wpAny _ _ (field (.ref z) 2 >>= _) _ _ _
  refine wpAny_bind (wpAny_field hz rfl (x := .bool false) rfl ?_)
  show wpAny _ _ (field (.ref z) 3 >>= _) _ _ _
  refine wpAny_bind (wpAny_field hz rfl (x := .ref TI) rfl ?_)
  refine wpAny_bind (wpAny_seqItems hTI rfl ?_)
  show wpAny _ _ (Builtin.SmallTypes.ownedTupleIsFree (.ref z) >>= _) _ _ _
  refine wpAny_bind ?_
  unfold Builtin.SmallTypes.ownedTupleIsFree
  refine wpAny_bind (wpAny_field hz rfl (x := .none) rfl (wpAny_pure ?_))
  simp only [if_true]
  refine wpAny_bind (wpAny_rule ?_)
  refine wpAny_bind (wpAny_field hz rfl (x := .ref TO) rfl ?_)
  refine wpAny_bind (wpAny_setField_rec hz (by simp) fun h₁ hz₁ hs₁ => ?_)
  replace hz₁ : IsZip h₁ z TI TO .ellipsis := hz₁
  refine wpAny_bind ?_
  simp only [List.zipIdx_cons, List.zipIdx_nil, List.forIn_cons, List.forIn_nil]
  refine wpAny_bind (wpAny_bind (wpAny_onRaise ?_))
  show wpAny _ _ (Builtin.SmallTypes.nextOf (.ref i1) >>= _) _ _ _
  refine wpAny_bind ((D1 _ hh).item k _ _ _ lt1 ((D1 A hh).frame _ _ _ h1 fun c hc o e => hs₁.extBut _ _ (f1 c hc).1 e) fun x h₂ tk₂ px h1₂ hs₂ => wpAny_pure ?_)
  have hs₂ : Heap.SameBut i1 h₁ h₂ := hs₂
  have hTO₂ : IsPair h₂ TO a b := hs₂.extBut _ _ D.TOi1 (hs₁.extBut _ _ D.TOz hTO)
  refine wpAny_bind (wpAny_seqItems hTO₂ rfl ?_)
  refine wpAny_bind (wpAny_updateSeq_pair hTO₂ fun h₃ hTO₃ hs₃ => ?_)
  have hs₃ : Heap.SameBut TO h₂ h₃ := hs₃
  replace hTO₃ : IsPair h₃ TO x b := hTO₃
  refine wpAny_bind (wpAny_letGo (wpAny_pure ?_))
  refine wpAny_bind (wpAny_bind (wpAny_onRaise ?_))
  show wpAny _ _ (Builtin.SmallTypes.nextOf (.ref i2) >>= _) _ _ _
  refine wpAny_bind ((D2 _ hh).item k _ _ _ lt2 ((D2 A hh).frame _ _ _ h2 fun c hc o e => hs₃.extBut _ _ (f2 c hc).2.1 (hs₂.extBut _ _ (f2 c hc).2.2 (hs₁.extBut _ _ (f2 c hc).1 e))) fun y h₄ tk₄ py h2₄ hs₄ => wpAny_pure ?_)
  have hs₄ : Heap.SameBut i2 h₃ h₄ := hs₄
  have hTO₄ : IsPair h₄ TO x b := hs₄.extBut _ _ D.TOi2 hTO₃
  refine wpAny_bind (wpAny_seqItems hTO₄ rfl ?_)
  refine wpAny_bind (wpAny_updateSeq_pair hTO₄ fun h₅ hTO₅ hs₅ => ?_)
  have hs₅ : Heap.SameBut TO h₄ h₅ := hs₅
  replace hTO₅ : IsPair h₅ TO x y := hTO₅
  refine wpAny_bind (wpAny_letGo (wpAny_pure (wpAny_pure ?_)))
  refine wpAny_bind (wpAny_seqItems hTO₅ rfl ?_)
  refine wpAny_bind (wpAny_newTuple ?_)
  have hsz : h₅.objs.size = s.heap.objs.size := by rw [hs₅.1, hs₄.1, hs₃.1, hs₂.1, hs₁.1]
  have hz₅ : IsZip h₅ z TI TO .ellipsis := hs₅.extBut _ _ D.TOz.symm (hs₄.extBut _ _ D.i2z.symm (hs₃.extBut _ _ D.TOz.symm (hs₂.extBut _ _ D.i1z.symm hz₁)))
  have hk₅ : ∀ c o, c ≠ z → c ≠ TO → c ≠ i1 → c ≠ i2 → s.heap.get? c = some o → h₅.get? c = some o := fun c o c1 c2 c3 c4 e =>
    hs₅.extBut _ _ c2 (hs₄.extBut _ _ c4 (hs₃.extBut _ _ c2 (hs₂.extBut _ _ c3 (hs₁.extBut _ _ c1 e))))
  have h1₅ : S1 (k + 1) h₅ := (D1 A hh).frame _ _ _ h1₂ fun c hc o e => hs₅.extBut _ _ (f1 c hc).2.1 (hs₄.extBut _ _ (f1 c hc).2.2 (hs₃.extBut _ _ (f1 c hc).2.1 e))
  have h2₅ : S2 (k + 1) h₅ := (D2 A hh).frame _ _ _ h2₄ fun c hc o e => hs₅.extBut _ _ (f2 c hc).2.1 e
  have hzlt : z < h₅.objs.size := Heap.lt_size hz₅
  show wpAny _ _ (Builtin.SmallTypes.ownedTupleHandOut (.ref z) (.ref h₅.objs.size) >>= _) _ _ _
  refine wpAny_bind ?_
  unfold Builtin.SmallTypes.ownedTupleHandOut
  have hz₆ : IsZip (h₅.push { cls := .type "tuple", data := .seq #[x, y] }) z TI TO .ellipsis := Heap.get?_push_of_some _ hz₅
  refine wpAny_bind (wpAny_setField_rec hz₆ (by simp) fun h₇ hz₇ hs₇ => ?_)
  replace hz₇ : IsZip h₇ z TI TO (rawInt h₅.objs.size) := hz₇
  refine wpAny_setField_rec hz₇ (by simp) fun h₈ hz₈ hs₈ => ?_
  replace hz₈ : IsZip h₈ z TI TO (rawInt h₅.objs.size) := hz₈
  have up : ∀ c o, c ≠ z → h₅.get? c = some o → h₈.get? c = some o := fun c o c1 e => hs₈.extBut _ _ c1 (hs₇.extBut _ _ c1 (Heap.get?_push_of_some _ e))
  have hT₈ : IsPair h₈ h₅.objs.size x y := hs₈.extBut _ _ (Nat.ne_of_gt hzlt) (hs₇.extBut _ _ (Nat.ne_of_gt hzlt) (Heap.get?_push_size _ rfl))
  have hz8 : h₈.objs.size = h₅.objs.size + 1 := by rw [hs₈.1, hs₇.1, Heap.size_push]
  rw [hsz] at hz₈ hT₈ hz8
  refine wpAny_pure ⟨_, rfl, ?_⟩
  show Q (.ref h₅.objs.size) _
  rw [hsz]
  exact hQ x y h₈ tk₄ px py hz₈ (up _ _ D.TOz hTO₅) ((D1 A hh).frame _ _ _ h1₅ fun c hc o e => up _ o (f1 c hc).1 e) ((D2 A hh).frame _ _ _ h2₅ fun c hc o e => up _ o (f2 c hc).1 e) hT₈ hz8 fun c o c1 c2 c3 c4 e => up c o c1 (hk₅ c o c1 c2 c3 c4 e)
theorem zipD_end {z TI TO i1 i2 : Addr} {fp1 fp2 : List Addr} {n1 n2 k : Nat} {P1 P2 : Nat → Value → Prop} {S1 S2 : Nat → Heap → Prop} {a b : Value} {Q : Fin → Shared → Prop} (D : Apart2 z TI TO i1 i2)
    (D1 : ∀ A' : Around, A'.handled = none → Draws prog w A' i1 fp1 n1 P1 S1) (D2 : ∀ A' : Around, A'.handled = none → Draws prog w A' i2 fp2 n2 P2 S2) (hh : A.handled = none)
    (f1 : ∀ c ∈ fp1, c ≠ z ∧ c ≠ TO ∧ c ≠ i2) (f2 : ∀ c ∈ fp2, c ≠ z ∧ c ≠ TO ∧ c ≠ i1)
    (hz : IsZip s.heap z TI TO .none) (hTI : IsPair s.heap TI (.ref i1) (.ref i2)) (hTO : IsPair s.heap TO a b) (h1 : S1 k s.heap) (h2 : S2 k s.heap) (hend : k = n1 ∨ (k < n1 ∧ k = n2))
    (hE : ∀ h' e tk, (∀ c o, c ≠ z → c ≠ TO → c ≠ i1 → c ≠ i2 → s.heap.get? c = some o → h'.get? c = some o) → (∃ o, h'.get? e = some o ∧ o.cls = .type "StopIteration") → E (.ref e) { s with heap := h', toks := tk }) :
    wpAny (model prog w) A (Builtin.«zip.__next__» ⟨[.ref z], []⟩) Q E s := by
  show wpAny _ _ (field (.ref z) 2 >>= _) _ _ _
  refine wpAny_bind (wpAny_field hz rfl (x := .bool false) rfl ?_)
  show wpAny _ _ (field (.ref z) 3 >>= _) _ _ _
  refine wpAny_bind (wpAny_field hz rfl (x := .ref TI) rfl ?_)
  refine wpAny_bind (wpAny_seqItems hTI rfl ?_)
  show wpAny _ _ (Builtin.SmallTypes.ownedTupleIsFree (.ref z) >>= _) _ _ _
  refine wpAny_bind ?_
  unfold Builtin.SmallTypes.ownedTupleIsFree
  refine wpAny_bind (wpAny_field hz rfl (x := .none) rfl (wpAny_pure ?_))
  simp only [if_true]
  refine wpAny_bind (wpAny_rule ?_)
  refine wpAny_bind (wpAny_field hz rfl (x := .ref TO) rfl ?_)
  refine wpAny_bind (wpAny_setField_rec hz (by simp) fun h₁ hz₁ hs₁ => ?_)
  replace hz₁ : IsZip h₁ z TI TO .ellipsis := hz₁
  refine wpAny_bind ?_
  simp only [List.zipIdx_cons, List.zipIdx_nil, List.forIn_cons, List.forIn_nil]
  refine wpAny_bind (wpAny_bind (wpAny_onRaise ?_))
  show wpAny _ _ (Builtin.SmallTypes.nextOf (.ref i1) >>= _) _ _ _
  have g1 : S1 k h₁ := (D1 A hh).frame _ _ _ h1 fun c hc o e => hs₁.extBut _ _ (f1 c hc).1 e
  rcases hend with hk | ⟨lt1, hk⟩
  · subst hk
    refine wpAny_bind ((D1 _ hh).done _ _ _ g1 fun h₂ e hs₂ he => ?_)
    have hs₂ : Heap.ExtBut i1 h₁ h₂ := hs₂
    obtain ⟨oe, hoe, hce⟩ := he
    have hz₂ : IsZip h₂ z TI TO .ellipsis := hs₂ _ _ D.i1z.symm hz₁
    have hez : e ≠ z := fun x => by subst x; rw [hz₂] at hoe; cases hoe; simp at hce
    refine wpAny_setField_rec hz₂ (by simp) fun h₃ _ hs₃ => hE h₃ e _ (fun c o c1 _ c3 _ x => hs₃.extBut _ _ c1 (hs₂ _ _ c3 (hs₁.extBut _ _ c1 x))) ⟨oe, hs₃.extBut _ _ hez hoe, hce⟩
  · refine wpAny_bind ((D1 _ hh).item k _ _ _ lt1 g1 fun x h₂ tk₂ px h1₂ hs₂ => wpAny_pure ?_)
    have hs₂ : Heap.SameBut i1 h₁ h₂ := hs₂
    have hTO₂ : IsPair h₂ TO a b := hs₂.extBut _ _ D.TOi1 (hs₁.extBut _ _ D.TOz hTO)
    refine wpAny_bind (wpAny_seqItems hTO₂ rfl ?_)
    refine wpAny_bind (wpAny_updateSeq_pair hTO₂ fun h₃ hTO₃ hs₃ => ?_)
    have hs₃ : Heap.SameBut TO h₂ h₃ := hs₃
    refine wpAny_bind (wpAny_letGo (wpAny_pure ?_))
    refine wpAny_bind (wpAny_bind (wpAny_onRaise ?_))
    show wpAny _ _ (Builtin.SmallTypes.nextOf (.ref i2) >>= _) _ _ _
    subst hk
    refine wpAny_bind ((D2 _ hh).done _ _ _ ((D2 A hh).frame _ _ _ h2 fun c hc o e => hs₃.extBut _ _ (f2 c hc).2.1 (hs₂.extBut _ _ (f2 c hc).2.2 (hs₁.extBut _ _ (f2 c hc).1 e))) fun h₄ e hs₄ he => ?_)
    have hs₄ : Heap.ExtBut i2 h₃ h₄ := hs₄
    obtain ⟨oe, hoe, hce⟩ := he
    have hz₄ : IsZip h₄ z TI TO .ellipsis := hs₄ _ _ D.i2z.symm (hs₃.extBut _ _ D.TOz.symm (hs₂.extBut _ _ D.i1z.symm hz₁))
    have hez : e ≠ z := fun x => by subst x; rw [hz₄] at hoe; cases hoe; simp at hce
    refine wpAny_setField_rec hz₄ (by simp) fun h₅ _ hs₅ => hE h₅ e _ (fun c o c1 c2 c3 c4 x => hs₅.extBut _ _ c1 (hs₄ _ _ c4 (hs₃.extBut _ _ c2 (hs₂.extBut _ _ c3 (hs₁.extBut _ _ c1 x))))) ⟨oe, hs₅.extBut _ _ hez hoe, hce⟩
theorem nextD_item {z TI TO i1 i2 : Addr} {fp1 fp2 : List Addr} {n1 n2 k : Nat} {P1 P2 : Nat → Value → Prop} {S1 S2 : Nat → Heap → Prop} {a b : Value} {Q : Option Value → Shared → Prop} (D : Apart2 z TI TO i1 i2)
    (D1 : ∀ A' : Around, A'.handled = none → Draws prog w A' i1 fp1 n1 P1 S1) (D2 : ∀ A' : Around, A'.handled = none → Draws prog w A' i2 fp2 n2 P2 S2) (hh : A.handled = none)
    (f1 : ∀ c ∈ fp1, c ≠ z ∧ c ≠ TO ∧ c ≠ i2) (f2 : ∀ c ∈ fp2, c ≠ z ∧ c ≠ TO ∧ c ≠ i1)
    (hz : IsZip s.heap z TI TO .none) (hTI : IsPair s.heap TI (.ref i1) (.ref i2)) (hTO : IsPair s.heap TO a b) (h1 : S1 k s.heap) (h2 : S2 k s.heap) (lt1 : k < n1) (lt2 : k < n2)
    (hQ : ∀ x y h' tk, P1 k x → P2 k y → IsZip h' z TI TO (rawInt s.heap.objs.size) → IsPair h' TO x y → S1 (k + 1) h' → S2 (k + 1) h' → IsPair h' s.heap.objs.size x y → h'.objs.size = s.heap.objs.size + 1 →
      (∀ c o, c ≠ z → c ≠ TO → c ≠ i1 → c ≠ i2 → s.heap.get? c = some o → h'.get? c = some o) → Q (some (.ref s.heap.objs.size)) { s with heap := h', toks := tk }) :
    wpAny (model prog w) A (pyNext (.ref z)) Q E s := by
  have hT : s.TypeIs (.ref z) "zip" := ⟨_, hz, rfl⟩
  unfold pyNext
  exact wpAny_bind (wpAny_attempt (wpAny_callSpecial?_slot (name := Str.ofString "__next__") hT F.slot_zip_next
    (wpAny_call_entry F.slot_zip_next hT F.entry_zip_next
      (zipD_item D D1 D2 hh f1 f2 hz hTI hTO h1 h2 lt1 lt2 fun x y h' tk a1 a2 a3 a4 a5 a6 a7 a8 a9 => wpAny_pure (hQ x y h' tk a1 a2 a3 a4 a5 a6 a7 a8 a9)) (F.args_zip_next_1 _))))
theorem nextD_end {z TI TO i1 i2 : Addr} {fp1 fp2 : List Addr} {n1 n2 k : Nat} {P1 P2 : Nat → Value → Prop} {S1 S2 : Nat → Heap → Prop} {a b : Value} {Q : Option Value → Shared → Prop} (D : Apart2 z TI TO i1 i2)
    (D1 : ∀ A' : Around, A'.handled = none → Draws prog w A' i1 fp1 n1 P1 S1) (D2 : ∀ A' : Around, A'.handled = none → Draws prog w A' i2 fp2 n2 P2 S2) (hh : A.handled = none)
    (f1 : ∀ c ∈ fp1, c ≠ z ∧ c ≠ TO ∧ c ≠ i2) (f2 : ∀ c ∈ fp2, c ≠ z ∧ c ≠ TO ∧ c ≠ i1)
    (hz : IsZip s.heap z TI TO .none) (hTI : IsPair s.heap TI (.ref i1) (.ref i2)) (hTO : IsPair s.heap TO a b) (h1 : S1 k s.heap) (h2 : S2 k s.heap) (hend : k = n1 ∨ (k < n1 ∧ k = n2))
    (hQ : ∀ h' tk, (∀ c o, c ≠ z → c ≠ TO → c ≠ i1 → c ≠ i2 → s.heap.get? c = some o → h'.get? c = some o) → Q none { s with heap := h', toks := tk }) : wpAny (model prog w) A (pyNext (.ref z)) Q E s := by
  have hT : s.TypeIs (.ref z) "zip" := ⟨_, hz, rfl⟩
  unfold pyNext
  refine wpAny_bind (wpAny_attempt (wpAny_callSpecial?_slot (name := Str.ofString "__next__") hT F.slot_zip_next
    (wpAny_call_entry F.slot_zip_next hT F.entry_zip_next (zipD_end D D1 D2 hh f1 f2 hz hTI hTO h1 h2 hend fun h' e tk hk he => ?_) (F.args_zip_next_1 _))))
  obtain ⟨o, ho, hc⟩ := he
  refine wpAny_bind (wpAny_isInstance (T := "StopIteration") (b := true) ⟨o, ho, hc⟩ isSubtype_stop ?_)
  exact wpAny_pure (hQ _ _ hk)
/-! ### the making -/
abbrev strIt (x : Str) (t : Tok) : Obj := { cls := .type (strIterType x), data := .fields #[.str x t, .int 0 0] }
abbrev lstIt (l : Addr) : Obj := { cls := .type "list_iterator", data := .fields #[.ref l, .int 0 0] }
abbrev zHeap (h : Heap) (o1 o2 : Obj) : Heap := ((((h.push o1).push o2).push { cls := .type "tuple", data := .seq #[.ref h.objs.size, .ref (h.push o1).objs.size] }).push { cls := .type "tuple", data := .seq #[.none, .none] }).push
  { cls := .type "zip", data := .fields #[.none, .bool false, .bool false, .ref ((h.push o1).push o2).objs.size, .ref (((h.push o1).push o2).push { cls := .type "tuple", data := .seq #[.ref h.objs.size, .ref (h.push o1).objs.size] }).objs.size] }
abbrev zAddr (h : Heap) (o1 o2 : Obj) : Addr := ((((h.push o1).push o2).push { cls := .type "tuple", data := .seq #[.ref h.objs.size, .ref (h.push o1).objs.size] }).push { cls := .type "tuple", data := .seq #[.none, .none] }).objs.size
set_option maxHeartbeats 4000000 in
theorem meets_zipLS (l1 : Addr) (xs : Array Value) (x : Str) (t : Tok) :
    Meets (Builtin.«zip.__new__» ⟨[.type "zip", .ref l1, .str x t], []⟩) (fun _ R s => s.heap.IsList l1 xs ∧ R (.ok (.ret (.ref (zAddr s.heap (lstIt l1) (strIt x t))))) { s with heap := zHeap s.heap (lstIt l1) (strIt x t) }) :=
  .of_wp fun prog w A R s h => by
    obtain ⟨hp, g, d, tk, os⟩ := s; obtain ⟨hl1, h⟩ := h
    have hsub := sub_zip
    have hL1 : Heap.IsList (Shared.heap ⟨hp, g, d, tk, os⟩) l1 xs := hl1
    wp_walk using wpAny_pyIter_list hL1, wpAny_pyIter_strU
    exact ⟨_, rfl, h⟩
set_option maxHeartbeats 4000000 in
theorem meets_zipSS (y : Str) (u : Tok) (x : Str) (t : Tok) :
    Meets (Builtin.«zip.__new__» ⟨[.type "zip", .str y u, .str x t], []⟩) (fun _ R s => R (.ok (.ret (.ref (zAddr s.heap (strIt y u) (strIt x t))))) { s with heap := zHeap s.heap (strIt y u) (strIt x t) }) :=
  .of_wp fun prog w A R s h => by
    obtain ⟨hp, g, d, tk, os⟩ := s
    have hsub := sub_zip
    wp_walk using wpAny_pyIter_strU
    exact ⟨_, rfl, h⟩
end
end L2

set_option Elab.async false
set_option linter.all false
set_option maxRecDepth 100000
namespace L2
open PySem PySem.Spec PyProof.Rows
/-- a side of zip: a list or a text -/
inductive Src where
  | l (a : Addr)
  | s (z : Str)
def srcV : Src → V
  | .l a => .ref a
  | .s z => .str z
def srcOk (K : PySem.W.Frag) (H : Hp) : Src → Prop
  | .l a => ∃ xs, SqL K H a xs
  | .s _ => True
def srcAt (K : PySem.W.Frag) (H : Hp) : Src → Nat → V → Prop
  | .l a, i, v => ∃ xs, SqL K H a xs ∧ xs[i]? = some v
  | .s z, i, v => ∃ c, z.cps[i]? = some c ∧ v = .str ⟨#[c]⟩
def srcEnd (K : PySem.W.Frag) (H : Hp) : Src → Nat → Prop
  | .l a, i => ∃ xs, SqL K H a xs ∧ xs.length = i
  | .s z, i => z.cps.size = i
def srcSt (it : Addr) (t : Tok) : Src → Nat → Heap → Prop
  | .l a, i, h => h.IsListIter it a i
  | .s z, i, h => h.IsStrIter it (strIterType z) z t i
def srcFp (it : Addr) : Src → List Addr
  | .l a => [it, a]
  | .s _ => [it]
def srcIt (t : Tok) : Src → Obj
  | .l a => lstIt a
  | .s z => strIt z t
theorem srcAt_uniq {X : Cx} {pins : List (Addr × Obj)} {σ : St} {H : Hp} {s : Shared} (I : Inv X pins σ H s) {S : Src} {i : Nat} {u v : V} (h1 : srcAt X.K H S i u) (h2 : srcAt X.K H S i v) : u = v := by
  cases S with
  | l a =>
    obtain ⟨xs, q1, e1⟩ := h1
    obtain ⟨ys, q2, e2⟩ := h2
    rw [I.list_inj q2 q1, e1] at e2
    exact Option.some.inj e2
  | s z =>
    obtain ⟨c, e1, rfl⟩ := h1
    obtain ⟨d, e2, rfl⟩ := h2
    rw [e1] at e2
    cases e2
    rfl
theorem src_draws {X : Cx} {pins : List (Addr × Obj)} {σ : St} {H : Hp} {s : Shared} (I : Inv X pins σ H s) {it : Addr} {t : Tok} {S : Src} {i : Nat} (st : srcSt it t S i s.heap) (ok : srcOk X.K H S) (ap : ∀ a, S = .l a → a ≠ it) :
    ∃ (n : Nat) (Pd : Nat → Value → Prop) (Sd : Nat → Heap → Prop), (∀ A' : Around, A'.handled = none → Draws X.prog X.w A' it (srcFp it S) n Pd Sd) ∧ Sd i s.heap ∧ (∀ h', Sd (i + 1) h' → srcSt it t S (i + 1) h') ∧
      (∀ v, srcAt X.K H S i v → i < n ∧ ∀ u, Pd i u → RelV v u) ∧ (srcEnd X.K H S i → i = n) := by
  cases S with
  | l a =>
    obtain ⟨xs, q⟩ := ok
    obtain ⟨its, rv, p1, _⟩ := I.list q
    have len := rv.length
    refine ⟨_, _, _, fun A' hh => Draws.list hh it a (ap a rfl) its.toArray, ⟨st, p1.isList⟩, fun h' z => z.1, fun v hv => ?_, fun he => ?_⟩
    · obtain ⟨ys, q2, e⟩ := hv
      rw [I.list_inj q2 q] at e
      obtain ⟨u, hu, r⟩ := rv.get e
      refine ⟨by have := (List.getElem?_eq_some_iff.mp hu).1; simpa using this, fun u' hu' => ?_⟩
      have : its[i]? = some u' := by simpa using hu'
      rw [hu] at this
      cases this
      exact r
    · obtain ⟨ys, q2, e⟩ := he
      rw [I.list_inj q2 q] at e
      simp only [List.size_toArray]
      omega
  | s z =>
    refine ⟨_, _, _, fun A' hh => drawsStr hh it z t, st, fun h' z => z, fun v hv => ?_, fun he => he.symm⟩
    obtain ⟨c, e, rfl⟩ := hv
    refine ⟨by rw [Array.getElem?_eq_some_iff] at e; exact e.1, fun u ⟨d, tk, e2, hu⟩ => ?_⟩
    rw [e] at e2
    cases e2
    exact ⟨tk, hu⟩
def Itz2 (K : PySem.W.Frag) (S1 S2 : Src) : It where
  go := fun i H => (∃ u, srcAt K H S1 i u) ∧ ∃ v, srcAt K H S2 i v
  yld := fun i H x H' => ∃ T, x = .ref T ∧ H T = none ∧ ∀ u v, srcAt K H S1 i u → srcAt K H S2 i v → H' = upd H T (.tup [u, v])
  stop := fun i H => srcOk K H S1 ∧ srcOk K H S2 ∧ (srcEnd K H S1 i ∨ ((∃ u, srcAt K H S1 i u) ∧ srcEnd K H S2 i))
theorem srcAt_ok {K : PySem.W.Frag} {H : Hp} {S : Src} {i : Nat} {u : V} (h : srcAt K H S i u) : srcOk K H S := by
  cases S with
  | l a => obtain ⟨xs, q, _⟩ := h; exact ⟨xs, q⟩
  | s z => trivial
def Zip2St (z TI TO i1 i2 : Addr) (t1 t2 : Tok) (S1 S2 : Src) (i : Nat) (h : Heap) : Prop := IsZip h z TI TO .none ∧ IsPair h TI (.ref i1) (.ref i2) ∧ (∃ p q, IsPair h TO p q) ∧ srcSt i1 t1 S1 i h ∧ srcSt i2 t2 S2 i h
theorem srcSt_at {it : Addr} {t : Tok} {S : Src} {i : Nat} {h h' : Heap} (st : srcSt it t S i h) (k : ∀ o, h.get? it = some o → h'.get? it = some o) : srcSt it t S i h' := by
  cases S with
  | l a => exact Heap.IsListIter.at st k
  | s z => obtain ⟨o, e, c⟩ := st; exact ⟨o, k o e, c⟩
theorem srcSt_obj {it : Addr} {t : Tok} {S : Src} {i : Nat} {h : Heap} (st : srcSt it t S i h) : ∃ o, h.get? it = some o ∧ ∀ v, o.data ≠ .cell v := by
  cases S with
  | l a => obtain ⟨o, e, _, d⟩ := st; exact ⟨o, e, fun v z => by rw [d] at z; cases z⟩
  | s z => obtain ⟨o, e, _, d⟩ := st; exact ⟨o, e, fun v z => by rw [d] at z; cases z⟩
theorem turn_zip2 {P : Program} {w : World} {K : PySem.W.Frag} {es : List Expr} {kx : Nat} {tp : Pos} {z TI TO i1 i2 : Addr} {t1 t2 : Tok} {S1 S2 : Src} (D : Apart2 z TI TO i1 i2)
    (a1 : ∀ a, S1 = .l a → a ≠ z ∧ a ≠ TO ∧ a ≠ i1 ∧ a ≠ i2) (a2 : ∀ a, S2 = .l a → a ≠ z ∧ a ≠ TO ∧ a ≠ i1 ∧ a ≠ i2) :
    Turn P w K (.Tuple es kx tp) (Itz2 K S1 S2) [z, TI, TO, i1, i2] z (Zip2St z TI TO i1 i2 t1 t2 S1 S2) := by
  have f1 : ∀ c ∈ srcFp i1 S1, c ≠ z ∧ c ≠ TO ∧ c ≠ i2 := fun c hc => by
    cases S1 with
    | l a =>
      rcases List.mem_cons.mp hc with e | e
      · subst e; exact ⟨D.i1z, D.TOi1.symm, D.i12⟩
      · rw [List.mem_singleton.mp e]; exact ⟨(a1 a rfl).1, (a1 a rfl).2.1, (a1 a rfl).2.2.2⟩
    | s x => rw [List.mem_singleton.mp hc]; exact ⟨D.i1z, D.TOi1.symm, D.i12⟩
  have f2 : ∀ c ∈ srcFp i2 S2, c ≠ z ∧ c ≠ TO ∧ c ≠ i1 := fun c hc => by
    cases S2 with
    | l a =>
      rcases List.mem_cons.mp hc with e | e
      · subst e; exact ⟨D.i2z, D.TOi2.symm, D.i12.symm⟩
      · rw [List.mem_singleton.mp e]; exact ⟨(a2 a rfl).1, (a2 a rfl).2.1, (a2 a rfl).2.2.1⟩
    | s x => rw [List.mem_singleton.mp hc]; exact ⟨D.i2z, D.TOi2.symm, D.i12.symm⟩
  exact {
    mem := by simp
    obj := fun i h st c hc => by
      obtain ⟨s1, s2, ⟨p, q, s3⟩, s4, s5⟩ := st
      simp only [List.mem_cons, List.not_mem_nil, or_false] at hc
      rcases hc with e | e | e | e | e
      · subst e; exact ⟨_, s1, fun v z => by cases (show Data.fields _ = Data.cell v from z)⟩
      · subst e; exact ⟨_, s2, fun v z => by cases (show Data.seq _ _ = Data.cell v from z)⟩
      · subst e; exact ⟨_, s3, fun v z => by cases (show Data.seq _ _ = Data.cell v from z)⟩
      · subst e; exact srcSt_obj s4
      · subst e; exact srcSt_obj s5
    keep := fun i h h' st k => by
      obtain ⟨s1, s2, ⟨p, q, s3⟩, s4, s5⟩ := st
      exact ⟨k _ (by simp) _ s1, k _ (by simp) _ s2, ⟨p, q, k _ (by simp) _ s3⟩, srcSt_at s4 fun o e => k _ (by simp) o e, srcSt_at s5 fun o e => k _ (by simp) o e⟩
    item := by
      intro X hP hw hK hc i pins s σ H E I hf st hg
      subst hP hw hK
      obtain ⟨⟨x, hx⟩, y, hy⟩ := hg
      obtain ⟨s1, s2, ⟨p, q, s3⟩, s4, s5⟩ := st
      obtain ⟨n1, P1, Q1, D1, g1, e1, v1, _⟩ := src_draws I s4 (srcAt_ok hx) (fun a e => (a1 a e).2.2.1)
      obtain ⟨n2, P2, Q2, D2, g2, e2, v2, _⟩ := src_draws I s5 (srcAt_ok hy) (fun a e => (a2 a e).2.2.2)
      obtain ⟨l1, r1⟩ := v1 x hx
      obtain ⟨l2, r2⟩ := v2 y hy
      refine nextD_item D D1 D2 (I.ok.hd hc) f1 f2 s1 s2 s3 g1 g2 l1 l2 fun u v h1 tk pu pv z1 w1 j1 j2 hT hsz kk => ?_
      have ru := r1 u pu
      have rw' := r2 v pv
      refine ⟨_, rfl, wpAny_letOwnedTupleGo_zip z1 fun h2 z2 sb => ?_⟩
      have sb : Heap.SameBut z h1 h2 := sb
      have zl : z < s.heap.objs.size := Heap.lt_size s1
      have TIl : TI < s.heap.objs.size := Heap.lt_size s2
      have TOl : TO < s.heap.objs.size := Heap.lt_size s3
      have i1l : i1 < s.heap.objs.size := by obtain ⟨_, e, _⟩ := srcSt_obj s4; exact Heap.lt_size e
      have i2l : i2 < s.heap.objs.size := by obtain ⟨_, e, _⟩ := srcSt_obj s5; exact Heap.lt_size e
      have up : ∀ c o, c ≠ z → h1.get? c = some o → h2.get? c = some o := fun c o c1 e => (sb.2 c c1).trans e
      have hTn : H s.heap.objs.size = none := I.hok.fresh (Nat.le_refl _)
      have I1 : Inv X pins σ (upd H s.heap.objs.size (.tup [x, y])) { s with heap := s.heap.push { cls := .type "tuple", data := .seq #[u, v] }, toks := tk } :=
        I.laid (fun c o e => Heap.get?_push_of_some _ e) (Nat.le_refl _) ⟨by show 2 ≤ sizeLine; decide, [u, v], .cons ru (.cons rw' .nil), ⟨_, Heap.get?_push_size _ rfl, rfl, _, rfl⟩⟩
      have fp2 : ∀ c ∈ [z, TI, TO, i1, i2], FpOk X pins (upd H s.heap.objs.size (.tup [x, y])) c := fun c hc => by
        obtain ⟨f0, f⟩ := hf c hc
        refine ⟨?_, f⟩
        have lt : c < s.heap.objs.size := by
          simp only [List.mem_cons, List.not_mem_nil, or_false] at hc
          rcases hc with e | e | e | e | e <;> subst e <;> assumption
        rw [upd_ne (Nat.ne_of_lt lt)]
        exact f0
      have I2 : Inv X pins σ (upd H s.heap.objs.size (.tup [x, y])) { s with heap := h2, toks := tk } := by
        refine Inv.turnedL (s := { s with heap := s.heap.push { cls := .type "tuple", data := .seq #[u, v] }, toks := tk }) (h' := h2) (t' := tk) (its := [z, TI, TO, i1, i2]) I1 (fun c o hc e => ?_) fp2
        simp only [List.mem_cons, List.not_mem_nil, or_false, not_or] at hc
        refine up c o hc.1 ?_
        by_cases hcs : c = s.heap.objs.size
        · subst hcs
          have e' : (s.heap.push { cls := .type "tuple", data := .seq #[u, v] }).get? s.heap.objs.size = some { cls := .type "tuple", data := .seq #[u, v] } := Heap.get?_push_size _ rfl
          rw [e'] at e
          cases e
          exact hT
        · have e' : s.heap.get? c = some o := by
            rw [← e]
            exact (Heap.get?_push_ne _ _ _ hcs).symm
          exact kk c o hc.1 hc.2.2.1 hc.2.2.2.1 hc.2.2.2.2 e'
      refine ⟨.ref s.heap.objs.size, _, I2, rfl, ⟨s.heap.objs.size, rfl, hTn, fun u' v' q1 q2 => ?_⟩, ⟨z2, up _ _ D.TIz (kk _ _ D.TIz D.TITO D.TIi1 D.TIi2 s2), ⟨u, v, up _ _ D.TOz w1⟩, srcSt_at (e1 _ j1) fun o e => up _ o D.i1z e, srcSt_at (e2 _ j2) fun o e => up _ o D.i2z e⟩, fun c hc => (fp2 c hc).1⟩
      rw [srcAt_uniq I q1 hx, srcAt_uniq I q2 hy]
    done := by
      intro X hP hw hK hc i pins s σ H E I hf st hg
      subst hP hw hK
      obtain ⟨o1, o2, hend⟩ := hg
      obtain ⟨s1, s2, ⟨p, q, s3⟩, s4, s5⟩ := st
      obtain ⟨n1, P1, Q1, D1, g1, e1, v1, d1⟩ := src_draws I s4 o1 (fun a e => (a1 a e).2.2.1)
      obtain ⟨n2, P2, Q2, D2, g2, e2, v2, d2⟩ := src_draws I s5 o2 (fun a e => (a2 a e).2.2.2)
      have he : i = n1 ∨ (i < n1 ∧ i = n2) := by
        rcases hend with h | ⟨⟨u, hu⟩, h⟩
        · exact .inl (d1 h)
        · exact .inr ⟨(v1 u hu).1, d2 h⟩
      refine nextD_end D D1 D2 (I.ok.hd hc) f1 f2 s1 s2 s3 g1 g2 he fun h' tk kk => ⟨rfl, I.turnedL (t' := tk) (its := [z, TI, TO, i1, i2]) (fun c o hc e => ?_) hf⟩
      simp only [List.mem_cons, List.not_mem_nil, or_false, not_or] at hc
      exact kk c o hc.1 hc.2.2.1 hc.2.2.2.1 hc.2.2.2.2 e
    self := fun _ _ _ _ _ st h => wpAny_pyIter_zip st.1 h }
theorem zHeap_is {h : Heap} {o1 o2 : Obj} (e1 : o1.isFreed = false) (e2 : o2.isFreed = false) : zAddr h o1 o2 = h.objs.size + 4 ∧ IsZip (zHeap h o1 o2) (h.objs.size + 4) (h.objs.size + 2) (h.objs.size + 3) .none ∧
    IsPair (zHeap h o1 o2) (h.objs.size + 2) (.ref h.objs.size) (.ref (h.objs.size + 1)) ∧ IsPair (zHeap h o1 o2) (h.objs.size + 3) .none .none ∧ (zHeap h o1 o2).get? h.objs.size = some o1 ∧ (zHeap h o1 o2).get? (h.objs.size + 1) = some o2 ∧
    ∀ c o, h.get? c = some o → (zHeap h o1 o2).get? c = some o := by
  have z1 : (h.push o1).objs.size = h.objs.size + 1 := Heap.size_push ..
  have z2 : ((h.push o1).push o2).objs.size = h.objs.size + 2 := by rw [Heap.size_push, z1]
  have z3 : (((h.push o1).push o2).push { cls := .type "tuple", data := .seq #[.ref h.objs.size, .ref (h.push o1).objs.size] }).objs.size = h.objs.size + 3 := by rw [Heap.size_push, z2]
  have z4 : zAddr h o1 o2 = h.objs.size + 4 := by unfold zAddr; rw [Heap.size_push, z3]
  have g5 : (zHeap h o1 o2).get? (zAddr h o1 o2) = some _ := Heap.get?_push_size _ rfl
  have g4 : (zHeap h o1 o2).get? (((h.push o1).push o2).push { cls := .type "tuple", data := .seq #[.ref h.objs.size, .ref (h.push o1).objs.size] }).objs.size = some _ := Heap.get?_push_of_some _ (Heap.get?_push_size _ rfl)
  have g3 : (zHeap h o1 o2).get? ((h.push o1).push o2).objs.size = some _ := Heap.get?_push_of_some _ (Heap.get?_push_of_some _ (Heap.get?_push_size _ rfl))
  have g2 : (zHeap h o1 o2).get? (h.push o1).objs.size = some o2 := Heap.get?_push_of_some _ (Heap.get?_push_of_some _ (Heap.get?_push_of_some _ (Heap.get?_push_size _ e2)))
  have g1 : (zHeap h o1 o2).get? h.objs.size = some o1 := Heap.get?_push_of_some _ (Heap.get?_push_of_some _ (Heap.get?_push_of_some _ (Heap.get?_push_of_some _ (Heap.get?_push_size _ e1))))
  refine ⟨z4, ?_, ?_, ?_, g1, ?_, fun c o x => Heap.get?_push_of_some _ (Heap.get?_push_of_some _ (Heap.get?_push_of_some _ (Heap.get?_push_of_some _ (Heap.get?_push_of_some _ x))))⟩
  · rw [z4, z2, z3] at g5; exact g5
  · rw [z2, z1] at g3; exact g3
  · rw [z3] at g4; exact g4
  · rw [z1] at g2; exact g2
theorem ane {a b : Nat} (h : a ≠ b) : @Ne Addr a b := h
theorem lne {a n : Nat} (h : a < n) (k : Nat) : @Ne Addr a (n + k) := fun z => by have z : a = n + k := z; omega
theorem apart2_new (n : Nat) : Apart2 (n + 4) (n + 2) (n + 3) n (n + 1) where
  TIz := ane (by omega)
  TOz := ane (by omega)
  i1z := ane (by omega)
  i2z := ane (by omega)
  TITO := ane (by omega)
  TIi1 := ane (by omega)
  TIi2 := ane (by omega)
  TOi1 := ane (by omega)
  TOi2 := ane (by omega)
  i12 := ane (by omega)
section
variable {X : Cx} {es : List Expr} {kx : Nat} {tp : Pos}
/-- which pairs there is a rule for -/
def zOk : Src → Src → Prop
  | .s _, .l _ => False
  | _, _ => True
def iZip2 (K : PySem.W.Frag) (ta : TA) : TI := fun σ H R => ta σ H fun vs H1 => ∃ S1 S2, vs = [srcV S1, srcV S2] ∧ zOk S1 S2 ∧ srcOk K H1 S1 ∧ srcOk K H1 S2 ∧ R (Itz2 K S1 S2) H1
theorem pi_zip2 {K : PySem.W.Frag} {a b : Expr} {ta : TA} {p pos : Pos} (hg : Gl X "zip") (hm : X.mg "zip" = none) (ha : PA X [a, b] ta) (hK : X.K = K := by rfl) (hs : starEach [a, b] X.env = [(false, eval a X.env), (false, eval b X.env)] := by rfl) (hs2 : starEach [b] X.env = [(false, eval b X.env)] := by rfl) :
    PI X (.Tuple es kx tp) (.Call (.Name "zip" p) [a, b] [] pos) (iZip2 K ta) := by
  subst hK
  intro pins s σ H R I h
  refine Call_ (ld_blt I hg hm bt_zip (PyProof.Rows.callWith_type1 (thn (ha pos pins s σ H _ I h) fun us s1 ⟨vs, H1, I1, r1, q1⟩ => ?_) (by rw [hs, hs2]) (by rw [hs2]; rfl)))
  obtain ⟨S1, S2, e, hz, o1, o2, q⟩ := q1
  subst e
  obtain ⟨u1, u2, rfl, ru1, ru2⟩ := r1.two
  have fin : ∀ (t1 t2 : Tok) (h' : Heap) (tk : Nat), IsZip h' (s1.heap.objs.size + 4) (s1.heap.objs.size + 2) (s1.heap.objs.size + 3) .none → IsPair h' (s1.heap.objs.size + 2) (.ref s1.heap.objs.size) (.ref (s1.heap.objs.size + 1)) → IsPair h' (s1.heap.objs.size + 3) .none .none →
      srcSt s1.heap.objs.size t1 S1 0 h' → srcSt (s1.heap.objs.size + 1) t2 S2 0 h' → (∀ c o, s1.heap.get? c = some o → h'.get? c = some o) →
      wpAny (model X.prog X.w) X.A (pyIter (.ref (s1.heap.objs.size + 4))) (PIE X pins σ (.Tuple es kx tp) R) X.xe { s1 with heap := h', toks := tk } := fun t1 t2 h' tk hzz hTI hTO j1 j2 kk => by
    refine wpAny_pyIter_zip hzz ?_
    have lt : ∀ S : Src, srcOk X.K H1 S → ∀ a, S = .l a → a < s1.heap.objs.size := fun S ok a e => by
      subst e
      obtain ⟨xs, q⟩ := ok
      obtain ⟨its, _, p1, _⟩ := I1.list q
      obtain ⟨o, e, _⟩ := p1.isList
      exact Heap.lt_size e
    refine ⟨_, [s1.heap.objs.size + 4, s1.heap.objs.size + 2, s1.heap.objs.size + 3, s1.heap.objs.size, s1.heap.objs.size + 1], _, _, H1, rfl, I1.kept (t' := tk) kk, turn_zip2 (t1 := t1) (t2 := t2) (apart2_new _) (fun a e => ?_) (fun a e => ?_),
      ⟨hzz, hTI, ⟨_, _, hTO⟩, j1, j2⟩, fun c hc => ?_, q⟩
    · have := lt S1 o1 a e; exact ⟨lne this 4, lne this 3, lne this 0, lne this 1⟩
    · have := lt S2 o2 a e; exact ⟨lne this 4, lne this 3, lne this 0, lne this 1⟩
    · have le : s1.heap.objs.size ≤ c := by
        simp only [List.mem_cons, List.not_mem_nil, or_false] at hc
        rcases hc with e | e | e | e | e <;> subst e <;> omega
      exact I1.fpOk le (I1.hok.fresh le)
  cases S1 with
  | l a =>
    cases ru1
    obtain ⟨xs, hq1⟩ := id o1
    obtain ⟨its1, rv1, p1, _⟩ := I1.list hq1
    cases S2 with
    | l b =>
      cases ru2
      obtain ⟨ys, hq2⟩ := id o2
      obtain ⟨its2, rv2, p2, _⟩ := I1.list hq2
      refine call_zip_2 p1.isList p2.isList fun h' hzz hTI hTO j1 j2 hsz kk => fin 0 0 h' s1.toks hzz hTI hTO j1 j2 kk
    | s x =>
      obtain ⟨t, rfl⟩ := ru2
      refine callType_new F.called_zip (by decide) (F.typeCall_zip_2 _ _) (F.newCall_zip_2 _ _) (fun obj => F.args_object_init_3 obj _ _) F.entry_zip_new (meets_zipLS a its1.toArray x t) ⟨p1.isList, ?_⟩
      obtain ⟨z4, g5, g3, g4, g1, g2, kk⟩ := zHeap_is (h := s1.heap) (o1 := lstIt a) (o2 := strIt x t) rfl rfl
      show _ ∧ _
      rw [z4]
      exact ⟨⟨_, g5, rfl⟩, fin 0 t _ s1.toks g5 g3 g4 ⟨_, g1, rfl, rfl⟩ ⟨_, g2, rfl, rfl⟩ kk⟩
  | s y =>
    obtain ⟨t1, rfl⟩ := ru1
    cases S2 with
    | l b => exact hz.elim
    | s x =>
      obtain ⟨t, rfl⟩ := ru2
      refine callType_new F.called_zip (by decide) (F.typeCall_zip_2 _ _) (F.newCall_zip_2 _ _) (fun obj => F.args_object_init_3 obj _ _) F.entry_zip_new (meets_zipSS y t1 x t) ?_
      obtain ⟨z4, g5, g3, g4, g1, g2, kk⟩ := zHeap_is (h := s1.heap) (o1 := strIt y t1) (o2 := strIt x t) rfl rfl
      show _ ∧ _
      rw [z4]
      exact ⟨⟨_, g5, rfl⟩, fin t1 t _ s1.toks g5 g3 g4 ⟨_, g1, rfl, rfl⟩ ⟨_, g2, rfl, rfl⟩ kk⟩
end
end L2

set_option Elab.async false
set_option linter.all false
set_option maxRecDepth 100000
namespace L2
open PySem PySem.Spec PyProof.Rows
/-! ### a comprehension whose target is a pair of names -/
structure CompOk2 (X : Cx) (x x' : Str) (Nc : List Str) (caps : List Nat) (scope : Scope) : Prop where
  kind : scope.kind = .function
  cell : ∀ y ∈ scope.names, y.2 ≠ .cell
  names : ∀ y ∈ scope.names, y.2 = .local → scope.names.lookup y.1 = some .local
  fr : ∀ y ∈ scope.names, y.2 = .free → X.env.scope.names.lookup y.1 = some .cell ∧ scope.names.lookup y.1 = some .free
  loc : scope.names.lookup x = some .local
  loc2 : scope.names.lookup x' = some .local
  len : Nc.length = caps.length + 2
  hd : Nc[0]? = some x
  hd2 : Nc[1]? = some x'
  nd : Nc.Nodup
  cap : ∀ k j, caps[k]? = some j → ∃ y, Nc[k + 2]? = some y ∧ X.N[j]? = some y ∧ scope.names.lookup y = some .free
def tCompW2 (K : PySem.W.Frag) (caps : List Nat) (tc : TT) (te : TE) (J : It) (σ : St) (H : Hp) (Q : VK) : Prop :=
  ∃ W : Nat → Nat → List V → Hp → Prop, (∃ m, W 0 m [] H) ∧ ∀ i m ys H, W i m ys H →
    (J.stop i H ∧ ys.length ≤ sizeLine ∧ ∀ p, H p = none → Q (.ref p) (upd H p (.lst ys))) ∨
    (J.go i H ∧ ys.length < sizeLine ∧ ∀ x H', J.yld i H x H' → ∃ a u v, x = .ref a ∧ SqT K H' a [u, v] ∧ tc (some u :: some v :: capV σ caps) H' fun b H2 =>
      if b = true then te (some u :: some v :: capV σ caps) H2 fun y H3 => ∃ m', m' < m ∧ W (i + 1) m' (ys ++ [y]) H3 else ∃ m', m' < m ∧ W (i + 1) m' ys H2)
def tComp2 (K : PySem.W.Frag) (wi : TI) (caps : List Nat) (tc : TT) (te : TE) : TE := fun σ H Q => wi σ H fun J H1 => tCompW2 K caps tc te J σ H1 Q
section
variable {X : Cx} {pins : List (Addr × Obj)} {σ : St} {H : Hp} {s : Shared}
theorem comp_ok2 {x x' : Str} {Nc : List Str} {caps : List Nat} {scope : Scope} {cl : List (Str × Addr)} {C : Addr} {fp : List Addr} (I : Inv X pins σ H s) (O : CompOk2 X x x' Nc caps scope)
    (hcl : ∀ x c, cl.lookup x = some c → X.env.cells.lookup x = some c ∧ (x, NameKind.free) ∈ scope.names) (hcl2 : ∀ x, (x, NameKind.free) ∈ scope.names → cl.lookup x = X.env.cells.lookup x)
    (hC : s.heap.objs.size ≤ C) (hfp : ∀ b ∈ fp, FpOk X pins H b) (hfo : ∀ b ∈ fp, b < s.heap.objs.size) : (cxComp X Nc scope cl C fp s H).Ok where
  mod := I.ok.mod
  kind := O.kind
  glob := I.ok.glob
  blt := I.ok.blt
  above := hC
  inj := fun a b c e1 e2 => I.ok.inj a b c (hcl a c e1).1 (hcl b c e2).1
  has := fun y hy => by
    have mem : (y, NameKind.free) ∈ scope.names := by
      have hy' : ((relabel scope X.env).names.lookup y = some .cell) ∨ ((relabel scope X.env).names.lookup y = some .free) := hy
      have hm : ∃ k, (y, k) ∈ (relabel scope X.env).names ∧ (k = .cell ∨ k = .free) := by
        rcases hy' with h | h
        · exact ⟨_, PySem.mem_of_lookup h, .inl rfl⟩
        · exact ⟨_, PySem.mem_of_lookup h, .inr rfl⟩
      obtain ⟨k, hm, hk⟩ := hm
      obtain ⟨⟨n, k'⟩, hm', e⟩ := List.mem_map.mp hm
      dsimp only at e
      by_cases hc : (k' == NameKind.free && X.env.scope.kind == .function && X.env.kindOf n == some .cell) = true
      · rw [if_pos hc] at e
        injection e with e1 _
        subst e1
        have : k' = .free := by
          have := (Bool.and_eq_true _ _ ▸ (Bool.and_eq_true _ _ ▸ hc).1).1
          simpa using this
        subst this
        exact hm'
      · rw [if_neg hc] at e
        injection e with e1 e2
        subst e1 e2
        rcases hk with hk | hk
        · subst hk; exact absurd rfl (O.cell _ hm')
        · subst hk; exact hm'
    obtain ⟨c, e⟩ := I.ok.has y (.inl (O.fr _ mem rfl).1)
    exact ⟨c, (hcl2 y mem).trans e⟩
  cab := fun _ _ z => nomatch z
  hd := I.ok.hd
  frames := I.ok.frames
  stk := .inl rfl
  exf := fun b hb => ⟨Nat.ne_of_lt (Nat.lt_of_lt_of_le (hfo b hb) hC), fun y c e => (hfp b hb).2.2.2.2.1 y c (hcl y c e).1⟩
  bs := I.bs
  bsz := Nat.le_trans I.ok.bsz I.sz
  noex := fun b o e hb => by
    rcases (hfp b hb).2.2.2.1 with z | z
    · exact I.ok.noex b o e z
    · exact absurd (Nat.lt_of_lt_of_le (Heap.lt_size e) (Nat.le_trans I.ok.bsz z)) (Nat.lt_irrefl _)
  exfs := fun b hb z => by
    rcases List.mem_cons.mp (I.stkSub b z) with e | e
    · exact (hfp b hb).2.1 e
    · exact (hfp b hb).2.2.1 e
  funs := I.stack
  frf := I.stkFree

theorem comp_start2 {x x' : Str} {Nc : List Str} {caps : List Nat} {scope : Scope} {cl : List (Str × Addr)} {C : Addr} {fp : List Addr} {h' : Heap} {tk : Nat} {m0 : Str → Option Value} (I : Inv X pins σ H s) (O : CompOk2 X x x' Nc caps scope)
    (hcl : ∀ x c, cl.lookup x = some c → X.env.cells.lookup x = some c ∧ (x, NameKind.free) ∈ scope.names) (hcl2 : ∀ x, (x, NameKind.free) ∈ scope.names → cl.lookup x = X.env.cells.lookup x)
    (hC : s.heap.objs.size ≤ C) (hfp : ∀ b ∈ fp, FpOk X pins H b) (hfo : ∀ b ∈ fp, b < s.heap.objs.size)
    (old : ∀ b o, s.heap.get? b = some o → h'.get? b = some o) (hns : h'.Ns C m0) :
    Inv (cxComp X Nc scope cl C fp s H) [] (none :: none :: capV σ caps) H { s with heap := h', toks := tk } where
  ok := comp_ok2 I O hcl hcl2 hC hfp hfo
  os := rfl
  bare := I.bare
  base := Un.kept old
  loc := by
    refine ⟨m0, hns, fun i y v hN hσ hv => ?_⟩
    match i with
    | 0 => simp at hσ
    | 1 => simp at hσ
    | k + 2 =>
      rw [List.getElem?_cons_succ, List.getElem?_cons_succ] at hσ
      obtain ⟨j, hj, hs⟩ := capV_get hσ
      obtain ⟨z, hz1, hz2, hz3⟩ := O.cap k j hj
      have hN' : Nc[k + 2]? = some y := hN
      rw [hz1] at hN'
      cases hN'
      have mem : (y, NameKind.free) ∈ scope.names := PySem.mem_of_lookup hz3
      have hk := (O.fr _ mem rfl).1
      obtain ⟨m, hn, hl⟩ := I.loc
      obtain ⟨u, r, l⟩ := hl j y v hz2 hs (.inr (.inl hk))
      refine ⟨u, r, ?_⟩
      rcases l with ⟨k', _⟩ | ⟨_, c, hc, z⟩
      · have k'' : X.env.scope.names.lookup y = some .local := k'
        rw [hk] at k''; cases k''
      · obtain ⟨o, ho, hd⟩ := z
        exact .inr ⟨.inl (lookup_relabel_free I.ok.kind hz3 hk), c, (hcl2 y mem).trans hc, o, old _ _ ho, hd⟩
  cell := fun y c e => by
    obtain ⟨v, o, ho, hd⟩ := I.cell y c (hcl y c e).1
    exact ⟨v, o, old _ _ ho, hd⟩
  free := I.hok.fresh hC
  freeC := fun y c e => I.freeC y c (hcl y c e).1
  pin := fun p hp => absurd (show p ∈ ([] : List (Addr × Obj)) from hp) (by simp)
  hok := I.hok.kept old
  len := by
    show (none :: none :: capV σ caps).length = Nc.length
    rw [List.length_cons, List.length_cons, capV_len, O.len]

theorem comp_block2 {x x' : Str} {px px' tp : Pos} {kx : Nat} {Nc : List Str} {caps : List Nat} {scope : Scope} {cl : List (Str × Addr)} {iter elt : Expr} {ifs : List Expr} {pos : Pos} {tc : TT} {te : TE} {Q : VK} {it : Addr} {fp : List Addr} {tn : Nat → Heap → Prop} {J : It}
    {RR : Value → Addr → Result → Shared → Prop} {E : Value → Shared → Prop}
    (O : CompOk2 X x x' Nc caps scope) (hc : X.calm = true)
    (hcl : ∀ x c, cl.lookup x = some c → X.env.cells.lookup x = some c ∧ (x, NameKind.free) ∈ scope.names) (hcl2 : ∀ x, (x, NameKind.free) ∈ scope.names → cl.lookup x = X.env.cells.lookup x)
    (hte : ∀ C fp s H, PE (cxComp X Nc scope cl C fp s H) elt te) (htc : ∀ C fp s H, PIf (cxComp X Nc scope cl C fp s H) ifs tc)
    (I : Inv X pins σ H s) (T : Turn X.prog X.w X.K (.Tuple [.Name x px, .Name x' px'] kx tp) J fp it tn) (st : tn 0 s.heap) (hfp : ∀ b ∈ fp, FpOk X pins H b) (h : tCompW2 X.K caps tc te J σ H Q)
    (hRR : ∀ (D C : Addr) (s' : Shared) (m : Str → Option Value), s'.heap.Ns C m → (∀ h', Heap.SameBut C s'.heap h' → ∃ H', Inv X pins σ H' { s' with heap := h' } ∧ H' C = none ∧ Q (.ref D) H') →
      s.heap.objs.size ≤ C → RR (.ref D) C (.ok .next) s') :
    wpAny (model X.prog X.w) X.A (newList []) (fun acc s₃ => wpAny (model X.prog X.w) X.A (newFunctionEnv scope X.env.globals cl [] X.env.qual none .none (some X.env)) (fun cenv s₄ =>
      codeAny (model X.prog X.w) X.A (.compStart (.ListComp elt [⟨(.Tuple [.Name x px, .Name x' px'] kx tp), iter, ifs, 0⟩] scope pos) 0 (.ref it) acc { cenv with scope := relabel scope X.env }) (RR acc cenv.locals) s₄) E s₃) E s := by
  refine wpAny_newObj_type (wpAny_newFunctionEnv O.cell (by intro y hy; simp at hy) (fun h₁ hns₁ hsb₁ => ?_) O.kind)
  dsimp only at hns₁ hsb₁ ⊢
  generalize hH2 : s.heap.push { cls := .type "list", dict := none, data := .seq ([] : List Value).toArray } = H2 at hns₁ hsb₁ ⊢
  have hC : H2.objs.size = s.heap.objs.size + 1 := by rw [← hH2, Heap.size_push]
  have hCle : s.heap.objs.size ≤ H2.objs.size := by rw [hC]; exact Nat.le_succ _
  have hDC : s.heap.objs.size ≠ H2.objs.size := by rw [hC]; exact Nat.ne_of_lt (Nat.lt_succ_self _)
  have below : ∀ b, b < s.heap.objs.size → b ≠ H2.objs.size ∧ b ≠ s.heap.objs.size := fun b hb => ⟨by rw [hC]; exact Nat.ne_of_lt (Nat.lt_succ_of_lt hb), Nat.ne_of_lt hb⟩
  have old : ∀ b o, s.heap.get? b = some o → h₁.get? b = some o := fun b o e => hsb₁.extBut b o (below b (Heap.lt_size e)).1 (Heap.get?_push_of_some _ (hH2 ▸ Heap.get?_push_of_some _ e))
  have hacc : h₁.get? s.heap.objs.size = some (rawL [] 0) := hsb₁.extBut _ _ hDC (Heap.get?_push_of_some _ (hH2 ▸ Heap.get?_push_size _ rfl))
  have hfo : ∀ b ∈ fp, b < s.heap.objs.size := fun b hb => by
    obtain ⟨o, e, _⟩ := T.obj _ _ st b hb
    exact Heap.lt_size e
  have st1 : tn 0 h₁ := T.keep _ _ _ st fun b _ o e => old b o e
  generalize hDD : s.heap.objs.size = D at *
  generalize hCC : H2.objs.size = C at *
  have DleC : D ≤ C := hCle
  let Y : Cx := cxComp X Nc scope cl C fp s H
  have I0 : Inv Y [] (none :: none :: capV σ caps) H { s with heap := h₁, toks := s.toks + ([] : List (Str × Value)).length } := comp_start2 I O hcl hcl2 (by rw [hDD]; exact hCle) hfp (fun b hb => by rw [hDD]; exact hfo b hb) old hns₁
  have Dfree : H D = none := by rw [← hDD]; exact I.hok.fresh (Nat.le_refl _)
  have DneC : D ≠ C := hDC
  -- what stays true of D, of the iterator's objects
  have Dfs : D ∉ Y.fs := fun z => by
    have := I.stack.mem (show D ∈ frs X.stack from z)
    obtain ⟨_, o, e, _⟩ := this
    have := Heap.lt_size e
    rw [hDD] at this
    exact Nat.lt_irrefl _ this
  have Dcell : ∀ y c, Y.env.cells.lookup y = some c → c ≠ D := fun y c e z => by
    obtain ⟨v, q⟩ := I.cell y c (hcl y c e).1
    have := q.lt
    rw [z, hDD] at this
    exact Nat.lt_irrefl _ this
  have Dfp : ∀ b ∈ fp, b ≠ D := fun b hb => Nat.ne_of_lt (hfo b hb)
  have fpY : ∀ {H' : Hp}, (∀ b ∈ fp, H' b = none) → ∀ b ∈ fp, FpOk Y [] H' b := fun hn b hb =>
    ⟨hn b hb, Nat.ne_of_lt (Nat.lt_of_lt_of_le (hfo b hb) DleC), fun z => I0.ok.exfs b hb z, .inl hb, fun y c e => (I0.ok.exf b hb).2 y c e, fun p hp => absurd (show p ∈ ([] : List (Addr × Obj)) from hp) (by simp)⟩
  obtain ⟨W, ⟨m0, w0⟩, turn⟩ := h
  have loop : ∀ s₃ : Shared, s₃ = { s with heap := h₁, toks := s.toks + ([] : List (Str × Value)).length } →
      codeAny (model X.prog X.w) X.A (.compLoop (.ListComp elt [⟨(.Tuple [.Name x px, .Name x' px'] kx tp), iter, ifs, 0⟩] scope pos) 0 (.ref it) (.ref D) (compEnvC scope cl C X.env)) (RR (.ref D) C) s₃ := by
    rintro s₃ rfl
    refine compLoop_any (fun n s' => ∃ (i : Nat) (o o' : Option V) (H' : Hp) (ys : List V) (us : List Value) (k : Nat), Inv Y [] (o :: o' :: capV σ caps) H' s' ∧ tn i s'.heap ∧ (∀ b ∈ fp, H' b = none) ∧ s'.heap.get? D = some (rawL us k) ∧ H' D = none ∧ Vals ys us ∧ W i n ys H')
      ?_ m0 ⟨0, none, none, H, [], [], 0, I0, st1, fun b hb => (hfp b hb).1, hacc, Dfree, .nil, w0⟩
    rintro n s3 ⟨i, o3, o3', H3, ys, us, k, I3, st3, fr3, hD3, nD3, rv, w3⟩
    have fpP : ∀ {H' : Hp} {ob : Obj}, (∀ b ∈ fp, H' b = none) → ∀ b ∈ fp, FpOk Y [(D, ob)] H' b := fun hn b hb => by
      obtain ⟨g0, g1, g2, g3, g4, _⟩ := fpY hn b hb
      refine ⟨g0, g1, g2, g3, g4, fun p hp => ?_⟩
      have e : p = (D, _) := List.mem_singleton.mp (show p ∈ [(D, _)] from hp)
      rw [e]
      exact Ne.symm (Dfp b hb)
    have IP : Inv Y [(D, rawL us k)] (o3 :: o3' :: capV σ caps) H3 s3 := I3.pins_of fun p hp => by
      have e : p = (D, rawL us k) := List.mem_singleton.mp hp
      subst e
      exact ⟨hD3, nD3, DneC, Dfs, fun v z => by cases z⟩
    have pinD : ∀ {σ' : St} {H' : Hp} {s' : Shared} {pl : List (Addr × Obj)}, Inv Y ([(D, rawL us k)] ++ pl) σ' H' s' → s'.heap.get? D = some (rawL us k) ∧ H' D = none := fun I' => by
      have z := I'.pin (D, rawL us k) (List.mem_append_right _ (List.mem_append_left _ List.mem_cons_self))
      exact ⟨z.1, z.2.1⟩
    rcases turn i n ys H3 w3 with ⟨stop, hlen, fin⟩ | ⟨go, hlen, step⟩
    · -- the end
      refine wpAny_mono (T.done Y rfl rfl rfl hc i _ s3 _ H3 (fun _ _ => False) IP (fpP fr3) st3 stop) (fun r s4 hr => ?_) fun _ _ z => z.elim
      obtain ⟨hr, I4⟩ := hr
      subst hr
      obtain ⟨gD, nD⟩ := pinD (pl := []) (by simpa using I4)
      obtain ⟨m, hn, _⟩ := I4.loc
      refine hRR D C s4 m hn (fun h' hs' => ⟨upd H3 D (.lst ys), ?_, (upd_ne (Ne.symm DneC)).trans I4.free, fin D nD⟩) hCle
      have nt : ∀ b ob, H3 b = some ob → b ≠ C := fun b ob e z => by
        have := I4.free
        rw [z] at e
        rw [show H3 C = none from this] at e
        cases e
      have u1 : Un (frs X.stack) fp H H3 s.heap h' := Un.but I4.base hs' (show s.heap.objs.size ≤ C by rw [hDD]; exact hCle)
      have ok1 : HOk X.prog X.w H3 h' := fun b ob e => (I4.hok b ob e).stay (fun c v hc q => (hs'.2 c (by
        rcases hc with z | z
        · rw [z]; exact nt b ob e
        · exact nt c _ z)).trans q) (fun _ q => q) fun _ _ q => q
      have gD' : h'.get? D = some (rawL us k) := (hs'.2 D DneC).trans gD
      exact I.call' (s' := { s4 with heap := h' }) (ch := fp) I4.os (u1.track (Nat.le_of_eq hDD) nD) (ok1.track nD ⟨hlen, us, k, rv, gD'⟩) I4.bare fun b hb => by
        obtain ⟨_, g1, _, g3, g4, g5⟩ := hfp b hb
        exact ⟨g3, g1, g4, g5⟩
    · -- a turn
      refine wpAny_mono (T.item Y rfl rfl rfl hc i _ s3 _ H3 (fun _ _ => False) IP (fpP fr3) st3 go) (fun r s4 hr => ?_) fun _ _ z => z.elim
      obtain ⟨u0, hr, h4⟩ := hr
      subst hr
      refine wpAny_mono h4 (fun _ s5 h5 => ?_) fun _ _ z => z.elim
      obtain ⟨x5, H5, I5, r5, y5, st5, fr5⟩ := h5
      have I5' := I5.pinned (fpP fr5) (T.obj _ _ st5)
      have n1 : PG Y (.Name x px) (gName 0) := pg_name (i := 0) O.nd O.hd (.inl (lookup_relabel I.ok.kind O.loc (by intro z; cases z))) (.inr (lookup_relabel I.ok.kind O.loc (by intro z; cases z)))
      have n2 : PG Y (.Name x' px') (gName 1) := pg_name (i := 1) O.nd O.hd2 (.inl (lookup_relabel I.ok.kind O.loc2 (by intro z; cases z))) (.inr (lookup_relabel I.ok.kind O.loc2 (by intro z; cases z)))
      have tgt : PG Y (.Tuple [.Name x px, .Name x' px'] kx tp) (gTup Y.K 2 (gCons (gName 0) (gCons (gName 1) gNil))) := pg_tup hc (pgs_cons n1 (pgs_cons n2 pgs_nil))
      obtain ⟨aT, uT, vT, rfl, hT, stepT⟩ := step x5 _ y5
      refine wpAny_mono (tgt _ s5 _ H5 (.ref aT) u0 (fun σ2 H2 => σ2 = some uT :: some vT :: capV σ caps ∧ H2 = H5) I5' r5 ⟨aT, [uT, vT], rfl, hT, rfl, uT, [vT], rfl, vT, [], rfl, rfl, rfl, rfl⟩) (fun _ s6 h6 => ?_) fun _ _ z => z.elim
      obtain ⟨_, _, I6, rfl, rfl⟩ := h6
      refine wpAny_mono ((htc C fp s H).run I6 stepT) (fun b s7 h7 => ?_) fun _ _ z => z.elim
      obtain ⟨H7, I7, q7⟩ := h7
      have keepT : ∀ {σ' : St} {H' : Hp} {s' : Shared}, Inv Y ([(D, rawL us k)] ++ pinsAt fp s5.heap) σ' H' s' → tn (i + 1) s'.heap ∧ ∀ b ∈ fp, H' b = none := fun I' =>
        ⟨T.keep _ _ _ st5 fun b hb o e => (I'.pin (b, o) (List.mem_append_right _ (List.mem_append_right _ (mem_pinsAt hb e)))).1, fun b hb => by
          obtain ⟨o, e, d⟩ := T.obj _ _ st5 b hb
          exact (I'.pin (b, o) (List.mem_append_right _ (List.mem_append_right _ (mem_pinsAt hb e)))).2.1⟩
      cases b with
      | false =>
        rw [if_neg Bool.false_ne_true] at q7
        rw [if_neg Bool.false_ne_true]
        obtain ⟨m', hm, w7⟩ := q7
        obtain ⟨gD, nD⟩ := pinD I7
        obtain ⟨k1, k2⟩ := keepT I7
        exact ⟨m', hm, i + 1, some uT, some vT, H7, ys, us, k, I7.pins_of (fun p hp => nomatch hp), k1, k2, gD, nD, rv, w7⟩
      | true =>
        rw [if_pos rfl] at q7
        rw [if_pos rfl]
        refine wpAny_mono (hte C fp s H _ s7 _ H7 _ I7 q7) (fun u8 s8 h8 => ?_) fun _ _ z => z.elim
        obtain ⟨y8, H8, I8, r8, m', hm, w8⟩ := h8
        obtain ⟨gD, nD⟩ := pinD I8
        obtain ⟨k1, k2⟩ := keepT I8
        refine call_meets F.slot_list_append ⟨_, gD, rfl⟩ F.entry_list_append (F.args_list_append_2 _ _) (PySem.list_append D us.toArray k u8 (by rw [List.size_toArray, ← rv.length]; omega)) ⟨gD, ?_⟩
        have q := PySem.IsL.update gD (·.push u8)
        have e1 : us.toArray.push u8 = (us ++ [u8]).toArray := by simp
        rw [e1] at q
        have I8' : Inv Y [] (some uT :: some vT :: capV σ caps) H8 s8 := I8.pins_of (fun p hp => nomatch hp)
        have I9 : Inv Y [] (some uT :: some vT :: capV σ caps) H8 { s8 with heap := s8.heap.update D (Obj.mapSeq (·.push u8)), toks := s8.toks } :=
          I8'.turned (it := D) (fun b o hb e => (Heap.get?_update_other s8.heap (Obj.mapSeq (·.push u8)) (Ne.symm hb)).trans e) nD DneC (.inr (Nat.le_of_eq hDD)) Dcell (fun p hp => nomatch hp)
        refine ⟨m', hm, i + 1, some uT, some vT, H8, ys ++ [y8], us ++ [u8], _, I9, T.keep _ _ _ k1 fun b hb o e => (Heap.get?_update_other s8.heap (Obj.mapSeq (·.push u8)) (Ne.symm (Dfp b hb))).trans e, k2, q, nD, rv.append (.cons r8 .nil), w8⟩
  exact codeAny_compStart_list (loop _ rfl) (T.self X.A 0 _ _ _ st1 (loop _ rfl))

theorem ps_setC2 {i : Nat} {y x x' : Str} {px px' tp py pos spos : Pos} {kx : Nat} {Nc : List Str} {caps : List Nat} {scope : Scope} {iter elt : Expr} {ifs : List Expr} {wi : TI} {tc : TT} {te : TE} (O : CompOk2 X x x' Nc caps scope) (hc : X.calm = true)
    (hN : X.N.Nodup) (hy : X.N[i]? = some y) (hx : X.env.scope.names.lookup y = some .local) (hi : PI X (.Tuple [.Name x px, .Name x' px'] kx tp) iter wi)
    (htc : ∀ cl C fp s H, PIf (cxComp X Nc scope cl C fp s H) ifs tc) (hte : ∀ cl C fp s H, PE (cxComp X Nc scope cl C fp s H) elt te)
    (hsw : swapsWith (.ListComp elt [⟨(.Tuple [.Name x px, .Name x' px'] kx tp), iter, ifs, 0⟩] scope pos) (some (.Name y py)) spos.line X.env = pure true) (hs : ∀ x, foldedSetIterable iter X.env x = pure x := by intro _; rfl) :
    PS X (.Assign [.Name y py] (.ListComp elt [⟨(.Tuple [.Name x px, .Name x' px'] kx tp), iter, ifs, 0⟩] scope pos) spos) (tAsg (tComp2 X.K wi caps tc te) (gName i)) := by
  intro pins s σ H Dn I h
  rw [exec_Assign_Name_used _ _ _ _ hsw]
  refine wpAny_bind (wpAny_standAt (wpAny_bind ?_))
  obtain ⟨cl, e1, e2, e3⟩ := closure_is (scope := scope) (env := X.env) fun y hy hf => I.ok.has y.1 (.inl (O.fr y hy hf).1)
  show wpAny _ X.A (do let _ ← comprehension (.ListComp elt [⟨(.Tuple [.Name x px, .Name x' px'] kx tp), iter, ifs, 0⟩] scope pos) scope X.env _ (newList []) false (eval iter X.env) (some (assign (.Name y py) X.env))) _ _ s
  refine wpAny_bind (wpAny_mono (wpAny_comprehension_free (use := some (assign (.Name y py) X.env)) (Q := fun _ s' => SP X pins Dn .next s') rfl hs e1 O.kind O.names
    (thn (hi pins s σ H _ I h) fun v s1 h1 => thn h1 fun itv s2 h2 => ?_)) (fun _ s' hq => wpAny_pure (wpAny_pure hq)) fun _ _ e => e)
  obtain ⟨it, fp, tn, J, H2, e, I2, T, st2, f2, w2⟩ := h2
  subst e
  refine comp_block2 (RR := fun acc C => compPost (model X.prog X.w) X.A X.xe (some (assign (.Name y py) X.env)) (fun _ s' => SP X pins Dn .next s') acc C) O hc e2 e3 (hte cl) (htc cl) I2 T st2 f2 w2 ?_
  intro D C s' m hn hq hC
  show wpAny _ X.A (assign (.Name y py) X.env (.ref D)) _ _ _
  obtain ⟨H', I', nC, q⟩ := hq s'.heap (.refl ..)
  have I'' : Inv X pins σ H' s' := I'
  have CL : C ≠ X.env.locals := Nat.ne_of_gt (Nat.lt_of_lt_of_le I2.lt hC)
  have Ccell : ∀ y c, X.env.cells.lookup y = some c → c ≠ C := fun y c e z => by
    obtain ⟨v, q⟩ := I2.cell y c e
    have := Nat.lt_of_lt_of_le q.lt hC
    rw [z] at this
    exact Nat.lt_irrefl _ this
  refine wpAny_assign_Name (store_ok2 I'' hN hy (.inl hx) (show RelV (.ref D) (.ref D) from rfl) (fun s3 I3 hsb => ?_) (.inr hx))
  obtain ⟨a, hsb, ha⟩ := hsb
  have aC : C ≠ a := by
    rcases ha with z | z
    · rw [z]; exact CL
    · exact Ne.symm (Ccell _ _ z)
  refine ⟨m, hn.sameBut hsb aC, fun h4 hs4 => ?_⟩
  refine ⟨_, H', I3.turned (it := C) (t' := s3.toks) (fun b o hb e => (hs4.2 b hb).trans e) nC CL (.inr (Nat.le_trans I2.sz hC)) Ccell (fun p hp z => ?_), q⟩
  · have := Nat.lt_of_lt_of_le (Heap.lt_size (I2.pin p hp).1) hC
    rw [z] at this
    exact Nat.lt_irrefl _ this
theorem ps_setC2K {K : PySem.W.Frag} {i : Nat} {y x x' : Str} {px px' tp py pos spos : Pos} {kx : Nat} {Nc : List Str} {caps : List Nat} {scope : Scope} {iter elt : Expr} {ifs : List Expr} {wi : TI} {tc : TT} {te : TE} (O : CompOk2 X x x' Nc caps scope) (hc : X.calm = true)
    (hN : X.N.Nodup) (hy : X.N[i]? = some y) (hx : X.env.scope.names.lookup y = some .local) (hi : PI X (.Tuple [.Name x px, .Name x' px'] kx tp) iter wi)
    (htc : ∀ cl C fp s H, PIf (cxComp X Nc scope cl C fp s H) ifs tc) (hte : ∀ cl C fp s H, PE (cxComp X Nc scope cl C fp s H) elt te)
    (hsw : swapsWith (.ListComp elt [⟨(.Tuple [.Name x px, .Name x' px'] kx tp), iter, ifs, 0⟩] scope pos) (some (.Name y py)) spos.line X.env = pure true) (hs : ∀ x, foldedSetIterable iter X.env x = pure x := by intro _; rfl) (hK : X.K = K := by rfl) :
    PS X (.Assign [.Name y py] (.ListComp elt [⟨(.Tuple [.Name x px, .Name x' px'] kx tp), iter, ifs, 0⟩] scope pos) spos) (tAsg (tComp2 K wi caps tc te) (gName i)) := by
  subst hK
  exact ps_setC2 O hc hN hy hx hi htc hte hsw hs

/-- what stands behind i pairs -/
theorem comp_zip {K : PySem.W.Frag} {S1 S2 : Src} {n : Nat} {caps : List Nat} {tc : TT} {te : TE} {σ : St} {H : Hp} {Q : VK} (f g : Nat → V) (Pv : Nat → List V → Hp → Prop) (h0 : Pv 0 [] H) (hl : ∀ i ys H, i ≤ n → Pv i ys H → ys.length ≤ i)
    (hz : n ≤ sizeLine) (h1 : ∀ i ys H, i < n → Pv i ys H → srcAt K H S1 i (f i)) (h2 : ∀ i ys H, i < n → Pv i ys H → srcAt K H S2 i (g i)) (hst : ∀ ys H, Pv n ys H → (Itz2 K S1 S2).stop n H)
    (hs : ∀ i ys H T, i < n → Pv i ys H → H T = none → CTurn n Pv tc te (some (f i) :: some (g i) :: capV σ caps) i ys (upd H T (.tup [f i, g i])))
    (hd : ∀ ys H p, Pv n ys H → H p = none → Q (.ref p) (upd H p (.lst ys))) : tCompW2 K caps tc te (Itz2 K S1 S2) σ H Q := by
  refine ⟨fun i m ys H => m = n - i ∧ i ≤ n ∧ Pv i ys H, ⟨n, by simp, Nat.zero_le _, h0⟩, ?_⟩
  rintro i m ys H ⟨rfl, hi, p⟩
  have hy := hl i ys H hi p
  by_cases hlt : i < n
  · refine .inr ⟨⟨⟨_, h1 i ys H hlt p⟩, _, h2 i ys H hlt p⟩, by omega, fun x H' y => ?_⟩
    obtain ⟨T, rfl, hT, e⟩ := y
    have e := e _ _ (h1 i ys H hlt p) (h2 i ys H hlt p)
    subst e
    exact ⟨T, f i, g i, rfl, SqT.of upd_same, hs i ys H T hlt p hT⟩
  · have e : i = n := by omega
    subst e
    exact .inl ⟨hst ys H p, by omega, fun p' hp => hd ys H p' p hp⟩
end
end L2

set_option Elab.async false
set_option linter.all false
set_option maxRecDepth 100000
namespace L2
open PySem PySem.Spec PyProof.Rows
/-! ### list.count of a number -/
section
variable {X : Cx}
def rCountL (K : PySem.W.Frag) : V → List V → Hp → VK → Prop := fun x vs H Q => ∃ a ns k, x = .ref a ∧ vs = [.int k] ∧ SqL K H a (vI ns) ∧ Q (.int (ns.count k : Nat)) H
theorem mt_countL {K : PySem.W.Frag} (hK : X.K = K := by rfl) : MtR X "list.count" (rCountL K) := by
  subst hK
  intro pins s σ H x vs v us Q I rx rv h
  obtain ⟨a, ns, k, rfl, rfl, hx, q⟩ := h
  cases rx
  obtain ⟨u, rfl, ru⟩ := rv.one
  obtain ⟨t, rfl⟩ := ru
  obtain ⟨its, r, ht, hz⟩ := I.list hx
  refine PyProof.Rows.count_list_ints (ns := ns) ht.isList (intsAre_of r) ?_
  exact ⟨.int _, H, I.tok _, ⟨_, rfl⟩, q⟩
end
/-! ### enumerate(list), its pairs unpacked -/
def Ite (K : PySem.W.Frag) (a : Addr) : It where
  go := fun i H => ∃ xs x, SqL K H a xs ∧ xs[i]? = some x
  yld := fun i H x H' => ∃ T, x = .ref T ∧ H T = none ∧ ∀ xs u, SqL K H a xs → xs[i]? = some u → H' = upd H T (.tup [.int (i : Int), u])
  stop := fun i H => ∃ xs, SqL K H a xs ∧ xs.length = i
def EnSt (e it a : Addr) (i : Nat) (h : Heap) : Prop := (∃ old, IsEnum h e it i old) ∧ h.IsListIter it a i
theorem turn_enum {P : Program} {w : World} {K : PySem.W.Frag} {es : List Expr} {kx : Nat} {tp : Pos} {e it a : Addr} (hei : e ≠ it) (hae : a ≠ e) (hai : a ≠ it) :
    Turn P w K (.Tuple es kx tp) (Ite K a) [e, it] e (EnSt e it a) where
  mem := by simp
  obj := fun i h st c hc => by
    obtain ⟨⟨old, s1⟩, s2⟩ := st
    simp only [List.mem_cons, List.not_mem_nil, or_false] at hc
    rcases hc with z | z
    · subst z; exact ⟨_, s1, fun v z => by cases (show Data.fields _ = Data.cell v from z)⟩
    · subst z; obtain ⟨o, e, _, d⟩ := s2; exact ⟨o, e, fun v z => by rw [d] at z; cases z⟩
  keep := fun i h h' st k => by
    obtain ⟨⟨old, s1⟩, s2⟩ := st
    exact ⟨⟨old, k _ (by simp) _ s1⟩, s2.at fun o e => k _ (by simp) o e⟩
  item := by
    intro X hP hw hK hc i pins s σ H E I hf st hg
    subst hP hw hK
    obtain ⟨xs, x, hq1, hx⟩ := hg
    obtain ⟨its1, rv1, p1, _⟩ := I.list hq1
    obtain ⟨u, hu, ru⟩ := rv1.get hx
    obtain ⟨⟨old, s1⟩, s4⟩ := st
    have hlt : i < its1.toArray.size := by have := (List.getElem?_eq_some_iff.mp hu).1; simpa using this
    have hh : X.A.in1.handled = none := I.ok.hd hc
    refine wpAny_pyNext_enum_itemD (Draws.list hh it a hai its1.toArray) s1 ⟨s4, p1.isList⟩ hlt hei (fun z => ?_) fun u' h1 tk hu' ho hst hT hsz kk => ?_
    · simp only [List.mem_cons, List.not_mem_nil, or_false] at z
      rcases z with z | z
      · exact hei z
      · exact hae z.symm
    have hu2 : its1[i]? = some u' := by simpa using hu'
    rw [hu] at hu2
    cases hu2
    refine ⟨_, rfl, wpAny_letOwnedTupleGo_enum ho fun h2 he2 sb => ?_⟩
    have sb : Heap.SameBut e h1 h2 := sb
    have el : e < s.heap.objs.size := Heap.lt_size s1
    have il : it < s.heap.objs.size := by obtain ⟨_, e, _⟩ := s4; exact Heap.lt_size e
    have up : ∀ c o, c ≠ e → h1.get? c = some o → h2.get? c = some o := fun c o c1 z => (sb.2 c c1).trans z
    have hTn : H s.heap.objs.size = none := I.hok.fresh (Nat.le_refl _)
    have I1 : Inv X pins σ (upd H s.heap.objs.size (.tup [.int (i : Int), x])) { s with heap := s.heap.push { cls := .type "tuple", data := .seq #[.int i tk, u] }, toks := tk + 1 } :=
      I.laid (fun c o e => Heap.get?_push_of_some _ e) (Nat.le_refl _) ⟨by show 2 ≤ sizeLine; decide, [.int i tk, u], .cons ⟨tk, rfl⟩ (.cons ru .nil), ⟨_, Heap.get?_push_size _ rfl, rfl, _, rfl⟩⟩
    have fp2 : ∀ c ∈ [e, it], FpOk X pins (upd H s.heap.objs.size (.tup [.int (i : Int), x])) c := fun c hc => by
      obtain ⟨f0, f⟩ := hf c hc
      refine ⟨?_, f⟩
      have lt : c < s.heap.objs.size := by
        simp only [List.mem_cons, List.not_mem_nil, or_false] at hc
        rcases hc with e | e <;> subst e <;> assumption
      rw [upd_ne (Nat.ne_of_lt lt)]
      exact f0
    have I2 : Inv X pins σ (upd H s.heap.objs.size (.tup [.int (i : Int), x])) { s with heap := h2, toks := tk + 1 } := by
      refine Inv.turnedL (s := { s with heap := s.heap.push { cls := .type "tuple", data := .seq #[.int i tk, u] }, toks := tk + 1 }) (h' := h2) (t' := tk + 1) (its := [e, it]) I1 (fun c o hc z => ?_) fp2
      simp only [List.mem_cons, List.not_mem_nil, or_false, not_or] at hc
      refine up c o hc.1 ?_
      by_cases hcs : c = s.heap.objs.size
      · subst hcs
        have e' : (s.heap.push { cls := .type "tuple", data := .seq #[.int i tk, u] }).get? s.heap.objs.size = some { cls := .type "tuple", data := .seq #[.int i tk, u] } := Heap.get?_push_size _ rfl
        rw [e'] at z
        cases z
        exact hT
      · have e' : s.heap.get? c = some o := by
          rw [← z]
          exact (Heap.get?_push_ne _ _ _ hcs).symm
        exact kk c o hc.1 hc.2 e'
    refine ⟨.ref s.heap.objs.size, _, I2, rfl, ⟨s.heap.objs.size, rfl, hTn, fun xs' u' a1 a3 => ?_⟩, ⟨⟨u, by simpa using he2⟩, hst.1.at fun o z => up _ o hei.symm z⟩, fun c hc => (fp2 c hc).1⟩
    rw [I.list_inj a1 hq1, hx] at a3
    cases a3
    rfl
  done := by
    intro X hP hw hK hc i pins s σ H E I hf st hg
    subst hP hw hK
    obtain ⟨xs, hq1, hend⟩ := hg
    obtain ⟨its1, rv1, p1, _⟩ := I.list hq1
    have l1 := rv1.length
    obtain ⟨⟨old, s1⟩, s4⟩ := st
    have hh : X.A.in1.handled = none := I.ok.hd hc
    have en : i = its1.toArray.size := by simp; omega
    subst en
    refine wpAny_pyNext_enum_endD (Draws.list hh it a hai its1.toArray) s1 ⟨s4, p1.isList⟩ fun h' kk => ⟨rfl, I.turnedL (t' := s.toks) (its := [e, it]) (fun c o hc z => ?_) hf⟩
    simp only [List.mem_cons, List.not_mem_nil, or_false, not_or] at hc
    exact kk c o hc.2 z
  self := fun _ _ _ _ _ st h => by obtain ⟨⟨old, s1⟩, _⟩ := st; exact wpAny_pyIter_enum s1 h
section
variable {X : Cx} {es : List Expr} {kx : Nat} {tp : Pos}
def iEnum (K : PySem.W.Frag) (ta : TA) : TI := fun σ H R => ta σ H fun vs H1 => ∃ a, vs = [.ref a] ∧ (∃ xs, SqL K H1 a xs) ∧ R (Ite K a) H1
theorem pi_enum {K : PySem.W.Frag} {a : Expr} {ta : TA} {p pos : Pos} (hg : Gl X "enumerate") (hm : X.mg "enumerate" = none) (ha : PA X [a] ta) (hK : X.K = K := by rfl) (hs : starEach [a] X.env = [(false, eval a X.env)] := by rfl) :
    PI X (.Tuple es kx tp) (.Call (.Name "enumerate" p) [a] [] pos) (iEnum K ta) := by
  subst hK
  intro pins s σ H R I h
  refine Call_ (ld_blt I hg hm bt_enumerate (PyProof.Rows.callWith_type1 (thn (ha pos pins s σ H _ I h) fun us s1 ⟨vs, H1, I1, r1, q1⟩ => ?_) hs rfl))
  obtain ⟨a, e, ⟨xs, hq1⟩, q⟩ := q1
  subst e
  cases r1 with
  | cons r rr =>
    cases rr
    cases r
    obtain ⟨its1, rv1, p1, _⟩ := I1.list hq1
    obtain ⟨o1, e1, _⟩ := id p1.isList
    have la : a < s1.heap.objs.size := Heap.lt_size e1
    refine call_enumerate_list p1.isList fun h' he hi hsz kk => wpAny_pyIter_enum he ?_
    refine ⟨_, [s1.heap.objs.size + 1, s1.heap.objs.size], _, _, H1, rfl, I1.kept (t' := s1.toks) kk, turn_enum (lne (Nat.lt_succ_self _) 0).symm (lne la 1) (lne la 0), ⟨⟨_, he⟩, hi⟩, fun c hc => ?_, q⟩
    have le : s1.heap.objs.size ≤ c := by
      simp only [List.mem_cons, List.not_mem_nil, or_false] at hc
      rcases hc with e | e <;> subst e <;> omega
    exact I1.fpOk le (I1.hok.fresh le)
theorem for_enum {K : PySem.W.Frag} {a : Addr} {xs : List V} {g : TG} {tb : TS} {D : Ends} {σ : St} {H : Hp} (Pv : Nat → St → Hp → Prop) (h0 : Pv 0 σ H) (hl : ∀ i σ H, Pv i σ H → SqL K H a xs)
    (hs : ∀ i x σ H T, xs[i]? = some x → Pv i σ H → H T = none → g (.ref T) σ (upd H T (.tup [.int (i : Int), x])) fun σ2 H2 => tb { D with nx := Pv (i + 1), ct := Pv (i + 1), bk := D.nx } σ2 H2) (hd : ∀ σ H, Pv xs.length σ H → D.nx σ H) :
    ∃ W : Nat → Nat → St → Hp → Prop, (∃ m, W 0 m σ H) ∧ ∀ i m σ H, W i m σ H →
      ((Ite K a).stop i H ∧ D.nx σ H) ∨ ((Ite K a).go i H ∧ ∃ N : St → Hp → Prop, (∀ σ' H', N σ' H' → ∃ m', m' < m ∧ W (i + 1) m' σ' H') ∧ ∀ x H', (Ite K a).yld i H x H' → g x σ H' fun σ2 H2 => tb { D with nx := N, ct := N, bk := D.nx } σ2 H2) := by
  refine ⟨fun i m σ H => m = xs.length - i ∧ i ≤ xs.length ∧ Pv i σ H, ⟨xs.length, by simp, Nat.zero_le _, h0⟩, ?_⟩
  rintro i m σ H ⟨rfl, hi, p⟩
  have q1 := hl i σ H p
  by_cases hlt : i < xs.length
  · refine .inr ⟨⟨xs, xs[i], q1, List.getElem?_eq_getElem hlt⟩, Pv (i + 1), fun σ' H' p' => ⟨xs.length - (i + 1), by omega, rfl, hlt, p'⟩, fun x H' y => ?_⟩
    obtain ⟨T, rfl, hT, y⟩ := y
    have e := y xs _ q1 (List.getElem?_eq_getElem hlt)
    subst e
    exact hs i _ σ H T (List.getElem?_eq_getElem hlt) p hT
  · have e : i = xs.length := by omega
    subst e
    exact .inl ⟨⟨xs, q1, rfl⟩, hd σ H p⟩
end
end L2

set_option Elab.async false
set_option linter.all false
set_option maxRecDepth 100000
namespace L2
open PySem PySem.Spec PyProof.Rows
/-! ### values of the same contents, lists and tuples within one another -/
inductive SamV (K : PySem.W.Frag) (H : Hp) : Nat → V → V → Prop where
  | flat {n : Nat} {x : V} (h : flatV x = true) : SamV K H n x x
  | lst {n : Nat} {p q : Addr} {xs ys : List V} (hp : SqL K H p xs) (hq : SqL K H q ys) (hl : xs.length = ys.length) (hi : ∀ (i : Nat) (x y : V), xs[i]? = some x → ys[i]? = some y → SamV K H n x y) : SamV K H (n + 1) (.ref p) (.ref q)
  | tup {n : Nat} {p q : Addr} {xs ys : List V} (hp : SqT K H p xs) (hq : SqT K H q ys) (hl : xs.length = ys.length) (hi : ∀ (i : Nat) (x y : V), xs[i]? = some x → ys[i]? = some y → SamV K H n x y) : SamV K H (n + 1) (.ref p) (.ref q)
section
variable {X : Cx} {K : PySem.W.Frag}
def SamS (K : PySem.W.Frag) (H : Hp) (p q : Addr) : Prop := ∃ xs ys : List V, SqL K H p xs ∧ SqL K H q ys ∧ xs.length = ys.length ∧ ∀ (i : Nat) (x y : V), xs[i]? = some x → ys[i]? = some y → SamV K H 50 x y
def rEqS (K : PySem.W.Frag) : R2 := fun x y H Q => ∃ p q, x = .ref p ∧ y = .ref q ∧ SamS K H p q ∧ Q (.bl true) H
def rNeS (K : PySem.W.Frag) : R2 := fun x y H Q => ∃ p q, x = .ref p ∧ y = .ref q ∧ SamS K H p q ∧ Q (.bl false) H
end
end L2

set_option Elab.async false
set_option linter.all false
set_option maxRecDepth 100000
namespace L2
open PySem PySem.Spec PyProof.Rows
section
variable {X : Cx}
/-! ### list.insert at a place within -/
def rInsert : V → List V → Hp → VK → Prop := fun x vs H Q => ∃ l xs y, ∃ k : Nat, x = .ref l ∧ vs = [.int (k : Int), y] ∧ k ≤ xs.length ∧ H l = some (.lst xs) ∧ xs.length < 1000 ∧ Q .non (upd H l (.lst (xs.take k ++ y :: xs.drop k)))
theorem mt_insert : MtM X "list.insert" rInsert := by
  intro pins s σ H x vs v us Q I rx rv h
  obtain ⟨l, xs, y, k, rfl, rfl, hk, hH, hz, q⟩ := h
  cases rx
  obtain ⟨u1, u2, rfl, r1, r2⟩ := rv.two
  obtain ⟨t, rfl⟩ := r1
  obtain ⟨z, its, n, r, hl, e⟩ := I.lstM hH
  have hsz : sizeLine = 16777216 := sizeLine_eq
  have hfit : Builtin.List.listFitsIndex (k : Int) = true := fitsIndex_both (Int.le_trans (b := 0) (by decide) (by omega)) (Int.lt_of_lt_of_le (b := 2000) (by omega) (by decide))
  have hc0 : ¬ (!Builtin.List.listFitsIndex (k : Int)) = true := by simp [hfit]
  have lr := r.length
  have hs1 : its.toArray.size ≤ sizeLine := by rw [List.size_toArray]; omega
  have ik0 : ¬ ((k : Int) < 0) := by omega
  have ikn : (k : Int).toNat = k := Int.toNat_natCast k
  generalize (k : Int) = ik at hc0 ik0 ikn ⊢
  refine call_meets F.slot_list_insert ⟨_, e, rfl⟩ F.entry_list_insert (F.args_list_insert_3 _ _ _) (AutoSeq1.list_insert_list_int_val_1 l its.toArray n ik t u2 hc0 hs1) ⟨e, ?_⟩
  refine ⟨.non, _, I.lset (its' := its.take k ++ u2 :: its.drop k) hH e ?_ ((r.take k).append (.cons r2 (r.drop k))) ?_, rfl, q⟩
  · show (its.toArray.extract 0 (if ik < 0 then (ik + (its.toArray.size : Int)).toNat else min ik.toNat its.toArray.size)).push u2 ++ its.toArray.extract (if ik < 0 then (ik + (its.toArray.size : Int)).toNat else min ik.toNat its.toArray.size) = _
    have e1 : (if ik < 0 then (ik + (its.toArray.size : Int)).toNat else min ik.toNat its.toArray.size) = k := by
      rw [if_neg ik0, List.size_toArray, ikn]
      omega
    rw [e1]
    apply Array.ext'
    simp [List.take_of_length_le]
  · rw [List.length_append, List.length_take, List.length_cons, List.length_drop]
    omega
end
end L2

set_option Elab.async false
set_option linter.all false
set_option maxRecDepth 100000
namespace L2
open PySem PySem.Spec PyProof.Rows
section
variable {X : Cx} {K : PySem.W.Frag} {o e value : Expr} {f : Str} {pos pos' tpos : Pos} {ta tv : TE} {st : Stmt} {t : TS}
/-- a rule that asks for the frames -/
theorem ps_fr (h : X.A.frames = some X.stack → PS X st t) : PS X st t := fun pins s σ H D I hw => h I.ok.frames pins s σ H D I hw
end
/-! ### own classes -/
structure Own (K : PySem.W.Frag) (C f : Addr) : Prop where
  c : Cls K C
  m : Mk K C f
end L2

namespace Mine
open L2
/-- the signs of a cloth: # is 35, . is 46 -/
def Sg (c : Nat) : Prop := c = 35 ∨ c = 46
structure Cl (cl : List (List Nat)) (m n : Nat) : Prop where
  hn : cl.length = n
  hm : ∀ t ∈ cl, t.length = m
  sg : ∀ t ∈ cl, ∀ c ∈ t, Sg c
  m1 : 1 ≤ m
  m40 : m ≤ 40
  n1 : 1 ≤ n
  n40 : n ≤ 40
def flip (c : Nat) : Nat := if c = 35 then 46 else 35
def back (cl : List (List Nat)) : List (List Nat) := cl.map fun t => t.reverse.map flip
def col (cl : List (List Nat)) (e : Nat) : List Nat := cl.map fun t => t.getD e 0
def quart (cl : List (List Nat)) (m : Nat) : List (List Nat) := (List.range m).map fun e => (col cl e).map flip
/-- the sign at a place of the cloth without end -/
def sgn (cl : List (List Nat)) (m n : Nat) (x y : Int) : Nat := (cl.getD (y % (n : Int)).toNat []).getD (x % (m : Int)).toNat 0
end Mine

set_option linter.all false
namespace Mine
open L2
/-- the place of a strand among those of its owner -/
def plc (os : List Int) (k : Nat) : Nat := (os.take k).count (os.getD k 0)
theorem count_take {os : List Int} {k : Nat} (h : k < os.length) (z : Int) : (os.take (k + 1)).count z = (os.take k).count z + if os.getD k 0 = z then 1 else 0 := by
  rw [List.take_add_one, List.count_append, List.getElem?_eq_getElem h]
  have e : os.getD k 0 = os[k] := by simp [List.getD, h]
  rw [e]
  simp only [Option.toList_some, List.count_cons, List.count_nil, beq_iff_eq]
  simp
theorem count_le {os : List Int} (k : Nat) (z : Int) : (os.take k).count z ≤ os.count z := List.Sublist.count_le _ (List.take_sublist _ _)
theorem plc_lt {os : List Int} {k : Nat} (h : k < os.length) : plc os k < os.count (os.getD k 0) := by
  have h1 := count_take h (os.getD k 0)
  rw [if_pos rfl] at h1
  have h2 := count_le (os := os) (k + 1) (os.getD k 0)
  unfold plc
  omega
def sgnAt (o e : Int) (own : List Nat) (p : Nat) : Nat := if o = e then own.getD p 0 else if e < o then 35 else 46
def layRow (ps : List (List (List Nat))) (es : List Int) (o : Int) (b : Nat) : List Nat := (List.range es.length).map fun k => sgnAt o (es.getD k 0) ((ps.getD o.toNat []).getD b []) (plc es k)
def lay (ps : List (List (List Nat))) (es os : List Int) : List (List Nat) := (List.range os.length).map fun j => layRow ps es (os.getD j 0) (plc os j)
theorem layRow_len (ps : List (List (List Nat))) (es : List Int) (o : Int) (b : Nat) : (layRow ps es o b).length = es.length := by unfold layRow; rw [List.length_map, List.length_range]
theorem layRow_get {ps : List (List (List Nat))} {es : List Int} {o : Int} {b k : Nat} (h : k < es.length) : (layRow ps es o b)[k]? = some (sgnAt o (es.getD k 0) ((ps.getD o.toNat []).getD b []) (plc es k)) := by
  unfold layRow
  rw [List.getElem?_map, List.getElem?_range h]
  rfl
theorem lay_len (ps : List (List (List Nat))) (es os : List Int) : (lay ps es os).length = os.length := by unfold lay; rw [List.length_map, List.length_range]
theorem lay_get {ps : List (List (List Nat))} {es os : List Int} {j : Nat} (h : j < os.length) : (lay ps es os)[j]? = some (layRow ps es (os.getD j 0) (plc os j)) := by
  unfold lay
  rw [List.getElem?_map, List.getElem?_range h]
  rfl
/-- pieces that fit their owners -/
structure PcOk (ps : List (List (List Nat))) (es os : List Int) : Prop where
  e : ∀ z ∈ es, 0 ≤ z ∧ z < (ps.length : Int)
  o : ∀ z ∈ os, 0 ≤ z ∧ z < (ps.length : Int)
  hn : ∀ i, i < ps.length → (ps.getD i []).length = os.count (i : Int)
  hm : ∀ i, i < ps.length → ∀ t ∈ ps.getD i [], t.length = es.count (i : Int) ∧ ∀ c ∈ t, Sg c
  e1 : 1 ≤ es.length
  e40 : es.length ≤ 40
  o1 : 1 ≤ os.length
  o40 : os.length ≤ 40
theorem getD_mem {os : List Int} {k : Nat} (h : k < os.length) : os.getD k 0 ∈ os := by
  have e : os.getD k 0 = os[k] := by simp [List.getD, h]
  rw [e]
  exact List.getElem_mem h
theorem PcOk.own {ps : List (List (List Nat))} {es os : List Int} (C : PcOk ps es os) {j : Nat} (h : j < os.length) : (os.getD j 0).toNat < ps.length ∧ plc os j < (ps.getD (os.getD j 0).toNat []).length := by
  have h1 := C.o _ (getD_mem h)
  have h2 : (os.getD j 0).toNat < ps.length := by omega
  refine ⟨h2, ?_⟩
  rw [C.hn _ h2, show (((os.getD j 0).toNat : Nat) : Int) = os.getD j 0 by omega]
  exact plc_lt h
theorem PcOk.row {ps : List (List (List Nat))} {es os : List Int} (C : PcOk ps es os) {i b : Nat} (h : i < ps.length) (hb : b < (ps.getD i []).length) : ((ps.getD i []).getD b []).length = es.count (i : Int) := by
  have e : (ps.getD i []).getD b [] = (ps.getD i [])[b] := by rw [List.getD_eq_getElem?_getD, List.getElem?_eq_getElem hb]; rfl
  rw [e]
  exact (C.hm i h _ (List.getElem_mem hb)).1
/-- which places a name has -/
structure Own (es : List Int) (z : Int) (i : Nat) (ms : List Nat) : Prop where
  len : ms.length = (es.take i).count z
  lt : ∀ m ∈ ms, m < i
  at' : ∀ a m, ms[a]? = some m → es.getD m 0 = z ∧ (es.take m).count z = a
end Mine

set_option linter.all false
namespace Mine
open L2
def OwOk (os : List Int) (n : Nat) : Prop := 1 ≤ os.length ∧ os.length ≤ 40 ∧ ∀ z ∈ os, 0 ≤ z ∧ z < (n : Int)
def PieceOk (cl : List (List Nat)) (m n : Nat) : Prop := cl.length = n ∧ ∀ t ∈ cl, t.length = m ∧ ∀ c ∈ t, Sg c
def AllOk (ps : List (List (List Nat))) (es os : List Int) : Prop := OwOk es ps.length ∧ OwOk os ps.length ∧ ∀ i, i < ps.length → PieceOk (ps.getD i []) (es.count (i : Int)) (os.count (i : Int))
theorem AllOk.pc {ps : List (List (List Nat))} {es os : List Int} (h : AllOk ps es os) : PcOk ps es os :=
  ⟨h.1.2.2, h.2.1.2.2, fun i hi => (h.2.2 i hi).1, fun i hi => (h.2.2 i hi).2, h.1.1, h.1.2.1, h.2.1.1, h.2.1.2.1⟩
/-- a piece put in the place of another -/
theorem getD_set {ps : List (List (List Nat))} {i j : Nat} {cl : List (List Nat)} (hi : i < ps.length) : (ps.set i cl).getD j [] = if i = j then cl else ps.getD j [] := by
  rw [List.getD_eq_getElem?_getD, List.getElem?_set]
  by_cases h : i = j
  · subst h
    rw [if_pos rfl, if_pos rfl, if_pos hi]
    rfl
  · rw [if_neg h, if_neg h, List.getD_eq_getElem?_getD]
theorem bad_set {ps : List (List (List Nat))} {es os : List Int} {i : Nat} {cl : List (List Nat)} (hi : i < ps.length) (h : ¬ PieceOk cl (es.count (i : Int)) (os.count (i : Int))) : ¬ AllOk (ps.set i cl) es os := fun z => by
  have := z.2.2 i (by rw [List.length_set]; exact hi)
  rw [getD_set hi, if_pos rfl] at this
  exact h this
/-- owners with a stranger among them -/
theorem bad_in {os : List Int} {n k : Nat} {z : Int} (h : z < 0 ∨ (n : Int) ≤ z) : ¬ OwOk (os.take k ++ z :: os.drop k) n := fun w => by
  have := w.2.2 z (List.mem_append_right _ List.mem_cons_self)
  omega
end Mine

set_option Elab.async false
set_option linter.all false
set_option maxRecDepth 100000
set_option maxHeartbeats 4000000
namespace Mine
open PySem L2
def top (i : Nat) : Stmt := PySem.Challenge.pw_heddle_k34_no_laying.main.body.getD i (.Pass ⟨0, 0, 0, 0⟩)
abbrev s_laid_together : Stmt := top 17
theorem sc_laid_together : FnScope ["pieces", "ends", "picks", "number", "piece", "end_places", "pick_places", "cloth", "owner", "place", "own", "signs"] ["pieces", "ends", "picks"] (defScope s_laid_together) := ⟨rfl, rfl, rfl, by decide +kernel, rfl, by decide +kernel, by decide +kernel⟩
abbrev s_check_owners : Stmt := top 18
theorem sc_check_owners : FnScope ["owners", "pieces", "owner"] ["owners", "pieces"] (defScope s_check_owners) := ⟨rfl, rfl, rfl, by decide +kernel, rfl, by decide +kernel, by decide +kernel⟩
abbrev s_check_piece : Stmt := top 19
theorem sc_check_piece : FnScope ["piece", "ends", "picks", "text", "sign"] ["piece", "ends", "picks"] (defScope s_check_piece) := ⟨rfl, rfl, rfl, by decide +kernel, rfl, by decide +kernel, by decide +kernel⟩
abbrev s_places_within : Stmt := top 20
theorem sc_places_within : FnScope ["owners"] ["owners"] (defScope s_places_within) := ⟨rfl, rfl, rfl, by decide +kernel, rfl, by decide +kernel, by decide +kernel⟩
abbrev s_sign_at : Stmt := top 21
theorem sc_sign_at : FnScope ["pick_owner", "own", "end_owner", "place"] ["pick_owner", "own", "end_owner", "place"] (defScope s_sign_at) := ⟨rfl, rfl, rfl, by decide +kernel, rfl, by decide +kernel, by decide +kernel⟩
abbrev s_law_numbers : Stmt := top 23
theorem sc_law_numbers : FnScope ["script", "many", "found", "step", "k"] ["script", "many"] (defScope s_law_numbers) := ⟨rfl, rfl, rfl, by decide +kernel, rfl, by decide +kernel, by decide +kernel⟩
abbrev s_law_owners : Stmt := top 24
theorem sc_law_owners : FnScope ["numbers", "first", "count", "many"] ["numbers", "first", "count", "many"] (defScope s_law_owners) := ⟨rfl, rfl, rfl, by decide +kernel, rfl, by decide +kernel, by decide +kernel⟩
abbrev s_law_piece : Stmt := top 25
theorem sc_law_piece : FnScope ["numbers", "name", "wide", "high", "rows", "j", "row", "k", "at"] ["numbers", "name", "wide", "high"] (defScope s_law_piece) := ⟨rfl, rfl, rfl, by decide +kernel, rfl, by decide +kernel, by decide +kernel⟩
abbrev s_law_refused : Stmt := top 26
theorem sc_law_refused : FnScope ["pieces", "ends", "picks", "caught", "e", "word"] ["pieces", "ends", "picks"] (defScope s_law_refused) := ⟨rfl, rfl, rfl, by decide +kernel, rfl, by decide +kernel, by decide +kernel⟩
abbrev s_law_odd_sign : Stmt := top 27
theorem sc_law_odd_sign : FnScope ["number", "some"] ["number"] (defScope s_law_odd_sign) := ⟨rfl, rfl, rfl, by decide +kernel, rfl, by decide +kernel, by decide +kernel⟩
abbrev s_law_spoilt_text : Stmt := top 28
theorem sc_law_spoilt_text : FnScope ["row", "fault", "at", "sign", "place"] ["row", "fault", "at", "sign"] (defScope s_law_spoilt_text) := ⟨rfl, rfl, rfl, by decide +kernel, rfl, by decide +kernel, by decide +kernel⟩
abbrev s_law_spoilt_pieces : Stmt := top 29
theorem sc_law_spoilt_pieces : FnScope ["pieces", "fault", "numbers", "ends", "made", "name", "row"] ["pieces", "fault", "numbers", "ends"] (defScope s_law_spoilt_pieces) := ⟨rfl, rfl, rfl, by decide +kernel, rfl, by decide +kernel, by decide +kernel⟩
abbrev s_law_spoilt_owners : Stmt := top 30
theorem sc_law_spoilt_owners : FnScope ["owners", "many", "numbers", "far", "made", "at"] ["owners", "many", "numbers", "far"] (defScope s_law_spoilt_owners) := ⟨rfl, rfl, rfl, by decide +kernel, rfl, by decide +kernel, by decide +kernel⟩
abbrev s_law_fitting : Stmt := top 31
theorem sc_law_fitting : FnScope ["numbers", "ends", "picks", "many"] ["numbers", "ends", "picks", "many"] (defScope s_law_fitting) := ⟨rfl, rfl, rfl, by decide +kernel, rfl, by decide +kernel, by decide +kernel⟩
abbrev s_law : Stmt := top 32
theorem sc_law : FnScope ["script", "numbers", "fault", "many", "ends", "picks", "pieces", "far", "bad_ends", "bad_picks", "bad", "kept", "handed", "found"] ["script"] (defScope s_law) := ⟨rfl, rfl, rfl, by decide +kernel, rfl, by decide +kernel, by decide +kernel⟩
abbrev s_NoLaying_called : Stmt := (clsBody (top 8)).getD 0 (.Pass ⟨0, 0, 0, 0⟩)
theorem sc_NoLaying_called : FnScope ["self"] ["self"] (defScope s_NoLaying_called) := ⟨rfl, rfl, rfl, by decide +kernel, rfl, by decide +kernel, by decide +kernel⟩
set_option genInjectivity false in
structure Adr where
  f_laid_together : Addr
  d_laid_together : FuncData
  f_check_owners : Addr
  d_check_owners : FuncData
  f_check_piece : Addr
  d_check_piece : FuncData
  f_places_within : Addr
  d_places_within : FuncData
  f_sign_at : Addr
  d_sign_at : FuncData
  f_law_numbers : Addr
  d_law_numbers : FuncData
  f_law_owners : Addr
  d_law_owners : FuncData
  f_law_piece : Addr
  d_law_piece : FuncData
  f_law_refused : Addr
  d_law_refused : FuncData
  f_law_odd_sign : Addr
  d_law_odd_sign : FuncData
  f_law_spoilt_text : Addr
  d_law_spoilt_text : FuncData
  f_law_spoilt_pieces : Addr
  d_law_spoilt_pieces : FuncData
  f_law_spoilt_owners : Addr
  d_law_spoilt_owners : FuncData
  f_law_fitting : Addr
  d_law_fitting : FuncData
  f_law : Addr
  d_law : FuncData
  e_WeaveError : Addr
  e_NoRow : Addr
  e_TooLarge : Addr
  e_NoCloth : Addr
  e_NoDraft : Addr
  e_NoStrand : Addr
  e_NoDeed : Addr
  e_NoLaying : Addr
  f_NoLaying_called : Addr
  d_NoLaying_called : FuncData
  e_NoShuttle : Addr
  e_NoColour : Addr
  e_NoBlock : Addr
  e_NoPattern : Addr
  e_Unknown : Addr
  e_Twice : Addr
structure Txt (K : PySem.W.Frag) (mg : Str → Option Value) (t : Adr) : Prop where
  laid_together : Df K mg "laid_together" s_laid_together ["pieces", "ends", "picks"] t.f_laid_together t.d_laid_together
  check_owners : Df K mg "check_owners" s_check_owners ["owners", "pieces"] t.f_check_owners t.d_check_owners
  check_piece : Df K mg "check_piece" s_check_piece ["piece", "ends", "picks"] t.f_check_piece t.d_check_piece
  places_within : Df K mg "places_within" s_places_within ["owners"] t.f_places_within t.d_places_within
  sign_at : Df K mg "sign_at" s_sign_at ["pick_owner", "own", "end_owner", "place"] t.f_sign_at t.d_sign_at
  law_numbers : Df K mg "_law_numbers" s_law_numbers ["script", "many"] t.f_law_numbers t.d_law_numbers
  law_owners : Df K mg "_law_owners" s_law_owners ["numbers", "first", "count", "many"] t.f_law_owners t.d_law_owners
  law_piece : Df K mg "_law_piece" s_law_piece ["numbers", "name", "wide", "high"] t.f_law_piece t.d_law_piece
  law_refused : Df K mg "_law_refused" s_law_refused ["pieces", "ends", "picks"] t.f_law_refused t.d_law_refused
  law_odd_sign : Df K mg "_law_odd_sign" s_law_odd_sign ["number"] t.f_law_odd_sign t.d_law_odd_sign
  law_spoilt_text : Df K mg "_law_spoilt_text" s_law_spoilt_text ["row", "fault", "at", "sign"] t.f_law_spoilt_text t.d_law_spoilt_text
  law_spoilt_pieces : Df K mg "_law_spoilt_pieces" s_law_spoilt_pieces ["pieces", "fault", "numbers", "ends"] t.f_law_spoilt_pieces t.d_law_spoilt_pieces
  law_spoilt_owners : Df K mg "_law_spoilt_owners" s_law_spoilt_owners ["owners", "many", "numbers", "far"] t.f_law_spoilt_owners t.d_law_spoilt_owners
  law_fitting : Df K mg "_law_fitting" s_law_fitting ["numbers", "ends", "picks", "many"] t.f_law_fitting t.d_law_fitting
  law : Df K mg "law" s_law ["script"] t.f_law t.d_law
  b_ValueError : mg "ValueError" = none
  b_enumerate : mg "enumerate" = none
  b_isinstance : mg "isinstance" = none
  b_len : mg "len" = none
  b_list : mg "list" = none
  b_range : mg "range" = none
  b_str : mg "str" = none
  b_zip : mg "zip" = none
  c_MOST_STRANDS : ∃ tk, mg "MOST_STRANDS" = some (.int 40 tk)
  k_WeaveError : mg "WeaveError" = some (.ref t.e_WeaveError)
  x_WeaveError : Exn K t.e_WeaveError
  k_NoRow : mg "NoRow" = some (.ref t.e_NoRow)
  i_NoRow : PySem.W.isClsIn K t.e_NoRow = true
  j_NoRow : PySem.W.typeIn K (.ref t.e_NoRow) = some (.type "type")
  k_TooLarge : mg "TooLarge" = some (.ref t.e_TooLarge)
  i_TooLarge : PySem.W.isClsIn K t.e_TooLarge = true
  j_TooLarge : PySem.W.typeIn K (.ref t.e_TooLarge) = some (.type "type")
  k_NoCloth : mg "NoCloth" = some (.ref t.e_NoCloth)
  i_NoCloth : PySem.W.isClsIn K t.e_NoCloth = true
  j_NoCloth : PySem.W.typeIn K (.ref t.e_NoCloth) = some (.type "type")
  k_NoDraft : mg "NoDraft" = some (.ref t.e_NoDraft)
  i_NoDraft : PySem.W.isClsIn K t.e_NoDraft = true
  j_NoDraft : PySem.W.typeIn K (.ref t.e_NoDraft) = some (.type "type")
  k_NoStrand : mg "NoStrand" = some (.ref t.e_NoStrand)
  i_NoStrand : PySem.W.isClsIn K t.e_NoStrand = true
  j_NoStrand : PySem.W.typeIn K (.ref t.e_NoStrand) = some (.type "type")
  k_NoDeed : mg "NoDeed" = some (.ref t.e_NoDeed)
  i_NoDeed : PySem.W.isClsIn K t.e_NoDeed = true
  j_NoDeed : PySem.W.typeIn K (.ref t.e_NoDeed) = some (.type "type")
  k_NoLaying : mg "NoLaying" = some (.ref t.e_NoLaying)
  x_NoLaying : Exn K t.e_NoLaying
  m_NoLaying : Mf K "called" "NoLaying.called" s_NoLaying_called ["self"] t.e_NoLaying t.f_NoLaying_called t.d_NoLaying_called
  r_NoLaying_WeaveError : PySem.W.mroIn K t.e_NoLaying (.ref t.e_WeaveError) = some true
  r_NoLaying_NoRow : PySem.W.mroIn K t.e_NoLaying (.ref t.e_NoRow) = some false
  r_NoLaying_TooLarge : PySem.W.mroIn K t.e_NoLaying (.ref t.e_TooLarge) = some false
  r_NoLaying_NoCloth : PySem.W.mroIn K t.e_NoLaying (.ref t.e_NoCloth) = some false
  r_NoLaying_NoDraft : PySem.W.mroIn K t.e_NoLaying (.ref t.e_NoDraft) = some false
  r_NoLaying_NoStrand : PySem.W.mroIn K t.e_NoLaying (.ref t.e_NoStrand) = some false
  r_NoLaying_NoDeed : PySem.W.mroIn K t.e_NoLaying (.ref t.e_NoDeed) = some false
  r_NoLaying_NoLaying : PySem.W.mroIn K t.e_NoLaying (.ref t.e_NoLaying) = some true
  r_NoLaying_NoShuttle : PySem.W.mroIn K t.e_NoLaying (.ref t.e_NoShuttle) = some false
  r_NoLaying_NoColour : PySem.W.mroIn K t.e_NoLaying (.ref t.e_NoColour) = some false
  r_NoLaying_NoBlock : PySem.W.mroIn K t.e_NoLaying (.ref t.e_NoBlock) = some false
  r_NoLaying_NoPattern : PySem.W.mroIn K t.e_NoLaying (.ref t.e_NoPattern) = some false
  r_NoLaying_Unknown : PySem.W.mroIn K t.e_NoLaying (.ref t.e_Unknown) = some false
  r_NoLaying_Twice : PySem.W.mroIn K t.e_NoLaying (.ref t.e_Twice) = some false
  k_NoShuttle : mg "NoShuttle" = some (.ref t.e_NoShuttle)
  i_NoShuttle : PySem.W.isClsIn K t.e_NoShuttle = true
  j_NoShuttle : PySem.W.typeIn K (.ref t.e_NoShuttle) = some (.type "type")
  k_NoColour : mg "NoColour" = some (.ref t.e_NoColour)
  i_NoColour : PySem.W.isClsIn K t.e_NoColour = true
  j_NoColour : PySem.W.typeIn K (.ref t.e_NoColour) = some (.type "type")
  k_NoBlock : mg "NoBlock" = some (.ref t.e_NoBlock)
  i_NoBlock : PySem.W.isClsIn K t.e_NoBlock = true
  j_NoBlock : PySem.W.typeIn K (.ref t.e_NoBlock) = some (.type "type")
  k_NoPattern : mg "NoPattern" = some (.ref t.e_NoPattern)
  i_NoPattern : PySem.W.isClsIn K t.e_NoPattern = true
  j_NoPattern : PySem.W.typeIn K (.ref t.e_NoPattern) = some (.type "type")
  k_Unknown : mg "Unknown" = some (.ref t.e_Unknown)
  i_Unknown : PySem.W.isClsIn K t.e_Unknown = true
  j_Unknown : PySem.W.typeIn K (.ref t.e_Unknown) = some (.type "type")
  k_Twice : mg "Twice" = some (.ref t.e_Twice)
  i_Twice : PySem.W.isClsIn K t.e_Twice = true
  j_Twice : PySem.W.typeIn K (.ref t.e_Twice) = some (.type "type")
theorem bl1 {fd : FuncData} {ps : List Str} (h : ∀ a0 : Value, bindArgs fd ⟨[a0], []⟩ = pure (ps.zip [a0])) (us : List Value) (hl : us.length = 1) : bindArgs fd ⟨us, []⟩ = pure (ps.zip us) := by
  rcases us with _ | ⟨a0, us⟩
  · cases hl
  rcases us with _ | ⟨b, us⟩
  · exact h a0
  · cases hl
theorem bl2 {fd : FuncData} {ps : List Str} (h : ∀ a0 a1 : Value, bindArgs fd ⟨[a0, a1], []⟩ = pure (ps.zip [a0, a1])) (us : List Value) (hl : us.length = 2) : bindArgs fd ⟨us, []⟩ = pure (ps.zip us) := by
  rcases us with _ | ⟨a0, us⟩
  · cases hl
  rcases us with _ | ⟨a1, us⟩
  · cases hl
  rcases us with _ | ⟨b, us⟩
  · exact h a0 a1
  · cases hl
theorem bl3 {fd : FuncData} {ps : List Str} (h : ∀ a0 a1 a2 : Value, bindArgs fd ⟨[a0, a1, a2], []⟩ = pure (ps.zip [a0, a1, a2])) (us : List Value) (hl : us.length = 3) : bindArgs fd ⟨us, []⟩ = pure (ps.zip us) := by
  rcases us with _ | ⟨a0, us⟩
  · cases hl
  rcases us with _ | ⟨a1, us⟩
  · cases hl
  rcases us with _ | ⟨a2, us⟩
  · cases hl
  rcases us with _ | ⟨b, us⟩
  · exact h a0 a1 a2
  · cases hl
theorem bl4 {fd : FuncData} {ps : List Str} (h : ∀ a0 a1 a2 a3 : Value, bindArgs fd ⟨[a0, a1, a2, a3], []⟩ = pure (ps.zip [a0, a1, a2, a3])) (us : List Value) (hl : us.length = 4) : bindArgs fd ⟨us, []⟩ = pure (ps.zip us) := by
  rcases us with _ | ⟨a0, us⟩
  · cases hl
  rcases us with _ | ⟨a1, us⟩
  · cases hl
  rcases us with _ | ⟨a2, us⟩
  · cases hl
  rcases us with _ | ⟨a3, us⟩
  · cases hl
  rcases us with _ | ⟨b, us⟩
  · exact h a0 a1 a2 a3
  · cases hl
theorem txt_mk {K : PySem.W.Frag} {h : Heap} {mg : Str → Option Value} {f_laid_together : Addr} {od_laid_together an_laid_together : Option Addr} {sl_laid_together : Array (Option Value)} {oc_laid_together kV_laid_together dc_laid_together pm_laid_together cd_laid_together ct_laid_together : Value}
    {f_check_owners : Addr} {od_check_owners an_check_owners : Option Addr} {sl_check_owners : Array (Option Value)} {oc_check_owners kV_check_owners dc_check_owners pm_check_owners cd_check_owners ct_check_owners : Value}
    {f_check_piece : Addr} {od_check_piece an_check_piece : Option Addr} {sl_check_piece : Array (Option Value)} {oc_check_piece kV_check_piece dc_check_piece pm_check_piece cd_check_piece ct_check_piece : Value}
    {f_places_within : Addr} {od_places_within an_places_within : Option Addr} {sl_places_within : Array (Option Value)} {oc_places_within kV_places_within dc_places_within pm_places_within cd_places_within ct_places_within : Value}
    {f_sign_at : Addr} {od_sign_at an_sign_at : Option Addr} {sl_sign_at : Array (Option Value)} {oc_sign_at kV_sign_at dc_sign_at pm_sign_at cd_sign_at ct_sign_at : Value}
    {f_law_numbers : Addr} {od_law_numbers an_law_numbers : Option Addr} {sl_law_numbers : Array (Option Value)} {oc_law_numbers kV_law_numbers dc_law_numbers pm_law_numbers cd_law_numbers ct_law_numbers : Value}
    {f_law_owners : Addr} {od_law_owners an_law_owners : Option Addr} {sl_law_owners : Array (Option Value)} {oc_law_owners kV_law_owners dc_law_owners pm_law_owners cd_law_owners ct_law_owners : Value}
    {f_law_piece : Addr} {od_law_piece an_law_piece : Option Addr} {sl_law_piece : Array (Option Value)} {oc_law_piece kV_law_piece dc_law_piece pm_law_piece cd_law_piece ct_law_piece : Value}
    {f_law_refused : Addr} {od_law_refused an_law_refused : Option Addr} {sl_law_refused : Array (Option Value)} {oc_law_refused kV_law_refused dc_law_refused pm_law_refused cd_law_refused ct_law_refused : Value}
    {f_law_odd_sign : Addr} {od_law_odd_sign an_law_odd_sign : Option Addr} {sl_law_odd_sign : Array (Option Value)} {oc_law_odd_sign kV_law_odd_sign dc_law_odd_sign pm_law_odd_sign cd_law_odd_sign ct_law_odd_sign : Value}
    {f_law_spoilt_text : Addr} {od_law_spoilt_text an_law_spoilt_text : Option Addr} {sl_law_spoilt_text : Array (Option Value)} {oc_law_spoilt_text kV_law_spoilt_text dc_law_spoilt_text pm_law_spoilt_text cd_law_spoilt_text ct_law_spoilt_text : Value}
    {f_law_spoilt_pieces : Addr} {od_law_spoilt_pieces an_law_spoilt_pieces : Option Addr} {sl_law_spoilt_pieces : Array (Option Value)} {oc_law_spoilt_pieces kV_law_spoilt_pieces dc_law_spoilt_pieces pm_law_spoilt_pieces cd_law_spoilt_pieces ct_law_spoilt_pieces : Value}
    {f_law_spoilt_owners : Addr} {od_law_spoilt_owners an_law_spoilt_owners : Option Addr} {sl_law_spoilt_owners : Array (Option Value)} {oc_law_spoilt_owners kV_law_spoilt_owners dc_law_spoilt_owners pm_law_spoilt_owners cd_law_spoilt_owners ct_law_spoilt_owners : Value}
    {f_law_fitting : Addr} {od_law_fitting an_law_fitting : Option Addr} {sl_law_fitting : Array (Option Value)} {oc_law_fitting kV_law_fitting dc_law_fitting pm_law_fitting cd_law_fitting ct_law_fitting : Value}
    {f_law : Addr} {od_law an_law : Option Addr} {sl_law : Array (Option Value)} {oc_law kV_law dc_law pm_law cd_law ct_law : Value}
    {q_MOST_STRANDS : Tok}
    {e_WeaveError : Addr}
    {e_NoRow : Addr}
    {e_TooLarge : Addr}
    {e_NoCloth : Addr}
    {e_NoDraft : Addr}
    {e_NoStrand : Addr}
    {e_NoDeed : Addr}
    {e_NoLaying : Addr}
    {e_NoShuttle : Addr}
    {e_NoColour : Addr}
    {e_NoBlock : Addr}
    {e_NoPattern : Addr}
    {e_Unknown : Addr}
    {e_Twice : Addr}
    {f_NoLaying_called : Addr} {od_NoLaying_called an_NoLaying_called : Option Addr} {sl_NoLaying_called : Array (Option Value)} {oc_NoLaying_called kV_NoLaying_called dc_NoLaying_called pm_NoLaying_called cd_NoLaying_called ct_NoLaying_called : Value}
    (X : K.In h) (G : h.Ns mainGlobals mg)
    (a_laid_together : PySem.W.nsIn K mainGlobals "laid_together" = some (some (.ref f_laid_together)))
    (l_laid_together : K.lookup f_laid_together = some ⟨oc_laid_together, od_laid_together, .func (PySem.W.fnOf "laid_together" "laid_together" (defArgs s_laid_together) (defBody s_laid_together) (defScope s_laid_together) .none kV_laid_together dc_laid_together pm_laid_together an_laid_together cd_laid_together ct_laid_together), sl_laid_together⟩)
    (c_laid_together : PySem.W.codeIn K cd_laid_together "laid_together" = true)
    (k_laid_together : PySem.W.keepIn K (.ref f_laid_together) = true)
    (a_check_owners : PySem.W.nsIn K mainGlobals "check_owners" = some (some (.ref f_check_owners)))
    (l_check_owners : K.lookup f_check_owners = some ⟨oc_check_owners, od_check_owners, .func (PySem.W.fnOf "check_owners" "check_owners" (defArgs s_check_owners) (defBody s_check_owners) (defScope s_check_owners) .none kV_check_owners dc_check_owners pm_check_owners an_check_owners cd_check_owners ct_check_owners), sl_check_owners⟩)
    (c_check_owners : PySem.W.codeIn K cd_check_owners "check_owners" = true)
    (k_check_owners : PySem.W.keepIn K (.ref f_check_owners) = true)
    (a_check_piece : PySem.W.nsIn K mainGlobals "check_piece" = some (some (.ref f_check_piece)))
    (l_check_piece : K.lookup f_check_piece = some ⟨oc_check_piece, od_check_piece, .func (PySem.W.fnOf "check_piece" "check_piece" (defArgs s_check_piece) (defBody s_check_piece) (defScope s_check_piece) .none kV_check_piece dc_check_piece pm_check_piece an_check_piece cd_check_piece ct_check_piece), sl_check_piece⟩)
    (c_check_piece : PySem.W.codeIn K cd_check_piece "check_piece" = true)
    (k_check_piece : PySem.W.keepIn K (.ref f_check_piece) = true)
    (a_places_within : PySem.W.nsIn K mainGlobals "places_within" = some (some (.ref f_places_within)))
    (l_places_within : K.lookup f_places_within = some ⟨oc_places_within, od_places_within, .func (PySem.W.fnOf "places_within" "places_within" (defArgs s_places_within) (defBody s_places_within) (defScope s_places_within) .none kV_places_within dc_places_within pm_places_within an_places_within cd_places_within ct_places_within), sl_places_within⟩)
    (c_places_within : PySem.W.codeIn K cd_places_within "places_within" = true)
    (k_places_within : PySem.W.keepIn K (.ref f_places_within) = true)
    (a_sign_at : PySem.W.nsIn K mainGlobals "sign_at" = some (some (.ref f_sign_at)))
    (l_sign_at : K.lookup f_sign_at = some ⟨oc_sign_at, od_sign_at, .func (PySem.W.fnOf "sign_at" "sign_at" (defArgs s_sign_at) (defBody s_sign_at) (defScope s_sign_at) .none kV_sign_at dc_sign_at pm_sign_at an_sign_at cd_sign_at ct_sign_at), sl_sign_at⟩)
    (c_sign_at : PySem.W.codeIn K cd_sign_at "sign_at" = true)
    (k_sign_at : PySem.W.keepIn K (.ref f_sign_at) = true)
    (a_law_numbers : PySem.W.nsIn K mainGlobals "_law_numbers" = some (some (.ref f_law_numbers)))
    (l_law_numbers : K.lookup f_law_numbers = some ⟨oc_law_numbers, od_law_numbers, .func (PySem.W.fnOf "_law_numbers" "_law_numbers" (defArgs s_law_numbers) (defBody s_law_numbers) (defScope s_law_numbers) .none kV_law_numbers dc_law_numbers pm_law_numbers an_law_numbers cd_law_numbers ct_law_numbers), sl_law_numbers⟩)
    (c_law_numbers : PySem.W.codeIn K cd_law_numbers "_law_numbers" = true)
    (k_law_numbers : PySem.W.keepIn K (.ref f_law_numbers) = true)
    (a_law_owners : PySem.W.nsIn K mainGlobals "_law_owners" = some (some (.ref f_law_owners)))
    (l_law_owners : K.lookup f_law_owners = some ⟨oc_law_owners, od_law_owners, .func (PySem.W.fnOf "_law_owners" "_law_owners" (defArgs s_law_owners) (defBody s_law_owners) (defScope s_law_owners) .none kV_law_owners dc_law_owners pm_law_owners an_law_owners cd_law_owners ct_law_owners), sl_law_owners⟩)
    (c_law_owners : PySem.W.codeIn K cd_law_owners "_law_owners" = true)
    (k_law_owners : PySem.W.keepIn K (.ref f_law_owners) = true)
    (a_law_piece : PySem.W.nsIn K mainGlobals "_law_piece" = some (some (.ref f_law_piece)))
    (l_law_piece : K.lookup f_law_piece = some ⟨oc_law_piece, od_law_piece, .func (PySem.W.fnOf "_law_piece" "_law_piece" (defArgs s_law_piece) (defBody s_law_piece) (defScope s_law_piece) .none kV_law_piece dc_law_piece pm_law_piece an_law_piece cd_law_piece ct_law_piece), sl_law_piece⟩)
    (c_law_piece : PySem.W.codeIn K cd_law_piece "_law_piece" = true)
    (k_law_piece : PySem.W.keepIn K (.ref f_law_piece) = true)
    (a_law_refused : PySem.W.nsIn K mainGlobals "_law_refused" = some (some (.ref f_law_refused)))
    (l_law_refused : K.lookup f_law_refused = some ⟨oc_law_refused, od_law_refused, .func (PySem.W.fnOf "_law_refused" "_law_refused" (defArgs s_law_refused) (defBody s_law_refused) (defScope s_law_refused) .none kV_law_refused dc_law_refused pm_law_refused an_law_refused cd_law_refused ct_law_refused), sl_law_refused⟩)
    (c_law_refused : PySem.W.codeIn K cd_law_refused "_law_refused" = true)
    (k_law_refused : PySem.W.keepIn K (.ref f_law_refused) = true)
    (a_law_odd_sign : PySem.W.nsIn K mainGlobals "_law_odd_sign" = some (some (.ref f_law_odd_sign)))
    (l_law_odd_sign : K.lookup f_law_odd_sign = some ⟨oc_law_odd_sign, od_law_odd_sign, .func (PySem.W.fnOf "_law_odd_sign" "_law_odd_sign" (defArgs s_law_odd_sign) (defBody s_law_odd_sign) (defScope s_law_odd_sign) .none kV_law_odd_sign dc_law_odd_sign pm_law_odd_sign an_law_odd_sign cd_law_odd_sign ct_law_odd_sign), sl_law_odd_sign⟩)
    (c_law_odd_sign : PySem.W.codeIn K cd_law_odd_sign "_law_odd_sign" = true)
    (k_law_odd_sign : PySem.W.keepIn K (.ref f_law_odd_sign) = true)
    (a_law_spoilt_text : PySem.W.nsIn K mainGlobals "_law_spoilt_text" = some (some (.ref f_law_spoilt_text)))
    (l_law_spoilt_text : K.lookup f_law_spoilt_text = some ⟨oc_law_spoilt_text, od_law_spoilt_text, .func (PySem.W.fnOf "_law_spoilt_text" "_law_spoilt_text" (defArgs s_law_spoilt_text) (defBody s_law_spoilt_text) (defScope s_law_spoilt_text) .none kV_law_spoilt_text dc_law_spoilt_text pm_law_spoilt_text an_law_spoilt_text cd_law_spoilt_text ct_law_spoilt_text), sl_law_spoilt_text⟩)
    (c_law_spoilt_text : PySem.W.codeIn K cd_law_spoilt_text "_law_spoilt_text" = true)
    (k_law_spoilt_text : PySem.W.keepIn K (.ref f_law_spoilt_text) = true)
    (a_law_spoilt_pieces : PySem.W.nsIn K mainGlobals "_law_spoilt_pieces" = some (some (.ref f_law_spoilt_pieces)))
    (l_law_spoilt_pieces : K.lookup f_law_spoilt_pieces = some ⟨oc_law_spoilt_pieces, od_law_spoilt_pieces, .func (PySem.W.fnOf "_law_spoilt_pieces" "_law_spoilt_pieces" (defArgs s_law_spoilt_pieces) (defBody s_law_spoilt_pieces) (defScope s_law_spoilt_pieces) .none kV_law_spoilt_pieces dc_law_spoilt_pieces pm_law_spoilt_pieces an_law_spoilt_pieces cd_law_spoilt_pieces ct_law_spoilt_pieces), sl_law_spoilt_pieces⟩)
    (c_law_spoilt_pieces : PySem.W.codeIn K cd_law_spoilt_pieces "_law_spoilt_pieces" = true)
    (k_law_spoilt_pieces : PySem.W.keepIn K (.ref f_law_spoilt_pieces) = true)
    (a_law_spoilt_owners : PySem.W.nsIn K mainGlobals "_law_spoilt_owners" = some (some (.ref f_law_spoilt_owners)))
    (l_law_spoilt_owners : K.lookup f_law_spoilt_owners = some ⟨oc_law_spoilt_owners, od_law_spoilt_owners, .func (PySem.W.fnOf "_law_spoilt_owners" "_law_spoilt_owners" (defArgs s_law_spoilt_owners) (defBody s_law_spoilt_owners) (defScope s_law_spoilt_owners) .none kV_law_spoilt_owners dc_law_spoilt_owners pm_law_spoilt_owners an_law_spoilt_owners cd_law_spoilt_owners ct_law_spoilt_owners), sl_law_spoilt_owners⟩)
    (c_law_spoilt_owners : PySem.W.codeIn K cd_law_spoilt_owners "_law_spoilt_owners" = true)
    (k_law_spoilt_owners : PySem.W.keepIn K (.ref f_law_spoilt_owners) = true)
    (a_law_fitting : PySem.W.nsIn K mainGlobals "_law_fitting" = some (some (.ref f_law_fitting)))
    (l_law_fitting : K.lookup f_law_fitting = some ⟨oc_law_fitting, od_law_fitting, .func (PySem.W.fnOf "_law_fitting" "_law_fitting" (defArgs s_law_fitting) (defBody s_law_fitting) (defScope s_law_fitting) .none kV_law_fitting dc_law_fitting pm_law_fitting an_law_fitting cd_law_fitting ct_law_fitting), sl_law_fitting⟩)
    (c_law_fitting : PySem.W.codeIn K cd_law_fitting "_law_fitting" = true)
    (k_law_fitting : PySem.W.keepIn K (.ref f_law_fitting) = true)
    (a_law : PySem.W.nsIn K mainGlobals "law" = some (some (.ref f_law)))
    (l_law : K.lookup f_law = some ⟨oc_law, od_law, .func (PySem.W.fnOf "law" "law" (defArgs s_law) (defBody s_law) (defScope s_law) .none kV_law dc_law pm_law an_law cd_law ct_law), sl_law⟩)
    (c_law : PySem.W.codeIn K cd_law "law" = true)
    (k_law : PySem.W.keepIn K (.ref f_law) = true)
    (z_ValueError : PySem.W.nsIn K mainGlobals "ValueError" = some none)
    (z_enumerate : PySem.W.nsIn K mainGlobals "enumerate" = some none)
    (z_isinstance : PySem.W.nsIn K mainGlobals "isinstance" = some none)
    (z_len : PySem.W.nsIn K mainGlobals "len" = some none)
    (z_list : PySem.W.nsIn K mainGlobals "list" = some none)
    (z_range : PySem.W.nsIn K mainGlobals "range" = some none)
    (z_str : PySem.W.nsIn K mainGlobals "str" = some none)
    (z_zip : PySem.W.nsIn K mainGlobals "zip" = some none)
    (x_MOST_STRANDS : PySem.W.nsIn K mainGlobals "MOST_STRANDS" = some (some (.int 40 q_MOST_STRANDS)))
    (n_WeaveError : PySem.W.nsIn K mainGlobals "WeaveError" = some (some (.ref e_WeaveError)))
    (n_NoRow : PySem.W.nsIn K mainGlobals "NoRow" = some (some (.ref e_NoRow)))
    (n_TooLarge : PySem.W.nsIn K mainGlobals "TooLarge" = some (some (.ref e_TooLarge)))
    (n_NoCloth : PySem.W.nsIn K mainGlobals "NoCloth" = some (some (.ref e_NoCloth)))
    (n_NoDraft : PySem.W.nsIn K mainGlobals "NoDraft" = some (some (.ref e_NoDraft)))
    (n_NoStrand : PySem.W.nsIn K mainGlobals "NoStrand" = some (some (.ref e_NoStrand)))
    (n_NoDeed : PySem.W.nsIn K mainGlobals "NoDeed" = some (some (.ref e_NoDeed)))
    (n_NoLaying : PySem.W.nsIn K mainGlobals "NoLaying" = some (some (.ref e_NoLaying)))
    (n_NoShuttle : PySem.W.nsIn K mainGlobals "NoShuttle" = some (some (.ref e_NoShuttle)))
    (n_NoColour : PySem.W.nsIn K mainGlobals "NoColour" = some (some (.ref e_NoColour)))
    (n_NoBlock : PySem.W.nsIn K mainGlobals "NoBlock" = some (some (.ref e_NoBlock)))
    (n_NoPattern : PySem.W.nsIn K mainGlobals "NoPattern" = some (some (.ref e_NoPattern)))
    (n_Unknown : PySem.W.nsIn K mainGlobals "Unknown" = some (some (.ref e_Unknown)))
    (n_Twice : PySem.W.nsIn K mainGlobals "Twice" = some (some (.ref e_Twice)))
    (y1_WeaveError : PySem.W.excIn K e_WeaveError vE vN = true)
    (y2_WeaveError : PySem.W.findIn K (.ref e_WeaveError) "__getattribute__" = some (some (.builtin "BaseException.__getattribute__")))
    (y3_WeaveError : PySem.W.findIn K (.ref e_WeaveError) "__getattr__" = some none)
    (y4_WeaveError : PySem.W.findIn K (.ref e_WeaveError) "__class__" = some (some (.builtin "object.__class__")))
    (y5_WeaveError : PySem.W.specialIn K (.builtin "object.__class__") "__get__" = some (some (.builtin "getset_descriptor.__get__")))
    (y6_WeaveError : PySem.W.takesIn K (.builtin "object.__class__") = some true)
    (y7_WeaveError : PySem.W.mroIn K e_WeaveError (.type "object") = some true)
    (y8_WeaveError : PySem.W.mroIn K e_WeaveError (.type "BaseException") = some true)
    (y9_WeaveError : PySem.W.isClsIn K e_WeaveError = true)
    (y10_WeaveError : PySem.W.typeIn K (.ref e_WeaveError) = some (.type "type"))
    (y11_WeaveError : PySem.W.mroIn K e_WeaveError (.type "ValueError") = some true)
    (y9_NoRow : PySem.W.isClsIn K e_NoRow = true)
    (y10_NoRow : PySem.W.typeIn K (.ref e_NoRow) = some (.type "type"))
    (y9_TooLarge : PySem.W.isClsIn K e_TooLarge = true)
    (y10_TooLarge : PySem.W.typeIn K (.ref e_TooLarge) = some (.type "type"))
    (y9_NoCloth : PySem.W.isClsIn K e_NoCloth = true)
    (y10_NoCloth : PySem.W.typeIn K (.ref e_NoCloth) = some (.type "type"))
    (y9_NoDraft : PySem.W.isClsIn K e_NoDraft = true)
    (y10_NoDraft : PySem.W.typeIn K (.ref e_NoDraft) = some (.type "type"))
    (y9_NoStrand : PySem.W.isClsIn K e_NoStrand = true)
    (y10_NoStrand : PySem.W.typeIn K (.ref e_NoStrand) = some (.type "type"))
    (y9_NoDeed : PySem.W.isClsIn K e_NoDeed = true)
    (y10_NoDeed : PySem.W.typeIn K (.ref e_NoDeed) = some (.type "type"))
    (y1_NoLaying : PySem.W.excIn K e_NoLaying vE vN = true)
    (y2_NoLaying : PySem.W.findIn K (.ref e_NoLaying) "__getattribute__" = some (some (.builtin "BaseException.__getattribute__")))
    (y3_NoLaying : PySem.W.findIn K (.ref e_NoLaying) "__getattr__" = some none)
    (y4_NoLaying : PySem.W.findIn K (.ref e_NoLaying) "__class__" = some (some (.builtin "object.__class__")))
    (y7_NoLaying : PySem.W.mroIn K e_NoLaying (.type "object") = some true)
    (y8_NoLaying : PySem.W.mroIn K e_NoLaying (.type "BaseException") = some true)
    (y9_NoLaying : PySem.W.isClsIn K e_NoLaying = true)
    (y10_NoLaying : PySem.W.typeIn K (.ref e_NoLaying) = some (.type "type"))
    (y11_NoLaying : PySem.W.mroIn K e_NoLaying (.type "ValueError") = some true)
    (r_NoLaying_WeaveError : PySem.W.mroIn K e_NoLaying (.ref e_WeaveError) = some true)
    (r_NoLaying_NoRow : PySem.W.mroIn K e_NoLaying (.ref e_NoRow) = some false)
    (r_NoLaying_TooLarge : PySem.W.mroIn K e_NoLaying (.ref e_TooLarge) = some false)
    (r_NoLaying_NoCloth : PySem.W.mroIn K e_NoLaying (.ref e_NoCloth) = some false)
    (r_NoLaying_NoDraft : PySem.W.mroIn K e_NoLaying (.ref e_NoDraft) = some false)
    (r_NoLaying_NoStrand : PySem.W.mroIn K e_NoLaying (.ref e_NoStrand) = some false)
    (r_NoLaying_NoDeed : PySem.W.mroIn K e_NoLaying (.ref e_NoDeed) = some false)
    (r_NoLaying_NoLaying : PySem.W.mroIn K e_NoLaying (.ref e_NoLaying) = some true)
    (r_NoLaying_NoShuttle : PySem.W.mroIn K e_NoLaying (.ref e_NoShuttle) = some false)
    (r_NoLaying_NoColour : PySem.W.mroIn K e_NoLaying (.ref e_NoColour) = some false)
    (r_NoLaying_NoBlock : PySem.W.mroIn K e_NoLaying (.ref e_NoBlock) = some false)
    (r_NoLaying_NoPattern : PySem.W.mroIn K e_NoLaying (.ref e_NoPattern) = some false)
    (r_NoLaying_Unknown : PySem.W.mroIn K e_NoLaying (.ref e_Unknown) = some false)
    (r_NoLaying_Twice : PySem.W.mroIn K e_NoLaying (.ref e_Twice) = some false)
    (y9_NoShuttle : PySem.W.isClsIn K e_NoShuttle = true)
    (y10_NoShuttle : PySem.W.typeIn K (.ref e_NoShuttle) = some (.type "type"))
    (y9_NoColour : PySem.W.isClsIn K e_NoColour = true)
    (y10_NoColour : PySem.W.typeIn K (.ref e_NoColour) = some (.type "type"))
    (y9_NoBlock : PySem.W.isClsIn K e_NoBlock = true)
    (y10_NoBlock : PySem.W.typeIn K (.ref e_NoBlock) = some (.type "type"))
    (y9_NoPattern : PySem.W.isClsIn K e_NoPattern = true)
    (y10_NoPattern : PySem.W.typeIn K (.ref e_NoPattern) = some (.type "type"))
    (y9_Unknown : PySem.W.isClsIn K e_Unknown = true)
    (y10_Unknown : PySem.W.typeIn K (.ref e_Unknown) = some (.type "type"))
    (y9_Twice : PySem.W.isClsIn K e_Twice = true)
    (y10_Twice : PySem.W.typeIn K (.ref e_Twice) = some (.type "type"))
    (fm_NoLaying : PySem.W.findIn K (.ref e_NoLaying) "called" = some (some (.ref f_NoLaying_called)))
    (gm_NoLaying : PySem.W.isFn K (.ref f_NoLaying_called) = true)
    (lm_NoLaying : K.lookup f_NoLaying_called = some ⟨oc_NoLaying_called, od_NoLaying_called, .func (PySem.W.fnOf "called" "NoLaying.called" (defArgs s_NoLaying_called) (defBody s_NoLaying_called) (defScope s_NoLaying_called) .none kV_NoLaying_called dc_NoLaying_called pm_NoLaying_called an_NoLaying_called cd_NoLaying_called ct_NoLaying_called), sl_NoLaying_called⟩)
    (cm_NoLaying : PySem.W.codeIn K cd_NoLaying_called "NoLaying.called" = true)
    (km_NoLaying : PySem.W.keepIn K (.ref f_NoLaying_called) = true) :
    Txt K mg ⟨f_laid_together, PySem.W.fnOf "laid_together" "laid_together" (defArgs s_laid_together) (defBody s_laid_together) (defScope s_laid_together) .none kV_laid_together dc_laid_together pm_laid_together an_laid_together cd_laid_together ct_laid_together, f_check_owners, PySem.W.fnOf "check_owners" "check_owners" (defArgs s_check_owners) (defBody s_check_owners) (defScope s_check_owners) .none kV_check_owners dc_check_owners pm_check_owners an_check_owners cd_check_owners ct_check_owners, f_check_piece, PySem.W.fnOf "check_piece" "check_piece" (defArgs s_check_piece) (defBody s_check_piece) (defScope s_check_piece) .none kV_check_piece dc_check_piece pm_check_piece an_check_piece cd_check_piece ct_check_piece, f_places_within, PySem.W.fnOf "places_within" "places_within" (defArgs s_places_within) (defBody s_places_within) (defScope s_places_within) .none kV_places_within dc_places_within pm_places_within an_places_within cd_places_within ct_places_within, f_sign_at, PySem.W.fnOf "sign_at" "sign_at" (defArgs s_sign_at) (defBody s_sign_at) (defScope s_sign_at) .none kV_sign_at dc_sign_at pm_sign_at an_sign_at cd_sign_at ct_sign_at, f_law_numbers, PySem.W.fnOf "_law_numbers" "_law_numbers" (defArgs s_law_numbers) (defBody s_law_numbers) (defScope s_law_numbers) .none kV_law_numbers dc_law_numbers pm_law_numbers an_law_numbers cd_law_numbers ct_law_numbers, f_law_owners, PySem.W.fnOf "_law_owners" "_law_owners" (defArgs s_law_owners) (defBody s_law_owners) (defScope s_law_owners) .none kV_law_owners dc_law_owners pm_law_owners an_law_owners cd_law_owners ct_law_owners, f_law_piece, PySem.W.fnOf "_law_piece" "_law_piece" (defArgs s_law_piece) (defBody s_law_piece) (defScope s_law_piece) .none kV_law_piece dc_law_piece pm_law_piece an_law_piece cd_law_piece ct_law_piece, f_law_refused, PySem.W.fnOf "_law_refused" "_law_refused" (defArgs s_law_refused) (defBody s_law_refused) (defScope s_law_refused) .none kV_law_refused dc_law_refused pm_law_refused an_law_refused cd_law_refused ct_law_refused, f_law_odd_sign, PySem.W.fnOf "_law_odd_sign" "_law_odd_sign" (defArgs s_law_odd_sign) (defBody s_law_odd_sign) (defScope s_law_odd_sign) .none kV_law_odd_sign dc_law_odd_sign pm_law_odd_sign an_law_odd_sign cd_law_odd_sign ct_law_odd_sign, f_law_spoilt_text, PySem.W.fnOf "_law_spoilt_text" "_law_spoilt_text" (defArgs s_law_spoilt_text) (defBody s_law_spoilt_text) (defScope s_law_spoilt_text) .none kV_law_spoilt_text dc_law_spoilt_text pm_law_spoilt_text an_law_spoilt_text cd_law_spoilt_text ct_law_spoilt_text, f_law_spoilt_pieces, PySem.W.fnOf "_law_spoilt_pieces" "_law_spoilt_pieces" (defArgs s_law_spoilt_pieces) (defBody s_law_spoilt_pieces) (defScope s_law_spoilt_pieces) .none kV_law_spoilt_pieces dc_law_spoilt_pieces pm_law_spoilt_pieces an_law_spoilt_pieces cd_law_spoilt_pieces ct_law_spoilt_pieces, f_law_spoilt_owners, PySem.W.fnOf "_law_spoilt_owners" "_law_spoilt_owners" (defArgs s_law_spoilt_owners) (defBody s_law_spoilt_owners) (defScope s_law_spoilt_owners) .none kV_law_spoilt_owners dc_law_spoilt_owners pm_law_spoilt_owners an_law_spoilt_owners cd_law_spoilt_owners ct_law_spoilt_owners, f_law_fitting, PySem.W.fnOf "_law_fitting" "_law_fitting" (defArgs s_law_fitting) (defBody s_law_fitting) (defScope s_law_fitting) .none kV_law_fitting dc_law_fitting pm_law_fitting an_law_fitting cd_law_fitting ct_law_fitting, f_law, PySem.W.fnOf "law" "law" (defArgs s_law) (defBody s_law) (defScope s_law) .none kV_law dc_law pm_law an_law cd_law ct_law, e_WeaveError, e_NoRow, e_TooLarge, e_NoCloth, e_NoDraft, e_NoStrand, e_NoDeed, e_NoLaying, f_NoLaying_called, PySem.W.fnOf "called" "NoLaying.called" (defArgs s_NoLaying_called) (defBody s_NoLaying_called) (defScope s_NoLaying_called) .none kV_NoLaying_called dc_NoLaying_called pm_NoLaying_called an_NoLaying_called cd_NoLaying_called ct_NoLaying_called, e_NoShuttle, e_NoColour, e_NoBlock, e_NoPattern, e_Unknown, e_Twice⟩ :=
  ⟨⟨fun_mk (st := s_laid_together) l_laid_together c_laid_together k_laid_together, PySem.W.mg_of X G a_laid_together, (fun_mk (st := s_laid_together) l_laid_together c_laid_together k_laid_together).binds (ps := ["pieces", "ends", "picks"]) fun _ _ _ _ _ _ us hl => bl3 (fun _ _ _ => rfl) us hl⟩,
   ⟨fun_mk (st := s_check_owners) l_check_owners c_check_owners k_check_owners, PySem.W.mg_of X G a_check_owners, (fun_mk (st := s_check_owners) l_check_owners c_check_owners k_check_owners).binds (ps := ["owners", "pieces"]) fun _ _ _ _ _ _ us hl => bl2 (fun _ _ => rfl) us hl⟩,
   ⟨fun_mk (st := s_check_piece) l_check_piece c_check_piece k_check_piece, PySem.W.mg_of X G a_check_piece, (fun_mk (st := s_check_piece) l_check_piece c_check_piece k_check_piece).binds (ps := ["piece", "ends", "picks"]) fun _ _ _ _ _ _ us hl => bl3 (fun _ _ _ => rfl) us hl⟩,
   ⟨fun_mk (st := s_places_within) l_places_within c_places_within k_places_within, PySem.W.mg_of X G a_places_within, (fun_mk (st := s_places_within) l_places_within c_places_within k_places_within).binds (ps := ["owners"]) fun _ _ _ _ _ _ us hl => bl1 (fun _ => rfl) us hl⟩,
   ⟨fun_mk (st := s_sign_at) l_sign_at c_sign_at k_sign_at, PySem.W.mg_of X G a_sign_at, (fun_mk (st := s_sign_at) l_sign_at c_sign_at k_sign_at).binds (ps := ["pick_owner", "own", "end_owner", "place"]) fun _ _ _ _ _ _ us hl => bl4 (fun _ _ _ _ => rfl) us hl⟩,
   ⟨fun_mk (st := s_law_numbers) l_law_numbers c_law_numbers k_law_numbers, PySem.W.mg_of X G a_law_numbers, (fun_mk (st := s_law_numbers) l_law_numbers c_law_numbers k_law_numbers).binds (ps := ["script", "many"]) fun _ _ _ _ _ _ us hl => bl2 (fun _ _ => rfl) us hl⟩,
   ⟨fun_mk (st := s_law_owners) l_law_owners c_law_owners k_law_owners, PySem.W.mg_of X G a_law_owners, (fun_mk (st := s_law_owners) l_law_owners c_law_owners k_law_owners).binds (ps := ["numbers", "first", "count", "many"]) fun _ _ _ _ _ _ us hl => bl4 (fun _ _ _ _ => rfl) us hl⟩,
   ⟨fun_mk (st := s_law_piece) l_law_piece c_law_piece k_law_piece, PySem.W.mg_of X G a_law_piece, (fun_mk (st := s_law_piece) l_law_piece c_law_piece k_law_piece).binds (ps := ["numbers", "name", "wide", "high"]) fun _ _ _ _ _ _ us hl => bl4 (fun _ _ _ _ => rfl) us hl⟩,
   ⟨fun_mk (st := s_law_refused) l_law_refused c_law_refused k_law_refused, PySem.W.mg_of X G a_law_refused, (fun_mk (st := s_law_refused) l_law_refused c_law_refused k_law_refused).binds (ps := ["pieces", "ends", "picks"]) fun _ _ _ _ _ _ us hl => bl3 (fun _ _ _ => rfl) us hl⟩,
   ⟨fun_mk (st := s_law_odd_sign) l_law_odd_sign c_law_odd_sign k_law_odd_sign, PySem.W.mg_of X G a_law_odd_sign, (fun_mk (st := s_law_odd_sign) l_law_odd_sign c_law_odd_sign k_law_odd_sign).binds (ps := ["number"]) fun _ _ _ _ _ _ us hl => bl1 (fun _ => rfl) us hl⟩,
   ⟨fun_mk (st := s_law_spoilt_text) l_law_spoilt_text c_law_spoilt_text k_law_spoilt_text, PySem.W.mg_of X G a_law_spoilt_text, (fun_mk (st := s_law_spoilt_text) l_law_spoilt_text c_law_spoilt_text k_law_spoilt_text).binds (ps := ["row", "fault", "at", "sign"]) fun _ _ _ _ _ _ us hl => bl4 (fun _ _ _ _ => rfl) us hl⟩,
   ⟨fun_mk (st := s_law_spoilt_pieces) l_law_spoilt_pieces c_law_spoilt_pieces k_law_spoilt_pieces, PySem.W.mg_of X G a_law_spoilt_pieces, (fun_mk (st := s_law_spoilt_pieces) l_law_spoilt_pieces c_law_spoilt_pieces k_law_spoilt_pieces).binds (ps := ["pieces", "fault", "numbers", "ends"]) fun _ _ _ _ _ _ us hl => bl4 (fun _ _ _ _ => rfl) us hl⟩,
   ⟨fun_mk (st := s_law_spoilt_owners) l_law_spoilt_owners c_law_spoilt_owners k_law_spoilt_owners, PySem.W.mg_of X G a_law_spoilt_owners, (fun_mk (st := s_law_spoilt_owners) l_law_spoilt_owners c_law_spoilt_owners k_law_spoilt_owners).binds (ps := ["owners", "many", "numbers", "far"]) fun _ _ _ _ _ _ us hl => bl4 (fun _ _ _ _ => rfl) us hl⟩,
   ⟨fun_mk (st := s_law_fitting) l_law_fitting c_law_fitting k_law_fitting, PySem.W.mg_of X G a_law_fitting, (fun_mk (st := s_law_fitting) l_law_fitting c_law_fitting k_law_fitting).binds (ps := ["numbers", "ends", "picks", "many"]) fun _ _ _ _ _ _ us hl => bl4 (fun _ _ _ _ => rfl) us hl⟩,
   ⟨fun_mk (st := s_law) l_law c_law k_law, PySem.W.mg_of X G a_law, (fun_mk (st := s_law) l_law c_law k_law).binds (ps := ["script"]) fun _ _ _ _ _ _ us hl => bl1 (fun _ => rfl) us hl⟩,
   PySem.W.mg_none_of X G z_ValueError,
   PySem.W.mg_none_of X G z_enumerate,
   PySem.W.mg_none_of X G z_isinstance,
   PySem.W.mg_none_of X G z_len,
   PySem.W.mg_none_of X G z_list,
   PySem.W.mg_none_of X G z_range,
   PySem.W.mg_none_of X G z_str,
   PySem.W.mg_none_of X G z_zip,
   ⟨_, PySem.W.mg_of X G x_MOST_STRANDS⟩,
   PySem.W.mg_of X G n_WeaveError,
   exn_mk y1_WeaveError y2_WeaveError y3_WeaveError y4_WeaveError y5_WeaveError y6_WeaveError y7_WeaveError y8_WeaveError y9_WeaveError y10_WeaveError y11_WeaveError,
   PySem.W.mg_of X G n_NoRow,
   y9_NoRow,
   y10_NoRow,
   PySem.W.mg_of X G n_TooLarge,
   y9_TooLarge,
   y10_TooLarge,
   PySem.W.mg_of X G n_NoCloth,
   y9_NoCloth,
   y10_NoCloth,
   PySem.W.mg_of X G n_NoDraft,
   y9_NoDraft,
   y10_NoDraft,
   PySem.W.mg_of X G n_NoStrand,
   y9_NoStrand,
   y10_NoStrand,
   PySem.W.mg_of X G n_NoDeed,
   y9_NoDeed,
   y10_NoDeed,
   PySem.W.mg_of X G n_NoLaying,
   exn_mk y1_NoLaying y2_NoLaying y3_NoLaying y4_NoLaying y5_WeaveError y6_WeaveError y7_NoLaying y8_NoLaying y9_NoLaying y10_NoLaying y11_NoLaying,
   ⟨fun_mk (st := s_NoLaying_called) lm_NoLaying cm_NoLaying km_NoLaying, ⟨fm_NoLaying, gm_NoLaying, km_NoLaying⟩, (fun_mk (st := s_NoLaying_called) lm_NoLaying cm_NoLaying km_NoLaying).binds (ps := ["self"]) fun _ _ _ _ _ _ us hl => match us, hl with | [_], _ => rfl⟩,
   r_NoLaying_WeaveError,
   r_NoLaying_NoRow,
   r_NoLaying_TooLarge,
   r_NoLaying_NoCloth,
   r_NoLaying_NoDraft,
   r_NoLaying_NoStrand,
   r_NoLaying_NoDeed,
   r_NoLaying_NoLaying,
   r_NoLaying_NoShuttle,
   r_NoLaying_NoColour,
   r_NoLaying_NoBlock,
   r_NoLaying_NoPattern,
   r_NoLaying_Unknown,
   r_NoLaying_Twice,
   PySem.W.mg_of X G n_NoShuttle,
   y9_NoShuttle,
   y10_NoShuttle,
   PySem.W.mg_of X G n_NoColour,
   y9_NoColour,
   y10_NoColour,
   PySem.W.mg_of X G n_NoBlock,
   y9_NoBlock,
   y10_NoBlock,
   PySem.W.mg_of X G n_NoPattern,
   y9_NoPattern,
   y10_NoPattern,
   PySem.W.mg_of X G n_Unknown,
   y9_Unknown,
   y10_Unknown,
   PySem.W.mg_of X G n_Twice,
   y9_Twice,
   y10_Twice⟩
section
variable {P : Program} {w : World} {K : PySem.W.Frag} {mg : Str → Option Value} {base : Heap} {t : Adr}
def sp_called (z : Str) : Sp := fun vs H Q _ => ∃ v, vs = [v] ∧ Q (.str z) H
theorem ok_NoLaying_called (T : Txt K mg t) : FnOk P w K mg base CX0 1 t.f_NoLaying_called t.d_NoLaying_called ["self"] (sp_called "NoLaying") :=
  T.m_NoLaying.F.ok sc_NoLaying_called (fun vs H Q E h => by obtain ⟨v, rfl, _⟩ := h; rfl) fun cdv A outer s H vs Q E hr h => by
    obtain ⟨v, rfl, k⟩ := h
    exact ⟨_, pss_one (ps_ret pe_str), k⟩
end
section
variable {P : Program} {w : World} {K : PySem.W.Frag} {mg : Str → Option Value} {base : Heap} {t : Adr}
theorem z0 (i : Nat) : (0 + (i : Int)).toNat = i := by omega
theorem kit_same (K : PySem.W.Frag) (n : String) : PySem.W.kitOne K (.type n) (.type n) = some true := if_pos (beq_self_eq_true _)
theorem e35 : (V.str ⟨#[35]⟩ : V) = V.str "#" := congrArg V.str (by decide +kernel)
theorem e46 : (V.str ⟨#[46]⟩ : V) = V.str "." := congrArg V.str (by decide +kernel)
theorem small40 {n : Nat} (h : n ≤ 40) : n ≤ sizeLine := Nat.le_trans h (by decide)
theorem cutV_to {ns : List Int} {k : Nat} (h : k ≤ ns.length) : cutV (vI ns) none (some (0 + (k : Int))) = vI (ns.take k) := by
  unfold cutV
  rw [Int.zero_add, HT.sIx_none, HT.sIx_nat, List.drop_zero, vI_len, Nat.min_eq_left h, Nat.sub_zero]
  unfold vI
  rw [List.map_take]
theorem vI_at {ns : List Int} {k : Nat} (h : k < ns.length) : atI (vI ns) (0 + (k : Int)) = some (.int (ns.getD k 0)) := by
  refine atI_of (by omega) ?_
  rw [z0]
  have e : ns.getD k 0 = ns[k] := by simp [List.getD, h]
  rw [e]
  exact vI_get (List.getElem?_eq_getElem h)
/-- a list of lists of texts -/
def Pcs (K : PySem.W.Frag) (H : Hp) (as : List Addr) (ps : List (List (List Nat))) : Prop := as.length = ps.length ∧ ∀ i a, as[i]? = some a → SqL K H a (vS (ps.getD i []))
theorem Pcs.same {K : PySem.W.Frag} {H H' : Hp} {as : List Addr} {ps : List (List (List Nat))} (P : Pcs K H as ps) (s : Same H H') : Pcs K H' as ps := ⟨P.1, fun i a h => s.seq (P.2 i a h)⟩
theorem ref_at {as : List Addr} {z : Int} (h0 : 0 ≤ z) (h : z.toNat < as.length) : atI (as.map V.ref) z = some (.ref as[z.toNat]) := atI_of h0 (by rw [List.getElem?_map, List.getElem?_eq_getElem h]; rfl)
def plcs (os : List Int) (i : Nat) : List Int := (List.range i).map fun k => (plc os k : Int)
theorem plcs_len (os : List Int) (i : Nat) : (plcs os i).length = i := by unfold plcs; rw [List.length_map, List.length_range]
theorem plcs_succ (os : List Int) (i : Nat) : plcs os (i + 1) = plcs os i ++ [(plc os i : Int)] := by unfold plcs; rw [List.range_succ, List.map_append]; rfl
theorem plcs_get {os : List Int} {i k : Nat} (h : k < i) : (plcs os i)[k]? = some (plc os k : Int) := by unfold plcs; rw [List.getElem?_map, List.getElem?_range h]; rfl
def sp_places (K : PySem.W.Frag) : Sp := fun vs H Q _ => ∃ (a : Addr) (os : List Int), vs = [.ref a] ∧ SqL K H a (vI os) ∧ os.length ≤ 40 ∧ ∀ l H', Same H H' → H l = none → H' l = some (.lst (vI (plcs os os.length))) → Q (.ref l) H'
theorem ok_places_within (T : Txt K mg t) : FnOk P w K mg base CX0 1 t.f_places_within t.d_places_within ["owners"] (sp_places K) := by
  refine T.places_within.F.ok sc_places_within (fun vs H Q E h => ?_) (fun cdv A outer s H vs Q E hr h => ?_)
  · obtain ⟨a, os, rfl, _⟩ := h
    rfl
  · obtain ⟨a, os, rfl, hS, o40, k⟩ := h
    refine ⟨_, (pss_one (ps_ret (pe_comp (CompOk.mk (caps := [0]) (Nc := ["k", "owners"]) rfl (by decide +kernel) (by decide +kernel) (comp_fr (sc0 := defScope s_places_within) rfl (by decide +kernel)) rfl rfl rfl (by decide +kernel) (fun k j h => match k, h with | 0, h => by obtain rfl := Option.some.inj h; exact ⟨_, rfl, rfl, rfl⟩ | _ + 1, h => by simp at h)) rfl (pi_range1 rfl T.b_range (pa_cons (pe_callB (call_len_seqK (K := K)) rfl T.b_len bt_len (pa_cons (pv 0) pa_nil)) pa_nil)) (fun _ _ _ _ _ => .nil) (fun _ _ _ _ _ => (pe_bmK (K := K) PySem.F.plainAttrs_list PySem.F.slot_list_count PySem.F.type_list_count (mt_countL (K := K)) (pe_slice (sl_listK (K := K)) (pv 1) po_none (po_some (pv 0))) (pa_cons (pe_ix (ix_listK (K := K)) (pv 1) (pv 0) (fun _ _ => rfl)) pa_nil)))))), ?_⟩
    refine ⟨_, rfl, _, _, rfl, .inl hS, _, rfl, (by omega), (by rw [vI_len]; omega), ?_⟩
    rw [Int.toNat_natCast, vI_len]
    refine comp_range (lo := 0) (n := os.length) (fun i ys H2 => Same H H2 ∧ ys = vI (plcs os i)) ⟨.refl _, rfl⟩ ?_ ?_ ?_ ?_
    · rintro i ys H2 hi ⟨s2, rfl⟩
      rw [vI_len, plcs_len]
      exact Nat.le_refl _
    · exact small40 o40
    · rintro i ys H2 hi ⟨s2, rfl⟩
      refine CTurn.no ?_
      refine ⟨_, rfl, _, rfl, _, rfl, _, _, rfl, s2.seq hS, fun p hp => ?_⟩
      rw [cutV_to (by omega)]
      have s3 : Same H (upd H2 p (.lst (vI (os.take i)))) := s2.new hp
      refine ⟨.inl ⟨rfl, _, SqL.of upd_same⟩, _, rfl, _, rfl, _, _, _, _, rfl, rfl, s3.seq hS, vI_at hi, _, _, _, rfl, rfl, SqL.of upd_same, ?_⟩
      refine CN.of hi ⟨s3, ?_⟩
      rw [plcs_succ, vI_app]
      rfl
    · rintro ys H2 l ⟨s2, rfl⟩ hl
      exact k l _ (s2.new hl) (s2.free hl) upd_same
def sp_signat : Sp := fun vs H Q _ => ∃ (o e : Int) (own : List Nat) (p : Nat), vs = [.int o, .str (tx own), .int e, .int (p : Int)] ∧ (o = e → p < own.length) ∧ own.length ≤ 40 ∧ Q (.str ⟨#[sgnAt o e own p]⟩) H
theorem tx_atN {u : List Nat} {i : Nat} (h : i < u.length) : atI (tx u).cps.toList (i : Int) = some (u.getD i 0) := by
  refine atI_of (by omega) ?_
  rw [Int.toNat_natCast]
  show u.toArray.toList[i]? = _
  simp [List.getD, h]
theorem ok_sign_at (T : Txt K mg t) : FnOk P w K mg base CX0 1 t.f_sign_at t.d_sign_at ["pick_owner", "own", "end_owner", "place"] sp_signat := by
  refine T.sign_at.F.ok sc_sign_at (fun vs H Q E h => ?_) (fun cdv A outer s H vs Q E hr h => ?_)
  · obtain ⟨o, e, own, p, rfl, _⟩ := h
    rfl
  · obtain ⟨o, e, own, p, rfl, hp, h40, k⟩ := h
    refine ⟨_, (pss_cons (ps_if (pt_cmpR op_eq (pv 0) (pv 2) (nomark _))
        (pss_one (ps_ret (pe_ix ix_str (pv 1) (pv 3) (fun _ _ => rfl))))
        pss_nil)
      (pss_one (ps_ret (pe_ifExp (pt_cmpR op_lt (pv 2) (pv 0) (nomark _)) pe_str pe_str)))), ?_⟩
    unfold sgnAt at k
    refine ⟨_, rfl, _, rfl, rfl, _, rfl, ?_⟩
    refine ite2D (fun h => ?_) (fun h => ?_)
    · have h : o = e := by injection h
      rw [if_pos h] at k
      exact ⟨_, rfl, _, rfl, _, _, _, rfl, rfl, (by rw [tx_len]; exact small40 h40), tx_atN (hp h), k⟩
    · have h : ¬ o = e := fun z => h (by rw [z])
      rw [if_neg h] at k
      refine ⟨_, rfl, _, rfl, _, _, rfl, rfl, _, rfl, ?_⟩
      refine ite2D (fun h2 => ?_) (fun h2 => ?_)
      · rw [if_pos h2, e35] at k
        exact k
      · rw [if_neg h2, e46] at k
        exact k
instance (c : Nat) : Decidable (Sg c) := inferInstanceAs (Decidable (_ ∨ _))
theorem occ2 (c : Nat) : (!(!(Builtin.Str.occurrences "#." ⟨#[c]⟩ 0 (Str.length "#.") 1).isEmpty)) = !decide (Sg c) := by
  rw [StrLaws.found_one]
  have e : (("#." : Str)).cps.toList = [35, 46] := by decide +kernel
  rw [e]
  congr 1
  apply decide_eq_decide.mpr
  unfold Sg
  simp only [List.mem_cons, List.not_mem_nil, or_false]
def sp_xowners (K : PySem.W.Frag) (t : Adr) : Sp := fun vs H Q E => ∃ (a : Addr) (os : List Int) (n : Nat), vs = [.ref a, .int (n : Int)] ∧ SqL K H a (vI os) ∧ (OwOk os n → Q .non H) ∧ (¬ OwOk os n → E (.ref t.e_NoLaying) none H)
theorem okx_check_owners (T : Txt K mg t) : FnOk P w K mg base (CX1 P w) 1 t.f_check_owners t.d_check_owners ["owners", "pieces"] (sp_xowners K t) := by
  refine T.check_owners.F.okX sc_check_owners (fun vs H Q E h => ?_) (fun cdv A outer s H vs Q E hr h => ?_)
  · obtain ⟨a, os, n, rfl, _⟩ := h
    rfl
  · obtain ⟨a, os, n, rfl, hS, k1, k2⟩ := h
    refine ⟨_, (pss_cons (ps_if (PW.pt (pw_or (pt_cmpR op_lt (pe_callB (call_len_seqK (K := K)) rfl T.b_len bt_len (pa_cons (pv 0) pa_nil)) pe_int (nomark _)) (pw_or1 (pt_cmpR op_gt (pe_callB (call_len_seqK (K := K)) rfl T.b_len bt_len (pa_cons (pv 0) pa_nil)) (pe_glob (v := .int 40) rfl T.c_MOST_STRANDS.choose_spec ⟨_, rfl⟩) (nomark _)))))
        (pss_one (ps_raise body1 rfl (fun _ _ z => z) PySem.F.excBase_ValueError has_ve PySem.F.excBase_ValueError T.x_NoLaying.q rfl T.k_NoLaying (pa_cons pe_str pa_nil)))
        pss_nil)
      (pss_one (ps_fr fun hfr => (ps_for (ownX body1 hfr) rfl (pi_listK (K := K) (pv 0)) (pg_name (i := 2) sc_check_owners.nd rfl (Or.inl rfl))
        (pss_one (ps_if (PW.pt (pw_or (pt_cmpR op_lt (pv 2) pe_int (nomark _)) (pw_or1 (pt_cmpR op_ge (pv 2) (pv 1) (nomark _)))))
          (pss_one (ps_raise body1 rfl (fun _ _ z => z) PySem.F.excBase_ValueError has_ve PySem.F.excBase_ValueError T.x_NoLaying.q rfl T.k_NoLaying (pa_cons pe_str pa_nil)))
          pss_nil)))))), ?_⟩
    refine ⟨_, rfl, _, _, rfl, .inl hS, _, _, rfl, rfl, _, rfl, ?_⟩
    rw [vI_len]
    refine ite2D (fun h => iteT ⟨by decide, k2 fun z => ?_⟩) (fun g1 => ?_)
    · have := z.1; omega
    refine ⟨_, rfl, _, _, rfl, .inl hS, _, _, rfl, rfl, _, rfl, ?_⟩
    rw [vI_len]
    refine ite2D (fun h => ⟨by decide, k2 fun z => ?_⟩) (fun g2 => ?_)
    · have := z.2.1; omega
    refine ⟨_, rfl, _, rfl, ⟨_, hS⟩, for_list (K := K) (a := a) (xs := vI os) (fun i σ H2 => ∃ v, σ = [some (.ref a), some (.int (n : Int)), v] ∧ H2 = H ∧ ∀ z ∈ os.take i, 0 ≤ z ∧ z < (n : Int)) ⟨none, rfl, rfl, fun c h => (by simp at h)⟩ (fun i σ H2 _ ⟨_, _, e, _⟩ => e ▸ hS) ?_ ?_⟩
    · rintro i x σ H2 hx ⟨v, rfl, rfl, hall⟩
      obtain ⟨z, hz, rfl⟩ := vI_got hx
      have hm := List.mem_of_getElem? hz
      refine ⟨_, rfl, _, _, rfl, rfl, _, rfl, ?_⟩
      refine ite2D (fun h => iteT ⟨by decide, k2 fun w => ?_⟩) (fun g3 => ?_)
      · have := w.2.2 z hm; omega
      refine ⟨_, rfl, _, rfl, _, _, rfl, rfl, _, rfl, ?_⟩
      refine ite2D (fun h => ⟨by decide, k2 fun w => ?_⟩) (fun g4 => ?_)
      · have := w.2.2 z hm; omega
      refine ⟨_, rfl, rfl, fun y hy => ?_⟩
      rw [List.take_add_one, hz] at hy
      rcases List.mem_append.mp hy with h | h
      · exact hall y h
      · have e : y = z := by simpa using h
        rw [e]
        omega
    · rintro σ H2 ⟨v, rfl, rfl, hall⟩
      rw [vI_len, List.take_length] at hall
      exact k1 ⟨by omega, by omega, hall⟩
def sp_xpiece (K : PySem.W.Frag) (t : Adr) : Sp := fun vs H Q E => ∃ (a : Addr) (cl : List (List Nat)) (m n : Nat), vs = [.ref a, .int (m : Int), .int (n : Int)] ∧ SqL K H a (vS cl) ∧ (∀ u ∈ cl, u.length ≤ 1000) ∧ (PieceOk cl m n → Q .non H) ∧ (¬ PieceOk cl m n → E (.ref t.e_NoLaying) none H)
theorem okx_check_piece (T : Txt K mg t) : FnOk P w K mg base (CX1 P w) 1 t.f_check_piece t.d_check_piece ["piece", "ends", "picks"] (sp_xpiece K t) := by
  refine T.check_piece.F.okX sc_check_piece (fun vs H Q E h => ?_) (fun cdv A outer s H vs Q E hr h => ?_)
  · obtain ⟨a, cl, m, n, rfl, _⟩ := h
    rfl
  · obtain ⟨a, cl, m, n, rfl, hS, hl, k1, k2⟩ := h
    have hsz : sizeLine = 16777216 := sizeLine_eq
    refine ⟨_, (pss_cons (ps_if (pt_cmpR op_ne (pe_callB (call_len_seqK (K := K)) rfl T.b_len bt_len (pa_cons (pv 0) pa_nil)) (pv 2) (nomark _))
        (pss_one (ps_raise body1 rfl (fun _ _ z => z) PySem.F.excBase_ValueError has_ve PySem.F.excBase_ValueError T.x_NoLaying.q rfl T.k_NoLaying (pa_cons pe_str pa_nil)))
        pss_nil)
      (pss_one (ps_fr fun hfr => (ps_for (ownX body1 hfr) rfl (pi_listK (K := K) (pv 0)) (pg_name (i := 3) sc_check_piece.nd rfl (Or.inl rfl))
        (pss_cons (ps_if (pt_cmpR op_ne (pe_callB call_len_str rfl T.b_len bt_len (pa_cons (pv 3) pa_nil)) (pv 1) (nomark _))
          (pss_one (ps_raise body1 rfl (fun _ _ z => z) PySem.F.excBase_ValueError has_ve PySem.F.excBase_ValueError T.x_NoLaying.q rfl T.k_NoLaying (pa_cons pe_str pa_nil)))
          pss_nil)
        (pss_one (ps_for (ownX body1 hfr) rfl (pi_str (pv 3)) (pg_name (i := 4) sc_check_piece.nd rfl (Or.inl rfl))
          (pss_one (ps_if (pt_cmpR op_notin_str (pv 4) pe_str rfl)
            (pss_one (ps_raise body1 rfl (fun _ _ z => z) PySem.F.excBase_ValueError has_ve PySem.F.excBase_ValueError T.x_NoLaying.q rfl T.k_NoLaying (pa_cons pe_str pa_nil)))
            pss_nil))))))))), ?_⟩
    refine ⟨_, rfl, _, _, rfl, .inl hS, _, rfl, rfl, _, rfl, ?_⟩
    rw [vS_len]
    by_cases hn : cl.length = n
    rotate_left
    · exact iteNp (fun z => hn (by injection z with z; omega)) ⟨by decide, k2 fun z => hn z.1⟩
    refine iteNS (by rw [hn]) ?_
    refine ⟨_, rfl, _, rfl, ⟨_, hS⟩, for_list (K := K) (a := a) (xs := vS cl) (fun i σ H2 => ∃ v v2, σ = [some (.ref a), some (.int (m : Int)), some (.int (n : Int)), v, v2] ∧ H2 = H ∧ ∀ u ∈ cl.take i, u.length = m ∧ ∀ c ∈ u, Sg c) ⟨none, none, rfl, rfl, fun u h => (by simp at h)⟩ (fun i σ H2 _ ⟨_, _, _, e, _⟩ => e ▸ hS) ?_ ?_⟩
    · rintro i x σ H2 hx ⟨v, v2, rfl, rfl, hall⟩
      obtain ⟨u, hu, rfl⟩ := vS_got hx
      have hm := List.mem_of_getElem? hu
      have lu := hl u hm
      refine ⟨_, rfl, _, rfl, (by rw [tx_len]; omega), _, rfl, rfl, _, rfl, ?_⟩
      rw [tx_len]
      by_cases hum : u.length = m
      rotate_left
      · exact iteNp (fun z => hum (by injection z with z; omega)) ⟨by decide, k2 fun z => hum (z.2 u hm).1⟩
      refine iteNS (by rw [hum]) ?_
      refine ⟨_, rfl, _, rfl, for_str (z := tx u) (fun j σ H3 => ∃ v2, σ = [some (.ref a), some (.int (m : Int)), some (.int (n : Int)), some (.str (tx u)), v2] ∧ H3 = H2 ∧ ∀ c ∈ u.take j, Sg c) ⟨_, rfl, rfl, fun c h => (by simp at h)⟩ ?_ ?_⟩
      · rintro j c σ H3 hc ⟨v2, rfl, rfl, hall2⟩
        rw [tx_get] at hc
        refine ⟨_, rfl, _, _, rfl, rfl, _, rfl, ?_⟩
        rw [occ2]
        by_cases hg : Sg c
        · refine iteNS hg ?_
          refine ⟨_, rfl, rfl, fun d hd => ?_⟩
          rw [List.take_add_one, hc] at hd
          rcases List.mem_append.mp hd with h | h
          · exact hall2 d h
          · have e : d = c := by simpa using h
            rw [e]; exact hg
        · exact iteNp hg ⟨by decide, k2 fun z => hg ((z.2 u hm).2 c (List.mem_of_getElem? hc))⟩
      · rintro σ H3 ⟨v2, rfl, rfl, hall2⟩
        have e : u.take (tx u).cps.size = u := by
          rw [List.take_of_length_le]
          have := tx_len u
          unfold Str.length at this
          omega
        rw [e] at hall2
        refine ⟨_, _, rfl, rfl, fun u' hu' => ?_⟩
        rw [List.take_add_one, hu] at hu'
        rcases List.mem_append.mp hu' with h | h
        · exact hall u' h
        · have e : u' = u := by simpa using h
          rw [e]; exact ⟨hum, hall2⟩
    · rintro σ H2 ⟨v, v2, rfl, rfl, hall⟩
      rw [vS_len, List.take_length] at hall
      exact k1 ⟨hn, hall⟩
end
end Mine

set_option Elab.async false
set_option linter.all false
set_option maxRecDepth 100000
set_option maxHeartbeats 4000000
namespace Mine
open PySem L2
section
variable {P : Program} {w : World} {K : PySem.W.Frag} {mg : Str → Option Value} {base : Heap} {t : Adr}
def sp_xlaid (K : PySem.W.Frag) (t : Adr) : Sp := fun vs H Q E => ∃ (p pe po : Addr) (as : List Addr) (ps : List (List (List Nat))) (es os : List Int), vs = [.ref p, .ref pe, .ref po] ∧ SqL K H p (as.map V.ref) ∧ Pcs K H as ps ∧ SqL K H pe (vI es) ∧ SqL K H po (vI os) ∧ (∀ i, ∀ u ∈ ps.getD i [], u.length ≤ 1000) ∧
  (AllOk ps es os → ∀ l H', Same H H' → H l = none → H' l = some (.lst (vS (lay ps es os))) → Q (.ref l) H') ∧ (¬ AllOk ps es os → ∀ H', Same H H' → E (.ref t.e_NoLaying) none H')
theorem okx_laid_together (T : Txt K mg t) : FnOk P w K mg base (CX1 P w) 2 t.f_laid_together t.d_laid_together ["pieces", "ends", "picks"] (sp_xlaid K t) := by
  have G_check_owners : FnOk P w K mg base (CX1 P w) 1 t.f_check_owners t.d_check_owners _ _ := okx_check_owners T
  have G_check_piece : FnOk P w K mg base (CX1 P w) 1 t.f_check_piece t.d_check_piece _ _ := okx_check_piece T
  have G_places_within : FnOk P w K mg base CX0 1 t.f_places_within t.d_places_within _ _ := ok_places_within T
  have G_sign_at : FnOk P w K mg base CX0 1 t.f_sign_at t.d_sign_at _ _ := ok_sign_at T
  refine T.laid_together.F.okX sc_laid_together (fun vs H Q E h => ?_) (fun cdv A outer s H vs Q E hr h => ?_)
  · obtain ⟨p, pe, po, as, ps, es, os, rfl, _⟩ := h
    rfl
  · obtain ⟨p, pe, po, as, ps, es, os, rfl, hP, hA, hE, hO, hl, kq, kb⟩ := h
    have hsz : sizeLine = 16777216 := sizeLine_eq
    have al := hA.1
    have ml : (as.map V.ref).length = ps.length := by rw [List.length_map, al]
    refine ⟨_, (pss_cons (ps_expr (pe_call (G_check_owners.mono (by decide)) hr rfl T.check_owners.m T.check_owners.F.kp T.check_owners.b .nil pass1 (pa_cons (pv 1) (pa_cons (pe_callB (call_len_seqK (K := K)) rfl T.b_len bt_len (pa_cons (pv 0) pa_nil)) pa_nil))))
      (pss_cons (ps_expr (pe_call (G_check_owners.mono (by decide)) hr rfl T.check_owners.m T.check_owners.F.kp T.check_owners.b .nil pass1 (pa_cons (pv 2) (pa_cons (pe_callB (call_len_seqK (K := K)) rfl T.b_len bt_len (pa_cons (pv 0) pa_nil)) pa_nil))))
      (pss_cons (ps_fr fun hfr => (ps_for (ownX body1 hfr) rfl (pi_enum (K := K) rfl T.b_enumerate (pa_cons (pv 0) pa_nil)) (pg_tup rfl (pgs_cons (pg_name (i := 3) sc_laid_together.nd rfl (Or.inl rfl)) (pgs_cons (pg_name (i := 4) sc_laid_together.nd rfl (Or.inl rfl)) pgs_nil)))
        (pss_one (ps_expr (pe_call (G_check_piece.mono (by decide)) hr rfl T.check_piece.m T.check_piece.F.kp T.check_piece.b .nil pass1 (pa_cons (pv 4) (pa_cons (pe_bmK (K := K) PySem.F.plainAttrs_list PySem.F.slot_list_count PySem.F.type_list_count (mt_countL (K := K)) (pv 1) (pa_cons (pv 3) pa_nil)) (pa_cons (pe_bmK (K := K) PySem.F.plainAttrs_list PySem.F.slot_list_count PySem.F.type_list_count (mt_countL (K := K)) (pv 2) (pa_cons (pv 3) pa_nil)) pa_nil))))))))
      (pss_cons (ps_set (i := 5) sc_laid_together.nd rfl (Or.inl rfl) (pe_call (G_places_within.mono (by decide)) hr rfl T.places_within.m T.places_within.F.kp T.places_within.b .nil pass0 (pa_cons (pv 1) pa_nil)))
      (pss_cons (ps_set (i := 6) sc_laid_together.nd rfl (Or.inl rfl) (pe_call (G_places_within.mono (by decide)) hr rfl T.places_within.m T.places_within.F.kp T.places_within.b .nil pass0 (pa_cons (pv 2) pa_nil)))
      (pss_cons (ps_set (i := 7) sc_laid_together.nd rfl (Or.inl rfl) (pe_lst pa_nil))
      (pss_cons (PS.nox (ps_for PassesOwn.never rfl (pi_zip (K := K) rfl T.b_zip (pa_cons (pv 2) (pa_cons (pv 6) pa_nil))) (pg_tup rfl (pgs_cons (pg_name (i := 8) sc_laid_together.nd rfl (Or.inr rfl)) (pgs_cons (pg_name (i := 9) sc_laid_together.nd rfl (Or.inl rfl)) pgs_nil)))
        (pss_cons (ps_set (i := 10) sc_laid_together.nd rfl (Or.inr rfl) (pe_ix (ix_listK (K := K)) (pe_ix (ix_listK (K := K)) (pv 0) (pv 8) (fun _ _ => rfl)) (pv 9) (fun _ _ => rfl)))
        (pss_cons (ps_setC2K (K := K) (i := 11) (CompOk2.mk (caps := [8, 10]) (Nc := ["end_owner", "k", "owner", "own"]) rfl (by decide +kernel) (by decide +kernel) (comp_fr (sc0 := defScope s_laid_together) rfl (by decide +kernel)) rfl rfl rfl rfl rfl (by decide +kernel) (fun k j h => match k, h with | 0, h => by obtain rfl := Option.some.inj h; exact ⟨_, rfl, rfl, rfl⟩ | 1, h => by obtain rfl := Option.some.inj h; exact ⟨_, rfl, rfl, rfl⟩ | _ + 2, h => by simp at h)) rfl sc_laid_together.nd rfl rfl (pi_zip2 (K := K) rfl T.b_zip (pa_cons (pv 1) (pa_cons (pv 5) pa_nil))) (fun _ _ _ _ _ => .nil) (fun _ _ _ _ _ => (pe_call (G_sign_at.mono (by decide)) hr rfl T.sign_at.m T.sign_at.F.kp T.sign_at.b .nil pass0 (pa_cons (pv 2) (pa_cons (pv 3) (pa_cons (pv 0) (pa_cons (pv 1) pa_nil)))))) rfl)
        (pss_one (ps_expr (pe_bmK (K := K) PySem.F.plainAttrs_list PySem.F.slot_list_append PySem.F.type_list_append mt_append (pv 7) (pa_cons (pe_bmK (K := K) PySem.F.plainAttrs_str PySem.F.slot_str_join PySem.F.type_str_join (mt_joinK (K := K)) pe_str (pa_cons (pv 11) pa_nil)) pa_nil))))))))
      (pss_one (ps_ret (pv 7)))))))))), ?_⟩
    refine ⟨_, rfl, _, rfl, _, _, rfl, .inl hP, pe, es, ps.length, (by rw [ml]; rfl), hE, fun w1 => ?_, fun b => kb (fun z => b z.1) H (.refl _)⟩
    refine ⟨_, rfl, _, rfl, _, _, rfl, .inl hP, po, os, ps.length, (by rw [ml]; rfl), hO, fun w2 => ?_, fun b => kb (fun z => b z.2.1) H (.refl _)⟩
    have ce1 := w1.1
    have ce40 := w1.2.1
    have co1 := w2.1
    have co40 := w2.2.1
    refine ⟨_, rfl, _, rfl, ⟨_, hP⟩, for_enum (K := K) (a := p) (xs := as.map V.ref) (fun i σ H2 => ∃ v1 v2, σ = [some (.ref p), some (.ref pe), some (.ref po), v1, v2, none, none, none, none, none, none, none] ∧ Same H H2 ∧ ∀ j, j < i → PieceOk (ps.getD j []) (es.count (j : Int)) (os.count (j : Int))) ⟨none, none, rfl, .refl _, fun j h => absurd h (Nat.not_lt_zero _)⟩ (fun i σ H2 ⟨_, _, _, s2, _⟩ => s2.seq hP) ?_ ?_⟩
    · rintro i x σ H2 T2 hx ⟨v1, v2, rfl, s2, hall⟩ nT
      obtain ⟨a, ha, rfl⟩ : ∃ a, as[i]? = some a ∧ x = .ref a := by
        rw [List.getElem?_map] at hx
        cases e : as[i]? with
        | none => rw [e] at hx; cases hx
        | some b => rw [e] at hx; cases hx; exact ⟨b, rfl, rfl⟩
      have hi : i < ps.length := by rw [← al]; exact (List.getElem?_eq_some_iff.mp ha).1
      have s3 : Same H (upd H2 T2 (.tup [.int (i : Int), .ref a])) := s2.new nT
      refine ⟨_, _, rfl, SqT.of upd_same, rfl, _, _, rfl, _, _, rfl, rfl, ?_⟩
      refine ⟨_, rfl, _, rfl, .inl ⟨rfl, _, s3.seq hE⟩, _, rfl, _, _, _, rfl, rfl, s3.seq hE, ?_⟩
      refine ⟨_, rfl, .inl ⟨rfl, _, s3.seq hO⟩, _, rfl, _, _, _, rfl, rfl, s3.seq hO, ?_⟩
      refine ⟨a, ps.getD i [], es.count (i : Int), os.count (i : Int), rfl, s3.seq (hA.2 i a ha), hl i, fun g => ?_, fun b => kb (fun z => b (z.2.2 i hi)) _ s3⟩
      refine ⟨_, _, rfl, s3, fun j hj => ?_⟩
      by_cases e : j < i
      · exact hall j e
      · have e : j = i := by omega
        rw [e]
        exact g
    · rintro σ H2 ⟨v1, v2, rfl, s2, hall⟩
      rw [ml] at hall
      have W : AllOk ps es os := ⟨w1, w2, hall⟩
      have C := W.pc
      have k := kq W
      refine ⟨_, rfl, pe, es, rfl, s2.seq hE, ce40, fun l1 H3 s3 nl1 hl1 => ?_⟩
      have u3 := s2.trans s3
      refine ⟨_, rfl, po, os, rfl, u3.seq hO, co40, fun l2 H4 s4 nl2 hl2 => ?_⟩
      have u4 := u3.trans s4
      refine ⟨Nat.zero_le _, fun q hq => ?_⟩
      have nq : H q = none := u4.free hq
      have u5 : Same H (upd H4 q (.lst [])) := u4.new hq
      have w5 : Same H4 (upd H4 q (.lst [])) := .upd hq
      refine ⟨_, rfl, _, rfl, _, _, rfl, ⟨_, u5.seq hO⟩, ⟨_, SqL.of (w5 _ _ hl2)⟩, for_zip (K := K) (n := os.length) (xs := vI os) (ys := vI (plcs os os.length)) (by rw [vI_len, vI_len, plcs_len, Nat.min_self])
        (fun j σ H6 => ∃ (v3 v4 v5 v6 : Option V), σ = [some (.ref p), some (.ref pe), some (.ref po), v1, v2, some (.ref l1), some (.ref l2), some (.ref q), v3, v4, v5, v6] ∧ Same H H6 ∧ Same H4 H6 ∧ H6 q = some (.lst (vS ((lay ps es os).take j))))
        ⟨none, none, none, none, rfl, u5, w5, upd_same⟩ (fun j σ H6 ⟨_, _, _, _, _, u6, w6, _⟩ => ⟨u6.seq hO, SqL.of (w6 _ _ hl2)⟩) ?_ ?_⟩
      · rintro j x y σ H6 T6 hx hy ⟨v3, v4, v5, v6, rfl, u6, w6, hq6⟩ nT
        have hj : j < os.length := by
          have := (List.getElem?_eq_some_iff.mp hx).1
          rwa [vI_len] at this
        have ex : x = .int (os.getD j 0) := by
          have e : os.getD j 0 = os[j] := by simp [List.getD, hj]
          rw [e]
          exact Option.some.inj (hx.symm.trans (vI_get (List.getElem?_eq_getElem hj)))
        have ey : y = .int (plc os j : Int) := Option.some.inj (hy.symm.trans (vI_get (plcs_get hj)))
        subst ex
        subst ey
        obtain ⟨o, eo⟩ : ∃ o, o = os.getD j 0 := ⟨_, rfl⟩
        obtain ⟨b, eb⟩ : ∃ b, b = plc os j := ⟨_, rfl⟩
        obtain ⟨o1, o2⟩ := C.own hj
        have oz := C.o _ (getD_mem hj)
        rw [← eo, ← eb] at o2
        rw [← eo] at o1 oz
        rw [← eo, ← eb]
        have hq7 : (upd H6 T6 (.tup [.int o, .int (b : Int)])) q = some (.lst (vS ((lay ps es os).take j))) := (Same.upd nT) _ _ hq6
        have u7 : Same H (upd H6 T6 (.tup [.int o, .int (b : Int)])) := u6.new nT
        have w7 : Same H4 (upd H6 T6 (.tup [.int o, .int (b : Int)])) := w6.new nT
        have hT7 : (upd H6 T6 (.tup [.int o, .int (b : Int)])) T6 = some (.tup [.int o, .int (b : Int)]) := upd_same
        generalize upd H6 T6 (.tup [.int o, .int (b : Int)]) = H7 at hq7 u7 w7 hT7 ⊢
        refine ⟨_, _, rfl, SqT.of hT7, rfl, _, _, rfl, _, _, rfl, rfl, ?_⟩
        have lo : o.toNat < as.length := by rw [al]; exact o1
        have sa := u7.seq (hA.2 _ _ (List.getElem?_eq_getElem lo))
        have own40 : ((ps.getD o.toNat []).getD b []).length ≤ 40 := by
          rw [C.row o1 o2]
          exact Nat.le_trans (List.count_le_length ..) ce40
        have ab : atI (vS (ps.getD o.toNat [])) (b : Int) = some (.str (tx ((ps.getD o.toNat []).getD b []))) := by
          refine atI_of (by omega) ?_
          rw [Int.toNat_natCast]
          have e : (ps.getD o.toNat []).getD b [] = (ps.getD o.toNat [])[b] := by rw [List.getD_eq_getElem?_getD, List.getElem?_eq_getElem o2]; rfl
          rw [e]
          exact vS_get (List.getElem?_eq_getElem o2)
        refine ⟨_, rfl, _, rfl, _, _, _, _, rfl, rfl, u7.seq hP, ref_at oz.1 lo, _, rfl, _, _, _, _, rfl, rfl, sa, ab, ?_⟩
        refine ⟨_, rfl, _, rfl, .l pe, .l l1, rfl, trivial, ⟨_, u7.seq hE⟩, ⟨_, SqL.of (w7 _ _ (s4 _ _ hl1))⟩, ?_⟩
        refine comp_zip (n := es.length) (fun i => .int (es.getD i 0)) (fun i => .int (plc es i : Int)) (fun i ys H8 => Same H7 H8 ∧ ys = vS (((layRow ps es o b).take i).map fun d => [d])) ⟨.refl _, rfl⟩ ?_ ?_ ?_ ?_ ?_ ?_ ?_
        · rintro i ys H8 hi ⟨s8, rfl⟩
          rw [vS_len, List.length_map, List.length_take]
          omega
        · omega
        · rintro i ys H8 hi ⟨s8, _⟩
          have e : es.getD i 0 = es[i] := by simp [List.getD, hi]
          exact ⟨_, (u7.trans s8).seq hE, by rw [e]; exact vI_get (List.getElem?_eq_getElem hi)⟩
        · rintro i ys H8 hi ⟨s8, _⟩
          exact ⟨_, SqL.of ((w7.trans s8) _ _ (s4 _ _ hl1)), vI_get (plcs_get hi)⟩
        · rintro ys H8 ⟨s8, _⟩
          exact ⟨⟨_, (u7.trans s8).seq hE⟩, ⟨_, SqL.of ((w7.trans s8) _ _ (s4 _ _ hl1))⟩, .inl ⟨_, (u7.trans s8).seq hE, by rw [vI_len]⟩⟩
        · rintro i ys H8 T8 hi ⟨s8, rfl⟩ nT8
          refine CTurn.no ?_
          refine ⟨_, rfl, _, rfl, _, rfl, _, rfl, o, es.getD i 0, (ps.getD o.toNat []).getD b [], plc es i, rfl, fun h => ?_, own40, ?_⟩
          · rw [C.row o1 o2, show ((o.toNat : Nat) : Int) = o by omega, h]
            exact plc_lt hi
          · refine CN.of hi ⟨s8.new nT8, ?_⟩
            rw [List.take_add_one, layRow_get hi, tx_one, vS_app, List.map_append]
            rfl
        · rintro ys H8 l8 ⟨s8, rfl⟩ nl8
          have e0 : (layRow ps es o b).take es.length = layRow ps es o b := List.take_of_length_le (by rw [layRow_len]; exact Nat.le_refl _)
          rw [e0]
          have u8 := (u7.trans s8).new (o := .lst (vS ((layRow ps es o b).map fun d => [d]))) nl8
          have w8 := (w7.trans s8).new (o := .lst (vS ((layRow ps es o b).map fun d => [d]))) nl8
          have hq8 := (s8.new (o := .lst (vS ((layRow ps es o b).map fun d => [d]))) nl8) _ _ hq7
          refine ⟨_, rfl, .inl ⟨rfl, _, SqL.of hq8⟩, rfl, _, rfl, _, _, (((layRow ps es o b).map fun d => [d]).map tx), rfl, rfl, SqL.of (by rw [upd_same, vS_map]), ?_, ?_⟩
          · have e1 := sum1 (fun d : Nat => d) (layRow ps es o b)
            rw [e1, List.length_map, List.length_map, layRow_len]
            have : es.length * (Str.length "") = 0 := by rw [show Str.length "" = 0 from by decide +kernel]; omega
            omega
          · rw [show (("" : Str)) = tx [] from by decide +kernel, tx_join]
            have e2 : ((layRow ps es o b).map fun d => [d]).flatten = layRow ps es o b := (flat1 (fun d : Nat => d) (layRow ps es o b)).trans (List.map_id _)
            rw [e2]
            refine ⟨_, _, _, rfl, rfl, hq8, (by rw [vS_len, List.length_take]; omega), ?_⟩
            refine ⟨_, _, _, _, rfl, u8.over nq, w8.over hq, ?_⟩
            rw [upd_same, vS_app, List.take_add_one, lay_get hj, ← eo, ← eb]
            rfl
      · rintro σ H6 ⟨v3, v4, v5, v6, rfl, u6, w6, hq6⟩
        have e0 : (lay ps es os).take os.length = lay ps es os := List.take_of_length_le (by rw [lay_len]; exact Nat.le_refl _)
        rw [e0] at hq6
        exact ⟨_, rfl, k q H6 u6 nq hq6⟩
end
end Mine

set_option Elab.async false
set_option linter.all false
set_option maxRecDepth 100000
set_option maxHeartbeats 4000000
namespace Mine
open PySem L2
section
variable {P : Program} {w : World} {K : PySem.W.Frag} {mg : Str → Option Value} {base : Heap} {t : Adr}
theorem by_rest0 {G R : Prop} (main : (Unit → R) → G) (rest : R) : G := main fun _ => rest
theorem by_restI {G : Prop} {R : Int → Prop} (main : (∀ z, R z) → G) (rest : ∀ z, R z) : G := main rest
theorem one_of (c : Int) {z : Int} (hz : 0 < z) {y : Nat} (hz2 : z ≤ (y : Int)) : ∃ m : Nat, 1 + c % z = (m : Int) ∧ 1 ≤ m ∧ m ≤ y := by
  have h1 := Int.emod_nonneg c (show z ≠ 0 by omega)
  have h2 := Int.emod_lt_of_pos c hz
  exact ⟨(1 + c % z).toNat, by omega, by omega, by omega⟩
def Num (ks : List Int) (m : Nat) : Prop := ks.length = m ∧ ∀ k ∈ ks, 0 ≤ k ∧ k < 1000000
theorem Num.at {ks : List Int} {m : Nat} (h : Num ks m) {i : Int} (h0 : 0 ≤ i) (hi : i < m) : ∃ z : Int, atI (vI ks) i = some (.int z) ∧ 0 ≤ z ∧ z < 1000000 := by
  have hlt : i.toNat < ks.length := by rw [h.1]; omega
  exact ⟨ks[i.toNat], atI_of h0 (vI_get (List.getElem?_eq_getElem hlt)), h.2 _ (List.getElem_mem hlt)⟩
theorem Num.mod (z : Int) : 0 ≤ z % 1000000 ∧ z % 1000000 < 1000000 := ⟨Int.emod_nonneg _ (by decide), Int.emod_lt_of_pos _ (by decide)⟩
def sp_nums (K : PySem.W.Frag) : Sp := fun vs H Q _ => ∃ (a : Addr) (ns : List Int) (m : Nat), vs = [.ref a, .int (m : Int)] ∧ SqL K H a (vI ns) ∧ ns.length ≤ 63 ∧ 1 ≤ m ∧ m ≤ 1000 ∧
  ∀ (l : Addr) (ks : List Int) (H' : Hp), Same H H' → H l = none → H' l = some (.lst (vI ks)) → Num ks m → Q (.ref l) H'
theorem ok_law_numbers (T : Txt K mg t) : FnOk P w K mg base CX0 1 t.f_law_numbers t.d_law_numbers ["script", "many"] (sp_nums K) := by
  refine T.law_numbers.F.ok sc_law_numbers (fun vs H Q E h => ?_) (fun cdv A outer s H vs Q E hr h => ?_)
  · obtain ⟨a, ns, m, rfl, _⟩ := h
    rfl
  · obtain ⟨a, ns, m, rfl, hS, hl, hm, hm2, k⟩ := h
    have hsz : sizeLine = 16777216 := sizeLine_eq
    refine ⟨_, (pss_cons (ps_set (i := 2) sc_law_numbers.nd rfl (Or.inl rfl) (pe_lst pa_nil))
      (pss_cons (ps_set (i := 3) sc_law_numbers.nd rfl (Or.inl rfl) pe_int)
      (pss_cons (ps_if (pt_cmpR op_gt (pe_callB (call_len_seqK (K := K)) rfl T.b_len bt_len (pa_cons (pv 0) pa_nil)) pe_int (nomark _))
        (pss_one (ps_set (i := 3) sc_law_numbers.nd rfl (Or.inl rfl) (pe_op op_add pe_int (pe_op op_mod (pe_ix (ix_listK (K := K)) (pv 0) pe_int (fun _ _ => rfl)) pe_int))))
        pss_nil)
      (pss_cons (ps_for PassesOwn.never rfl (pi_range1 rfl T.b_range (pa_cons (pv 1) pa_nil)) (pg_name (i := 4) sc_law_numbers.nd rfl (Or.inl rfl))
        (pss_cons (ps_set (i := 3) sc_law_numbers.nd rfl (Or.inl rfl) (pe_op op_mod (pe_op op_mul (pv 3) pe_int) pe_int))
        (pss_one (ps_expr (pe_bmK (K := K) PySem.F.plainAttrs_list PySem.F.slot_list_append PySem.F.type_list_append mt_append (pv 2) (pa_cons (pe_op op_mod (pe_op op_fdiv (pv 3) pe_int) pe_int) pa_nil))))))
      (pss_cons (ps_for PassesOwn.never rfl (pi_range1 rfl T.b_range (pa_cons (pe_callB (call_len_seqK (K := K)) rfl T.b_len bt_len (pa_cons (pv 0) pa_nil)) pa_nil)) (pg_name (i := 4) sc_law_numbers.nd rfl (Or.inl rfl))
        (pss_one (ps_asg (pe_op op_mod (pe_op op_add (pe_ix (ix_listK (K := K)) (pv 2) (pe_op op_mod (pv 4) (pv 1)) (fun _ _ => rfl)) (pe_ix (ix_listK (K := K)) (pv 0) (pv 4) (fun _ _ => rfl))) pe_int) (pg_sub (pv 2) (pe_op op_mod (pv 4) (pv 1)) set_list))))
      (pss_one (ps_ret (pv 2)))))))), ?_⟩
    refine ⟨Nat.zero_le _, fun q hq => ?_⟩
    have s1 : Same H (upd H q (.lst [])) := .upd hq
    apply by_restI
    · intro rest
      refine ⟨_, rfl, _, _, rfl, .inl (s1.seq hS), _, _, rfl, rfl, _, rfl, ?_⟩
      refine ite2D (fun h1 => ?_) (fun h1 => ?_)
      · have hlt : 0 < ns.length := by rw [vI_len] at h1; omega
        refine ⟨_, rfl, _, _, _, _, rfl, rfl, s1.seq hS, atI_of (by decide) (vI_get (List.getElem?_eq_getElem hlt)), _, _, rfl, rfl, (by show (0 : Int) < 2147483646; decide), _, _, rfl, rfl, ?_⟩
        obtain ⟨z, ez⟩ : ∃ z : Int, z = (1 : Int) + (ns[0]'hlt : Int) % (2147483646 : Int) := ⟨_, rfl⟩
        dsimp only
        rw [← ez]
        exact rest z
      · exact rest 1
    · intro z0
      refine ⟨_, rfl, _, rfl, (by omega), (by omega), ?_⟩
      rw [Int.toNat_natCast]
      refine for_range (lo := 0) (n := m) (fun i σ H2 => ∃ (z : Int) (ks : List Int) (v : Option V), σ = [some (.ref a), some (.int (m : Int)), some (.ref q), some (.int z), v] ∧ Same H H2 ∧ H2 q = some (.lst (vI ks)) ∧ Num ks i)
        ⟨z0, [], none, rfl, s1, upd_same, rfl, fun _ h => absurd h (by simp)⟩ ?_ ?_
      · rintro i σ H2 hi ⟨z, ks, v, rfl, s2, hq2, hkl⟩
        refine ⟨_, rfl, _, _, rfl, rfl, .inr ⟨by decide, by decide⟩, _, _, rfl, rfl, (by show (0 : Int) < 2147483647; decide), ?_⟩
        refine ⟨_, rfl, .inl ⟨rfl, _, SqL.of hq2⟩, _, rfl, _, _, rfl, rfl, ⟨by decide, by decide⟩, _, _, rfl, rfl, (by show (0 : Int) < 1000000; decide), _, _, _, rfl, rfl, hq2, (by rw [vI_len, hkl.1]; omega), ?_⟩
        rw [vI_app]
        refine ⟨_, _, _, rfl, s2.over hq, upd_same, by rw [List.length_append, hkl.1]; rfl, fun x hx => ?_⟩
        rcases List.mem_append.mp hx with h | h
        · exact hkl.2 x h
        · rw [List.mem_singleton.mp h]; exact Num.mod _
      · rintro σ H2 ⟨z, ks, v, rfl, s2, hq2, hkl⟩
        refine ⟨_, rfl, _, _, rfl, .inl (s2.seq hS), _, rfl, (by omega), (by rw [vI_len]; omega), ?_⟩
        rw [Int.toNat_natCast, vI_len]
        refine for_range (lo := 0) (n := ns.length) (fun i σ H2 => ∃ (ks : List Int) (v : Option V), σ = [some (.ref a), some (.int (m : Int)), some (.ref q), some (.int z), v] ∧ Same H H2 ∧ H2 q = some (.lst (vI ks)) ∧ Num ks m)
          ⟨ks, v, rfl, s2, hq2, hkl⟩ ?_ ?_
        · rintro i σ H3 hi ⟨ks, v, rfl, s3, hq3, hkl⟩
          have hix : (0 + (i : Int)) % (m : Int) = ((i % m : Nat) : Int) := by rw [Int.zero_add]; omega
          have hlt : i % m < ks.length := by rw [hkl.1]; exact Nat.mod_lt _ (by omega)
          have e1 : (vI ks)[((0 + (i : Int)) % (m : Int)).toNat]? = some (.int ks[i % m]) := by
            rw [hix, Int.toNat_natCast]
            exact vI_get (List.getElem?_eq_getElem hlt)
          have e2 : (vI ns)[(0 + (i : Int)).toNat]? = some (.int ns[i]) := by
            rw [Int.zero_add, Int.toNat_natCast]
            exact vI_get (List.getElem?_eq_getElem hi)
          have n1 : 0 ≤ (0 + (i : Int)) % (m : Int) := by rw [hix]; omega
          refine ⟨_, rfl, _, rfl, _, rfl, _, _, rfl, rfl, (by show (0 : Int) < m; omega), ?_⟩
          refine ⟨_, _, _, _, rfl, rfl, SqL.of hq3, atI_of n1 e1, ?_⟩
          refine ⟨_, rfl, _, rfl, _, _, _, _, rfl, rfl, s3.seq hS, atI_of (by omega) e2, ?_⟩
          refine ⟨_, _, rfl, rfl, ?_⟩
          refine ⟨_, _, rfl, rfl, (by show (0 : Int) < 1000000; decide), ?_⟩
          refine ⟨_, rfl, _, rfl, _, rfl, _, _, rfl, rfl, (by show (0 : Int) < m; omega), ?_⟩
          refine ⟨_, _, _, _, rfl, rfl, hq3, ixN_of n1 (by rw [vI_len, hkl.1, hix]; have := Nat.mod_lt i (show m > 0 by omega); omega), ?_⟩
          rw [vI_set]
          refine ⟨_, _, rfl, s3.over hq, upd_same, by rw [List.length_set]; exact hkl.1, fun x hx => ?_⟩
          rcases List.mem_or_eq_of_mem_set hx with h | h
          · exact hkl.2 x h
          · rw [h]; exact Num.mod _
        · rintro σ H3 ⟨ks, v, rfl, s3, hq3, hkl⟩
          exact ⟨_, rfl, k q ks H3 s3 hq hq3 hkl⟩
theorem bit_at (z : Int) : ∃ c : Nat, atI ((".#" : Str)).cps.toList (z % 2) = some c ∧ Sg c := by
  have h1 := Int.emod_nonneg z (show (2 : Int) ≠ 0 by decide)
  have h2 := Int.emod_lt_of_pos z (show (0 : Int) < 2 by decide)
  have : z % 2 = 0 ∨ z % 2 = 1 := by omega
  rcases this with h | h <;> rw [h]
  · exact ⟨46, by decide +kernel, .inr rfl⟩
  · exact ⟨35, by decide +kernel, .inl rfl⟩
theorem sg_add {u : List Nat} {c : Nat} (h : ∀ d ∈ u, Sg d) (hc : Sg c) : ∀ d ∈ u ++ [c], Sg d := fun d hd => by
  rcases List.mem_append.mp hd with h1 | h1
  · exact h d h1
  · rw [List.mem_singleton.mp h1]; exact hc
def sp_owners (K : PySem.W.Frag) : Sp := fun vs H Q _ => ∃ (a : Addr) (ks : List Int) (f m y : Nat), vs = [.ref a, .int (f : Int), .int (m : Int), .int (y : Int)] ∧ SqL K H a (vI ks) ∧ Num ks 63 ∧ m ≤ 1000 ∧ 1 ≤ y ∧
  ∀ (l : Addr) (zs : List Int) (H' : Hp), Same H H' → H l = none → H' l = some (.lst (vI zs)) → zs.length = m → (∀ z ∈ zs, 0 ≤ z ∧ z < (y : Int)) → Q (.ref l) H'
theorem ok_law_owners (T : Txt K mg t) : FnOk P w K mg base CX0 1 t.f_law_owners t.d_law_owners ["numbers", "first", "count", "many"] (sp_owners K) := by
  refine T.law_owners.F.ok sc_law_owners (fun vs H Q E h => ?_) (fun cdv A outer s H vs Q E hr h => ?_)
  · obtain ⟨a, ks, f, m, y, rfl, _⟩ := h
    rfl
  · obtain ⟨a, ks, f, m, w, rfl, hS, hN, hm, hy, k⟩ := h
    have hsz : sizeLine = 16777216 := sizeLine_eq
    refine ⟨_, (pss_one (ps_ret (pe_comp (CompOk.mk (caps := [0, 1, 3]) (Nc := ["k", "numbers", "first", "many"]) rfl (by decide +kernel) (by decide +kernel) (comp_fr (sc0 := defScope s_law_owners) rfl (by decide +kernel)) rfl rfl rfl (by decide +kernel) (fun k j h => match k, h with | 0, h => by obtain rfl := Option.some.inj h; exact ⟨_, rfl, rfl, rfl⟩ | 1, h => by obtain rfl := Option.some.inj h; exact ⟨_, rfl, rfl, rfl⟩ | 2, h => by obtain rfl := Option.some.inj h; exact ⟨_, rfl, rfl, rfl⟩ | _ + 3, h => by simp at h)) rfl (pi_range1 rfl T.b_range (pa_cons (pv 2) pa_nil)) (fun _ _ _ _ _ => .nil) (fun _ _ _ _ _ => (pe_op op_mod (pe_op op_fdiv (pe_ix (ix_listK (K := K)) (pv 1) (pe_op op_add pe_int (pe_op op_mod (pe_op op_add (pv 2) (pe_op op_mul pe_int (pv 0))) pe_int)) (fun _ _ => rfl)) pe_int) (pv 3)))))), ?_⟩
    refine ⟨_, rfl, _, rfl, (by omega), (by omega), ?_⟩
    rw [Int.toNat_natCast]
    refine comp_range (lo := 0) (n := m) (fun i ys H2 => H2 = H ∧ ∃ zs : List Int, ys = vI zs ∧ zs.length = i ∧ ∀ z ∈ zs, 0 ≤ z ∧ z < (w : Int)) ⟨rfl, [], rfl, rfl, fun _ h => absurd h (by simp)⟩ ?_ ?_ ?_ ?_
    · rintro i ys H2 hi ⟨rfl, zs, rfl, hu, _⟩
      rw [vI_len, hu]
      exact Nat.le_refl _
    · omega
    · rintro i ys H2 hi ⟨rfl, zs, rfl, hu, hus⟩
      obtain ⟨y, ey⟩ : ∃ y : Int, y = (f : Int) + 3 * (0 + (i : Int)) := ⟨_, rfl⟩
      have b1 := Int.emod_nonneg y (show (55 : Int) ≠ 0 by decide)
      have b2 := Int.emod_lt_of_pos y (show (0 : Int) < 55 by decide)
      obtain ⟨z, ez, _⟩ := hN.at (i := 8 + y % 55) (by omega) (by omega)
      have b3 := Int.emod_nonneg (z / 7) (show (w : Int) ≠ 0 by omega)
      have b4 := Int.emod_lt_of_pos (z / 7) (show (0 : Int) < (w : Int) by omega)
      subst ey
      refine CTurn.no ?_
      refine ⟨_, rfl, _, rfl, _, rfl, _, _, rfl, rfl, .inl ⟨by decide, by decide⟩, _, _, rfl, rfl, _, _, rfl, rfl, (by show (0 : Int) < 55; decide), _, _, rfl, rfl, _, _, _, _, rfl, rfl, hS, ez, ?_⟩
      refine ⟨_, _, rfl, rfl, ⟨by decide, by decide⟩, _, rfl, _, _, rfl, rfl, (by show (0 : Int) < (w : Int); omega), ?_⟩
      refine CN.of hi ⟨rfl, zs ++ [z / 7 % (w : Int)], vI_app _ _, by rw [List.length_append, hu]; rfl, fun d hd => ?_⟩
      rcases List.mem_append.mp hd with h1 | h1
      · exact hus d h1
      · rw [List.mem_singleton.mp h1]; exact ⟨b3, b4⟩
    · rintro ys H2 p ⟨rfl, zs, rfl, hu, hus⟩ hp
      exact k p zs _ (.upd hp) hp upd_same hu hus
def sp_piece (K : PySem.W.Frag) : Sp := fun vs H Q _ => ∃ (a : Addr) (ks : List Int) (e m n : Nat), vs = [.ref a, .int (e : Int), .int (m : Int), .int (n : Int)] ∧ SqL K H a (vI ks) ∧ Num ks 63 ∧ e ≤ 1000 ∧ m ≤ 41 ∧ n ≤ 41 ∧
  ∀ (l : Addr) (cl : List (List Nat)) (H' : Hp), Same H H' → H l = none → H' l = some (.lst (vS cl)) → cl.length = n → (∀ t ∈ cl, t.length = m ∧ ∀ c ∈ t, Sg c) → Q (.ref l) H'
theorem ok_law_piece (T : Txt K mg t) : FnOk P w K mg base CX0 1 t.f_law_piece t.d_law_piece ["numbers", "name", "wide", "high"] (sp_piece K) := by
  refine T.law_piece.F.ok sc_law_piece (fun vs H Q E h => ?_) (fun cdv A outer s H vs Q E hr h => ?_)
  · obtain ⟨a, ks, e, m, n, rfl, _⟩ := h
    rfl
  · obtain ⟨a, ks, e, m, n, rfl, hS, hN, e1, m40, n40, k⟩ := h
    have hsz : sizeLine = 16777216 := sizeLine_eq
    refine ⟨_, (pss_cons (ps_set (i := 4) sc_law_piece.nd rfl (Or.inl rfl) (pe_lst pa_nil))
      (pss_cons (ps_for PassesOwn.never rfl (pi_range1 rfl T.b_range (pa_cons (pv 3) pa_nil)) (pg_name (i := 5) sc_law_piece.nd rfl (Or.inl rfl))
        (pss_cons (ps_set (i := 6) sc_law_piece.nd rfl (Or.inl rfl) pe_str)
        (pss_cons (ps_for PassesOwn.never rfl (pi_range1 rfl T.b_range (pa_cons (pv 2) pa_nil)) (pg_name (i := 7) sc_law_piece.nd rfl (Or.inl rfl))
          (pss_cons (ps_set (i := 8) sc_law_piece.nd rfl (Or.inl rfl) (pe_op op_add (pe_op op_add (pe_op op_mul (pv 1) pe_int) (pe_op op_mul (pv 5) pe_int)) (pv 7)))
          (pss_one (ps_set (i := 6) sc_law_piece.nd rfl (Or.inl rfl) (pe_op op_add_str (pv 6) (pe_ix ix_str pe_str (pe_op op_mod (pe_op op_fdiv (pe_ix (ix_listK (K := K)) (pv 0) (pe_op op_add pe_int (pe_op op_mod (pv 8) pe_int)) (fun _ _ => rfl)) (pe_op op_add pe_int (pe_op op_mul pe_int (pe_op op_fdiv (pv 8) pe_int)))) pe_int) (fun _ _ => rfl)))))))
        (pss_one (ps_expr (pe_bmK (K := K) PySem.F.plainAttrs_list PySem.F.slot_list_append PySem.F.type_list_append mt_append (pv 4) (pa_cons (pv 6) pa_nil)))))))
      (pss_one (ps_ret (pv 4))))), ?_⟩
    refine ⟨Nat.zero_le _, fun q hq => ?_⟩
    have s1 : Same H (upd H q (.lst [])) := .upd hq
    refine ⟨_, rfl, _, rfl, (by omega), (by omega), ?_⟩
    rw [Int.toNat_natCast]
    refine for_range (lo := 0) (n := n) (fun i σ H2 => ∃ (cl : List (List Nat)) (v1 v2 v3 v4 : Option V), σ = [some (.ref a), some (.int (e : Int)), some (.int (m : Int)), some (.int (n : Int)), some (.ref q), v1, v2, v3, v4] ∧ Same H H2 ∧ H2 q = some (.lst (vS cl)) ∧ cl.length = i ∧ (∀ t ∈ cl, t.length = m ∧ ∀ c ∈ t, Sg c))
      ⟨[], none, none, none, none, rfl, s1, upd_same, rfl, fun _ h => absurd h (by simp)⟩ ?_ ?_
    · rintro i σ H2 hi ⟨cl, v1, v2, v3, v4, rfl, s2, hq2, hcl, hcm⟩
      refine ⟨_, rfl, _, rfl, (by omega), (by omega), ?_⟩
      rw [Int.toNat_natCast]
      refine for_range (lo := 0) (n := m) (fun j σ H3 => ∃ (u : List Nat) (v3 v4 : Option V), σ = [some (.ref a), some (.int (e : Int)), some (.int (m : Int)), some (.int (n : Int)), some (.ref q), some (.int (0 + (i : Int))), some (.str (tx u)), v3, v4] ∧ H3 = H2 ∧ u.length = j ∧ ∀ c ∈ u, Sg c)
        ⟨[], v3, v4, by rw [show (("" : Str)) = tx [] from by decide +kernel]; rfl, rfl, rfl, fun _ h => absurd h (by simp)⟩ ?_ ?_
      · rintro j σ H3 hj ⟨u, v3, v4, rfl, rfl, hul, hus⟩
        refine ⟨_, rfl, _, _, rfl, rfl, .inr ⟨by decide, by decide⟩, _, rfl, _, _, rfl, rfl, .inr ⟨by decide, by decide⟩, _, _, rfl, rfl, _, rfl, _, _, rfl, rfl, ?_⟩
        obtain ⟨y, ey⟩ : ∃ y : Int, y = (e : Int) * 1600 + (0 + (i : Int)) * 40 + (0 + (j : Int)) := ⟨_, rfl⟩
        have y0 : 0 ≤ y := by omega
        have y1 : y < 1000 * 1600 + 1700 := by omega
        dsimp only
        rw [← ey]
        have b1 := Int.emod_nonneg y (show (55 : Int) ≠ 0 by decide)
        have b2 := Int.emod_lt_of_pos y (show (0 : Int) < 55 by decide)
        obtain ⟨z, ez, _⟩ := hN.at (i := 8 + y % 55) (by omega) (by omega)
        have d0 : 0 ≤ y / 55 := Int.ediv_nonneg y0 (by decide)
        have d1 : y / 55 ≤ 1601600 := by omega
        obtain ⟨c, ec, hc⟩ := bit_at (z / (1 + 2 * (y / 55)))
        refine ⟨_, rfl, _, rfl, _, rfl, _, _, rfl, rfl, (by show (0 : Int) < 55; decide), _, _, rfl, rfl, _, _, _, _, rfl, rfl, s2.seq hS, ez, ?_⟩
        refine ⟨_, rfl, _, _, rfl, rfl, ⟨by decide, by decide⟩, _, _, rfl, rfl, .inl ⟨by decide, by decide⟩, _, _, rfl, rfl, _, _, rfl, rfl, ⟨by omega, by omega⟩, _, _, rfl, rfl, (by show (0 : Int) < 2; decide), ?_⟩
        refine ⟨_, _, _, rfl, rfl, (by decide +kernel), ec, _, _, rfl, rfl, ?_, ?_⟩
        · rw [tx_len, tx_one, tx_len, hul]
          show j + 1 ≤ sizeLine
          omega
        · rw [tx_one, tx_app]
          exact ⟨_, _, _, rfl, rfl, by rw [List.length_append, hul]; rfl, sg_add hus hc⟩
      · rintro σ H3 ⟨u, v3, v4, rfl, rfl, hul, hus⟩
        refine ⟨_, rfl, .inl ⟨rfl, _, SqL.of hq2⟩, _, rfl, _, _, _, rfl, rfl, hq2, (by rw [vS_len, hcl]; omega), ?_⟩
        rw [vS_app]
        refine ⟨_, _, _, _, _, rfl, s2.over hq, upd_same, by rw [List.length_append, hcl]; rfl, fun t ht => ?_⟩
        rcases List.mem_append.mp ht with h | h
        · exact hcm t h
        · rw [List.mem_singleton.mp h]; exact ⟨hul, hus⟩
    · rintro σ H2 ⟨cl, v1, v2, v3, v4, rfl, s2, hq2, hcl, hcm⟩
      exact ⟨_, rfl, k q cl H2 s2 hq hq2 hcl hcm⟩
end
end Mine

set_option Elab.async false
set_option linter.all false
set_option maxRecDepth 100000
set_option maxHeartbeats 4000000
namespace Mine
open PySem L2
section
variable {P : Program} {w : World} {K : PySem.W.Frag} {mg : Str → Option Value} {base : Heap} {t : Adr}
theorem getD_app {α : Type} {ps : List α} {c d : α} {i : Nat} (h : i < ps.length) : (ps ++ [c]).getD i d = ps.getD i d := by
  rw [List.getD_eq_getElem?_getD, List.getElem?_append_left h, List.getD_eq_getElem?_getD]
theorem getD_last {α : Type} {ps : List α} {c d : α} : (ps ++ [c]).getD ps.length d = c := by
  rw [List.getD_eq_getElem?_getD, List.getElem?_append_right (Nat.le_refl _), Nat.sub_self]
  rfl
theorem Pcs.add {K : PySem.W.Frag} {H : Hp} {as : List Addr} {ps : List (List (List Nat))} (P : Pcs K H as ps) {l : Addr} {cl : List (List Nat)} (h : SqL K H l (vS cl)) : Pcs K H (as ++ [l]) (ps ++ [cl]) := by
  refine ⟨by rw [List.length_append, List.length_append, P.1]; rfl, fun i a ha => ?_⟩
  by_cases hi : i < as.length
  · rw [List.getElem?_append_left hi] at ha
    rw [getD_app (by rw [← P.1]; exact hi)]
    exact P.2 i a ha
  · have hlt := (List.getElem?_eq_some_iff.mp ha).1
    rw [List.length_append] at hlt
    have hlt : i < as.length + 1 := hlt
    have e : i = as.length := by omega
    subst e
    rw [List.getElem?_append_right (Nat.le_refl _), Nat.sub_self] at ha
    cases ha
    rw [P.1, getD_last]
    exact h
def Fit (ps : List (List (List Nat))) (es os : List Int) : Prop := ∀ i, i < ps.length → (ps.getD i []).length = os.count (i : Int) ∧ ∀ t ∈ ps.getD i [], t.length = es.count (i : Int) ∧ ∀ c ∈ t, Sg c
theorem Fit.add {ps : List (List (List Nat))} {es os : List Int} (F : Fit ps es os) {cl : List (List Nat)} (h : cl.length = os.count (ps.length : Int) ∧ ∀ t ∈ cl, t.length = es.count (ps.length : Int) ∧ ∀ c ∈ t, Sg c) : Fit (ps ++ [cl]) es os := fun i hi => by
  rw [List.length_append] at hi
  have hi : i < ps.length + 1 := hi
  by_cases h1 : i < ps.length
  · rw [getD_app h1]; exact F i h1
  · have e : i = ps.length := by omega
    subst e
    rw [getD_last]
    exact h
/-- new lists of texts, each at a place of its own -/
structure Cop (H0 H : Hp) (bs : List Addr) (ps : List (List (List Nat))) : Prop where
  l : bs.length = ps.length
  h : ∀ (i : Nat) (b : Addr), bs[i]? = some b → H b = some (.lst (vS (ps.getD i []))) ∧ H0 b = none
  d : ∀ (i j : Nat) (b : Addr), bs[i]? = some b → bs[j]? = some b → i = j
theorem Cop.nil (H0 H : Hp) : Cop H0 H [] [] := ⟨rfl, fun i b h => by simp at h, fun i j b h => by simp at h⟩
theorem Cop.same {H0 H H' : Hp} {bs : List Addr} {ps : List (List (List Nat))} (C : Cop H0 H bs ps) (s : Same H H') : Cop H0 H' bs ps := ⟨C.l, fun i b h => ⟨s _ _ (C.h i b h).1, (C.h i b h).2⟩, C.d⟩
theorem Cop.add {H0 H : Hp} {bs : List Addr} {ps : List (List (List Nat))} (C : Cop H0 H bs ps) {l : Addr} {cl : List (List Nat)} (hn : H l = none) (h0 : H0 l = none) : Cop H0 (upd H l (.lst (vS cl))) (bs ++ [l]) (ps ++ [cl]) := by
  have cl' := C.l
  have last : ∀ (i : Nat) (b : Addr), (bs ++ [l])[i]? = some b → ¬ i < bs.length → i = bs.length ∧ b = l := fun i b hb hi => by
    have hlt := (List.getElem?_eq_some_iff.mp hb).1
    rw [List.length_append] at hlt
    have hlt : i < bs.length + 1 := hlt
    have e : i = bs.length := by omega
    subst e
    rw [List.getElem?_append_right (Nat.le_refl _), Nat.sub_self] at hb
    cases hb
    exact ⟨rfl, rfl⟩
  have old : ∀ (i : Nat) (b : Addr), (bs ++ [l])[i]? = some b → i < bs.length → bs[i]? = some b ∧ b ≠ l := fun i b hb hi => by
    rw [List.getElem?_append_left hi] at hb
    refine ⟨hb, fun z => ?_⟩
    have := (C.h i b hb).1
    rw [z, hn] at this
    cases this
  refine ⟨by rw [List.length_append, List.length_append, C.l]; rfl, fun i b hb => ?_, fun i j b hi hj => ?_⟩
  · by_cases hi : i < bs.length
    · obtain ⟨h1, h2⟩ := old i b hb hi
      rw [getD_app (by rw [← C.l]; exact hi), upd_ne h2]
      exact C.h i b h1
    · obtain ⟨h1, h2⟩ := last i b hb hi
      subst h1
      subst h2
      rw [C.l, getD_last]
      exact ⟨upd_same, h0⟩
  · by_cases h1 : i < bs.length
    · obtain ⟨a1, a2⟩ := old i b hi h1
      by_cases h2 : j < bs.length
      · exact C.d i j b a1 (old j b hj h2).1
      · exact absurd (last j b hj h2).2 a2
    · obtain ⟨a1, a2⟩ := last i b hi h1
      by_cases h2 : j < bs.length
      · exact absurd a2 (old j b hj h2).2
      · rw [a1, (last j b hj h2).1]
theorem Cop.put {H0 H : Hp} {bs : List Addr} {ps : List (List (List Nat))} (C : Cop H0 H bs ps) {i : Nat} {b : Addr} (hb : bs[i]? = some b) (cl : List (List Nat)) : Cop H0 (upd H b (.lst (vS cl))) bs (ps.set i cl) := by
  have hi : i < ps.length := by rw [← C.l]; exact (List.getElem?_eq_some_iff.mp hb).1
  refine ⟨by rw [List.length_set, C.l], fun j c hc => ?_, C.d⟩
  rw [getD_set hi]
  by_cases e : i = j
  · subst e
    rw [hb] at hc
    cases hc
    rw [if_pos rfl]
    exact ⟨upd_same, (C.h i b hb).2⟩
  · rw [if_neg e, upd_ne (fun z => e (C.d i j b hb (by rw [← z]; exact hc)))]
    exact C.h j c hc
theorem Cop.pcs {K : PySem.W.Frag} {H0 H : Hp} {bs : List Addr} {ps : List (List (List Nat))} (C : Cop H0 H bs ps) : Pcs K H bs ps := ⟨C.l, fun i a h => SqL.of (C.h i a h).1⟩
theorem refs_got {as : List Addr} {i : Nat} {x : V} (hx : (as.map V.ref)[i]? = some x) : ∃ c, as[i]? = some c ∧ x = .ref c := by
  rw [List.getElem?_map] at hx
  cases e : as[i]? with
  | none => rw [e] at hx; cases hx
  | some b => rw [e] at hx; cases hx; exact ⟨b, rfl, rfl⟩
theorem take_one {ps : List (List (List Nat))} {i : Nat} (h : i < ps.length) : ps.take (i + 1) = ps.take i ++ [ps.getD i []] := by
  rw [List.take_add_one, List.getElem?_eq_getElem h, List.getD_eq_getElem?_getD, List.getElem?_eq_getElem h]
  rfl
theorem nat_of_mod (z : Int) {m : Nat} (hm : 1 ≤ m) : ∃ x : Nat, z % (m : Int) = (x : Int) ∧ x < m := by
  have h1 := Int.emod_nonneg z (show (m : Int) ≠ 0 by omega)
  have h2 := Int.emod_lt_of_pos z (show 0 < (m : Int) by omega)
  exact ⟨(z % (m : Int)).toNat, by omega, by omega⟩
theorem cut_tail {u : List Nat} {k : Nat} (h : k ≤ u.length) : cutT u (some (k : Int)) none = u.drop k := by
  unfold cutT
  have e1 : HT.sIx u.length 0 (some (k : Int)) = k := by rw [HT.sIx_nat, Nat.min_eq_left h]
  have e2 : HT.sIx u.length u.length none = u.length := rfl
  rw [e1, e2]
  exact List.take_of_length_le (by rw [List.length_drop]; omega)
theorem kit_refS {K : PySem.W.Frag} {C D : Addr} {b : Bool} (hC : PySem.W.mroIn K C (.ref C) = some true) (i : PySem.W.isClsIn K D = true) (j : PySem.W.typeIn K (.ref D) = some (.type "type")) (r : PySem.W.mroIn K C (.ref D) = some b) : PySem.W.kitOne K (.ref C) (.ref D) = some b := by
  unfold PySem.W.kitOne
  by_cases q : (Value.ref C == Value.ref D) = true
  · rw [if_pos q]
    have e : C = D := Value.ref.inj (beq_iff_eq.mp q)
    subst e
    rw [hC] at r
    exact r
  · rw [if_neg q]
    unfold PySem.W.kitCls
    have i' : (PySem.W.clsIn K D).isSome = true := i
    have h : ((PySem.W.clsIn K D).isSome && PySem.W.typeIn K (.ref D) == some (.type "type")) = true := by rw [i', j]; rfl
    show (if _ then _ else _) = _
    rw [if_pos h]
    exact r
theorem any_false {K : PySem.W.Frag} {c : Value} : ∀ {l : List Value}, (∀ x ∈ l, PySem.W.kitOne K c x = some false) → PySem.W.kitAny K c l = some false
  | [], _ => by unfold PySem.W.kitAny; rfl
  | x :: l, h => by
    unfold PySem.W.kitAny
    rw [h x (by simp)]
    exact any_false fun y hy => h y (by simp [hy])
def sp_refused (K : PySem.W.Frag) : Sp := fun vs H Q _ => ∃ (p pe po : Addr) (as : List Addr) (ps : List (List (List Nat))) (es os : List Int), vs = [.ref p, .ref pe, .ref po] ∧ SqL K H p (as.map V.ref) ∧ Pcs K H as ps ∧ SqL K H pe (vI es) ∧ SqL K H po (vI os) ∧ (∀ i, ∀ u ∈ ps.getD i [], u.length ≤ 1000) ∧
  ∀ (H' : Hp) (b : Bool), Same H H' → (b = true ↔ ¬ AllOk ps es os) → Q (.bl b) H'
theorem ok_law_refused (T : Txt K mg t) : FnOk P w K mg base CX0 3 t.f_law_refused t.d_law_refused ["pieces", "ends", "picks"] (sp_refused K) := by
  have G_laid_together : FnOk P w K mg base (CX1 P w) 2 t.f_laid_together t.d_laid_together _ _ := okx_laid_together T
  have G_NoLaying_called : FnOk P w K mg base CX0 1 t.f_NoLaying_called t.d_NoLaying_called _ _ := ok_NoLaying_called T
  refine T.law_refused.F.ok sc_law_refused (fun vs H Q E h => ?_) (fun cdv A outer s H vs Q E hr h => ?_)
  · obtain ⟨p, pe, po, as, ps, es, os, rfl, _⟩ := h
    rfl
  · obtain ⟨p, pe, po, as, ps, es, os, rfl, hP, hA, hE, hO, hl, k⟩ := h
    refine ⟨_, (pss_cons (ps_set (i := 3) sc_law_refused.nd rfl (Or.inl rfl) pe_non)
      (pss_cons (ps_try (j := 4) ⟨rfl, rfl, rfl⟩ rfl (psxs_one (psx_expr (pex_call (G_laid_together.mono (by decide)) hr rfl T.laid_together.m T.laid_together.F.kp T.laid_together.b .nil (pa_cons (pv 0) (pa_cons (pv 1) (pa_cons (pv 2) pa_nil)))))) sc_law_refused.nd rfl rfl rfl T.k_WeaveError T.x_WeaveError.q has_base (fun _ => (pss_one (ps_set (i := 3) sc_law_refused.nd rfl (Or.inl rfl) (pv 4)))))
      (pss_cons (ps_if (PW.pt (pw_or (pt_cmpR op_isN (pv 3) pe_non (nomark _)) (pw_or (pt_not (pt_val (pe_callB (call_isx (K := K)) rfl T.b_isinstance bt_isinstance (pa_cons (pv 3) (pa_cons (pe_glob (v := .ref t.e_NoLaying) rfl T.k_NoLaying rfl) pa_nil))))) (pw_or1 (pt_not (pt_val (pe_callB (call_isx (K := K)) rfl T.b_isinstance bt_isinstance (pa_cons (pv 3) (pa_cons (pe_bltn (v := .ty "ValueError") rfl T.b_ValueError bt_ValueError rfl) pa_nil)))))))))
        (pss_one (ps_ret pe_bl))
        pss_nil)
      (pss_cons (ps_if (pt_val (pe_callB (call_isxT (K := K)) rfl T.b_isinstance bt_isinstance (pa_cons (pv 3) (pa_cons (pe_tup (pa_cons (pe_glob (v := .ref t.e_NoRow) rfl T.k_NoRow rfl) (pa_cons (pe_glob (v := .ref t.e_TooLarge) rfl T.k_TooLarge rfl) (pa_cons (pe_glob (v := .ref t.e_NoCloth) rfl T.k_NoCloth rfl) (pa_cons (pe_glob (v := .ref t.e_NoDraft) rfl T.k_NoDraft rfl) (pa_cons (pe_glob (v := .ref t.e_NoStrand) rfl T.k_NoStrand rfl) (pa_cons (pe_glob (v := .ref t.e_NoDeed) rfl T.k_NoDeed rfl) (pa_cons (pe_glob (v := .ref t.e_NoShuttle) rfl T.k_NoShuttle rfl) (pa_cons (pe_glob (v := .ref t.e_NoColour) rfl T.k_NoColour rfl) pa_nil))))))))) pa_nil))))
        (pss_one (ps_ret pe_bl))
        pss_nil)
      (pss_cons (ps_if (pt_val (pe_callB (call_isxT (K := K)) rfl T.b_isinstance bt_isinstance (pa_cons (pv 3) (pa_cons (pe_tup (pa_cons (pe_glob (v := .ref t.e_NoBlock) rfl T.k_NoBlock rfl) (pa_cons (pe_glob (v := .ref t.e_NoPattern) rfl T.k_NoPattern rfl) (pa_cons (pe_glob (v := .ref t.e_Unknown) rfl T.k_Unknown rfl) (pa_cons (pe_glob (v := .ref t.e_Twice) rfl T.k_Twice rfl) pa_nil))))) pa_nil))))
        (pss_one (ps_ret pe_bl))
        pss_nil)
      (pss_cons (ps_set (i := 5) sc_law_refused.nd rfl (Or.inl rfl) (pe_methE (pv 3) T.x_NoLaying.c T.m_NoLaying.m (G_NoLaying_called.mono (by decide)) hr T.m_NoLaying.b pass0))
      (pss_one (ps_ret (pe_and (pe_callB (call_isiK (K := K)) rfl T.b_isinstance bt_isinstance (pa_cons (pv 5) (pa_cons (pe_bltn (v := .ty "str") rfl T.b_str bt_str rfl) pa_nil))) (pe_one (pe_cmpR op_eq (pv 5) pe_str (nomark _)))))))))))), ?_⟩
    refine ⟨_, rfl, _, rfl, _, rfl, p, pe, po, as, ps, es, os, rfl, hP, hA, hE, hO, hl, fun W l H1 s1 nl hl1 => ?_, fun W H1 s1 => ?_⟩
    · refine ⟨_, rfl, rfl, _, rfl, ?_⟩
      refine iteDp rfl (iteT ?_)
      exact k H1 false s1 ⟨(fun z => nomatch z), fun z => absurd W z⟩
    · refine ⟨_, rfl, T.x_NoLaying.sub T.r_NoLaying_WeaveError, fun ea ne => ?_⟩
      have he : (upd H1 ea (exH t.e_NoLaying ea)) ea = some (exH t.e_NoLaying ea) := upd_same
      have s2 : Same H (upd H1 ea (exH t.e_NoLaying ea)) := s1.new ne
      obtain ⟨H2, eH2⟩ : ∃ H2, H2 = upd H1 ea (exH t.e_NoLaying ea) := ⟨_, rfl⟩
      rw [← eH2] at he s2 ⊢
      refine ⟨_, rfl, ?_⟩
      refine ⟨_, rfl, rfl, _, rfl, ?_⟩
      refine iteDn (fun z => nomatch z) ?_
      refine ⟨_, rfl, ea, t.e_NoLaying, true, he, T.x_NoLaying.c, .inr ⟨t.e_NoLaying, rfl, kit_ref T.r_NoLaying_NoLaying T.x_NoLaying T.r_NoLaying_NoLaying⟩, _, rfl, ?_⟩
      refine iteF ?_
      refine ⟨_, rfl, ea, t.e_NoLaying, true, he, T.x_NoLaying.c, .inl ⟨_, rfl, kit_ve T.x_NoLaying⟩, _, rfl, ?_⟩
      refine iteF ?_
      refine ⟨_, rfl, (by show 8 ≤ sizeLine; decide), fun q hq => ?_⟩
      have he2 := (Same.upd (o := .tup [.ref t.e_NoRow, .ref t.e_TooLarge, .ref t.e_NoCloth, .ref t.e_NoDraft, .ref t.e_NoStrand, .ref t.e_NoDeed, .ref t.e_NoShuttle, .ref t.e_NoColour]) hq) _ _ he
      have s3 := s2.new (o := .tup [.ref t.e_NoRow, .ref t.e_TooLarge, .ref t.e_NoCloth, .ref t.e_NoDraft, .ref t.e_NoStrand, .ref t.e_NoDeed, .ref t.e_NoShuttle, .ref t.e_NoColour]) hq
      refine ⟨ea, t.e_NoLaying, q, [t.e_NoRow, t.e_TooLarge, t.e_NoCloth, t.e_NoDraft, t.e_NoStrand, t.e_NoDeed, t.e_NoShuttle, t.e_NoColour], false, rfl, he2, T.x_NoLaying.c, upd_same, any_false ?_, _, rfl, ?_⟩
      · intro x hx
        simp only [List.map_cons, List.map_nil, List.mem_cons, List.not_mem_nil, or_false] at hx
        rcases hx with rfl | rfl | rfl | rfl | rfl | rfl | rfl | rfl
        · exact kit_refS T.r_NoLaying_NoLaying T.i_NoRow T.j_NoRow T.r_NoLaying_NoRow
        · exact kit_refS T.r_NoLaying_NoLaying T.i_TooLarge T.j_TooLarge T.r_NoLaying_TooLarge
        · exact kit_refS T.r_NoLaying_NoLaying T.i_NoCloth T.j_NoCloth T.r_NoLaying_NoCloth
        · exact kit_refS T.r_NoLaying_NoLaying T.i_NoDraft T.j_NoDraft T.r_NoLaying_NoDraft
        · exact kit_refS T.r_NoLaying_NoLaying T.i_NoStrand T.j_NoStrand T.r_NoLaying_NoStrand
        · exact kit_refS T.r_NoLaying_NoLaying T.i_NoDeed T.j_NoDeed T.r_NoLaying_NoDeed
        · exact kit_refS T.r_NoLaying_NoLaying T.i_NoShuttle T.j_NoShuttle T.r_NoLaying_NoShuttle
        · exact kit_refS T.r_NoLaying_NoLaying T.i_NoColour T.j_NoColour T.r_NoLaying_NoColour
      refine iteF ?_
      obtain ⟨H3, eH3⟩ : ∃ H3, H3 = upd H2 q (.tup [.ref t.e_NoRow, .ref t.e_TooLarge, .ref t.e_NoCloth, .ref t.e_NoDraft, .ref t.e_NoStrand, .ref t.e_NoDeed, .ref t.e_NoShuttle, .ref t.e_NoColour]) := ⟨_, rfl⟩
      rw [← eH3] at he2 s3 ⊢
      refine ⟨_, rfl, (by show 4 ≤ sizeLine; decide), fun q4 hq4 => ?_⟩
      have he4 := (Same.upd (o := .tup [.ref t.e_NoBlock, .ref t.e_NoPattern, .ref t.e_Unknown, .ref t.e_Twice]) hq4) _ _ he2
      have s4 := s3.new (o := .tup [.ref t.e_NoBlock, .ref t.e_NoPattern, .ref t.e_Unknown, .ref t.e_Twice]) hq4
      refine ⟨ea, t.e_NoLaying, q4, [t.e_NoBlock, t.e_NoPattern, t.e_Unknown, t.e_Twice], false, rfl, he4, T.x_NoLaying.c, upd_same, any_false ?_, _, rfl, ?_⟩
      · intro x hx
        simp only [List.map_cons, List.map_nil, List.mem_cons, List.not_mem_nil, or_false] at hx
        rcases hx with rfl | rfl | rfl | rfl
        · exact kit_refS T.r_NoLaying_NoLaying T.i_NoBlock T.j_NoBlock T.r_NoLaying_NoBlock
        · exact kit_refS T.r_NoLaying_NoLaying T.i_NoPattern T.j_NoPattern T.r_NoLaying_NoPattern
        · exact kit_refS T.r_NoLaying_NoLaying T.i_Unknown T.j_Unknown T.r_NoLaying_Unknown
        · exact kit_refS T.r_NoLaying_NoLaying T.i_Twice T.j_Twice T.r_NoLaying_Twice
      refine iteF ?_
      refine ⟨_, rfl, ea, rfl, he4, _, rfl, ?_⟩
      refine ⟨_, rfl, _, _, true, .str _, .inl ⟨_, rfl, kit_same K _⟩, _, rfl, ?_⟩
      refine iteT ?_
      refine ⟨_, rfl, rfl, ?_⟩
      rw [decide_eq_true rfl]
      exact k _ true s4 ⟨fun _ => W, fun _ => rfl⟩
abbrev oddS : Str := " !\"$&'()*+,-/0123456789:;<=>?@ABCDEFGHIJKLMNOPQRSTUVWXYZ[\\]^_`abcdefghijklmnopqrstuvwxyz{|}~"
theorem odd_ok : oddS.cps.toList.all (fun c => decide (c ≠ 35 ∧ c ≠ 46)) = true := by decide +kernel
theorem odd_len : oddS.cps.toList.length = 92 := by decide +kernel
theorem odd_at {z : Int} (h0 : 0 ≤ z) (h1 : z < 92) : ∃ c, atI oddS.cps.toList z = some c ∧ ¬ Sg c := by
  have hz : z.toNat < oddS.cps.toList.length := by rw [odd_len]; omega
  refine ⟨oddS.cps.toList[z.toNat], atI_of h0 (List.getElem?_eq_getElem hz), fun hg => ?_⟩
  have := of_decide_eq_true (List.all_eq_true.mp odd_ok _ (List.getElem_mem hz))
  rcases hg with h | h
  · exact this.1 h
  · exact this.2 h
def sp_odd : Sp := fun vs H Q _ => ∃ (z : Int), vs = [.int z] ∧ ∀ c, ¬ Sg c → Q (.str ⟨#[c]⟩) H
theorem ok_law_odd_sign (T : Txt K mg t) : FnOk P w K mg base CX0 1 t.f_law_odd_sign t.d_law_odd_sign ["number"] sp_odd := by
  refine T.law_odd_sign.F.ok sc_law_odd_sign (fun vs H Q E h => ?_) (fun cdv A outer s H vs Q E hr h => ?_)
  · obtain ⟨z, rfl, _⟩ := h
    rfl
  · obtain ⟨z, rfl, k⟩ := h
    obtain ⟨c, ec, hc⟩ := odd_at (z := z % 92) (Int.emod_nonneg _ (by decide)) (Int.emod_lt_of_pos _ (by decide))
    refine ⟨_, (pss_cons (ps_set (i := 1) sc_law_odd_sign.nd rfl (Or.inl rfl) pe_str)
      (pss_one (ps_ret (pe_ix ix_str (pv 1) (pe_op op_mod (pv 0) pe_int) (fun _ _ => rfl))))), ?_⟩
    exact ⟨_, rfl, _, rfl, _, _, rfl, rfl, (by show (0 : Int) < 92; decide), _, _, _, rfl, rfl, (by decide +kernel), ec, k c hc⟩
def sp_sptext : Sp := fun vs H Q _ => ∃ (u : List Nat) (f z : Int) (c : Nat), vs = [.str (tx u), .int f, .int z, .str ⟨#[c]⟩] ∧ u.length ≤ 41 ∧ ¬ Sg c ∧ ∀ u' : List Nat, u'.length ≤ 1000 → ¬ (u'.length = u.length ∧ ∀ c ∈ u', Sg c) → Q (.str (tx u')) H
theorem ok_law_spoilt_text (T : Txt K mg t) : FnOk P w K mg base CX0 1 t.f_law_spoilt_text t.d_law_spoilt_text ["row", "fault", "at", "sign"] sp_sptext := by
  refine T.law_spoilt_text.F.ok sc_law_spoilt_text (fun vs H Q E h => ?_) (fun cdv A outer s H vs Q E hr h => ?_)
  · obtain ⟨u, f, z, c, rfl, _⟩ := h
    rfl
  · obtain ⟨u, f, z, c, rfl, hu, hc, k⟩ := h
    have hsz : sizeLine = 16777216 := sizeLine_eq
    obtain ⟨p, ep, hp⟩ := nat_of_mod z (m := u.length + 1) (by omega)
    have ep : z % ((u.length : Int) + 1) = (p : Int) := by rw [← ep]; rfl
    obtain ⟨d, ed, hd⟩ := bit_at z
    refine ⟨_, (pss_cons (ps_set (i := 4) sc_law_spoilt_text.nd rfl (Or.inl rfl) (pe_op op_mod (pv 2) (pe_op op_add (pe_callB call_len_str rfl T.b_len bt_len (pa_cons (pv 0) pa_nil)) pe_int)))
      (pss_cons (ps_if (PW.pt (pw_or (pt_cmpR op_eq (pv 1) pe_int (nomark _)) (pw_or1 (pt_cmpR op_eq (pv 0) pe_str (nomark _)))))
        (pss_one (ps_ret (pe_op op_add_str (pe_op op_add_str (pe_slice sl_str (pv 0) po_none (po_some (pv 4))) (pe_ix ix_str pe_str (pe_op op_mod (pv 2) pe_int) (fun _ _ => rfl))) (pe_slice sl_str (pv 0) (po_some (pv 4)) po_none))))
        pss_nil)
      (pss_cons (ps_set (i := 4) sc_law_spoilt_text.nd rfl (Or.inl rfl) (pe_op op_mod (pv 2) (pe_callB call_len_str rfl T.b_len bt_len (pa_cons (pv 0) pa_nil))))
      (pss_cons (ps_if (pt_cmpR op_eq (pv 1) pe_int (nomark _))
        (pss_one (ps_ret (pe_op op_add_str (pe_slice sl_str (pv 0) po_none (po_some (pv 4))) (pe_slice sl_str (pv 0) (po_some (pe_op op_add (pv 4) pe_int)) po_none))))
        pss_nil)
      (pss_one (ps_ret (pe_op op_add_str (pe_op op_add_str (pe_slice sl_str (pv 0) po_none (po_some (pv 4))) (pv 3)) (pe_slice sl_str (pv 0) (po_some (pe_op op_add (pv 4) pe_int)) po_none)))))))), ?_⟩
    refine ⟨_, rfl, _, rfl, _, rfl, (by rw [tx_len]; omega), _, _, rfl, rfl, _, _, rfl, rfl, (by rw [tx_len]; show (0 : Int) < (u.length : Int) + 1; omega), ?_⟩
    rw [tx_len]
    dsimp only
    rw [ep]
    apply by_rest0
    · intro first
      refine ⟨_, rfl, rfl, _, rfl, ?_⟩
      refine ite2D (fun _ => iteT (first ())) (fun _ => ?_)
      refine ⟨_, rfl, rfl, _, rfl, ?_⟩
      refine ite2D (fun _ => first ()) (fun hne => ?_)
      have u1 : 1 ≤ u.length := by
        cases u with
        | nil => exact absurd (congrArg V.str (show tx [] = "" by decide +kernel)) hne
        | cons a u => simp
      obtain ⟨q, eq, hq⟩ := nat_of_mod z (m := u.length) u1
      refine ⟨_, rfl, _, rfl, _, rfl, (by rw [tx_len]; omega), _, _, rfl, rfl, (by rw [tx_len]; omega), ?_⟩
      rw [tx_len]
      dsimp only
      rw [eq]
      refine ⟨_, rfl, rfl, _, rfl, ?_⟩
      refine ite2D (fun _ => ?_) (fun _ => ?_)
      · refine ⟨_, rfl, _, rfl, _, rfl, _, rfl, (by omega), ?_⟩
        rw [cut_to (by omega)]
        refine ⟨_, rfl, _, rfl, _, _, rfl, rfl, _, rfl, _, rfl, (by omega), ?_⟩
        rw [show (q : Int) + 1 = ((q + 1 : Nat) : Int) by omega, cut_tail (by omega)]
        refine ⟨_, _, rfl, rfl, (by rw [tx_len, tx_len, List.length_take, List.length_drop]; omega), ?_⟩
        rw [tx_app]
        refine k _ (by rw [List.length_append, List.length_take, List.length_drop]; omega) fun g => ?_
        have := g.1
        rw [List.length_append, List.length_take, List.length_drop] at this
        omega
      · refine ⟨_, rfl, _, rfl, _, rfl, _, rfl, (by omega), ?_⟩
        rw [cut_to (by omega)]
        refine ⟨_, rfl, _, _, rfl, rfl, (by rw [tx_len, List.length_take]; show _ + 1 ≤ sizeLine; omega), ?_⟩
        rw [tx_one, tx_app]
        refine ⟨_, rfl, _, rfl, _, _, rfl, rfl, _, rfl, _, rfl, (by omega), ?_⟩
        rw [show (q : Int) + 1 = ((q + 1 : Nat) : Int) by omega, cut_tail (by omega)]
        refine ⟨_, _, rfl, rfl, (by rw [tx_len, tx_len, List.length_append, List.length_take, List.length_drop]; show _ + 1 + _ ≤ sizeLine; omega), ?_⟩
        rw [tx_app]
        exact k _ (by rw [List.length_append, List.length_append, List.length_take, List.length_drop, List.length_singleton]; omega) fun g => hc (g.2 c (by simp))
    · refine ⟨_, rfl, _, rfl, _, rfl, _, rfl, (by omega), ?_⟩
      rw [cut_to (by omega)]
      refine ⟨_, rfl, _, _, rfl, rfl, (by show (0 : Int) < 2; decide), _, _, _, rfl, rfl, (by decide +kernel), ed, _, _, rfl, rfl, (by rw [tx_len, List.length_take]; show _ + 1 ≤ sizeLine; omega), ?_⟩
      rw [show (⟨#[d]⟩ : Str) = tx [d] from rfl, tx_app]
      refine ⟨_, rfl, _, rfl, _, rfl, _, rfl, (by omega), ?_⟩
      rw [cut_tail (by omega)]
      refine ⟨_, _, rfl, rfl, (by rw [tx_len, tx_len, List.length_append, List.length_take, List.length_drop]; show _ + 1 + _ ≤ sizeLine; omega), ?_⟩
      rw [tx_app]
      refine k _ (by rw [List.length_append, List.length_append, List.length_take, List.length_drop, List.length_singleton]; omega) fun g => ?_
      have := g.1
      rw [List.length_append, List.length_append, List.length_take, List.length_drop, List.length_singleton] at this
      omega
def sp_spowners (K : PySem.W.Frag) : Sp := fun vs H Q _ => ∃ (po pn : Addr) (os ks : List Int) (y : Nat) (far : Int), vs = [.ref po, .int (y : Int), .ref pn, .int far] ∧ SqL K H po (vI os) ∧ os.length ≤ 100 ∧ SqL K H pn (vI ks) ∧ Num ks 63 ∧ 0 ≤ far ∧
  ∀ (l : Addr) (os' : List Int) (H' : Hp), Same H H' → H' l = some (.lst (vI os')) → os'.length ≤ 1000 → ¬ OwOk os' y → Q (.ref l) H'
theorem vI_ins (os : List Int) (k : Nat) (z : Int) : (vI os).take k ++ V.int z :: (vI os).drop k = vI (os.take k ++ z :: os.drop k) := by
  unfold vI
  rw [List.map_append, List.map_cons, List.map_take, List.map_drop]
theorem ok_law_spoilt_owners (T : Txt K mg t) : FnOk P w K mg base CX0 1 t.f_law_spoilt_owners t.d_law_spoilt_owners ["owners", "many", "numbers", "far"] (sp_spowners K) := by
  refine T.law_spoilt_owners.F.ok sc_law_spoilt_owners (fun vs H Q E h => ?_) (fun cdv A outer s H vs Q E hr h => ?_)
  · obtain ⟨po, pn, os, ks, y, far, rfl, _⟩ := h
    rfl
  · obtain ⟨po, pn, os, ks, y, far, rfl, hO, ol, gn, hN, h0, k⟩ := h
    obtain ⟨c5, e5, _⟩ := hN.at (i := 5) (by decide) (by decide)
    obtain ⟨c6, e6, _⟩ := hN.at (i := 6) (by decide) (by decide)
    obtain ⟨r, er, hr1⟩ := nat_of_mod c5 (m := os.length + 1) (by omega)
    have er : c5 % ((os.length : Int) + 1) = (r : Int) := by rw [← er]; rfl
    refine ⟨_, (pss_cons (ps_set (i := 4) sc_law_spoilt_owners.nd rfl (Or.inl rfl) (pe_callTy (call_list_ofK (K := K)) rfl T.b_list bt_list (pa_cons (pv 0) pa_nil)))
      (pss_cons (ps_set (i := 5) sc_law_spoilt_owners.nd rfl (Or.inl rfl) (pe_op op_mod (pe_ix (ix_listK (K := K)) (pv 2) pe_int (fun _ _ => rfl)) (pe_op op_add (pe_callB (call_len_seqK (K := K)) rfl T.b_len bt_len (pa_cons (pv 4) pa_nil)) pe_int)))
      (pss_cons (ps_if (pt_cmpR op_eq (pe_op op_mod (pe_ix (ix_listK (K := K)) (pv 2) pe_int (fun _ _ => rfl)) pe_int) pe_int (nomark _))
        (pss_one (ps_expr (pe_bmK (K := K) PySem.F.plainAttrs_list PySem.F.slot_list_insert PySem.F.type_list_insert mt_insert (pv 4) (pa_cons (pv 5) (pa_cons (pe_op op_add (pv 1) (pv 3)) pa_nil)))))
        (pss_one (ps_expr (pe_bmK (K := K) PySem.F.plainAttrs_list PySem.F.slot_list_insert PySem.F.type_list_insert mt_insert (pv 4) (pa_cons (pv 5) (pa_cons (pe_op op_sub (pe_un un_neg pe_int) (pv 3)) pa_nil))))))
      (pss_one (ps_ret (pv 4)))))), ?_⟩
    refine ⟨_, rfl, _, _, rfl, .inl hO, fun l nl => ?_⟩
    have s1 : Same H (upd H l (.lst (vI os))) := .upd nl
    have hl1 : (upd H l (.lst (vI os))) l = some (.lst (vI os)) := upd_same
    generalize upd H l (.lst (vI os)) = H1 at s1 hl1 ⊢
    refine ⟨_, rfl, _, _, _, _, rfl, rfl, s1.seq gn, e5, _, rfl, _, _, rfl, .inl (SqL.of hl1), _, _, rfl, rfl, _, _, rfl, rfl, (by rw [vI_len]; show (0 : Int) < (os.length : Int) + 1; omega), ?_⟩
    rw [vI_len]
    dsimp only
    rw [er]
    refine ⟨_, rfl, _, _, _, _, rfl, rfl, s1.seq gn, e6, _, _, rfl, rfl, (by show (0 : Int) < 2; decide), rfl, _, rfl, ?_⟩
    have ln : ∀ z : Int, (os.take r ++ z :: os.drop r).length ≤ 1000 := fun z => by rw [List.length_append, List.length_cons, List.length_take, List.length_drop]; omega
    refine ite2D (fun _ => ?_) (fun _ => ?_)
    · refine ⟨_, rfl, .inl ⟨rfl, _, SqL.of hl1⟩, _, rfl, _, rfl, _, rfl, _, _, rfl, rfl, _, _, _, r, rfl, rfl, (by rw [vI_len]; omega), hl1, (by rw [vI_len]; omega), ?_⟩
      rw [vI_ins]
      exact ⟨_, rfl, k l _ _ (s1.over nl) upd_same (ln _) (bad_in (.inr (by omega)))⟩
    · refine ⟨_, rfl, .inl ⟨rfl, _, SqL.of hl1⟩, _, rfl, _, rfl, _, rfl, _, _, rfl, rfl, _, _, _, r, rfl, rfl, (by rw [vI_len]; omega), hl1, (by rw [vI_len]; omega), ?_⟩
      rw [vI_ins]
      exact ⟨_, rfl, k l _ _ (s1.over nl) upd_same (ln _) (bad_in (.inl (by omega)))⟩
def sp_fitting (K : PySem.W.Frag) : Sp := fun vs H Q _ => ∃ (pn pe po : Addr) (ks es os : List Int) (y : Nat), vs = [.ref pn, .ref pe, .ref po, .int (y : Int)] ∧ SqL K H pn (vI ks) ∧ Num ks 63 ∧ SqL K H pe (vI es) ∧ SqL K H po (vI os) ∧ es.length ≤ 41 ∧ os.length ≤ 41 ∧ y ≤ 1000 ∧
  ∀ (l : Addr) (as : List Addr) (ps : List (List (List Nat))) (H' : Hp), Same H H' → H l = none → H' l = some (.lst (as.map V.ref)) → Pcs K H' as ps → ps.length = y → Fit ps es os → Q (.ref l) H'
theorem ok_law_fitting (T : Txt K mg t) : FnOk P w K mg base CX0 2 t.f_law_fitting t.d_law_fitting ["numbers", "ends", "picks", "many"] (sp_fitting K) := by
  have G_law_piece : FnOk P w K mg base CX0 1 t.f_law_piece t.d_law_piece _ _ := ok_law_piece T
  refine T.law_fitting.F.ok sc_law_fitting (fun vs H Q E h => ?_) (fun cdv A outer s H vs Q E hr h => ?_)
  · obtain ⟨pn, pe, po, ks, es, os, y, rfl, _⟩ := h
    rfl
  · obtain ⟨pn, pe, po, ks, es, os, y, rfl, gn, hN, hE, hO, el, ol, y1, k⟩ := h
    have hsz : sizeLine = 16777216 := sizeLine_eq
    refine ⟨_, (pss_one (ps_ret (pe_comp (CompOk.mk (caps := [0, 1, 2]) (Nc := ["name", "numbers", "ends", "picks"]) rfl (by decide +kernel) (by decide +kernel) (comp_fr (sc0 := defScope s_law_fitting) rfl (by decide +kernel)) rfl rfl rfl (by decide +kernel) (fun k j h => match k, h with | 0, h => by obtain rfl := Option.some.inj h; exact ⟨_, rfl, rfl, rfl⟩ | 1, h => by obtain rfl := Option.some.inj h; exact ⟨_, rfl, rfl, rfl⟩ | 2, h => by obtain rfl := Option.some.inj h; exact ⟨_, rfl, rfl, rfl⟩ | _ + 3, h => by simp at h)) rfl (pi_range1 rfl T.b_range (pa_cons (pv 3) pa_nil)) (fun _ _ _ _ _ => .nil) (fun _ _ _ _ _ => (pe_call (G_law_piece.mono (by decide)) hr rfl T.law_piece.m T.law_piece.F.kp T.law_piece.b .nil pass0 (pa_cons (pv 1) (pa_cons (pv 0) (pa_cons (pe_bmK (K := K) PySem.F.plainAttrs_list PySem.F.slot_list_count PySem.F.type_list_count (mt_countL (K := K)) (pv 2) (pa_cons (pv 0) pa_nil)) (pa_cons (pe_bmK (K := K) PySem.F.plainAttrs_list PySem.F.slot_list_count PySem.F.type_list_count (mt_countL (K := K)) (pv 3) (pa_cons (pv 0) pa_nil)) pa_nil))))))))), ?_⟩
    refine ⟨_, rfl, _, rfl, (by omega), (by omega), ?_⟩
    rw [Int.toNat_natCast]
    refine comp_range (lo := 0) (n := y) (fun i ys H4 => Same H H4 ∧ ∃ as ps, ys = as.map V.ref ∧ ps.length = i ∧ Pcs K H4 as ps ∧ Fit ps es os) ⟨.refl _, [], [], rfl, rfl, ⟨rfl, fun i a h => by simp at h⟩, fun i h => absurd h (by simp)⟩ ?_ ?_ ?_ ?_
    · rintro i ys H4 hi ⟨s4, as, ps, rfl, pl, hA, _⟩
      rw [List.length_map, hA.1, pl]
      exact Nat.le_refl _
    · omega
    · rintro i ys H4 hi ⟨s4, as, ps, rfl, pl, hA, F⟩
      refine CTurn.no ?_
      have ge := s4.seq hE
      have go := s4.seq hO
      refine ⟨_, rfl, _, rfl, _, rfl, .inl ⟨rfl, _, ge⟩, _, rfl, _, _, _, rfl, rfl, ge, ?_⟩
      refine ⟨_, rfl, .inl ⟨rfl, _, go⟩, _, rfl, _, _, _, rfl, rfl, go, ?_⟩
      refine ⟨pn, ks, i, es.count (i : Int), os.count (i : Int), (by rw [Int.zero_add] <;> rfl), s4.seq gn, hN, by omega, Nat.le_trans (List.count_le_length ..) (by omega), Nat.le_trans (List.count_le_length ..) (by omega), fun l cl H5 s5 nl hl hcl hcm => ?_⟩
      refine CN.of hi ⟨s4.trans s5, as ++ [l], ps ++ [cl], by rw [List.map_append]; rfl, by rw [List.length_append, pl]; rfl, (hA.same s5).add (SqL.of hl), F.add ?_⟩
      rw [pl]
      exact ⟨hcl, hcm⟩
    rintro ys H4 lp ⟨s4, as, ps, rfl, pl, hA, F⟩ hlp
    have s5 : Same H4 (upd H4 lp (.lst (as.map V.ref))) := .upd hlp
    exact k lp as ps _ (s4.trans s5) (s4.free hlp) upd_same (hA.same s5) pl F
end
end Mine

set_option Elab.async false
set_option linter.all false
set_option maxRecDepth 100000
set_option maxHeartbeats 4000000
namespace Mine
open PySem L2
section
variable {P : Program} {w : World} {K : PySem.W.Frag} {mg : Str → Option Value} {base : Heap} {t : Adr}
theorem seqI {r n : Nat} (h : r < n) : seqIndex? (r : Int) n = some r := by
  unfold seqIndex?
  have h1 : ¬ ((r : Int) < 0) := by omega
  simp only [if_neg h1]
  rw [if_pos (by simp; exact h)]
  rfl
theorem vS_erase (cl : List (List Nat)) : ∀ r, (vS cl).eraseIdx r = vS (cl.eraseIdx r) := by
  induction cl with
  | nil => intro r; rfl
  | cons a cl ih =>
    intro r
    cases r with
    | zero => rfl
    | succ r =>
      show V.str (tx a) :: (vS cl).eraseIdx r = V.str (tx a) :: vS (cl.eraseIdx r)
      rw [ih]
theorem vS_set (cl : List (List Nat)) (j : Nat) (u : List Nat) : (vS cl).set j (.str (tx u)) = vS (cl.set j u) := by unfold vS; rw [List.map_set]
theorem eqE {cl : List (List Nat)} (h : cl = []) : eqL (vS cl) [] = true := by subst h; rfl
theorem eqN {cl : List (List Nat)} (h : cl ≠ []) : eqL (vS cl) [] = false := by
  cases cl with
  | nil => exact absurd rfl h
  | cons a cl => rfl
theorem by_restHp {G : Prop} {R : Hp → Prop} (C : Hp → Prop) (main : (∀ H, C H → R H) → G) (rest : ∀ H, C H → R H) : G := main rest
def SpIn (f : Int) (ps : List (List (List Nat))) (es os : List Int) : Prop := 7 ≤ f → Fit ps es os ∧ 1 ≤ os.length ∧ ∀ z ∈ os, 0 ≤ z ∧ z < (ps.length : Int)
def sp_sppieces (K : PySem.W.Frag) : Sp := fun vs H Q _ => ∃ (p pn pe : Addr) (as : List Addr) (ps : List (List (List Nat))) (ks es os : List Int) (f : Int), vs = [.ref p, .int f, .ref pn, .ref pe] ∧ SqL K H p (as.map V.ref) ∧ Pcs K H as ps ∧ SqL K H pn (vI ks) ∧ Num ks 63 ∧ SqL K H pe (vI es) ∧
  es.length ≤ 41 ∧ 1 ≤ ps.length ∧ ps.length ≤ 1000 ∧ (∀ i, (ps.getD i []).length ≤ 41) ∧ (∀ i, ∀ u ∈ ps.getD i [], u.length ≤ 41) ∧ SpIn f ps es os ∧
  ∀ (l : Addr) (bs : List Addr) (ps' : List (List (List Nat))) (H' : Hp), Same H H' → H' l = some (.lst (bs.map V.ref)) → Pcs K H' bs ps' → ps'.length = ps.length → (∀ i, ∀ u ∈ ps'.getD i [], u.length ≤ 1000) → (f < 7 → ps' = ps) → (7 ≤ f → ¬ AllOk ps' es os) → Q (.ref l) H'
theorem set_small {ps : List (List (List Nat))} (h : ∀ i, ∀ u ∈ ps.getD i [], u.length ≤ 41) {x : Nat} (hx : x < ps.length) {cl : List (List Nat)} (hc : ∀ u ∈ cl, u.length ≤ 1000) : ∀ i, ∀ u ∈ (ps.set x cl).getD i [], u.length ≤ 1000 := fun i u hu => by
  rw [getD_set hx] at hu
  by_cases e : x = i
  · rw [if_pos e] at hu; exact hc u hu
  · rw [if_neg e] at hu; exact Nat.le_trans (h i u hu) (by decide)
theorem ok_law_spoilt_pieces (T : Txt K mg t) : FnOk P w K mg base CX0 2 t.f_law_spoilt_pieces t.d_law_spoilt_pieces ["pieces", "fault", "numbers", "ends"] (sp_sppieces K) := by
  have G_law_spoilt_text : FnOk P w K mg base CX0 1 t.f_law_spoilt_text t.d_law_spoilt_text _ _ := ok_law_spoilt_text T
  have G_law_odd_sign : FnOk P w K mg base CX0 1 t.f_law_odd_sign t.d_law_odd_sign _ _ := ok_law_odd_sign T
  refine T.law_spoilt_pieces.F.ok sc_law_spoilt_pieces (fun vs H Q E h => ?_) (fun cdv A outer s H vs Q E hr h => ?_)
  · obtain ⟨p, pn, pe, as, ps, ks, es, os, f, rfl, _⟩ := h
    rfl
  · obtain ⟨p, pn, pe, as, ps, ks, es, os, f, rfl, hP, hA, gn, hN, hE, el, p1, p1000, hl1, hl2, hin, k⟩ := h
    have hsz : sizeLine = 16777216 := sizeLine_eq
    have al := hA.1
    have ml : (as.map V.ref).length = ps.length := by rw [List.length_map, al]
    obtain ⟨c4, e4, _⟩ := hN.at (i := 4) (by decide) (by decide)
    obtain ⟨c5, e5, _⟩ := hN.at (i := 5) (by decide) (by decide)
    obtain ⟨c6, e6, _⟩ := hN.at (i := 6) (by decide) (by decide)
    obtain ⟨c7, e7, _⟩ := hN.at (i := 7) (by decide) (by decide)
    refine ⟨_, (pss_cons (ps_setC (i := 4) (CompOk.mk (caps := []) (Nc := ["piece"]) rfl (by decide +kernel) (by decide +kernel) (comp_fr (sc0 := defScope s_law_spoilt_pieces) rfl (by decide +kernel)) rfl rfl rfl (by decide +kernel) (fun _ _ h => by simp at h)) rfl sc_law_spoilt_pieces.nd rfl rfl (pi_listK (K := K) (pv 0)) (fun _ _ _ _ _ => .nil) (fun _ _ _ _ _ => (pe_callTy (call_list_ofK (K := K)) rfl T.b_list bt_list (pa_cons (pv 0) pa_nil))) rfl)
      (pss_cons (ps_set (i := 5) sc_law_spoilt_pieces.nd rfl (Or.inl rfl) (pe_op op_mod (pe_ix (ix_listK (K := K)) (pv 2) pe_int (fun _ _ => rfl)) (pe_callB (call_len_seqK (K := K)) rfl T.b_len bt_len (pa_cons (pv 4) pa_nil))))
      (pss_cons (ps_if (PW.pt (pw_or (pt_cmpR op_eq (pv 1) pe_int (nomark _)) (pw_or1 (PW.pt (pw_and (pt_cmpR op_eq (pv 1) pe_int (nomark _)) (pw_and1 (pt_cmpR (op_eqLK (K := K) (hr.units0)) (pe_ix (ix_listK (K := K)) (pv 4) (pv 5) (fun _ _ => rfl)) (pe_lst pa_nil) (nomark _))))))))
        (pss_one (ps_expr (pe_bmK (K := K) PySem.F.plainAttrs_list PySem.F.slot_list_append PySem.F.type_list_append mt_append (pe_ix (ix_listK (K := K)) (pv 4) (pv 5) (fun _ _ => rfl)) (pa_cons (pe_op op_repS pe_str (pe_bmK (K := K) PySem.F.plainAttrs_list PySem.F.slot_list_count PySem.F.type_list_count (mt_countL (K := K)) (pv 3) (pa_cons (pv 5) pa_nil))) pa_nil))))
        (pss_one (ps_if (pt_cmpR op_eq (pv 1) pe_int (nomark _))
          (pss_one (ps_expr (pe_bmK (K := K) PySem.F.plainAttrs_list PySem.F.slot_list_pop PySem.F.type_list_pop mt_popAt (pe_ix (ix_listK (K := K)) (pv 4) (pv 5) (fun _ _ => rfl)) (pa_cons (pe_op op_mod (pe_ix (ix_listK (K := K)) (pv 2) pe_int (fun _ _ => rfl)) (pe_callB (call_len_seqK (K := K)) rfl T.b_len bt_len (pa_cons (pe_ix (ix_listK (K := K)) (pv 4) (pv 5) (fun _ _ => rfl)) pa_nil))) pa_nil))))
          (pss_one (ps_if (pt_cmpR op_ge (pv 1) pe_int (nomark _))
            (pss_cons (ps_while PassesOwn.never (pt_cmpR (op_eqLK (K := K) (hr.units0)) (pe_ix (ix_listK (K := K)) (pv 4) (pv 5) (fun _ _ => rfl)) (pe_lst pa_nil) (nomark _))
              (pss_one (ps_set (i := 5) sc_law_spoilt_pieces.nd rfl (Or.inl rfl) (pe_op op_mod (pe_op op_add (pv 5) pe_int) (pe_callB (call_len_seqK (K := K)) rfl T.b_len bt_len (pa_cons (pv 4) pa_nil))))))
            (pss_cons (ps_set (i := 6) sc_law_spoilt_pieces.nd rfl (Or.inl rfl) (pe_op op_mod (pe_ix (ix_listK (K := K)) (pv 2) pe_int (fun _ _ => rfl)) (pe_callB (call_len_seqK (K := K)) rfl T.b_len bt_len (pa_cons (pe_ix (ix_listK (K := K)) (pv 4) (pv 5) (fun _ _ => rfl)) pa_nil))))
            (pss_one (ps_asg (pe_call (G_law_spoilt_text.mono (by decide)) hr rfl T.law_spoilt_text.m T.law_spoilt_text.F.kp T.law_spoilt_text.b .nil pass0 (pa_cons (pe_ix (ix_listK (K := K)) (pe_ix (ix_listK (K := K)) (pv 4) (pv 5) (fun _ _ => rfl)) (pv 6) (fun _ _ => rfl)) (pa_cons (pv 1) (pa_cons (pe_ix (ix_listK (K := K)) (pv 2) pe_int (fun _ _ => rfl)) (pa_cons (pe_call (G_law_odd_sign.mono (by decide)) hr rfl T.law_odd_sign.m T.law_odd_sign.F.kp T.law_odd_sign.b .nil pass0 (pa_cons (pe_ix (ix_listK (K := K)) (pv 2) pe_int (fun _ _ => rfl)) pa_nil)) pa_nil))))) (pg_sub (pe_ix (ix_listK (K := K)) (pv 4) (pv 5) (fun _ _ => rfl)) (pv 6) set_list)))))
            pss_nil)))))
      (pss_one (ps_ret (pv 4)))))), ?_⟩
    refine ⟨_, rfl, _, rfl, ⟨_, hP⟩, comp_list (K := K) (a := p) (xs := as.map V.ref) (fun i ys H6 => Same H H6 ∧ ∃ bs : List Addr, ys = bs.map V.ref ∧ bs.length = i ∧ Cop H H6 bs (ps.take i)) ⟨.refl _, [], rfl, rfl, Cop.nil _ _⟩ ?_ ?_ ?_ ?_⟩
    · rintro i ys H6 hi ⟨s6, bs, rfl, bl, _⟩
      exact ⟨s6.seq hP, by rw [List.length_map, bl]; exact Nat.le_refl _⟩
    · omega
    · rintro i x ys H6 hi hx ⟨s6, bs, rfl, bl, hB⟩
      obtain ⟨c, hc, rfl⟩ := refs_got hx
      refine CTurn.no ?_
      refine ⟨_, rfl, _, _, rfl, .inl (s6.seq (hA.2 i c hc)), fun l hl => ?_⟩
      refine CN.of hi ⟨s6.new hl, bs ++ [l], by rw [List.map_append]; rfl, by rw [List.length_append, bl]; rfl, ?_⟩
      rw [take_one (by omega)]
      exact hB.add hl (s6.free hl)
    rintro ys H6 lm ⟨s6, bs, rfl, bl, hB⟩ nlm
    rw [List.take_of_length_le (by omega)] at hB
    have nH : H lm = none := s6.free nlm
    have s7' : Same H6 (upd H6 lm (.lst (bs.map V.ref))) := .upd nlm
    have hm7 : (upd H6 lm (.lst (bs.map V.ref))) lm = some (.lst (bs.map V.ref)) := upd_same
    generalize upd H6 lm (.lst (bs.map V.ref)) = H7 at s7' hm7 ⊢
    have s7 := s6.trans s7'
    have C7 := hB.same s7'
    have bl2 : bs.length = ps.length := C7.l
    have mb : (bs.map V.ref).length = ps.length := by rw [List.length_map, bl2]
    obtain ⟨x, ex, hx⟩ := nat_of_mod c5 (m := ps.length) p1
    refine ⟨_, rfl, _, _, _, _, rfl, rfl, s7.seq gn, e5, _, rfl, _, _, rfl, .inl (SqL.of hm7), _, _, rfl, rfl, (by rw [mb]; omega), ?_⟩
    rw [mb]
    dsimp only
    rw [ex]
    have atb : ∀ z : Nat, ∀ hz : z < bs.length, atI (bs.map V.ref) (z : Int) = some (.ref bs[z]) := fun z hz => atI_of (by omega) (by rw [Int.toNat_natCast, List.getElem?_map, List.getElem?_eq_getElem hz]; rfl)
    have hxb : x < bs.length := by omega
    have gx := List.getElem?_eq_getElem hxb
    obtain ⟨hb7, nb⟩ := C7.h x _ gx
    have atx := atb x hxb
    apply by_restHp (fun H8 => Same H7 H8 ∧ 7 ≤ f)
    · intro rest
      by_cases f7 : f < 7
      · have n7 : ¬ (V.int f = V.int 7) := fun z => by injection z with z; omega
        have n8 : ¬ (V.int f = V.int 8) := fun z => by injection z with z; omega
        refine ⟨_, rfl, rfl, _, rfl, ?_⟩
        refine iteDn n7 ?_
        refine ⟨_, rfl, rfl, _, rfl, ?_⟩
        refine iteDn n8 (iteF ?_)
        refine ⟨_, rfl, rfl, _, rfl, ?_⟩
        refine iteDn n8 ?_
        refine ⟨_, rfl, _, _, rfl, rfl, _, rfl, ?_⟩
        refine iteDn (by omega) ?_
        exact ⟨_, rfl, k lm bs ps H7 s7 hm7 C7.pcs rfl (fun i u hu => Nat.le_trans (hl2 i u hu) (by decide)) (fun _ => rfl) (fun z => absurd f7 (by omega))⟩
      have f7 : 7 ≤ f := by omega
      obtain ⟨F, o1, oz⟩ := hin f7
      obtain ⟨F1, F2⟩ := F x hx
      by_cases f8 : f = 7
      · refine ⟨_, rfl, rfl, _, rfl, ?_⟩
        refine iteDp (by rw [f8]) (iteT ?_)
        have rf : Same H7 H7 := .refl _
        obtain ⟨H8, e8⟩ : ∃ H8, H8 = H7 := ⟨_, rfl⟩
        rw [← e8]
        exact rest H8 ⟨by rw [e8]; exact rf, f7⟩
      have n7 : ¬ (V.int f = V.int 7) := fun z => by injection z with z; omega
      refine ⟨_, rfl, rfl, _, rfl, ?_⟩
      refine iteDn n7 ?_
      by_cases f9 : f = 8
      · refine ⟨_, rfl, rfl, _, rfl, ?_⟩
        refine iteDp (by rw [f9]) ?_
        refine ⟨_, rfl, _, rfl, _, _, _, _, rfl, rfl, SqL.of hm7, atx, Nat.zero_le _, fun q hq => ?_⟩
        have s8 : Same H7 (upd H7 q (.lst [])) := .upd hq
        have hq8 : (upd H7 q (.lst [])) q = some (.lst []) := upd_same
        generalize upd H7 q (.lst []) = H8 at s8 hq8 ⊢
        refine ⟨_, _, _, _, rfl, rfl, SqL.of (s8 _ _ hb7), SqL.of hq8, vS_flat _, rfl, _, rfl, ?_⟩
        by_cases hcl : ps.getD x [] = []
        · rw [eqE hcl]
          refine iteT ?_
          exact rest H8 ⟨s8, f7⟩
        · rw [eqN hcl]
          refine iteF ?_
          have hb8 := s8 _ _ hb7
          have hm8 := s8 _ _ hm7
          have cl1 : 1 ≤ (ps.getD x []).length := by
            cases e : ps.getD x [] with
            | nil => exact absurd e hcl
            | cons a l => simp
          obtain ⟨r, er, hr1⟩ := nat_of_mod c6 (m := (ps.getD x []).length) cl1
          refine ⟨_, rfl, rfl, _, rfl, ?_⟩
          refine iteDp (by rw [f9]) ?_
          refine ⟨_, rfl, _, rfl, _, _, _, _, rfl, rfl, SqL.of hm8, atx, .inl ⟨rfl, _, SqL.of hb8⟩, ?_⟩
          refine ⟨_, rfl, _, _, _, _, rfl, rfl, (s7.trans s8).seq gn, e6, _, rfl, _, rfl, _, _, _, _, rfl, rfl, SqL.of hm8, atx, _, _, rfl, .inl (SqL.of hb8), _, _, rfl, rfl, (by rw [vS_len]; omega), ?_⟩
          rw [vS_len]
          dsimp only
          rw [er]
          have g41 := hl1 x
          refine ⟨_, _, _, r, _, rfl, rfl, hb8, (by omega), (by omega), seqI (by rw [vS_len]; exact hr1), vS_get (List.getElem?_eq_getElem hr1), ?_⟩
          rw [vS_erase]
          have C9 := (C7.same s8).put gx ((ps.getD x []).eraseIdx r)
          refine ⟨_, rfl, k lm bs _ _ ((s7.trans s8).over nb) ?_ C9.pcs (by rw [List.length_set]) (set_small hl2 hx fun u hu => Nat.le_trans (hl2 x u (List.mem_of_mem_eraseIdx hu)) (by decide)) (fun z => absurd z (by omega)) fun _ => bad_set hx fun z => ?_⟩
          · have nlb : lm ≠ bs[x] := fun z => by
              have h2 := (hB.h x _ gx).1
              rw [← z, nlm] at h2
              cases h2
            rw [upd_ne nlb]
            exact hm8
          · have := z.1
            rw [List.length_eraseIdx, if_pos hr1, F1] at this
            omega
      have n8 : ¬ (V.int f = V.int 8) := fun z => by injection z with z; omega
      refine ⟨_, rfl, rfl, _, rfl, ?_⟩
      refine iteDn n8 (iteF ?_)
      refine ⟨_, rfl, rfl, _, rfl, ?_⟩
      refine iteDn n8 ?_
      refine ⟨_, rfl, _, _, rfl, rfl, _, rfl, ?_⟩
      refine iteDp (by omega) ?_
      -- while
      obtain ⟨i0, hi0, ci0⟩ : ∃ i0 : Nat, i0 < ps.length ∧ 1 ≤ (ps.getD i0 []).length := by
        have h0 : 0 < os.length := by omega
        have hz := oz _ (List.getElem_mem h0)
        have lt : (os[0]).toNat < ps.length := by omega
        refine ⟨(os[0]).toNat, lt, ?_⟩
        rw [(F _ lt).1, show (((os[0]).toNat : Nat) : Int) = os[0] by omega]
        exact List.count_pos_iff.mpr (List.getElem_mem h0)
      refine ⟨fun m σ H2 => ∃ x : Nat, σ = [some (.ref p), some (.int f), some (.ref pn), some (.ref pe), some (.ref lm), some (.int (x : Int)), none] ∧ Same H7 H2 ∧ x < ps.length ∧ (x + m) % ps.length = i0,
        ⟨(i0 + ps.length - x) % ps.length, x, rfl, .refl _, hx, by rw [Nat.add_mod_mod, show x + (i0 + ps.length - x) = i0 + ps.length by omega, Nat.add_mod_right, Nat.mod_eq_of_lt hi0]⟩, ?_⟩
      clear rest hb7 nb atx gx hxb F1 F2
      rintro m σ H2 ⟨x, rfl, s2, hx, hxm⟩
      have hxb : x < bs.length := by omega
      have gx := List.getElem?_eq_getElem hxb
      obtain ⟨hb7, nb⟩ := C7.h x _ gx
      obtain ⟨F1, F2⟩ := F x hx
      have atx := atb x hxb
      refine ⟨_, rfl, _, rfl, _, _, _, _, rfl, rfl, SqL.of (s2 _ _ hm7), atx, Nat.zero_le _, fun q hq => ?_⟩
      have s8' : Same H2 (upd H2 q (.lst [])) := .upd hq
      have hq8 : (upd H2 q (.lst [])) q = some (.lst []) := upd_same
      generalize upd H2 q (.lst []) = H8 at s8' hq8 ⊢
      have s8 := s2.trans s8'
      have hb8 := s8 _ _ hb7
      have hm8 := s8 _ _ hm7
      refine ⟨_, _, _, _, rfl, rfl, SqL.of hb8, SqL.of hq8, vS_flat _, rfl, _, rfl, ?_⟩
      by_cases hcl : ps.getD x [] = []
      · rw [eqE hcl]
        refine iteT ?_
        refine ⟨_, fun _ _ z => z, ?_⟩
        refine ⟨_, rfl, _, _, rfl, rfl, _, rfl, _, _, rfl, .inl (SqL.of hm8), _, _, rfl, rfl, (by rw [mb]; omega), ?_⟩
        rw [mb]
        have m0 : m ≠ 0 := fun z => by
          rw [z, Nat.add_zero, Nat.mod_eq_of_lt hx] at hxm
          rw [hxm] at hcl
          rw [hcl] at ci0
          simp at ci0
        refine ⟨m - 1, by omega, (x + 1) % ps.length, ?_, s8, Nat.mod_lt _ (by omega), ?_⟩
        · dsimp only
          rw [show ((x : Int) + 1) % (ps.length : Int) = (((x + 1) % ps.length : Nat) : Int) by rw [Int.natCast_emod]; rfl]
          rfl
        · rw [Nat.mod_add_mod, show x + 1 + (m - 1) = x + m by omega]
          exact hxm
      · rw [eqN hcl]
        refine iteF ?_
        have cl1 : 1 ≤ (ps.getD x []).length := by
          cases e : ps.getD x [] with
          | nil => exact absurd e hcl
          | cons a l => simp
        obtain ⟨r, er, hr1⟩ := nat_of_mod c6 (m := (ps.getD x []).length) cl1
        have gn8 := (s7.trans s8).seq gn
        refine ⟨_, rfl, _, _, _, _, rfl, rfl, gn8, e6, _, rfl, _, rfl, _, _, _, _, rfl, rfl, SqL.of hm8, atx, _, _, rfl, .inl (SqL.of hb8), _, _, rfl, rfl, (by rw [vS_len]; omega), ?_⟩
        rw [vS_len]
        dsimp only
        rw [er]
        have hu := List.getElem_mem hr1
        have ar : atI (vS (ps.getD x [])) (r : Int) = some (.str (tx (ps.getD x [])[r])) := atI_of (by omega) (by rw [Int.toNat_natCast]; exact vS_get (List.getElem?_eq_getElem hr1))
        refine ⟨_, rfl, _, rfl, _, _, _, _, rfl, rfl, SqL.of hm8, atx, _, rfl, _, _, _, _, rfl, rfl, SqL.of hb8, ar, _, rfl, _, rfl, _, _, _, _, rfl, rfl, gn8, e7, _, rfl, _, _, _, _, rfl, rfl, gn8, e4, c4, rfl, fun c hc => ?_⟩
        refine ⟨_, f, c7, c, rfl, hl2 x _ hu, hc, fun u' lu' nu' => ?_⟩
        refine ⟨_, rfl, _, rfl, _, _, _, _, rfl, rfl, SqL.of hm8, atx, _, rfl, _, _, _, _, rfl, rfl, hb8, ixN_of (by omega) (by rw [vS_len]; omega), ?_⟩
        rw [Int.toNat_natCast, vS_set]
        have C9 := (C7.same s8).put gx ((ps.getD x []).set r u')
        have nlb : lm ≠ bs[x] := fun z => by
          have h2 := (hB.h x _ gx).1
          rw [← z, nlm] at h2
          cases h2
        refine ⟨_, rfl, k lm bs _ _ ((s7.trans s8).over nb) (by rw [upd_ne nlb]; exact hm8) C9.pcs (by rw [List.length_set]) (set_small hl2 hx fun v hv => ?_) (fun z => absurd z (by omega)) fun _ => bad_set hx fun z => ?_⟩
        · rcases List.mem_or_eq_of_mem_set hv with h | h
          · exact Nat.le_trans (hl2 x v h) (by decide)
          · rw [h]; exact lu'
        · have h1 := z.2 u' (List.mem_iff_getElem.mpr ⟨r, by rw [List.length_set]; exact hr1, by simp⟩)
          have h2 := (F2 _ hu).1
          exact nu' ⟨by rw [h1.1, h2], h1.2⟩
    · rintro H8 ⟨s8, f7⟩
      obtain ⟨F, o1, oz⟩ := hin f7
      obtain ⟨F1, F2⟩ := F x hx
      have hb8 := s8 _ _ hb7
      have hm8 := s8 _ _ hm7
      have gE := (s7.trans s8).seq hE
      have ce : es.count (x : Int) ≤ 41 := Nat.le_trans (List.count_le_length ..) el
      have g41 := hl1 x
      refine ⟨_, rfl, _, rfl, _, _, _, _, rfl, rfl, SqL.of hm8, atx, .inl ⟨rfl, _, SqL.of hb8⟩, ?_⟩
      refine ⟨_, rfl, .inl ⟨rfl, _, gE⟩, _, rfl, _, _, _, rfl, rfl, gE, ?_⟩
      refine ⟨[35], _, (congrArg V.str (by decide +kernel)), rfl, (by omega), (by omega), (by rw [Int.toNat_natCast, List.length_singleton]; omega), ?_⟩
      rw [Int.toNat_natCast]
      have lv : ((List.replicate (es.count (x : Int)) [35]).flatten : List Nat).length = es.count (x : Int) := by simp
      generalize ((List.replicate (es.count (x : Int)) [35]).flatten : List Nat) = v at lv ⊢
      refine ⟨_, _, _, rfl, rfl, hb8, (by rw [vS_len]; omega), ?_⟩
      rw [vS_app]
      have C9 := (C7.same s8).put gx (ps.getD x [] ++ [v])
      have nlb : lm ≠ bs[x] := fun z => by
        have h2 := (hB.h x _ gx).1
        rw [← z, nlm] at h2
        cases h2
      refine ⟨_, rfl, k lm bs _ _ ((s7.trans s8).over nb) (by rw [upd_ne nlb]; exact hm8) C9.pcs (by rw [List.length_set]) (set_small hl2 hx fun u hu => ?_) (fun z => absurd z (by omega)) fun _ => bad_set hx fun z => ?_⟩
      · rcases List.mem_append.mp hu with h | h
        · exact Nat.le_trans (hl2 x u h) (by decide)
        · rw [List.mem_singleton.mp h, lv]; omega
      · have := z.1
        rw [List.length_append, F1, List.length_singleton] at this
        omega
end
end Mine

set_option Elab.async false
set_option linter.all false
set_option maxRecDepth 100000
set_option maxHeartbeats 4000000
namespace Mine
open PySem L2
section
variable {P : Program} {w : World} {K : PySem.W.Frag} {mg : Str → Option Value} {base : Heap} {t : Adr}
theorem by_restIp {G : Prop} {R : Int → Prop} (C : Int → Prop) (main : (∀ z, C z → R z) → G) (rest : ∀ z, C z → R z) : G := main rest
theorem by_restL {G : Prop} {R : Addr → List Int → Hp → Prop} (C : Addr → List Int → Hp → Prop) (main : (∀ a l H, C a l H → R a l H) → G) (rest : ∀ a l H, C a l H → R a l H) : G := main rest
theorem no0 {y : Nat} {zs : List Int} (h : zs.length = 0) : ¬ OwOk zs y := fun z => by have := z.1; omega
theorem no41 {y : Nat} {zs : List Int} (h : zs.length = 41) : ¬ OwOk zs y := fun z => by have := z.2.1; omega
theorem two_at {z : Int} (h : z = 0 ∨ z = 1) : ∃ n : Nat, atI [V.int 0, V.int 41] z = some (.int (n : Int)) ∧ (n = 0 ∨ n = 41) := by
  rcases h with h | h <;> subst h
  · exact ⟨0, rfl, .inl rfl⟩
  · exact ⟨41, rfl, .inr rfl⟩
theorem fit_small {ps : List (List (List Nat))} {es os : List Int} (F : Fit ps es os) (el : es.length ≤ 41) (ol : os.length ≤ 41) : (∀ i, (ps.getD i []).length ≤ 41) ∧ ∀ i, ∀ u ∈ ps.getD i [], u.length ≤ 41 := by
  have out : ∀ i, ¬ i < ps.length → ps.getD i [] = [] := fun i h => by rw [List.getD_eq_getElem?_getD, List.getElem?_eq_none (by omega)]; rfl
  refine ⟨fun i => ?_, fun i u hu => ?_⟩
  · by_cases h : i < ps.length
    · rw [(F i h).1]; exact Nat.le_trans (List.count_le_length ..) ol
    · rw [out i h]; simp
  · by_cases h : i < ps.length
    · rw [((F i h).2 u hu).1]; exact Nat.le_trans (List.count_le_length ..) el
    · rw [out i h] at hu; simp at hu
def sp_law (K : PySem.W.Frag) : Sp := fun vs H Q _ => ∃ (a : Addr) (ns : List Int), vs = [.ref a] ∧ SqL K H a (vI ns) ∧ ns.length ≤ 63 ∧ ∀ H', Q (.bl true) H'
theorem sp_law_holds {K : PySem.W.Frag} {H : Hp} {a : Addr} {ns : List Int} (hl : ns.length ≤ 63) (hS : SqL K H a (ns.map V.int)) : sp_law K [.ref a] H (fun v _ => v = .bl true) fun _ _ _ => False := ⟨a, ns, rfl, hS, hl, fun _ => rfl⟩
theorem ok_law (T : Txt K mg t) : FnOk P w K mg base CX0 4 t.f_law t.d_law ["script"] (sp_law K) := by
  have G_law_numbers : FnOk P w K mg base CX0 1 t.f_law_numbers t.d_law_numbers _ _ := ok_law_numbers T
  have G_law_owners : FnOk P w K mg base CX0 1 t.f_law_owners t.d_law_owners _ _ := ok_law_owners T
  have G_law_fitting : FnOk P w K mg base CX0 2 t.f_law_fitting t.d_law_fitting _ _ := ok_law_fitting T
  have G_law_spoilt_pieces : FnOk P w K mg base CX0 2 t.f_law_spoilt_pieces t.d_law_spoilt_pieces _ _ := ok_law_spoilt_pieces T
  have G_law_spoilt_owners : FnOk P w K mg base CX0 1 t.f_law_spoilt_owners t.d_law_spoilt_owners _ _ := ok_law_spoilt_owners T
  have G_law_refused : FnOk P w K mg base CX0 3 t.f_law_refused t.d_law_refused _ _ := ok_law_refused T
  have G_laid_together : FnOk P w K mg base (CX1 P w) 2 t.f_laid_together t.d_laid_together _ _ := okx_laid_together T
  refine T.law.F.ok sc_law (fun vs H Q E h => ?_) (fun cdv A outer s H vs Q E hr h => ?_)
  · obtain ⟨a, ns, rfl, _⟩ := h
    rfl
  · obtain ⟨a, ns, rfl, hS, hl, k⟩ := h
    have hsz : sizeLine = 16777216 := sizeLine_eq
    refine ⟨_, (pss_cons (ps_set (i := 1) sc_law.nd rfl (Or.inl rfl) (pe_call (G_law_numbers.mono (by decide)) hr rfl T.law_numbers.m T.law_numbers.F.kp T.law_numbers.b .nil pass0 (pa_cons (pv 0) (pa_cons pe_int pa_nil))))
      (pss_cons (ps_set (i := 2) sc_law.nd rfl (Or.inl rfl) (pe_op op_mod (pe_ix (ix_listK (K := K)) (pv 1) pe_int (fun _ _ => rfl)) pe_int))
      (pss_cons (ps_set (i := 3) sc_law.nd rfl (Or.inl rfl) (pe_op op_add pe_int (pe_op op_mod (pe_ix (ix_listK (K := K)) (pv 1) pe_int (fun _ _ => rfl)) pe_int)))
      (pss_cons (ps_set (i := 4) sc_law.nd rfl (Or.inl rfl) (pe_call (G_law_owners.mono (by decide)) hr rfl T.law_owners.m T.law_owners.F.kp T.law_owners.b .nil pass0 (pa_cons (pv 1) (pa_cons pe_int (pa_cons (pe_op op_add pe_int (pe_op op_mod (pe_ix (ix_listK (K := K)) (pv 1) pe_int (fun _ _ => rfl)) pe_int)) (pa_cons (pv 3) pa_nil))))))
      (pss_cons (ps_set (i := 5) sc_law.nd rfl (Or.inl rfl) (pe_call (G_law_owners.mono (by decide)) hr rfl T.law_owners.m T.law_owners.F.kp T.law_owners.b .nil pass0 (pa_cons (pv 1) (pa_cons pe_int (pa_cons (pe_op op_add pe_int (pe_op op_mod (pe_ix (ix_listK (K := K)) (pv 1) pe_int (fun _ _ => rfl)) pe_int)) (pa_cons (pv 3) pa_nil))))))
      (pss_cons (ps_set (i := 6) sc_law.nd rfl (Or.inl rfl) (pe_call (G_law_fitting.mono (by decide)) hr rfl T.law_fitting.m T.law_fitting.F.kp T.law_fitting.b .nil pass0 (pa_cons (pv 1) (pa_cons (pv 4) (pa_cons (pv 5) (pa_cons (pv 3) pa_nil))))))
      (pss_cons (ps_set (i := 7) sc_law.nd rfl (Or.inl rfl) (pe_op op_mod (pe_ix (ix_listK (K := K)) (pv 1) pe_int (fun _ _ => rfl)) pe_int))
      (pss_cons (ps_if (pt_cmpR op_eq (pe_op op_mod (pe_ix (ix_listK (K := K)) (pv 1) pe_int (fun _ _ => rfl)) pe_int) pe_int (nomark _))
        (pss_one (ps_set (i := 7) sc_law.nd rfl (Or.inl rfl) (pe_op op_add (pe_op op_mul (pe_ix (ix_listK (K := K)) (pv 1) pe_int (fun _ _ => rfl)) (pe_op op_pow pe_int pe_int)) (pe_ix (ix_listK (K := K)) (pv 1) pe_int (fun _ _ => rfl)))))
        pss_nil)
      (pss_cons (ps_set (i := 8) sc_law.nd rfl (Or.inl rfl) (pe_callTy (call_list_ofK (K := K)) rfl T.b_list bt_list (pa_cons (pv 4) pa_nil)))
      (pss_cons (ps_set (i := 9) sc_law.nd rfl (Or.inl rfl) (pe_callTy (call_list_ofK (K := K)) rfl T.b_list bt_list (pa_cons (pv 5) pa_nil)))
      (pss_cons (ps_if (PW.pt (pw_or (pt_cmpR op_eq (pv 2) pe_int (nomark _)) (pw_or1 (pt_cmpR op_eq (pv 2) pe_int (nomark _)))))
        (pss_one (ps_set (i := 8) sc_law.nd rfl (Or.inl rfl) (pe_call (G_law_owners.mono (by decide)) hr rfl T.law_owners.m T.law_owners.F.kp T.law_owners.b .nil pass0 (pa_cons (pv 1) (pa_cons pe_int (pa_cons (pe_ix (ix_listK (K := K)) (pe_lst (pa_cons pe_int (pa_cons pe_int pa_nil))) (pe_op op_fdiv (pv 2) pe_int) (fun _ _ => rfl)) (pa_cons (pv 3) pa_nil)))))))
        pss_nil)
      (pss_cons (ps_if (PW.pt (pw_or (pt_cmpR op_eq (pv 2) pe_int (nomark _)) (pw_or1 (pt_cmpR op_eq (pv 2) pe_int (nomark _)))))
        (pss_one (ps_set (i := 9) sc_law.nd rfl (Or.inl rfl) (pe_call (G_law_owners.mono (by decide)) hr rfl T.law_owners.m T.law_owners.F.kp T.law_owners.b .nil pass0 (pa_cons (pv 1) (pa_cons pe_int (pa_cons (pe_ix (ix_listK (K := K)) (pe_lst (pa_cons pe_int (pa_cons pe_int pa_nil))) (pe_op op_fdiv (pv 2) pe_int) (fun _ _ => rfl)) (pa_cons (pv 3) pa_nil)))))))
        pss_nil)
      (pss_cons (ps_set (i := 10) sc_law.nd rfl (Or.inl rfl) (pe_call (G_law_spoilt_pieces.mono (by decide)) hr rfl T.law_spoilt_pieces.m T.law_spoilt_pieces.F.kp T.law_spoilt_pieces.b .nil pass0 (pa_cons (pe_call (G_law_fitting.mono (by decide)) hr rfl T.law_fitting.m T.law_fitting.F.kp T.law_fitting.b .nil pass0 (pa_cons (pv 1) (pa_cons (pv 8) (pa_cons (pv 9) (pa_cons (pv 3) pa_nil))))) (pa_cons (pv 2) (pa_cons (pv 1) (pa_cons (pv 4) pa_nil))))))
      (pss_cons (ps_if (pt_cmpR op_eq (pv 2) pe_int (nomark _))
        (pss_one (ps_set (i := 8) sc_law.nd rfl (Or.inl rfl) (pe_call (G_law_spoilt_owners.mono (by decide)) hr rfl T.law_spoilt_owners.m T.law_spoilt_owners.F.kp T.law_spoilt_owners.b .nil pass0 (pa_cons (pv 4) (pa_cons (pv 3) (pa_cons (pv 1) (pa_cons (pv 7) pa_nil)))))))
        pss_nil)
      (pss_cons (ps_if (pt_cmpR op_eq (pv 2) pe_int (nomark _))
        (pss_one (ps_set (i := 9) sc_law.nd rfl (Or.inl rfl) (pe_call (G_law_spoilt_owners.mono (by decide)) hr rfl T.law_spoilt_owners.m T.law_spoilt_owners.F.kp T.law_spoilt_owners.b .nil pass0 (pa_cons (pv 5) (pa_cons (pv 3) (pa_cons (pv 1) (pa_cons (pv 7) pa_nil)))))))
        pss_nil)
      (pss_cons (ps_setC (i := 11) (CompOk.mk (caps := []) (Nc := ["piece"]) rfl (by decide +kernel) (by decide +kernel) (comp_fr (sc0 := defScope s_law) rfl (by decide +kernel)) rfl rfl rfl (by decide +kernel) (fun _ _ h => by simp at h)) rfl sc_law.nd rfl rfl (pi_listK (K := K) (pv 10)) (fun _ _ _ _ _ => .nil) (fun _ _ _ _ _ => (pe_callTy (call_list_ofK (K := K)) rfl T.b_list bt_list (pa_cons (pv 0) pa_nil))) rfl)
      (pss_cons (ps_set (i := 12) sc_law.nd rfl (Or.inl rfl) (pe_lst (pa_cons (pe_callTy (call_list_ofK (K := K)) rfl T.b_list bt_list (pa_cons (pv 8) pa_nil)) (pa_cons (pe_callTy (call_list_ofK (K := K)) rfl T.b_list bt_list (pa_cons (pv 9) pa_nil)) pa_nil))))
      (pss_cons (ps_if (pt_cmpR op_ne (pe_call (G_law_refused.mono (by decide)) hr rfl T.law_refused.m T.law_refused.F.kp T.law_refused.b .nil pass0 (pa_cons (pv 10) (pa_cons (pe_ix (ix_listK (K := K)) (pv 12) pe_int (fun _ _ => rfl)) (pa_cons (pe_ix (ix_listK (K := K)) (pv 12) pe_int (fun _ _ => rfl)) pa_nil)))) (pe_cmpR op_gt (pv 2) pe_int (nomark _)) (nomark _))
        (pss_one (ps_ret pe_bl))
        pss_nil)
      (pss_cons (ps_if (PW.pt (pw_or (pt_cmpR (op_neLL (K := K) (hr.units100)) (pv 10) (pv 11) (nomark _)) (pw_or1 (pt_cmpR (op_neLL (K := K) (hr.units100)) (pv 12) (pe_lst (pa_cons (pv 8) (pa_cons (pv 9) pa_nil))) (nomark _)))))
        (pss_one (ps_ret pe_bl))
        pss_nil)
      (pss_cons (ps_set (i := 13) sc_law.nd rfl (Or.inl rfl) (pe_call (G_laid_together.mono (by decide)) hr rfl T.laid_together.m T.laid_together.F.kp T.laid_together.b .nil passF (pa_cons (pv 6) (pa_cons (pv 4) (pa_cons (pv 5) pa_nil)))))
      (pss_cons (ps_if (PW.pt (pw_or (pt_not (pt_val (pe_callB (call_isiK (K := K)) rfl T.b_isinstance bt_isinstance (pa_cons (pv 13) (pa_cons (pe_bltn (v := .ty "list") rfl T.b_list bt_list rfl) pa_nil))))) (pw_or1 (pt_cmpR op_ne (pe_callB (call_len_seqK (K := K)) rfl T.b_len bt_len (pa_cons (pv 13) pa_nil)) (pe_callB (call_len_seqK (K := K)) rfl T.b_len bt_len (pa_cons (pv 5) pa_nil)) (nomark _)))))
        (pss_one (ps_ret pe_bl))
        pss_nil)
      (pss_one (ps_ret (pe_cmpR op_eq (pe_call (G_law_refused.mono (by decide)) hr rfl T.law_refused.m T.law_refused.F.kp T.law_refused.b .nil pass0 (pa_cons (pv 10) (pa_cons (pv 8) (pa_cons (pv 9) pa_nil)))) (pe_cmpR op_gt (pv 2) pe_int (nomark _)) (nomark _))))))))))))))))))))))))), ?_⟩
    refine ⟨_, rfl, a, ns, 63, rfl, hS, hl, by decide, by decide, fun ln ks H1 s1 nln hln hN => ?_⟩
    obtain ⟨c0, e0, _⟩ := hN.at (i := 0) (by decide) (by decide)
    obtain ⟨c1, e1, _⟩ := hN.at (i := 1) (by decide) (by decide)
    obtain ⟨c2, e2, _⟩ := hN.at (i := 2) (by decide) (by decide)
    obtain ⟨c3, e3, _⟩ := hN.at (i := 3) (by decide) (by decide)
    obtain ⟨c4, e4, c40, c41⟩ := hN.at (i := 4) (by decide) (by decide)
    obtain ⟨c7, e7, c70, c71⟩ := hN.at (i := 7) (by decide) (by decide)
    have gn : SqL K H1 ln (vI ks) := SqL.of hln
    obtain ⟨y, ey, y1, y4⟩ := one_of c1 (z := 4) (by decide) (y := 4) (by decide)
    obtain ⟨m, em, m1, m5⟩ := one_of c2 (z := 5) (by decide) (y := 5) (by decide)
    obtain ⟨n, en, n1, n5⟩ := one_of c3 (z := 5) (by decide) (y := 5) (by decide)
    have f0 := Int.emod_nonneg c0 (show (12 : Int) ≠ 0 by decide)
    have f12 := Int.emod_lt_of_pos c0 (show (0 : Int) < 12 by decide)
    refine ⟨_, rfl, _, _, _, _, rfl, rfl, gn, e0, _, _, rfl, rfl, (by show (0 : Int) < 12; decide), ?_⟩
    dsimp only
    obtain ⟨f, ef⟩ : ∃ f : Int, f = c0 % 12 := ⟨_, rfl⟩
    rw [← ef] at f0 f12 ⊢
    refine ⟨_, rfl, _, _, _, _, rfl, rfl, gn, e1, _, _, rfl, rfl, (by show (0 : Int) < 4; decide), _, _, rfl, rfl, ?_⟩
    dsimp only
    rw [ey]
    refine ⟨_, rfl, _, rfl, _, _, _, _, rfl, rfl, gn, e2, _, _, rfl, rfl, (by show (0 : Int) < 5; decide), _, _, rfl, rfl, _, rfl, ?_⟩
    dsimp only
    rw [em]
    refine ⟨ln, ks, 0, m, y, rfl, gn, hN, by omega, y1, fun pe es H2 s2 npe hpe el ez => ?_⟩
    refine ⟨_, rfl, _, rfl, _, _, _, _, rfl, rfl, s2.seq gn, e3, _, _, rfl, rfl, (by show (0 : Int) < 5; decide), _, _, rfl, rfl, _, rfl, ?_⟩
    dsimp only
    rw [en]
    refine ⟨ln, ks, 1, n, y, rfl, s2.seq gn, hN, by omega, y1, fun po os H3 s3 npo hpo ol oz => ?_⟩
    have u3 := s2.trans s3
    have hpe3 := s3 _ _ hpe
    refine ⟨_, rfl, _, rfl, _, rfl, _, rfl, ln, pe, po, ks, es, os, y, rfl, u3.seq gn, hN, SqL.of hpe3, SqL.of hpo, by omega, by omega, by omega, fun lp as ps H4 s4 nlp hlp hA pl F => ?_⟩
    have OE : OwOk es y := ⟨by omega, by omega, ez⟩
    have OO : OwOk os y := ⟨by omega, by omega, oz⟩
    have W : AllOk ps es os := ⟨by rw [pl]; exact OE, by rw [pl]; exact OO, fun i hi => F i hi⟩
    have fs := fit_small F (by omega) (by omega)
    have gn4 := (u3.trans s4).seq gn
    have hpe4 := s4 _ _ hpe3
    have hpo4 := s4 _ _ hpo
    refine ⟨_, rfl, _, _, _, _, rfl, rfl, gn4, e4, _, _, rfl, rfl, (by show (0 : Int) < 4; decide), ?_⟩
    apply by_restIp (fun z => 0 ≤ z)
    · intro rest
      refine ⟨_, rfl, _, _, _, _, rfl, rfl, gn4, e7, _, _, rfl, rfl, (by show (0 : Int) < 2; decide), rfl, _, rfl, ?_⟩
      refine ite2D (fun _ => ?_) (fun _ => ?_)
      · refine ⟨_, rfl, _, _, _, _, rfl, rfl, gn4, e4, _, _, rfl, rfl, ⟨by decide, by decide, by decide⟩, _, _, rfl, rfl, .inl ⟨by omega, by omega⟩, _, rfl, _, _, _, _, rfl, rfl, gn4, e7, _, _, rfl, rfl, ?_⟩
        have g0 : 0 ≤ c4 * (10 : Int) ^ (54 : Int).toNat + c7 := by
          have := Int.mul_nonneg c40 (show (0 : Int) ≤ (10 : Int) ^ (54 : Int).toNat by decide)
          omega
        dsimp only
        generalize c4 * (10 : Int) ^ (54 : Int).toNat + c7 = z at g0 ⊢
        exact rest z g0
      · have g0 := Int.emod_nonneg c4 (show (4 : Int) ≠ 0 by decide)
        dsimp only
        generalize c4 % 4 = z at g0 ⊢
        exact rest z g0
    intro far far0
    show gName 7 _ [some (.ref a), some (.ref ln), some (.int f), some (.int (y : Int)), some (.ref pe), some (.ref po), some (.ref lp), _, none, none, none, none, none, none] _ _
    refine ⟨_, rfl, _, _, rfl, .inl (SqL.of hpe4), fun be0 nbe0 => ?_⟩
    have s5 : Same H4 (upd H4 be0 (.lst (vI es))) := .upd nbe0
    have hbe5 : (upd H4 be0 (.lst (vI es))) be0 = some (.lst (vI es)) := upd_same
    generalize upd H4 be0 (.lst (vI es)) = H5 at s5 hbe5 ⊢
    refine ⟨_, rfl, _, _, rfl, .inl (SqL.of (s5 _ _ hpo4)), fun bp0 nbp0 => ?_⟩
    have s6 : Same H5 (upd H5 bp0 (.lst (vI os))) := .upd nbp0
    have hbp6 : (upd H5 bp0 (.lst (vI os))) bp0 = some (.lst (vI os)) := upd_same
    generalize upd H5 bp0 (.lst (vI os)) = H6 at s6 hbp6 ⊢
    have hbe6 := s6 _ _ hbe5
    have v6 := s5.trans s6
    have gn6 : ∀ H', Same H6 H' → SqL K H' ln (vI ks) := fun H' s => ((u3.trans s4).trans (v6.trans s)).seq gn
    -- bad_ends
    apply by_restL (fun be es2 H7 => Same H6 H7 ∧ H7 be = some (.lst (vI es2)) ∧ es2.length ≤ 41 ∧ ((f ≠ 1 ∧ f ≠ 3) → es2 = es) ∧ (f = 1 ∨ f = 3 → ¬ OwOk es2 y))
    · intro rest
      by_cases hf : f = 1 ∨ f = 3
      · obtain ⟨q, eq, hq⟩ := two_at (z := f / 2) (by omega)
        apply by_rest0
        · intro go
          by_cases h1 : f = 1
          · refine ⟨_, rfl, rfl, _, rfl, ?_⟩
            exact iteDp (by rw [h1]) (iteT (go ()))
          · refine ⟨_, rfl, rfl, _, rfl, ?_⟩
            refine iteDn (fun z => h1 (by injection z)) ?_
            refine ⟨_, rfl, rfl, _, rfl, ?_⟩
            exact iteDp (by rw [show f = 3 by omega]) (go ())
        · refine ⟨_, rfl, (by show 2 ≤ sizeLine; decide), fun l2 n2 => ?_⟩
          have t7 : Same H6 (upd H6 l2 (.lst [.int 0, .int 41])) := .upd n2
          refine ⟨_, rfl, _, _, rfl, rfl, ⟨by decide, by decide⟩, _, _, _, _, rfl, rfl, SqL.of upd_same, eq, _, rfl, ?_⟩
          refine ⟨ln, ks, 0, q, y, rfl, gn6 _ t7, hN, by omega, y1, fun be es2 H7 s7 nbe hbe el2 ez2 => ?_⟩
          refine rest be es2 H7 ⟨t7.trans s7, hbe, by omega, fun z => absurd hf (by omega), fun _ => ?_⟩
          rcases hq with h | h
          · exact no0 (by omega)
          · exact no41 (by omega)
      · refine ⟨_, rfl, rfl, _, rfl, ?_⟩
        refine iteDn (fun z => hf (.inl (by injection z))) ?_
        refine ⟨_, rfl, rfl, _, rfl, ?_⟩
        refine iteDn (fun z => hf (.inr (by injection z))) ?_
        exact rest be0 es H6 ⟨.refl _, hbe6, by omega, fun _ => rfl, fun z => absurd z hf⟩
    rintro be es2 H7 ⟨s7, hbe7, el2, ea, eb⟩
    have hbp7 := s7 _ _ hbp6
    -- bad_picks
    apply by_restL (fun bp os2 H8 => Same H7 H8 ∧ H8 bp = some (.lst (vI os2)) ∧ os2.length ≤ 41 ∧ ((f ≠ 2 ∧ f ≠ 4) → os2 = os) ∧ (f = 2 ∨ f = 4 → ¬ OwOk os2 y))
    · intro rest
      by_cases hf : f = 2 ∨ f = 4
      · obtain ⟨q, eq, hq⟩ := two_at (z := f / 4) (by omega)
        apply by_rest0
        · intro go
          by_cases h1 : f = 2
          · refine ⟨_, rfl, rfl, _, rfl, ?_⟩
            exact iteDp (by rw [h1]) (iteT (go ()))
          · refine ⟨_, rfl, rfl, _, rfl, ?_⟩
            refine iteDn (fun z => h1 (by injection z)) ?_
            refine ⟨_, rfl, rfl, _, rfl, ?_⟩
            exact iteDp (by rw [show f = 4 by omega]) (go ())
        · refine ⟨_, rfl, (by show 2 ≤ sizeLine; decide), fun l2 n2 => ?_⟩
          have t8 : Same H7 (upd H7 l2 (.lst [.int 0, .int 41])) := .upd n2
          refine ⟨_, rfl, _, _, rfl, rfl, ⟨by decide, by decide⟩, _, _, _, _, rfl, rfl, SqL.of upd_same, eq, _, rfl, ?_⟩
          refine ⟨ln, ks, 1, q, y, rfl, gn6 _ (s7.trans t8), hN, by omega, y1, fun bp os2 H8 s8 nbp hbp ol2 oz2 => ?_⟩
          refine rest bp os2 H8 ⟨t8.trans s8, hbp, by omega, fun z => absurd hf (by omega), fun _ => ?_⟩
          rcases hq with h | h
          · exact no0 (by omega)
          · exact no41 (by omega)
      · refine ⟨_, rfl, rfl, _, rfl, ?_⟩
        refine iteDn (fun z => hf (.inl (by injection z))) ?_
        refine ⟨_, rfl, rfl, _, rfl, ?_⟩
        refine iteDn (fun z => hf (.inr (by injection z))) ?_
        exact rest bp0 os H7 ⟨.refl _, hbp7, by omega, fun _ => rfl, fun z => absurd z hf⟩
    rintro bp os2 H8 ⟨s8, hbp8, ol2, oa, ob⟩
    show gName 9 _ [some (.ref a), some (.ref ln), some (.int f), some (.int (y : Int)), some (.ref pe), some (.ref po), some (.ref lp), some (.int far), some (.ref be), _, none, none, none, none] _ _
    have hbe8 := s8 _ _ hbe7
    have s78 := s7.trans s8
    -- bad
    refine ⟨_, rfl, _, rfl, _, rfl, _, rfl, ln, be, bp, ks, es2, os2, y, rfl, gn6 _ s78, hN, SqL.of hbe8, SqL.of hbp8, el2, ol2, by omega, fun lq as2 ps2 H9 s9 nlq hlq hA2 pl2 F2 => ?_⟩
    have s79 := s78.trans s9
    obtain ⟨fb1, fb2⟩ := fit_small F2 el2 ol2
    have hpe9 := (v6.trans s79) _ _ hpe4
    have hin : SpIn f ps2 es os := fun h => by
      have h1 := ea (by omega)
      have h2 := oa (by omega)
      rw [h1, h2] at F2
      exact ⟨F2, by omega, by rw [pl2]; exact oz⟩
    refine ⟨_, rfl, _, rfl, _, rfl, lq, ln, pe, as2, ps2, ks, es, os, f, rfl, SqL.of hlq, hA2, gn6 _ s79, hN, SqL.of hpe9, by omega, by omega, by omega, fb1, fb2, hin, fun lb bs ps3 H10 s10 hlb hB pl3 hsm fa fb => ?_⟩
    have w10 := s79.trans s10
    have hbe10 := (s9.trans s10) _ _ hbe8
    have hbp10 := (s9.trans s10) _ _ hbp8
    have hpe10 := s10 _ _ hpe9
    have hpo10 := (v6.trans w10) _ _ hpo4
    apply by_restL (fun be3 es3 H11 => Same H10 H11 ∧ H11 be3 = some (.lst (vI es3)) ∧ es3.length ≤ 1000 ∧ (f ≠ 5 → es3 = es2) ∧ (f = 5 → ¬ OwOk es3 y))
    · intro rest
      refine ⟨_, rfl, rfl, _, rfl, ?_⟩
      refine ite2D (fun h => ?_) (fun h => ?_)
      · have h : f = 5 := by injection h
        refine ⟨_, rfl, _, rfl, _, rfl, _, rfl, pe, ln, es, ks, y, far, rfl, SqL.of hpe10, by omega, gn6 _ w10, hN, far0, fun l es3 H11 s11 hl3 le3 bad3 => ?_⟩
        exact rest l es3 H11 ⟨s11, hl3, le3, fun z => absurd h z, fun _ => bad3⟩
      · have h : f ≠ 5 := fun z => h (by rw [z])
        exact rest be es2 H10 ⟨.refl _, hbe10, by omega, fun _ => rfl, fun z => absurd z h⟩
    rintro be3 es3 H11 ⟨s11, hbe11, el3, ec, ed⟩
    have hbp11 := s11 _ _ hbp10
    apply by_restL (fun bp3 os3 H12 => Same H11 H12 ∧ H12 bp3 = some (.lst (vI os3)) ∧ os3.length ≤ 1000 ∧ (f ≠ 6 → os3 = os2) ∧ (f = 6 → ¬ OwOk os3 y))
    · intro rest
      refine ⟨_, rfl, rfl, _, rfl, ?_⟩
      refine ite2D (fun h => ?_) (fun h => ?_)
      · have h : f = 6 := by injection h
        refine ⟨_, rfl, _, rfl, _, rfl, _, rfl, po, ln, os, ks, y, far, rfl, SqL.of (s11 _ _ hpo10), by omega, gn6 _ (w10.trans s11), hN, far0, fun l os3 H12 s12 hl3 le3 bad3 => ?_⟩
        exact rest l os3 H12 ⟨s12, hl3, le3, fun z => absurd h z, fun _ => bad3⟩
      · have h : f ≠ 6 := fun z => h (by rw [z])
        exact rest bp os2 H11 ⟨.refl _, hbp11, by omega, fun _ => rfl, fun z => absurd z h⟩
    rintro bp3 os3 H12 ⟨s12, hbp12, ol3, oc, od⟩
    show gName 9 _ [some (.ref a), some (.ref ln), some (.int f), some (.int (y : Int)), some (.ref pe), some (.ref po), some (.ref lp), some (.int far), some (.ref be3), _, some (.ref lb), none, none, none] _ _
    have hbe12 := s12 _ _ hbe11
    have w12 := s11.trans s12
    have hlb12 := w12 _ _ hlb
    have hB12 := hB.same w12
    have key : decide (f > 0) = true ↔ ¬ AllOk ps3 es3 os3 := by
      rw [decide_eq_true_iff]
      refine ⟨fun h z => ?_, fun h => ?_⟩
      · obtain ⟨z1, z2, z3⟩ := z
        rw [pl3, pl2] at z1 z2
        by_cases h5 : f = 5
        · exact ed h5 z1
        by_cases h6 : f = 6
        · exact od h6 z2
        have q1 := ec h5
        have q2 := oc h6
        by_cases h1 : f = 1 ∨ f = 3
        · rw [q1] at z1; exact eb h1 z1
        by_cases h2 : f = 2 ∨ f = 4
        · rw [q2] at z2; exact ob h2 z2
        have q3 := ea (by omega)
        have q4 := oa (by omega)
        refine fb (by omega) ⟨?_, ?_, ?_⟩
        · rw [pl3, pl2, ← q3, ← q1]; exact z1
        · rw [pl3, pl2, ← q4, ← q2]; exact z2
        · rw [← q3, ← q4, ← q1, ← q2]; exact z3
      · refine Classical.byContradiction fun hn => h ?_
        have f0 : f = 0 := by omega
        have q1 := ec (by omega)
        have q2 := oc (by omega)
        have q3 := ea (by omega)
        have q4 := oa (by omega)
        have q5 := fa (by omega)
        rw [q1, q2, q3, q4, q5]
        rw [q3, q4] at F2
        exact ⟨by rw [pl2]; exact OE, by rw [pl2]; exact OO, fun i hi => F2 i hi⟩
    -- kept
    have ml : (bs.map V.ref).length = ps3.length := by rw [List.length_map, hB.1]
    refine ⟨_, rfl, _, rfl, ⟨_, SqL.of hlb12⟩, comp_list (K := K) (a := lb) (xs := bs.map V.ref) (fun i ys H6 => Same H12 H6 ∧ ∃ ds : List Addr, ys = ds.map V.ref ∧ ds.length = i ∧ ∀ j b, ds[j]? = some b → SqL K H6 b (vS (ps3.getD j []))) ⟨.refl _, [], rfl, rfl, fun j b h => by simp at h⟩ ?_ ?_ ?_ ?_⟩
    · rintro i ys H6 hi ⟨s6, ds, rfl, dl, _⟩
      exact ⟨SqL.of (s6 _ _ hlb12), by rw [List.length_map, dl]; exact Nat.le_refl _⟩
    · omega
    · rintro i x ys H6 hi hx ⟨s6, ds, rfl, dl, hD⟩
      obtain ⟨c, hc, rfl⟩ := refs_got hx
      refine CTurn.no ?_
      refine ⟨_, rfl, _, _, rfl, .inl (s6.seq (hB12.2 i c hc)), fun l hl => ?_⟩
      refine CN.of hi ⟨s6.new hl, ds ++ [l], by rw [List.map_append]; rfl, by rw [List.length_append, dl]; rfl, fun j b hb => ?_⟩
      by_cases hj : j < ds.length
      · rw [List.getElem?_append_left hj] at hb
        exact (Same.upd hl).seq (hD j b hb)
      · have hlt := (List.getElem?_eq_some_iff.mp hb).1
        rw [List.length_append] at hlt
        have hlt : j < ds.length + 1 := hlt
        have e : j = ds.length := by omega
        subst e
        rw [List.getElem?_append_right (Nat.le_refl _), Nat.sub_self] at hb
        cases hb
        rw [dl]
        exact SqL.of upd_same
    rintro ys H13' lk ⟨s13', ds, rfl, dl, hD⟩ nlk
    have s13'' : Same H13' (upd H13' lk (.lst (ds.map V.ref))) := .upd nlk
    have hk13 : (upd H13' lk (.lst (ds.map V.ref))) lk = some (.lst (ds.map V.ref)) := upd_same
    generalize upd H13' lk (.lst (ds.map V.ref)) = H13 at s13'' hk13 ⊢
    have s13 := s13'.trans s13''
    have hD13 : ∀ j b, ds[j]? = some b → SqL K H13 b (vS (ps3.getD j [])) := fun j b hb => s13''.seq (hD j b hb)
    -- handed
    refine ⟨_, rfl, _, _, rfl, .inl (SqL.of (s13 _ _ hbe12)), fun l1 nl1 => ?_⟩
    have s14 : Same H13 (upd H13 l1 (.lst (vI es3))) := .upd nl1
    have h114 : (upd H13 l1 (.lst (vI es3))) l1 = some (.lst (vI es3)) := upd_same
    generalize upd H13 l1 (.lst (vI es3)) = H14 at s14 h114 ⊢
    refine ⟨_, rfl, _, _, rfl, .inl (SqL.of ((s13.trans s14) _ _ hbp12)), fun l2 nl2 => ?_⟩
    have s15 : Same H14 (upd H14 l2 (.lst (vI os3))) := .upd nl2
    have h215 : (upd H14 l2 (.lst (vI os3))) l2 = some (.lst (vI os3)) := upd_same
    generalize upd H14 l2 (.lst (vI os3)) = H15 at s15 h215 ⊢
    refine ⟨(by show 2 ≤ sizeLine; decide), fun lo nlo => ?_⟩
    have s16 : Same H15 (upd H15 lo (.lst [.ref l1, .ref l2])) := .upd nlo
    have ho16 : (upd H15 lo (.lst [.ref l1, .ref l2])) lo = some (.lst [.ref l1, .ref l2]) := upd_same
    generalize upd H15 lo (.lst [.ref l1, .ref l2]) = H16 at s16 ho16 ⊢
    have h116 := (s15.trans s16) _ _ h114
    have h216 := s16 _ _ h215
    have x16 := (s14.trans s15).trans s16
    have w16 := s13.trans x16
    have hlb16 := w16 _ _ hlb12
    have hB16 := hB12.same w16
    have hbe16 := w16 _ _ hbe12
    have hbp16 := w16 _ _ hbp12
    have hk16 := x16 _ _ hk13
    refine ⟨_, rfl, _, rfl, _, _, _, _, rfl, rfl, SqL.of ho16, atI_of (by decide) rfl, _, rfl, _, _, _, _, rfl, rfl, SqL.of ho16, atI_of (by decide) rfl, lb, l1, l2, bs, ps3, es3, os3, rfl, SqL.of hlb16, hB16, SqL.of h116, SqL.of h216, hsm, fun H17 b s17 hb => ?_⟩
    have eb1 : b = decide (f > 0) := by
      cases b with
      | true => exact (key.mpr (hb.mp rfl)).symm
      | false =>
        refine Eq.symm (Bool.eq_false_iff.mpr fun z => ?_)
        exact nomatch hb.mpr (key.mp z)
    refine ⟨_, rfl, _, _, rfl, rfl, rfl, _, rfl, ?_⟩
    refine iteNS (by rw [eb1]) ?_
    refine ⟨_, rfl, _, rfl, lb, lk, rfl, rfl, ⟨bs, ds, SqL.of (s17 _ _ hlb16), SqL.of (s17 _ _ hk16), by rw [hB.1, dl, ml], fun i b a hb ha => ⟨_, vS_flat _, s17.seq (hB16.2 i b hb), (x16.trans s17).seq (hD13 i a ha)⟩⟩, _, rfl, ?_⟩
    refine iteF ?_
    refine ⟨_, rfl, _, rfl, _, rfl, (by show 2 ≤ sizeLine; decide), fun lz nlz => ?_⟩
    have s18 : Same H17 (upd H17 lz (.lst [.ref be3, .ref bp3])) := .upd nlz
    have hz18 : (upd H17 lz (.lst [.ref be3, .ref bp3])) lz = some (.lst [.ref be3, .ref bp3]) := upd_same
    generalize upd H17 lz (.lst [.ref be3, .ref bp3]) = H18 at s18 hz18 ⊢
    have s178 := s17.trans s18
    refine ⟨lo, lz, rfl, rfl, ⟨[l1, l2], [be3, bp3], SqL.of (s178 _ _ ho16), SqL.of hz18, rfl, fun i b a hb ha => ?_⟩, _, rfl, ?_⟩
    · match i, hb, ha with
      | 0, hb, ha => cases hb; cases ha; exact ⟨vI es3, vI_flat _, SqL.of (s178 _ _ h116), SqL.of (s178 _ _ hbe16)⟩
      | 1, hb, ha => cases hb; cases ha; exact ⟨vI os3, vI_flat _, SqL.of (s178 _ _ h216), SqL.of (s178 _ _ hbp16)⟩
      | _ + 2, hb, ha => simp at hb
    refine iteF ?_
    have z18 : Same H4 H18 := v6.trans ((w10.trans w12).trans (w16.trans s178))
    have hpo18 := z18 _ _ hpo4
    refine ⟨_, rfl, _, rfl, _, rfl, lp, pe, po, as, ps, es, os, rfl, SqL.of (z18 _ _ hlp), hA.same z18, SqL.of (z18 _ _ hpe4), SqL.of hpo18, fun i u hu => Nat.le_trans (fs.2 i u hu) (by decide), fun _ lf H19 s19 nlf hlf => ?_, fun bad => absurd W bad⟩
    refine ⟨_, rfl, _, _, true, .lst hlf, .inl ⟨_, rfl, kit_same K _⟩, _, rfl, ?_⟩
    refine iteF ?_
    refine ⟨_, rfl, _, _, rfl, .inl (SqL.of hlf), _, rfl, _, _, rfl, .inl (SqL.of (s19 _ _ hpo18)), rfl, _, rfl, ?_⟩
    refine iteNS (by rw [vS_len, lay_len, vI_len]) ?_
    have s189 := s178.trans s19
    refine ⟨_, rfl, _, rfl, _, rfl, lb, be3, bp3, bs, ps3, es3, os3, rfl, SqL.of (s189 _ _ hlb16), hB16.same s189, SqL.of (s189 _ _ hbe16), SqL.of (s189 _ _ hbp16), hsm, fun H20 b2 s20 hb2 => ?_⟩
    have eb2 : b2 = decide (f > 0) := by
      cases b2 with
      | true => exact (key.mpr (hb2.mp rfl)).symm
      | false =>
        refine Eq.symm (Bool.eq_false_iff.mpr fun z => ?_)
        exact nomatch hb2.mpr (key.mp z)
    refine ⟨_, rfl, _, _, rfl, rfl, rfl, ?_⟩
    rw [decide_eq_true (by rw [eb2])]
    exact k _
end
end Mine

set_option Elab.async false
set_option linter.all false
set_option maxRecDepth 100000
set_option maxHeartbeats 4000000
namespace Mine
open PySem L2
theorem law_mk {P : Program} {w : World} {K : PySem.W.Frag} {h : Heap} {mg : Str → Option Value} {fa : Addr} {f_laid_together : Addr} {od_laid_together an_laid_together : Option Addr} {sl_laid_together : Array (Option Value)} {oc_laid_together kV_laid_together dc_laid_together pm_laid_together cd_laid_together ct_laid_together : Value}
    {f_check_owners : Addr} {od_check_owners an_check_owners : Option Addr} {sl_check_owners : Array (Option Value)} {oc_check_owners kV_check_owners dc_check_owners pm_check_owners cd_check_owners ct_check_owners : Value}
    {f_check_piece : Addr} {od_check_piece an_check_piece : Option Addr} {sl_check_piece : Array (Option Value)} {oc_check_piece kV_check_piece dc_check_piece pm_check_piece cd_check_piece ct_check_piece : Value}
    {f_places_within : Addr} {od_places_within an_places_within : Option Addr} {sl_places_within : Array (Option Value)} {oc_places_within kV_places_within dc_places_within pm_places_within cd_places_within ct_places_within : Value}
    {f_sign_at : Addr} {od_sign_at an_sign_at : Option Addr} {sl_sign_at : Array (Option Value)} {oc_sign_at kV_sign_at dc_sign_at pm_sign_at cd_sign_at ct_sign_at : Value}
    {f_law_numbers : Addr} {od_law_numbers an_law_numbers : Option Addr} {sl_law_numbers : Array (Option Value)} {oc_law_numbers kV_law_numbers dc_law_numbers pm_law_numbers cd_law_numbers ct_law_numbers : Value}
    {f_law_owners : Addr} {od_law_owners an_law_owners : Option Addr} {sl_law_owners : Array (Option Value)} {oc_law_owners kV_law_owners dc_law_owners pm_law_owners cd_law_owners ct_law_owners : Value}
    {f_law_piece : Addr} {od_law_piece an_law_piece : Option Addr} {sl_law_piece : Array (Option Value)} {oc_law_piece kV_law_piece dc_law_piece pm_law_piece cd_law_piece ct_law_piece : Value}
    {f_law_refused : Addr} {od_law_refused an_law_refused : Option Addr} {sl_law_refused : Array (Option Value)} {oc_law_refused kV_law_refused dc_law_refused pm_law_refused cd_law_refused ct_law_refused : Value}
    {f_law_odd_sign : Addr} {od_law_odd_sign an_law_odd_sign : Option Addr} {sl_law_odd_sign : Array (Option Value)} {oc_law_odd_sign kV_law_odd_sign dc_law_odd_sign pm_law_odd_sign cd_law_odd_sign ct_law_odd_sign : Value}
    {f_law_spoilt_text : Addr} {od_law_spoilt_text an_law_spoilt_text : Option Addr} {sl_law_spoilt_text : Array (Option Value)} {oc_law_spoilt_text kV_law_spoilt_text dc_law_spoilt_text pm_law_spoilt_text cd_law_spoilt_text ct_law_spoilt_text : Value}
    {f_law_spoilt_pieces : Addr} {od_law_spoilt_pieces an_law_spoilt_pieces : Option Addr} {sl_law_spoilt_pieces : Array (Option Value)} {oc_law_spoilt_pieces kV_law_spoilt_pieces dc_law_spoilt_pieces pm_law_spoilt_pieces cd_law_spoilt_pieces ct_law_spoilt_pieces : Value}
    {f_law_spoilt_owners : Addr} {od_law_spoilt_owners an_law_spoilt_owners : Option Addr} {sl_law_spoilt_owners : Array (Option Value)} {oc_law_spoilt_owners kV_law_spoilt_owners dc_law_spoilt_owners pm_law_spoilt_owners cd_law_spoilt_owners ct_law_spoilt_owners : Value}
    {f_law_fitting : Addr} {od_law_fitting an_law_fitting : Option Addr} {sl_law_fitting : Array (Option Value)} {oc_law_fitting kV_law_fitting dc_law_fitting pm_law_fitting cd_law_fitting ct_law_fitting : Value}
    {f_law : Addr} {od_law an_law : Option Addr} {sl_law : Array (Option Value)} {oc_law kV_law dc_law pm_law cd_law ct_law : Value}
    {q_MOST_STRANDS : Tok}
    {e_WeaveError : Addr}
    {e_NoRow : Addr}
    {e_TooLarge : Addr}
    {e_NoCloth : Addr}
    {e_NoDraft : Addr}
    {e_NoStrand : Addr}
    {e_NoDeed : Addr}
    {e_NoLaying : Addr}
    {e_NoShuttle : Addr}
    {e_NoColour : Addr}
    {e_NoBlock : Addr}
    {e_NoPattern : Addr}
    {e_Unknown : Addr}
    {e_Twice : Addr}
    {f_NoLaying_called : Addr} {od_NoLaying_called an_NoLaying_called : Option Addr} {sl_NoLaying_called : Array (Option Value)} {oc_NoLaying_called kV_NoLaying_called dc_NoLaying_called pm_NoLaying_called cd_NoLaying_called ct_NoLaying_called : Value}
    (X : K.In h) (G : h.Ns mainGlobals mg) (hfa : mg "law" = some (.ref fa))
    (a_laid_together : PySem.W.nsIn K mainGlobals "laid_together" = some (some (.ref f_laid_together)))
    (l_laid_together : K.lookup f_laid_together = some ⟨oc_laid_together, od_laid_together, .func (PySem.W.fnOf "laid_together" "laid_together" (defArgs s_laid_together) (defBody s_laid_together) (defScope s_laid_together) .none kV_laid_together dc_laid_together pm_laid_together an_laid_together cd_laid_together ct_laid_together), sl_laid_together⟩)
    (c_laid_together : PySem.W.codeIn K cd_laid_together "laid_together" = true)
    (k_laid_together : PySem.W.keepIn K (.ref f_laid_together) = true)
    (a_check_owners : PySem.W.nsIn K mainGlobals "check_owners" = some (some (.ref f_check_owners)))
    (l_check_owners : K.lookup f_check_owners = some ⟨oc_check_owners, od_check_owners, .func (PySem.W.fnOf "check_owners" "check_owners" (defArgs s_check_owners) (defBody s_check_owners) (defScope s_check_owners) .none kV_check_owners dc_check_owners pm_check_owners an_check_owners cd_check_owners ct_check_owners), sl_check_owners⟩)
    (c_check_owners : PySem.W.codeIn K cd_check_owners "check_owners" = true)
    (k_check_owners : PySem.W.keepIn K (.ref f_check_owners) = true)
    (a_check_piece : PySem.W.nsIn K mainGlobals "check_piece" = some (some (.ref f_check_piece)))
    (l_check_piece : K.lookup f_check_piece = some ⟨oc_check_piece, od_check_piece, .func (PySem.W.fnOf "check_piece" "check_piece" (defArgs s_check_piece) (defBody s_check_piece) (defScope s_check_piece) .none kV_check_piece dc_check_piece pm_check_piece an_check_piece cd_check_piece ct_check_piece), sl_check_piece⟩)
    (c_check_piece : PySem.W.codeIn K cd_check_piece "check_piece" = true)
    (k_check_piece : PySem.W.keepIn K (.ref f_check_piece) = true)
    (a_places_within : PySem.W.nsIn K mainGlobals "places_within" = some (some (.ref f_places_within)))
    (l_places_within : K.lookup f_places_within = some ⟨oc_places_within, od_places_within, .func (PySem.W.fnOf "places_within" "places_within" (defArgs s_places_within) (defBody s_places_within) (defScope s_places_within) .none kV_places_within dc_places_within pm_places_within an_places_within cd_places_within ct_places_within), sl_places_within⟩)
    (c_places_within : PySem.W.codeIn K cd_places_within "places_within" = true)
    (k_places_within : PySem.W.keepIn K (.ref f_places_within) = true)
    (a_sign_at : PySem.W.nsIn K mainGlobals "sign_at" = some (some (.ref f_sign_at)))
    (l_sign_at : K.lookup f_sign_at = some ⟨oc_sign_at, od_sign_at, .func (PySem.W.fnOf "sign_at" "sign_at" (defArgs s_sign_at) (defBody s_sign_at) (defScope s_sign_at) .none kV_sign_at dc_sign_at pm_sign_at an_sign_at cd_sign_at ct_sign_at), sl_sign_at⟩)
    (c_sign_at : PySem.W.codeIn K cd_sign_at "sign_at" = true)
    (k_sign_at : PySem.W.keepIn K (.ref f_sign_at) = true)
    (a_law_numbers : PySem.W.nsIn K mainGlobals "_law_numbers" = some (some (.ref f_law_numbers)))
    (l_law_numbers : K.lookup f_law_numbers = some ⟨oc_law_numbers, od_law_numbers, .func (PySem.W.fnOf "_law_numbers" "_law_numbers" (defArgs s_law_numbers) (defBody s_law_numbers) (defScope s_law_numbers) .none kV_law_numbers dc_law_numbers pm_law_numbers an_law_numbers cd_law_numbers ct_law_numbers), sl_law_numbers⟩)
    (c_law_numbers : PySem.W.codeIn K cd_law_numbers "_law_numbers" = true)
    (k_law_numbers : PySem.W.keepIn K (.ref f_law_numbers) = true)
    (a_law_owners : PySem.W.nsIn K mainGlobals "_law_owners" = some (some (.ref f_law_owners)))
    (l_law_owners : K.lookup f_law_owners = some ⟨oc_law_owners, od_law_owners, .func (PySem.W.fnOf "_law_owners" "_law_owners" (defArgs s_law_owners) (defBody s_law_owners) (defScope s_law_owners) .none kV_law_owners dc_law_owners pm_law_owners an_law_owners cd_law_owners ct_law_owners), sl_law_owners⟩)
    (c_law_owners : PySem.W.codeIn K cd_law_owners "_law_owners" = true)
    (k_law_owners : PySem.W.keepIn K (.ref f_law_owners) = true)
    (a_law_piece : PySem.W.nsIn K mainGlobals "_law_piece" = some (some (.ref f_law_piece)))
    (l_law_piece : K.lookup f_law_piece = some ⟨oc_law_piece, od_law_piece, .func (PySem.W.fnOf "_law_piece" "_law_piece" (defArgs s_law_piece) (defBody s_law_piece) (defScope s_law_piece) .none kV_law_piece dc_law_piece pm_law_piece an_law_piece cd_law_piece ct_law_piece), sl_law_piece⟩)
    (c_law_piece : PySem.W.codeIn K cd_law_piece "_law_piece" = true)
    (k_law_piece : PySem.W.keepIn K (.ref f_law_piece) = true)
    (a_law_refused : PySem.W.nsIn K mainGlobals "_law_refused" = some (some (.ref f_law_refused)))
    (l_law_refused : K.lookup f_law_refused = some ⟨oc_law_refused, od_law_refused, .func (PySem.W.fnOf "_law_refused" "_law_refused" (defArgs s_law_refused) (defBody s_law_refused) (defScope s_law_refused) .none kV_law_refused dc_law_refused pm_law_refused an_law_refused cd_law_refused ct_law_refused), sl_law_refused⟩)
    (c_law_refused : PySem.W.codeIn K cd_law_refused "_law_refused" = true)
    (k_law_refused : PySem.W.keepIn K (.ref f_law_refused) = true)
    (a_law_odd_sign : PySem.W.nsIn K mainGlobals "_law_odd_sign" = some (some (.ref f_law_odd_sign)))
    (l_law_odd_sign : K.lookup f_law_odd_sign = some ⟨oc_law_odd_sign, od_law_odd_sign, .func (PySem.W.fnOf "_law_odd_sign" "_law_odd_sign" (defArgs s_law_odd_sign) (defBody s_law_odd_sign) (defScope s_law_odd_sign) .none kV_law_odd_sign dc_law_odd_sign pm_law_odd_sign an_law_odd_sign cd_law_odd_sign ct_law_odd_sign), sl_law_odd_sign⟩)
    (c_law_odd_sign : PySem.W.codeIn K cd_law_odd_sign "_law_odd_sign" = true)
    (k_law_odd_sign : PySem.W.keepIn K (.ref f_law_odd_sign) = true)
    (a_law_spoilt_text : PySem.W.nsIn K mainGlobals "_law_spoilt_text" = some (some (.ref f_law_spoilt_text)))
    (l_law_spoilt_text : K.lookup f_law_spoilt_text = some ⟨oc_law_spoilt_text, od_law_spoilt_text, .func (PySem.W.fnOf "_law_spoilt_text" "_law_spoilt_text" (defArgs s_law_spoilt_text) (defBody s_law_spoilt_text) (defScope s_law_spoilt_text) .none kV_law_spoilt_text dc_law_spoilt_text pm_law_spoilt_text an_law_spoilt_text cd_law_spoilt_text ct_law_spoilt_text), sl_law_spoilt_text⟩)
    (c_law_spoilt_text : PySem.W.codeIn K cd_law_spoilt_text "_law_spoilt_text" = true)
    (k_law_spoilt_text : PySem.W.keepIn K (.ref f_law_spoilt_text) = true)
    (a_law_spoilt_pieces : PySem.W.nsIn K mainGlobals "_law_spoilt_pieces" = some (some (.ref f_law_spoilt_pieces)))
    (l_law_spoilt_pieces : K.lookup f_law_spoilt_pieces = some ⟨oc_law_spoilt_pieces, od_law_spoilt_pieces, .func (PySem.W.fnOf "_law_spoilt_pieces" "_law_spoilt_pieces" (defArgs s_law_spoilt_pieces) (defBody s_law_spoilt_pieces) (defScope s_law_spoilt_pieces) .none kV_law_spoilt_pieces dc_law_spoilt_pieces pm_law_spoilt_pieces an_law_spoilt_pieces cd_law_spoilt_pieces ct_law_spoilt_pieces), sl_law_spoilt_pieces⟩)
    (c_law_spoilt_pieces : PySem.W.codeIn K cd_law_spoilt_pieces "_law_spoilt_pieces" = true)
    (k_law_spoilt_pieces : PySem.W.keepIn K (.ref f_law_spoilt_pieces) = true)
    (a_law_spoilt_owners : PySem.W.nsIn K mainGlobals "_law_spoilt_owners" = some (some (.ref f_law_spoilt_owners)))
    (l_law_spoilt_owners : K.lookup f_law_spoilt_owners = some ⟨oc_law_spoilt_owners, od_law_spoilt_owners, .func (PySem.W.fnOf "_law_spoilt_owners" "_law_spoilt_owners" (defArgs s_law_spoilt_owners) (defBody s_law_spoilt_owners) (defScope s_law_spoilt_owners) .none kV_law_spoilt_owners dc_law_spoilt_owners pm_law_spoilt_owners an_law_spoilt_owners cd_law_spoilt_owners ct_law_spoilt_owners), sl_law_spoilt_owners⟩)
    (c_law_spoilt_owners : PySem.W.codeIn K cd_law_spoilt_owners "_law_spoilt_owners" = true)
    (k_law_spoilt_owners : PySem.W.keepIn K (.ref f_law_spoilt_owners) = true)
    (a_law_fitting : PySem.W.nsIn K mainGlobals "_law_fitting" = some (some (.ref f_law_fitting)))
    (l_law_fitting : K.lookup f_law_fitting = some ⟨oc_law_fitting, od_law_fitting, .func (PySem.W.fnOf "_law_fitting" "_law_fitting" (defArgs s_law_fitting) (defBody s_law_fitting) (defScope s_law_fitting) .none kV_law_fitting dc_law_fitting pm_law_fitting an_law_fitting cd_law_fitting ct_law_fitting), sl_law_fitting⟩)
    (c_law_fitting : PySem.W.codeIn K cd_law_fitting "_law_fitting" = true)
    (k_law_fitting : PySem.W.keepIn K (.ref f_law_fitting) = true)
    (a_law : PySem.W.nsIn K mainGlobals "law" = some (some (.ref f_law)))
    (l_law : K.lookup f_law = some ⟨oc_law, od_law, .func (PySem.W.fnOf "law" "law" (defArgs s_law) (defBody s_law) (defScope s_law) .none kV_law dc_law pm_law an_law cd_law ct_law), sl_law⟩)
    (c_law : PySem.W.codeIn K cd_law "law" = true)
    (k_law : PySem.W.keepIn K (.ref f_law) = true)
    (z_ValueError : PySem.W.nsIn K mainGlobals "ValueError" = some none)
    (z_enumerate : PySem.W.nsIn K mainGlobals "enumerate" = some none)
    (z_isinstance : PySem.W.nsIn K mainGlobals "isinstance" = some none)
    (z_len : PySem.W.nsIn K mainGlobals "len" = some none)
    (z_list : PySem.W.nsIn K mainGlobals "list" = some none)
    (z_range : PySem.W.nsIn K mainGlobals "range" = some none)
    (z_str : PySem.W.nsIn K mainGlobals "str" = some none)
    (z_zip : PySem.W.nsIn K mainGlobals "zip" = some none)
    (x_MOST_STRANDS : PySem.W.nsIn K mainGlobals "MOST_STRANDS" = some (some (.int 40 q_MOST_STRANDS)))
    (n_WeaveError : PySem.W.nsIn K mainGlobals "WeaveError" = some (some (.ref e_WeaveError)))
    (n_NoRow : PySem.W.nsIn K mainGlobals "NoRow" = some (some (.ref e_NoRow)))
    (n_TooLarge : PySem.W.nsIn K mainGlobals "TooLarge" = some (some (.ref e_TooLarge)))
    (n_NoCloth : PySem.W.nsIn K mainGlobals "NoCloth" = some (some (.ref e_NoCloth)))
    (n_NoDraft : PySem.W.nsIn K mainGlobals "NoDraft" = some (some (.ref e_NoDraft)))
    (n_NoStrand : PySem.W.nsIn K mainGlobals "NoStrand" = some (some (.ref e_NoStrand)))
    (n_NoDeed : PySem.W.nsIn K mainGlobals "NoDeed" = some (some (.ref e_NoDeed)))
    (n_NoLaying : PySem.W.nsIn K mainGlobals "NoLaying" = some (some (.ref e_NoLaying)))
    (n_NoShuttle : PySem.W.nsIn K mainGlobals "NoShuttle" = some (some (.ref e_NoShuttle)))
    (n_NoColour : PySem.W.nsIn K mainGlobals "NoColour" = some (some (.ref e_NoColour)))
    (n_NoBlock : PySem.W.nsIn K mainGlobals "NoBlock" = some (some (.ref e_NoBlock)))
    (n_NoPattern : PySem.W.nsIn K mainGlobals "NoPattern" = some (some (.ref e_NoPattern)))
    (n_Unknown : PySem.W.nsIn K mainGlobals "Unknown" = some (some (.ref e_Unknown)))
    (n_Twice : PySem.W.nsIn K mainGlobals "Twice" = some (some (.ref e_Twice)))
    (y1_WeaveError : PySem.W.excIn K e_WeaveError vE vN = true)
    (y2_WeaveError : PySem.W.findIn K (.ref e_WeaveError) "__getattribute__" = some (some (.builtin "BaseException.__getattribute__")))
    (y3_WeaveError : PySem.W.findIn K (.ref e_WeaveError) "__getattr__" = some none)
    (y4_WeaveError : PySem.W.findIn K (.ref e_WeaveError) "__class__" = some (some (.builtin "object.__class__")))
    (y5_WeaveError : PySem.W.specialIn K (.builtin "object.__class__") "__get__" = some (some (.builtin "getset_descriptor.__get__")))
    (y6_WeaveError : PySem.W.takesIn K (.builtin "object.__class__") = some true)
    (y7_WeaveError : PySem.W.mroIn K e_WeaveError (.type "object") = some true)
    (y8_WeaveError : PySem.W.mroIn K e_WeaveError (.type "BaseException") = some true)
    (y9_WeaveError : PySem.W.isClsIn K e_WeaveError = true)
    (y10_WeaveError : PySem.W.typeIn K (.ref e_WeaveError) = some (.type "type"))
    (y11_WeaveError : PySem.W.mroIn K e_WeaveError (.type "ValueError") = some true)
    (y9_NoRow : PySem.W.isClsIn K e_NoRow = true)
    (y10_NoRow : PySem.W.typeIn K (.ref e_NoRow) = some (.type "type"))
    (y9_TooLarge : PySem.W.isClsIn K e_TooLarge = true)
    (y10_TooLarge : PySem.W.typeIn K (.ref e_TooLarge) = some (.type "type"))
    (y9_NoCloth : PySem.W.isClsIn K e_NoCloth = true)
    (y10_NoCloth : PySem.W.typeIn K (.ref e_NoCloth) = some (.type "type"))
    (y9_NoDraft : PySem.W.isClsIn K e_NoDraft = true)
    (y10_NoDraft : PySem.W.typeIn K (.ref e_NoDraft) = some (.type "type"))
    (y9_NoStrand : PySem.W.isClsIn K e_NoStrand = true)
    (y10_NoStrand : PySem.W.typeIn K (.ref e_NoStrand) = some (.type "type"))
    (y9_NoDeed : PySem.W.isClsIn K e_NoDeed = true)
    (y10_NoDeed : PySem.W.typeIn K (.ref e_NoDeed) = some (.type "type"))
    (y1_NoLaying : PySem.W.excIn K e_NoLaying vE vN = true)
    (y2_NoLaying : PySem.W.findIn K (.ref e_NoLaying) "__getattribute__" = some (some (.builtin "BaseException.__getattribute__")))
    (y3_NoLaying : PySem.W.findIn K (.ref e_NoLaying) "__getattr__" = some none)
    (y4_NoLaying : PySem.W.findIn K (.ref e_NoLaying) "__class__" = some (some (.builtin "object.__class__")))
    (y7_NoLaying : PySem.W.mroIn K e_NoLaying (.type "object") = some true)
    (y8_NoLaying : PySem.W.mroIn K e_NoLaying (.type "BaseException") = some true)
    (y9_NoLaying : PySem.W.isClsIn K e_NoLaying = true)
    (y10_NoLaying : PySem.W.typeIn K (.ref e_NoLaying) = some (.type "type"))
    (y11_NoLaying : PySem.W.mroIn K e_NoLaying (.type "ValueError") = some true)
    (r_NoLaying_WeaveError : PySem.W.mroIn K e_NoLaying (.ref e_WeaveError) = some true)
    (r_NoLaying_NoRow : PySem.W.mroIn K e_NoLaying (.ref e_NoRow) = some false)
    (r_NoLaying_TooLarge : PySem.W.mroIn K e_NoLaying (.ref e_TooLarge) = some false)
    (r_NoLaying_NoCloth : PySem.W.mroIn K e_NoLaying (.ref e_NoCloth) = some false)
    (r_NoLaying_NoDraft : PySem.W.mroIn K e_NoLaying (.ref e_NoDraft) = some false)
    (r_NoLaying_NoStrand : PySem.W.mroIn K e_NoLaying (.ref e_NoStrand) = some false)
    (r_NoLaying_NoDeed : PySem.W.mroIn K e_NoLaying (.ref e_NoDeed) = some false)
    (r_NoLaying_NoLaying : PySem.W.mroIn K e_NoLaying (.ref e_NoLaying) = some true)
    (r_NoLaying_NoShuttle : PySem.W.mroIn K e_NoLaying (.ref e_NoShuttle) = some false)
    (r_NoLaying_NoColour : PySem.W.mroIn K e_NoLaying (.ref e_NoColour) = some false)
    (r_NoLaying_NoBlock : PySem.W.mroIn K e_NoLaying (.ref e_NoBlock) = some false)
    (r_NoLaying_NoPattern : PySem.W.mroIn K e_NoLaying (.ref e_NoPattern) = some false)
    (r_NoLaying_Unknown : PySem.W.mroIn K e_NoLaying (.ref e_Unknown) = some false)
    (r_NoLaying_Twice : PySem.W.mroIn K e_NoLaying (.ref e_Twice) = some false)
    (y9_NoShuttle : PySem.W.isClsIn K e_NoShuttle = true)
    (y10_NoShuttle : PySem.W.typeIn K (.ref e_NoShuttle) = some (.type "type"))
    (y9_NoColour : PySem.W.isClsIn K e_NoColour = true)
    (y10_NoColour : PySem.W.typeIn K (.ref e_NoColour) = some (.type "type"))
    (y9_NoBlock : PySem.W.isClsIn K e_NoBlock = true)
    (y10_NoBlock : PySem.W.typeIn K (.ref e_NoBlock) = some (.type "type"))
    (y9_NoPattern : PySem.W.isClsIn K e_NoPattern = true)
    (y10_NoPattern : PySem.W.typeIn K (.ref e_NoPattern) = some (.type "type"))
    (y9_Unknown : PySem.W.isClsIn K e_Unknown = true)
    (y10_Unknown : PySem.W.typeIn K (.ref e_Unknown) = some (.type "type"))
    (y9_Twice : PySem.W.isClsIn K e_Twice = true)
    (y10_Twice : PySem.W.typeIn K (.ref e_Twice) = some (.type "type"))
    (fm_NoLaying : PySem.W.findIn K (.ref e_NoLaying) "called" = some (some (.ref f_NoLaying_called)))
    (gm_NoLaying : PySem.W.isFn K (.ref f_NoLaying_called) = true)
    (lm_NoLaying : K.lookup f_NoLaying_called = some ⟨oc_NoLaying_called, od_NoLaying_called, .func (PySem.W.fnOf "called" "NoLaying.called" (defArgs s_NoLaying_called) (defBody s_NoLaying_called) (defScope s_NoLaying_called) .none kV_NoLaying_called dc_NoLaying_called pm_NoLaying_called an_NoLaying_called cd_NoLaying_called ct_NoLaying_called), sl_NoLaying_called⟩)
    (cm_NoLaying : PySem.W.codeIn K cd_NoLaying_called "NoLaying.called" = true)
    (km_NoLaying : PySem.W.keepIn K (.ref f_NoLaying_called) = true) :
    ∃ fd : FuncData, (∀ (s : Shared) (v : Value), BindsTo s fd ⟨[v], []⟩ [("script", v)]) ∧ ∀ base : Heap, K.In base → base.Ns mainGlobals mg → FnOk P w K mg base CX0 4 fa fd ["script"] (sp_law K) := by
  have e := hfa.symm.trans (PySem.W.mg_of X G a_law)
  cases e
  have T := txt_mk X G a_laid_together l_laid_together c_laid_together k_laid_together a_check_owners l_check_owners c_check_owners k_check_owners a_check_piece l_check_piece c_check_piece k_check_piece a_places_within l_places_within c_places_within k_places_within a_sign_at l_sign_at c_sign_at k_sign_at a_law_numbers l_law_numbers c_law_numbers k_law_numbers a_law_owners l_law_owners c_law_owners k_law_owners a_law_piece l_law_piece c_law_piece k_law_piece a_law_refused l_law_refused c_law_refused k_law_refused a_law_odd_sign l_law_odd_sign c_law_odd_sign k_law_odd_sign a_law_spoilt_text l_law_spoilt_text c_law_spoilt_text k_law_spoilt_text a_law_spoilt_pieces l_law_spoilt_pieces c_law_spoilt_pieces k_law_spoilt_pieces a_law_spoilt_owners l_law_spoilt_owners c_law_spoilt_owners k_law_spoilt_owners a_law_fitting l_law_fitting c_law_fitting k_law_fitting a_law l_law c_law k_law z_ValueError z_enumerate z_isinstance z_len z_list z_range z_str z_zip x_MOST_STRANDS n_WeaveError n_NoRow n_TooLarge n_NoCloth n_NoDraft n_NoStrand n_NoDeed n_NoLaying n_NoShuttle n_NoColour n_NoBlock n_NoPattern n_Unknown n_Twice y1_WeaveError y2_WeaveError y3_WeaveError y4_WeaveError y5_WeaveError y6_WeaveError y7_WeaveError y8_WeaveError y9_WeaveError y10_WeaveError y11_WeaveError y9_NoRow y10_NoRow y9_TooLarge y10_TooLarge y9_NoCloth y10_NoCloth y9_NoDraft y10_NoDraft y9_NoStrand y10_NoStrand y9_NoDeed y10_NoDeed y1_NoLaying y2_NoLaying y3_NoLaying y4_NoLaying y7_NoLaying y8_NoLaying y9_NoLaying y10_NoLaying y11_NoLaying r_NoLaying_WeaveError r_NoLaying_NoRow r_NoLaying_TooLarge r_NoLaying_NoCloth r_NoLaying_NoDraft r_NoLaying_NoStrand r_NoLaying_NoDeed r_NoLaying_NoLaying r_NoLaying_NoShuttle r_NoLaying_NoColour r_NoLaying_NoBlock r_NoLaying_NoPattern r_NoLaying_Unknown r_NoLaying_Twice y9_NoShuttle y10_NoShuttle y9_NoColour y10_NoColour y9_NoBlock y10_NoBlock y9_NoPattern y10_NoPattern y9_Unknown y10_Unknown y9_Twice y10_Twice fm_NoLaying gm_NoLaying lm_NoLaying cm_NoLaying km_NoLaying
  exact ⟨_, fun s v => .of_eq rfl, fun base _ _ => ok_law T⟩
end Mine
open PySem PySem.W PyProof.Rows
def PySem.W.Fast.tw9334225166286123337 := ()
def PySem.W.Fast.tw7423711732561205543 := ()
def PySem.W.Fast.tw6936894186121267651 := ()
def PySem.W.Fast.tw17830208325404796559 := ()
def PySem.W.Fast.tw2570937968932566121 := ()
def PySem.W.Fast.tw2251041953302239987 := ()
def PySem.W.Fast.tw3998629364028393828 := ()
def PySem.W.Fast.tw1727687429007760524 := ()
def PySem.W.Fast.tw17446010293562142967 := ()
def PySem.W.Fast.tw17155277399809224259 := ()
def PySem.W.Fast.tw8426312558973854130 := ()
def PySem.W.Fast.tw11256245169537129488 := ()
def PySem.W.Fast.tw15037628771618220515 := ()
def PySem.W.Fast.tw9673117277200094833 := ()
def PySem.W.Fast.tw9914124935534579028 := ()
def PySem.W.Fast.tw1189911704405321083 := ()
def PySem.W.Fast.tw15187803433811640683 := ()
def PySem.W.Fast.tw8931266873145642647 := ()
def PySem.W.Fast.tw17383874169821585289 := ()
def PySem.W.Fast.tw1389085160115508799 := ()
def PySem.W.Fast.tw12988102307084945034 := ()
def PySem.W.Fast.tw12351693961032382227 := ()
def PySem.W.Fast.tw3407212319100242994 := ()
def PySem.W.Fast.tw15341842622758624028 := ()
def PySem.W.Fast.tw2370209713516332858 := ()
def PySem.W.Fast.tw9717072308947952367 := ()
def PySem.W.Fast.tw17714173156232658602 := ()
def PySem.W.Fast.tw11439814260947652533 := ()
def PySem.W.Fast.tw5150275165803885713 := ()
def PySem.W.Fast.tw7576939762543038066 := ()
def PySem.W.Fast.tw11746674913490547744 := ()
def PySem.W.Fast.tw13791712085303568759 := ()
def PySem.W.Fast.tw9748189317110409897 := ()
def PySem.W.Fast.tw9770893157695651178 := ()
def PySem.W.Fast.tw17765586157739764247 := ()
def PySem.W.Fast.tw12928487210757288946 := ()
def PySem.W.Fast.tw6072031067982115601 := ()
def PySem.W.Fast.tw15830755371020158645 := ()
def PySem.W.Fast.tw4494549357688223690 := ()
def PySem.W.Fast.tw7404909515926395064 := ()
def PySem.W.Fast.tw6738121169258630015 := ()
def PySem.W.Fast.tw17856227124935540888 := ()
def PySem.W.Fast.tw2657541485154901655 := ()
def PySem.W.Fast.tw9534662979546782495 := ()
def PySem.W.Fast.tw3888307483971266543 := ()
def PySem.W.Fast.tw16932342184263719695 := ()
def PySem.W.Fast.tw10797162873125792498 := ()
def PySem.W.Fast.tw2043092138213223042 := ()
def PySem.W.Fast.tw16601201814484568335 := ()
def PySem.W.Fast.tw15479513709460504106 := ()
def PySem.W.Fast.tw7746029513398408981 := ()
def PySem.W.Fast.tw6996312537753898705 := ()
def PySem.W.Fast.tw16149704709127714522 := ()
def PySem.W.Fast.tw2135930585270228542 := ()
def PySem.W.Fast.tw18061767069949065761 := ()
def PySem.W.Fast.tw6266628858971439130 := ()
def PySem.W.Fast.tw10716681971115340819 := ()
def PySem.W.Fast.tw1217585183383302236 := ()
def PySem.W.Fast.tw9010309359709977825 := ()
def PySem.W.Fast.tw15519034164820549502 := ()
def PySem.W.Fast.tw17965879097658410989 := ()
def PySem.W.Fast.tw16798980163727495124 := ()
def PySem.W.Fast.tw10788006365235465870 := ()
def PySem.W.Fast.tw11493736458933386384 := ()
def PySem.W.Fast.tw15953823396145083452 := ()
def PySem.W.Fast.tw5753023750628577449 := ()
def PySem.W.Fast.tw6796872208686582628 := ()
def PySem.W.Fast.tw11595484087378351864 := ()
def PySem.W.Fast.tw14697394715402069484 := ()
def PySem.W.Fast.tw15119876095933436150 := ()
def PySem.W.Fast.tw1212656125235375255 := ()
def PySem.W.Fast.tw11016355797204057476 := ()
def PySem.W.Fast.tw11707522489580276102 := ()
def PySem.W.Fast.tw7342540850301963141 := ()
def PySem.W.Fast.tw279270783426430825 := ()
def PySem.W.Fast.tw17632542107751032790 := ()
def PySem.W.Fast.tw6585810598735752550 := ()
def PySem.W.Fast.tw12812068996022333635 := ()
def PySem.W.Fast.tw2748932002230815549 := ()
def PySem.W.Fast.tw16088116293934077862 := ()
def PySem.W.Fast.tw5024242035666163420 := ()
def PySem.W.Fast.tw12693876298822513768 := ()
def PySem.W.Fast.tw13841184571700627473 := ()
def PySem.W.Fast.tw7908035251020394196 := ()
def PySem.W.Fast.tw7966475864372933319 := ()
def PySem.W.Fast.tw11420645730380550872 := ()
def PySem.W.Fast.tw17346021825046645596 := ()
def PySem.W.Fast.tw4811215226294411343 := ()
def PySem.W.Fast.tw9651942830690483044 := ()
def PySem.W.Fast.tw18030946537320101087 := ()
def PySem.W.Fast.tw12086731691912365510 := ()
def PySem.W.Fast.tw209395692488886330 := ()
def PySem.W.Fast.tw10143198789538662086 := ()
def PySem.W.Fast.tw11514187518463281864 := ()
def PySem.W.Fast.tw355365167044082865 := ()
def PySem.W.Fast.tw11126482025744999145 := ()
def PySem.W.Fast.tw6346769346096294257 := ()
def PySem.W.Fast.tw17244212398034417652 := ()
def PySem.W.Fast.tw11486820891919304779 := ()
def PySem.W.Fast.tw1942725000560177095 := ()
def PySem.W.Fast.tw3841205592143074318 := ()
def PySem.W.Fast.tw8762581286840175968 := ()
def PySem.W.Fast.tw15766250809304461093 := ()
def PySem.W.Fast.tw17950459198424759357 := ()
def PySem.W.Fast.tw2884763516225746964 := ()
def PySem.W.Fast.tw15367587341258968258 := ()
def PySem.W.Fast.tw4347826673874632508 := ()
def PySem.W.Fast.tw1378003119888886992 := ()
def PySem.W.Fast.tw16083857594222910061 := ()
def PySem.W.Fast.tw17454735308800779466 := ()
def PySem.W.Fast.tw4941159214727597389 := ()
def PySem.W.Fast.tw716656339112092763 := ()
def PySem.W.Fast.tw9070378717818350109 := ()
def PySem.W.Fast.tw13546112181038570744 := ()
def PySem.W.Fast.tw16234676697547185360 := ()
def PySem.W.Fast.tw9276959153721856823 := ()
def PySem.W.Fast.tw6156810624274100887 := ()
def PySem.W.Fast.tw7177350915391975089 := ()
def PySem.W.Fast.tw12411493307099981560 := ()
def PySem.W.Fast.tw9547178704674070537 := ()
def PySem.W.Fast.tw11182207939609499544 := ()
def PySem.W.Fast.tw9832909148772556086 := ()
def PySem.W.Fast.tw8040223535484162322 := ()
def PySem.W.Fast.tw9493305399415559410 := ()
def PySem.W.Fast.tw9428404141106401861 := ()
def PySem.W.Fast.tw12983428055736564803 := ()
def PySem.W.Fast.tw12689619088313245008 := ()
def PySem.W.Fast.tw2808027116889045568 := ()
def PySem.W.Fast.tw12670796292705218459 := ()
def PySem.W.Fast.tw11014769428749795 := ()
def PySem.W.Fast.tw12358970668768597683 := ()
def PySem.W.Fast.tw18173824333721128325 := ()
def PySem.W.Fast.tw9567269877997187629 := ()
def PySem.W.Fast.tw7978121643225958553 := ()
def PySem.W.Fast.tw14762615423261671491 := ()
def PySem.W.Fast.tw9779475275005284601 := ()
def PySem.W.Fast.tw13747579054622960273 := ()
def PySem.W.Fast.tw17691944888293436466 := ()
def PySem.W.Fast.tw13639644088646010092 := ()
def PySem.W.Fast.tw3426193481964828550 := ()
def PySem.W.Fast.tw4962534110686303541 := ()
def PySem.W.Fast.tw9119580607447408913 := ()
def PySem.W.Fast.tw1672746514035646386 := ()
def PySem.W.Fast.tw2932897535290577241 := ()
def PySem.W.Fast.tw677301368666958621 := ()
def PySem.W.Fast.tw11301767262184904717 := ()
def PySem.W.Fast.tw3224679224470191378 := ()
def PySem.W.Fast.tw8959984431384082281 := ()
def PySem.W.Fast.tw14779535210154743408 := ()
def PySem.W.Fast.tw4012018945555103437 := ()
def PySem.W.Fast.tw6658268042483380579 := ()
def PySem.W.Fast.tw7080379170801994055 := ()
def PySem.W.Fast.tw15232644829199764925 := ()
def PySem.W.Fast.tw578270730486535603 := ()
def PySem.W.Fast.tw17015604504398062672 := ()
def PySem.W.Fast.tw10151176039673406451 := ()
def PySem.W.Fast.tw5029130891895834930 := ()
def PySem.W.Fast.tw3126541548067741384 := ()
def PySem.W.Fast.tw15743483157274485868 := ()
def PySem.W.Fast.tw6765601322660191223 := ()
def PySem.W.Fast.tw12892684083397386534 := ()
def PySem.W.Fast.tw49064263081102092 := ()
def PySem.W.Fast.tw2000144300205593739 := ()
def PySem.W.Fast.tw7608493561612804972 := ()
def PySem.W.Fast.tw15063743244898406592 := ()
def PySem.W.Fast.tw12563776787197927142 := ()
def PySem.W.Fast.tw18148166887513613179 := ()
def PySem.W.Fast.tw9388242875581900807 := ()
def PySem.W.Fast.tw15375057218929428673 := ()
def PySem.W.Fast.tw4691688281697572558 := ()
def PySem.W.Fast.tw17414607792882399443 := ()
def PySem.W.Fast.tw17261079502531142386 := ()
def PySem.W.Fast.tw12794818610420973288 := ()
def PySem.W.Fast.tw1065209678396812420 := ()
def PySem.W.Fast.tw16162039946800252805 := ()
def PySem.W.Fast.tw4260000485242030827 := ()
def PySem.W.Fast.tw12273231539993152301 := ()
def PySem.W.Fast.tw5684015306872332056 := ()
def PySem.W.Fast.tw4007253809905438886 := ()
def PySem.W.Fast.tw5205099215170462665 := ()
def PySem.W.Fast.tw10281954346041283297 := ()
def PySem.W.Fast.tw9052213518487046991 := ()
def PySem.W.Fast.tw12282698746014709315 := ()
def PySem.W.Fast.tw4648785606468408490 := ()
def PySem.W.Fast.tw6213455357940122258 := ()
def PySem.W.Fast.tw1492434432252212626 := ()
def PySem.W.Fast.tw11227752293474786168 := ()
def PySem.W.Fast.tw7224085540379403300 := ()
def PySem.W.Fast.tw1534026699096733412 := ()
def PySem.W.Fast.tw8102986492405939854 := ()
def PySem.W.Fast.tw10411737237002269812 := ()
def PySem.W.Fast.tw6233377121071606119 := ()
def PySem.W.Fast.tw4945159790282264049 := ()
def PySem.W.Fast.tw8883059530814824387 := ()
def PySem.W.Fast.tw7836240157212437755 := ()
def PySem.W.Fast.tw8933010532746787020 := ()
def PySem.W.Fast.tw7039885670979301611 := ()
def PySem.W.Fast.tw14010053077537005448 := ()
def PySem.W.Fast.tw14378992629979656491 := ()
def PySem.W.Fast.tw8511257616081124421 := ()
def PySem.W.Fast.tw5366035914609982682 := ()
def PySem.W.Fast.tw3085722984285129593 := ()
def PySem.W.Fast.tw12965929929271657015 := ()
def PySem.W.Fast.tw5996019391318070182 := ()
def PySem.W.Fast.tw7658142581420707008 := ()
def PySem.W.Fast.tw2045441712495236443 := ()
def PySem.W.Fast.tw7115370605553074257 := ()
def PySem.W.Fast.tw16100750770779141542 := ()
def PySem.W.Fast.tw3233199130818476590 := ()
def PySem.W.Fast.tw7116141449085459175 := ()
def PySem.W.Fast.tw6384486731699987111 := ()
def PySem.W.Fast.tw18359192714542033890 := ()
def PySem.W.Fast.tw8020385534253945283 := ()
def PySem.W.Fast.tw3231823834154911585 := ()
def PySem.W.Fast.tw18319042155052816652 := ()
def PySem.W.Fast.tw1900583667523850707 := ()
def PySem.W.Fast.tw7310424308724471078 := ()
def PySem.W.Fast.tw16291529161995351504 := ()
def PySem.W.Fast.tw16583180432933339403 := ()
def PySem.W.Fast.tw9033039494502906955 := ()
def PySem.W.Fast.tw15076865995618044492 := ()
def PySem.W.Fast.tw5465794091591866313 := ()
def PySem.W.Fast.tw1480823455564096984 := ()
def PySem.W.Fast.tw8274368074832445632 := ()
def PySem.W.Fast.tw7210279100894183402 := ()
def PySem.W.Fast.tw11086688292531461250 := ()
def PySem.W.Fast.tw3067359557292035731 := ()
def PySem.W.Fast.tw15178625124923368121 := ()
def PySem.W.Fast.tw17789200051467041739 := ()
def PySem.W.Fast.tw3404937905796042934 := ()
def PySem.W.Fast.tw6159091089498915364 := ()
def PySem.W.Fast.tw12239862336498076767 := ()
def PySem.W.Fast.tw6631049433824333529 := ()
def PySem.W.Fast.tw2914371539125954236 := ()
def PySem.W.Fast.tw5827303693997757218 := ()
def PySem.W.Fast.tw6249959055344356401 := ()
def PySem.W.Fast.tw12886199836668938778 := ()
def PySem.W.Fast.tw15611604440235255299 := ()
def PySem.W.Fast.tw10956349892776034115 := ()
def PySem.W.Fast.tw18196240290252849482 := ()
def PySem.W.Fast.tw16725216876015712507 := ()
def PySem.W.Fast.tw3018242319686200141 := ()
def PySem.W.Fast.tw8699252464995259270 := ()
def PySem.W.Fast.tw17472381707197713005 := ()
def PySem.W.Fast.tw17039418620131983267 := ()
def PySem.W.Fast.tw15406891978355908526 := ()
def PySem.W.Fast.tw6003668847733371688 := ()
def PySem.W.Fast.tw4962563500903884223 := ()
def PySem.W.Fast.tw5044569339911213442 := ()
def PySem.W.Fast.tw9878393251166787094 := ()
def PySem.W.Fast.tw11494426672150428078 := ()
def PySem.W.Fast.tw18301014954766618556 := ()
def PySem.W.Fast.tw10260234539625288401 := ()
def PySem.W.Fast.tw13066194454000214092 := ()
def PySem.W.Fast.tw13206514953158047582 := ()
def PySem.W.Fast.tw14841966196608981549 := ()
def PySem.W.Fast.tw4059876240824648283 := ()
def PySem.W.Fast.tw14294003779798066470 := ()
def PySem.W.Fast.tw8260915027476598068 := ()
def PySem.W.Fast.tw12220524544552455436 := ()
def PySem.W.Fast.tw13342009850322578859 := ()
def PySem.W.Fast.tw3191201651028225511 := ()
def PySem.W.Fast.tw4075690895786498021 := ()
def PySem.W.Fast.tw8704686030674349941 := ()
def PySem.W.Fast.tw15201656215320666554 := ()
def PySem.W.Fast.tw6105735193498934908 := ()
def PySem.W.Fast.tw12223367585362339654 := ()
def PySem.W.Fast.tw12878208317283273351 := ()
def PySem.W.Fast.tw1670665065092618490 := ()
def PySem.W.Fast.tw13871339931074992338 := ()
def PySem.W.Fast.tw9629547466312367569 := ()
def PySem.W.Fast.tw6233257110287313496 := ()
def PySem.W.Fast.tw4135488919119459509 := ()
def PySem.W.Fast.tw15176148652531023674 := ()
def PySem.W.Fast.tw431537088575492804 := ()
def PySem.W.Fast.tw12045510934763021522 := ()
def PySem.W.Fast.tw11565204489404599943 := ()
def PySem.W.Fast.tw2609877032639713779 := ()
def PySem.W.Fast.tw14437218436006618815 := ()
def PySem.W.Fast.tw8136068496657827602 := ()
def PySem.W.Fast.tw5703023150539419194 := ()
def PySem.W.Fast.tw3809383292131352970 := ()
def PySem.W.Fast.tw3009800565558578117 := ()
def PySem.W.Fast.tw7570010810752830937 := ()
def PySem.W.Fast.tw6911471020535317714 := ()
def PySem.W.Fast.tw16193511749107175327 := ()
def PySem.W.Fast.tw2564785163738160256 := ()
def PySem.W.Fast.tw6472608653446338308 := ()
def PySem.W.Fast.tw17543902862952037799 := ()
def PySem.W.Fast.tw2575416459922891061 := ()
def PySem.W.Fast.tw6957205236092292373 := ()
def PySem.W.Fast.tw11618210592110861845 := ()
def PySem.W.Fast.tw4816727185412034572 := ()
def PySem.W.Fast.tw10183136201011789622 := ()
def PySem.W.Fast.tw14593224887168410366 := ()
def PySem.W.Fast.tw10043405445708528914 := ()
def PySem.W.Fast.tw14658560722107357598 := ()
def PySem.W.Fast.tw17494422358765883056 := ()
def PySem.W.Fast.tw3843023933095055111 := ()
def PySem.W.Fast.tw16288467710869486105 := ()
def PySem.W.Fast.tw6261427412882956901 := ()
def PySem.W.Fast.tw12135946053090289067 := ()
def PySem.W.Fast.tw16474918722616027851 := ()
def PySem.W.Fast.tw7243548443222026492 := ()
def PySem.W.Fast.tw4587217124389522736 := ()
def PySem.W.Fast.tw10126984785431656482 := ()
def PySem.W.Fast.tw1437582566907204277 := ()
def PySem.W.Fast.tw1932166260663705383 := ()
def PySem.W.Fast.tw1016172887977641803 := ()
def PySem.W.Fast.tw11841265510070237471 := ()
def PySem.W.Fast.tw11955409162001276514 := ()
def PySem.W.Fast.tw11842428813868785659 := ()
def PySem.W.Fast.tw11603728115555352396 := ()
def PySem.W.Fast.tw13578498636331356464 := ()
def PySem.W.Fast.tw8820933928007091322 := ()
def PySem.W.Fast.tw4706033490947368871 := ()
def PySem.W.Fast.tw12797301290612158588 := ()
def PySem.W.Fast.tw15113985873094091367 := ()
def PySem.W.Fast.tw17107213496222303925 := ()
def PySem.W.Fast.tw293558263947656589 := ()
def PySem.W.Fast.tw14210630584316066124 := ()
def PySem.W.Fast.tw17697053699053616846 := ()
def PySem.W.Fast.tw5048347417426352354 := ()
def PySem.W.Fast.tw16630495108985980763 := ()
def PySem.W.Fast.tw16097612035508134185 := ()
def PySem.W.Fast.tw13264671760488803513 := ()
def PySem.W.Fast.tw12853223770550253219 := ()
def PySem.W.Fast.tw2612841075377576082 := ()
def PySem.W.Fast.tw2009241040217846037 := ()
def PySem.W.Fast.tw16190978529193240218 := ()
def PySem.W.Fast.tw6877594992667340748 := ()
def PySem.W.Fast.tw15800630296247366198 := ()
def PySem.W.Fast.tw9870280569392841345 := ()
def PySem.W.Fast.tw17924696064266766540 := ()
def PySem.W.Fast.tw5547100413644014099 := ()
def PySem.W.Fast.tw15515538165828615246 := ()
def PySem.W.Fast.tw10484351217038268289 := ()
def PySem.W.Fast.tw16621430104249776575 := ()
def PySem.W.Fast.tw17706761894536762678 := ()
def PySem.W.Fast.tw18404779597240219067 := ()
def PySem.W.Fast.tw18216043446319131482 := ()
def PySem.W.Fast.tw4805959837548140882 := ()
def PySem.W.Fast.tw16399668167127512460 := ()
def PySem.W.Fast.tw8293664357500929619 := ()
def PySem.W.Fast.tw10479497279652517139 := ()
def PySem.W.Fast.tw7041887828945210929 := ()
def PySem.W.Fast.tw13329420363356233435 := ()
def PySem.W.Fast.tw14201411350361467916 := ()
def PySem.W.Fast.tw9443912317742947006 := ()
def PySem.W.Fast.tw12576284170162598138 := ()
def PySem.W.Fast.tw7121760272459591643 := ()
def PySem.W.Fast.tw11010339536791575767 := ()
def PySem.W.Fast.tw16801021903474445129 := ()
def PySem.W.Fast.tw8393504413951446961 := ()
def PySem.W.Fast.tw14262422578520639718 := ()
def PySem.W.Fast.tw17146494668289356332 := ()
def PySem.W.Fast.tw413855325947683730 := ()
def PySem.W.Fast.tw14126128880303209943 := ()
def PySem.W.Fast.tw14169894103335160155 := ()
def PySem.W.Fast.tw3382813944340434026 := ()
def PySem.W.Fast.tw15280041476493947325 := ()
def PySem.W.Fast.tw6414527906631523928 := ()
def PySem.W.Fast.tw14457473562023773080 := ()
def PySem.W.Fast.tw3877737984654404691 := ()
def PySem.W.Fast.tw4438837442647867645 := ()
def PySem.W.Fast.tw15549697753191715401 := ()
def PySem.W.Fast.tw14488639350087313126 := ()
def PySem.W.Fast.tw18160371109236679310 := ()
def PySem.W.Fast.tw7694549382529307717 := ()
def PySem.W.Fast.tw9809550946500211750 := ()
def PySem.W.Fast.tw14384243312882431390 := ()
def PySem.W.Fast.tw17157322307571752499 := ()
def PySem.W.Fast.tw3838021358157717865 := ()
def PySem.W.Fast.tw16742265910002047897 := ()
def PySem.W.Fast.tw7442771467802695588 := ()
def PySem.W.Fast.tw336106526136294535 := ()
def PySem.W.Fast.tw14692325161258038770 := ()
def PySem.W.Fast.tw12254798501999810969 := ()
def PySem.W.Fast.tw14631511995248057660 := ()
def PySem.W.Fast.tw5573296336383231413 := ()
def PySem.W.Fast.tw6672100714512252619 := ()
def PySem.W.Fast.tw164933856934368998 := ()
def PySem.W.Fast.tw148013858316897501 := ()
def PySem.W.Fast.tw14371974454143030043 := ()
def PySem.W.Fast.tw6917556877323308469 := ()
def PySem.W.Fast.tw17051195640848887426 := ()
set_option maxRecDepth 100000 in
set_option maxHeartbeats 0 in
theorem PySem.Challenge.cw_heddle_k34_no_laying_holds : PySem.Challenge.rw_heddle_k34_no_laying.Holds := by
  w_on; o_law; k_head; (case hw => w_witness2)
  k_fill
  refine L2.walk_ofK (l := PySem.Challenge.rw_heddle_k34_no_laying) (n := 63) (k := 4) (x := "script") (CX := L2.CX0) (sp := Mine.sp_law) rfl (by decide) rfl ⟨rfl, by decide, by decide⟩ (fun w h Y => PySem.W.kIn_of Y) ?F ?S ?C
  case F =>
    intro w mg fa h KX G hmg
    refine' Mine.law_mk KX G hmg ?a_laid_together ?l_laid_together ?c_laid_together ?k_laid_together ?a_check_owners ?l_check_owners ?c_check_owners ?k_check_owners ?a_check_piece ?l_check_piece ?c_check_piece ?k_check_piece ?a_places_within ?l_places_within ?c_places_within ?k_places_within ?a_sign_at ?l_sign_at ?c_sign_at ?k_sign_at ?a_law_numbers ?l_law_numbers ?c_law_numbers ?k_law_numbers ?a_law_owners ?l_law_owners ?c_law_owners ?k_law_owners ?a_law_piece ?l_law_piece ?c_law_piece ?k_law_piece ?a_law_refused ?l_law_refused ?c_law_refused ?k_law_refused ?a_law_odd_sign ?l_law_odd_sign ?c_law_odd_sign ?k_law_odd_sign ?a_law_spoilt_text ?l_law_spoilt_text ?c_law_spoilt_text ?k_law_spoilt_text ?a_law_spoilt_pieces ?l_law_spoilt_pieces ?c_law_spoilt_pieces ?k_law_spoilt_pieces ?a_law_spoilt_owners ?l_law_spoilt_owners ?c_law_spoilt_owners ?k_law_spoilt_owners ?a_law_fitting ?l_law_fitting ?c_law_fitting ?k_law_fitting ?a_law ?l_law ?c_law ?k_law ?z_ValueError ?z_enumerate ?z_isinstance ?z_len ?z_list ?z_range ?z_str ?z_zip ?x_MOST_STRANDS ?n_WeaveError ?n_NoRow ?n_TooLarge ?n_NoCloth ?n_NoDraft ?n_NoStrand ?n_NoDeed ?n_NoLaying ?n_NoShuttle ?n_NoColour ?n_NoBlock ?n_NoPattern ?n_Unknown ?n_Twice ?y1_WeaveError ?y2_WeaveError ?y3_WeaveError ?y4_WeaveError ?y5_WeaveError ?y6_WeaveError ?y7_WeaveError ?y8_WeaveError ?y9_WeaveError ?y10_WeaveError ?y11_WeaveError ?y9_NoRow ?y10_NoRow ?y9_TooLarge ?y10_TooLarge ?y9_NoCloth ?y10_NoCloth ?y9_NoDraft ?y10_NoDraft ?y9_NoStrand ?y10_NoStrand ?y9_NoDeed ?y10_NoDeed ?y1_NoLaying ?y2_NoLaying ?y3_NoLaying ?y4_NoLaying ?y7_NoLaying ?y8_NoLaying ?y9_NoLaying ?y10_NoLaying ?y11_NoLaying ?r_NoLaying_WeaveError ?r_NoLaying_NoRow ?r_NoLaying_TooLarge ?r_NoLaying_NoCloth ?r_NoLaying_NoDraft ?r_NoLaying_NoStrand ?r_NoLaying_NoDeed ?r_NoLaying_NoLaying ?r_NoLaying_NoShuttle ?r_NoLaying_NoColour ?r_NoLaying_NoBlock ?r_NoLaying_NoPattern ?r_NoLaying_Unknown ?r_NoLaying_Twice ?y9_NoShuttle ?y10_NoShuttle ?y9_NoColour ?y10_NoColour ?y9_NoBlock ?y10_NoBlock ?y9_NoPattern ?y10_NoPattern ?y9_Unknown ?y10_Unknown ?y9_Twice ?y10_Twice ?fm_NoLaying ?gm_NoLaying ?lm_NoLaying ?cm_NoLaying ?km_NoLaying
    (case a_laid_together => k_is)
    (case l_laid_together => k_is)
    (case c_laid_together => k_is)
    (case k_laid_together => k_is)
    (case a_check_owners => k_is)
    (case l_check_owners => k_is)
    (case c_check_owners => k_is)
    (case k_check_owners => k_is)
    (case a_check_piece => k_is)
    (case l_check_piece => k_is)
    (case c_check_piece => k_is)
    (case k_check_piece => k_is)
    (case a_places_within => k_is)
    (case l_places_within => k_is)
    (case c_places_within => k_is)
    (case k_places_within => k_is)
    (case a_sign_at => k_is)
    (case l_sign_at => k_is)
    (case c_sign_at => k_is)
    (case k_sign_at => k_is)
    (case a_law_numbers => k_is)
    (case l_law_numbers => k_is)
    (case c_law_numbers => k_is)
    (case k_law_numbers => k_is)
    (case a_law_owners => k_is)
    (case l_law_owners => k_is)
    (case c_law_owners => k_is)
    (case k_law_owners => k_is)
    (case a_law_piece => k_is)
    (case l_law_piece => k_is)
    (case c_law_piece => k_is)
    (case k_law_piece => k_is)
    (case a_law_refused => k_is)
    (case l_law_refused => k_is)
    (case c_law_refused => k_is)
    (case k_law_refused => k_is)
    (case a_law_odd_sign => k_is)
    (case l_law_odd_sign => k_is)
    (case c_law_odd_sign => k_is)
    (case k_law_odd_sign => k_is)
    (case a_law_spoilt_text => k_is)
    (case l_law_spoilt_text => k_is)
    (case c_law_spoilt_text => k_is)
    (case k_law_spoilt_text => k_is)
    (case a_law_spoilt_pieces => k_is)
    (case l_law_spoilt_pieces => k_is)
    (case c_law_spoilt_pieces => k_is)
    (case k_law_spoilt_pieces => k_is)
    (case a_law_spoilt_owners => k_is)
    (case l_law_spoilt_owners => k_is)
    (case c_law_spoilt_owners => k_is)
    (case k_law_spoilt_owners => k_is)
    (case a_law_fitting => k_is)
    (case l_law_fitting => k_is)
    (case c_law_fitting => k_is)
    (case k_law_fitting => k_is)
    (case a_law => k_is)
    (case l_law => k_is)
    (case c_law => k_is)
    (case k_law => k_is)
    (case z_ValueError => k_is)
    (case z_enumerate => k_is)
    (case z_isinstance => k_is)
    (case z_len => k_is)
    (case z_list => k_is)
    (case z_range => k_is)
    (case z_str => k_is)
    (case z_zip => k_is)
    (case x_MOST_STRANDS => k_is)
    (case n_WeaveError => k_is)
    (case n_NoRow => k_is)
    (case n_TooLarge => k_is)
    (case n_NoCloth => k_is)
    (case n_NoDraft => k_is)
    (case n_NoStrand => k_is)
    (case n_NoDeed => k_is)
    (case n_NoLaying => k_is)
    (case n_NoShuttle => k_is)
    (case n_NoColour => k_is)
    (case n_NoBlock => k_is)
    (case n_NoPattern => k_is)
    (case n_Unknown => k_is)
    (case n_Twice => k_is)
    (case y1_WeaveError => k_exc)
    (case y2_WeaveError => k_is)
    (case y3_WeaveError => k_is)
    (case y4_WeaveError => k_is)
    (case y5_WeaveError => k_is)
    (case y6_WeaveError => k_is)
    (case y7_WeaveError => k_is)
    (case y8_WeaveError => k_is)
    (case y9_WeaveError => k_is)
    (case y10_WeaveError => k_is)
    (case y11_WeaveError => k_is)
    (case y9_NoRow => k_is)
    (case y10_NoRow => k_is)
    (case y9_TooLarge => k_is)
    (case y10_TooLarge => k_is)
    (case y9_NoCloth => k_is)
    (case y10_NoCloth => k_is)
    (case y9_NoDraft => k_is)
    (case y10_NoDraft => k_is)
    (case y9_NoStrand => k_is)
    (case y10_NoStrand => k_is)
    (case y9_NoDeed => k_is)
    (case y10_NoDeed => k_is)
    (case y1_NoLaying => k_exc)
    (case y2_NoLaying => k_is)
    (case y3_NoLaying => k_is)
    (case y4_NoLaying => k_is)
    (case y7_NoLaying => k_is)
    (case y8_NoLaying => k_is)
    (case y9_NoLaying => k_is)
    (case y10_NoLaying => k_is)
    (case y11_NoLaying => k_is)
    (case r_NoLaying_WeaveError => k_is)
    (case r_NoLaying_NoRow => k_is)
    (case r_NoLaying_TooLarge => k_is)
    (case r_NoLaying_NoCloth => k_is)
    (case r_NoLaying_NoDraft => k_is)
    (case r_NoLaying_NoStrand => k_is)
    (case r_NoLaying_NoDeed => k_is)
    (case r_NoLaying_NoLaying => k_is)
    (case r_NoLaying_NoShuttle => k_is)
    (case r_NoLaying_NoColour => k_is)
    (case r_NoLaying_NoBlock => k_is)
    (case r_NoLaying_NoPattern => k_is)
    (case r_NoLaying_Unknown => k_is)
    (case r_NoLaying_Twice => k_is)
    (case y9_NoShuttle => k_is)
    (case y10_NoShuttle => k_is)
    (case y9_NoColour => k_is)
    (case y10_NoColour => k_is)
    (case y9_NoBlock => k_is)
    (case y10_NoBlock => k_is)
    (case y9_NoPattern => k_is)
    (case y10_NoPattern => k_is)
    (case y9_Unknown => k_is)
    (case y10_Unknown => k_is)
    (case y9_Twice => k_is)
    (case y10_Twice => k_is)
    (case fm_NoLaying => k_is)
    (case gm_NoLaying => k_is)
    (case lm_NoLaying => k_is)
    (case cm_NoLaying => k_is)
    (case km_NoLaying => k_is)
  case S => exact fun K H a ns hl hO hS => Mine.sp_law_holds hl hS
  case C => exact fun _ _ _ _ z => z

