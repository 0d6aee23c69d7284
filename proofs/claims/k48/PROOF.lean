import PyProof.Rows.All
import Wide.All
import OpenK.AllK
import Wide.FinOn
import Lean
import PyProof.EqAt
import PyProof.EqKinds
import PyProof.TupleCall
import PyProof.StrBlockL
import PyProof.EnumMake
import PyProof.CollectIter
import PyProof.JoinWalk
import PyProof.StrOps
import PyProof.StrLawsIdx
import PyProof.StrLawsIn
import PyProof.ListRange
import PyProof.Rows.Range3
import PyProof.Rows.SumAny
import KE.KIntText
import KE.LcSums
import PyProof.LongRange
import PyProof.StrOps2
import PyProof.FitsBits
import PyProof.NeKinds
import PyProof.Rows.ZipGen
import PyProof.Draws
import PyProof.Rows.SeqMore
import PyProof.PureStr
import KE.KRevIter
import PyProof.DictUpdate
import KE.KItemsList
import PySem.Challenge.RW_heddle_k48_whole_colours_or_chains
set_option Elab.async false
set_option linter.all false
set_option maxRecDepth 100000
/-! THE HAND LAYER, for ints, bools, texts, own classes, LISTS and tuples (index, slices, in, append, pop ..), calls, loops. Paste it whole ahead of your own text; what your proof does not reach may be deleted. -/
namespace L2
open PySem PySem.Spec PyProof.Rows

/-- a key: an int or a str -/
abbrev Key := Sum Int Str
def keyIs : Key → Value → Bool
  | .inl k, v => Value.isInt k v
  | .inr x, v => Value.isStrOf x v
def keyH (w : World) : Key → Int
  | .inl k => hashInt k
  | .inr x => hashStr w x
theorem keyIs_shape : ∀ {k : Key} {v : Value}, keyIs k v = true → (∃ i t, k = Sum.inl i ∧ v = Value.int i t) ∨ (∃ x t, k = Sum.inr x ∧ v = Value.str x t)
  | .inl i, v, h => by
    obtain ⟨t, e⟩ := Value.isInt_shape (k := i) (v := v) h
    exact .inl ⟨i, t, rfl, e⟩
  | .inr x, v, h => by
    obtain ⟨t, e⟩ := Value.isStrOf_shape (x := x) (v := v) h
    exact .inr ⟨x, t, rfl, e⟩
theorem keyIs_int (i : Int) (t : Tok) : keyIs (.inl i) (.int i t) = true := by simp [keyIs, Value.isInt]
theorem keyIs_str (x : Str) (t : Tok) : keyIs (.inr x) (.str x t) = true := by simp [keyIs, Value.isStrOf]
theorem key_ll (a b : Int) : decide ((Sum.inl a : Key) = Sum.inl b) = (a == b) := by
  by_cases e : a = b
  · subst e; simp
  · have h : ¬ (Sum.inl a : Key) = Sum.inl b := fun q => e (Sum.inl.inj q)
    rw [decide_eq_false h]
    exact (beq_eq_false_iff_ne.mpr e).symm
theorem key_rr (a b : Str) : decide ((Sum.inr a : Key) = Sum.inr b) = decide (a = b) := by
  by_cases e : a = b
  · subst e; simp
  · have h : ¬ (Sum.inr a : Key) = Sum.inr b := fun q => e (Sum.inr.inj q)
    rw [decide_eq_false h, decide_eq_false e]
theorem key_lr (a : Int) (b : Str) : decide ((Sum.inl a : Key) = Sum.inr b) = false := decide_eq_false (fun q => nomatch q)
theorem key_rl (a : Str) (b : Int) : decide ((Sum.inr a : Key) = Sum.inl b) = false := decide_eq_false (fun q => nomatch q)

def mixKind (prog : Program) (w : World) : PySem.KeyKind prog w Key where
  is := keyIs
  hash := keyH w
  inj := fun v a b ha hb => by
    rcases keyIs_shape ha with ⟨i, t, rfl, rfl⟩ | ⟨x, t, rfl, rfl⟩
    · rcases keyIs_shape hb with ⟨j, u, rfl, e⟩ | ⟨y, u, rfl, e⟩
      · injection e with e1 _; rw [e1]
      · exact nomatch e
    · rcases keyIs_shape hb with ⟨j, u, rfl, e⟩ | ⟨y, u, rfl, e⟩
      · exact nomatch e
      · injection e with e1 _; rw [e1]
  byValue := fun k v h => by
    rcases keyIs_shape h with ⟨i, t, rfl, rfl⟩ | ⟨x, t, rfl, rfl⟩ <;> rfl
  pyHash := fun hv h => by
    rcases keyIs_shape hv with ⟨i, t, rfl, rfl⟩ | ⟨x, t, rfl, rfl⟩
    · exact wpAny_pyHash_int h
    · exact wpAny_pyHash_str h
  eqBool := fun hu hv h => by
    rcases keyIs_shape hu with ⟨i, t, rfl, rfl⟩ | ⟨x, t, rfl, rfl⟩
    · rcases keyIs_shape hv with ⟨j, u, rfl, rfl⟩ | ⟨y, u, rfl, rfl⟩
      · rw [key_ll] at h; exact wpAny_eqBool_int h
      · rw [key_lr] at h; exact SeqAt.EqAt.int_str i t y u _ _ _ _ h
    · rcases keyIs_shape hv with ⟨j, u, rfl, rfl⟩ | ⟨y, u, rfl, rfl⟩
      · rw [key_rl] at h; exact SeqAt.EqAt.str_int x t j u _ _ _ _ h
      · rw [key_rr] at h; exact wpAny_eqBool_str h
  «strs» := fun k x t v h => by
    rcases keyIs_shape h with ⟨i, u, rfl, e⟩ | ⟨y, u, rfl, e⟩
    · exact nomatch e
    · injection e with e1 _
      subst e1
      cases v <;> rfl

theorem mixKind_int (prog : Program) (w : World) (i : Int) (t : Tok) : (mixKind prog w).is (.inl i) (.int i t) = true := keyIs_int i t
theorem mixKind_str (prog : Program) (w : World) (x : Str) (t : Tok) : (mixKind prog w).is (.inr x) (.str x t) = true := keyIs_str x t
end L2

namespace L2
open PySem PySem.Spec PyProof.Rows

/-- a value, without the heap -/
inductive V where
  | non | bl (b : Bool) | int (i : Int) | str (x : Str) | byt (b : Array UInt8) | flt (b : UInt64) | ref (a : Addr) | ty (n : String)
  deriving DecidableEq

def RelV : V → Value → Prop
  | .non, u => u = Value.none
  | .bl b, u => u = Value.bool b
  | .int i, u => ∃ t, u = Value.int i t
  | .str x, u => ∃ t, u = Value.str x t
  | .byt b, u => ∃ t, u = Value.bytes b t
  | .flt b, u => ∃ t, u = Value.float b t
  | .ref a, u => u = Value.ref a
  | .ty n, u => u = Value.type n

abbrev Vals : List V → List Value → Prop := Paired RelV
theorem Vals.length {xs : List V} {us : List Value} (r : Vals xs us) : xs.length = us.length := Paired.length r
theorem Vals.get : ∀ {xs : List V} {us : List Value} {i : Nat} {x : V}, Vals xs us → xs[i]? = some x → ∃ u, us[i]? = some u ∧ RelV x u
  | _, _, _, _, .nil, e => by simp at e
  | _, _, 0, _, .cons r _, e => by simp at e; subst e; exact ⟨_, rfl, r⟩
  | _, _, i + 1, x, .cons _ t, e => by
    obtain ⟨u, h1, h2⟩ := Vals.get (i := i) (x := x) t (by simpa using e)
    exact ⟨u, by simpa using h1, h2⟩
theorem Vals.set {x : V} {u : Value} (r : RelV x u) : ∀ {xs : List V} {us : List Value} (i : Nat), Vals xs us → Vals (xs.set i x) (us.set i u)
  | _, _, _, .nil => .nil
  | _, _, 0, .cons _ t => .cons r t
  | _, _, i + 1, .cons q t => .cons q (Vals.set r i t)
theorem Vals.append : ∀ {xs ys : List V} {us ws : List Value}, Vals xs us → Vals ys ws → Vals (xs ++ ys) (us ++ ws)
  | _, _, _, _, .nil, s => s
  | _, _, _, _, .cons r t, s => .cons r (Vals.append t s)
def RelO : Option V → Option Value → Prop
  | some v, some u => RelV v u
  | none, none => True
  | _, _ => False
def KV {κ : Type} : List (κ × V) → List (κ × Value) → Prop := Paired fun (p : κ × V) (q : κ × Value) => p.1 = q.1 ∧ RelV p.2 q.2

/-- a key of a dict (00_mix): an int or a text -/
def kV : Key → V
  | .inl i => .int i
  | .inr x => .str x

/-- what stands at a tracked address -/
inductive HO where
  /-- a list -/
  | lst (xs : List V)
  /-- a tuple (never changes) -/
  | tup (xs : List V)
  /-- a dict whose keys are ints and texts; one whose keys are tuples of ints and texts (the empty one is both) -/
  | dK (kvs : List (Key × V)) | dT (kvs : List (List Key × V))
  /-- a set of ints: its members, its size -/
  | set (S : Int → Bool) (n : Nat)
  /-- an instance of the class at C, its dict at dx, its attributes -/
  | ins (C dx : Addr) (fs : List (Str × V))
  /-- the dict of the instance at x -/
  | own (x : Addr)
  /-- the dict of an exception -/
  | xd (fs : List (Str × V))
  /-- a bound method, f of x -/
  | met (f x : Addr)
  /-- a range object lo, lo + 1, .. below hi -/
  | rng (lo hi : Int)
  /-- a thing that is known to the object (the script; a dict while a loop walks it): read, never written while it is so -/
  | frz (o : Obj) (u : HO)
  /-- a code object's table -/
  | tbl (ps : Array Value)
  /-- any other thing, by what is true of its one object (a def of one's own: SetO a S n := HO.ext fun h => ..) -/
  | ext (φ : Heap → Prop)

abbrev Hp := Addr → Option HO
def upd (H : Hp) (a : Addr) (o : HO) : Hp := fun b => if b = a then some o else H b
theorem upd_same {H : Hp} {a : Addr} {o : HO} : upd H a o a = some o := by unfold upd; rw [if_pos rfl]
theorem upd_ne {H : Hp} {a b : Addr} {o : HO} (h : b ≠ a) : upd H a o b = H b := by unfold upd; rw [if_neg h]
/-- two objects of different content stand apart -/
theorem ne_of {H : Hp} {a b : Addr} {o u : HO} (h : H a = some o) (h' : H b = some u) (d : o ≠ u) : a ≠ b := by
  intro e; subst e; rw [h] at h'; exact d (Option.some.inj h')
theorem ne_of_none {H : Hp} {a b : Addr} {o : HO} (h : H a = some o) (h' : H b = none) : a ≠ b := by
  intro e; subst e; rw [h] at h'; cases h'

section
variable (P : Program) (w : World)
def ObjOk (H : Hp) (h : Heap) (a : Addr) : HO → Prop
  | .lst xs => xs.length ≤ sizeLine ∧ ∃ (its : List Value) (n : Nat), Vals xs its ∧ h.get? a = some { cls := .type "list", data := .seq its.toArray n }
  | .tup xs => xs.length ≤ sizeLine ∧ ∃ its : List Value, Vals xs its ∧ IsTup h a its.toArray
  | .dK kvs => kvs.length ≤ sizeLine ∧ (a == sysModules) = false ∧ ∃ vs, KV kvs vs ∧ h.DictOf (mixKind P w) a vs
  | .dT kvs => kvs.length ≤ sizeLine ∧ (a == sysModules) = false ∧ ∃ xs : List (List Key × Addr × Value),
      Paired (fun (p : List Key × V) (q : List Key × Addr × Value) => p.1 = q.1 ∧ H q.2.1 = some (.tup (p.1.map kV)) ∧ RelV p.2 q.2.2) kvs xs ∧
      ∃ o es ep, h.get? a = some o ∧ o.ExactDict ∧ o.data = .dict es ep ∧ es.toList = xs.map (entryOfKey (tupleKind (mixKind P w))) ∧ (xs.map (·.1)).Nodup
  | .set S n => h.SetOf (intKind P w) a S n
  | .ins C dx fs => H dx = some (.own a) ∧ fs.length ≤ 1000 ∧ dx ≠ a ∧ h.get? a = some (PySem.W.instObj C dx) ∧
      ∃ mA, h.Ns1 dx mA ∧ (∀ f, RelO (fs.lookup f) (mA f)) ∧ PySem.Within mA (fs.map (·.1))
  | .own _ => ∃ o, h.get? a = some o
  | .xd fs => ∃ mA, h.Ns1 a mA ∧ ∀ f, RelO (fs.lookup f) (mA f)
  | .rng lo hi => ∃ t u v, h.get? a = some { cls := .type "range", data := .fields #[.int lo t, .int hi u, .int 1 v] }
  | .frz o u => h.get? a = some o ∧ ObjOk H h a u
  | .tbl ps => h.get? a = some { cls := .none, data := .fields ps }
  | .met f x => h.get? a = some (PySem.W.methodObj (.ref f) (.ref x))
  | .ext φ => φ h ∧ (∃ o, h.get? a = some o) ∧ ∀ h1 h2 : Heap, φ h1 → (∀ o, h1.get? a = some o → h2.get? a = some o) → φ h2
/-- the abstract heap is held -/
def HOk (H : Hp) (h : Heap) : Prop := ∀ a o, H a = some o → ObjOk P w H h a o
end

section
variable {P : Program} {w : World} {H H' : Hp} {h h' : Heap} {a : Addr} {o : HO}
theorem ObjOk.lt (x : ObjOk P w H h a o) : a < h.objs.size := by
  cases o with
  | lst xs => obtain ⟨_, _, _, _, e⟩ := x; exact Heap.lt_size e
  | tup xs => obtain ⟨_, _, _, p⟩ := x; exact p.lt
  | dK kvs => obtain ⟨_, _, _, _, o, _, _, e, _⟩ := x; exact Heap.lt_size e
  | dT kvs => obtain ⟨_, _, _, _, o, _, _, e, _⟩ := x; exact Heap.lt_size e
  | set S n => obtain ⟨o, _, _, _, e, _⟩ := x; exact Heap.lt_size e
  | ins C dx fs => obtain ⟨_, _, _, e, _⟩ := x; exact Heap.lt_size e
  | own y => obtain ⟨_, e⟩ := x; exact Heap.lt_size e
  | xd fs => obtain ⟨_, ⟨_, _, _, e, _⟩, _⟩ := x; exact Heap.lt_size e
  | rng lo hi => obtain ⟨_, _, _, e⟩ := x; exact Heap.lt_size e
  | frz ob u => obtain ⟨e, _⟩ := x; exact Heap.lt_size e
  | tbl ps => exact Heap.lt_size (show h.get? a = some _ from x)
  | met f y => exact Heap.lt_size (show h.get? a = some _ from x)
  | ext φ => obtain ⟨_, ⟨_, e⟩, _⟩ := x; exact Heap.lt_size e
theorem Paired.mapP {α β : Type} {F G : α → β → Prop} : ∀ {l₁ : List α} {l₂ : List β}, Paired F l₁ l₂ → (∀ a b, F a b → G a b) → Paired G l₁ l₂
  | _, _, .nil, _ => .nil
  | _, _, .cons r t, f => .cons (f _ _ r) (Paired.mapP t f)
/-- what an object's description leans on: its own object, its own dict, the tuples -/
theorem ObjOk.stay (x : ObjOk P w H h a o) (k : ∀ b u, (b = a ∨ H b = some (.own a)) → h.get? b = some u → h'.get? b = some u)
    (ho : ∀ b, H b = some (.own a) → H' b = some (.own a)) (ht : ∀ b xs, H b = some (.tup xs) → H' b = some (.tup xs)) : ObjOk P w H' h' a o := by
  induction o with
  | lst xs => obtain ⟨z, its, n, r, e⟩ := x; exact ⟨z, its, n, r, k _ _ (.inl rfl) e⟩
  | tup xs => obtain ⟨z, its, r, ob, e, c⟩ := x; exact ⟨z, its, r, ob, k _ _ (.inl rfl) e, c⟩
  | dK kvs => obtain ⟨z, y, vs, r, ob, es, ep, e, c⟩ := x; exact ⟨z, y, vs, r, ob, es, ep, k _ _ (.inl rfl) e, c⟩
  | dT kvs =>
    obtain ⟨z, y, xs, r, ob, es, ep, e, c⟩ := x
    exact ⟨z, y, xs, Paired.mapP r fun p q z => ⟨z.1, ht _ _ z.2.1, z.2.2⟩, ob, es, ep, k _ _ (.inl rfl) e, c⟩
  | set S n => obtain ⟨ob, es, ep, t, e, c⟩ := x; exact ⟨ob, es, ep, t, k _ _ (.inl rfl) e, c⟩
  | ins C dx fs =>
    obtain ⟨d, z, ne, e, mA, ⟨od, es, ep, e2, c⟩, r⟩ := x
    exact ⟨ho _ d, z, ne, k _ _ (.inl rfl) e, mA, ⟨od, es, ep, k _ _ (.inr d) e2, c⟩, r⟩
  | own y => obtain ⟨ob, e⟩ := x; exact ⟨ob, k _ _ (.inl rfl) e⟩
  | xd fs => obtain ⟨mA, ⟨od, es, ep, e, c⟩, r⟩ := x; exact ⟨mA, ⟨od, es, ep, k _ _ (.inl rfl) e, c⟩, r⟩
  | rng lo hi => obtain ⟨t, u, v, e⟩ := x; exact ⟨t, u, v, k _ _ (.inl rfl) e⟩
  | frz ob u ih => obtain ⟨e, q⟩ := x; exact ⟨k _ _ (.inl rfl) e, ih q⟩
  | tbl ps =>
    have e : h.get? a = some { cls := .none, data := .fields ps } := x
    show h'.get? a = some { cls := .none, data := .fields ps }
    exact k a _ (.inl rfl) e
  | met f y =>
    have e : h.get? a = some (PySem.W.methodObj (.ref f) (.ref y)) := x
    show h'.get? a = some (PySem.W.methodObj (.ref f) (.ref y))
    exact k a _ (.inl rfl) e
  | ext φ => obtain ⟨p, ⟨o, e⟩, st⟩ := x; exact ⟨st _ _ p fun o q => k _ _ (.inl rfl) q, ⟨o, k _ _ (.inl rfl) e⟩, st⟩
theorem HOk.lt (x : HOk P w H h) (e : H a = some o) : a < h.objs.size := (x a o e).lt
theorem HOk.fresh (x : HOk P w H h) (e : h.objs.size ≤ a) : H a = none := by
  cases q : H a with
  | none => rfl
  | some u => exact absurd (Nat.lt_of_lt_of_le (x.lt q) e) (Nat.lt_irrefl _)
/-- every object of the heap is kept -/
theorem HOk.kept (x : HOk P w H h) (k : ∀ b u, h.get? b = some u → h'.get? b = some u) : HOk P w H h' := fun a o e =>
  (x a o e).stay (fun b u _ q => k b u q) (fun _ q => q) fun _ _ q => q
/-- a new object is laid and tracked -/
theorem HOk.laid (x : HOk P w H h) (k : ∀ b u, h.get? b = some u → h'.get? b = some u) (hp : h.objs.size ≤ a) (new : ObjOk P w (upd H a o) h' a o) : HOk P w (upd H a o) h' := fun b u e => by
  have hn := x.fresh hp
  by_cases hb : b = a
  · subst hb; rw [upd_same] at e; cases e; exact new
  · rw [upd_ne hb] at e
    exact (x b u e).stay (fun c v _ q => k c v q) (fun c q => by rw [upd_ne (ne_of_none q hn)]; exact q) fun c xs q => by rw [upd_ne (ne_of_none q hn)]; exact q
end

/-- what may be read as u: it is u, or a known u -/
def Rd (H : Hp) (a : Addr) (u : HO) : Prop := H a = some u ∨ ∃ o, H a = some (.frz o u)
theorem Rd.ok {P : Program} {w : World} {H : Hp} {h : Heap} {a : Addr} {u : HO} (r : Rd H a u) (x : HOk P w H h) : ObjOk P w H h a u := by
  rcases r with r | ⟨o, r⟩
  · exact x a u r
  · obtain ⟨_, q⟩ := x a _ r
    exact q
/-- what may be written -/
def Mut : Option HO → Prop
  | some (.lst _) => True
  | some (.dK _) => True
  | some (.dT _) => True
  | some (.set _ _) => True
  | some (.ins _ _ _) => True
  | some (.ext _) => True
  | _ => False
section
variable {P : Program} {w : World} {H : Hp} {h h' : Heap} {x e : Addr} {o' : HO}
/-- the object at e is changed: x itself, or the dict of the instance x -/
theorem HOk.write (ok : HOk P w H h) (mu : Mut (H x)) (he : e = x ∨ H e = some (.own x)) (k : ∀ b u, b ≠ e → h.get? b = some u → h'.get? b = some u) (heo : ∃ u, h'.get? e = some u)
    (new : ObjOk P w (upd H x o') h' x o') : HOk P w (upd H x o') h' := fun b u q => by
  have nown : ∀ c y, H c = some (.own y) → c ≠ x := fun c y r z => by subst z; rw [r] at mu; exact mu
  have ntup : ∀ c xs, H c = some (.tup xs) → c ≠ x := fun c xs r z => by subst z; rw [r] at mu; exact mu
  by_cases hb : b = x
  · subst hb; rw [upd_same] at q; cases q; exact new
  · rw [upd_ne hb] at q
    by_cases hbe : b = e
    · have q' : H b = some (.own x) := by
        rcases he with z | z
        · exact absurd (hbe.trans z) hb
        · rw [hbe]; exact z
      rw [q] at q'; cases q'
      obtain ⟨v, hv⟩ := heo
      exact ⟨v, by rw [hbe]; exact hv⟩
    · refine (ok b u q).stay (fun c v hc r => k c v ?_ r) (fun c r => by rw [upd_ne (nown c b r)]; exact r) fun c xs r => by rw [upd_ne (ntup c xs r)]; exact r
      rcases hc with rfl | hc
      · exact hbe
      · rintro rfl
        rcases he with z | z
        · exact nown c b hc z
        · rw [hc] at z; cases z; exact hb rfl
end

/-! ### kept unless tracked; of the frames at fs (the callers') the slots may change (an exception that passes writes there); of the records at ex (iterators) nothing is said -/
structure Un (fs ex : List Addr) (H H' : Hp) (h h' : Heap) : Prop where
  keep : ∀ b o, h.get? b = some o → H b = none → b ∉ fs → b ∉ ex → h'.get? b = some o
  slot : ∀ b o, h.get? b = some o → H b = none → b ∈ fs → b ∉ ex → ∃ sl, h'.get? b = some { o with slots := sl }
  free : ∀ b o, h.get? b = some o → H b = none → b ∉ ex → H' b = none
  there : ∀ b o, h.get? b = some o → b ∉ ex → ∃ o', h'.get? b = some o'
  tups : ∀ b xs, H b = some (.tup xs) → H' b = some (.tup xs)
  frzs : ∀ b o u, H b = some (.frz o u) → H' b = some (.frz o u)
  tbls : ∀ b ps, H b = some (.tbl ps) → ∃ more, H' b = some (.tbl (ps ++ more))
section
variable {fs fs' ex ex' : List Addr} {H H1 H2 : Hp} {h h1 h2 h' : Heap} {a x e : Addr} {o : HO}
theorem Un.any (u : Un fs ex H H1 h h1) {b : Addr} {ob : Obj} (q : h.get? b = some ob) (n : H b = none) (hx : b ∉ ex) : ∃ sl, h1.get? b = some { ob with slots := sl } := by
  by_cases hb : b ∈ fs
  · exact u.slot b ob q n hb hx
  · exact ⟨ob.slots, u.keep b ob q n hb hx⟩
theorem Un.kept (k : ∀ b u, h.get? b = some u → h'.get? b = some u) : Un fs ex H H h h' :=
  ⟨fun b ob q _ _ _ => k b ob q, fun b ob q _ _ _ => ⟨ob.slots, k b ob q⟩, fun _ _ _ n _ => n, fun b ob q _ => ⟨ob, k b ob q⟩, fun _ _ q => q, fun _ _ _ q => q, fun _ ps q => ⟨#[], by rw [q]; simp⟩⟩
theorem Un.refl : Un fs ex H H h h := Un.kept fun _ _ q => q
theorem Un.laid (k : ∀ b u, h.get? b = some u → h'.get? b = some u) (hp : h.objs.size ≤ a) (hn : H a = none) : Un fs ex H (upd H a o) h h' where
  keep := fun b u q _ _ _ => k b u q
  slot := fun b u q _ _ _ => ⟨u.slots, k b u q⟩
  free := fun b u q n _ => by rw [upd_ne (Nat.ne_of_lt (Nat.lt_of_lt_of_le (Heap.lt_size q) hp))]; exact n
  there := fun b u q _ => ⟨u, k b u q⟩
  tups := fun b xs q => by rw [upd_ne (ne_of_none q hn)]; exact q
  frzs := fun b u xs q => by rw [upd_ne (ne_of_none q hn)]; exact q
  tbls := fun b ps q => ⟨#[], by rw [upd_ne (ne_of_none q hn), q]; simp⟩
theorem Un.write (mu : Mut (H x)) (he : e = x ∨ H e = some (.own x)) (k : ∀ b u, b ≠ e → h.get? b = some u → h'.get? b = some u) (heo : ∃ u, h'.get? e = some u) : Un fs ex H (upd H x o) h h' := by
  have hx : ∀ b, H b = none → b ≠ x := fun b n z => by subst z; rw [n] at mu; exact mu
  have hb : ∀ b, H b = none → b ≠ e := fun b n z => by
    subst z
    rcases he with r | r
    · exact hx b n r
    · rw [n] at r; cases r
  have hm : ∀ b u, H b = some u → ¬ Mut (some u) → b ≠ x := fun b u q nm z => by subst z; rw [q] at mu; exact nm mu
  refine ⟨fun b u q n _ _ => k b u (hb b n) q, fun b u q n _ _ => ⟨u.slots, k b u (hb b n) q⟩, fun b u q n _ => by rw [upd_ne (hx b n)]; exact n, fun b u q _ => ?_,
    fun b xs q => by rw [upd_ne (hm b _ q fun z => z)]; exact q, fun b u xs q => by rw [upd_ne (hm b _ q fun z => z)]; exact q, fun b ps q => ⟨#[], by rw [upd_ne (hm b _ q fun z => z), q]; simp⟩⟩
  by_cases hbe : b = e
  · subst hbe; exact heo
  · exact ⟨u, k b u hbe q⟩
end

/-! ### the heap without what is tracked -/
def trk (h : Heap) (H : Hp) : List Addr := (List.range h.objs.size).filter fun a => (H a).isSome
def hidT (h : Heap) (H : Hp) : Heap := PySem.W.hideAll h (trk h H)
theorem hidT_size (h : Heap) (H : Hp) : (hidT h H).objs.size = h.objs.size := PySem.W.hideAll_size _ _
theorem hidT_get {h : Heap} {H : Hp} {b : Addr} {o : Obj} (e : h.get? b = some o) (n : H b = none) : (hidT h H).get? b = some o :=
  PySem.W.hideAll_get _ e fun hm => by
    have q : (H b).isSome = true := (List.mem_filter.mp hm).2
    rw [n] at q; simp at q
theorem of_hidT {h : Heap} {H : Hp} {b : Addr} {o : Obj} (e : (hidT h H).get? b = some o) : h.get? b = some o ∧ H b = none := by
  have e' : h.get? b = some o := PySem.W.of_hideAll (trk h H) e
  refine ⟨e', ?_⟩
  cases q : H b with
  | none => rfl
  | some x =>
    have hm : b ∈ trk h H := List.mem_filter.mpr ⟨List.mem_range.mpr (Heap.lt_size e'), by simp [q]⟩
    have z : (hidT h H).get? b = none := PySem.W.hideAll_none (trk h H) hm
    rw [z] at e; cases e

/-! ### OpenK's ledger, filled with every new object but one -/
def allNews (g h : Heap) (L : Addr) : List (Addr × Obj) := (List.range h.objs.size).filterMap fun a => if a = L ∨ (g.get? a).isSome = true then none else (h.get? a).map fun o => (a, o)
def rest (g h : Heap) (L d : Addr) : List (Addr × Obj) := (allNews g h L).filter fun p => decide (p.1 ≠ d)
end L2

namespace L2
open PySem PySem.Spec PyProof.Rows

/-- the module's facts, over the base: the heap at the law's entry without what is tracked there -/
structure Mod (K : PySem.W.Frag) (mg : Str → Option Value) (base : Heap) : Prop where
  kin : K.In base
  glob : base.Ns mainGlobals mg
  blt : ∃ mb, base.Ns builtinsNs mb ∧ ∀ x : Str, x ≠ "__name__" → mb x = bootBuiltins x
  nolimit : base.NoLimit

/-- the context: a def's body (or a comprehension's block) running. base: fixed through the whole law; s₀, H₀: the entry; outer: the frames whose slots others may change (a def's callers); stack: all frames that run;
   ex: iterators that were made ahead of the entry and are walked here (a comprehension's); fn: the names whose cells were made at the entry (a def: all; a comprehension's block: its own); calm: not within an except suite; pn: pins that every state bears; xe: what is wanted of an exception that leaves the code -/
structure Cx where
  prog : Program
  w : World
  K : PySem.W.Frag
  mg : Str → Option Value
  base : Heap
  A : Around
  N : List Str
  s₀ : Shared
  H₀ : Hp
  env : Env
  outer : List Env
  stack : List Env
  ex : List Addr
  fn : Str → Bool
  calm : Bool
  pn : List (Addr × Obj)
  xe : Value → Shared → Prop
/-- the callers' frames -/
def frs (l : List Env) : List Addr := l.filterMap (·.frame)
abbrev Cx.fs (X : Cx) : List Addr := frs X.outer

def Vis (sc : Scope) (x : Str) : Prop := sc.names.lookup x = some .local ∨ sc.names.lookup x = some .cell ∨ sc.names.lookup x = some .free
def Loc (sc : Scope) (x : Str) : Prop := sc.names.lookup x = some .local ∨ sc.names.lookup x = some .cell
def Look (env : Env) (h : Heap) (m : Str → Option Value) (x : Str) (u : Value) : Prop :=
  (env.kindOf x = some .local ∧ m x = some u) ∨ ((env.kindOf x = some .cell ∨ env.kindOf x = some .free) ∧ ∃ c, env.cells.lookup x = some c ∧ h.IsCell c (some u))

structure Cx.Ok (X : Cx) : Prop where
  mod : Mod X.K X.mg X.base
  kind : X.env.scope.kind = .function
  glob : X.env.globals = mainGlobals
  blt : X.env.builtins = builtinsNs
  above : X.s₀.heap.objs.size ≤ X.env.locals
  inj : ∀ x y c, X.env.cells.lookup x = some c → X.env.cells.lookup y = some c → x = y
  has : ∀ x, (X.env.kindOf x = some .cell ∨ X.env.kindOf x = some .free) → ∃ c, X.env.cells.lookup x = some c
  cab : ∀ x c, X.fn x = true → X.env.cells.lookup x = some c → X.s₀.heap.objs.size ≤ c
  hd : X.calm = true → X.A.handled = none
  frames : X.A.frames = some X.stack
  stk : X.stack = X.outer ∨ (X.stack = X.env :: X.outer ∧ X.env.frame = some X.env.locals)
  exf : ∀ b ∈ X.ex, b ≠ X.env.locals ∧ ∀ x c, X.env.cells.lookup x = some c → c ≠ b
  bs : ∀ b o, X.base.get? b = some o → X.s₀.heap.get? b = some o ∧ X.H₀ b = none
  bsz : X.base.objs.size ≤ X.s₀.heap.objs.size
  noex : ∀ b o, X.base.get? b = some o → b ∉ X.ex
  exfs : ∀ b ∈ X.ex, b ∉ X.fs
  funs : X.s₀.heap.FunFrames X.base X.outer
  frf : ∀ b ∈ X.fs, X.H₀ b = none

structure Inv (X : Cx) (pins : List (Addr × Obj)) (σ : List (Option V)) (H : Hp) (s : Shared) : Prop where
  ok : X.Ok
  os : s.os = X.s₀.os
  bare : AllBare s.gens
  base : Un X.fs X.ex X.H₀ H X.s₀.heap s.heap
  loc : ∃ m, s.heap.Ns X.env.locals m ∧ ∀ (i : Nat) (x : Str) (v : V), X.N[i]? = some x → σ[i]? = some (some v) → Vis X.env.scope x → ∃ u, RelV v u ∧ Look X.env s.heap m x u
  cell : ∀ x c, X.env.cells.lookup x = some c → ∃ v, s.heap.IsCell c v
  free : H X.env.locals = none
  freeC : ∀ x c, X.env.cells.lookup x = some c → H c = none
  pin : ∀ p ∈ X.pn ++ pins, s.heap.get? p.1 = some p.2 ∧ H p.1 = none ∧ p.1 ≠ X.env.locals ∧ p.1 ∉ X.fs ∧ ∀ v, p.2.data ≠ .cell v
  hok : HOk X.prog X.w H s.heap
  len : σ.length = X.N.length

section
variable {X : Cx} {pins : List (Addr × Obj)} {σ : List (Option V)} {H H' : Hp} {s : Shared} {h' : Heap}

theorem Cx.Ok.nofr (ok : X.Ok) {b : Addr} {o : Obj} (e : X.base.get? b = some o) : b ∉ X.fs := fun hb => by
  have := (ok.funs.mem hb).1
  rw [e] at this; cases this
theorem Inv.bs (I : Inv X pins σ H s) : ∀ b o, X.base.get? b = some o → s.heap.get? b = some o ∧ H b = none := fun b o e =>
  ⟨I.base.keep b o (I.ok.bs b o e).1 (I.ok.bs b o e).2 (I.ok.nofr e) (I.ok.noex b o e), I.base.free b o (I.ok.bs b o e).1 (I.ok.bs b o e).2 (I.ok.noex b o e)⟩
theorem Inv.bk (I : Inv X pins σ H s) : ∀ b o, X.base.get? b = some o → s.heap.get? b = some o := fun b o e => (I.bs b o e).1
theorem Inv.mod (I : Inv X pins σ H s) : Mod X.K X.mg X.base := I.ok.mod
theorem Inv.kIn (I : Inv X pins σ H s) : X.K.In s.heap := I.ok.mod.kin.keeps I.bk
theorem Inv.lt (I : Inv X pins σ H s) : X.env.locals < s.heap.objs.size := let ⟨_, hn, _⟩ := I.loc; hn.lt
theorem Inv.sz (I : Inv X pins σ H s) : X.s₀.heap.objs.size ≤ s.heap.objs.size := Nat.le_trans I.ok.above (Nat.le_of_lt I.lt)
theorem Inv.nofs (I : Inv X pins σ H s) {a : Addr} (h : s.heap.objs.size ≤ a) : a ∉ X.fs := fun hb => by
  obtain ⟨_, o, ho, _⟩ := I.ok.funs.mem hb
  exact absurd (Nat.lt_of_lt_of_le (Heap.lt_size ho) (Nat.le_trans I.sz h)) (Nat.lt_irrefl _)
theorem Inv.cne (I : Inv X pins σ H s) : ∀ x c, X.env.cells.lookup x = some c → c ≠ X.env.locals := fun x c e z => by
  obtain ⟨v, o, ho, hd⟩ := I.cell x c e
  obtain ⟨m, ⟨o', es, ep, ho', hd', _⟩, _⟩ := I.loc
  rw [z, ho'] at ho; cases ho; rw [hd'] at hd; cases hd
theorem Inv.funs (I : Inv X pins σ H s) : s.heap.FunFrames X.base X.outer := by
  have all : ∀ (l : List Env), (∀ b ∈ frs l, b ∈ X.fs) → X.s₀.heap.FunFrames X.base l → s.heap.FunFrames X.base l := by
    intro l
    induction l with
    | nil => intro _ _; trivial
    | cons env r ih =>
      intro hs hl
      obtain ⟨hk, ⟨L, o, hf, hn, ho, hd⟩, hr⟩ := hl
      have hL : L ∈ X.fs := hs L (by unfold frs; rw [List.filterMap_cons, hf]; exact List.mem_cons_self)
      obtain ⟨sl, e⟩ := I.base.slot L o ho (I.ok.frf L hL) hL fun z => I.ok.exfs L z hL
      exact ⟨hk, ⟨L, _, hf, hn, e, hd⟩, ih (fun b hb => hs b (by unfold frs; rw [List.filterMap_cons, hf]; exact List.mem_cons_of_mem _ hb)) hr⟩
  exact all X.outer (fun _ hb => hb) I.ok.funs

/-- the frames that run, for a call -/
theorem Inv.stack (I : Inv X pins σ H s) : s.heap.FunFrames X.base X.stack := by
  rcases I.ok.stk with e | ⟨e, hf⟩
  · rw [e]; exact I.funs
  · rw [e]
    obtain ⟨m, hn, _⟩ := I.loc
    refine .cons (by rw [I.ok.kind]; decide) hf hn ?_ I.funs
    exact Heap.get?_none_of_le (Nat.le_trans I.ok.bsz I.ok.above)
theorem Inv.stkSub (I : Inv X pins σ H s) : ∀ b ∈ frs X.stack, b ∈ X.env.locals :: X.fs := fun b hb => by
  rcases I.ok.stk with e | ⟨e, hf⟩
  · rw [e] at hb; exact List.mem_cons_of_mem _ hb
  · rw [e] at hb
    unfold frs at hb
    rw [List.filterMap_cons, hf] at hb
    exact hb
theorem Inv.stkFree (I : Inv X pins σ H s) : ∀ b ∈ frs X.stack, H b = none := fun b hb => by
  rcases List.mem_cons.mp (I.stkSub b hb) with e | hb
  · rw [e]; exact I.free
  · obtain ⟨_, o, ho, _⟩ := I.ok.funs.mem hb
    exact I.base.free b o ho (I.ok.frf b hb) fun z => I.ok.exfs b z hb

/-- THE STEP: the untracked objects but the frame and the records at ch are kept (the callers' frames up to slots), the frame's map is kept, the new abstract heap is held -/
theorem Inv.step {g' : Array GenState} {t' : Nat} {d' : Drawn} {ch : List Addr} (I : Inv X pins σ H s)
    (hch : ∀ b ∈ ch, (b ∈ X.ex ∨ X.s₀.heap.objs.size ≤ b) ∧ b ≠ X.env.locals ∧ (∀ x c, X.env.cells.lookup x = some c → c ≠ b) ∧ ∀ p ∈ X.pn ++ pins, p.1 ≠ b)
    (keep : ∀ b o, b ≠ X.env.locals → b ∉ X.fs → b ∉ ch → s.heap.get? b = some o → H b = none → h'.get? b = some o)
    (slot : ∀ b o, b ≠ X.env.locals → b ∈ X.fs → b ∉ ch → s.heap.get? b = some o → H b = none → ∃ sl, h'.get? b = some { o with slots := sl }) (free : ∀ b o, b ∉ ch → s.heap.get? b = some o → H b = none → H' b = none)
    (there : ∀ b o, b ∉ ch → s.heap.get? b = some o → ∃ o', h'.get? b = some o')
    (tups : ∀ b xs, H b = some (.tup xs) → H' b = some (.tup xs)) (frzs : ∀ b o u, H b = some (.frz o u) → H' b = some (.frz o u)) (tbls : ∀ b ps, H b = some (.tbl ps) → ∃ more, H' b = some (.tbl (ps ++ more)))
    (ns : ∀ m, s.heap.Ns X.env.locals m → h'.Ns X.env.locals m) (hok : HOk X.prog X.w H' h') (hg : AllBare g') :
    Inv X pins σ H' { s with heap := h', gens := g', drawn := d', toks := t' } := by
  have neL : ∀ b o, X.s₀.heap.get? b = some o → b ≠ X.env.locals := fun b o e => Nat.ne_of_lt (Nat.lt_of_lt_of_le (Heap.lt_size e) I.ok.above)
  have neC : ∀ b o, X.s₀.heap.get? b = some o → b ∉ X.ex → b ∉ ch := fun b o e hx hb => by
    rcases (hch b hb).1 with z | z
    · exact hx z
    · exact absurd (Nat.lt_of_lt_of_le (Heap.lt_size e) z) (Nat.lt_irrefl _)
  have cellK : ∀ x c, X.env.cells.lookup x = some c → ∀ v, s.heap.IsCell c v → h'.IsCell c v := fun x c e v ⟨o, ho, hd⟩ => by
    have nch : c ∉ ch := fun z => (hch c z).2.2.1 x c e rfl
    by_cases hc : c ∈ X.fs
    · obtain ⟨sl, q⟩ := slot c o (I.cne x c e) hc nch ho (I.freeC x c e)
      exact ⟨_, q, hd⟩
    · exact ⟨o, keep c o (I.cne x c e) hc nch ho (I.freeC x c e), hd⟩
  refine ⟨I.ok, I.os, hg, ⟨fun b o e n hb hx => ?_, fun b o e n hb hx => ?_, fun b o e n hx => ?_, fun b o e hx => ?_, fun b xs e => tups b xs (I.base.tups b xs e), fun b o xs e => frzs b o xs (I.base.frzs b o xs e), fun b ps e => ?_⟩, ?_, fun x c e => ?_, ?_, fun x c e => ?_, fun p hp => ?_, hok, I.len⟩
  · exact keep b o (neL b o e) hb (neC b o e hx) (I.base.keep b o e n hb hx) (I.base.free b o e n hx)
  · obtain ⟨sl, e1⟩ := I.base.slot b o e n hb hx
    obtain ⟨sl', e2⟩ := slot b _ (neL b o e) hb (neC b o e hx) e1 (I.base.free b o e n hx)
    exact ⟨sl', e2⟩
  · obtain ⟨o', e1⟩ := I.base.there b o e hx
    exact free b o' (neC b o e hx) e1 (I.base.free b o e n hx)
  · obtain ⟨o', e1⟩ := I.base.there b o e hx
    exact there b o' (neC b o e hx) e1
  · obtain ⟨m1, e1⟩ := I.base.tbls b ps e
    obtain ⟨m2, e2⟩ := tbls b _ e1
    exact ⟨m1 ++ m2, by rw [e2, Array.append_assoc]⟩
  · obtain ⟨m, hn, hl⟩ := I.loc
    refine ⟨m, ns m hn, fun i x v e1 e2 e3 => ?_⟩
    obtain ⟨u, r, l⟩ := hl i x v e1 e2 e3
    refine ⟨u, r, ?_⟩
    rcases l with l | ⟨k, c, e, z⟩
    · exact .inl l
    · exact .inr ⟨k, c, e, cellK x c e _ z⟩
  · obtain ⟨v, z⟩ := I.cell x c e
    exact ⟨v, cellK x c e v z⟩
  · obtain ⟨m, ⟨o, _, _, ho, _⟩, _⟩ := I.loc
    exact free _ o (fun z => (hch _ z).2.1 rfl) ho I.free
  · obtain ⟨v, o, ho, hd⟩ := I.cell x c e
    exact free c o (fun z => (hch c z).2.2.1 x c e rfl) ho (I.freeC x c e)
  · obtain ⟨e, n, ne, nf, d⟩ := I.pin p hp
    have nch : p.1 ∉ ch := fun z => (hch p.1 z).2.2.2 p hp rfl
    exact ⟨keep p.1 p.2 ne nf nch e n, free p.1 p.2 nch e n, ne, nf, d⟩
/-- .. where the frame's own object is kept too -/
theorem Inv.un {t' : Nat} (I : Inv X pins σ H s) (u : Un X.fs [] H H' s.heap h') (hok : HOk X.prog X.w H' h') : Inv X pins σ H' { s with heap := h', toks := t' } := by
  obtain ⟨m, ⟨o, es, ep, ho, r⟩, _⟩ := id I.loc
  obtain ⟨sl, hL⟩ := u.any ho I.free (by simp)
  exact I.step (g' := s.gens) (d' := s.drawn) (ch := []) (fun _ z => nomatch z) (fun b o _ hb _ e n => u.keep b o e n hb (by simp)) (fun b o _ hb _ e n => u.slot b o e n hb (by simp)) (fun b o _ e n => u.free b o e n (by simp)) (fun b o _ e => u.there b o e (by simp)) u.tups u.frzs u.tbls (fun m' hm => by
    obtain ⟨o', es', ep', ho', r'⟩ := hm
    rw [ho] at ho'; cases ho'
    exact ⟨_, es', ep', hL, r'⟩) hok I.bare
/-- behind a call (or a comprehension's block): the slots of this frame may have changed too, the records at ch may have turned -/
theorem Inv.call {g' : Array GenState} {t' : Nat} {d' : Drawn} {ch : List Addr} (I : Inv X pins σ H s) (u : Un (frs X.stack) ch H H' s.heap h') (hok : HOk X.prog X.w H' h') (hg : AllBare g')
    (hch : ∀ b ∈ ch, (b ∈ X.ex ∨ X.s₀.heap.objs.size ≤ b) ∧ b ≠ X.env.locals ∧ (∀ x c, X.env.cells.lookup x = some c → c ≠ b) ∧ ∀ p ∈ X.pn ++ pins, p.1 ≠ b) :
    Inv X pins σ H' { s with heap := h', gens := g', drawn := d', toks := t' } := by
  obtain ⟨m, ⟨o, es, ep, ho, r⟩, _⟩ := id I.loc
  obtain ⟨sl, hL⟩ := u.any ho I.free fun z => (hch _ z).2.1 rfl
  exact I.step (ch := ch) hch (fun b o hL hb hc e n => u.keep b o e n (fun z => (List.mem_cons.mp (I.stkSub b z)).elim hL hb) hc) (fun b o _ _ hc e n => u.any e n hc) (fun b o hc e n => u.free b o e n hc) (fun b o hc e => u.there b o e hc) u.tups u.frzs u.tbls (fun m' hm => by
    obtain ⟨o', es', ep', ho', r'⟩ := hm
    rw [ho] at ho'; cases ho'
    exact ⟨_, es', ep', hL, r'⟩) hok hg
/-- an untracked record of ours (an iterator) has turned -/
theorem Inv.turned {t' : Nat} {it : Addr} (I : Inv X pins σ H s) (k : ∀ b o, b ≠ it → s.heap.get? b = some o → h'.get? b = some o) (hn : H it = none) (hL : it ≠ X.env.locals)
    (h1 : it ∈ X.ex ∨ X.s₀.heap.objs.size ≤ it) (h2 : ∀ x c, X.env.cells.lookup x = some c → c ≠ it) (h3 : ∀ p ∈ X.pn ++ pins, p.1 ≠ it) : Inv X pins σ H { s with heap := h', toks := t' } := by
  have nit : ∀ b u, H b = some u → b ≠ it := fun b u e z => by rw [z, hn] at e; cases e
  refine I.step (g' := s.gens) (d' := s.drawn) (ch := [it]) (fun b hb => ?_) (fun b o _ _ hc e _ => k b o (fun z => hc (by simp [z])) e) (fun b o _ _ hc e _ => ⟨o.slots, k b o (fun z => hc (by simp [z])) e⟩) (fun _ _ _ _ n => n)
    (fun b o hc e => ⟨o, k b o (fun z => hc (by simp [z])) e⟩) (fun _ _ e => e) (fun _ _ _ e => e) (fun b ps e => ⟨#[], by rw [e]; simp⟩) (fun m hm => ?_) (fun b u e => ?_) I.bare
  · have e : b = it := by simpa using hb
    subst e
    exact ⟨h1, hL, h2, h3⟩
  · obtain ⟨o, es, ep, ho, r⟩ := hm
    exact ⟨o, es, ep, k _ o (Ne.symm hL) ho, r⟩
  · refine (I.hok b u e).stay (fun c v hc q => k c v ?_ q) (fun _ q => q) fun _ _ q => q
    rcases hc with z | z
    · rw [z]; exact nit b u e
    · exact nit c _ z
theorem Inv.tok (I : Inv X pins σ H s) (t : Nat) : Inv X pins σ H { s with toks := t } := I.un (h' := s.heap) (t' := t) Un.refl I.hok
/-- all objects kept -/
theorem Inv.kept {t' : Nat} (I : Inv X pins σ H s) (k : ∀ b u, s.heap.get? b = some u → h'.get? b = some u) : Inv X pins σ H { s with heap := h', toks := t' } := I.un (Un.kept k) (I.hok.kept k)
/-- a new object laid and tracked -/
theorem Inv.laid {a : Addr} {o : HO} {t' : Nat} (I : Inv X pins σ H s) (k : ∀ b u, s.heap.get? b = some u → h'.get? b = some u) (hp : s.heap.objs.size ≤ a) (new : ObjOk X.prog X.w (upd H a o) h' a o) :
    Inv X pins σ (upd H a o) { s with heap := h', toks := t' } := I.un (Un.laid k hp (I.hok.fresh hp)) (I.hok.laid k hp new)
/-- an object written -/
theorem Inv.write {x e : Addr} {o : HO} {t' : Nat} (I : Inv X pins σ H s) (mu : Mut (H x)) (he : e = x ∨ H e = some (.own x)) (k : ∀ b u, b ≠ e → s.heap.get? b = some u → h'.get? b = some u) (heo : ∃ u, h'.get? e = some u)
    (new : ObjOk X.prog X.w (upd H x o) h' x o) : Inv X pins σ (upd H x o) { s with heap := h', toks := t' } := I.un (Un.write mu he k heo) (I.hok.write mu he k heo new)
theorem Inv.pins_of {pins' : List (Addr × Obj)} (I : Inv X pins σ H s) (h : ∀ p ∈ pins', s.heap.get? p.1 = some p.2 ∧ H p.1 = none ∧ p.1 ≠ X.env.locals ∧ p.1 ∉ X.fs ∧ ∀ v, p.2.data ≠ .cell v) : Inv X pins' σ H s :=
  ⟨I.ok, I.os, I.bare, I.base, I.loc, I.cell, I.free, I.freeC, fun p hp => (List.mem_append.mp hp).elim (fun z => I.pin p (List.mem_append_left _ z)) (h p), I.hok, I.len⟩

theorem nodup_ix {N : List Str} (hN : N.Nodup) {i j : Nat} {x : Str} (a : N[i]? = some x) (b : N[j]? = some x) : i = j := by
  obtain ⟨h1, e1⟩ := List.getElem?_eq_some_iff.mp a
  obtain ⟨h2, e2⟩ := List.getElem?_eq_some_iff.mp b
  exact (List.getElem_inj hN).mp (e1.trans e2.symm)

/-- a name is stored; what changed -/
theorem store_ok2 {M : Model} {A : Around} {E : Value → Shared → Prop} {i : Nat} {x : Str} {v : V} {u : Value} {Q : Unit → Shared → Prop} (I : Inv X pins σ H s) (hN : X.N.Nodup) (hi : X.N[i]? = some x) (hx : Loc X.env.scope x) (r : RelV v u)
    (h : ∀ s', Inv X pins (σ.set i (some v)) H s' → (∃ a, Heap.SameBut a s.heap s'.heap ∧ (a = X.env.locals ∨ X.env.cells.lookup x = some a)) → Q () s') (hf : X.fn x = true ∨ X.env.scope.names.lookup x = some .local := by first | exact .inl rfl | exact .inr rfl | assumption) : wpAny M A (storeName X.env x u) Q E s := by
  obtain ⟨m, hn, hl⟩ := id I.loc
  have hcls : (X.env.scope.kind == .class || (X.env.scope.kind == .module && X.env.locals != X.env.globals)) = false := by rw [I.ok.kind]; rfl
  have hiσ : i < σ.length := by rw [I.len]; exact (List.getElem?_eq_some_iff.mp hi).1
  have cne := I.cne
  have tracked : ∀ {a : Addr} {h' : Heap}, (∃ o, s.heap.get? a = some o ∧ H a = none) → Heap.SameBut a s.heap h' → HOk X.prog X.w H h' := fun {a h'} ha hs b ob e => by
    obtain ⟨_, _, hfree⟩ := ha
    refine (I.hok b ob e).stay (fun c w' hc q => (hs.2 c ?_).trans q) (fun _ q => q) fun _ _ q => q
    rintro rfl
    rcases hc with rfl | hc
    · rw [hfree] at e; cases e
    · rw [hfree] at hc; cases hc
  rcases hx with hk | hk
  · refine wpAny_storeName_local hk hn (fun h' hn' hs => ?_) hcls
    obtain ⟨oL, _, _, hoL, _⟩ := id hn
    refine h _ ⟨I.ok, I.os, I.bare, ⟨fun b o e n hb hx => ?_, fun b o e n hb hx => ?_, I.base.free, fun b o e hx => ?_, I.base.tups, I.base.frzs, I.base.tbls⟩, ⟨_, hn', fun j y v' e1 e2 e3 => ?_⟩, fun y c e => ?_, I.free, I.freeC, fun p hp => ?_, tracked ⟨oL, hoL, I.free⟩ hs, by simpa using I.len⟩ ⟨_, hs, .inl rfl⟩
    · exact (hs.2 b (Nat.ne_of_lt (Nat.lt_of_lt_of_le (Heap.lt_size e) I.ok.above))).trans (I.base.keep b o e n hb hx)
    · obtain ⟨sl, e1⟩ := I.base.slot b o e n hb hx
      exact ⟨sl, (hs.2 b (Nat.ne_of_lt (Nat.lt_of_lt_of_le (Heap.lt_size e) I.ok.above))).trans e1⟩
    · obtain ⟨o', e1⟩ := I.base.there b o e hx
      exact ⟨o', (hs.2 b (Nat.ne_of_lt (Nat.lt_of_lt_of_le (Heap.lt_size e) I.ok.above))).trans e1⟩
    · by_cases hj : j = i
      · subst hj
        rw [hi] at e1; cases e1
        rw [List.getElem?_set_self hiσ] at e2
        cases e2
        exact ⟨u, r, .inl ⟨hk, by simp⟩⟩
      · rw [List.getElem?_set_ne (Ne.symm hj)] at e2
        obtain ⟨u', r', q⟩ := hl j y v' e1 e2 e3
        refine ⟨u', r', ?_⟩
        rcases q with ⟨k, e⟩ | ⟨k, c, e, z⟩
        · refine .inl ⟨k, ?_⟩
          have : y ≠ x := fun e => hj (nodup_ix hN e1 (e ▸ hi))
          simp [this, e]
        · exact .inr ⟨k, c, e, z.sameBut hs (cne y c e)⟩
    · obtain ⟨w', z⟩ := I.cell y c e
      exact ⟨w', z.sameBut hs (cne y c e)⟩
    · obtain ⟨e, n, ne, nf, d⟩ := I.pin p hp
      exact ⟨(hs.2 p.1 ne).trans e, n, ne, nf, d⟩
  · have hfn : X.fn x = true := by
      rcases hf with z | z
      · exact z
      · rw [z] at hk; cases hk
    obtain ⟨c, hc⟩ := I.ok.has x (.inl hk)
    obtain ⟨w', z⟩ := I.cell x c hc
    refine wpAny_storeName_cell I.ok.kind hk hc z (fun h' hc' hs => ?_)
    obtain ⟨oc, hoc, hocd⟩ := id z
    refine h { s with heap := h' } ⟨I.ok, I.os, I.bare, ⟨fun b o e n hb hx => ?_, fun b o e n hb hx => ?_, I.base.free, fun b o e hx => ?_, I.base.tups, I.base.frzs, I.base.tbls⟩, ⟨m, hn.sameBut hs (Ne.symm (cne x c hc)), fun j y v' e1 e2 e3 => ?_⟩, fun y c' e => ?_, I.free, I.freeC, fun p hp => ?_, tracked ⟨oc, hoc, I.freeC x c hc⟩ hs, by simpa using I.len⟩ ⟨c, hs, .inr hc⟩
    · exact (hs.2 b (Nat.ne_of_lt (Nat.lt_of_lt_of_le (Heap.lt_size e) (I.ok.cab x c hfn hc)))).trans (I.base.keep b o e n hb hx)
    · obtain ⟨sl, e1⟩ := I.base.slot b o e n hb hx
      exact ⟨sl, (hs.2 b (Nat.ne_of_lt (Nat.lt_of_lt_of_le (Heap.lt_size e) (I.ok.cab x c hfn hc)))).trans e1⟩
    · obtain ⟨o', e1⟩ := I.base.there b o e hx
      exact ⟨o', (hs.2 b (Nat.ne_of_lt (Nat.lt_of_lt_of_le (Heap.lt_size e) (I.ok.cab x c hfn hc)))).trans e1⟩
    · by_cases hj : j = i
      · subst hj
        rw [hi] at e1; cases e1
        rw [List.getElem?_set_self hiσ] at e2
        cases e2
        exact ⟨u, r, .inr ⟨.inl hk, c, hc, hc'⟩⟩
      · rw [List.getElem?_set_ne (Ne.symm hj)] at e2
        obtain ⟨u', r', q⟩ := hl j y v' e1 e2 e3
        refine ⟨u', r', ?_⟩
        rcases q with q | ⟨k, c', e, z'⟩
        · exact .inl q
        · refine .inr ⟨k, c', e, z'.sameBut hs ?_⟩
          rintro rfl
          exact hj (nodup_ix hN e1 (I.ok.inj _ _ _ e hc ▸ hi))
    · by_cases hcc : c' = c
      · subst hcc; exact ⟨_, hc'⟩
      · obtain ⟨w2, z2⟩ := I.cell y c' e
        exact ⟨w2, z2.sameBut hs hcc⟩
    · obtain ⟨e, n, ne, nf, d⟩ := I.pin p hp
      refine ⟨(hs.2 p.1 ?_).trans e, n, ne, nf, d⟩
      intro q
      rw [q, hoc] at e
      have q' : oc = p.2 := Option.some.inj e
      exact d w' (by rw [← q']; exact hocd)
theorem store_ok {M : Model} {A : Around} {E : Value → Shared → Prop} {i : Nat} {x : Str} {v : V} {u : Value} {Q : Unit → Shared → Prop} (I : Inv X pins σ H s) (hN : X.N.Nodup) (hi : X.N[i]? = some x) (hx : Loc X.env.scope x) (r : RelV v u)
    (h : ∀ s', Inv X pins (σ.set i (some v)) H s' → Q () s') (hf : X.fn x = true ∨ X.env.scope.names.lookup x = some .local := by first | exact .inl rfl | exact .inr rfl | assumption) : wpAny M A (storeName X.env x u) Q E s :=
  store_ok2 I hN hi hx r (fun s' I' _ => h s' I') hf
/-- behind a call or a block, the state as it is -/
theorem Inv.call' {s' : Shared} {ch : List Addr} (I : Inv X pins σ H s) (ho : s'.os = s.os) (u : Un (frs X.stack) ch H H' s.heap s'.heap) (hok : HOk X.prog X.w H' s'.heap) (hg : AllBare s'.gens)
    (hch : ∀ b ∈ ch, (b ∈ X.ex ∨ X.s₀.heap.objs.size ≤ b) ∧ b ≠ X.env.locals ∧ (∀ x c, X.env.cells.lookup x = some c → c ≠ b) ∧ ∀ p ∈ X.pn ++ pins, p.1 ≠ b) : Inv X pins σ H' s' := by
  obtain ⟨h', g', d', t', o'⟩ := s'
  have e : o' = s.os := ho
  subst e
  exact I.call (g' := g') (t' := t') (d' := d') u hok hg hch
end

/-! ### the judgements -/
/-- an exception: its class, its own dict's address (where it has one), the abstract heap behind it -/
abbrev XK := Value → Option Addr → Hp → Prop
abbrev St := List (Option V)
abbrev VK := V → Hp → Prop
/-- an expression's reading; a test's; an argument list's -/
abbrev TE := St → Hp → VK → Prop
abbrev TT := St → Hp → (Bool → Hp → Prop) → Prop
abbrev TA := St → Hp → (List V → Hp → Prop) → Prop
/-- what is wanted behind a statement -/
structure Ends where
  nx : St → Hp → Prop
  rt : VK
  bk : St → Hp → Prop := fun _ _ => False
  ct : St → Hp → Prop := fun _ _ => False
abbrev TS := Ends → St → Hp → Prop

def EP (X : Cx) (pins : List (Addr × Obj)) (σ : St) (Q : VK) (u : Value) (s' : Shared) : Prop := ∃ v H', Inv X pins σ H' s' ∧ RelV v u ∧ Q v H'
def TP (X : Cx) (pins : List (Addr × Obj)) (σ : St) (Q : Bool → Hp → Prop) (b : Bool) (s' : Shared) : Prop := ∃ H', Inv X pins σ H' s' ∧ Q b H'
def AP (X : Cx) (pins : List (Addr × Obj)) (σ : St) (Q : List V → Hp → Prop) (us : List Value) (s' : Shared) : Prop := ∃ vs H', Inv X pins σ H' s' ∧ Vals vs us ∧ Q vs H'
def SP (X : Cx) (pins : List (Addr × Obj)) (D : Ends) (f : Flow) (s' : Shared) : Prop :=
  match f with
  | .next => ∃ σ' H', Inv X pins σ' H' s' ∧ D.nx σ' H'
  | .brk => ∃ σ' H', Inv X pins σ' H' s' ∧ D.bk σ' H'
  | .cont => ∃ σ' H', Inv X pins σ' H' s' ∧ D.ct σ' H'
  | .ret u => ∃ v σ' H', Inv X pins σ' H' s' ∧ RelV v u ∧ D.rt v H'

def PE (X : Cx) (e : Expr) (t : TE) : Prop :=
  ∀ (pins : List (Addr × Obj)) (s : Shared) (σ : St) (H : Hp) (Q : VK), Inv X pins σ H s → t σ H Q → wpAny (model X.prog X.w) X.A (eval e X.env) (EP X pins σ Q) X.xe s
def PT (X : Cx) (e : Expr) (t : TT) : Prop :=
  ∀ (pins : List (Addr × Obj)) (s : Shared) (σ : St) (H : Hp) (Q : Bool → Hp → Prop), Inv X pins σ H s → t σ H Q → wpAny (model X.prog X.w) X.A (isTrue e X.env (eval e X.env)) (TP X pins σ Q) X.xe s
/-- a test whatever its 'whole' is (and, or) -/
def PW (X : Cx) (e : Expr) (t : TT) : Prop :=
  ∀ (whole : Sem Value) (pins : List (Addr × Obj)) (s : Shared) (σ : St) (H : Hp) (Q : Bool → Hp → Prop), Inv X pins σ H s → t σ H Q → wpAny (model X.prog X.w) X.A (isTrue e X.env whole) (TP X pins σ Q) X.xe s
theorem PW.pt {X : Cx} {e : Expr} {t : TT} (h : PW X e t) : PT X e t := h _
/-- an argument list (no star), from the left -/
def PA (X : Cx) (es : List Expr) (t : TA) : Prop :=
  ∀ (pos : Pos) (pins : List (Addr × Obj)) (s : Shared) (σ : St) (H : Hp) (Q : List V → Hp → Prop), Inv X pins σ H s → t σ H Q → wpAny (model X.prog X.w) X.A (spliced (backTo pos (starEach es X.env))) (AP X pins σ Q) X.xe s
def PS (X : Cx) (st : Stmt) (t : TS) : Prop :=
  ∀ (pins : List (Addr × Obj)) (s : Shared) (σ : St) (H : Hp) (D : Ends), Inv X pins σ H s → t D σ H → wpAny (model X.prog X.w) X.A (exec st X.env) (SP X pins D) X.xe s
def PSs (X : Cx) (st : List Stmt) (t : TS) : Prop :=
  ∀ (pins : List (Addr × Obj)) (s : Shared) (σ : St) (H : Hp) (D : Ends), Inv X pins σ H s → t D σ H → wpAny (model X.prog X.w) X.A (execs st X.env) (SP X pins D) X.xe s
/-- weaken the end -/
theorem thn {α : Type} {t : Sem α} {Q Q' : α → Shared → Prop} {M : Model} {A : Around} {E : Value → Shared → Prop} {s : Shared} (h : wpAny M A t Q E s) (hQ : ∀ a s, Q a s → Q' a s) : wpAny M A t Q' E s := wpAny_mono h hQ fun _ _ x => x
end L2

namespace L2
open PySem PySem.Spec PyProof.Rows
section
variable {X : Cx}

/-! ### names and constants -/
def tVar (i : Nat) : TE := fun σ H Q => ∃ v, σ[i]? = some (some v) ∧ Q v H
def tC (v : V) : TE := fun _ H Q => Q v H
theorem pe_var {i : Nat} {x : Str} {pos : Pos} (hN : X.N[i]? = some x) (hv : Vis X.env.scope x) (hd : (x == ("__debug__" : Str)) = false := by decide) (hcd : (x == ("__classdict__" : Str)) = false := by decide) : PE X (.Name x pos) (tVar i) := by
  intro pins s σ H Q I h
  obtain ⟨v, e, h⟩ := h
  obtain ⟨m, hn, hl⟩ := I.loc
  obtain ⟨u, r, l⟩ := hl i x v hN e hv
  have fin : EP X pins σ Q u s := ⟨v, H, I, r, h⟩
  rcases l with ⟨hk, hm⟩ | ⟨hk, c, hc, hcell⟩
  · exact wpAny_Name (wpAny_loadName_local I.ok.kind hk hn hm fin) hd
  · rcases hk with hk | hk
    · exact wpAny_Name (wpAny_loadName_cell I.ok.kind hk hc hcell fin) hd
    · exact wpAny_Name (wpAny_loadName_free I.ok.kind hk hc hcell fin hcd) hd
theorem pe_int {i j pos} : PE X (.Constant (.int i) j pos) (tC (.int i)) := fun _ _ _ H _ I h => wpAny_Constant_int ⟨.int i, H, I.tok _, ⟨_, rfl⟩, h⟩
theorem pe_bl {b j pos} : PE X (.Constant (.bool b) j pos) (tC (.bl b)) := fun _ _ _ H _ I h => Constant_bool ⟨.bl b, H, I, rfl, h⟩
theorem pe_non {j pos} : PE X (.Constant .none j pos) (tC .non) := fun _ _ _ H _ I h => Constant_none ⟨.non, H, I, rfl, h⟩
theorem pe_str {x j pos} : PE X (.Constant (.str x) j pos) (tC (.str x)) := fun _ _ _ H _ I h => Calls.Constant_str ⟨.str x, H, I.tok _, ⟨_, rfl⟩, h⟩

/-- a global name of the def -/
def Gl (X : Cx) (x : Str) : Prop := X.env.kindOf x = some .globalImplicit
theorem ld_glob {E : Value → Shared → Prop} {pins : List (Addr × Obj)} {s : Shared} {σ : St} {H : Hp} {x : Str} {u : Value} {pos : Pos} {Q : Value → Shared → Prop} (I : Inv X pins σ H s) (hg : Gl X x) (hm : X.mg x = some u) (h : Q u s)
    (hd : (x == ("__debug__" : Str)) = false := by decide) : wpAny (model X.prog X.w) X.A (eval (.Name x pos) X.env) Q E s :=
  Calls.Name_function_global I.ok.kind hg (Calls.loadGlobal_global (by rw [I.ok.glob]; exact I.mod.glob.keeps I.bk) hm h) hd
theorem ld_blt {E : Value → Shared → Prop} {pins : List (Addr × Obj)} {s : Shared} {σ : St} {H : Hp} {x : Str} {u : Value} {pos : Pos} {Q : Value → Shared → Prop} (I : Inv X pins σ H s) (hg : Gl X x) (hm : X.mg x = none) (hv : bootBuiltins x = some u) (h : Q u s)
    (hn : x ≠ "__name__" := by decide) (hd : (x == ("__debug__" : Str)) = false := by decide) : wpAny (model X.prog X.w) X.A (eval (.Name x pos) X.env) Q E s := by
  obtain ⟨mb, h1, h2⟩ := I.mod.blt
  exact Calls.Name_function_global I.ok.kind hg (Calls.loadGlobal_builtin (by rw [I.ok.glob]; exact I.mod.glob.keeps I.bk) hm (by rw [I.ok.blt]; exact h1.keeps I.bk) ((h2 x hn).trans hv) h) hd
/-- a module's constant, a class, a function, as a value -/
theorem pe_glob {x : Str} {v : V} {u : Value} {pos : Pos} (hg : Gl X x) (hm : X.mg x = some u) (r : RelV v u) (hd : (x == ("__debug__" : Str)) = false := by decide) : PE X (.Name x pos) (tC v) :=
  fun _ _ _ H _ I h => ld_glob I hg hm ⟨v, H, I, r, h⟩ hd
theorem pe_bltn {x : Str} {v : V} {u : Value} {pos : Pos} (hg : Gl X x) (hm : X.mg x = none) (hv : bootBuiltins x = some u) (r : RelV v u) (hn : x ≠ "__name__" := by decide) (hd : (x == ("__debug__" : Str)) = false := by decide) : PE X (.Name x pos) (tC v) :=
  fun _ _ _ H _ I h => ld_blt I hg hm hv ⟨v, H, I, r, h⟩ hn hd

/-! ### arithmetic -/
/-- two ints -/
def t2I (ta tb : TE) (k : Int → Int → Hp → Prop) : St → Hp → Prop := fun σ H => ta σ H fun x H1 => tb σ H1 fun y H2 => ∃ i j, x = .int i ∧ y = .int j ∧ k i j H2
def tAdd (ta tb : TE) : TE := fun σ H Q => t2I ta tb (fun i j H2 => Q (.int (i + j)) H2) σ H
def tSub (ta tb : TE) : TE := fun σ H Q => t2I ta tb (fun i j H2 => Q (.int (i - j)) H2) σ H
/-- the left factor below 2^64 -/
def tMul (ta tb : TE) : TE := fun σ H Q => t2I ta tb (fun i j H2 => (-(2 ^ 64) < i ∧ i < 2 ^ 64) ∧ Q (.int (i * j)) H2) σ H
variable {a b : Expr} {ta tb : TE} {pos : Pos}
/-! ### comparisons -/
def PC (X : Cx) (op : CmpOp) (a b : Expr) (t : TE) : Prop :=
  ∀ (pins : List (Addr × Obj)) (s : Shared) (σ : St) (H : Hp) (Q : VK), Inv X pins σ H s → t σ H Q →
    wpAny (model X.prog X.w) X.A (eval a X.env) (fun v s₁ => wpAny (model X.prog X.w) X.A (eval b X.env) (fun u s₂ => wpAny (model X.prog X.w) X.A (compareOp op v u) (EP X pins σ Q) X.xe s₂) X.xe s₁) X.xe s
theorem nobehind (b : Expr) {op : CmpOp} (h : op ≠ .In) (h2 : op ≠ .NotIn) : behindInMarks op b = false := by
  have e1 : (op == CmpOp.In) = false := by cases op <;> first | rfl | exact absurd rfl h
  have e2 : (op == CmpOp.NotIn) = false := by cases op <;> first | rfl | exact absurd rfl h2
  cases b <;> simp [behindInMarks, e1, e2]
def tCmp (p : Int → Int → Bool) (ta tb : TE) : TE := fun σ H Q => t2I ta tb (fun i j H2 => Q (.bl (p i j)) H2) σ H
abbrev tLt : TE → TE → TE := tCmp fun i j => decide (i < j)
abbrev tLe : TE → TE → TE := tCmp fun i j => decide (i ≤ j)
abbrev tGt : TE → TE → TE := tCmp fun i j => decide (j < i)
abbrev tGe : TE → TE → TE := tCmp fun i j => decide (j ≤ i)
abbrev tEqI : TE → TE → TE := tCmp fun i j => decide (i = j)
abbrev tNeI : TE → TE → TE := tCmp fun i j => !decide (i = j)
/-- is None -/
def tIsN (ta : TE) : TE := fun σ H Q => ta σ H fun x H1 => Q (.bl (decide (x = .non))) H1
def tNotN (ta : TE) : TE := fun σ H Q => ta σ H fun x H1 => Q (.bl (!decide (x = .non))) H1
/-- a comparison as a value, as a test -/
def tB (t : TE) : TT := fun σ H Q => t σ H fun x H1 => ∃ c, x = .bl c ∧ Q c H1
theorem pt_cmp {op : CmpOp} {t : TE} (h : PC X op a b t) (h1 : behindInMarks op b = false := by first | exact nobehind _ (by decide) (by decide) | rfl) : PT X (.Compare a [op] [b] pos) (tB t) := by
  intro pins s σ H Q I hw
  refine wpAny_isTrue_Compare1 (thn (h pins s σ H _ I hw) fun v s1 h1 => thn h1 fun u s2 h2 => thn h2 fun c s3 ⟨x, H1, I1, r1, q1⟩ => ?_) h1
  obtain ⟨d, rfl, q⟩ := q1
  cases r1
  exact wpAny_truthy_bool ⟨H1, I1, q⟩
/-- an expression whose value is a bool, as a test -/
theorem pt_val {e : Expr} {t : TE} (h : PE X e t) (he : ∀ whole, isTrue e X.env whole = (do let v ← whole; standAt e.pos; holding [v] (truthy v)) := by intro _; rfl) : PT X e (tB t) := by
  intro pins s σ H Q I hw
  refine isTrue_plain (thn (h pins s σ H _ I hw) fun v s1 ⟨x, H1, I1, r1, q1⟩ => ?_) (he _)
  obtain ⟨d, rfl, q⟩ := q1
  cases r1
  exact wpAny_truthy_bool ⟨H1, I1, q⟩

/-! ### and, or, not -/
variable {tA tB' : TT} {rest : List Expr}
def tAnd (t u : TT) : TT := fun σ H Q => t σ H fun c H1 => if c = true then u σ H1 Q else Q false H1
def tOr (t u : TT) : TT := fun σ H Q => t σ H fun c H1 => if c = true then Q true H1 else u σ H1 Q
def tNot (t : TT) : TT := fun σ H Q => t σ H fun c H1 => Q (!c) H1
theorem pw_and1 (ha : PT X a tA) : PW X (.BoolOp .And [a] pos) tA := by
  intro wh pins s σ H Q I h
  refine isTrue_and (thn (ha pins s σ H Q I h) fun c s1 e => ?_)
  cases c with
  | true => exact isTrue_and_nil e
  | false => exact e
theorem pw_or1 (ha : PT X a tA) : PW X (.BoolOp .Or [a] pos) tA := by
  intro wh pins s σ H Q I h
  refine isTrue_or (thn (ha pins s σ H Q I h) fun c s1 e => ?_)
  cases c with
  | false => exact isTrue_or_nil e
  | true => exact e
theorem pw_and (ha : PT X a tA) (hb : PW X (.BoolOp .And (b :: rest) pos) tB') : PW X (.BoolOp .And (a :: b :: rest) pos) (tAnd tA tB') := by
  intro wh pins s σ H Q I h
  refine isTrue_and (thn (ha pins s σ H _ I h) fun c s1 ⟨H1, I1, q1⟩ => ?_)
  cases c with
  | true => exact hb wh pins s1 σ H1 Q I1 q1
  | false => exact ⟨H1, I1, q1⟩
theorem pw_or (ha : PT X a tA) (hb : PW X (.BoolOp .Or (b :: rest) pos) tB') : PW X (.BoolOp .Or (a :: b :: rest) pos) (tOr tA tB') := by
  intro wh pins s σ H Q I h
  refine isTrue_or (thn (ha pins s σ H _ I h) fun c s1 ⟨H1, I1, q1⟩ => ?_)
  cases c with
  | true => exact ⟨H1, I1, q1⟩
  | false => exact hb wh pins s1 σ H1 Q I1 q1
theorem pt_not (ha : PT X a tA) : PT X (.UnaryOp .Not a pos) (tNot tA) := by
  intro pins s σ H Q I h
  exact isTrue_not (ha pins s σ H (fun c H1 => Q (!c) H1) I h)
/-- .. as values (bools) -/
def tAndV (ta tb : TE) : TE := fun σ H Q => ta σ H fun x H1 => ∃ c, x = .bl c ∧ if c = true then tb σ H1 Q else Q (.bl false) H1
def tOrV (ta tb : TE) : TE := fun σ H Q => ta σ H fun x H1 => ∃ c, x = .bl c ∧ if c = true then Q (.bl true) H1 else tb σ H1 Q
def tNotV (ta : TE) : TE := fun σ H Q => ta σ H fun x H1 => ∃ c, x = .bl c ∧ Q (.bl (!c)) H1
theorem pe_one {op} {t : TE} (h : PE X a t) : PE X (.BoolOp op [a] pos) t := fun pins s σ H Q I hw => BoolOp_one (h pins s σ H Q I hw)
theorem pe_and (ha : PE X a ta) (hb : PE X (.BoolOp .And (b :: rest) pos) tb) : PE X (.BoolOp .And (a :: b :: rest) pos) (tAndV ta tb) := by
  intro pins s σ H Q I h
  refine BoolOp_and (thn (ha pins s σ H _ I h) fun v s1 ⟨x, H1, I1, r1, q1⟩ => ?_)
  obtain ⟨c, rfl, q1⟩ := q1
  cases r1
  refine wpAny_truthy_bool ?_
  cases c with
  | true => exact hb pins s1 σ H1 Q I1 q1
  | false => exact ⟨.bl false, H1, I1, rfl, q1⟩
theorem pe_not (ha : PE X a ta) : PE X (.UnaryOp .Not a pos) (tNotV ta) := by
  intro pins s σ H Q I h
  refine UnaryOp_ (thn (ha pins s σ H _ I h) fun v s1 ⟨x, H1, I1, r1, q1⟩ => ?_)
  obtain ⟨c, rfl, q1⟩ := q1
  cases r1
  exact not_of (wpAny_truthy_bool ⟨.bl (!c), H1, I1, rfl, q1⟩)
/-- a if t else b -/
def tIf (t : TT) (ta tb : TE) : TE := fun σ H Q => t σ H fun c H1 => if c = true then ta σ H1 Q else tb σ H1 Q
theorem pe_ifExp {c : Expr} (hc : PT X c tA) (ha : PE X a ta) (hb : PE X b tb) : PE X (.IfExp c a b pos) (tIf tA ta tb) := by
  intro pins s σ H Q I h
  refine wpAny_IfExp (thn (hc pins s σ H _ I h) fun d s1 ⟨H1, I1, q1⟩ => ?_)
  cases d with
  | true => exact ha pins s1 σ H1 Q I1 q1
  | false => exact hb pins s1 σ H1 Q I1 q1
end
end L2

namespace L2
open PySem PySem.Spec PyProof.Rows

/-! ### a list, a tuple that is read: tracked, frozen, or an object of the module -/
def SqL (K : PySem.W.Frag) (H : Hp) (a : Addr) (xs : List V) : Prop :=
  Rd H a (.lst xs) ∨
    ∃ (o : Obj) (its : Array Value) (n : Nat), K.lookup a = some o ∧ o.cls = .type "list" ∧ o.dict = none ∧ o.data = .seq its n ∧ its.size ≤ sizeLine ∧ Vals xs its.toList
def SqT (K : PySem.W.Frag) (H : Hp) (a : Addr) (xs : List V) : Prop :=
  Rd H a (.tup xs) ∨
    ∃ (o : Obj) (its : Array Value) (n : Nat), K.lookup a = some o ∧ o.cls = .type "tuple" ∧ o.data = .seq its n ∧ its.size ≤ sizeLine ∧ Vals xs its.toList
def absV : Value → Option V
  | .none => some .non
  | .bool b => some (.bl b)
  | .int i _ => some (.int i)
  | .str x _ => some (.str x)
  | .bytes b _ => some (.byt b)
  | .float b _ => some (.flt b)
  | .ref a => some (.ref a)
  | .type n => some (.ty n)
  | _ => none
theorem RelV.abs {x : V} {u : Value} (r : RelV x u) : absV u = some x := by
  cases x with
  | non => cases r; rfl
  | bl _ => cases r; rfl
  | int _ => obtain ⟨t, rfl⟩ := r; rfl
  | str _ => obtain ⟨t, rfl⟩ := r; rfl
  | byt _ => obtain ⟨t, rfl⟩ := r; rfl
  | flt _ => obtain ⟨t, rfl⟩ := r; rfl
  | ref _ => cases r; rfl
  | ty _ => cases r; rfl
theorem RelV.inj {x y : V} {u : Value} (r : RelV x u) (q : RelV y u) : x = y := Option.some.inj (r.abs.symm.trans q.abs)
theorem Vals.inj : ∀ {xs ys : List V} {us : List Value}, Vals xs us → Vals ys us → xs = ys
  | _, _, _, .nil, .nil => rfl
  | _, _, _, .cons r t, .cons r' t' => by rw [r.inj r', Vals.inj t t']
section
variable {X : Cx} {pins : List (Addr × Obj)} {σ : St} {H : Hp} {s : Shared} {a : Addr} {xs ys : List V}
theorem SqL.of {K : PySem.W.Frag} (h : H a = some (.lst xs)) : SqL K H a xs := .inl (.inl h)
theorem SqT.of {K : PySem.W.Frag} (h : H a = some (.tup xs)) : SqT K H a xs := .inl (.inl h)
theorem Inv.list (I : Inv X pins σ H s) (h : SqL X.K H a xs) : ∃ its : List Value, Vals xs its ∧ PlainL s.heap a its.toArray ∧ xs.length ≤ sizeLine := by
  rcases h with h | ⟨o, its, n, hk, hc, hd, hs, hz, r⟩
  · obtain ⟨z, its, n, r, e⟩ := h.ok I.hok
    exact ⟨its, r, ⟨_, n, e, rfl, rfl, rfl⟩, z⟩
  · refine ⟨its.toList, r, ⟨o, n, I.kIn a o hk, hc, hd, by simpa using hs⟩, ?_⟩
    have e := r.length
    simp only [Array.length_toList] at e
    omega
theorem Inv.tuple (I : Inv X pins σ H s) (h : SqT X.K H a xs) : ∃ its : List Value, Vals xs its ∧ IsTup s.heap a its.toArray ∧ xs.length ≤ sizeLine := by
  rcases h with h | ⟨o, its, n, hk, hc, hs, hz, r⟩
  · obtain ⟨z, its, r, p⟩ := h.ok I.hok
    exact ⟨its, r, p, z⟩
  · refine ⟨its.toList, r, ⟨o, I.kIn a o hk, hc, n, by simpa using hs⟩, ?_⟩
    have e := r.length
    simp only [Array.length_toList] at e
    omega
theorem Inv.list_inj (I : Inv X pins σ H s) (h : SqL X.K H a xs) (h' : SqL X.K H a ys) : xs = ys := by
  obtain ⟨its, r, ⟨o, n, e, _, _, d⟩, _⟩ := I.list h
  obtain ⟨its', r', ⟨o', n', e', _, _, d'⟩, _⟩ := I.list h'
  rw [e] at e'; cases e'
  rw [d] at d'
  injection d' with d1 _
  have : its = its' := by simpa using congrArg Array.toList d1
  subst this
  exact r.inj r'
end

/-! ### another wish about exceptions -/
abbrev Cx.wish (X : Cx) (E : Value → Shared → Prop) : Cx := { X with xe := E }
/-- no exception leaves -/
abbrev Cx.nox (X : Cx) : Cx := X.wish fun _ _ => False
theorem Cx.Ok.wish {X : Cx} (ok : X.Ok) (E : Value → Shared → Prop) : (X.wish E).Ok :=
  ⟨ok.mod, ok.kind, ok.glob, ok.blt, ok.above, ok.inj, ok.has, ok.cab, ok.hd, ok.frames, ok.stk, ok.exf, ok.bs, ok.bsz, ok.noex, ok.exfs, ok.funs, ok.frf⟩
theorem Cx.Ok.unwish {X : Cx} {E : Value → Shared → Prop} (ok : (X.wish E).Ok) : X.Ok :=
  ⟨ok.mod, ok.kind, ok.glob, ok.blt, ok.above, ok.inj, ok.has, ok.cab, ok.hd, ok.frames, ok.stk, ok.exf, ok.bs, ok.bsz, ok.noex, ok.exfs, ok.funs, ok.frf⟩
section
variable {X : Cx} {pins : List (Addr × Obj)} {σ : St} {H : Hp} {s : Shared} {E : Value → Shared → Prop}
theorem Inv.wish (I : Inv X pins σ H s) (E : Value → Shared → Prop) : Inv (X.wish E) pins σ H s := ⟨I.ok.wish E, I.os, I.bare, I.base, I.loc, I.cell, I.free, I.freeC, I.pin, I.hok, I.len⟩
theorem Inv.unwish (I : Inv (X.wish E) pins σ H s) : Inv X pins σ H s := ⟨I.ok.unwish, I.os, I.bare, I.base, I.loc, I.cell, I.free, I.freeC, I.pin, I.hok, I.len⟩
theorem SP.unwish {D : Ends} {f : Flow} {s' : Shared} (h : SP (X.wish E) pins D f s') : SP X pins D f s' := by
  cases f with
  | next => obtain ⟨σ', H', I, q⟩ := h; exact ⟨σ', H', I.unwish, q⟩
  | brk => obtain ⟨σ', H', I, q⟩ := h; exact ⟨σ', H', I.unwish, q⟩
  | cont => obtain ⟨σ', H', I, q⟩ := h; exact ⟨σ', H', I.unwish, q⟩
  | ret u => obtain ⟨v, σ', H', I, r, q⟩ := h; exact ⟨v, σ', H', I.unwish, r, q⟩
theorem PSs.nox {st : List Stmt} {t : TS} (h : PSs X.nox st t) : PSs X st t := fun pins s σ H D I hw =>
  wpAny_mono (h pins s σ H D (I.wish _) hw) (fun _ _ q => q.unwish) fun _ _ z => False.elim z
end

/-! ### blocks and small statements -/
section
variable {X : Cx} {st : Stmt} {rest : List Stmt} {t u : TS} {e : Expr} {te : TE} {pos : Pos}
def tNext : TS := fun D σ H => D.nx σ H
def tSeq (t u : TS) : TS := fun D σ H => t { D with nx := u D } σ H
theorem pss_nil : PSs X [] tNext := fun _ _ σ H _ I h => wpAny_execs_nil ⟨σ, H, I, h⟩
theorem pss_cons (h1 : PS X st t) (h2 : PSs X rest u) : PSs X (st :: rest) (tSeq t u) := by
  intro pins s σ H D I h
  refine wpAny_execs_cons (thn (h1 pins s σ H { D with nx := u D } I h) fun f s1 q => ?_)
  cases f with
  | next =>
    obtain ⟨σ', H', I', q⟩ := q
    exact h2 pins s1 σ' H' D I' q
  | ret v => exact q
  | brk => exact q
  | cont => exact q
theorem pss_one (h1 : PS X st t) : PSs X [st] t := by
  intro pins s σ H D I h
  refine wpAny_execs_cons (thn (h1 pins s σ H D I h) fun f s1 q => ?_)
  cases f with
  | next => exact wpAny_execs_nil q
  | ret v => exact q
  | brk => exact q
  | cont => exact q
def tBreak : TS := fun D σ H => D.bk σ H
def tCont : TS := fun D σ H => D.ct σ H
theorem ps_continue : PS X (.Continue pos) tCont := fun _ _ σ H _ I h => wpAny_Continue ⟨σ, H, I, h⟩
/-- in a def's body nothing is shown -/
theorem Inv.quiet {pins : List (Addr × Obj)} {σ : St} {H : Hp} {s : Shared} (I : Inv X pins σ H s) : interactive X.env = false := by simp [interactive, I.ok.kind]
/-- an expression whose value is dropped -/
def tDrop (te : TE) : TS := fun D σ H => te σ H fun _ H1 => D.nx σ H1
theorem ps_expr (he : PE X e te) (hs : swapsWith e none pos.line X.env = pure false := by rfl) : PS X (.Expr e pos) (tDrop te) := by
  intro pins s σ H D I h
  exact wpAny_Expr_any (thn (he pins s σ H _ I h) fun v s1 ⟨x, H1, I1, r1, q1⟩ => ⟨σ, H1, I1, q1⟩) I.quiet hs
def tRet (te : TE) : TS := fun D σ H => te σ H D.rt
theorem ps_ret (he : PE X e te) : PS X (.Return (some e) pos) (tRet te) := by
  intro pins s σ H D I h
  exact wpAny_Return_some (thn (he pins s σ H _ I h) fun v s1 ⟨x, H1, I1, r1, q1⟩ => ⟨x, σ, H1, I1, r1, q1⟩)
def tRetN : TS := fun D _ H => D.rt .non H
def tIfS (c : TT) (t u : TS) : TS := fun D σ H => c σ H fun b H1 => if b = true then t D σ H1 else u D σ H1
theorem ps_if {c : Expr} {a b : List Stmt} {tc : TT} (hc : PT X c tc) (ha : PSs X a t) (hb : PSs X b u) : PS X (.If c a b pos) (tIfS tc t u) := by
  intro pins s σ H D I h
  refine wpAny_If (thn (hc pins s σ H _ I h) fun d s1 ⟨H1, I1, q1⟩ => ?_)
  cases d with
  | true => exact ha pins s1 σ H1 D I1 q1
  | false => exact hb pins s1 σ H1 D I1 q1
/-- code that the proof never comes to -/
def tNever : TS := fun _ _ _ => False
theorem ps_never : PS X st tNever := fun _ _ _ _ _ _ h => h.elim
end

/-! ### targets -/
abbrev TG := V → St → Hp → (St → Hp → Prop) → Prop
abbrev TGs := List V → St → Hp → (St → Hp → Prop) → Prop
def PG (X : Cx) (target : Expr) (t : TG) : Prop :=
  ∀ (pins : List (Addr × Obj)) (s : Shared) (σ : St) (H : Hp) (v : V) (u : Value) (Q : St → Hp → Prop), Inv X pins σ H s → RelV v u → t v σ H Q →
    wpAny (model X.prog X.w) X.A (assign target X.env u) (fun _ s' => ∃ σ' H', Inv X pins σ' H' s' ∧ Q σ' H') X.xe s
/-- several targets, one after another -/
def PGs (X : Cx) (ts : List Expr) (t : TGs) : Prop :=
  ∀ (pins : List (Addr × Obj)) (s : Shared) (σ : St) (H : Hp) (vs : List V) (us : List Value) (Q : St → Hp → Prop), Inv X pins σ H s → Vals vs us → t vs σ H Q →
    wpAny (model X.prog X.w) X.A (assignInOrder ((assignEach ts X.env).map (·.2)) us) (fun _ s' => ∃ σ' H', Inv X pins σ' H' s' ∧ Q σ' H') X.xe s
/-- o[i] = v, by values -/
abbrev TSet := V → V → V → Hp → (Hp → Prop) → Prop
def PSet (X : Cx) (t : TSet) : Prop :=
  ∀ (pins : List (Addr × Obj)) (s : Shared) (σ : St) (H : Hp) (o i v : V) (ov iv u : Value) (Q : Hp → Prop), Inv X pins σ H s → RelV o ov → RelV i iv → RelV v u → t o i v H Q →
    wpAny (model X.prog X.w) X.A (setItem ov iv u) (fun _ s' => ∃ H', Inv X pins σ H' s' ∧ Q H') X.xe s
/-- a op= b, by values -/
abbrev TIp := V → V → Hp → VK → Prop
def PIp (X : Cx) (op : Operator) (t : TIp) : Prop :=
  ∀ (pins : List (Addr × Obj)) (s : Shared) (σ : St) (H : Hp) (x y : V) (v u : Value) (Q : VK), Inv X pins σ H s → RelV x v → RelV y u → t x y H Q →
    wpAny (model X.prog X.w) X.A (inplaceOp op v u) (EP X pins σ Q) X.xe s
section
variable {X : Cx} {pos : Pos}
def gName (i : Nat) : TG := fun v σ H Q => Q (σ.set i (some v)) H
theorem pg_name {i : Nat} {x : Str} (hN : X.N.Nodup) (hi : X.N[i]? = some x) (hx : Loc X.env.scope x) (hf : X.fn x = true ∨ X.env.scope.names.lookup x = some .local := by first | exact .inl rfl | exact .inr rfl | assumption) : PG X (.Name x pos) (gName i) := by
  intro pins s σ H v u Q I r h
  exact wpAny_assign_Name (store_ok I hN hi hx r (fun s' I' => ⟨_, H, I', h⟩) hf)
def gNil : TGs := fun vs σ H Q => vs = [] ∧ Q σ H
def gCons (t : TG) (u : TGs) : TGs := fun vs σ H Q => ∃ v r, vs = v :: r ∧ t v σ H fun σ' H' => u r σ' H' Q
theorem pgs_nil : PGs X [] gNil := by
  intro pins s σ H vs us Q I r h
  obtain ⟨e, h⟩ := h
  subst e
  cases r
  exact assignInOrder_nil ⟨σ, H, I, h⟩
theorem pgs_cons {e : Expr} {es : List Expr} {t : TG} {u : TGs} (h1 : PG X e t) (h2 : PGs X es u)
    (hs : (assignEach (e :: es) X.env).map (·.2) = assign e X.env :: (assignEach es X.env).map (·.2) := by rfl) : PGs X (e :: es) (gCons t u) := by
  intro pins s σ H vs us Q I r h
  obtain ⟨v, vr, e1, h⟩ := h
  subst e1
  cases r with
  | cons r rr =>
    rw [hs]
    refine assignInOrder_cons (thn (h1 pins s σ H _ _ _ I r h) fun _ s1 ⟨σ1, H1, I1, q1⟩ => ?_)
    exact h2 pins s1 σ1 H1 _ _ Q I1 rr q1
/-- (a, b, ..) = a tuple of that length -/
def gTup (K : PySem.W.Frag) (n : Nat) (t : TGs) : TG := fun v σ H Q => ∃ a xs, v = .ref a ∧ SqT K H a xs ∧ xs.length = n ∧ t xs σ H Q
theorem pg_tup {es : List Expr} {k : Nat} {t : TGs} {n : Nat} (hc : X.calm = true) (h : PGs X es t)
    (hn : (assignEach es X.env).length = n := by rfl) (hst : (assignEach es X.env).findIdx? (·.1) = none := by rfl) : PG X (.Tuple es k pos) (gTup X.K n t) := by
  intro pins s σ H v u Q I r hw
  obtain ⟨a, xs, e1, hq, hl, hw⟩ := hw
  subst e1
  cases r
  obtain ⟨its, rv, ht, hz⟩ := I.tuple hq
  refine assign_Tuple_tuple (I.ok.hd hc) ht (by simp [hn, ← hl, rv.length]) hst fun h' hx => ?_
  have I1 : Inv X pins σ H { s with heap := h' } := I.kept (t' := s.toks) fun b o e => hx b o (Nat.ne_of_lt (Heap.lt_size e)) e
  exact h pins _ σ H xs _ Q I1 (by simpa using rv) hw
/-- o[i] = .. -/
def gSub (to ti : TE) (t : TSet) : TG := fun v σ H Q => to σ H fun o H1 => ti σ H1 fun i H2 => t o i v H2 fun H3 => Q σ H3
theorem pg_sub {o i : Expr} {to ti : TE} {t : TSet} (ho : PE X o to) (hi : PE X i ti) (hs : PSet X t)
    (ha : ∀ v, assign (.Subscript o i pos) X.env v = (do
      let ov ← holding [v] (eval o X.env)
      let iv ← holding [v, ov] (eval i X.env)
      standAt pos
      holding [v, ov, iv] (setItem ov iv v)
      release [v, ov, iv] []) := by intro _; rfl) : PG X (.Subscript o i pos) (gSub to ti t) := by
  intro pins s σ H v u Q I r h
  rw [ha]
  refine wpAny_bind (wpAny_holding (thn (ho pins s σ H _ I h) fun ov s1 ⟨x, H1, I1, r1, q1⟩ => ?_))
  refine wpAny_bind (wpAny_holding (thn (hi pins s1 σ H1 _ I1 q1) fun iv s2 ⟨y, H2, I2, r2, q2⟩ => ?_))
  refine wpAny_bind (wpAny_standAt (wpAny_bind (wpAny_holding (thn (hs pins s2 σ H2 x y v ov iv u _ I2 r1 r2 r q2) fun _ s3 ⟨H3, I3, q3⟩ => ?_))))
  exact wpAny_release ⟨σ, H3, I3, q3⟩
/-- target = value -/
def tAsg (te : TE) (g : TG) : TS := fun D σ H => te σ H fun x H1 => g x σ H1 D.nx
theorem ps_asg {tg e : Expr} {te : TE} {g : TG} (he : PE X e te) (hg : PG X tg g) (hs : swapsWithSole [tg] e pos.line X.env = pure false := by rfl) (hw : swappedStores [tg] e X.env = pure none := by rfl)
    (h1 : (assignEach [tg] X.env).map (·.2) = [assign tg X.env] := by rfl) : PS X (.Assign [tg] e pos) (tAsg te g) := by
  intro pins s σ H D I h
  refine wpAny_Assign_stores (thn (he pins s σ H _ I h) fun v s1 ⟨x, H1, I1, r1, q1⟩ => ?_) hs hw
  rw [h1]
  exact thn (hg pins s1 σ H1 x v _ I1 r1 q1) fun _ s2 q => q
/-- name = value -/
theorem ps_set {i : Nat} {x : Str} {e : Expr} {te : TE} {pos' : Pos} (hN : X.N.Nodup) (hi : X.N[i]? = some x) (hx : Loc X.env.scope x) (he : PE X e te) (hs : swapsWith e (some (.Name x pos')) pos.line X.env = pure false := by rfl) (hf : X.fn x = true ∨ X.env.scope.names.lookup x = some .local := by first | exact .inl rfl | exact .inr rfl | assumption) :
    PS X (.Assign [.Name x pos'] e pos) (tAsg te (gName i)) := by
  intro pins s σ H D I h
  refine wpAny_Assign_Name (thn (he pins s σ H _ I h) fun v s1 ⟨y, H1, I1, r1, q1⟩ => ?_) hs
  exact store_ok I1 hN hi hx r1 (fun s2 I2 => ⟨_, H1, I2, q1⟩) hf
/-- a, b = x, y with plain local names: stored from the right; the pair itself is not tracked (the opening rows as in PyProof/Rows/TupAssign.lean:23) -/
def tPar (i j : Nat) (ta : TA) : TS := fun D σ H => ta σ H fun vs H1 => ∃ v w, vs = [v, w] ∧ D.nx ((σ.set i (some v)).set j (some w)) H1
/-- name op= e -/
def tAug (i : Nat) (te : TE) (ti : TIp) : TS := fun D σ H => ∃ x, σ[i]? = some (some x) ∧ te σ H fun y H1 => ti x y H1 fun z H2 => D.nx (σ.set i (some z)) H2
theorem ps_aug {i : Nat} {x : Str} {e : Expr} {te : TE} {op : Operator} {ti : TIp} {pos' : Pos} (hN : X.N.Nodup) (hi : X.N[i]? = some x) (hx : Loc X.env.scope x) (he : PE X e te) (ho : PIp X op ti) (hf : X.fn x = true ∨ X.env.scope.names.lookup x = some .local := by first | exact .inl rfl | exact .inr rfl | assumption) :
    PS X (.AugAssign (.Name x pos') op e pos) (tAug i te ti) := by
  intro pins s σ H D I h
  obtain ⟨v, e1, h⟩ := h
  obtain ⟨m, hn, hl⟩ := I.loc
  have vis : Vis X.env.scope x := by rcases hx with k | k; exact .inl k; exact .inr (.inl k)
  obtain ⟨u, r, l⟩ := hl i x v hi e1 vis
  refine wpAny_AugAssign_Name ?_
  have go : wpAny (model X.prog X.w) X.A (eval e X.env) (fun w s₂ => wpAny (model X.prog X.w) X.A (inplaceOp op u w) (fun r s₃ => wpAny (model X.prog X.w) X.A (storeName X.env x r) (fun _ => SP X pins D .next) X.xe s₃) X.xe s₂) X.xe s := by
    refine thn (he pins s σ H _ I h) fun w s1 ⟨y, H1, I1, r1, q1⟩ => ?_
    refine thn (ho pins s1 σ H1 v y u w _ I1 r r1 q1) fun z s2 ⟨zv, H2, I2, r2, q2⟩ => ?_
    exact store_ok I2 hN hi hx r2 (fun s3 I3 => ⟨_, H2, I3, q2⟩) hf
  rcases l with ⟨hk, hm⟩ | ⟨hk, c, hc, hcell⟩
  · exact wpAny_loadName_local I.ok.kind hk hn hm go
  · rcases hk with hk | hk
    · exact wpAny_loadName_cell I.ok.kind hk hc hcell go
    · rcases hx with k | k
      · have : X.env.scope.names.lookup x = some .free := hk
        rw [k] at this; cases this
      · have : X.env.scope.names.lookup x = some .free := hk
        rw [k] at this; cases this
/-- o[i] op= e -/
def tAugS (to ti te : TE) (tget : V → V → Hp → VK → Prop) (tip : TIp) (tset : TSet) : TS := fun D σ H => to σ H fun o H1 => ti σ H1 fun i H2 => tget o i H2 fun x H3 => te σ H3 fun y H4 => tip x y H4 fun z H5 => tset o i z H5 fun H6 => D.nx σ H6
/-- o[i], by values -/
def PGet (X : Cx) (t : V → V → Hp → VK → Prop) : Prop :=
  ∀ (pins : List (Addr × Obj)) (s : Shared) (σ : St) (H : Hp) (o i : V) (ov iv : Value) (Q : VK), Inv X pins σ H s → RelV o ov → RelV i iv → t o i H Q →
    wpAny (model X.prog X.w) X.A (getItem ov iv) (EP X pins σ Q) X.xe s
/-- ints -/
def ipI (f : Int → Int → Int) : TIp := fun x y H Q => ∃ i j, x = .int i ∧ y = .int j ∧ Q (.int (f i j)) H
theorem ip_add : PIp X .Add (ipI fun i j => i + j) := by
  intro pins s σ H x y v u Q I r1 r2 h
  obtain ⟨i, j, e1, e2, q⟩ := h
  subst e1; subst e2
  obtain ⟨t, rfl⟩ := r1
  obtain ⟨t', rfl⟩ := r2
  exact iadd_int ⟨.int _, H, I.tok _, ⟨_, rfl⟩, q⟩
end

/-! ### while -/
section
variable {X : Cx} {pos : Pos}
/-- the invariant W with its measure -/
def tWhile (c : TT) (tb : TS) : TS := fun D σ H => ∃ W : Nat → St → Hp → Prop, (∃ m, W m σ H) ∧ ∀ m σ H, W m σ H →
  c σ H fun b H1 => if b = true then ∃ N : St → Hp → Prop, (∀ σ' H', N σ' H' → ∃ m', m' < m ∧ W m' σ' H') ∧ tb { D with nx := N, ct := N, bk := D.nx } σ H1 else D.nx σ H1
theorem ps_while {c : Expr} {body : List Stmt} {tc : TT} {tb : TS} (hp : PassesOwn (model X.prog X.w) X.A X.env X.xe) (hc : PT X c tc) (hb : PSs X body tb) : PS X (.While c body [] pos) (tWhile tc tb) := by
  intro pins s σ H D I h
  obtain ⟨W, ⟨m0, w0⟩, turn⟩ := h
  refine wpAny_While (codeAny_whileLoop (fun n s' => ∃ σ' H', Inv X pins σ' H' s' ∧ W n σ' H') ?_ m0 ⟨σ, H, I, w0⟩)
  rintro n s1 ⟨σ1, H1, I1, w1⟩
  refine wpAny_passesOwn hp (thn (hc pins s1 σ1 H1 _ I1 (turn n σ1 H1 w1)) fun b s2 ⟨H2, I2, q2⟩ => ?_)
  cases b with
  | true =>
    obtain ⟨N, hN, q2⟩ := q2
    rw [if_pos rfl]
    refine wpAny_passesOwn hp (thn (hb pins s2 σ1 H2 _ I2 q2) fun f s3 q3 => ?_)
    cases f with
    | next =>
      obtain ⟨σ3, H3, I3, n3⟩ := q3
      obtain ⟨m', hm, w3⟩ := hN σ3 H3 n3
      exact ⟨m', hm, σ3, H3, I3, w3⟩
    | cont =>
      obtain ⟨σ3, H3, I3, n3⟩ := q3
      obtain ⟨m', hm, w3⟩ := hN σ3 H3 n3
      exact ⟨m', hm, σ3, H3, I3, w3⟩
    | brk => exact q3
    | ret v => exact q3
  | false =>
    rw [if_neg Bool.false_ne_true]
    exact wpAny_execs_nil ⟨σ1, H2, I2, q2⟩
end

/-! ### what a loop or a comprehension walks -/
/-- at turn i: it yields x (the heap may grow), or it stops -/
structure It where
  go : Nat → Hp → Prop
  yld : Nat → Hp → V → Hp → Prop
  stop : Nat → Hp → Prop
/-- the iterator's own objects may turn: they are not the frame's, not pinned, younger than the entry (or a comprehension's own) -/
def FpOk (X : Cx) (pins : List (Addr × Obj)) (H : Hp) (b : Addr) : Prop :=
  H b = none ∧ b ≠ X.env.locals ∧ b ∉ X.fs ∧ (b ∈ X.ex ∨ X.s₀.heap.objs.size ≤ b) ∧ (∀ x c, X.env.cells.lookup x = some c → c ≠ b) ∧ ∀ p ∈ X.pn ++ pins, p.1 ≠ b
theorem Inv.fpOk {X : Cx} {pins : List (Addr × Obj)} {σ : St} {H H' : Hp} {s : Shared} {b : Addr} (I : Inv X pins σ H s) (hb : s.heap.objs.size ≤ b) (hn : H' b = none) : FpOk X pins H' b := by
  refine ⟨hn, Nat.ne_of_gt (Nat.lt_of_lt_of_le I.lt hb), I.nofs hb, .inr (Nat.le_trans I.sz hb), fun x c e z => ?_, fun p hp z => ?_⟩
  · obtain ⟨v, q⟩ := I.cell x c e
    exact absurd (Nat.lt_of_lt_of_le q.lt (by rw [z]; exact hb)) (Nat.lt_irrefl _)
  · exact absurd (Nat.lt_of_lt_of_le (Heap.lt_size (I.pin p hp).1) (by rw [z]; exact hb)) (Nat.lt_irrefl _)
structure Turn (P : Program) (w : World) (K : PySem.W.Frag) (tg : Expr) (J : It) (fp : List Addr) (it : Addr) (tn : Nat → Heap → Prop) : Prop where
  mem : it ∈ fp
  obj : ∀ i h, tn i h → ∀ b ∈ fp, ∃ o, h.get? b = some o ∧ ∀ v, o.data ≠ .cell v
  keep : ∀ i h h', tn i h → (∀ b ∈ fp, ∀ o, h.get? b = some o → h'.get? b = some o) → tn i h'
  item : ∀ (X : Cx), X.prog = P → X.w = w → X.K = K → X.calm = true → ∀ (i : Nat) (pins : List (Addr × Obj)) (s : Shared) (σ : St) (H : Hp) (E : Value → Shared → Prop), Inv X pins σ H s → (∀ b ∈ fp, FpOk X pins H b) → tn i s.heap → J.go i H →
    wpAny (model P w) X.A (pyNext (.ref it)) (fun r s1 => ∃ u, r = some u ∧
      wpAny (model P w) X.A (letOwnedTupleGo tg (.ref it) u) (fun _ s2 => ∃ x H', Inv X pins σ H' s2 ∧ RelV x u ∧ J.yld i H x H' ∧ tn (i + 1) s2.heap ∧ ∀ b ∈ fp, H' b = none) E s1) E s
  done : ∀ (X : Cx), X.prog = P → X.w = w → X.K = K → X.calm = true → ∀ (i : Nat) (pins : List (Addr × Obj)) (s : Shared) (σ : St) (H : Hp) (E : Value → Shared → Prop), Inv X pins σ H s → (∀ b ∈ fp, FpOk X pins H b) → tn i s.heap → J.stop i H →
    wpAny (model P w) X.A (pyNext (.ref it)) (fun r s1 => r = none ∧ Inv X pins σ H s1) E s
  self : ∀ (A : Around) (i : Nat) (s : Shared) (Q : Value → Shared → Prop) (E : Value → Shared → Prop), tn i s.heap → Q (.ref it) s → wpAny (model P w) A (pyIter (.ref it)) Q E s
abbrev TI := St → Hp → (It → Hp → Prop) → Prop
/-- an iterator has come -/
def PIE (X : Cx) (pins : List (Addr × Obj)) (σ : St) (tg : Expr) (R : It → Hp → Prop) (itv : Value) (s2 : Shared) : Prop :=
  ∃ (it : Addr) (fp : List Addr) (tn : Nat → Heap → Prop) (J : It) (H' : Hp), itv = .ref it ∧ Inv X pins σ H' s2 ∧ Turn X.prog X.w X.K tg J fp it tn ∧ tn 0 s2.heap ∧ (∀ b ∈ fp, FpOk X pins H' b) ∧ R J H'
def PI (X : Cx) (tg iter : Expr) (wi : TI) : Prop :=
  ∀ (pins : List (Addr × Obj)) (s : Shared) (σ : St) (H : Hp) (R : It → Hp → Prop), Inv X pins σ H s → wi σ H R →
    wpAny (model X.prog X.w) X.A (eval iter X.env) (fun v s1 => wpAny (model X.prog X.w) X.A (pyIter v) (PIE X pins σ tg R) X.xe s1) X.xe s

/-- the step ahead of the store is nothing for an iterator that keeps no tuple -/
theorem go_of {M : Model} {A : Around} {E : Value → Shared → Prop} {s : Shared} {tg : Expr} {it : Addr} {u : Value} {o : Obj} {n : String} {vs : Array Value} {Q : Unit → Shared → Prop} (ho : s.heap.get? it = some o) (hc : o.cls = .type n) (hd : o.data = .fields vs)
    (hn : ["enumerate", "zip", "dict_itemiterator", "dict_reverseitemiterator", "odict_iterator", "itertools.zip_longest", "itertools.pairwise"].contains n = false) (hQ : Q () s) : wpAny M A (letOwnedTupleGo tg (.ref it) u) Q E s := by
  unfold letOwnedTupleGo
  cases tg <;> first
    | exact wpAny_pure hQ
    | (cases u <;> first
        | exact wpAny_pure hQ
        | (refine wpAny_bind (wpAny_load ho ?_)
           rw [hc, hd]
           show wpAny M A (if (["enumerate", "zip", "dict_itemiterator", "dict_reverseitemiterator", "odict_iterator", "itertools.zip_longest", "itertools.pairwise"].contains n && vs[0]? == some (rawInt _)) = true then _ else _) Q E s
           rw [if_neg (by intro h; rw [hn, Bool.false_and] at h; cases h)]
           exact wpAny_pure hQ))

/-- the list at a, as it stands at each turn (a loop may append to it) -/
def Itl (K : PySem.W.Frag) (a : Addr) : It :=
  ⟨fun i H => ∃ xs x, SqL K H a xs ∧ xs[i]? = some x, fun i H x H' => H' = H ∧ ∀ xs, SqL K H a xs → xs[i]? = some x, fun i H => ∃ xs, SqL K H a xs ∧ xs.length ≤ i⟩
def Itt (K : PySem.W.Frag) (a : Addr) : It :=
  ⟨fun i H => ∃ xs x, SqT K H a xs ∧ xs[i]? = some x, fun i H x H' => H' = H ∧ ∀ xs, SqT K H a xs → xs[i]? = some x, fun i H => ∃ xs, SqT K H a xs ∧ xs.length ≤ i⟩
/-- lo, lo + 1, .. (n of them) -/
def Itr (lo : Int) (n : Nat) : It := ⟨fun i _ => i < n, fun i H x H' => H' = H ∧ x = .int (lo + i), fun i _ => n ≤ i⟩
theorem turn_list {P : Program} {w : World} {K : PySem.W.Frag} {tg : Expr} (a it : Addr) : Turn P w K tg (Itl K a) [it] it (fun i h => h.IsListIter it a i) where
  mem := by simp
  obj := fun i h st b hb => by
    have e : b = it := by simpa using hb
    subst e
    obtain ⟨o, e, c, d⟩ := st
    exact ⟨o, e, fun v z => by rw [d] at z; cases z⟩
  keep := fun i h h' st k => st.at fun o e => k it (by simp) o e
  item := by
    intro X hP hw hK hc i pins s σ H E I hf st hg
    subst hP hw hK
    obtain ⟨xs, x, hq, hx⟩ := hg
    obtain ⟨its, rv, p, hz⟩ := I.list hq
    obtain ⟨u, hu, ru⟩ := rv.get hx
    obtain ⟨f0, f1, f2, f3, f4, f5⟩ := hf it (by simp)
    refine wpAny_pyNext_list_item st p.isList (x := u) (by simpa using hu) fun h' st' sb => ?_
    have I1 : Inv X pins σ H { s with heap := h' } := I.turned (t' := s.toks) (fun b o hb e => (sb.2 b hb).trans e) f0 f1 f3 f4 f5
    obtain ⟨o, e, c, d⟩ := id st'
    exact ⟨u, rfl, go_of (s := { s with heap := h' }) e c d (by decide) ⟨x, H, I1, ru, ⟨rfl, fun ys hy => by rw [I.list_inj hy hq]; exact hx⟩, st', fun b hb => (hf b hb).1⟩⟩
  done := by
    intro X hP hw hK hc i pins s σ H E I hf st hg
    subst hP hw hK
    obtain ⟨xs, hq, hx⟩ := hg
    obtain ⟨its, rv, p, hz⟩ := I.list hq
    obtain ⟨f0, f1, f2, f3, f4, f5⟩ := hf it (by simp)
    have hl := rv.length
    exact wpAny_pyNext_list_end (I.ok.hd hc) st p.isList (by simp; omega) fun h' eb => ⟨rfl, I.turned (t' := s.toks) (fun b o hb e => eb b o hb e) f0 f1 f3 f4 f5⟩
  self := fun _ _ _ _ _ st h => wpAny_pyIter_listiter st h
theorem turn_range {P : Program} {w : World} {K : PySem.W.Frag} {tg : Expr} (it : Addr) (lo : Int) (n : Nat) : Turn P w K tg (Itr lo n) [it] it (fun i h => IsRangeIter h it (lo + (i : Nat) * 1) ((n : Int) - (i : Nat)) 1) where
  mem := by simp
  obj := fun i h st b hb => by
    have e : b = it := by simpa using hb
    subst e
    exact ⟨_, st, fun v z => by
      have z' : Data.fields _ = Data.cell v := z
      cases z'⟩
  keep := fun i h h' st k => k it (by simp) _ st
  item := by
    intro X hP hw hK hc i pins s σ H E I hf st hg
    subst hP hw hK
    obtain ⟨f0, f1, f2, f3, f4, f5⟩ := hf it (by simp)
    have W := Walks.range (prog := X.prog) (w := X.w) (I.ok.hd hc) it lo 1 n
    refine W.item i s _ _ hg st fun v h' tk hv st' kk => ?_
    obtain ⟨t, rfl⟩ := hv
    have I1 : Inv X pins σ H { s with heap := h', toks := tk } := I.turned (fun b o hb e => kk b o (by simpa using hb) e) f0 f1 f3 f4 f5
    refine ⟨_, rfl, go_of (s := { s with heap := h', toks := tk }) (n := "range_iterator") st' rfl rfl (by decide) ⟨.int (lo + i), H, I1, ⟨t, ?_⟩, ⟨rfl, rfl⟩, st', fun b hb => (hf b hb).1⟩⟩
    rw [Int.mul_one]
  done := by
    intro X hP hw hK hc i pins s σ H E I hf st hg
    subst hP hw hK
    obtain ⟨f0, f1, f2, f3, f4, f5⟩ := hf it (by simp)
    exact wpAny_pyNext_range_end (I.ok.hd hc) st (by have : n ≤ i := hg; omega) fun h' eb => ⟨rfl, I.turned (t' := s.toks) (fun b o hb e => eb b o hb e) f0 f1 f3 f4 f5⟩
  self := fun _ _ _ _ _ st h => wpAny_pyIter_rangeiter st h
end L2

namespace L2
open PySem PySem.Spec PyProof.Rows
section
variable {X : Cx} {tg : Expr}
def iList (K : PySem.W.Frag) (tl : TE) : TI := fun σ H R => tl σ H fun x H1 => ∃ a, x = .ref a ∧ (∃ xs, SqL K H1 a xs) ∧ R (Itl K a) H1
def iTup (K : PySem.W.Frag) (tl : TE) : TI := fun σ H R => tl σ H fun x H1 => ∃ a, x = .ref a ∧ (∃ xs, SqT K H1 a xs) ∧ R (Itt K a) H1
theorem pi_list {l : Expr} {tl : TE} (hl : PE X l tl) : PI X tg l (iList X.K tl) := by
  intro pins s σ H R I h
  refine thn (hl pins s σ H _ I h) fun v s1 ⟨x, H1, I1, r1, q1⟩ => ?_
  obtain ⟨a, e, ⟨xs, hq⟩, q⟩ := q1
  subst e
  cases r1
  obtain ⟨its, rv, p, hz⟩ := I1.list hq
  refine wpAny_pyIter_list p.isList ?_
  refine ⟨s1.heap.objs.size, [s1.heap.objs.size], _, _, H1, rfl, I1.kept (t' := s1.toks) fun b o e => Heap.get?_push_of_some _ e, turn_list a _, ⟨_, Heap.get?_push_size _ rfl, rfl, rfl⟩, fun b hb => ?_, q⟩
  have e : b = s1.heap.objs.size := by simpa using hb
  subst e
  exact I1.fpOk (Nat.le_refl _) (I1.hok.fresh (Nat.le_refl _))
/-- a range object just made, walked -/
theorem range_it {pins : List (Addr × Obj)} {σ : St} {H : Hp} {s : Shared} {R : It → Hp → Prop} {E : Value → Shared → Prop} {lo hi : Int} {t u v : Tok} {tk : Nat} (I : Inv X pins σ H s) (h1 : -(2 ^ 62) ≤ lo) (h2 : lo < 2 ^ 62) (h3 : -(2 ^ 62) ≤ hi) (h4 : hi < 2 ^ 62)
    (q : R (Itr lo (hi - lo).toNat) H) : wpAny (model X.prog X.w) X.A (pyIter (.ref s.heap.objs.size)) (PIE X pins σ tg R) E { s with heap := s.heap.push { cls := .type "range", data := .fields #[.int lo t, .int hi u, .int 1 v] }, toks := tk } := by
  refine wpAny_pyIter_range (IsRange.new ..) (small_one h1 h2 h3 h4) ?_
  have I1 : Inv X pins σ H { s with heap := s.heap.push { cls := .type "range", data := .fields #[.int lo t, .int hi u, .int 1 v] }, toks := tk } := I.kept fun b o e => Heap.get?_push_of_some _ e
  refine ⟨(s.heap.push { cls := .type "range", data := .fields #[.int lo t, .int hi u, .int 1 v] }).objs.size, [(s.heap.push { cls := .type "range", data := .fields #[.int lo t, .int hi u, .int 1 v] }).objs.size], _, _, H, rfl,
    I1.kept (t' := tk) fun b o e => Heap.get?_push_of_some _ e, turn_range _ lo (hi - lo).toNat, ?_, fun b hb => ?_, q⟩
  · have e1 : lo + ((0 : Nat) : Int) * 1 = lo := by simp
    have e2 : (((hi - lo).toNat : Nat) : Int) - ((0 : Nat) : Int) = Builtin.Range.rangeSize lo hi 1 := by rw [rangeSize_one]; split <;> omega
    show IsRangeIter _ _ (lo + ((0 : Nat) : Int) * 1) ((((hi - lo).toNat : Nat) : Int) - ((0 : Nat) : Int)) 1
    rw [e1, e2]
    exact Heap.get?_push_size _ rfl
  · have e : b = (s.heap.push { cls := .type "range", data := .fields #[.int lo t, .int hi u, .int 1 v] }).objs.size := by simpa using hb
    subst e
    exact I1.fpOk (Nat.le_refl _) (I1.hok.fresh (Nat.le_refl _))
def iRng1 (ta : TA) : TI := fun σ H R => ta σ H fun vs H1 => ∃ j : Int, vs = [.int j] ∧ -(2 ^ 62) ≤ j ∧ j < 2 ^ 62 ∧ R (Itr 0 j.toNat) H1
def iRng2 (ta : TA) : TI := fun σ H R => ta σ H fun vs H1 => ∃ i j : Int, vs = [.int i, .int j] ∧ (-(2 ^ 62) ≤ i ∧ i < 2 ^ 62 ∧ -(2 ^ 62) ≤ j ∧ j < 2 ^ 62) ∧ R (Itr i (j - i).toNat) H1
theorem pi_range1 {a : Expr} {ta : TA} {p pos : Pos} (hg : Gl X "range") (hm : X.mg "range" = none) (ha : PA X [a] ta) (hs : starEach [a] X.env = [(false, eval a X.env)] := by rfl) : PI X tg (.Call (.Name "range" p) [a] [] pos) (iRng1 ta) := by
  intro pins s σ H R I h
  refine Call_ (ld_blt I hg hm boot_range (PyProof.Rows.callWith_type1 (thn (ha pos pins s σ H _ I h) fun us s1 ⟨vs, H1, I1, r1, q1⟩ => ?_) hs rfl))
  obtain ⟨j, e, q1, q2, q⟩ := q1
  subst e
  cases r1 with
  | cons r rr =>
    cases rr
    obtain ⟨t, rfl⟩ := r
    exact call_range_1 (range_it I1 (by omega) (by omega) q1 q2 (by simpa using q))
/-! ### for -/
/-- W: the invariant by the turn and a measure; N: what the body is to reach -/
def tFor (wi : TI) (g : TG) (tb : TS) : TS := fun D σ H => wi σ H fun J H1 => ∃ W : Nat → Nat → St → Hp → Prop, (∃ m, W 0 m σ H1) ∧ ∀ i m σ H, W i m σ H →
  (J.stop i H ∧ D.nx σ H) ∨ (J.go i H ∧ ∃ N : St → Hp → Prop, (∀ σ' H', N σ' H' → ∃ m', m' < m ∧ W (i + 1) m' σ' H') ∧ ∀ x H', J.yld i H x H' → g x σ H' fun σ2 H2 => tb { D with nx := N, ct := N, bk := D.nx } σ2 H2)
/-- the records at fp as they stand -/
def pinsAt (fp : List Addr) (h : Heap) : List (Addr × Obj) := fp.filterMap fun b => (h.get? b).map fun o => (b, o)
theorem mem_pinsAt {fp : List Addr} {h : Heap} {b : Addr} {o : Obj} (hb : b ∈ fp) (e : h.get? b = some o) : (b, o) ∈ pinsAt fp h := List.mem_filterMap.mpr ⟨b, hb, by rw [e]; rfl⟩
theorem of_pinsAt {fp : List Addr} {h : Heap} {p : Addr × Obj} (hp : p ∈ pinsAt fp h) : p.1 ∈ fp ∧ h.get? p.1 = some p.2 := by
  obtain ⟨b, hb, e⟩ := List.mem_filterMap.mp hp
  cases q : h.get? b with
  | none => rw [q] at e; cases e
  | some o =>
    rw [q] at e
    have e' : (b, o) = p := Option.some.inj e
    subst e'
    exact ⟨hb, q⟩
theorem Inv.pinned {pins : List (Addr × Obj)} {σ : St} {H : Hp} {s : Shared} {fp : List Addr} (I : Inv X pins σ H s) (hf : ∀ b ∈ fp, FpOk X pins H b) (ho : ∀ b ∈ fp, ∃ o, s.heap.get? b = some o ∧ ∀ v, o.data ≠ .cell v) : Inv X (pins ++ pinsAt fp s.heap) σ H s :=
  I.pins_of fun p hp => (List.mem_append.mp hp).elim (fun z => I.pin p (List.mem_append_right _ z)) fun z => by
    obtain ⟨hb, e⟩ := of_pinsAt z
    obtain ⟨f0, f1, f2, _⟩ := hf p.1 hb
    obtain ⟨o, e', d⟩ := ho p.1 hb
    rw [e] at e'; cases e'
    exact ⟨e, f0, f1, f2, d⟩
theorem Inv.unpinned {pins pl : List (Addr × Obj)} {σ : St} {H : Hp} {s : Shared} (I : Inv X (pins ++ pl) σ H s) : Inv X pins σ H s := I.pins_of fun p hp => I.pin p (List.mem_append_right _ (List.mem_append_left _ hp))
theorem ps_for {iter : Expr} {body : List Stmt} {wi : TI} {g : TG} {tb : TS} {pos : Pos} (hp : PassesOwn (model X.prog X.w) X.A X.env X.xe) (hc : X.calm = true) (hi : PI X tg iter wi) (hg : PG X tg g) (hb : PSs X body tb)
    (hs : ∀ x, foldedSetIterable iter X.env x = pure x := by intro _; rfl) : PS X (.For tg iter body [] pos) (tFor wi g tb) := by
  intro pins s σ H D I h
  refine wpAny_For (thn (hi pins s σ H _ I h) fun v s1 h1 => thn h1 fun itv s2 h2 => ?_) hs
  obtain ⟨it, fp, tn, J, H2, e, I2, T, st2, f2, W, ⟨m0, w0⟩, turn⟩ := h2
  subst e
  -- what stays true of the iterator's objects through the loop
  have stat : ∀ {H' : Hp}, (∀ b ∈ fp, H' b = none) → ∀ b ∈ fp, FpOk X pins H' b := fun hn b hb => ⟨hn b hb, (f2 b hb).2⟩
  refine codeAny_forLoop_any (fun n s' => ∃ i σ' H', Inv X pins σ' H' s' ∧ tn i s'.heap ∧ (∀ b ∈ fp, H' b = none) ∧ W i n σ' H') ?_ m0 ⟨0, σ, H2, I2, st2, fun b hb => (f2 b hb).1, w0⟩
  rintro n s3 ⟨i, σ3, H3, I3, st3, fr3, w3⟩
  rcases turn i n σ3 H3 w3 with ⟨stop, qn⟩ | ⟨go, N, hN, step⟩
  · refine wpAny_passesOwn hp (thn (T.done X rfl rfl rfl hc i pins s3 σ3 H3 X.xe I3 (stat fr3) st3 stop) fun r s4 ⟨hr, I4⟩ => ?_)
    subst hr
    exact wpAny_execs_nil ⟨σ3, H3, I4, qn⟩
  · refine wpAny_passesOwn hp (thn (T.item X rfl rfl rfl hc i pins s3 σ3 H3 X.xe I3 (stat fr3) st3 go) fun r s4 ⟨u, hr, h4⟩ => ?_)
    subst hr
    refine wpAny_passesOwn hp (thn h4 fun _ s5 ⟨x, H5, I5, r5, y5, st5, fr5⟩ => ?_)
    have I5' := I5.pinned (stat fr5) (T.obj _ _ st5)
    refine wpAny_passesOwn hp (thn (hg _ s5 σ3 H5 x u _ I5' r5 (step x H5 y5)) fun _ s6 ⟨σ6, H6, I6, q6⟩ => ?_)
    refine wpAny_passesOwn hp (thn (hb _ s6 σ6 H6 _ I6 q6) fun f s7 q7 => ?_)
    have again : ∀ {σ7 : St} {H7 : Hp}, Inv X (pins ++ pinsAt fp s5.heap) σ7 H7 s7 → N σ7 H7 → ∃ m, m < n ∧ ∃ i σ' H', Inv X pins σ' H' s7 ∧ tn i s7.heap ∧ (∀ b ∈ fp, H' b = none) ∧ W i m σ' H' := fun {σ7 H7} I7 n7 => by
      obtain ⟨m', hm, w7⟩ := hN σ7 H7 n7
      refine ⟨m', hm, i + 1, σ7, H7, I7.unpinned, T.keep _ _ _ st5 fun b hb o e => (I7.pin (b, o) (List.mem_append_right _ (List.mem_append_right _ (mem_pinsAt hb e)))).1, fun b hb => ?_, w7⟩
      obtain ⟨o, e, d⟩ := T.obj _ _ st5 b hb
      exact (I7.pin (b, o) (List.mem_append_right _ (List.mem_append_right _ (mem_pinsAt hb e)))).2.1
    cases f with
    | next => obtain ⟨σ7, H7, I7, n7⟩ := q7; exact again I7 n7
    | cont => obtain ⟨σ7, H7, I7, n7⟩ := q7; exact again I7 n7
    | brk => obtain ⟨σ7, H7, I7, q7⟩ := q7; exact ⟨σ7, H7, I7.unpinned, q7⟩
    | ret v => obtain ⟨x7, σ7, H7, I7, r7, q7⟩ := q7; exact ⟨x7, σ7, H7, I7.unpinned, r7, q7⟩
end

/-! ### the forms one uses -/
/-- over a list that the body leaves as it is -/
theorem for_list {K : PySem.W.Frag} {a : Addr} {xs : List V} {g : TG} {tb : TS} {D : Ends} {σ : St} {H : Hp} (Pv : Nat → St → Hp → Prop) (h0 : Pv 0 σ H) (hl : ∀ i σ H, i ≤ xs.length → Pv i σ H → SqL K H a xs)
    (hs : ∀ i x σ H, xs[i]? = some x → Pv i σ H → g x σ H fun σ2 H2 => tb { D with nx := Pv (i + 1), ct := Pv (i + 1), bk := D.nx } σ2 H2) (hd : ∀ σ H, Pv xs.length σ H → D.nx σ H) :
    ∃ W : Nat → Nat → St → Hp → Prop, (∃ m, W 0 m σ H) ∧ ∀ i m σ H, W i m σ H →
      ((Itl K a).stop i H ∧ D.nx σ H) ∨ ((Itl K a).go i H ∧ ∃ N : St → Hp → Prop, (∀ σ' H', N σ' H' → ∃ m', m' < m ∧ W (i + 1) m' σ' H') ∧ ∀ x H', (Itl K a).yld i H x H' → g x σ H' fun σ2 H2 => tb { D with nx := N, ct := N, bk := D.nx } σ2 H2) := by
  refine ⟨fun i m σ H => m = xs.length - i ∧ i ≤ xs.length ∧ Pv i σ H, ⟨xs.length, by simp, Nat.zero_le _, h0⟩, ?_⟩
  rintro i m σ H ⟨rfl, hi, p⟩
  have q := hl i σ H hi p
  by_cases hlt : i < xs.length
  · refine .inr ⟨⟨xs, xs[i], q, by simp [hlt]⟩, Pv (i + 1), fun σ' H' p' => ⟨xs.length - (i + 1), by omega, rfl, hlt, p'⟩, fun x H' y => ?_⟩
    obtain ⟨e, y⟩ := y
    subst e
    exact hs i x σ _ (y xs q) p
  · have e : i = xs.length := by omega
    subst e
    exact .inl ⟨⟨xs, q, Nat.le_refl _⟩, hd σ H p⟩
theorem for_range {lo : Int} {n : Nat} {g : TG} {tb : TS} {D : Ends} {σ : St} {H : Hp} (Pv : Nat → St → Hp → Prop) (h0 : Pv 0 σ H)
    (hs : ∀ i σ H, i < n → Pv i σ H → g (.int (lo + i)) σ H fun σ2 H2 => tb { D with nx := Pv (i + 1), ct := Pv (i + 1), bk := D.nx } σ2 H2) (hd : ∀ σ H, Pv n σ H → D.nx σ H) :
    ∃ W : Nat → Nat → St → Hp → Prop, (∃ m, W 0 m σ H) ∧ ∀ i m σ H, W i m σ H →
      ((Itr lo n).stop i H ∧ D.nx σ H) ∨ ((Itr lo n).go i H ∧ ∃ N : St → Hp → Prop, (∀ σ' H', N σ' H' → ∃ m', m' < m ∧ W (i + 1) m' σ' H') ∧ ∀ x H', (Itr lo n).yld i H x H' → g x σ H' fun σ2 H2 => tb { D with nx := N, ct := N, bk := D.nx } σ2 H2) := by
  refine ⟨fun i m σ H => m = n - i ∧ i ≤ n ∧ Pv i σ H, ⟨n, by simp, Nat.zero_le _, h0⟩, ?_⟩
  rintro i m σ H ⟨rfl, hi, p⟩
  by_cases hlt : i < n
  · refine .inr ⟨hlt, Pv (i + 1), fun σ' H' p' => ⟨n - (i + 1), by omega, rfl, hlt, p'⟩, fun x H' y => ?_⟩
    obtain ⟨e, y⟩ := y
    subst e y
    exact hs i σ _ hlt p
  · have e : i = n := by omega
    subst e
    exact .inl ⟨Nat.le_refl _, hd σ H p⟩
end L2

namespace L2
open PySem PySem.Spec PyProof.Rows

abbrev R2 := V → V → Hp → VK → Prop
/-- a two-place operation on values: f is binaryOp op, inplaceOp op or compareOp op -/
def OpR (X : Cx) (f : Value → Value → Sem Value) (r : R2) : Prop :=
  ∀ (pins : List (Addr × Obj)) (s : Shared) (σ : St) (H : Hp) (x y : V) (v u : Value) (Q : VK), Inv X pins σ H s → RelV x v → RelV y u → r x y H Q →
    wpAny (model X.prog X.w) X.A (f v u) (EP X pins σ Q) X.xe s
/-- a one-place operation -/
def UnR (X : Cx) (f : Value → Sem Value) (r : V → Hp → VK → Prop) : Prop :=
  ∀ (pins : List (Addr × Obj)) (s : Shared) (σ : St) (H : Hp) (x : V) (v : Value) (Q : VK), Inv X pins σ H s → RelV x v → r x H Q →
    wpAny (model X.prog X.w) X.A (f v) (EP X pins σ Q) X.xe s
/-- a call of a value that is known (a builtin, a type) with values -/
def CallR (X : Cx) (f : Value) (r : List V → Hp → VK → Prop) : Prop :=
  ∀ (pins : List (Addr × Obj)) (s : Shared) (σ : St) (H : Hp) (xs : List V) (us : List Value) (Q : VK), Inv X pins σ H s → Vals xs us → r xs H Q →
    wpAny (model X.prog X.w) X.A (call f us) (EP X pins σ Q) X.xe s
/-- a value's truth -/
def TruR (X : Cx) (r : V → Hp → (Bool → Hp → Prop) → Prop) : Prop :=
  ∀ (pins : List (Addr × Obj)) (s : Shared) (σ : St) (H : Hp) (x : V) (v : Value) (Q : Bool → Hp → Prop), Inv X pins σ H s → RelV x v → r x H Q →
    wpAny (model X.prog X.w) X.A (truthy v) (TP X pins σ Q) X.xe s

def tOp (r : R2) (ta tb : TE) : TE := fun σ H Q => ta σ H fun x H1 => tb σ H1 fun y H2 => r x y H2 Q
def tUn (r : V → Hp → VK → Prop) (ta : TE) : TE := fun σ H Q => ta σ H fun x H1 => r x H1 Q
/-- ints in, under C, and a value out -/
def rI (C : Int → Int → Prop) (g : Int → Int → V) : R2 := fun x y H Q => ∃ i j, x = .int i ∧ y = .int j ∧ C i j ∧ Q (g i j) H
def rI0 (g : Int → Int → V) : R2 := fun x y H Q => ∃ i j, x = .int i ∧ y = .int j ∧ Q (g i j) H
def rU (g : Int → V) : V → Hp → VK → Prop := fun x H Q => ∃ i, x = .int i ∧ Q (g i) H

section
variable {X : Cx} {a b c : Expr} {ta tb tc : TE} {pos : Pos}

theorem binT (ha : PE X a ta) (hb : PE X b tb) {pins : List (Addr × Obj)} {s : Shared} {σ : St} {H : Hp} {R : V → V → Hp → Prop} (I : Inv X pins σ H s)
    (h : ta σ H fun x H1 => tb σ H1 fun y H2 => R x y H2) {Q : Value → Shared → Prop} {f : Value → Value → Sem Value}
    (hf : ∀ v u s2 x y H2, Inv X pins σ H2 s2 → RelV x v → RelV y u → R x y H2 → wpAny (model X.prog X.w) X.A (f v u) Q X.xe s2) :
    wpAny (model X.prog X.w) X.A (eval a X.env) (fun v s₁ => wpAny (model X.prog X.w) X.A (eval b X.env) (fun u s₂ => wpAny (model X.prog X.w) X.A (f v u) Q X.xe s₂) X.xe s₁) X.xe s := by
  refine thn (ha pins s σ H _ I h) fun v s1 ⟨x, H1, I1, r1, q1⟩ => ?_
  refine thn (hb pins s1 σ H1 _ I1 q1) fun u s2 ⟨y, H2, I2, r2, q2⟩ => ?_
  exact hf v u s2 x y H2 I2 r1 r2 q2

theorem pe_op {op : Operator} {r : R2} (ho : OpR X (binaryOp op) r) (ha : PE X a ta) (hb : PE X b tb) : PE X (.BinOp a op b pos) (tOp r ta tb) := by
  intro pins s σ H Q I h
  exact wpAny_BinOp (binT ha hb I h fun v u s2 x y H2 I2 rx ry q => ho pins s2 σ H2 x y v u Q I2 rx ry q)
theorem pe_un {op : UnaryOp} {r : V → Hp → VK → Prop} (ho : UnR X (unaryOp op) r) (ha : PE X a ta) : PE X (.UnaryOp op a pos) (tUn r ta) := by
  intro pins s σ H Q I h
  exact UnaryOp_ (thn (ha pins s σ H _ I h) fun v s1 ⟨x, H1, I1, r1, q1⟩ => ho pins s1 σ H1 x v Q I1 r1 q1)
/-! ### ints -/
theorem opI {f : Value → Value → Sem Value} {C : Int → Int → Prop} {g : Int → Int → Int}
    (rule : ∀ (i j : Int) (t u : Tok) (s : Shared) (Q : Value → Shared → Prop) (E : Value → Shared → Prop), C i j → Q (.int (g i j) s.toks) { s with toks := s.toks + 1 } → wpAny (model X.prog X.w) X.A (f (.int i t) (.int j u)) Q E s) :
    OpR X f (rI C fun i j => .int (g i j)) := by
  intro pins s σ H x y v u Q I rx ry h
  obtain ⟨i, j, rfl, rfl, hc, q⟩ := h
  obtain ⟨t, rfl⟩ := rx
  obtain ⟨t', rfl⟩ := ry
  exact rule i j t t' s _ _ hc ⟨.int (g i j), H, I.tok _, ⟨_, rfl⟩, q⟩
theorem opI0 {f : Value → Value → Sem Value} {g : Int → Int → Int}
    (rule : ∀ (i j : Int) (t u : Tok) (s : Shared) (Q : Value → Shared → Prop) (E : Value → Shared → Prop), Q (.int (g i j) s.toks) { s with toks := s.toks + 1 } → wpAny (model X.prog X.w) X.A (f (.int i t) (.int j u)) Q E s) :
    OpR X f (rI0 fun i j => .int (g i j)) := by
  intro pins s σ H x y v u Q I rx ry h
  obtain ⟨i, j, rfl, rfl, q⟩ := h
  obtain ⟨t, rfl⟩ := rx
  obtain ⟨t', rfl⟩ := ry
  exact rule i j t t' s _ _ ⟨.int (g i j), H, I.tok _, ⟨_, rfl⟩, q⟩
theorem opB0 {f : Value → Value → Sem Value} {g : Int → Int → Bool}
    (rule : ∀ (i j : Int) (t u : Tok) (s : Shared) (Q : Value → Shared → Prop) (E : Value → Shared → Prop), Q (.bool (g i j)) s → wpAny (model X.prog X.w) X.A (f (.int i t) (.int j u)) Q E s) :
    OpR X f (rI0 fun i j => .bl (g i j)) := by
  intro pins s σ H x y v u Q I rx ry h
  obtain ⟨i, j, rfl, rfl, q⟩ := h
  obtain ⟨t, rfl⟩ := rx
  obtain ⟨t', rfl⟩ := ry
  exact rule i j t t' s _ _ ⟨.bl (g i j), H, I, rfl, q⟩

def CDiv (i j : Int) : Prop := 0 < j ∧ j < 1073741824
def CDivN (i j : Int) : Prop := j ≠ 0 ∧ j.natAbs < 1073741824
def CPow (i j : Int) : Prop := 0 ≤ j ∧ j ≤ 1000000 ∧ i.natAbs < 2 ^ 64
def CMul (i j : Int) : Prop := (-(2 ^ 64) < i ∧ i < 2 ^ 64) ∨ (-(2 ^ 64) < j ∧ j < 2 ^ 64)
theorem CMul.ok {i j : Int} (h : CMul i j) : IntMulOk i j := by
  rcases h with ⟨h1, h2⟩ | ⟨h1, h2⟩
  · exact .of_left (intBits_le_64 h1 h2)
  · exact .of_right (intBits_le_64 h1 h2)
theorem op_add : OpR X (binaryOp .Add) (rI0 fun i j => .int (i + j)) := opI0 fun _ _ _ _ _ _ _ q => add_int q
theorem op_sub : OpR X (binaryOp .Sub) (rI0 fun i j => .int (i - j)) := opI0 fun _ _ _ _ _ _ _ q => sub_int q
theorem op_mul : OpR X (binaryOp .Mult) (rI CMul fun i j => .int (i * j)) := opI fun _ _ _ _ _ _ _ hc q => mul_int q hc.ok
/-- // by a positive divisor -/
theorem op_fdiv : OpR X (binaryOp .FloorDiv) (rI CDiv fun i j => .int (i / j)) := opI fun i j _ _ _ _ _ hc q => by
  have h1 : (0 : Int) < j := hc.1
  have h2 : j < 1073741824 := hc.2
  exact floordiv_int (by omega) (by rw [Int.fdiv_eq_ediv_of_nonneg i (by omega)]; exact q) (.inl (PyProof.noPylong_small (by omega)))
/-- % by a positive divisor of any size -/
theorem op_mod : OpR X (binaryOp .Mod) (rI (fun _ j => 0 < j) fun i j => .int (i % j)) := opI fun i j _ _ _ _ _ hc q => by
  have h1 : (0 : Int) < j := hc
  exact mod_int' (by omega) (by rw [Int.fmod_eq_emod_of_nonneg i (by omega)]; exact q)
theorem unI {f : Value → Sem Value} {g : Int → Int}
    (rule : ∀ (i : Int) (t : Tok) (s : Shared) (Q : Value → Shared → Prop) (E : Value → Shared → Prop), Q (.int (g i) s.toks) { s with toks := s.toks + 1 } → wpAny (model X.prog X.w) X.A (f (.int i t)) Q E s) :
    UnR X f (rU fun i => .int (g i)) := by
  intro pins s σ H x v Q I rx h
  obtain ⟨i, rfl, q⟩ := h
  obtain ⟨t, rfl⟩ := rx
  exact rule i t s _ _ ⟨.int (g i), H, I.tok _, ⟨_, rfl⟩, q⟩
theorem un_neg : UnR X (unaryOp .USub) (rU fun i => .int (-i)) := unI fun _ _ _ _ _ q => neg_int q
/-! ### bools among ints: n += (a < b) -/
end

/-! ### comparisons -/
/-- the scalars that == tells apart as data does -/
def scal : V → V → Bool
  | .non, .non => true | .non, .int _ => true | .int _, .non => true | .non, .bl _ => true | .bl _, .non => true | .non, .str _ => true | .str _, .non => true
  | .int _, .int _ => true | .bl _, .bl _ => true | .str _, .str _ => true | .byt _, .byt _ => true
  | .int _, .str _ => true | .str _, .int _ => true | .bl _, .str _ => true | .str _, .bl _ => true
  | _, _ => false
def rEq : R2 := fun x y H Q => scal x y = true ∧ Q (.bl (decide (x = y))) H
def rNe : R2 := fun x y H Q => scal x y = true ∧ Q (.bl (!decide (x = y))) H

theorem dec_int {i j : Int} : decide (V.int i = V.int j) = (i == j) := by
  rw [Bool.eq_iff_iff]
  simp
theorem dec_bl {i j : Bool} : decide (V.bl i = V.bl j) = (i == j) := by
  rw [Bool.eq_iff_iff]
  simp
theorem dec_str {i j : Str} : decide (V.str i = V.str j) = (i == j) := by
  rw [Bool.eq_iff_iff]
  simp
theorem dec_byt {i j : Array UInt8} : decide (V.byt i = V.byt j) = (i.toList == j.toList) := by
  rw [Bool.eq_iff_iff]
  cases i
  cases j
  simp

section
variable {X : Cx} {a b c : Expr} {ta tb tc : TE} {pos : Pos}
theorem fin_bl {pins : List (Addr × Obj)} {σ : St} {H : Hp} {s : Shared} {Q : VK} {k k' : Bool} (I : Inv X pins σ H s) (q : Q (.bl k) H) (e : k = k') : EP X pins σ Q (.bool k') s := by
  subst e
  exact ⟨.bl k, H, I, rfl, q⟩
theorem op_eq : OpR X (compareOp .Eq) rEq := by
  intro pins s σ H x y v u Q I rx ry h
  obtain ⟨hs, q⟩ := h
  cases x with
  | non =>
    cases rx
    cases y with
    | non => cases ry; exact PySem.EqNone.eq_none_none (fin_bl I q (by simp))
    | bl j => cases ry; exact PySem.EqNone.eq_none_bool (fin_bl I q (by simp))
    | int j => obtain ⟨t', rfl⟩ := ry; exact PySem.EqNone.eq_none_int (fin_bl I q (by simp))
    | str j => obtain ⟨t', rfl⟩ := ry; exact PySem.EqNone.eq_none_str (fin_bl I q (by simp))
    | _ => exact absurd (show false = true from hs) Bool.false_ne_true
  | bl i =>
    cases rx
    cases y with
    | non => cases ry; exact PySem.EqNone.eq_bool_none (fin_bl I q (by simp))
    | bl j => cases ry; exact eq_bool (fin_bl I q dec_bl)
    | str j => obtain ⟨t', rfl⟩ := ry; exact PySem.EqMixed.eq_bool_str (fin_bl I q (by simp))
    | _ => exact absurd (show false = true from hs) Bool.false_ne_true
  | int i =>
    obtain ⟨t, rfl⟩ := rx
    cases y with
    | non => cases ry; exact PySem.EqNone.eq_int_none (fin_bl I q (by simp))
    | int j => obtain ⟨t', rfl⟩ := ry; exact eq_int (fin_bl I q dec_int)
    | str j => obtain ⟨t', rfl⟩ := ry; exact PySem.EqMixed.eq_int_str (fin_bl I q (by simp))
    | _ => exact absurd (show false = true from hs) Bool.false_ne_true
  | str i =>
    obtain ⟨t, rfl⟩ := rx
    cases y with
    | non => cases ry; exact PySem.EqNone.eq_str_none (fin_bl I q (by simp))
    | bl j => cases ry; exact PySem.EqMixed.eq_str_bool (fin_bl I q (by simp))
    | int j => obtain ⟨t', rfl⟩ := ry; exact PySem.EqMixed.eq_str_int (fin_bl I q (by simp))
    | str j => obtain ⟨t', rfl⟩ := ry; exact eq_str (fin_bl I q dec_str)
    | _ => exact absurd (show false = true from hs) Bool.false_ne_true
  | byt i =>
    obtain ⟨t, rfl⟩ := rx
    cases y with
    | byt j => obtain ⟨t', rfl⟩ := ry; exact PySem.W.eq_bytes (fin_bl I q dec_byt)
    | _ => exact absurd (show false = true from hs) Bool.false_ne_true
  | _ => cases y <;> exact absurd (show false = true from hs) Bool.false_ne_true
theorem op_ne : OpR X (compareOp .NotEq) rNe := by
  intro pins s σ H x y v u Q I rx ry h
  obtain ⟨hs, q⟩ := h
  cases x with
  | non =>
    cases rx
    cases y with
    | non => cases ry; exact PySem.EqNone.ne_none_none (fin_bl I q (by simp))
    | bl j => cases ry; exact PySem.EqNone.ne_none_bool (fin_bl I q (by simp))
    | int j => obtain ⟨t', rfl⟩ := ry; exact PySem.EqNone.ne_none_int (fin_bl I q (by simp))
    | str j => obtain ⟨t', rfl⟩ := ry; exact PySem.EqNone.ne_none_str (fin_bl I q (by simp))
    | _ => exact absurd (show false = true from hs) Bool.false_ne_true
  | bl i =>
    cases rx
    cases y with
    | non => cases ry; exact PySem.EqNone.ne_bool_none (fin_bl I q (by simp))
    | bl j => cases ry; exact ne_bool (fin_bl I q (congrArg not dec_bl))
    | str j => obtain ⟨t', rfl⟩ := ry; exact PySem.EqMixed.ne_bool_str (fin_bl I q (by simp))
    | _ => exact absurd (show false = true from hs) Bool.false_ne_true
  | int i =>
    obtain ⟨t, rfl⟩ := rx
    cases y with
    | non => cases ry; exact PySem.EqNone.ne_int_none (fin_bl I q (by simp))
    | int j => obtain ⟨t', rfl⟩ := ry; exact ne_int (fin_bl I q (congrArg not dec_int))
    | str j => obtain ⟨t', rfl⟩ := ry; exact PySem.EqMixed.ne_int_str (fin_bl I q (by simp))
    | _ => exact absurd (show false = true from hs) Bool.false_ne_true
  | str i =>
    obtain ⟨t, rfl⟩ := rx
    cases y with
    | non => cases ry; exact PySem.EqNone.ne_str_none (fin_bl I q (by simp))
    | bl j => cases ry; exact PySem.EqMixed.ne_str_bool (fin_bl I q (by simp))
    | int j => obtain ⟨t', rfl⟩ := ry; exact PySem.EqMixed.ne_str_int (fin_bl I q (by simp))
    | str j => obtain ⟨t', rfl⟩ := ry; exact ne_str (fin_bl I q (congrArg not dec_str))
    | _ => exact absurd (show false = true from hs) Bool.false_ne_true
  | byt i =>
    obtain ⟨t, rfl⟩ := rx
    cases y with
    | byt j => obtain ⟨t', rfl⟩ := ry; exact PySem.W.ne_bytes (fin_bl I q (congrArg not dec_byt))
    | _ => exact absurd (show false = true from hs) Bool.false_ne_true
  | _ => cases y <;> exact absurd (show false = true from hs) Bool.false_ne_true

theorem op_lt : OpR X (compareOp .Lt) (rI0 fun i j => .bl (decide (i < j))) := opB0 fun _ _ _ _ _ _ _ q => lt_int q
theorem op_le : OpR X (compareOp .LtE) (rI0 fun i j => .bl (decide (i ≤ j))) := opB0 fun _ _ _ _ _ _ _ q => le_int q
theorem op_gt : OpR X (compareOp .Gt) (rI0 fun i j => .bl (decide (j < i))) := opB0 fun _ _ _ _ _ _ _ q => gt_int q
/-- is None, is not None: the right side a value none -/
theorem op_isN : OpR X (compareOp .Is) (fun x y H Q => y = .non ∧ Q (.bl (decide (x = .non))) H) := by
  intro pins s σ H x y v u Q I rx ry h
  obtain ⟨rfl, q⟩ := h
  cases ry
  refine is_none_gen (fin_bl I q ?_)
  cases x <;> first
    | (cases rx; rfl)
    | (obtain ⟨t, rfl⟩ := rx; rfl)
theorem op_notN : OpR X (compareOp .IsNot) (fun x y H Q => y = .non ∧ Q (.bl (!decide (x = .non))) H) := by
  intro pins s σ H x y v u Q I rx ry h
  obtain ⟨rfl, q⟩ := h
  cases ry
  refine isnot_none_gen (fin_bl I q ?_)
  cases x <;> first
    | (cases rx; rfl)
    | (obtain ⟨t, rfl⟩ := rx; rfl)

theorem op_notin_str : OpR X (compareOp .NotIn) (fun x y H Q => ∃ i j, x = .str i ∧ y = .str j ∧ Q (.bl (!(!(Builtin.Str.occurrences j i 0 j.length 1).isEmpty))) H) := by
  intro pins s σ H x y v u Q I rx ry h
  obtain ⟨i, j, rfl, rfl, q⟩ := h
  obtain ⟨t, rfl⟩ := rx
  obtain ⟨t', rfl⟩ := ry
  exact notIn_str (fin_bl I q rfl)
/-- is, is not of two objects that are tracked lists or instances -/
def isObj : HO → Bool
  | .lst _ => true
  | .ins _ _ _ => true
  | _ => false
theorem nomark (b : Expr) {op : CmpOp} (h : op ≠ .In := by decide) (h2 : op ≠ .NotIn := by decide) : behindInMarks op b = false := by
  have e1 : (op == CmpOp.In) = false := by cases op <;> first | rfl | exact absurd rfl h
  have e2 : (op == CmpOp.NotIn) = false := by cases op <;> first | rfl | exact absurd rfl h2
  cases b <;> simp [behindInMarks, e1, e2]
/-- a comparison as a value; hm: nomark b, or (for in, not in) by with_unfolding_all rfl -/
theorem pe_cmpR {op : CmpOp} {r : R2} (ho : OpR X (compareOp op) r) (ha : PE X a ta) (hb : PE X b tb) (hm : behindInMarks op b = false) : PE X (.Compare a [op] [b] pos) (tOp r ta tb) := by
  intro pins s σ H Q I h
  exact wpAny_Compare1 (binT ha hb I h fun v u s2 x y H2 I2 rx ry q => ho pins s2 σ H2 x y v u Q I2 rx ry q) hm
/-- a reading of a value as a test -/
def tTest (t : TE) : TT := fun σ H Q => t σ H fun x H' => ∃ k, x = .bl k ∧ Q k H'
theorem pt_cmpR {op : CmpOp} {r : R2} (ho : OpR X (compareOp op) r) (ha : PE X a ta) (hb : PE X b tb) (hm : behindInMarks op b = false) : PT X (.Compare a [op] [b] pos) (tTest (tOp r ta tb)) := by
  intro pins s σ H Q I h
  refine wpAny_isTrue_Compare1 (thn (ha pins s σ H _ I h) fun v s1 ⟨x, H1, I1, r1, q1⟩ => thn (hb pins s1 σ H1 _ I1 q1) fun u s2 ⟨y, H2, I2, r2, q2⟩ =>
    thn (ho pins s2 σ H2 x y v u _ I2 r1 r2 q2) fun c s3 ⟨z, H3, I3, r3, k, e, q3⟩ => ?_) hm
  subst e
  cases r3
  exact wpAny_truthy_bool ⟨H3, I3, q3⟩
/-- a op1 b op2 c -/
def tChain (r r' : R2) (ta tb tc : TE) : TE := fun σ H Q => ta σ H fun x H1 => tb σ H1 fun y H2 => r x y H2 fun z H3 => ∃ k, z = .bl k ∧
  (if k = true then tc σ H3 fun w' H4 => r' y w' H4 Q else Q (.bl false) H3)
theorem pt_chain {op op' : CmpOp} {r r' : R2} (ho : OpR X (compareOp op) r) (ho' : OpR X (compareOp op') r') (ha : PE X a ta) (hb : PE X b tb) (hc : PE X c tc)
    (hm : lastMarks [op, op'] [b, c] = false := by with_unfolding_all rfl) : PT X (.Compare a [op, op'] [b, c] pos) (tTest (tChain r r' ta tb tc)) := by
  intro pins s σ H Q I h
  refine isTrue_chain (thn (ha pins s σ H _ I h) fun v s1 ⟨x, H1, I1, r1, q1⟩ => test_link (thn (hb pins s1 σ H1 _ I1 q1) fun u s2 ⟨y, H2, I2, r2, q2⟩ =>
    thn (ho pins s2 σ H2 x y v u _ I2 r1 r2 q2) fun d s3 ⟨z, H3, I3, r3, k, e, q3⟩ => ?_)) hm
  subst e
  cases r3
  refine wpAny_truthy_bool ?_
  cases k with
  | false =>
    obtain ⟨k', e', q'⟩ := q3
    cases e'
    exact ite_ff ⟨H3, I3, q'⟩
  | true =>
    refine ite_tt (test_last (thn (hc pins s3 σ H3 _ I3 q3) fun w' s4 ⟨z', H4, I4, r4, q4⟩ => thn (ho' pins s4 σ H4 y z' u w' _ I4 r2 r4 q4) fun d' s5 ⟨z2, H5, I5, r5, k2, e2, q5⟩ => ?_))
    subst e2
    cases r5
    exact wpAny_truthy_bool ⟨H5, I5, q5⟩

/-! ### truth -/
/-- a value's truth by the abstract heap -/
def TruV (K : PySem.W.Frag) (x : V) (H : Hp) (k : Bool) : Prop :=
  match x with
  | .non => k = false
  | .bl b => k = b
  | .int i => k = (i != 0)
  | .str y => y.length ≤ sizeLine ∧ k = ((y.length : Int) != 0)
  | .byt y => y.size ≤ sizeLine ∧ k = ((y.size : Int) != 0)
  | .ref p => (∃ xs, SqL K H p xs ∧ k = !xs.isEmpty) ∨ (∃ xs, SqT K H p xs ∧ k = !xs.isEmpty) ∨ ∃ kvs, H p = some (.dK kvs) ∧ k = !kvs.isEmpty
  | _ => False
theorem line63 : (sizeLine : Nat) < 2 ^ 63 := by rw [sizeLine_eq]; decide
/-! ### strs and bytes -/
theorem op_add_str : OpR X (binaryOp .Add) (fun x y H Q => ∃ i j, x = .str i ∧ y = .str j ∧ i.length + j.length ≤ sizeLine ∧ Q (.str (i ++ j)) H) := by
  intro pins s σ H x y v u Q I rx ry h
  obtain ⟨i, j, rfl, rfl, hz, q⟩ := h
  obtain ⟨t, rfl⟩ := rx
  obtain ⟨t', rfl⟩ := ry
  exact add_str (fun t' tk => ⟨.str (i ++ j), H, I.tok _, ⟨_, rfl⟩, q⟩) hz
def PlainIxT (b : Expr) : Prop := ∀ o i, subscripted b false o i = operate [o, i] (getItem o i)
/-! ### scalar builtins, by CallR -/
theorem vals1 {x : V} {us : List Value} (r : Vals [x] us) : ∃ u, us = [u] ∧ RelV x u := by
  cases r with
  | cons r1 r2 => cases r2; exact ⟨_, rfl, r1⟩
/-- len of a str, a bytes, a list, a tuple -/
def LenV (K : PySem.W.Frag) (x : V) (H : Hp) (n : Nat) : Prop :=
  match x with
  | .str y => y.length ≤ sizeLine ∧ n = y.length
  | .byt y => y.size ≤ sizeLine ∧ n = y.size
  | .ref p => (∃ xs, SqL K H p xs ∧ n = xs.length) ∨ ∃ xs, SqT K H p xs ∧ n = xs.length
  | _ => False
end
end L2

namespace L2
open PySem PySem.Spec PyProof.Rows

/-! ### an instance, its attributes a map -/
structure ObjM (h : Heap) (x dx C : Addr) (mA : Str → Option Value) : Prop where
  obj : h.get? x = some (PySem.W.instObj C dx)
  ns : h.Ns1 dx mA
  ne : dx ≠ x

theorem lookIn_ns {h : Heap} {dx : Addr} {mA : Str → Option Value} (n : h.Ns1 dx mA) : ∃ od, h.get? dx = some od ∧ ∀ name, PySem.W.lookIn name od = some (mA name) := by
  obtain ⟨o, es, ep, ho, hd, hk, _, hm⟩ := n
  refine ⟨o, ho, fun name => ?_⟩
  have e := hm name
  unfold nsFind findBy at e
  rw [← Array.find?_toList] at e
  unfold PySem.W.lookIn
  rw [hd]
  dsimp only
  split
  · rename_i y q
    rw [q] at e
    exact congrArg some e
  · rename_i q
    rw [q] at e
    have a : es.toList.any (·.refKey) = false := by
      rw [List.any_eq_false]
      intro y hy
      obtain ⟨z, t, hkey⟩ := hk y (Array.mem_toList_iff.mp hy)
      simp [DictEntry.refKey, hkey]
    have a' : ¬ es.toList.any (·.refKey) = true := by rw [a]; exact Bool.false_ne_true
    rw [if_neg a']
    exact congrArg some e

theorem ObjM.look {h : Heap} {x dx C : Addr} {mA : Str → Option Value} (I : ObjM h x dx C mA) : ∃ od, PySem.W.InstAt h x (PySem.W.instObj C dx) C (some od) ∧ ∀ name, PySem.W.lookIn name od = some (mA name) :=
  let ⟨od, ho, hl⟩ := lookIn_ns I.ns
  ⟨od, ⟨I.obj, rfl, rfl, ho⟩, hl⟩

section
variable {prog : Program} {w : World} {A : Around} {E : Value → Shared → Prop} {s : Shared} {K : PySem.W.Frag} {x dx C f : Addr} {mA : Str → Option Value} {name : Str} {v : Value}

end

/-! ### the attributes as a list of pairs -/
def putF (f : Str) (v : V) : List (Str × V) → List (Str × V)
  | [] => [(f, v)]
  | (g, x) :: r => if g = f then (g, v) :: r else (g, x) :: putF f v r
theorem RelO.some_of {v : V} {o : Option Value} (r : RelO (some v) o) : ∃ u, o = some u ∧ RelV v u := by
  cases o with
  | none => exact (show False from r).elim
  | some u => exact ⟨u, rfl, r⟩
section
variable {P : Program} {w : World} {H H' : Hp} {h h' : Heap} {a C dx : Addr} {fs fs' : List (Str × V)}
theorem ins_get (hok : HOk P w H h) (e : H a = some (.ins C dx fs)) : ∃ mA, ObjM h a dx C mA ∧ (∀ f, RelO (fs.lookup f) (mA f)) ∧ PySem.Within mA (fs.map (·.1)) ∧ fs.length ≤ 1000 ∧ H dx = some (.own a) := by
  obtain ⟨d, z, ne, ob, mA, n, r, q⟩ := (show ObjOk P w H h a (.ins C dx fs) from hok a _ e)
  exact ⟨mA, ⟨ob, n, ne⟩, r, q, z, d⟩
end

/-! ### what of the text a class must have -/
structure Cls (K : PySem.W.Frag) (C : Addr) : Prop where
  pg : PySem.W.plainGet K C Str.empty = true
  hd : PySem.W.hasDictIn K C = true
  po : PySem.W.plainOver K C = true
  sa : PySem.W.findIn K (.ref C) "__setattr__" = some (some (.builtin "object.__setattr__"))
theorem Cls.get {K : PySem.W.Frag} {C : Addr} (c : Cls K C) (f : Str) : PySem.W.plainGet K C f = true := c.pg
/-- no class of it has the name -/
def NoAttr (K : PySem.W.Frag) (C : Addr) (f : Str) : Prop := PySem.W.findIn K (.ref C) f = some none
/-- a constant of the class -/
structure Con (K : PySem.W.Frag) (C : Addr) (f : Str) (v : V) (u : Value) : Prop where
  at_ : PySem.W.findIn K (.ref C) f = some (some u)
  rel : RelV v u
  get : PySem.W.specialIn K u "__get__" = some none
  cp : PySem.W.copiedNames.contains f = false
/-- a method: a plain def of the class or of one above it -/
structure Meth (K : PySem.W.Frag) (C : Addr) (m : Str) (f : Addr) : Prop where
  at_ : PySem.W.findIn K (.ref C) m = some (some (.ref f))
  fn : PySem.W.isFn K (.ref f) = true
  kp : PySem.W.keepIn K (.ref f) = true

section
variable {X : Cx} {pins : List (Addr × Obj)} {σ : St} {H : Hp} {s : Shared} {a C dx : Addr} {fs : List (Str × V)} {f : Str} {v : V} {A : Around} {E : Value → Shared → Prop}

end

/-! ### readings and rules -/
/-- e.f, an attribute of the instance -/
def tFld (K : PySem.W.Frag) (ta : TE) (f : Str) : TE := fun σ H Q => ta σ H fun x H1 => ∃ a C dx fs v, x = .ref a ∧ H1 a = some (.ins C dx fs) ∧ Cls K C ∧ NoAttr K C f ∧ fs.lookup f = some v ∧ Q v H1
/-- e.f, a constant of the class -/
def tCon (K : PySem.W.Frag) (ta : TE) (f : Str) : TE := fun σ H Q => ta σ H fun x H1 => ∃ a C dx fs v u, x = .ref a ∧ H1 a = some (.ins C dx fs) ∧ Cls K C ∧ Con K C f v u ∧ fs.lookup f = none ∧ Q v H1
/-- e.f = value -/
def sFld (K : PySem.W.Frag) (ta tv : TE) (f : Str) : TS := fun D σ H => tv σ H fun y H1 => ta σ H1 fun x H2 => ∃ a C dx fs, x = .ref a ∧ H2 a = some (.ins C dx fs) ∧ Cls K C ∧ NoAttr K C f ∧ fs.length < 1000 ∧
  D.nx σ (upd H2 a (.ins C dx (putF f y fs)))
/-- an augmented operator on two values -/
def InOp (X : Cx) (op : Operator) (rd : V → V → Hp → VK → Prop) : Prop :=
  ∀ (pins : List (Addr × Obj)) (s : Shared) (σ : St) (H : Hp) (x y : V) (u v : Value) (Q : VK), Inv X pins σ H s → RelV x u → RelV y v → rd x y H Q → wpAny (model X.prog X.w) X.A (inplaceOp op u v) (EP X pins σ Q) X.xe s
/-- e.f op= value -/
def sFldAug (K : PySem.W.Frag) (ta tv : TE) (rd : V → V → Hp → VK → Prop) (f : Str) : TS := fun D σ H => ta σ H fun x H1 => ∃ a C dx fs v, x = .ref a ∧ H1 a = some (.ins C dx fs) ∧ Cls K C ∧ NoAttr K C f ∧ fs.lookup f = some v ∧
  tv σ H1 fun y H2 => rd v y H2 fun z H3 => ∃ dx' fs', H3 a = some (.ins C dx' fs') ∧ fs'.length < 1000 ∧ D.nx σ (upd H3 a (.ins C dx' (putF f z fs')))

section
variable {X : Cx} {o e value : Expr} {f : Str} {pos pos' tpos : Pos} {ta tv : TE}
def rAdd : V → V → Hp → VK → Prop := fun x y H Q => ∃ i j, x = .int i ∧ y = .int j ∧ Q (.int (i + j)) H
def rSub : V → V → Hp → VK → Prop := fun x y H Q => ∃ i j, x = .int i ∧ y = .int j ∧ Q (.int (i - j)) H
end

/-! ### isinstance -/
section
variable {X : Cx} {pins : List (Addr × Obj)} {σ : St} {H : Hp} {s : Shared} {A : Around} {E : Value → Shared → Prop} {Q : Value → Shared → Prop} {c : Value} {b : Bool}
/-- the type of a value, as the fragment's deciders take it; for an instance its class -/
inductive TyOf (K : PySem.W.Frag) (H : Hp) : V → Value → Prop where
  | non : TyOf K H .non (.type "NoneType")
  | bl (x : Bool) : TyOf K H (.bl x) (.type "bool")
  | int (i : Int) : TyOf K H (.int i) (.type "int")
  | str (x : Str) : TyOf K H (.str x) (.type "str")
  | flt (x : UInt64) : TyOf K H (.flt x) (.type "float")
  | lst {a : Addr} {xs : List V} (e : H a = some (.lst xs)) : TyOf K H (.ref a) (.type "list")
  | frz {a : Addr} {o : Obj} {xs : List V} (e : H a = some (.frz o (.lst xs))) : TyOf K H (.ref a) (.type "list")
  | tup {a : Addr} {xs : List V} (e : H a = some (.tup xs)) : TyOf K H (.ref a) (.type "tuple")
  | dK {a : Addr} {kvs : List (Key × V)} (e : H a = some (.dK kvs)) : TyOf K H (.ref a) (.type "dict")
  | dT {a : Addr} {kvs : List (List Key × V)} (e : H a = some (.dT kvs)) : TyOf K H (.ref a) (.type "dict")
  | ins {a C dx : Addr} {fs : List (Str × V)} (e : H a = some (.ins C dx fs)) (cl : Cls K C) (ha : PySem.W.findIn K (.ref C) "__class__" = some (some (.builtin "object.__class__")))
      (hn : PySem.W.specialIn K (.builtin "object.__class__") "__get__" = some (some (.builtin "getset_descriptor.__get__"))) (htk : PySem.W.takesIn K (.builtin "object.__class__") = some true)
      (hm : PySem.W.mroIn K C (.type "object") = some true) : TyOf K H (.ref a) (.ref C)
/-- isinstance(x, c) for one class c, a built-in or an own one: kitOne's answer -/
theorem isinst_ok {x : V} {u t : Value} (I : Inv X pins σ H s) (rx : RelV x u) (ty : TyOf X.K H x t) (e : PySem.W.kitOne X.K t c = some b) (h : ∀ tk, Q (.bool b) { s with toks := tk }) :
    wpAny (model X.prog X.w) A (call (.builtin "isinstance") [u, c]) Q E s := by
  cases ty with
  | non => cases (show u = Value.none from rx); exact PySem.W.kia_one PySem.W.kitx_none I.kIn True.intro e (fun z => nomatch z) h
  | bl y => cases (show u = Value.bool y from rx); exact PySem.W.kia_one PySem.W.kitx_bool I.kIn True.intro e (fun z => nomatch z) h
  | int i => obtain ⟨t, q⟩ := (show ∃ t, u = Value.int i t from rx); cases q; exact PySem.W.kia_one PySem.W.kitx_int I.kIn True.intro e (fun z => nomatch z) h
  | str y => obtain ⟨t, q⟩ := (show ∃ t, u = Value.str y t from rx); cases q; exact PySem.W.kia_one PySem.W.kitx_str I.kIn True.intro e (fun z => nomatch z) h
  | flt y => obtain ⟨t, q⟩ := (show ∃ t, u = Value.float y t from rx); cases q; exact PySem.W.kia_one PySem.W.kitx_float I.kIn True.intro e (fun z => nomatch z) h
  | @lst a xs ea =>
    cases (show u = Value.ref a from rx)
    obtain ⟨_, _, n, _, h1⟩ := (show ObjOk X.prog X.w H s.heap a (.lst xs) from I.hok a _ ea)
    exact PySem.W.kia_one PySem.W.kitx_list I.kIn ⟨_, h1, rfl⟩ e (fun z => nomatch z) h
  | @frz a ob xs ea =>
    cases (show u = Value.ref a from rx)
    obtain ⟨_, _, _, n, _, h1⟩ := (show ObjOk X.prog X.w H s.heap a (.frz ob (.lst xs)) from I.hok a _ ea)
    exact PySem.W.kia_one PySem.W.kitx_list I.kIn ⟨_, h1, rfl⟩ e (fun z => nomatch z) h
  | @tup a xs ea =>
    cases (show u = Value.ref a from rx)
    obtain ⟨_, _, _, p⟩ := (show ObjOk X.prog X.w H s.heap a (.tup xs) from I.hok a _ ea)
    obtain ⟨o, h1, h2, _⟩ := p
    exact PySem.W.kia_one PySem.W.kitx_tuple I.kIn ⟨o, h1, h2⟩ e (fun z => nomatch z) h
  | @dK a kvs ea =>
    cases (show u = Value.ref a from rx)
    obtain ⟨_, _, vs, _, p⟩ := (show ObjOk X.prog X.w H s.heap a (.dK kvs) from I.hok a _ ea)
    obtain ⟨o, es, ep, h1, h2, _⟩ := p
    exact PySem.W.kia_one PySem.W.kitx_dict I.kIn ⟨o, h1, h2.1⟩ e (fun z => nomatch z) h
  | @dT a kvs ea =>
    cases (show u = Value.ref a from rx)
    obtain ⟨_, _, xs, _, o, es, ep, h1, h2, _⟩ := (show ObjOk X.prog X.w H s.heap a (.dT kvs) from I.hok a _ ea)
    exact PySem.W.kia_one PySem.W.kitx_dict I.kIn ⟨o, h1, h2.1⟩ e (fun z => nomatch z) h
  | @ins a C dx fs ea cl ha hn htk hm =>
    cases (show u = Value.ref a from rx)
    obtain ⟨mA, O, _⟩ := ins_get I.hok ea
    obtain ⟨od, J, _⟩ := O.look
    exact PySem.W.kia_one (PySem.W.kitx_own (cl.get _) cl.hd ha hn htk hm) I.kIn J e (fun z => nomatch z) h
end
end L2

namespace L2
open PySem PySem.Spec PyProof.Rows

/-! ### room -/
structure Room (k : Nat) (A : Around) : Prop where
  hd : A.handled = none
  dp : A.depth + 3 * k + 5 < recursionLimit
  un : A.units + 16 * k + 200 < cLine
theorem Room.mono {j k : Nat} {A : Around} (r : Room k A) (h : j ≤ k) : Room j A := ⟨r.hd, by have := r.dp; omega, by have := r.un; omega⟩
theorem Room.deeper {k : Nat} {A : Around} (r : Room (k + 1) A) (env : Env) : Room k (A.deeper env) :=
  ⟨r.hd, by have := r.dp; show A.depth + 1 + 3 * k + 5 < _; omega, by have := r.un; show A.units + 3 + 16 * k + 200 < _; omega⟩
theorem Room.depth {k : Nat} {A : Around} (r : Room k A) : A.depth < recursionLimit := by have := r.dp; omega
theorem Room.units {k : Nat} {A : Around} (r : Room k A) : A.units + 64 < cLine := by have := r.un; omega
theorem Room.units0 {k : Nat} {A : Around} (r : Room k A) : A.units < cLine := by have := r.un; omega

/-! ### argument lists and displays -/
def tNil : TA := fun _ H Q => Q [] H
def tCons (ta : TE) (tr : TA) : TA := fun σ H Q => ta σ H fun x H1 => tr σ H1 fun xs H2 => Q (x :: xs) H2
section
variable {X : Cx} {e : Expr} {es : List Expr} {te : TE} {t : TA} {pos : Pos}
theorem pa_nil : PA X [] tNil := fun _ _ _ _ H Q I h => Calls.spliced_nil ⟨[], H, I, .nil, h⟩
theorem pa_cons (ha : PE X e te) (hr : PA X es t) (hs : starEach (e :: es) X.env = (false, eval e X.env) :: starEach es X.env := by rfl) : PA X (e :: es) (tCons te t) := by
  intro pos pins s σ H Q I h
  rw [hs]
  show wpAny _ _ (spliced ((false, eval e X.env) :: backTo pos (starEach es X.env))) _ _ s
  refine Calls.spliced_cons (thn (ha pins s σ H _ I h) fun u s1 ⟨x, H1, I1, r1, q1⟩ => ?_)
  exact thn (hr pos pins s1 σ H1 _ I1 q1) fun us s2 ⟨xs, H2, I2, r2, q2⟩ => ⟨x :: xs, H2, I2, .cons r1 r2, q2⟩

/-- a tuple, a list of written items -/
def tTup (t : TA) : TE := fun σ H Q => t σ H fun xs H1 => xs.length ≤ sizeLine ∧ ∀ p, H1 p = none → Q (.ref p) (upd H1 p (.tup xs))
def tLst (t : TA) : TE := fun σ H Q => t σ H fun xs H1 => xs.length ≤ sizeLine ∧ ∀ p, H1 p = none → Q (.ref p) (upd H1 p (.lst xs))
theorem pe_tup {x1} (h : PA X es t) : PE X (.Tuple es x1 pos) (tTup t) := by
  intro pins s σ H Q I hq
  refine wpAny_Tuple_spliced (thn (h pos pins s σ H _ I hq) fun us s1 ⟨xs, H1, I1, r, z, q⟩ => ⟨by rw [← r.length]; exact z, ?_⟩)
  have hf : H1 s1.heap.objs.size = none := I1.hok.fresh (Nat.le_refl _)
  refine ⟨.ref s1.heap.objs.size, upd H1 s1.heap.objs.size (.tup xs), I1.laid (t' := s1.toks) (fun b u e => Heap.get?_push_of_some _ e) (Nat.le_refl _) ?_, rfl, q _ hf⟩
  exact ⟨z, us, r, ⟨_, Heap.get?_push_size _ rfl, rfl, _, rfl⟩⟩
theorem pe_lst (h : PA X es t) : PE X (.List es pos) (tLst t) := by
  intro pins s σ H Q I hq
  refine wpAny_List_spliced (thn (h pos pins s σ H _ I hq) fun us s1 ⟨xs, H1, I1, r, z, q⟩ => ⟨by rw [← r.length]; exact z, ?_⟩)
  have hf : H1 s1.heap.objs.size = none := I1.hok.fresh (Nat.le_refl _)
  refine ⟨.ref s1.heap.objs.size, upd H1 s1.heap.objs.size (.lst xs), I1.laid (t' := s1.toks) (fun b u e => Heap.get?_push_of_some _ e) (Nat.le_refl _) ?_, rfl, q _ hf⟩
  exact ⟨z, us, 0, r, Heap.get?_push_size _ rfl⟩
end

/-! ### what a def promises -/
/-- a def's promise: the bound arguments in the parameters' order, the heap, the wanted end, the wanted exception -/
abbrev Sp := List V → Hp → VK → XK → Prop
/-- how an exception lies behind a call (file 08 gives it): the callers' frames, abstract heap and state ahead of the call, the wish, the exception, the state -/
abbrev CXT := List Env → Hp → Shared → XK → Value → Shared → Prop

/-- the state at a call -/
structure Env0 (P : Program) (w : World) (K : PySem.W.Frag) (mg : Str → Option Value) (base : Heap) (A : Around) (outer : List Env) (s : Shared) (H : Hp) : Prop where
  frames : A.frames = some outer
  mod : Mod K mg base
  bs : ∀ b o, base.get? b = some o → s.heap.get? b = some o ∧ H b = none
  bsz : base.objs.size ≤ s.heap.objs.size
  funs : s.heap.FunFrames base outer
  frf : ∀ b ∈ frs outer, H b = none
  hok : HOk P w H s.heap
  bare : AllBare s.gens
/-- a call's end -/
def CE (outer : List Env) (P : Program) (w : World) (H : Hp) (s : Shared) (Q : VK) (u : Value) (s' : Shared) : Prop :=
  ∃ v H', s'.os = s.os ∧ AllBare s'.gens ∧ Un (frs outer) [] H H' s.heap s'.heap ∧ HOk P w H' s'.heap ∧ RelV v u ∧ Q v H'
def CR (CX : CXT) (outer : List Env) (P : Program) (w : World) (H : Hp) (s : Shared) (Q : VK) (E : XK) (r : Result) (s' : Shared) : Prop :=
  match r with
  | .ok (.ret u) => CE outer P w H s Q u s'
  | .ok _ => False
  | .error e => CX outer H s E e s'
structure FnOk (P : Program) (w : World) (K : PySem.W.Frag) (mg : Str → Option Value) (base : Heap) (CX : CXT) (k : Nat) (f : Addr) (fd : FuncData) (ps : List Str) (sp : Sp) : Prop where
  len : ∀ vs H Q E, sp vs H Q E → vs.length = ps.length
  run : ∀ (A : Around) (outer : List Env) (s : Shared) (H : Hp) (args : Args) (us : List Value) (vs : List V) (Q : VK) (E : XK), Room k A → Env0 P w K mg base A outer s H → BindsTo s fd args (ps.zip us) → Vals vs us → sp vs H Q E →
    codeAny (model P w) A (.call (.ref f) args) (CR CX outer P w H s Q E) s
theorem FnOk.mono {P : Program} {w : World} {K : PySem.W.Frag} {mg : Str → Option Value} {base : Heap} {CX : CXT} {j k : Nat} {f : Addr} {fd : FuncData} {ps : List Str} {sp : Sp} (F : FnOk P w K mg base CX j f fd ps sp) (h : j ≤ k) :
    FnOk P w K mg base CX k f fd ps sp := ⟨F.len, fun A outer s H args us vs Q E hr => F.run A outer s H args us vs Q E (hr.mono h)⟩
section
variable {X : Cx} {pins : List (Addr × Obj)} {σ : St} {H : Hp} {s s' : Shared}
/-- from a body: what a callee wants -/
theorem Inv.env0 (I : Inv X pins σ H s) : Env0 X.prog X.w X.K X.mg X.base X.A X.stack s H :=
  ⟨I.ok.frames, I.ok.mod, I.bs, Nat.le_trans I.ok.bsz I.sz, I.stack, I.stkFree, I.hok, I.bare⟩
/-- behind a call -/
theorem Inv.after {Q : VK} {u : Value} (I : Inv X pins σ H s) (h : CE X.stack X.prog X.w H s Q u s') : EP X pins σ Q u s' := by
  obtain ⟨v, H', os, bare, un, hok, r, q⟩ := h
  obtain ⟨hh, g, d, t, os'⟩ := s'
  obtain rfl : os' = s.os := os
  exact ⟨v, H', I.call (h' := hh) (g' := g) (d' := d) (t' := t) (ch := []) un hok bare (fun b z => absurd z (by simp)), r, q⟩
end

/-! ### calls -/
/-- f(..): the written arguments, then the defaults dvs; E: what is wanted of an exception -/
def tCall (sp : Sp) (dvs : List V) (E : XK) (t : TA) : TE := fun σ H Q => t σ H fun vs H1 => sp (vs ++ dvs) H1 Q E
/-- o.m(..) of an instance of the class at C -/
def tMeth (C : Addr) (m : Str) (sp : Sp) (dvs : List V) (E : XK) (ta : TE) (t : TA) : TE := fun σ H Q => ta σ H fun x H1 => ∃ a dx fs, x = .ref a ∧ H1 a = some (.ins C dx fs) ∧ fs.lookup m = none ∧
  t σ H1 fun vs H2 => sp (x :: (vs ++ dvs)) H2 Q E
/-- C(..): a new instance and its dict, then __init__ -/
def tMake (C : Addr) (sp : Sp) (dvs : List V) (E : XK) (t : TA) : TE := fun σ H Q => t σ H fun vs H1 => ∀ x dx, H1 x = none → H1 dx = none → dx ≠ x →
  sp (.ref x :: (vs ++ dvs)) (upd (upd H1 dx (.own x)) x (.ins C dx [])) (fun v H2 => v = .non ∧ Q (.ref x) H2) E

/-- how the parameters are bound: us the positional arguments, kw the keywords' values by name, ds the defaults that fill up -/
def Binds (K : PySem.W.Frag) (fd : FuncData) (ps : List Str) (ds : List Value) : Prop :=
  ∀ (s : Shared) (us : List Value), K.In s.heap → (us ++ ds).length = ps.length → BindsTo s fd ⟨us, []⟩ (ps.zip (us ++ ds))
/-- every parameter is given -/
theorem Binds.all {K : PySem.W.Frag} {fd : FuncData} {ps : List Str} (h : ∀ us : List Value, us.length = ps.length → bindArgs fd ⟨us, []⟩ = pure (ps.zip us)) : Binds K fd ps [] := fun s us _ hl => by
  rw [List.append_nil] at hl ⊢
  exact .of_eq (h us hl)

/-- an exception of a callee reaches what this body wants of exceptions -/
def Passes (CX : CXT) (X : Cx) (E : XK) : Prop := ∀ (pins : List (Addr × Obj)) (σ : St) (H : Hp) (s : Shared) (e : Value) (s' : Shared), Inv X pins σ H s → CX X.stack H s E e s' → X.xe e s'

section
variable {X : Cx} {CX : CXT} {k : Nat} {f C : Addr} {fd : FuncData} {ps : List Str} {sp : Sp} {dvs : List V} {ds : List Value} {E : XK} {x m : Str} {p pos apos : Pos} {e o : Expr} {es : List Expr} {ta : TE} {t : TA}

/-- the callee runs -/
theorem run_fn {pins : List (Addr × Obj)} {σ : St} {H : Hp} {s : Shared} {Q : VK} {us : List Value} {vs : List V} (F : FnOk X.prog X.w X.K X.mg X.base CX k f fd ps sp) (hr : Room k X.A) (hb : Binds X.K fd ps ds) (hd : Vals dvs ds) (hx : Passes CX X E)
    (I : Inv X pins σ H s) (r : Vals vs us) (h : sp (vs ++ dvs) H Q E) : wpAny (model X.prog X.w) X.A (call (.ref f) us) (EP X pins σ Q) X.xe s := by
  have r2 : Vals (vs ++ dvs) (us ++ ds) := r.append hd
  have hl : (us ++ ds).length = ps.length := by rw [← r2.length]; exact F.len _ _ _ _ h
  refine wpAny_call (codeAny_mono (F.run X.A X.stack s H ⟨us, []⟩ (us ++ ds) (vs ++ dvs) Q E hr I.env0 (hb s us I.kIn hl) r2 h) fun r s' hq => ?_)
  cases r with
  | error e => exact hx pins σ H s e s' I hq
  | ok fl =>
    cases fl with
    | ret u => exact I.after hq
    | next => exact False.elim hq
    | brk => exact False.elim hq
    | cont => exact False.elim hq

theorem pe_call (F : FnOk X.prog X.w X.K X.mg X.base CX k f fd ps sp) (hr : Room k X.A) (hg : Gl X x) (hm : X.mg x = some (.ref f)) (hk : PySem.W.keepIn X.K (.ref f) = true) (hb : Binds X.K fd ps ds) (hd : Vals dvs ds) (hx : Passes CX X E)
    (ha : PA X (e :: es) t) (hdb : (x == ("__debug__" : Str)) = false := by decide) (he : starEach (e :: es) X.env = (false, eval e X.env) :: starEach es X.env := by rfl) (hpl : (backTo pos (starEach es X.env)).any (·.1) = false := by rfl) :
    PE X (.Call (.Name x p) (e :: es) [] pos) (tCall sp dvs E t) := by
  intro pins s σ H Q I h
  refine wpAny_Call_Name_kw (ld_glob I hg hm ?_ hdb)
  refine PySem.W.callWith_K (h₀ := X.base) I.ok.mod.kin hk (thn (ha pos pins s σ H _ I h) fun us s1 ⟨vs, H1, I1, r, q⟩ => ⟨I1.kIn, ?_⟩) he hpl
  exact run_fn F hr hb hd hx I1 r q
/-- what a class must have to be made -/
structure Mk (K : PySem.W.Frag) (C f : Addr) : Prop where
  makes : PySem.W.makesIn K C = true
  init : PySem.W.findIn K (.ref C) "__init__" = some (some (.ref f))
  fn : PySem.W.isFn K (.ref f) = true
  kp : PySem.W.keepIn K (.ref C) = true

end

/-! ### keywords -/
/-- the values of the keywords, from the left -/
def PK (X : Cx) (kws : List Keyword) (t : TA) : Prop :=
  ∀ (pos : Pos) (pins : List (Addr × Obj)) (s : Shared) (σ : St) (H : Hp) (Q : List V → Hp → Prop), Inv X pins σ H s → t σ H Q → wpAny (model X.prog X.w) X.A (evalAll ((backToKw pos (keywordEach kws X.env)).map (·.2))) (AP X pins σ Q) X.xe s
section
variable {X : Cx} {CX : CXT} {k : Nat} {f C : Addr} {fd : FuncData} {ps ks : List Str} {sp : Sp} {E : XK} {x m : Str} {p pos apos kpos : Pos} {e o : Expr} {es : List Expr} {kws : List Keyword} {te ta : TE} {t tk : TA} {nm : Option Str}
/-- how a call with keywords binds: g puts the positional values us and the keywords' values ws (names ks) in the parameters' order, defaults among them -/
structure KBinds (K : PySem.W.Frag) (fd : FuncData) (ps ks : List Str) (g : List Value → List Value → List Value) (gV : List V → List V → List V) : Prop where
  to : ∀ (s : Shared) (us ws : List Value), K.In s.heap → (g us ws).length = ps.length → BindsTo s fd ⟨us, ks.zip ws⟩ (ps.zip (g us ws))
  rel : ∀ {vs : List V} {us : List Value} {zs : List V} {ws : List Value}, Vals vs us → Vals zs ws → Vals (gV vs zs) (g us ws)
def tCallK (sp : Sp) (gV : List V → List V → List V) (E : XK) (t tk : TA) : TE := fun σ H Q => t σ H fun vs H1 => tk σ H1 fun zs H2 => sp (gV vs zs) H2 Q E
variable {g : List Value → List Value → List Value} {gV : List V → List V → List V}
end

/-! ### a def's body keeps its promise -/
/-- names: the parameters first -/
structure FnScope (N P : List Str) (sc : Scope) : Prop where
  kind : sc.kind = .function
  co : sc.isCoroutine = false
  gen : sc.isGenerator = false
  nd : N.Nodup
  pre : N.take P.length = P
  par : ∀ x ∈ P, sc.names.lookup x = some .local ∨ sc.names.lookup x = some .cell
  nofree : ∀ y ∈ sc.names, y.2 ≠ .free

theorem bindL_out {kindOf : Str → Option NameKind} {x : Str} : ∀ {binds : List (Str × Value)} {m : Str → Option Value}, (∀ v, (x, v) ∉ binds) → bindL kindOf binds m x = m x
  | [], _, _ => rfl
  | (n, v) :: r, m, h => by
    unfold bindL
    rw [bindL_out fun w hw => h w (List.mem_cons_of_mem _ hw)]
    split
    · have : x ≠ n := by rintro rfl; exact h v List.mem_cons_self
      simp [this]
    · rfl
theorem bindC_out {kindOf : Str → Option NameKind} {x : Str} : ∀ {binds : List (Str × Value)} {m : Str → Option Value}, (∀ v, (x, v) ∉ binds) → bindC kindOf binds m x = m x
  | [], _, _ => rfl
  | (n, v) :: r, m, h => by
    unfold bindC
    rw [bindC_out fun w hw => h w (List.mem_cons_of_mem _ hw)]
    split
    · rfl
    · have : x ≠ n := by rintro rfl; exact h v List.mem_cons_self
      simp [this]
theorem bindL_get {kindOf : Str → Option NameKind} {x : Str} {v : Value} : ∀ {P : List Str} {vs : List Value} {i : Nat} {m : Str → Option Value}, P.Nodup → P[i]? = some x → vs[i]? = some v → kindOf x = some .local →
    bindL kindOf (P.zip vs) m x = some v
  | [], _, _, _, _, h, _, _ => by simp at h
  | _ :: _, [], _, _, _, _, h, _ => by simp at h
  | p :: P, w :: vs, 0, m, nd, h1, h2, hk => by
    simp at h1 h2; subst h1; subst h2
    show bindL kindOf ((p, w) :: P.zip vs) m p = _
    unfold bindL
    rw [bindL_out fun v hv => (List.nodup_cons.mp nd).1 (List.of_mem_zip hv).1, if_pos hk]
    simp
  | p :: P, w :: vs, i + 1, m, nd, h1, h2, hk => by
    show bindL kindOf ((p, w) :: P.zip vs) m x = _
    unfold bindL
    exact bindL_get (i := i) (List.nodup_cons.mp nd).2 (by simpa using h1) (by simpa using h2) hk
theorem bindC_get {kindOf : Str → Option NameKind} {x : Str} {v : Value} : ∀ {P : List Str} {vs : List Value} {i : Nat} {m : Str → Option Value}, P.Nodup → P[i]? = some x → vs[i]? = some v → kindOf x ≠ some .local →
    bindC kindOf (P.zip vs) m x = some v
  | [], _, _, _, _, h, _, _ => by simp at h
  | _ :: _, [], _, _, _, _, h, _ => by simp at h
  | p :: P, w :: vs, 0, m, nd, h1, h2, hk => by
    simp at h1 h2; subst h1; subst h2
    show bindC kindOf ((p, w) :: P.zip vs) m p = _
    unfold bindC
    rw [bindC_out fun v hv => (List.nodup_cons.mp nd).1 (List.of_mem_zip hv).1, if_neg hk]
    simp
  | p :: P, w :: vs, i + 1, m, nd, h1, h2, hk => by
    show bindC kindOf ((p, w) :: P.zip vs) m x = _
    unfold bindC
    exact bindC_get (i := i) (List.nodup_cons.mp nd).2 (by simpa using h1) (by simpa using h2) hk

/-- the names' values at the entry -/
def start (N : List Str) (vs : List V) : St := vs.map some ++ List.replicate (N.length - vs.length) none

/-- the context of a def's body, at its entry; an exception leaves the frame, then lies as CX says -/
def cxOf (CX : CXT) (P : Program) (w : World) (K : PySem.W.Frag) (mg : Str → Option Value) (base : Heap) (N : List Str) (qual : Str) (scope : Scope) (f : Addr) (cd : Value) (A : Around) (outer : List Env) (s : Shared) (H : Hp) (E : XK) : Cx where
  prog := P
  w := w
  K := K
  mg := mg
  base := base
  A := A.deeper (envOfC qual scope s.heap.objs.size f cd)
  N := N
  s₀ := s
  H₀ := H
  env := envOfC qual scope s.heap.objs.size f cd
  outer := outer
  stack := envOfC qual scope s.heap.objs.size f cd :: outer
  ex := []
  calm := true
  fn := fun _ => true
  pn := []
  xe := fun e s' => wpAny (model P w) (A.deeper (envOfC qual scope s.heap.objs.size f cd)) (leaving (envOfC qual scope s.heap.objs.size f cd) e) (fun _ s'' => CX outer H s E e s'') (fun e' s'' => CX outer H s E e' s'') s'

theorem cell_has {sc : Scope} {n : Nat} {x : Str} (h : sc.names.lookup x = some .cell) : ∃ c, (cellsFrom n sc.names []).lookup x = some c := by
  have q := PySem.W.cellsFrom_some sc.names n [] (.inl h)
  exact Option.isSome_iff_exists.mp q

theorem inv_start {CX : CXT} {P : Program} {w : World} {K : PySem.W.Frag} {mg : Str → Option Value} {base : Heap} {N ps : List Str} {qual : Str} {scope : Scope} {f : Addr} {cd : Value} {A : Around} {outer : List Env} {s s1 : Shared} {H : Hp} {E : XK} {us : List Value} {vs : List V}
    (S : FnScope N ps scope) (hd : A.handled = none) (e0 : Env0 P w K mg base A outer s H) (hl : vs.length = ps.length) (r : Vals vs us)
    (x : InCallC s s.heap.objs.size (bindL (envOfC qual scope s.heap.objs.size f cd).kindOf (ps.zip us) fun _ => none) (cellsFrom (s.heap.objs.size + 1) scope.names []) (bindC (envOfC qual scope s.heap.objs.size f cd).kindOf (ps.zip us) fun _ => none) s1) :
    Inv (cxOf CX P w K mg base N qual scope f cd A outer s H E) [] (start N vs) H s1 := by
  have hpl : ps.length ≤ N.length := by have := congrArg List.length S.pre; rw [List.length_take] at this; omega
  obtain ⟨h1, tk, rfl, hk⟩ := x.done
  have noA : ∀ b : Addr, b ∉ (cxOf CX P w K mg base N qual scope f cd A outer s H E).ex := fun b z => absurd (show b ∈ ([] : List Addr) from z) (by simp)
  refine ⟨⟨e0.mod, S.kind, rfl, rfl, Nat.le_refl _, fun y z c h1 h2 => ?_, fun y hy => ?_, fun y c _ h => ?_, fun _ => hd, Around.frames_deeper e0.frames, .inr ⟨rfl, rfl⟩, fun b z => absurd z (noA b), e0.bs, e0.bsz, fun b _ _ => noA b, fun b z => absurd z (noA b), e0.funs, e0.frf⟩,
    rfl, e0.bare, Un.kept hk, ⟨_, x.toInCall.ns, fun i y v h1 h2 h3 => ?_⟩, fun y c h => ⟨_, x.cell y c h⟩, e0.hok.fresh (Nat.le_refl _), fun y c h => ?_, fun p hp => absurd (show p ∈ ([] : List (Addr × Obj)) from hp) (by simp), e0.hok.kept hk, ?_⟩
  · exact name_of_addr x.apart (PySem.mem_of_lookup h1) (PySem.mem_of_lookup h2)
  · have hy : scope.names.lookup y = some .cell ∨ scope.names.lookup y = some .free := hy
    rcases hy with hy | hy
    · exact cell_has hy
    · exact absurd rfl (S.nofree _ (PySem.mem_of_lookup hy))
  · exact Nat.le_of_lt (x.above y c (PySem.mem_of_lookup h))
  · have hi : i < vs.length := by
      unfold start at h2
      by_cases hi : i < vs.length
      · exact hi
      · rw [List.getElem?_append_right (by simpa using hi)] at h2
        rw [List.getElem?_replicate] at h2
        split at h2 <;> cases h2
    have ha : vs[i]? = some v := by
      unfold start at h2
      rw [List.getElem?_append_left (by simpa using hi), List.getElem?_map] at h2
      cases e : vs[i]? with
      | none => rw [e] at h2; cases h2
      | some a => rw [e] at h2; cases h2; rfl
    obtain ⟨u, hu, rv⟩ := r.get ha
    have hp : ps[i]? = some y := by
      rw [← S.pre, List.getElem?_take_of_lt (by omega)]; exact h1
    have ndP : ps.Nodup := by rw [← S.pre]; exact S.nd.sublist (List.take_sublist _ _)
    refine ⟨u, rv, ?_⟩
    rcases S.par y (List.mem_of_getElem? hp) with k | k
    · exact .inl ⟨k, bindL_get ndP hp hu k⟩
    · obtain ⟨c, e⟩ := cell_has (n := s.heap.objs.size + 1) k
      refine .inr ⟨.inl k, c, e, ?_⟩
      have q := x.cell y c e
      rw [bindC_get ndP hp hu (by show scope.names.lookup y ≠ _; rw [k]; decide)] at q
      exact q
  · exact e0.hok.fresh (Nat.le_of_lt (x.above y c (PySem.mem_of_lookup h)))
  · unfold start
    show _ = N.length
    rw [List.length_append, List.length_map, List.length_replicate]
    omega

/-- THE RULE: a def (or a method) of the text, by its body. The body's reading t is chosen for each entry; it is run at the parameters' values -/
theorem fn_of {CX : CXT} {P : Program} {w : World} {K : PySem.W.Frag} {mg : Str → Option Value} {base : Heap} {k : Nat} {f : Addr} {name qual : Str} {params : Arguments} {body : List Stmt} {scope : Scope} {dV kV doc pm cdv ct oc : Value} {an od : Option Addr}
    {osl : Array (Option Value)} {N ps : List Str} {sp : Sp} (lk : K.lookup f = some ⟨oc, od, .func (PySem.W.fnOf name qual params body scope dV kV doc pm an cdv ct), osl⟩) (hcd : PySem.W.codeIn K cdv qual = true) (S : FnScope N ps scope)
    (len : ∀ vs H Q E, sp vs H Q E → vs.length = ps.length)
    (hbody : ∀ (A : Around) (outer : List Env) (s : Shared) (H : Hp) (vs : List V) (Q : VK) (E : XK), Room k (A.deeper (envOfC qual scope s.heap.objs.size f cdv)) → sp vs H Q E →
      ∃ t, PSs (cxOf CX P w K mg base N qual scope f cdv A outer s H E) body t ∧ t { nx := fun _ H' => Q .non H', rt := Q } (start N vs) H) :
    FnOk P w K mg base CX (k + 1) f (PySem.W.fnOf name qual params body scope dV kV doc pm an cdv ct) ps sp := by
  refine ⟨len, fun A outer s H args us vs Q E hr e0 hb r hsp => ?_⟩
  have hl := len _ _ _ _ hsp
  have KX : K.In s.heap := e0.mod.kin.keeps fun b o e => (e0.bs b o e).1
  have lim : s.heap.NoLimit := e0.mod.nolimit.keeps fun b o e => (e0.bs b o e).1
  have hkind : ∀ y ∈ ps.zip us, scope.names.lookup y.1 = some .local ∨ (scope.names.lookup y.1 = some .cell ∧ ((cellsFrom (s.heap.objs.size + 1) scope.names []).lookup y.1).isSome = true) := fun ⟨n, v⟩ hy => by
    rcases S.par n (List.of_mem_zip hy).1 with q | q
    · exact .inl q
    · exact .inr ⟨q, PySem.W.cellsFrom_some _ _ _ (.inl q)⟩
  refine codeAny_call_function hr.depth (KX _ _ lk) rfl S.co S.gen rfl (PySem.W.codeRec_of KX hcd) (hb _ _ _ _ ?_)
  refine wpAny_newFunctionEnv_cells S.kind hkind fun env he s1 x => ?_
  subst he
  refine ⟨lim.keeps x.toInCall.keep, codeAny_func ?_⟩
  obtain ⟨t, ht, hq⟩ := hbody A outer s H vs Q E (hr.deeper _) hsp
  have I : Inv (cxOf CX P w K mg base N qual scope f cdv A outer s H E) [] (start N vs) H s1 := inv_start S hr.hd e0 hl r x
  refine wpAny_mono (ht [] s1 (start N vs) H _ I hq) (fun fl s' hs => ?_) fun e s' hs => hs
  have fin : ∀ {σ' : St} {H' : Hp} {v : V} {u : Value}, Inv (cxOf CX P w K mg base N qual scope f cdv A outer s H E) [] σ' H' s' → RelV v u → Q v H' → CE outer P w H s Q u s' :=
    fun {σ' H' v u} J rv q => ⟨v, H', J.os, J.bare, J.base, J.hok, rv, q⟩
  cases fl with
  | ret u =>
    obtain ⟨v, σ', H', J, rv, q⟩ := hs
    exact fin J rv q
  | next =>
    obtain ⟨σ', H', J, q⟩ := hs
    exact fin (v := V.non) (u := Value.none) J rfl q
  | brk =>
    obtain ⟨_, _, _, q⟩ := hs
    exact False.elim q
  | cont =>
    obtain ⟨_, _, _, q⟩ := hs
    exact False.elim q
end L2

namespace L2
open PySem PySem.Spec PyProof.Rows
section
variable {X : Cx} {x : Str} {p pos : Pos} {e : Expr} {es : List Expr} {t : TA} {id T : String} {r : List V → Hp → VK → Prop}

def tCB (r : List V → Hp → VK → Prop) (t : TA) : TE := fun σ H Q => t σ H fun vs H1 => r vs H1 Q
/-- f(e, ..), f a built-in function -/
theorem pe_callB (hc : CallR X (.builtin id) r) (hg : Gl X x) (hm : X.mg x = none) (hv : bootBuiltins x = some (.builtin id)) (ha : PA X (e :: es) t) (hn : x ≠ "__name__" := by decide) (hdb : (x == ("__debug__" : Str)) = false := by decide)
    (he : starEach (e :: es) X.env = (false, eval e X.env) :: starEach es X.env := by rfl) (hpl : (backTo pos (starEach es X.env)).any (·.1) = false := by rfl) : PE X (.Call (.Name x p) (e :: es) [] pos) (tCB r t) := by
  intro pins s σ H Q I h
  refine wpAny_Call_Name_kw (ld_blt I hg hm hv ?_ hn hdb)
  exact PyProof.Rows.callWith_builtin1 (thn (ha pos pins s σ H _ I h) fun us s1 ⟨vs, H1, I1, r1, q1⟩ => hc pins s1 σ H1 vs us Q I1 r1 q1) he hpl
/-- T(e, ..), T a built-in type -/
theorem pe_callTy (hc : CallR X (.type T) r) (hg : Gl X x) (hm : X.mg x = none) (hv : bootBuiltins x = some (.type T)) (ha : PA X (e :: es) t) (hn : x ≠ "__name__" := by decide) (hdb : (x == ("__debug__" : Str)) = false := by decide)
    (he : starEach (e :: es) X.env = (false, eval e X.env) :: starEach es X.env := by rfl) (hpl : (backTo pos (starEach es X.env)).any (·.1) = false := by rfl) : PE X (.Call (.Name x p) (e :: es) [] pos) (tCB r t) := by
  intro pins s σ H Q I h
  refine wpAny_Call_Name_kw (ld_blt I hg hm hv ?_ hn hdb)
  exact PyProof.Rows.callWith_type1 (thn (ha pos pins s σ H _ I h) fun us s1 ⟨vs, H1, I1, r1, q1⟩ => hc pins s1 σ H1 vs us Q I1 r1 q1) he hpl
end
end L2

namespace HT
open PySem PyProof.Rows

/-- t < u of tuples of ints -/
def lexLt : List Int → List Int → Bool
  | [], [] => false
  | [], _ :: _ => true
  | _ :: _, [] => false
  | x :: xs, y :: ys => if x = y then lexLt xs ys else decide (x < y)
section
open PySem.SeqAt
open PySem.AutoSeq1 (wpAny_loadPart')
open PySem.MeetsSeq PySem.MeetsSeq2 PySem.MeetsSeq3

end

section
variable {prog : Program} {w : World} {A : Around} {E : Value → Shared → Prop} {s : Shared}

/-! ### t[a:b], not the whole -/
/-- a slice's bound as a place among n (d where it is left out) -/
def sIx (n d : Nat) : Option Int → Nat
  | none => d
  | some v => if v < 0 then (v + (n : Int)).toNat else min v.toNat n
theorem sIx_none (n d : Nat) : sIx n d none = d := rfl
theorem sIx_nat (n d k : Nat) : sIx n d (some (k : Int)) = min k n := by
  show (if (k : Int) < 0 then ((k : Int) + (n : Int)).toNat else min (k : Int).toNat n) = min k n
  rw [if_neg (by omega), Int.toNat_natCast]
theorem sIx_le (n d : Nat) (hd : d ≤ n) (o : Option Int) : sIx n d o ≤ n := by
  cases o with
  | none => exact hd
  | some v =>
    show (if v < 0 then (v + (n : Int)).toNat else min v.toNat n) ≤ n
    by_cases hv : v < 0
    · rw [if_pos hv]; omega
    · rw [if_neg hv]; exact Nat.min_le_right _ _
end
end HT

namespace L2
open PySem PySem.Spec PyProof.Rows

/-! ### the parts of a slice -/
abbrev TO := St → Hp → (Option Int → Hp → Prop) → Prop
/-- a slice's part (left out, or an int) -/
def PO (X : Cx) (e : Option Expr) (t : TO) : Prop :=
  ∀ (pins : List (Addr × Obj)) (s : Shared) (σ : St) (H : Hp) (Q : Option Int → Hp → Prop), Inv X pins σ H s → t σ H Q →
    wpAny (model X.prog X.w) X.A (evalPart e X.env) (fun u s' => ∃ o H', Inv X pins σ H' s' ∧ IsPart u o ∧ Q o H') X.xe s
def tNoPart : TO := fun _ H Q => Q none H
def tPart (t : TE) : TO := fun σ H Q => t σ H fun x H1 => ∃ i, x = .int i ∧ Q (some i) H1

section
variable {X : Cx} {e : Expr} {te : TE} {lo hi : Option Expr} {tl th : TO} {pos p2 : Pos}

theorem po_none : PO X none tNoPart := by
  intro pins s σ H Q I h
  rw [evalPart_none]
  exact wpAny_pure ⟨none, H, I, .none, h⟩
theorem po_some (h : PE X e te) : PO X (some e) (tPart te) := by
  intro pins s σ H Q I hw
  rw [evalPart_some]
  refine thn (h pins s σ H _ I hw) fun u s1 ⟨x, H1, I1, r1, q1⟩ => ?_
  obtain ⟨i, rfl, q⟩ := q1
  obtain ⟨t, rfl⟩ := r1
  exact ⟨some i, H1, I1, .int i t, q⟩

/-- what a slice of a value is, by values: the slice object stands at sl -/
def SlR (X : Cx) (r : V → Option Int → Option Int → Hp → VK → Prop) : Prop :=
  ∀ (pins : List (Addr × Obj)) (s : Shared) (σ : St) (H : Hp) (x : V) (v vl vu : Value) (lo hi : Option Int) (sl : Addr) (Q : VK), Inv X pins σ H s → RelV x v → s.heap.IsSliceOf sl vl vu .none → IsPart vl lo → IsPart vu hi → r x lo hi H Q →
    ∃ T id, typeLookup (.type T) "__getitem__" = pure (some (.builtin id)) ∧ s.TypeIs v T ∧ wpAny (model X.prog X.w) X.A (getItem v (.ref sl)) (EP X pins σ Q) X.xe s
def tSl (r : V → Option Int → Option Int → Hp → VK → Prop) (te : TE) (tl th : TO) : TE := fun σ H Q => te σ H fun x H1 => tl σ H1 fun l H2 => th σ H2 fun u H3 => r x l u H3 Q
/-- a[lo:hi], any a -/
theorem pe_slice {r : V → Option Int → Option Int → Hp → VK → Prop} (hr : SlR X r) (he : PE X e te) (hl : PO X lo tl) (hu : PO X hi th) : PE X (.Subscript e (.Slice lo hi none p2) pos) (tSl r te tl th) := by
  intro pins s σ H Q I h
  refine Subscript_ (thn (he pins s σ H _ I h) fun v s1 ⟨x, H1, I1, r1, q1⟩ => ?_)
  refine wpAny_Slice (thn (hl pins s1 σ H1 _ I1 q1) fun vl s2 ⟨l, H2, I2, pl, q2⟩ => thn (hu pins s2 σ H2 _ I2 q2) fun vu s3 ⟨u, H3, I3, pu, q3⟩ => ?_)
  rw [evalPart_none]
  refine wpAny_pure ?_
  have I4 : Inv X pins σ H3 { s3 with heap := s3.heap.push { cls := .type "slice", data := .fields #[vl, vu, .none] } } := I3.kept (t' := s3.toks) fun b ob q => Heap.get?_push_of_some _ q
  obtain ⟨T, id, hT, ht, hg⟩ := hr pins { s3 with heap := s3.heap.push { cls := .type "slice", data := .fields #[vl, vu, .none] } } σ H3 x v vl vu l u s3.heap.objs.size Q I4 r1 (Heap.IsSliceOf.new ..) pl pu q3
  show wpAny (model X.prog X.w) X.A (subscriptTail e (.Slice lo hi none p2) v (.ref s3.heap.objs.size)) (EP X pins σ Q) X.xe { s3 with heap := s3.heap.push { cls := .type "slice", data := .fields #[vl, vu, .none] } }
  exact tail_any (ops := [.ref s3.heap.objs.size, v]) ht hT hg (by with_unfolding_all rfl)

/-- the items of xs[lo:hi] -/
def cutV (xs : List V) (lo hi : Option Int) : List V := (xs.drop (HT.sIx xs.length 0 lo)).take (HT.sIx xs.length xs.length hi - HT.sIx xs.length 0 lo)
/-- t[lo:hi], not the whole of it (the whole would be t itself) -/
def rSlT (K : PySem.W.Frag) : V → Option Int → Option Int → Hp → VK → Prop := fun x lo hi H Q => ∃ a xs, x = .ref a ∧ SqT K H a xs ∧
  ¬ (HT.sIx xs.length 0 lo = 0 ∧ HT.sIx xs.length xs.length hi = xs.length) ∧ ∀ p, H p = none → Q (.ref p) (upd H p (.tup (cutV xs lo hi)))
/-! ### t < u, t + u -/
def rLtT (K : PySem.W.Frag) : R2 := fun x y H Q => ∃ a b ns ms, x = .ref a ∧ y = .ref b ∧ SqT K H a (ns.map V.int) ∧ SqT K H b (ms.map V.int) ∧ Q (.bl (HT.lexLt ns ms)) H
/-- t + u, t not empty: u empty gives t itself -/
def rCatT (K : PySem.W.Frag) : R2 := fun x y H Q => ∃ a b xs ys, x = .ref a ∧ y = .ref b ∧ SqT K H a xs ∧ SqT K H b ys ∧ xs ≠ [] ∧ xs.length + ys.length ≤ sizeLine ∧
  (ys = [] → Q (.ref a) H) ∧ (ys ≠ [] → ∀ p, H p = none → Q (.ref p) (upd H p (.tup (xs ++ ys))))
end
end L2

namespace L2
open PySem PySem.Spec PyProof.Rows

/-! ### places -/
/-- the place that an index of any sign means -/
def ixN (n : Nat) (i : Int) : Option Nat := if 0 ≤ i then (if i < n then some i.toNat else none) else if -(n : Int) ≤ i then some (i + n).toNat else none
def atI {α : Type} (xs : List α) (i : Int) : Option α := (ixN xs.length i).bind fun j => xs[j]?
theorem ixN_seq {n : Nat} {i : Int} {j : Nat} (h : ixN n i = some j) : seqIndex? i n = some j ∧ j < n ∧ -(n : Int) ≤ i ∧ i < n := by
  unfold ixN at h
  by_cases h0 : 0 ≤ i
  · rw [if_pos h0] at h
    by_cases h1 : i < n
    · rw [if_pos h1] at h
      have e : i.toNat = j := Option.some.inj h
      exact ⟨by rw [seqIndex_of h0 h1, e], by omega, by omega, h1⟩
    · rw [if_neg h1] at h; cases h
  · rw [if_neg h0] at h
    by_cases h1 : -(n : Int) ≤ i
    · rw [if_pos h1] at h
      have e : (i + n).toNat = j := Option.some.inj h
      exact ⟨by rw [seqIndex_neg (by omega) h1, e], by omega, h1, by omega⟩
    · rw [if_neg h1] at h; cases h
theorem atI_get {α : Type} {xs : List α} {i : Int} {v : α} (h : atI xs i = some v) : ∃ j, seqIndex? i xs.length = some j ∧ xs[j]? = some v ∧ j < xs.length ∧ -(xs.length : Int) ≤ i ∧ i < xs.length := by
  unfold atI at h
  cases e : ixN xs.length i with
  | none => rw [e] at h; cases h
  | some j =>
    rw [e] at h
    obtain ⟨h1, h2, h3, h4⟩ := ixN_seq e
    exact ⟨j, h1, h, h2, h3, h4⟩
theorem atI_nat {α : Type} {xs : List α} {j : Nat} {v : α} (h : xs[j]? = some v) : atI xs (j : Int) = some v := by
  have hj : j < xs.length := (List.getElem?_eq_some_iff.mp h).1
  have e : ixN xs.length (j : Int) = some j := by
    unfold ixN
    rw [if_pos (by omega), if_pos (by omega)]; simp
  unfold atI; rw [e]; exact h
/-! ### what may be subscripted -/
/-- what stands as an index of a plain subscript -/
def PlainIx (b : Expr) : Prop := ∀ o i, subscripted b false o i = operate [o, i] (getItem o i)
/-- a subscript by values -/
def IxR (X : Cx) (r : R2) : Prop :=
  ∀ (value slice : Expr) (pins : List (Addr × Obj)) (s : Shared) (σ : St) (H : Hp) (x y : V) (v u : Value) (Q : VK), Inv X pins σ H s → RelV x v → RelV y u → r x y H Q →
    subscripted slice false v u = operate [v, u] (getItem v u) → wpAny (model X.prog X.w) X.A (subscriptTail value slice v u) (EP X pins σ Q) X.xe s
/-- a call of a builtin's method by values: the receiver, the arguments -/
def MtR (X : Cx) (id : String) (r : V → List V → Hp → VK → Prop) : Prop :=
  ∀ (pins : List (Addr × Obj)) (s : Shared) (σ : St) (H : Hp) (x : V) (xs : List V) (v : Value) (us : List Value) (Q : VK), Inv X pins σ H s → RelV x v → Vals xs us → r x xs H Q →
    wpAny (model X.prog X.w) X.A (call (.builtin id) (v :: us)) (EP X pins σ Q) X.xe s
section
variable {X : Cx} {a b : Expr} {ta tb : TE} {pos : Pos}
/-- a[b] -/
theorem pe_ix {r : R2} (hr : IxR X r) (ha : PE X a ta) (hb : PE X b tb) (hs : PlainIx b) : PE X (.Subscript a b pos) (tOp r ta tb) := by
  intro pins s σ H Q I h
  exact Subscript_ (binT ha hb I h fun v u s2 x y H2 I2 rx ry q => hr a b pins s2 σ H2 x y v u Q I2 rx ry q (hs _ _))

def rIxL (K : PySem.W.Frag) : R2 := fun x y H Q => ∃ p xs i v, x = .ref p ∧ y = .int i ∧ SqL K H p xs ∧ atI xs i = some v ∧ Q v H
def rIxT (K : PySem.W.Frag) : R2 := fun x y H Q => ∃ p xs i v, x = .ref p ∧ y = .int i ∧ SqT K H p xs ∧ atI xs i = some v ∧ Q v H
def rIxS : R2 := fun x y H Q => ∃ z i c, x = .str z ∧ y = .int i ∧ z.length ≤ sizeLine ∧ atI z.cps.toList i = some c ∧ Q (.str ⟨#[c]⟩) H
theorem ix_list : IxR X (rIxL X.K) := by
  intro value slice pins s σ H x y v u Q I rx ry h hs
  obtain ⟨p, xs, i, z, rfl, rfl, hq, he, q⟩ := h
  cases rx
  obtain ⟨t, rfl⟩ := ry
  obtain ⟨its, r, pl, hz⟩ := I.list hq
  obtain ⟨j, h1, h2, h3, h4, h5⟩ := atI_get he
  obtain ⟨w, ew, rw'⟩ := r.get h2
  have hl := r.length
  have hn := line63
  have fin : EP X pins σ Q w s := ⟨z, H, I, rw', q⟩
  by_cases h0 : 0 ≤ i
  · have hj : i.toNat = j := by
      rw [seqIndex_of h0 h5] at h1
      exact Option.some.inj h1
    exact item_listR pl.isList h0 (by omega) (by rw [hj]; simpa using ew) fin hs
  · have hj : (i + (its.toArray.size : Int)).toNat = j := by
      rw [seqIndex_neg (by omega) h4] at h1
      rw [List.size_toArray, ← hl]
      exact Option.some.inj h1
    exact subscriptTail_builtinR (x := w) pl.isList.typeIs slot_list_getitem.lookup
      (wpAny_getItem_list_neg (Q := fun r s' => r = w ∧ EP X pins σ Q r s') pl.isList (by omega) (by rw [List.size_toArray] <;> omega) (by omega) (by rw [hj]; simpa using ew) ⟨rfl, fin⟩) hs
theorem ix_tup : IxR X (rIxT X.K) := by
  intro value slice pins s σ H x y v u Q I rx ry h hs
  obtain ⟨p, xs, i, z, rfl, rfl, hq, he, q⟩ := h
  cases rx
  obtain ⟨t, rfl⟩ := ry
  obtain ⟨its, r, pl, hz⟩ := I.tuple hq
  obtain ⟨j, h1, h2, h3, h4, h5⟩ := atI_get he
  obtain ⟨w, ew, rw'⟩ := r.get h2
  have hl := r.length
  have hn := line63
  have fin : EP X pins σ Q w s := ⟨z, H, I, rw', q⟩
  exact subscriptTail_builtinR (x := w) pl.typeIs slot_tuple_getitem.lookup
    (getItem_tuple (j := j) (Q := fun r s' => r = w ∧ EP X pins σ Q r s') pl (by omega) (by omega) (by rw [List.size_toArray, ← hl]; exact h1) (by simpa using ew) ⟨rfl, fin⟩) hs
theorem ix_str : IxR X rIxS := by
  intro value slice pins s σ H x y v u Q I rx ry h hs
  obtain ⟨z, i, c, rfl, rfl, hz, he, q⟩ := h
  obtain ⟨t, rfl⟩ := rx
  obtain ⟨t', rfl⟩ := ry
  obtain ⟨j, h1, h2, h3, h4, h5⟩ := atI_get he
  have hl : z.cps.toList.length = z.length := by simp [Str.length]
  rw [hl] at h1 h4 h5
  have hn := line63
  exact tail_any (typeIs_str s z t) slot_str_getitem.lookup (getItem_str (c := c) (by
    have e1 : decide (i < -(2 ^ 63 : Int)) = false := decide_eq_false (by omega)
    have e2 : decide (i ≥ 2 ^ 63) = false := decide_eq_false (by omega)
    rw [e1, e2, Bool.or_false]) (by rw [h1]; simpa using h2) ⟨.str ⟨#[c]⟩, H, I.tok _, ⟨_, rfl⟩, q⟩) hs
/-- list, tuple or str -/
def rIx (K : PySem.W.Frag) : R2 := fun x y H Q => rIxL K x y H Q ∨ rIxT K x y H Q ∨ rIxS x y H Q
/-! ### xs[i] = v, any sign -/
/-- the list's object behind a store -/
theorem mapSeq_set (its : List Value) (n j : Nat) (u : Value) : Obj.mapSeq (·.setIfInBounds j u) { cls := .type "list", data := .seq its.toArray n } = { cls := .type "list", data := .seq (its.set j u).toArray n } := by
  simp [Obj.mapSeq]
theorem Inv.lst {pins : List (Addr × Obj)} {σ : St} {H : Hp} {s : Shared} {p : Addr} {xs : List V} (I : Inv X pins σ H s) (h : H p = some (.lst xs)) :
    ∃ (its : List Value) (n : Nat), Vals xs its ∧ s.heap.get? p = some { cls := .type "list", data := .seq its.toArray n } ∧ xs.length ≤ sizeLine := by
  obtain ⟨z, its, n, r, e⟩ := I.hok p _ h
  exact ⟨its, n, r, e, z⟩
/-- the list at p is written by an update of its object -/
theorem Inv.lstUpd {pins : List (Addr × Obj)} {σ : St} {H : Hp} {s : Shared} {p : Addr} {xs ys : List V} {its its' : List Value} {n n' : Nat} {f : Obj → Obj} (I : Inv X pins σ H s) (h : H p = some (.lst xs))
    (ho : s.heap.get? p = some { cls := .type "list", data := .seq its.toArray n }) (hf : f { cls := .type "list", data := .seq its.toArray n } = { cls := .type "list", data := .seq its'.toArray n' }) (r : Vals ys its') (hz : ys.length ≤ sizeLine) (t : Nat) :
    Inv X pins σ (upd H p (.lst ys)) { s with heap := s.heap.update p f, toks := t } := by
  have e : (s.heap.update p f).get? p = some { cls := .type "list", data := .seq its'.toArray n' } := by
    rw [Heap.get?_update_self f ho (by rw [hf] <;> rfl), hf]
  refine I.write (x := p) (e := p) (by rw [h]; trivial) (.inl rfl) (fun b u hb q => (Heap.get?_update_other _ _ (Ne.symm hb)).trans q) ⟨_, e⟩ ?_
  exact ⟨hz, its', n', r, e⟩
def rSetL : V → V → V → Hp → (Hp → Prop) → Prop := fun o i v H Q => ∃ p xs k j, o = .ref p ∧ i = .int k ∧ H p = some (.lst xs) ∧ ixN xs.length k = some j ∧ Q (upd H p (.lst (xs.set j v)))
theorem set_list : PSet X rSetL := by
  intro pins s σ H o i v ov iv u Q I ro ri rv h
  obtain ⟨p, xs, k, j, rfl, rfl, hp, hj, q⟩ := h
  cases ro
  obtain ⟨t, rfl⟩ := ri
  obtain ⟨its, n, r, ho, hz⟩ := I.lst hp
  obtain ⟨h1, h2, h3, h4⟩ := ixN_seq hj
  have hl := r.length
  have hn := line63
  have I' : Inv X pins σ (upd H p (.lst (xs.set j v))) { s with heap := s.heap.update p (Obj.mapSeq (·.setIfInBounds j u)) } :=
    I.lstUpd hp ho (mapSeq_set its n j u) (r.set rv j) (by rw [List.length_set]; exact hz) s.toks
  by_cases h0 : 0 ≤ k
  · have hk : k.toNat = j := by
      rw [seqIndex_of h0 h4] at h1
      exact Option.some.inj h1
    exact PySem.W.ki_setAt ho h0 (by omega) (by rw [List.size_toArray, ← hl]; exact h4) (by rw [hk]; exact ⟨_, I', q⟩)
  · have hk : (k + (its.toArray.size : Int)).toNat = j := by
      rw [seqIndex_neg (by omega) h3] at h1
      rw [List.size_toArray, ← hl]
      exact Option.some.inj h1
    exact PySem.W.ki_setBack ho (by omega) (by rw [List.size_toArray, ← hl]; exact h3) (by omega) (by rw [hk]; exact ⟨_, I', q⟩)

/-! ### slices -/
/-- xs[lo:hi] of a list: a new list -/
def rSlL (K : PySem.W.Frag) : V → Option Int → Option Int → Hp → VK → Prop := fun x lo hi H Q => ∃ a xs, x = .ref a ∧ SqL K H a xs ∧ ∀ p, H p = none → Q (.ref p) (upd H p (.lst (cutV xs lo hi)))
/-! ### in, not in: flat items -/
def flatV : V → Bool
  | .non => true
  | .bl _ => true
  | .int _ => true
  | .str _ => true
  | _ => false
/-- == of flat values -/
def eqV : V → V → Bool
  | .non, .non => true
  | .bl a, .bl b => a == b
  | .bl a, .int b => (if a then 1 else 0) == b
  | .int a, .bl b => a == (if b then 1 else 0)
  | .int a, .int b => a == b
  | .str a, .str b => a == b
  | _, _ => false
theorem eqAt_V {A : Around} {s : Shared} {y x : V} {u v : Value} (ry : RelV y u) (rx : RelV x v) (fy : flatV y = true) (fx : flatV x = true) : SeqAt.EqAt A s u v (eqV y x) := by
  cases y with
  | non =>
    cases ry
    cases x with
    | non => cases rx; exact SeqAt.EqAt.same _
    | bl b => cases rx; exact SeqAt.EqAt.none_bool b
    | int b => obtain ⟨t, rfl⟩ := rx; exact SeqAt.EqAt.none_int b t
    | str b => obtain ⟨t, rfl⟩ := rx; exact SeqAt.EqAt.none_str b t
    | _ => exact absurd (show false = true from fx) Bool.false_ne_true
  | bl a =>
    cases ry
    cases x with
    | non => cases rx; exact SeqAt.EqAt.bool_none a
    | bl b => cases rx; exact SeqAt.EqAt.bool_bool a b
    | int b => obtain ⟨t, rfl⟩ := rx; exact SeqAt.EqAt.bool_int a b t
    | str b => obtain ⟨t, rfl⟩ := rx; exact SeqAt.EqAt.bool_str a b t
    | _ => exact absurd (show false = true from fx) Bool.false_ne_true
  | int a =>
    obtain ⟨t', rfl⟩ := ry
    cases x with
    | non => cases rx; exact SeqAt.EqAt.int_none a t'
    | bl b => cases rx; exact SeqAt.EqAt.int_bool a t' b
    | int b => obtain ⟨t, rfl⟩ := rx; exact SeqAt.EqAt.int_int a t' b t
    | str b => obtain ⟨t, rfl⟩ := rx; exact SeqAt.EqAt.int_str a t' b t
    | _ => exact absurd (show false = true from fx) Bool.false_ne_true
  | str a =>
    obtain ⟨t', rfl⟩ := ry
    cases x with
    | non => cases rx; exact SeqAt.EqAt.str_none a t'
    | bl b => cases rx; exact SeqAt.EqAt.str_bool a t' b
    | int b => obtain ⟨t, rfl⟩ := rx; exact SeqAt.EqAt.str_int a t' b t
    | str b => obtain ⟨t, rfl⟩ := rx; exact SeqAt.EqAt.str_str a t' b t
    | _ => exact absurd (show false = true from fx) Bool.false_ne_true
  | _ => exact absurd (show false = true from fy) Bool.false_ne_true
/-- the items' answers, read off the values (a value's own answer does not lean on its token) -/
def eqU (x : V) (u : Value) : Bool := match u with
  | .none => eqV .non x
  | .bool b => eqV (.bl b) x
  | .int i _ => eqV (.int i) x
  | .str z _ => eqV (.str z) x
  | _ => false
def inV (x : V) (xs : List V) : Bool := xs.any fun y => eqV y x
/-- x in a list or tuple of flat items -/
def rIn (K : PySem.W.Frag) (neg : Bool) : R2 := fun x y H Q => ∃ p xs, y = .ref p ∧ (SqL K H p xs ∨ SqT K H p xs) ∧ flatV x = true ∧ xs.all flatV = true ∧ Q (.bl (if neg then !inV x xs else inV x xs)) H
/-! ### len, list(x), tuple(x) of any list or tuple that is read -/
theorem call_len_seq : CallR X (.builtin "len") (fun xs H Q => ∃ p ys, xs = [.ref p] ∧ (SqL X.K H p ys ∨ SqT X.K H p ys) ∧ Q (.int ys.length) H) := by
  intro pins s σ H xs us Q I r h
  obtain ⟨p, ys, rfl, hq, q⟩ := h
  obtain ⟨u, rfl, rx⟩ := vals1 r
  cases rx
  have hn := line63
  rcases hq with hq | hq
  · obtain ⟨its, r', pl, hz⟩ := I.list hq
    have hlen := r'.length
    exact Calls.call_len_list pl.isList (by simp only [List.size_toArray] <;> omega) ⟨.int ys.length, H, I.tok _, ⟨s.toks + 1, by rw [List.size_toArray, hlen]⟩, q⟩
  · obtain ⟨its, r', pl, hz⟩ := I.tuple hq
    have hlen := r'.length
    exact len_tuple pl (by simp only [List.size_toArray] <;> omega) ⟨.int ys.length, H, I.tok _, ⟨s.toks + 1, by rw [List.size_toArray, hlen]⟩, q⟩
theorem call_len_str : CallR X (.builtin "len") (fun xs H Q => ∃ z, xs = [.str z] ∧ z.length ≤ sizeLine ∧ Q (.int z.length) H) := by
  intro pins s σ H xs us Q I r h
  obtain ⟨z, rfl, hz, q⟩ := h
  obtain ⟨u, rfl, t, rfl⟩ := vals1 r
  have hn := line63
  exact len_str (by omega) ⟨.int z.length, H, I.tok _, ⟨_, rfl⟩, q⟩
theorem call_list_of : CallR X (.type "list") (fun xs H Q => ∃ p ys, xs = [.ref p] ∧ (SqL X.K H p ys ∨ SqT X.K H p ys) ∧ ∀ l, H l = none → Q (.ref l) (upd H l (.lst ys))) := by
  intro pins s σ H xs us Q I r h
  obtain ⟨p, ys, rfl, hq, q⟩ := h
  obtain ⟨u, rfl, rx⟩ := vals1 r
  cases rx
  have fin : ∀ (its : List Value), Vals ys its → ys.length ≤ sizeLine → ∀ (h' : Heap) (c' : Nat), (∀ b o', s.heap.get? b = some o' → h'.get? b = some o') →
      h'.get? s.heap.objs.size = some { cls := .type "list", dict := none, data := .seq its.toArray c', slots := #[] } → EP X pins σ Q (.ref s.heap.objs.size) { s with heap := h' } := fun its r' hz h' c' kp e =>
    ⟨.ref s.heap.objs.size, _, I.laid (t' := s.toks) kp (Nat.le_refl _) (show ObjOk X.prog X.w _ h' _ (.lst ys) from ⟨hz, its, c', r', e⟩), rfl, q _ (I.hok.fresh (Nat.le_refl _))⟩
  rcases hq with hq | hq
  · obtain ⟨its, r', pl, hz⟩ := I.list hq
    have hlen := r'.length
    obtain ⟨o, ho, hc, n, hd⟩ := pl.isList
    exact call_list_seq p (.inl rfl) ho hc hd (fun h' c' kp e => fin its r' hz h' c' kp e) (by simp only [List.size_toArray] <;> omega)
  · obtain ⟨its, r', pl, hz⟩ := I.tuple hq
    have hlen := r'.length
    obtain ⟨o, ho, hc, n, hd⟩ := pl
    exact call_list_seq p (.inr rfl) ho hc hd (fun h' c' kp e => fin its r' hz h' c' kp e) (by simp only [List.size_toArray] <;> omega)
/-! ### the call of a builtin's method: o.m(..) -/
/-- the value is of that builtin type -/
def tyV (K : PySem.W.Frag) (T : String) (x : V) (H : Hp) : Prop := match x with
  | .str _ => T = "str"
  | .int _ => T = "int"
  | .ref p => (T = "list" ∧ ∃ xs, SqL K H p xs) ∨ (T = "tuple" ∧ ∃ o, K.lookup p = some o ∧ o.cls = .type "tuple" ∧ o.dict = none) ∨
      (T = "dict" ∧ ((∃ kvs, H p = some (.dK kvs)) ∨ ∃ kvs, H p = some (.dT kvs))) ∨ (T = "set" ∧ ∃ S n, H p = some (.set S n))
  | _ => False
theorem tyV_is {pins : List (Addr × Obj)} {σ : St} {H : Hp} {s : Shared} {T : String} {x : V} {v : Value} (I : Inv X pins σ H s) (r : RelV x v) (ty : tyV X.K T x H) :
    s.TypeIs v T ∧ ∀ a, v = .ref a → ∃ ob, s.heap.get? a = some ob ∧ ob.dict = none := by
  cases x with
  | str z =>
    obtain ⟨t, rfl⟩ := r
    cases (show T = "str" from ty)
    exact ⟨typeIs_str s z t, fun _ e => nomatch e⟩
  | int i =>
    obtain ⟨t, rfl⟩ := r
    cases (show T = "int" from ty)
    exact ⟨typeIs_int s i t, fun _ e => nomatch e⟩
  | ref p =>
    cases r
    rcases ty with ⟨rfl, xs, hq⟩ | ⟨rfl, o, hk, hc, hd⟩ | ⟨rfl, hk⟩ | ⟨rfl, S, n, hk⟩
    · obtain ⟨its, _, pl, _⟩ := I.list hq
      refine ⟨pl.isList.typeIs, fun a e => ?_⟩
      cases e
      obtain ⟨o, n, e, c, hd, _⟩ := pl
      exact ⟨o, e, hd⟩
    · refine ⟨⟨o, I.kIn p o hk, hc⟩, fun a e => ?_⟩
      cases e
      exact ⟨o, I.kIn _ o hk, hd⟩
    · have z : ∃ o, s.heap.get? p = some o ∧ o.ExactDict := by
        rcases hk with ⟨kvs, hk⟩ | ⟨kvs, hk⟩
        · obtain ⟨_, _, _, _, o, _, _, e, ex, _⟩ := I.hok p _ hk
          exact ⟨o, e, ex⟩
        · obtain ⟨_, _, _, _, o, _, _, e, ex, _⟩ := I.hok p _ hk
          exact ⟨o, e, ex⟩
      obtain ⟨o, e, ex⟩ := z
      refine ⟨⟨o, e, ex.1⟩, fun a e2 => ?_⟩
      cases e2
      exact ⟨o, e, ex.2.1⟩
    · obtain ⟨o, _, _, _, e, ex, _⟩ := I.hok p _ hk
      refine ⟨⟨o, e, ex.1⟩, fun a e2 => ?_⟩
      cases e2
      exact ⟨o, e, ex.2.1⟩
  | _ => exact False.elim ty
def tBM0 (K : PySem.W.Frag) (T : String) (r : V → List V → Hp → VK → Prop) (to : TE) : TE := fun σ H Q => to σ H fun x H1 => tyV K T x H1 ∧ r x [] H1 Q
def tBM (K : PySem.W.Frag) (T : String) (r : V → List V → Hp → VK → Prop) (to : TE) (t : TA) : TE := fun σ H Q => to σ H fun x H1 => tyV K T x H1 ∧ t σ H1 fun xs H2 => r x xs H2 Q
variable {o e : Expr} {es : List Expr} {to : TE} {t : TA} {name : Str} {apos cpos : Pos} {T id : String} {r : V → List V → Hp → VK → Prop}
theorem pe_bm (pa : PlainAttrs T) (slot : Slot T name id) (hty : typeOf (.builtin id) = pure (.type "method_descriptor")) (hm : MtR X id r) (ho : PE X o to) (ha : PA X (e :: es) t)
    (hbase : attributeBase o name X.env (eval o X.env) = eval o X.env := by rfl)
    (hfew : ((backTo cpos (starEach (e :: es) X.env)).all (fun x => !x.1) && (backToKw cpos (keywordEach [] X.env)).all (fun x => x.1.isSome)
      && decide ((e :: es).length + ([] : List Keyword).length + (if ([] : List Keyword).isEmpty then 0 else 1) < 30)) = true := by rfl)
    (hline : (apos.endLine == cpos.line) = true := by rfl) (hs : starEach (e :: es) X.env = (false, eval e X.env) :: starEach es X.env := by rfl) (hplain : (backTo cpos (starEach es X.env)).any (·.1) = false := by rfl) :
    PE X (.Call (.Attribute o name apos) (e :: es) [] cpos) (tBM X.K T r to t) := by
  intro pins s σ H Q I h
  refine wpAny_Call_method_late hbase hfew hline rfl (thn (ho pins s σ H _ I h) fun v s1 ⟨x, H1, I1, r1, ty, q1⟩ => ?_)
  obtain ⟨h1, h2⟩ := tyV_is I1 r1 ty
  refine ⟨T, id, pa, slot, hty, h1, h2, ?_⟩
  have hA := ha cpos pins s1 σ H1 _ I1 q1
  rw [hs] at hA ⊢
  refine Calls.callWith_builtin (by show (false || (backTo cpos (starEach es X.env)).any (·.1)) = false; rw [hplain] <;> rfl) (Calls.evalArgs_plain ?_)
  exact thn hA fun us s2 ⟨vs, H2, I2, r2, q2⟩ => hm pins s2 σ H2 x vs v us Q I2 r1 r2 q2
/- xs.append(e), list.index on a module's tuple .. are MtR facts of 06m -/
end
end L2

namespace L2
open PySem PySem.Spec PyProof.Rows

def MtM (X : Cx) (id : String) (r : V → List V → Hp → VK → Prop) : Prop :=
  ∀ (pins : List (Addr × Obj)) (s : Shared) (σ : St) (H : Hp) (x : V) (xs : List V) (v : Value) (us : List Value) (Q : VK), Inv X pins σ H s → RelV x v → Vals xs us → r x xs H Q →
    wpAny (model X.prog X.w) X.A (call (.builtin id) (v :: us)) (EP X pins σ Q) X.xe s

/-! ### lists of values -/
theorem Vals.one : ∀ {x : V} {us : List Value}, Vals [x] us → ∃ u, us = [u] ∧ RelV x u
  | _, _, .cons r .nil => ⟨_, rfl, r⟩
theorem Vals.two : ∀ {x y : V} {us : List Value}, Vals [x, y] us → ∃ u v, us = [u, v] ∧ RelV x u ∧ RelV y v
  | _, _, _, .cons r (.cons q .nil) => ⟨_, _, rfl, r, q⟩
section
variable {X : Cx} {pins : List (Addr × Obj)} {σ : St} {H : Hp} {s : Shared} {l b : Addr} {xs ys zs : List V}

/-! ### the two steps: a tracked list is rewritten, a new list is laid -/
theorem Inv.lset {its its' : List Value} {n : Nat} {f : Array Value → Array Value} {t' : Nat} (I : Inv X pins σ H s) (hH : H l = some (.lst xs))
    (e : s.heap.get? l = some { cls := .type "list", data := .seq its.toArray n }) (hf : f its.toArray = its'.toArray) (hv : Vals ys its') (hz : ys.length ≤ sizeLine) :
    Inv X pins σ (upd H l (.lst ys)) { s with heap := s.heap.update l (Obj.mapSeq f), toks := t' } := by
  have q := PySem.IsL.update e f
  rw [hf] at q
  refine I.write (x := l) (e := l) (by rw [hH]; exact trivial) (.inl rfl) (fun b' u hb hu => (Heap.get?_update_other s.heap (Obj.mapSeq f) (Ne.symm hb)).trans hu) ⟨_, q⟩ ?_
  exact ⟨hz, its', _, hv, q⟩
theorem Inv.lnew {its : List Value} {t' : Nat} (I : Inv X pins σ H s) (hv : Vals ys its) (hz : ys.length ≤ sizeLine) :
    Inv X pins σ (upd H s.heap.objs.size (.lst ys)) { s with heap := s.heap.push { cls := .type "list", data := .seq its.toArray }, toks := t' } :=
  I.laid (fun _ _ q => Heap.get?_push_of_some _ q) (Nat.le_refl _) ⟨hz, its, 0, hv, Heap.get?_push_size _ rfl⟩
theorem Inv.fresh (I : Inv X pins σ H s) : H s.heap.objs.size = none := I.hok.fresh (Nat.le_refl _)
theorem Inv.lstM (I : Inv X pins σ H s) (hH : H l = some (.lst xs)) : xs.length ≤ sizeLine ∧ ∃ (its : List Value) (n : Nat), Vals xs its ∧ xs.length = its.length ∧ s.heap.get? l = some { cls := .type "list", data := .seq its.toArray n } := by
  obtain ⟨z, its, n, r, e⟩ := I.hok l _ hH
  exact ⟨z, its, n, r, r.length, e⟩

end

section
variable {X : Cx}

/-! ### methods -/
def rAppend : V → List V → Hp → VK → Prop := fun x vs H Q => ∃ l xs y, x = .ref l ∧ vs = [y] ∧ H l = some (.lst xs) ∧ xs.length < sizeLine ∧ Q .non (upd H l (.lst (xs ++ [y])))
theorem mt_append : MtM X "list.append" rAppend := by
  intro pins s σ H x vs v us Q I rx rv h
  obtain ⟨l, xs, y, rfl, rfl, hH, hz, q⟩ := h
  cases rx
  obtain ⟨u, rfl, ru⟩ := rv.one
  obtain ⟨z, its, n, r, hl, e⟩ := I.lstM hH
  refine call_meets F.slot_list_append ⟨_, e, rfl⟩ F.entry_list_append (F.args_list_append_2 _ _) (PySem.list_append l its.toArray n u (by rw [List.size_toArray]; omega)) ⟨e, ?_⟩
  refine ⟨.non, _, I.lset (its' := its ++ [u]) hH e (by simp) (r.append (.cons ru .nil)) ?_, rfl, q⟩
  rw [List.length_append, List.length_singleton]
  omega

def rExtend : V → List V → Hp → VK → Prop := fun x vs H Q => ∃ l b xs zs, x = .ref l ∧ vs = [.ref b] ∧ H l = some (.lst xs) ∧ H b = some (.lst zs) ∧ xs.length + zs.length ≤ sizeLine ∧ Q .non (upd H l (.lst (xs ++ zs)))
def rPop : V → List V → Hp → VK → Prop := fun x vs H Q => ∃ l xs y, x = .ref l ∧ vs = [] ∧ H l = some (.lst xs) ∧ xs[xs.length - 1]? = some y ∧ Q y (upd H l (.lst xs.dropLast))
def rPopAt : V → List V → Hp → VK → Prop := fun x vs H Q => ∃ l xs i k y, x = .ref l ∧ vs = [.int i] ∧ H l = some (.lst xs) ∧ -(2 ^ 63) ≤ i ∧ i < 2 ^ 63 ∧ seqIndex? i xs.length = some k ∧ xs[k]? = some y ∧ Q y (upd H l (.lst (xs.eraseIdx k)))
def rReverse : V → List V → Hp → VK → Prop := fun x vs H Q => ∃ l xs, x = .ref l ∧ vs = [] ∧ H l = some (.lst xs) ∧ Q .non (upd H l (.lst xs.reverse))
def rClear : V → List V → Hp → VK → Prop := fun x vs H Q => ∃ l xs, x = .ref l ∧ vs = [] ∧ H l = some (.lst xs) ∧ Q .non (upd H l (.lst []))
/-! ### list + list, list += list, list * int -/
def rCat : R2 := fun x y H Q => ∃ l b xs zs, x = .ref l ∧ y = .ref b ∧ H l = some (.lst xs) ∧ H b = some (.lst zs) ∧ xs.length + zs.length ≤ sizeLine ∧ ∀ p, H p = none → Q (.ref p) (upd H p (.lst (xs ++ zs)))
theorem op_cat : OpR X (binaryOp .Add) rCat := by
  intro pins s σ H x y v u Q I rx ry h
  obtain ⟨l, b, xs, zs, rfl, rfl, hH, hB, hz, q⟩ := h
  cases rx
  cases ry
  obtain ⟨z, its, n, r, hl, e⟩ := I.lstM hH
  obtain ⟨z2, its2, n2, r2, hl2, e2⟩ := I.lstM hB
  refine PySem.P.add_list e e2 ?_ (by rw [List.size_toArray, List.size_toArray]; omega)
  have ea : its.toArray ++ its2.toArray = (its ++ its2).toArray := by simp
  rw [ea]
  exact ⟨.ref _, _, I.lnew (t' := s.toks) (r.append r2) (by rw [List.length_append]; omega), rfl, q _ I.fresh⟩
/-- a list times an int (a negative one is nothing) -/
def rRep : R2 := fun x y H Q => ∃ l k xs, x = .ref l ∧ y = .int k ∧ H l = some (.lst xs) ∧ -(2 ^ 63) ≤ k ∧ k < 2 ^ 63 ∧ xs.length * k.toNat ≤ sizeLine ∧
  ∀ p, H p = none → Q (.ref p) (upd H p (.lst (List.replicate k.toNat xs).flatten))
/-! ### del xs[i] -/
end

/-! ### xs[a:b] = ys -/
section
variable {prog : Program} {w : World} {A : Around} {E : Value → Shared → Prop} {s : Shared}
end

section
variable {X : Cx}
end
end L2

namespace Att
open PySem PySem.W PySem.Calls PyProof.Rows

/-! ### the script -/
theorem ints_of_wellAll {P : Params} {h : Heap} : ∀ (ns : List Int) (vs : List Value), WellAll P h vs (ns.map WData.int) → IntsAre vs ns := by
  intro ns
  induction ns with
  | nil =>
    intro vs w
    rw [List.map_nil] at w
    cases w
    exact .nil
  | cons n ns ih =>
    intro vs w
    rw [List.map_cons] at w
    cases w with
    | cons a b =>
      cases a
      exact .cons _ _ (ih _ b)

theorem script_of {l : OpenLaw} {n : Nat} (hn : l.most = some n) {P : Params} {h : Heap} {args : List WData} {vals : List Value}
    (hpre : l.row.toRowW.claim.pre args = true) (hwl : WellAll P h vals args) :
    ∃ a vs ns, vals = [Value.ref a] ∧ args = [WData.list (ns.map WData.int)] ∧ h.get? a = some { cls := .type "list", data := .seq vs.toArray } ∧ IntsAre vs ns ∧ ns.length ≤ n := by
  have hsh : WShape.hasAll [] args [.list .int] = true := (pre_splitW hpre).1
  have hc : l.pre.holds [] { args := args } = true := (pre_splitW hpre).2
  obtain ⟨d, r, rfl, h1, h2⟩ := hasAllW_cons hsh
  obtain rfl := hasAllW_nil h2
  obtain ⟨xs, rfl, h3⟩ := hasW_list h1
  obtain ⟨ns, rfl⟩ := items_int h3
  have hlen : ns.length ≤ n := by
    unfold OpenLaw.pre at hc
    have h4 : (WTm.not (.lt (.lit (.int (n : Int))) (.len (.arg 0)))).holds [] { args := [.list (ns.map .int)] } = true := by
      have h4 := (holds_andW hc).1
      rw [hn] at h4
      exact h4
    have h5 := condW_of h4 (w_not (w_lt w_lit (w_len_list (w_arg rfl))))
    rw [List.length_map] at h5
    refine Nat.le_of_not_lt fun q => ?_
    have q' : (n : Int) < ((ns.length : Nat) : Int) := by omega
    first
      | (rw [decide_eq_true q'] at h5; exact absurd h5 (by decide))
      | (simp at h5; omega)
  cases hwl with
  | cons w1 w2 =>
    cases w2
    cases w1 with
    | list ho hall => exact ⟨_, _, ns, rfl, rfl, ho, ints_of_wellAll ns _ hall, hlen⟩

theorem post_true (l : OpenLaw) (args : List WData) : l.row.toRowW.claim.post args (.bool true) args = true :=
  postW_of (r := l.row.toRowW) (X := (true == true))
    (show WShape.has [] (.bool true) .bool = true by first | rfl | decide | simp [WShape.has, WShape.arms, WShape.armsAll])
    (show (WTm.eq .res (.lit (.bool true))).value [] { args := args, res := some (.bool true), after := args } = some (.bool (true == true)) from w_eq_bool (w_res rfl) w_lit) rfl

/-! ### the attachment: holds_open's last premise (the goal 'hc' behind k_head) from a wpAny of the law's body -/
/-- the same from a codeAny of the CALL (for a layer whose function contracts speak of calls) -/
theorem attach_call {l : OpenLaw} {n : Nat} {q : Program} {loose : List Str} {XP : (Str → Option Value) → Heap → Prop} {YP : World → Heap → Prop} {d : DefRec}
    (hn : l.most = some n) (hdf : d.params.defaults = [])
    (call : ∀ (w : World) (s₀ s₁ : Shared) (mg mb : Str → Option Value) (fa : Addr) (o : Obj) (pm cd doc : Value) (a : Addr) (vs : List Value) (ns : List Int),
      Ground q loose [] XP w s₀ mg mb s₁.heap → YP w s₁.heap →
      s₁.heap.get? fa = some o → o.data = .func (docDef d.name d.params d.body d.scope pm cd doc) → s₁.heap.CodeRec cd d.name → mg d.name = some (.ref fa) →
      s₁.heap.get? a = some { cls := .type "list", data := .seq vs.toArray } → IntsAre vs ns → ns.length ≤ n → s₁.gens = #[] →
      codeAny (model l.prog w) callerA (.call (.ref fa) ⟨[.ref a], []⟩) (fun r s' => r = .ok (.ret (.bool true)) ∧ OldK s₁.heap s'.heap ∧ s'.os = s₁.os ∧ AllBare s'.gens) s₁) :
    WalkO q loose XP YP l.row.toRowW d [] (fun f vs => PySem.call f vs) := by
  intro w s₀ s₁ mg mb G Y fa o pm cd doc dV kV ho hd hcd hD hmg hg args vals as hpre hlay hrd hwl hlo
  obtain rfl : dV = .none := Dflts.none hD hdf
  obtain rfl : kV = .none := Dflts.noKw hD
  obtain ⟨a, vs, ns, rfl, rfl, hobj, hints, hlen⟩ := script_of hn hpre hwl
  refine enter_call (codeAny_mono (call w s₀ s₁ mg mb fa o pm cd doc a vs ns G Y ho (fd_plain hd) hcd hmg hobj hints hlen hg) fun r s' hq => ?_)
  obtain ⟨rfl, h2, h3, h4⟩ := hq
  exact ⟨.inl ⟨.bool true, .bool true, [], rfl, fun _ => rfl, .bool true, post_true l _, fun _ => ⟨List.Pairwise.nil, fun _ hm => (nomatch hm)⟩⟩, h2, h3, h4⟩

/-! ### rules over ANY heap (no ledger) from facts about the written part K: the library's own take a ledger (News) for what they write -/
section
variable {prog : Program} {w : World} {A : Around} {E : Value → Shared → Prop} {s : Shared} {K : Frag}

/-! the whole heap as the ledger: makes every rule that writes through a ledger a rule over any heap -/
def noObjs (h : Heap) : Heap := { h with objs := #[] }
def ledger (h : Heap) (L d : Addr) : List (Addr × Obj) := (List.range h.objs.size).filterMap fun a => if a = L ∨ a = d then none else (h.get? a).map fun o => (a, o)
end
end Att

namespace L2
open PySem PySem.Spec PyProof.Rows

theorem vals_ints : ∀ {vs : List Value} {ns : List Int}, IntsAre vs ns → Vals (ns.map V.int) vs
  | _, _, .nil => .nil
  | _, _, .cons n t h => .cons ⟨t, rfl⟩ (vals_ints h)

/-- nothing is tracked but the script, known to the object (or it is an object of the module) -/
def Only (H : Hp) : Prop := ∀ b, H b = none ∨ ∃ o xs, H b = some (.frz o (.lst xs))

/-- THE HEAD: the law's promise, at the heap behind the top. F, the promise of the law's def, may use that base is part of the heap (so K.In base, base.Ns mainGlobals mg stand in Mod) -/
theorem law_call {P : Program} {w : World} {K : PySem.W.Frag} {mg mb : Str → Option Value} {CX : CXT} {k : Nat} {fa a : Addr} {fd : FuncData} {x : Str} {sp : Sp} {s₁ : Shared} {vs : List Value} {ns : List Int}
    (KX : K.In s₁.heap) (hns : s₁.heap.Ns mainGlobals mg) (hb : s₁.heap.Ns builtinsNs mb) (hbb : ∀ x : Str, x ≠ "__name__" → mb x = bootBuiltins x) (hlim : s₁.heap.NoLimit) (hg : s₁.gens = #[])
    (ha : s₁.heap.get? a = some { cls := .type "list", data := .seq vs.toArray }) (hi : IntsAre vs ns) (hl : ns.length ≤ sizeLine) (hr : Room k callerA)
    (F : ∀ base : Heap, K.In base → base.Ns mainGlobals mg → FnOk P w K mg base CX k fa fd [x] sp) (hbind : ∀ (s : Shared) (u : Value), BindsTo s fd ⟨[u], []⟩ [(x, u)])
    (hsp : ∀ H : Hp, Only H → SqL K H a (ns.map V.int) → sp [.ref a] H (fun v _ => v = .bl true) fun _ _ _ => False)
    (hCX : ∀ H e s', CX [] H s₁ (fun _ _ _ => False) e s' → False) :
    codeAny (model P w) callerA (.call (.ref fa) ⟨[.ref a], []⟩) (fun r s' => r = .ok (.ret (.bool true)) ∧ OldK s₁.heap s'.heap ∧ s'.os = s₁.os ∧ AllBare s'.gens) s₁ := by
  have rv := vals_ints hi
  have lenV := hi.length
  -- from an abstract heap in which nothing but the script may be tracked
  have core : ∀ H : Hp, Only H → SqL K H a (ns.map V.int) → HOk P w H s₁.heap → (∀ b, H b ≠ none → b = a) → (H a ≠ none → K.lookup a = none) →
      codeAny (model P w) callerA (.call (.ref fa) ⟨[.ref a], []⟩) (fun r s' => r = .ok (.ret (.bool true)) ∧ OldK s₁.heap s'.heap ∧ s'.os = s₁.os ∧ AllBare s'.gens) s₁ := by
    intro H hO hS hok hA hK
    have base_of : ∀ {b : Addr} {o : Obj}, s₁.heap.get? b = some o → H b = none → (hidT s₁.heap H).get? b = some o := fun e n => hidT_get e n
    have noA : ∀ {b : Addr} {o : Obj} {es : Array DictEntry} {ep : Nat}, s₁.heap.get? b = some o → o.data = .dict es ep → H b = none := fun {b o es ep} e d => by
      cases q : H b with
      | none => rfl
      | some u =>
        have e' : b = a := hA b (by rw [q]; simp)
        subst e'
        rw [ha] at e; cases e
        have d' : Data.seq vs.toArray _ = Data.dict es ep := d
        cases d'
    have nsK : ∀ {b : Addr} {m : Str → Option Value}, s₁.heap.Ns b m → (hidT s₁.heap H).Ns b m := fun {b m} ⟨o, es, ep, e, d, r⟩ => ⟨o, es, ep, base_of e (noA e d), d, r⟩
    have hKb : K.In (hidT s₁.heap H) := fun b o e => base_of (KX b o e) (by
      cases q : H b with
      | none => rfl
      | some u =>
        have e' : b = a := hA b (by rw [q]; simp)
        subst e'
        rw [hK (by rw [q]; simp)] at e; cases e)
    have hM : Mod K mg (hidT s₁.heap H) := ⟨hKb, nsK hns, ⟨mb, nsK hb, hbb⟩, let ⟨mc, h1, h2⟩ := hlim; ⟨mc, nsK h1, h2⟩⟩
    have e0 : Env0 P w K mg (hidT s₁.heap H) callerA [] s₁ H := ⟨rfl, hM, fun b o e => of_hidT e, Nat.le_of_eq (hidT_size _ _), trivial, fun b hb => absurd (show b ∈ ([] : List Addr) from hb) (by simp), hok, .of_eq hg⟩
    refine codeAny_mono ((F _ hKb (nsK hns)).run callerA [] s₁ H ⟨[.ref a], []⟩ [.ref a] [.ref a] _ _ hr e0 (hbind s₁ (.ref a)) (.cons rfl .nil) (hsp H hO hS)) fun r s' h => ?_
    cases r with
    | error e => exact (hCX H e s' h).elim
    | ok fl =>
      cases fl with
      | next => exact False.elim h
      | brk => exact False.elim h
      | cont => exact False.elim h
      | ret u =>
        obtain ⟨v, H', os, bare, un, hok', r', q⟩ := h
        have q' : v = .bl true := q
        subst q'
        obtain rfl : u = Value.bool true := r'
        refine ⟨rfl, OldK.of_keep fun b o e => ?_, os, bare⟩
        cases q : H b with
        | none => exact un.keep b o e q (by intro z; exact absurd (show b ∈ ([] : List Addr) from z) (by simp)) (by simp)
        | some u =>
          rcases hO b with z | ⟨ob, xs, z⟩
          · rw [q] at z; cases z
          · have z2 := un.frzs b ob _ z
            obtain ⟨e1, _⟩ := hok b _ z
            obtain ⟨e2, _⟩ := hok' b _ z2
            rw [e] at e1; cases e1
            exact e2
  cases hk : K.lookup a with
  | some o =>
    -- the script is one of the module's own objects
    have e := KX a o hk
    rw [ha] at e
    cases e
    refine core (fun _ => none) (fun _ => .inl rfl) (.inr ⟨_, vs.toArray, _, hk, rfl, rfl, rfl, by rw [List.size_toArray, lenV]; exact hl, by simpa using rv⟩) (fun b u z => by have z' : (none : Option HO) = some u := z; cases z') (fun b z => absurd rfl z) fun z => absurd rfl z
  | none =>
    refine core (fun b => if b = a then some (.frz { cls := .type "list", data := .seq vs.toArray } (.lst (ns.map V.int))) else none) (fun b => ?_) (.inl (.inr ⟨{ cls := .type "list", data := .seq vs.toArray }, if_pos rfl⟩)) (fun b u z => ?_) (fun b z => ?_) fun _ => hk
    · by_cases hb : b = a
      · exact .inr ⟨_, _, if_pos hb⟩
      · exact .inl (if_neg hb)
    · by_cases hb : b = a
      · have z' := (if_pos hb).symm.trans z
        cases z'
        subst hb
        exact ⟨ha, by rw [List.length_map]; exact hl, vs, _, rv, ha⟩
      · have z' := (if_neg hb).symm.trans z
        cases z'
    · by_cases hb : b = a
      · exact hb
      · exact absurd (if_neg hb) z
end L2

namespace L2
open PySem PySem.Spec PyProof.Rows

abbrev KOf {K : PySem.W.Frag} {h : Heap} (_ : K.In h) : PySem.W.Frag := K

/-- the goal that k_head leaves (case hc), from the law's promise. F gives the function object fd (K's own) once, then the promise over every base -/
theorem walk_of {l : PySem.W.OpenLaw} {n k : Nat} {q : Program} {loose : List Str} {XP : (Str → Option Value) → Heap → Prop} {YP : World → Heap → Prop} {d : DefRec} {K : Params → PySem.W.Frag} {CX : World → CXT} {sp : World → Sp} {x : Str}
    (hn : l.most = some n) (hn2 : n ≤ sizeLine) (hdf : d.params.defaults = []) (hr : Room k callerA)
    (hY : ∀ (w : World) (h : Heap), YP w h → (K w.params).In h)
    (F : ∀ (w : World) (mg : Str → Option Value) (fa : Addr) (h : Heap), (K w.params).In h → h.Ns mainGlobals mg → mg d.name = some (.ref fa) →
      ∃ fd : FuncData, (∀ (s : Shared) (u : Value), BindsTo s fd ⟨[u], []⟩ [(x, u)]) ∧
        ∀ base : Heap, (K w.params).In base → base.Ns mainGlobals mg → FnOk l.prog w (K w.params) mg base (CX w) k fa fd [x] (sp w))
    (hsp : ∀ (w : World) (H : Hp) (a : Addr) (ns : List Int), ns.length ≤ n → Only H → SqL (K w.params) H a (ns.map V.int) → sp w [.ref a] H (fun v _ => v = .bl true) fun _ _ _ => False)
    (hCX : ∀ (w : World) (H : Hp) (s : Shared) (e : Value) (s' : Shared), CX w [] H s (fun _ _ _ => False) e s' → False) :
    PySem.W.WalkO q loose XP YP l.row.toRowW d [] (fun f vs => PySem.call f vs) := by
  refine Att.attach_call hn hdf fun w s₀ s₁ mg mb fa o pm cd doc a vs ns G Y ho hd hcd hmg hobj hints hlen hg => ?_
  have KX := hY w _ Y
  obtain ⟨fd, hb, hF⟩ := F w mg fa _ KX G.T.g hmg
  exact law_call KX G.T.g G.T.b G.T.builtins G.T.nolimit hg hobj hints (Nat.le_trans hlen hn2) hr hF hb (fun H hO hS => hsp w H a ns hlen hO hS) fun H e s' => hCX w H s₁ e s'
/-- the same where the promise hangs on the written part alone: (sp := My.sp_law), no hole under a binder -/
theorem walk_ofK {l : PySem.W.OpenLaw} {n k : Nat} {q : Program} {loose : List Str} {XP : (Str → Option Value) → Heap → Prop} {YP : World → Heap → Prop} {d : DefRec} {K : Params → PySem.W.Frag} {CX : CXT} {sp : PySem.W.Frag → Sp} {x : Str}
    (hn : l.most = some n) (hn2 : n ≤ sizeLine) (hdf : d.params.defaults = []) (hr : Room k callerA)
    (hY : ∀ (w : World) (h : Heap), YP w h → (K w.params).In h)
    (F : ∀ (w : World) (mg : Str → Option Value) (fa : Addr) (h : Heap), (K w.params).In h → h.Ns mainGlobals mg → mg d.name = some (.ref fa) →
      ∃ fd : FuncData, (∀ (s : Shared) (u : Value), BindsTo s fd ⟨[u], []⟩ [(x, u)]) ∧
        ∀ base : Heap, (K w.params).In base → base.Ns mainGlobals mg → FnOk l.prog w (K w.params) mg base CX k fa fd [x] (sp (K w.params)))
    (hsp : ∀ (K : PySem.W.Frag) (H : Hp) (a : Addr) (ns : List Int), ns.length ≤ n → Only H → SqL K H a (ns.map V.int) → sp K [.ref a] H (fun v _ => v = .bl true) fun _ _ _ => False)
    (hCX : ∀ (H : Hp) (s : Shared) (e : Value) (s' : Shared), CX [] H s (fun _ _ _ => False) e s' → False) :
    PySem.W.WalkO q loose XP YP l.row.toRowW d [] (fun f vs => PySem.call f vs) :=
  walk_of (K := K) (CX := fun _ => CX) (sp := fun w => sp (K w.params)) hn hn2 hdf hr hY F (fun w H a ns h1 h2 h3 => hsp (K w.params) H a ns h1 h2 h3) fun _ H s e s' => hCX H s e s'
end L2

/- THE LAST THEOREM (shape; LID, My.* are yours):
   My.Adr: a structure of the addresses that your layer names (classes, functions); My.Txt K t: a structure (Prop) of the equations over K;
   My.txt_mk : {K} {implicit addresses ..} (e1 : nsIn K mainGlobals "law" = some (some (.ref f))) (e2 : K.lookup f = some ⟨oc, od, .func (fnOf "law" "law" params body scope dV kV doc pm an cdv ct), sl⟩) (e3 : codeIn K cdv "law" = true) .. : ∃ t, My.Txt K t

set_option maxRecDepth 100000 in
set_option maxHeartbeats 0 in
theorem PySem.Challenge.cw_LID_holds : PySem.Challenge.rw_LID.Holds := by
  w_on; o_law; k_head; (case hw => w_witness2)
  k_fill
  refine L2.walk_of (l := PySem.Challenge.rw_LID) (n := 63) (k := 40) (x := "script") (CX := fun w => ..) (sp := fun _ => My.sp_law) rfl (by decide) rfl ⟨rfl, by decide, by decide⟩ (fun w h Y => PySem.W.kIn_of Y) ?F ?S ?C
  case F =>
    intro w mg fa h KX G hmg
    have T : ∃ t, My.Txt (L2.KOf KX) t := by
      dsimp only [L2.KOf]                          -- K must stand as «<heap const> w.params» for k_is
      refine' My.txt_mk ?e1 ?e2 ?e3 ..
      (case e1 => PySem.W.k_is)                    -- in the order: a name -> its address -> its object -> its parts
      (case e2 => PySem.W.k_is)
      ..
    obtain ⟨t, T⟩ := T
    have e0 := hmg.symm.trans (PySem.W.mg_of KX G T.law)
    cases e0                                       -- fa is the law's own address
    exact ⟨_, fun s u => .of_eq rfl, fun base kb nb => My.law_fn T kb nb⟩     -- if «.of_eq rfl» comes too early: refine' ⟨_, ?b, fun base kb nb => My.law_fn T kb nb⟩; exact fun s u => .of_eq rfl
  case S => exact fun w H a ns hl hO hS => ..
  case C => exact ..
(the tactic k_is has no namespace: write k_is) -/

/-! SHORT WORDS over the layer: a def of the text, its body, what a loop and a test want. -/
namespace L2
open PySem PySem.Spec PyProof.Rows

/-! ### the text by places -/
/-- the j-th statement of a class's body -/
def inClass (s : Stmt) (j : Nat) : Stmt := match s with
  | .ClassDef _ _ _ body _ _ _ _ _ _ _ => body.getD j (.Pass ⟨0, 0, 0, 0⟩)
  | _ => .Pass ⟨0, 0, 0, 0⟩
def defArgs (s : Stmt) : Arguments := match s with
  | .FunctionDef _ a _ _ _ _ _ _ _ _ => a
  | _ => { posonlyargs := [], args := [], vararg := none, kwonlyargs := [], kw_defaults := [], kwarg := none, defaults := [] }
def defBody (s : Stmt) : List Stmt := match s with
  | .FunctionDef _ _ b _ _ _ _ _ _ _ => b
  | _ => []
def defScope (s : Stmt) : Scope := match s with
  | .FunctionDef _ _ _ _ _ _ sc _ _ _ => sc
  | _ => { kind := .function, names := [], isGenerator := false, isCoroutine := false }

/-! ### no exception leaves a def -/
abbrev CX0 : CXT := fun _ _ _ _ _ _ => False
abbrev E0 : XK := fun _ _ _ => False
theorem pass0 {X : Cx} : Passes CX0 X E0 := fun _ _ _ _ _ _ _ h => h.elim

/-! ### a def (or method) of the text as it stands behind the top -/
structure Fun (K : PySem.W.Frag) (x qual : Str) (st : Stmt) (f : Addr) (fd : FuncData) : Prop where
  ex : ∃ (oc : Value) (od : Option Addr) (kV doc pm : Value) (an : Option Addr) (cdv ct : Value) (osl : Array (Option Value)),
    fd = PySem.W.fnOf x qual (defArgs st) (defBody st) (defScope st) .none kV doc pm an cdv ct ∧ K.lookup f = some ⟨oc, od, .func fd, osl⟩ ∧ PySem.W.codeIn K cdv qual = true
  kp : PySem.W.keepIn K (.ref f) = true
section
variable {P : Program} {w : World} {K : PySem.W.Frag} {mg : Str → Option Value} {base : Heap}
/-- THE RULE for a def: its body as a term of rules, and the reading of that term -/
theorem Fun.ok {x qual : Str} {st : Stmt} {f : Addr} {fd : FuncData} {N ps : List Str} {k : Nat} {sp : Sp} (F : Fun K x qual st f fd) (S : FnScope N ps (defScope st)) (len : ∀ vs H Q E, sp vs H Q E → vs.length = ps.length)
    (hbody : ∀ (cdv : Value) (A : Around) (outer : List Env) (s : Shared) (H : Hp) (vs : List V) (Q : VK) (E : XK), Room k (A.deeper (envOfC qual (defScope st) s.heap.objs.size f cdv)) → sp vs H Q E →
      ∃ t, PSs (cxOf CX0 P w K mg base N qual (defScope st) f cdv A outer s H E).nox (defBody st) t ∧ t { nx := fun _ H' => Q .non H', rt := Q } (start N vs) H) : FnOk P w K mg base CX0 (k + 1) f fd ps sp := by
  obtain ⟨oc, od, kV, doc, pm, an, cdv, ct, osl, rfl, lk, hcd⟩ := F.ex
  refine fn_of lk hcd S len fun A outer s H vs Q E hr hsp => ?_
  obtain ⟨t, h, q⟩ := hbody cdv A outer s H vs Q E hr hsp
  exact ⟨t, h.nox, q⟩
/-- how its arguments bind (no defaults): h is «fun _ _ _ _ _ _ us hl => match us, hl with | [_, _], _ => rfl», one _ a parameter -/
theorem Fun.binds {x qual : Str} {st : Stmt} {f : Addr} {fd : FuncData} {ps : List Str} (F : Fun K x qual st f fd)
    (h : ∀ (kV doc pm : Value) (an : Option Addr) (cdv ct : Value) (us : List Value), us.length = ps.length → bindArgs (PySem.W.fnOf x qual (defArgs st) (defBody st) (defScope st) .none kV doc pm an cdv ct) ⟨us, []⟩ = pure (ps.zip us)) : Binds K fd ps [] := by
  obtain ⟨oc, od, kV, doc, pm, an, cdv, ct, osl, rfl, lk, hcd⟩ := F.ex
  exact .all (h kV doc pm an cdv ct)
theorem fun_mk {x qual : Str} {st : Stmt} {f : Addr} {oc : Value} {od an : Option Addr} {osl : Array (Option Value)} {kV doc pm cdv ct : Value} (l : K.lookup f = some ⟨oc, od, .func (PySem.W.fnOf x qual (defArgs st) (defBody st) (defScope st) .none kV doc pm an cdv ct), osl⟩)
    (c : PySem.W.codeIn K cdv qual = true) (k : PySem.W.keepIn K (.ref f) = true) : Fun K x qual st f (PySem.W.fnOf x qual (defArgs st) (defBody st) (defScope st) .none kV doc pm an cdv ct) := ⟨⟨oc, od, kV, doc, pm, an, cdv, ct, osl, rfl, l, c⟩, k⟩
end
theorem hu_of {A : Around} {k : Nat} (hr : Room k A) : A.units + 1 < cLine := Nat.lt_of_le_of_lt (Nat.add_le_add_left (by decide : 1 ≤ 64) _) hr.units
/-! ### expressions in short: the name that stands in the i-th slot -/
section
variable {X : Cx}
theorem pv (i : Nat) {x : Str} {pos : Pos} (hN : X.N[i]? = some x := by rfl) (hv : Vis X.env.scope x := by first | exact Or.inl rfl | exact Or.inr (Or.inl rfl) | exact Or.inr (Or.inr rfl)) (hd : (x == ("__debug__" : Str)) = false := by decide)
    (hcd : (x == ("__classdict__" : Str)) = false := by decide) : PE X (.Name x pos) (tVar i) := pe_var hN hv hd hcd
end

/-! ### tests -/
theorem iteF {A B : Prop} (h : B) : if false = true then A else B := by
  rw [if_neg Bool.false_ne_true]
  exact h
theorem iteT {A B : Prop} (h : A) : if true = true then A else B := by
  rw [if_pos rfl]
  exact h
theorem iteNS {c A B : Prop} [Decidable c] (hc : c) (h : B) : if (!decide c) = true then A else B := by
  rw [decide_eq_true hc]
  exact iteF h

/-! ### heaps -/
/-- all that was tracked is as it was -/
def Same (H H' : Hp) : Prop := ∀ b o, H b = some o → H' b = some o
theorem Same.refl (H : Hp) : Same H H := fun _ _ h => h
theorem Same.trans {H H1 H2 : Hp} (a : Same H H1) (b : Same H1 H2) : Same H H2 := fun c o h => b c o (a c o h)
theorem Same.free {H H' : Hp} (e : Same H H') {l : Addr} (h : H' l = Option.none) : H l = Option.none := by
  cases q : H l with
  | none => rfl
  | some o =>
    rw [e l o q] at h
    cases h
theorem Same.seq {K : PySem.W.Frag} {H H' : Hp} {a : Addr} {xs : List V} (e : Same H H') (h : SqL K H a xs) : SqL K H' a xs := by
  rcases h with (h | ⟨o, h⟩) | h
  · exact .inl (.inl (e _ _ h))
  · exact .inl (.inr ⟨o, e _ _ h⟩)
  · exact .inr h

end L2

set_option Elab.async false
set_option linter.all false
set_option maxRecDepth 100000
namespace L2
open PySem PySem.Spec PyProof.Rows

/-! ### list comprehensions: one clause, a name as its target, at most one test; no exception leaves it -/
theorem closure_is {scope : Scope} {env : Env} (h : ∀ y ∈ scope.names, y.2 = .free → ∃ c, env.cells.lookup y.1 = some c) :
    ∃ cl, closureFor scope env = pure cl ∧ (∀ x c, cl.lookup x = some c → env.cells.lookup x = some c ∧ (x, NameKind.free) ∈ scope.names) ∧
      ∀ x, (x, NameKind.free) ∈ scope.names → cl.lookup x = env.cells.lookup x := by
  have key : ∀ (l : List (Str × NameKind)) (cs : List (Str × Addr)), (∀ y ∈ l, y.2 = .free → ∃ c, env.cells.lookup y.1 = some c) →
      ∃ cl, (forIn l cs (fun (x : Str × NameKind) (cs : List (Str × Addr)) => do
          if x.2 == .free then
            let c ← cellOf env x.1
            pure (ForInStep.yield ((x.1, c) :: cs))
          else pure (ForInStep.yield cs)) : Sem (List (Str × Addr))) = pure cl ∧
        (∀ x c, cl.lookup x = some c → (env.cells.lookup x = some c ∧ (x, NameKind.free) ∈ l) ∨ cs.lookup x = some c) ∧
        ∀ x, ((x, NameKind.free) ∈ l → cl.lookup x = env.cells.lookup x) ∧ ((cs.lookup x = env.cells.lookup x) → cl.lookup x = env.cells.lookup x) := by
    intro l
    induction l with
    | nil => intro cs _; exact ⟨cs, rfl, fun x c e => .inr e, fun x => ⟨fun z => absurd z (by simp), fun z => z⟩⟩
    | cons y r ih =>
      intro cs hl
      obtain ⟨n, k⟩ := y
      by_cases hk : k = .free
      · subst hk
        obtain ⟨c, hc⟩ := hl (n, .free) List.mem_cons_self rfl
        obtain ⟨cl, e1, e2, e3⟩ := ih ((n, c) :: cs) fun y hy => hl y (List.mem_cons_of_mem _ hy)
        refine ⟨cl, ?_, fun x d e => ?_, fun x => ⟨fun z => ?_, fun z => ?_⟩⟩
        · rw [List.forIn_cons]
          simp only [beq_self_eq_true, if_true, cellOf, hc]
          exact e1
        · rcases e2 x d e with ⟨z1, z2⟩ | z
          · exact .inl ⟨z1, List.mem_cons_of_mem _ z2⟩
          · rw [List.lookup_cons] at z
            by_cases hx : x == n
            · rw [hx] at z
              have hx' : x = n := by simpa using hx
              subst hx'
              refine .inl ⟨?_, List.mem_cons_self⟩
              rw [hc]; exact z
            · have hx' : (x == n) = false := by simpa using hx
              rw [hx'] at z
              exact .inr z
        · rcases List.mem_cons.mp z with z | z
          · injection z with z1 _
            subst z1
            refine (e3 x).2 ?_
            rw [List.lookup_cons, hc]
            simp
          · exact (e3 x).1 z
        · by_cases hx : x = n
          · subst hx
            refine (e3 x).2 ?_
            rw [List.lookup_cons, hc]
            simp
          · refine (e3 x).2 ?_
            rw [List.lookup_cons]
            have hx' : (x == n) = false := by simpa using hx
            rw [hx']
            exact z
      · obtain ⟨cl, e1, e2, e3⟩ := ih cs fun y hy => hl y (List.mem_cons_of_mem _ hy)
        have hb : (k == NameKind.free) = false := by simpa using hk
        refine ⟨cl, ?_, fun x d e => ?_, fun x => ⟨fun z => ?_, (e3 x).2⟩⟩
        · rw [List.forIn_cons]
          simp only [hb, Bool.false_eq_true, if_false]
          exact e1
        · rcases e2 x d e with ⟨z1, z2⟩ | z
          · exact .inl ⟨z1, List.mem_cons_of_mem _ z2⟩
          · exact .inr z
        · rcases List.mem_cons.mp z with z | z
          · injection z with _ z2
            exact absurd z2.symm hk
          · exact (e3 x).1 z
  obtain ⟨cl, e1, e2, e3⟩ := key scope.names [] h
  refine ⟨cl, ?_, fun x c e => ?_, fun x z => (e3 x).1 z⟩
  · unfold closureFor
    have := e1
    simpa using this
  · rcases e2 x c e with z | z
    · exact z
    · simp at z

theorem lookup_relabel {env : Env} (hk : env.scope.kind = .function) : ∀ {names : List (Str × NameKind)} {x : Str} {k : NameKind}, names.lookup x = some k → k ≠ .free →
    (names.map fun (n, k) => if (k == NameKind.free && env.scope.kind == .function && env.kindOf n == some .cell) then (n, NameKind.cell) else (n, k)).lookup x = some k
  | [], _, _, h, _ => by simp at h
  | (n, k') :: r, x, k, h, hf => by
    have ih := @lookup_relabel env hk r x k
    show List.lookup x ((if (k' == NameKind.free && env.scope.kind == .function && env.kindOf n == some .cell) = true then (n, NameKind.cell) else (n, k')) :: _) = _
    cases hx : x == n with
    | true =>
      simp only [List.lookup_cons, hx] at h
      cases h
      have : (k' == NameKind.free) = false := by simpa using hf
      simp [List.lookup_cons, hx, this]
    | false =>
      simp only [List.lookup_cons, hx] at h
      by_cases hc : (k' == NameKind.free && env.scope.kind == .function && env.kindOf n == some .cell) = true
      · rw [if_pos hc]; simp only [List.lookup_cons, hx]; exact ih h hf
      · rw [if_neg hc]; simp only [List.lookup_cons, hx]; exact ih h hf
theorem lookup_relabel_free {env : Env} (hk : env.scope.kind = .function) : ∀ {names : List (Str × NameKind)} {x : Str}, names.lookup x = some .free → env.kindOf x = some .cell →
    (names.map fun (n, k) => if (k == NameKind.free && env.scope.kind == .function && env.kindOf n == some .cell) then (n, NameKind.cell) else (n, k)).lookup x = some .cell
  | [], _, h, _ => by simp at h
  | (n, k') :: r, x, h, hc => by
    have ih := @lookup_relabel_free env hk r x
    show List.lookup x ((if (k' == NameKind.free && env.scope.kind == .function && env.kindOf n == some .cell) = true then (n, NameKind.cell) else (n, k')) :: _) = _
    cases hx : x == n with
    | true =>
      simp only [List.lookup_cons, hx] at h
      cases h
      have hxn : x = n := by simpa using hx
      subst hxn
      simp [List.lookup_cons, hk, hc]
    | false =>
      simp only [List.lookup_cons, hx] at h
      by_cases hd : (k' == NameKind.free && env.scope.kind == .function && env.kindOf n == some .cell) = true
      · rw [if_pos hd]; simp only [List.lookup_cons, hx]; exact ih h hc
      · rw [if_neg hd]; simp only [List.lookup_cons, hx]; exact ih h hc

/-- the context of a comprehension's block; Nc: its own name, then the names it takes from around it -/
def cxComp (X : Cx) (Nc : List Str) (scope : Scope) (cl : List (Str × Addr)) (C : Addr) (fp : List Addr) (s : Shared) (H : Hp) : Cx where
  prog := X.prog
  w := X.w
  K := X.K
  mg := X.mg
  base := X.base
  A := X.A
  N := Nc
  s₀ := s
  H₀ := H
  env := compEnvC scope cl C X.env
  outer := X.stack
  stack := X.stack
  ex := fp
  fn := fun _ => false
  calm := X.calm
  pn := []
  xe := fun _ _ => False

/-- the slots of the names that are taken from around: their values -/
def capV (σ : St) (caps : List Nat) : St := caps.map fun j => (σ[j]?).join

structure CompOk (X : Cx) (x : Str) (Nc : List Str) (caps : List Nat) (scope : Scope) : Prop where
  kind : scope.kind = .function
  cell : ∀ y ∈ scope.names, y.2 ≠ .cell
  names : ∀ y ∈ scope.names, y.2 = .local → scope.names.lookup y.1 = some .local
  fr : ∀ y ∈ scope.names, y.2 = .free → X.env.scope.names.lookup y.1 = some .cell ∧ scope.names.lookup y.1 = some .free
  loc : scope.names.lookup x = some .local
  len : Nc.length = caps.length + 1
  hd : Nc[0]? = some x
  nd : Nc.Nodup
  cap : ∀ k j, caps[k]? = some j → ∃ y, Nc[k + 1]? = some y ∧ X.N[j]? = some y ∧ scope.names.lookup y = some .free

theorem compLoop_any {prog : Program} {w : World} {A : Around} {R : Result → Shared → Prop} {s : Shared} {elt target iter : Expr} {ifs : List Expr} {scope : Scope} {pos : Pos} {it acc : Value} {env : Env} (I : Nat → Shared → Prop)
    (turn : ∀ n s, I n s → wpAny (model prog w) A (pyNext it) (fun r s₁ => match r with
      | none => R (.ok .next) s₁
      | some v => wpAny (model prog w) A (letOwnedTupleGo target it v) (fun _ s1' => wpAny (model prog w) A (assign target env v) (fun _ s₂ =>
          wpAny (model prog w) A (forIn ifs true fun c r => if r = true then do let ok ← isTrue c env (eval c env); pure (ForInStep.yield ok) else pure (ForInStep.yield r)) (fun ok s₃ =>
            if ok = true then wpAny (model prog w) A (eval elt env) (fun x s₄ =>
              wpAny (model prog w) A (call (.builtin "list.append") [acc, x]) (fun _ s₅ => ∃ m, m < n ∧ I m s₅) (notedBy (model prog w) A env fun e s' => R (.error e) s') s₄) (notedBy (model prog w) A env fun e s' => R (.error e) s') s₃
            else ∃ m, m < n ∧ I m s₃) (notedBy (model prog w) A env fun e s' => R (.error e) s') s₂) (notedBy (model prog w) A env fun e s' => R (.error e) s') s1') (notedBy (model prog w) A env fun e s' => R (.error e) s') s₁) (notedBy (model prog w) A env fun e s' => R (.error e) s') s)
    (n : Nat) (h : I n s) :
    codeAny (model prog w) A (.compLoop (.ListComp elt [⟨target, iter, ifs, 0⟩] scope pos) 0 it acc env) R s := by
  refine codeAny_loop rfl I (fun n s hI => ?_) n h
  show wpAny _ A ((compTurn (.ListComp elt [⟨target, iter, ifs, 0⟩] scope pos) 0 it acc env).onRaise (fun x => do noteFrame x env; theTreesLotGoes x)) _ _ s
  refine wpAny_noted ?_
  rw [compTurn_list]
  refine wpAny_bind (wpAny_standAt (wpAny_bind (wpAny_mono (turn n s hI) (fun r s₁ h₁ => ?_) fun _ _ h' => h')))
  cases r with
  | none => exact wpAny_pure h₁
  | some v =>
    refine wpAny_bind (wpAny_mono h₁ (fun _ s1' h₁ => ?_) fun _ _ h' => h')
    refine wpAny_bind (wpAny_mono h₁ (fun _ s₂ h₂ => wpAny_bind (wpAny_mono h₂ (fun ok s₃ h₃ => ?_) fun _ _ h' => h')) fun _ _ h' => h')
    cases ok with
    | false => exact wpAny_pure ⟨rfl, h₃⟩
    | true =>
      exact wpAny_bind (wpAny_bind (wpAny_mono h₃ (fun x s₄ h₄ => wpAny_bind (wpAny_mono h₄ (fun _ s₅ h₅ => wpAny_pure (wpAny_pure ⟨rfl, h₅⟩)) fun _ _ h' => h')) fun _ _ h' => h'))

/-- the test, where there is one -/
def tNoTest : TT := fun _ H Q => Q true H
inductive PIf (X : Cx) : List Expr → TT → Prop where
  | nil : PIf X [] tNoTest
  | one {c : Expr} {t : TT} (h : PT X c t) : PIf X [c] t
theorem PIf.run {X : Cx} {ifs : List Expr} {t : TT} (h : PIf X ifs t) {pins : List (Addr × Obj)} {s : Shared} {σ : St} {H : Hp} {Q : Bool → Hp → Prop} (I : Inv X pins σ H s) (ht : t σ H Q) :
    wpAny (model X.prog X.w) X.A (forIn ifs true fun c r => if r = true then do let ok ← isTrue c X.env (eval c X.env); pure (ForInStep.yield ok) else pure (ForInStep.yield r)) (TP X pins σ Q) X.xe s := by
  cases h with
  | nil => exact wpAny_tests_nil ⟨H, I, ht⟩
  | one h => exact wpAny_tests_one (h pins s σ H Q I ht)

/-- the reading: W by the turn, a measure, what is made so far -/
def tCompW (caps : List Nat) (tc : TT) (te : TE) (J : It) (σ : St) (H : Hp) (Q : VK) : Prop :=
  ∃ W : Nat → Nat → List V → Hp → Prop, (∃ m, W 0 m [] H) ∧ ∀ i m ys H, W i m ys H →
    (J.stop i H ∧ ys.length ≤ sizeLine ∧ ∀ p, H p = none → Q (.ref p) (upd H p (.lst ys))) ∨
    (J.go i H ∧ ys.length < sizeLine ∧ ∀ x H', J.yld i H x H' → tc (some x :: capV σ caps) H' fun b H2 =>
      if b = true then te (some x :: capV σ caps) H2 fun y H3 => ∃ m', m' < m ∧ W (i + 1) m' (ys ++ [y]) H3 else ∃ m', m' < m ∧ W (i + 1) m' ys H2)
def tComp (wi : TI) (caps : List Nat) (tc : TT) (te : TE) : TE := fun σ H Q => wi σ H fun J H1 => tCompW caps tc te J σ H1 Q

section
variable {X : Cx} {pins : List (Addr × Obj)} {σ : St} {H : Hp} {s : Shared}

theorem Un.track {fs ex : List Addr} {H H' : Hp} {h h' : Heap} {a : Addr} {o : HO} (u : Un fs ex H H' h h') (ha : h.objs.size ≤ a) (hn : H' a = none) : Un fs ex H (upd H' a o) h h' where
  keep := u.keep
  slot := u.slot
  free := fun b ob q n hx => by rw [upd_ne (Nat.ne_of_lt (Nat.lt_of_lt_of_le (Heap.lt_size q) ha))]; exact u.free b ob q n hx
  there := u.there
  tups := fun b xs q => by rw [upd_ne (ne_of_none (u.tups b xs q) hn)]; exact u.tups b xs q
  frzs := fun b ob xs q => by rw [upd_ne (ne_of_none (u.frzs b ob xs q) hn)]; exact u.frzs b ob xs q
  tbls := fun b ps q => by
    obtain ⟨m, e⟩ := u.tbls b ps q
    exact ⟨m, by rw [upd_ne (ne_of_none e hn)]; exact e⟩
theorem HOk.track {P : Program} {w : World} {H : Hp} {h : Heap} {a : Addr} {o : HO} (x : HOk P w H h) (hn : H a = none) (new : ObjOk P w (upd H a o) h a o) : HOk P w (upd H a o) h := fun b u e => by
  by_cases hb : b = a
  · subst hb; rw [upd_same] at e; cases e; exact new
  · rw [upd_ne hb] at e
    exact (x b u e).stay (fun c v _ q => q) (fun c q => by rw [upd_ne (ne_of_none q hn)]; exact q) fun c xs q => by rw [upd_ne (ne_of_none q hn)]; exact q

/-- the block's context is good -/
theorem comp_ok {x : Str} {Nc : List Str} {caps : List Nat} {scope : Scope} {cl : List (Str × Addr)} {C : Addr} {fp : List Addr} (I : Inv X pins σ H s) (O : CompOk X x Nc caps scope)
    (hcl : ∀ x c, cl.lookup x = some c → X.env.cells.lookup x = some c ∧ (x, NameKind.free) ∈ scope.names) (hcl2 : ∀ x, (x, NameKind.free) ∈ scope.names → cl.lookup x = X.env.cells.lookup x)
    (hC : s.heap.objs.size ≤ C) (hfp : ∀ b ∈ fp, FpOk X pins H b) (hfo : ∀ b ∈ fp, b < s.heap.objs.size) : (cxComp X Nc scope cl C fp s H).Ok where
  mod := I.ok.mod
  kind := O.kind
  glob := I.ok.glob
  blt := I.ok.blt
  above := hC
  inj := fun a b c e1 e2 => I.ok.inj a b c (hcl a c e1).1 (hcl b c e2).1
  has := fun y hy => by
    have mem : (y, NameKind.free) ∈ scope.names := by
      have hy' : ((relabel scope X.env).names.lookup y = some .cell) ∨ ((relabel scope X.env).names.lookup y = some .free) := hy
      have hm : ∃ k, (y, k) ∈ (relabel scope X.env).names ∧ (k = .cell ∨ k = .free) := by
        rcases hy' with h | h
        · exact ⟨_, PySem.mem_of_lookup h, .inl rfl⟩
        · exact ⟨_, PySem.mem_of_lookup h, .inr rfl⟩
      obtain ⟨k, hm, hk⟩ := hm
      obtain ⟨⟨n, k'⟩, hm', e⟩ := List.mem_map.mp hm
      dsimp only at e
      by_cases hc : (k' == NameKind.free && X.env.scope.kind == .function && X.env.kindOf n == some .cell) = true
      · rw [if_pos hc] at e
        injection e with e1 _
        subst e1
        have : k' = .free := by
          have := (Bool.and_eq_true _ _ ▸ (Bool.and_eq_true _ _ ▸ hc).1).1
          simpa using this
        subst this
        exact hm'
      · rw [if_neg hc] at e
        injection e with e1 e2
        subst e1 e2
        rcases hk with hk | hk
        · subst hk; exact absurd rfl (O.cell _ hm')
        · subst hk; exact hm'
    obtain ⟨c, e⟩ := I.ok.has y (.inl (O.fr _ mem rfl).1)
    exact ⟨c, (hcl2 y mem).trans e⟩
  cab := fun _ _ z => nomatch z
  hd := I.ok.hd
  frames := I.ok.frames
  stk := .inl rfl
  exf := fun b hb => ⟨Nat.ne_of_lt (Nat.lt_of_lt_of_le (hfo b hb) hC), fun y c e => (hfp b hb).2.2.2.2.1 y c (hcl y c e).1⟩
  bs := I.bs
  bsz := Nat.le_trans I.ok.bsz I.sz
  noex := fun b o e hb => by
    rcases (hfp b hb).2.2.2.1 with z | z
    · exact I.ok.noex b o e z
    · exact absurd (Nat.lt_of_lt_of_le (Heap.lt_size e) (Nat.le_trans I.ok.bsz z)) (Nat.lt_irrefl _)
  exfs := fun b hb z => by
    rcases List.mem_cons.mp (I.stkSub b z) with e | e
    · exact (hfp b hb).2.1 e
    · exact (hfp b hb).2.2.1 e
  funs := I.stack
  frf := I.stkFree
end
end L2

set_option Elab.async false
set_option linter.all false
set_option maxRecDepth 100000
namespace L2
open PySem PySem.Spec PyProof.Rows
section
variable {X : Cx} {pins : List (Addr × Obj)} {σ : St} {H : Hp} {s : Shared}

theorem capV_len (σ : St) (caps : List Nat) : (capV σ caps).length = caps.length := by unfold capV; rw [List.length_map]
theorem capV_get {σ : St} {caps : List Nat} {k : Nat} {v : V} (e : (capV σ caps)[k]? = some (some v)) : ∃ j, caps[k]? = some j ∧ σ[j]? = some (some v) := by
  unfold capV at e
  rw [List.getElem?_map] at e
  cases hk : caps[k]? with
  | none => rw [hk] at e; cases e
  | some j =>
    rw [hk] at e
    have e' : (σ[j]?).join = some v := Option.some.inj e
    refine ⟨j, rfl, ?_⟩
    cases hj : σ[j]? with
    | none => rw [hj] at e'; cases e'
    | some o => rw [hj] at e'; rw [show o = some v from e']

theorem Un.but {fs ex : List Addr} {H H' : Hp} {h h1 h2 : Heap} {C : Addr} (u : Un fs ex H H' h h1) (hs : Heap.SameBut C h1 h2) (hC : h.objs.size ≤ C) : Un fs ex H H' h h2 where
  keep := fun b o q n hb hx => (hs.2 b (Nat.ne_of_lt (Nat.lt_of_lt_of_le (Heap.lt_size q) hC))).trans (u.keep b o q n hb hx)
  slot := fun b o q n hb hx => by
    obtain ⟨sl, e⟩ := u.slot b o q n hb hx
    exact ⟨sl, (hs.2 b (Nat.ne_of_lt (Nat.lt_of_lt_of_le (Heap.lt_size q) hC))).trans e⟩
  free := u.free
  there := fun b o q hx => by
    obtain ⟨o', e⟩ := u.there b o q hx
    exact ⟨o', (hs.2 b (Nat.ne_of_lt (Nat.lt_of_lt_of_le (Heap.lt_size q) hC))).trans e⟩
  tups := u.tups
  frzs := u.frzs
  tbls := u.tbls
/-- the block's state at its start -/
theorem comp_start {x : Str} {Nc : List Str} {caps : List Nat} {scope : Scope} {cl : List (Str × Addr)} {C : Addr} {fp : List Addr} {h' : Heap} {tk : Nat} {m0 : Str → Option Value} (I : Inv X pins σ H s) (O : CompOk X x Nc caps scope)
    (hcl : ∀ x c, cl.lookup x = some c → X.env.cells.lookup x = some c ∧ (x, NameKind.free) ∈ scope.names) (hcl2 : ∀ x, (x, NameKind.free) ∈ scope.names → cl.lookup x = X.env.cells.lookup x)
    (hC : s.heap.objs.size ≤ C) (hfp : ∀ b ∈ fp, FpOk X pins H b) (hfo : ∀ b ∈ fp, b < s.heap.objs.size)
    (old : ∀ b o, s.heap.get? b = some o → h'.get? b = some o) (hns : h'.Ns C m0) :
    Inv (cxComp X Nc scope cl C fp s H) [] (none :: capV σ caps) H { s with heap := h', toks := tk } where
  ok := comp_ok I O hcl hcl2 hC hfp hfo
  os := rfl
  bare := I.bare
  base := Un.kept old
  loc := by
    refine ⟨m0, hns, fun i y v hN hσ hv => ?_⟩
    cases i with
    | zero => simp at hσ
    | succ k =>
      rw [List.getElem?_cons_succ] at hσ
      obtain ⟨j, hj, hs⟩ := capV_get hσ
      obtain ⟨z, hz1, hz2, hz3⟩ := O.cap k j hj
      have hN' : Nc[k + 1]? = some y := hN
      rw [hz1] at hN'
      cases hN'
      have mem : (y, NameKind.free) ∈ scope.names := PySem.mem_of_lookup hz3
      have hk := (O.fr _ mem rfl).1
      obtain ⟨m, hn, hl⟩ := I.loc
      obtain ⟨u, r, l⟩ := hl j y v hz2 hs (.inr (.inl hk))
      refine ⟨u, r, ?_⟩
      rcases l with ⟨k', _⟩ | ⟨_, c, hc, z⟩
      · have k'' : X.env.scope.names.lookup y = some .local := k'
        rw [hk] at k''; cases k''
      · obtain ⟨o, ho, hd⟩ := z
        exact .inr ⟨.inl (lookup_relabel_free I.ok.kind hz3 hk), c, (hcl2 y mem).trans hc, o, old _ _ ho, hd⟩
  cell := fun y c e => by
    obtain ⟨v, o, ho, hd⟩ := I.cell y c (hcl y c e).1
    exact ⟨v, o, old _ _ ho, hd⟩
  free := I.hok.fresh hC
  freeC := fun y c e => I.freeC y c (hcl y c e).1
  pin := fun p hp => absurd (show p ∈ ([] : List (Addr × Obj)) from hp) (by simp)
  hok := I.hok.kept old
  len := by
    show (none :: capV σ caps).length = Nc.length
    rw [List.length_cons, capV_len, O.len]

/-- a list that only the block knows, as it stands -/
abbrev rawL (us : List Value) (n : Nat) : Obj := { cls := .type "list", data := .seq us.toArray n }

theorem comp_fr {X : Cx} {sc0 scope : Scope} (h : X.env.scope = sc0) (hd : ∀ y ∈ scope.names, y.2 = .free → sc0.names.lookup y.1 = some .cell ∧ scope.names.lookup y.1 = some .free) :
    ∀ y ∈ scope.names, y.2 = .free → X.env.scope.names.lookup y.1 = some .cell ∧ scope.names.lookup y.1 = some .free := by
  rw [h]
  exact hd

/-- THE BLOCK: the list is made, the variables live, the turns go; RR is what is wanted at the block's end -/
theorem comp_block {x : Str} {px : Pos} {Nc : List Str} {caps : List Nat} {scope : Scope} {cl : List (Str × Addr)} {iter elt : Expr} {ifs : List Expr} {pos : Pos} {tc : TT} {te : TE} {Q : VK} {it : Addr} {fp : List Addr} {tn : Nat → Heap → Prop} {J : It}
    {RR : Value → Addr → Result → Shared → Prop} {E : Value → Shared → Prop}
    (O : CompOk X x Nc caps scope) (hc : X.calm = true)
    (hcl : ∀ x c, cl.lookup x = some c → X.env.cells.lookup x = some c ∧ (x, NameKind.free) ∈ scope.names) (hcl2 : ∀ x, (x, NameKind.free) ∈ scope.names → cl.lookup x = X.env.cells.lookup x)
    (hte : ∀ C fp s H, PE (cxComp X Nc scope cl C fp s H) elt te) (htc : ∀ C fp s H, PIf (cxComp X Nc scope cl C fp s H) ifs tc)
    (I : Inv X pins σ H s) (T : Turn X.prog X.w X.K (.Name x px) J fp it tn) (st : tn 0 s.heap) (hfp : ∀ b ∈ fp, FpOk X pins H b) (h : tCompW caps tc te J σ H Q)
    (hRR : ∀ (D C : Addr) (s' : Shared) (m : Str → Option Value), s'.heap.Ns C m → (∀ h', Heap.SameBut C s'.heap h' → ∃ H', Inv X pins σ H' { s' with heap := h' } ∧ H' C = none ∧ Q (.ref D) H') →
      s.heap.objs.size ≤ C → RR (.ref D) C (.ok .next) s') :
    wpAny (model X.prog X.w) X.A (newList []) (fun acc s₃ => wpAny (model X.prog X.w) X.A (newFunctionEnv scope X.env.globals cl [] X.env.qual none .none (some X.env)) (fun cenv s₄ =>
      codeAny (model X.prog X.w) X.A (.compStart (.ListComp elt [⟨.Name x px, iter, ifs, 0⟩] scope pos) 0 (.ref it) acc { cenv with scope := relabel scope X.env }) (RR acc cenv.locals) s₄) E s₃) E s := by
  refine wpAny_newObj_type (wpAny_newFunctionEnv O.cell (by intro y hy; simp at hy) (fun h₁ hns₁ hsb₁ => ?_) O.kind)
  dsimp only at hns₁ hsb₁ ⊢
  generalize hH2 : s.heap.push { cls := .type "list", dict := none, data := .seq ([] : List Value).toArray } = H2 at hns₁ hsb₁ ⊢
  have hC : H2.objs.size = s.heap.objs.size + 1 := by rw [← hH2, Heap.size_push]
  have hCle : s.heap.objs.size ≤ H2.objs.size := by rw [hC]; exact Nat.le_succ _
  have hDC : s.heap.objs.size ≠ H2.objs.size := by rw [hC]; exact Nat.ne_of_lt (Nat.lt_succ_self _)
  have below : ∀ b, b < s.heap.objs.size → b ≠ H2.objs.size ∧ b ≠ s.heap.objs.size := fun b hb => ⟨by rw [hC]; exact Nat.ne_of_lt (Nat.lt_succ_of_lt hb), Nat.ne_of_lt hb⟩
  have old : ∀ b o, s.heap.get? b = some o → h₁.get? b = some o := fun b o e => hsb₁.extBut b o (below b (Heap.lt_size e)).1 (Heap.get?_push_of_some _ (hH2 ▸ Heap.get?_push_of_some _ e))
  have hacc : h₁.get? s.heap.objs.size = some (rawL [] 0) := hsb₁.extBut _ _ hDC (Heap.get?_push_of_some _ (hH2 ▸ Heap.get?_push_size _ rfl))
  have hfo : ∀ b ∈ fp, b < s.heap.objs.size := fun b hb => by
    obtain ⟨o, e, _⟩ := T.obj _ _ st b hb
    exact Heap.lt_size e
  have st1 : tn 0 h₁ := T.keep _ _ _ st fun b _ o e => old b o e
  generalize hDD : s.heap.objs.size = D at *
  generalize hCC : H2.objs.size = C at *
  have DleC : D ≤ C := hCle
  let Y : Cx := cxComp X Nc scope cl C fp s H
  have I0 : Inv Y [] (none :: capV σ caps) H { s with heap := h₁, toks := s.toks + ([] : List (Str × Value)).length } := comp_start I O hcl hcl2 (by rw [hDD]; exact hCle) hfp (fun b hb => by rw [hDD]; exact hfo b hb) old hns₁
  have Dfree : H D = none := by rw [← hDD]; exact I.hok.fresh (Nat.le_refl _)
  have DneC : D ≠ C := hDC
  -- what stays true of D, of the iterator's objects
  have Dfs : D ∉ Y.fs := fun z => by
    have := I.stack.mem (show D ∈ frs X.stack from z)
    obtain ⟨_, o, e, _⟩ := this
    have := Heap.lt_size e
    rw [hDD] at this
    exact Nat.lt_irrefl _ this
  have Dcell : ∀ y c, Y.env.cells.lookup y = some c → c ≠ D := fun y c e z => by
    obtain ⟨v, q⟩ := I.cell y c (hcl y c e).1
    have := q.lt
    rw [z, hDD] at this
    exact Nat.lt_irrefl _ this
  have Dfp : ∀ b ∈ fp, b ≠ D := fun b hb => Nat.ne_of_lt (hfo b hb)
  have fpY : ∀ {H' : Hp}, (∀ b ∈ fp, H' b = none) → ∀ b ∈ fp, FpOk Y [] H' b := fun hn b hb =>
    ⟨hn b hb, Nat.ne_of_lt (Nat.lt_of_lt_of_le (hfo b hb) DleC), fun z => I0.ok.exfs b hb z, .inl hb, fun y c e => (I0.ok.exf b hb).2 y c e, fun p hp => absurd (show p ∈ ([] : List (Addr × Obj)) from hp) (by simp)⟩
  obtain ⟨W, ⟨m0, w0⟩, turn⟩ := h
  have loop : ∀ s₃ : Shared, s₃ = { s with heap := h₁, toks := s.toks + ([] : List (Str × Value)).length } →
      codeAny (model X.prog X.w) X.A (.compLoop (.ListComp elt [⟨.Name x px, iter, ifs, 0⟩] scope pos) 0 (.ref it) (.ref D) (compEnvC scope cl C X.env)) (RR (.ref D) C) s₃ := by
    rintro s₃ rfl
    refine compLoop_any (fun n s' => ∃ (i : Nat) (o : Option V) (H' : Hp) (ys : List V) (us : List Value) (k : Nat), Inv Y [] (o :: capV σ caps) H' s' ∧ tn i s'.heap ∧ (∀ b ∈ fp, H' b = none) ∧ s'.heap.get? D = some (rawL us k) ∧ H' D = none ∧ Vals ys us ∧ W i n ys H')
      ?_ m0 ⟨0, none, H, [], [], 0, I0, st1, fun b hb => (hfp b hb).1, hacc, Dfree, .nil, w0⟩
    rintro n s3 ⟨i, o3, H3, ys, us, k, I3, st3, fr3, hD3, nD3, rv, w3⟩
    have fpP : ∀ {H' : Hp} {ob : Obj}, (∀ b ∈ fp, H' b = none) → ∀ b ∈ fp, FpOk Y [(D, ob)] H' b := fun hn b hb => by
      obtain ⟨g0, g1, g2, g3, g4, _⟩ := fpY hn b hb
      refine ⟨g0, g1, g2, g3, g4, fun p hp => ?_⟩
      have e : p = (D, _) := List.mem_singleton.mp (show p ∈ [(D, _)] from hp)
      rw [e]
      exact Ne.symm (Dfp b hb)
    have IP : Inv Y [(D, rawL us k)] (o3 :: capV σ caps) H3 s3 := I3.pins_of fun p hp => by
      have e : p = (D, rawL us k) := List.mem_singleton.mp hp
      subst e
      exact ⟨hD3, nD3, DneC, Dfs, fun v z => by cases z⟩
    have pinD : ∀ {σ' : St} {H' : Hp} {s' : Shared} {pl : List (Addr × Obj)}, Inv Y ([(D, rawL us k)] ++ pl) σ' H' s' → s'.heap.get? D = some (rawL us k) ∧ H' D = none := fun I' => by
      have z := I'.pin (D, rawL us k) (List.mem_append_right _ (List.mem_append_left _ List.mem_cons_self))
      exact ⟨z.1, z.2.1⟩
    rcases turn i n ys H3 w3 with ⟨stop, hlen, fin⟩ | ⟨go, hlen, step⟩
    · -- the end
      refine wpAny_mono (T.done Y rfl rfl rfl hc i _ s3 _ H3 (fun _ _ => False) IP (fpP fr3) st3 stop) (fun r s4 hr => ?_) fun _ _ z => z.elim
      obtain ⟨hr, I4⟩ := hr
      subst hr
      obtain ⟨gD, nD⟩ := pinD (pl := []) (by simpa using I4)
      obtain ⟨m, hn, _⟩ := I4.loc
      refine hRR D C s4 m hn (fun h' hs' => ⟨upd H3 D (.lst ys), ?_, (upd_ne (Ne.symm DneC)).trans I4.free, fin D nD⟩) hCle
      have nt : ∀ b ob, H3 b = some ob → b ≠ C := fun b ob e z => by
        have := I4.free
        rw [z] at e
        rw [show H3 C = none from this] at e
        cases e
      have u1 : Un (frs X.stack) fp H H3 s.heap h' := Un.but I4.base hs' (show s.heap.objs.size ≤ C by rw [hDD]; exact hCle)
      have ok1 : HOk X.prog X.w H3 h' := fun b ob e => (I4.hok b ob e).stay (fun c v hc q => (hs'.2 c (by
        rcases hc with z | z
        · rw [z]; exact nt b ob e
        · exact nt c _ z)).trans q) (fun _ q => q) fun _ _ q => q
      have gD' : h'.get? D = some (rawL us k) := (hs'.2 D DneC).trans gD
      exact I.call' (s' := { s4 with heap := h' }) (ch := fp) I4.os (u1.track (Nat.le_of_eq hDD) nD) (ok1.track nD ⟨hlen, us, k, rv, gD'⟩) I4.bare fun b hb => by
        obtain ⟨_, g1, _, g3, g4, g5⟩ := hfp b hb
        exact ⟨g3, g1, g4, g5⟩
    · -- a turn
      refine wpAny_mono (T.item Y rfl rfl rfl hc i _ s3 _ H3 (fun _ _ => False) IP (fpP fr3) st3 go) (fun r s4 hr => ?_) fun _ _ z => z.elim
      obtain ⟨u0, hr, h4⟩ := hr
      subst hr
      refine wpAny_mono h4 (fun _ s5 h5 => ?_) fun _ _ z => z.elim
      obtain ⟨x5, H5, I5, r5, y5, st5, fr5⟩ := h5
      have I5' := I5.pinned (fpP fr5) (T.obj _ _ st5)
      have tgt : PG Y (.Name x px) (gName 0) := pg_name (i := 0) O.nd O.hd (.inl (lookup_relabel I.ok.kind O.loc (by intro z; cases z))) (.inr (lookup_relabel I.ok.kind O.loc (by intro z; cases z)))
      refine wpAny_mono (tgt _ s5 _ H5 x5 u0 (fun σ2 H2 => σ2 = some x5 :: capV σ caps ∧ H2 = H5) I5' r5 ⟨rfl, rfl⟩) (fun _ s6 h6 => ?_) fun _ _ z => z.elim
      obtain ⟨_, _, I6, rfl, rfl⟩ := h6
      refine wpAny_mono ((htc C fp s H).run I6 (step x5 _ y5)) (fun b s7 h7 => ?_) fun _ _ z => z.elim
      obtain ⟨H7, I7, q7⟩ := h7
      have keepT : ∀ {σ' : St} {H' : Hp} {s' : Shared}, Inv Y ([(D, rawL us k)] ++ pinsAt fp s5.heap) σ' H' s' → tn (i + 1) s'.heap ∧ ∀ b ∈ fp, H' b = none := fun I' =>
        ⟨T.keep _ _ _ st5 fun b hb o e => (I'.pin (b, o) (List.mem_append_right _ (List.mem_append_right _ (mem_pinsAt hb e)))).1, fun b hb => by
          obtain ⟨o, e, d⟩ := T.obj _ _ st5 b hb
          exact (I'.pin (b, o) (List.mem_append_right _ (List.mem_append_right _ (mem_pinsAt hb e)))).2.1⟩
      cases b with
      | false =>
        rw [if_neg Bool.false_ne_true] at q7
        rw [if_neg Bool.false_ne_true]
        obtain ⟨m', hm, w7⟩ := q7
        obtain ⟨gD, nD⟩ := pinD I7
        obtain ⟨k1, k2⟩ := keepT I7
        exact ⟨m', hm, i + 1, some x5, H7, ys, us, k, I7.pins_of (fun p hp => nomatch hp), k1, k2, gD, nD, rv, w7⟩
      | true =>
        rw [if_pos rfl] at q7
        rw [if_pos rfl]
        refine wpAny_mono (hte C fp s H _ s7 _ H7 _ I7 q7) (fun u8 s8 h8 => ?_) fun _ _ z => z.elim
        obtain ⟨y8, H8, I8, r8, m', hm, w8⟩ := h8
        obtain ⟨gD, nD⟩ := pinD I8
        obtain ⟨k1, k2⟩ := keepT I8
        refine call_meets F.slot_list_append ⟨_, gD, rfl⟩ F.entry_list_append (F.args_list_append_2 _ _) (PySem.list_append D us.toArray k u8 (by rw [List.size_toArray, ← rv.length]; omega)) ⟨gD, ?_⟩
        have q := PySem.IsL.update gD (·.push u8)
        have e1 : us.toArray.push u8 = (us ++ [u8]).toArray := by simp
        rw [e1] at q
        have I8' : Inv Y [] (some x5 :: capV σ caps) H8 s8 := I8.pins_of (fun p hp => nomatch hp)
        have I9 : Inv Y [] (some x5 :: capV σ caps) H8 { s8 with heap := s8.heap.update D (Obj.mapSeq (·.push u8)), toks := s8.toks } :=
          I8'.turned (it := D) (fun b o hb e => (Heap.get?_update_other s8.heap (Obj.mapSeq (·.push u8)) (Ne.symm hb)).trans e) nD DneC (.inr (Nat.le_of_eq hDD)) Dcell (fun p hp => nomatch hp)
        refine ⟨m', hm, i + 1, some x5, H8, ys ++ [y8], us ++ [u8], _, I9, T.keep _ _ _ k1 fun b hb o e => (Heap.get?_update_other s8.heap (Obj.mapSeq (·.push u8)) (Ne.symm (Dfp b hb))).trans e, k2, q, nD, rv.append (.cons r8 .nil), w8⟩
  exact codeAny_compStart_list (loop _ rfl) (T.self X.A 0 _ _ _ st1 (loop _ rfl))

/-- [elt for x in iter if test] -/
theorem pe_comp {x : Str} {px pos : Pos} {Nc : List Str} {caps : List Nat} {scope : Scope} {iter elt : Expr} {ifs : List Expr} {wi : TI} {tc : TT} {te : TE} (O : CompOk X x Nc caps scope) (hc : X.calm = true) (hi : PI X (.Name x px) iter wi)
    (htc : ∀ cl C fp s H, PIf (cxComp X Nc scope cl C fp s H) ifs tc) (hte : ∀ cl C fp s H, PE (cxComp X Nc scope cl C fp s H) elt te) (hs : ∀ x, foldedSetIterable iter X.env x = pure x := by intro _; rfl) :
    PE X (.ListComp elt [⟨.Name x px, iter, ifs, 0⟩] scope pos) (tComp wi caps tc te) := by
  intro pins s σ H Q I h
  rw [eval_ListComp]
  obtain ⟨cl, e1, e2, e3⟩ := closure_is (scope := scope) (env := X.env) fun y hy hf => I.ok.has y.1 (.inl (O.fr y hy hf).1)
  refine wpAny_comprehension_free (use := none) rfl hs e1 O.kind O.names (thn (hi pins s σ H _ I h) fun v s1 h1 => thn h1 fun itv s2 h2 => ?_)
  obtain ⟨it, fp, tn, J, H2, e, I2, T, st2, f2, w2⟩ := h2
  subst e
  refine comp_block (RR := fun acc C => compPost (model X.prog X.w) X.A X.xe none (EP X pins σ Q) acc C) O hc e2 e3 (hte cl) (htc cl) I2 T st2 f2 w2 ?_
  intro D C s' m hn hq hC
  refine ⟨m, hn, fun h' hs' => ?_⟩
  obtain ⟨H', I', _, q⟩ := hq h' hs'
  exact ⟨.ref D, H', I', rfl, q⟩

/-- y = [elt for x in iter if test], where the value is stored ahead of the variables' going -/
theorem ps_setC {i : Nat} {y x : Str} {px py pos spos : Pos} {Nc : List Str} {caps : List Nat} {scope : Scope} {iter elt : Expr} {ifs : List Expr} {wi : TI} {tc : TT} {te : TE} (O : CompOk X x Nc caps scope) (hc : X.calm = true)
    (hN : X.N.Nodup) (hy : X.N[i]? = some y) (hx : X.env.scope.names.lookup y = some .local) (hi : PI X (.Name x px) iter wi)
    (htc : ∀ cl C fp s H, PIf (cxComp X Nc scope cl C fp s H) ifs tc) (hte : ∀ cl C fp s H, PE (cxComp X Nc scope cl C fp s H) elt te)
    (hsw : swapsWith (.ListComp elt [⟨.Name x px, iter, ifs, 0⟩] scope pos) (some (.Name y py)) spos.line X.env = pure true) (hs : ∀ x, foldedSetIterable iter X.env x = pure x := by intro _; rfl) :
    PS X (.Assign [.Name y py] (.ListComp elt [⟨.Name x px, iter, ifs, 0⟩] scope pos) spos) (tAsg (tComp wi caps tc te) (gName i)) := by
  intro pins s σ H Dn I h
  rw [exec_Assign_Name_used _ _ _ _ hsw]
  refine wpAny_bind (wpAny_standAt (wpAny_bind ?_))
  obtain ⟨cl, e1, e2, e3⟩ := closure_is (scope := scope) (env := X.env) fun y hy hf => I.ok.has y.1 (.inl (O.fr y hy hf).1)
  show wpAny _ X.A (do let _ ← comprehension (.ListComp elt [⟨.Name x px, iter, ifs, 0⟩] scope pos) scope X.env _ (newList []) false (eval iter X.env) (some (assign (.Name y py) X.env))) _ _ s
  refine wpAny_bind (wpAny_mono (wpAny_comprehension_free (use := some (assign (.Name y py) X.env)) (Q := fun _ s' => SP X pins Dn .next s') rfl hs e1 O.kind O.names
    (thn (hi pins s σ H _ I h) fun v s1 h1 => thn h1 fun itv s2 h2 => ?_)) (fun _ s' hq => wpAny_pure (wpAny_pure hq)) fun _ _ e => e)
  obtain ⟨it, fp, tn, J, H2, e, I2, T, st2, f2, w2⟩ := h2
  subst e
  refine comp_block (RR := fun acc C => compPost (model X.prog X.w) X.A X.xe (some (assign (.Name y py) X.env)) (fun _ s' => SP X pins Dn .next s') acc C) O hc e2 e3 (hte cl) (htc cl) I2 T st2 f2 w2 ?_
  intro D C s' m hn hq hC
  show wpAny _ X.A (assign (.Name y py) X.env (.ref D)) _ _ _
  obtain ⟨H', I', nC, q⟩ := hq s'.heap (.refl ..)
  have I'' : Inv X pins σ H' s' := I'
  have CL : C ≠ X.env.locals := Nat.ne_of_gt (Nat.lt_of_lt_of_le I2.lt hC)
  have Ccell : ∀ y c, X.env.cells.lookup y = some c → c ≠ C := fun y c e z => by
    obtain ⟨v, q⟩ := I2.cell y c e
    have := Nat.lt_of_lt_of_le q.lt hC
    rw [z] at this
    exact Nat.lt_irrefl _ this
  refine wpAny_assign_Name (store_ok2 I'' hN hy (.inl hx) (show RelV (.ref D) (.ref D) from rfl) (fun s3 I3 hsb => ?_) (.inr hx))
  obtain ⟨a, hsb, ha⟩ := hsb
  have aC : C ≠ a := by
    rcases ha with z | z
    · rw [z]; exact CL
    · exact Ne.symm (Ccell _ _ z)
  refine ⟨m, hn.sameBut hsb aC, fun h4 hs4 => ?_⟩
  refine ⟨_, H', I3.turned (it := C) (t' := s3.toks) (fun b o hb e => (hs4.2 b hb).trans e) nC CL (.inr (Nat.le_trans I2.sz hC)) Ccell (fun p hp z => ?_), q⟩
  · have := Nat.lt_of_lt_of_le (Heap.lt_size (I2.pin p hp).1) hC
    rw [z] at this
    exact Nat.lt_irrefl _ this
end
end L2

set_option Elab.async false
set_option linter.all false
set_option maxRecDepth 100000
namespace L2
open PySem PySem.Spec PyProof.Rows

/-! ### for c in text -/
def Its (x : Str) : It := ⟨fun i _ => i < x.cps.size, fun i H v H' => H' = H ∧ ∃ c, x.cps[i]? = some c ∧ v = .str ⟨#[c]⟩, fun i _ => x.cps.size ≤ i⟩
theorem turn_strA {P : Program} {w : World} {K : PySem.W.Frag} {tg : Expr} (it : Addr) (x : Str) (t : Tok) : Turn P w K tg (Its x) [it] it (fun i h => i ≤ x.cps.size ∧ h.IsStrIter it "str_ascii_iterator" x t i) where
  mem := by simp
  obj := fun i h st b hb => by
    have e : b = it := by simpa using hb
    subst e
    obtain ⟨_, o, e, c, d⟩ := st
    exact ⟨o, e, fun v z => by rw [d] at z; cases z⟩
  keep := fun i h h' st k => by
    obtain ⟨hl, o, e, c, d⟩ := st
    exact ⟨hl, o, k it (by simp) o e, c, d⟩
  item := by
    intro X hP hw hK hc i pins s σ H E I hf st hg
    subst hP hw hK
    obtain ⟨hl, st⟩ := st
    have hg : i < x.cps.size := hg
    obtain ⟨f0, f1, f2, f3, f4, f5⟩ := hf it (by simp)
    have hx : x.cps[i]? = some x.cps[i] := by simp [hg]
    refine wpAny_pyNext_ascii_item st hx fun h' st' sb => ?_
    have I1 : Inv X pins σ H { s with heap := h', toks := s.toks + 1 } := I.turned (fun b o hb e => (sb.2 b hb).trans e) f0 f1 f3 f4 f5
    obtain ⟨o, e, c, d⟩ := id st'
    exact ⟨_, rfl, go_of (s := { s with heap := h', toks := s.toks + 1 }) e c d (by decide) ⟨.str ⟨#[x.cps[i]]⟩, H, I1, ⟨_, rfl⟩, ⟨rfl, _, hx, rfl⟩, ⟨hg, st'⟩, fun b hb => (hf b hb).1⟩⟩
  done := by
    intro X hP hw hK hc i pins s σ H E I hf st hg
    subst hP hw hK
    obtain ⟨hl, st⟩ := st
    have hg : x.cps.size ≤ i := hg
    obtain ⟨f0, f1, f2, f3, f4, f5⟩ := hf it (by simp)
    exact wpAny_pyNext_ascii_end (I.ok.hd hc) st (by simp; omega) fun h' eb => ⟨rfl, I.turned (t' := s.toks) (fun b o hb e => eb b o hb e) f0 f1 f3 f4 f5⟩
  self := fun _ _ _ _ _ st h => wpAny_pyIter_striter_ascii st.2 h
theorem turn_strW {P : Program} {w : World} {K : PySem.W.Frag} {tg : Expr} (it : Addr) (x : Str) (t : Tok) : Turn P w K tg (Its x) [it] it (fun i h => i ≤ x.cps.size ∧ h.IsStrIter it "str_iterator" x t i) where
  mem := by simp
  obj := fun i h st b hb => by
    have e : b = it := by simpa using hb
    subst e
    obtain ⟨_, o, e, c, d⟩ := st
    exact ⟨o, e, fun v z => by rw [d] at z; cases z⟩
  keep := fun i h h' st k => by
    obtain ⟨hl, o, e, c, d⟩ := st
    exact ⟨hl, o, k it (by simp) o e, c, d⟩
  item := by
    intro X hP hw hK hc i pins s σ H E I hf st hg
    subst hP hw hK
    obtain ⟨hl, st⟩ := st
    have hg : i < x.cps.size := hg
    obtain ⟨f0, f1, f2, f3, f4, f5⟩ := hf it (by simp)
    have hx : x.cps[i]? = some x.cps[i] := by simp [hg]
    refine wpAny_pyNext_wide_item st hx fun h' st' sb => ?_
    have I1 : Inv X pins σ H { s with heap := h', toks := s.toks + 1 } := I.turned (fun b o hb e => (sb.2 b hb).trans e) f0 f1 f3 f4 f5
    obtain ⟨o, e, c, d⟩ := id st'
    exact ⟨_, rfl, go_of (s := { s with heap := h', toks := s.toks + 1 }) e c d (by decide) ⟨.str ⟨#[x.cps[i]]⟩, H, I1, ⟨_, rfl⟩, ⟨rfl, _, hx, rfl⟩, ⟨hg, st'⟩, fun b hb => (hf b hb).1⟩⟩
  done := by
    intro X hP hw hK hc i pins s σ H E I hf st hg
    subst hP hw hK
    obtain ⟨hl, st⟩ := st
    have hg : x.cps.size ≤ i := hg
    obtain ⟨f0, f1, f2, f3, f4, f5⟩ := hf it (by simp)
    exact wpAny_pyNext_wide_end (I.ok.hd hc) st (by simp; omega) fun h' eb => ⟨rfl, I.turned (t' := s.toks) (fun b o hb e => eb b o hb e) f0 f1 f3 f4 f5⟩
  self := fun _ _ _ _ _ st h => wpAny_pyIter_striter_wide st.2 h
section
variable {X : Cx} {tg : Expr}
def iStr (tl : TE) : TI := fun σ H R => tl σ H fun x H1 => ∃ z, x = .str z ∧ R (Its z) H1
theorem pi_str {l : Expr} {tl : TE} (hl : PE X l tl) : PI X tg l (iStr tl) := by
  intro pins s σ H R I h
  refine thn (hl pins s σ H _ I h) fun v s1 ⟨x, H1, I1, r1, q1⟩ => ?_
  obtain ⟨z, e, q⟩ := q1
  subst e
  obtain ⟨t, rfl⟩ := r1
  have fpn : ∀ b ∈ [s1.heap.objs.size], FpOk X pins H1 b := fun b hb => by
    have e : b = s1.heap.objs.size := by simpa using hb
    subst e
    exact I1.fpOk (Nat.le_refl _) (I1.hok.fresh (Nat.le_refl _))
  cases ha : z.cps.all (· < 128)
  · refine wpAny_pyIter_wide ha ?_
    exact ⟨s1.heap.objs.size, [s1.heap.objs.size], _, _, H1, rfl, I1.kept (t' := s1.toks) fun b o e => Heap.get?_push_of_some _ e, turn_strW _ z t, ⟨Nat.zero_le _, _, Heap.get?_push_size _ rfl, rfl, rfl⟩, fpn, q⟩
  · refine wpAny_pyIter_ascii ha ?_
    exact ⟨s1.heap.objs.size, [s1.heap.objs.size], _, _, H1, rfl, I1.kept (t' := s1.toks) fun b o e => Heap.get?_push_of_some _ e, turn_strA _ z t, ⟨Nat.zero_le _, _, Heap.get?_push_size _ rfl, rfl, rfl⟩, fpn, q⟩
end
/-- over a text -/
theorem for_str {z : Str} {g : TG} {tb : TS} {D : Ends} {σ : St} {H : Hp} (Pv : Nat → St → Hp → Prop) (h0 : Pv 0 σ H)
    (hs : ∀ i c σ H, z.cps[i]? = some c → Pv i σ H → g (.str ⟨#[c]⟩) σ H fun σ2 H2 => tb { D with nx := Pv (i + 1), ct := Pv (i + 1), bk := D.nx } σ2 H2) (hd : ∀ σ H, Pv z.cps.size σ H → D.nx σ H) :
    ∃ W : Nat → Nat → St → Hp → Prop, (∃ m, W 0 m σ H) ∧ ∀ i m σ H, W i m σ H →
      ((Its z).stop i H ∧ D.nx σ H) ∨ ((Its z).go i H ∧ ∃ N : St → Hp → Prop, (∀ σ' H', N σ' H' → ∃ m', m' < m ∧ W (i + 1) m' σ' H') ∧ ∀ x H', (Its z).yld i H x H' → g x σ H' fun σ2 H2 => tb { D with nx := N, ct := N, bk := D.nx } σ2 H2) := by
  refine ⟨fun i m σ H => m = z.cps.size - i ∧ i ≤ z.cps.size ∧ Pv i σ H, ⟨z.cps.size, by simp, Nat.zero_le _, h0⟩, ?_⟩
  rintro i m σ H ⟨rfl, hi, p⟩
  by_cases hlt : i < z.cps.size
  · refine .inr ⟨hlt, Pv (i + 1), fun σ' H' p' => ⟨z.cps.size - (i + 1), by omega, rfl, hlt, p'⟩, fun x H' y => ?_⟩
    obtain ⟨e, c, hc, rfl⟩ := y
    subst e
    exact hs i c σ _ hc p
  · have e : i = z.cps.size := by omega
    subst e
    exact .inl ⟨Nat.le_refl _, hd σ H p⟩

/-! ### the forms of a comprehension that one uses: what stands behind i items -/
/-- one item more is behind -/
def CN (n : Nat) (Pv : Nat → List V → Hp → Prop) (i : Nat) (ys : List V) (H : Hp) : Prop := ∃ m', m' < n - i ∧ m' = n - (i + 1) ∧ i + 1 ≤ n ∧ Pv (i + 1) ys H
theorem CN.of {n : Nat} {Pv : Nat → List V → Hp → Prop} {i : Nat} {ys : List V} {H : Hp} (h : i < n) (p : Pv (i + 1) ys H) : CN n Pv i ys H := ⟨n - (i + 1), by omega, rfl, h, p⟩
/-- a turn: the test, then the element -/
def CTurn (n : Nat) (Pv : Nat → List V → Hp → Prop) (tc : TT) (te : TE) (σ : St) (i : Nat) (ys : List V) (H : Hp) : Prop :=
  tc σ H fun b H2 => if b = true then te σ H2 fun y H3 => CN n Pv i (ys ++ [y]) H3 else CN n Pv i ys H2
theorem CTurn.no {n : Nat} {Pv : Nat → List V → Hp → Prop} {te : TE} {σ : St} {i : Nat} {ys : List V} {H : Hp} (h : te σ H fun y H3 => CN n Pv i (ys ++ [y]) H3) : CTurn n Pv tNoTest te σ i ys H := by
  unfold CTurn tNoTest
  exact iteT h
theorem comp_list {K : PySem.W.Frag} {a : Addr} {xs : List V} {caps : List Nat} {tc : TT} {te : TE} {σ : St} {H : Hp} {Q : VK} (Pv : Nat → List V → Hp → Prop) (h0 : Pv 0 [] H) (hl : ∀ i ys H, i ≤ xs.length → Pv i ys H → SqL K H a xs ∧ ys.length ≤ i)
    (hz : xs.length ≤ sizeLine) (hs : ∀ i x ys H, i < xs.length → xs[i]? = some x → Pv i ys H → CTurn xs.length Pv tc te (some x :: capV σ caps) i ys H)
    (hd : ∀ ys H p, Pv xs.length ys H → H p = none → Q (.ref p) (upd H p (.lst ys))) : tCompW caps tc te (Itl K a) σ H Q := by
  refine ⟨fun i m ys H => m = xs.length - i ∧ i ≤ xs.length ∧ Pv i ys H, ⟨xs.length, by simp, Nat.zero_le _, h0⟩, ?_⟩
  rintro i m ys H ⟨rfl, hi, p⟩
  obtain ⟨q, hy⟩ := hl i ys H hi p
  by_cases hlt : i < xs.length
  · refine .inr ⟨⟨xs, xs[i], q, by simp [hlt]⟩, by omega, fun x H' y => ?_⟩
    obtain ⟨e, y⟩ := y
    subst e
    exact hs i x ys _ hlt (y xs q) p
  · have e : i = xs.length := by omega
    subst e
    exact .inl ⟨⟨xs, q, Nat.le_refl _⟩, by omega, fun p' hp => hd ys H p' p hp⟩
theorem comp_range {lo : Int} {n : Nat} {caps : List Nat} {tc : TT} {te : TE} {σ : St} {H : Hp} {Q : VK} (Pv : Nat → List V → Hp → Prop) (h0 : Pv 0 [] H) (hl : ∀ i ys H, i ≤ n → Pv i ys H → ys.length ≤ i)
    (hz : n ≤ sizeLine) (hs : ∀ i ys H, i < n → Pv i ys H → CTurn n Pv tc te (some (.int (lo + i)) :: capV σ caps) i ys H)
    (hd : ∀ ys H p, Pv n ys H → H p = none → Q (.ref p) (upd H p (.lst ys))) : tCompW caps tc te (Itr lo n) σ H Q := by
  refine ⟨fun i m ys H => m = n - i ∧ i ≤ n ∧ Pv i ys H, ⟨n, by simp, Nat.zero_le _, h0⟩, ?_⟩
  rintro i m ys H ⟨rfl, hi, p⟩
  have hy := hl i ys H hi p
  by_cases hlt : i < n
  · refine .inr ⟨hlt, by omega, fun x H' y => ?_⟩
    obtain ⟨e, y⟩ := y
    subst e y
    exact hs i ys _ hlt p
  · have e : i = n := by omega
    subst e
    exact .inl ⟨Nat.le_refl _, by omega, fun p' hp => hd ys H p' p hp⟩
/-! ### sep.join(list of texts) -/
theorem strsAre_of {ys : List Str} : ∀ {us : List Value}, Vals (ys.map V.str) us → StrsAre us ys := by
  induction ys with
  | nil => intro us r; rw [List.map_nil] at r; cases r; exact .nil
  | cons n ns ih =>
    intro us r
    rw [List.map_cons] at r
    cases r with
    | cons r1 r2 =>
      obtain ⟨t, e⟩ := r1
      subst e
      exact .cons n t (ih r2)
def rJoin (K : PySem.W.Frag) : V → List V → Hp → VK → Prop := fun x vs H Q => ∃ z a ys, x = .str z ∧ vs = [.ref a] ∧ SqL K H a (ys.map V.str) ∧ (ys.map (·.length)).sum + ys.length * z.length ≤ 16777216 ∧ Q (.str (Txt.join z ys)) H
section
variable {X : Cx}
theorem mt_join : MtR X "str.join" (rJoin X.K) := by
  intro pins s σ H x vs v us Q I rx rv h
  obtain ⟨z, a, ys, rfl, rfl, hq, hz, q⟩ := h
  obtain ⟨t, rfl⟩ := rx
  obtain ⟨u, rfl, ru⟩ := rv.one
  cases ru
  obtain ⟨its, r, pl, hl⟩ := I.list hq
  exact join_list pl.isList (strsAre_of (by simpa using r)) hz fun t' k => ⟨.str _, H, I.tok _, ⟨_, rfl⟩, q⟩

/-! ### isinstance(x, C) -/
def rIsi (K : PySem.W.Frag) : List V → Hp → VK → Prop := fun vs H Q => ∃ x t b, TyOf K H x t ∧
  ((∃ n, vs = [x, .ty n] ∧ PySem.W.kitOne K t (.type n) = some b) ∨ (∃ a, vs = [x, .ref a] ∧ PySem.W.kitOne K t (.ref a) = some b)) ∧ Q (.bl b) H
theorem call_isi : CallR X (.builtin "isinstance") (rIsi X.K) := by
  intro pins s σ H xs us Q I rv h
  obtain ⟨x, t, b, ty, hv, q⟩ := h
  rcases hv with ⟨n, rfl, e⟩ | ⟨a, rfl, e⟩
  · obtain ⟨u1, u2, rfl, r1, r2⟩ := rv.two
    cases r2
    exact isinst_ok I r1 ty e fun tk => ⟨.bl b, H, I.tok _, rfl, q⟩
  · obtain ⟨u1, u2, rfl, r1, r2⟩ := rv.two
    cases r2
    exact isinst_ok I r1 ty e fun tk => ⟨.bl b, H, I.tok _, rfl, q⟩

/-! ### == of two lists of flat values -/
def eqL : List V → List V → Bool
  | [], [] => true
  | x :: xs, y :: ys => eqV x y && eqL xs ys
  | _, _ => false
theorem eqV_refl {x : V} (h : flatV x = true) : eqV x x = true := by
  cases x with
  | non => rfl
  | bl b => simp [eqV]
  | int i => simp [eqV]
  | str z => simp [eqV]
  | _ => exact absurd (show false = true from h) Bool.false_ne_true
theorem eqL_refl : ∀ {xs : List V}, xs.all flatV = true → eqL xs xs = true
  | [], _ => rfl
  | x :: xs, h => by
    rw [List.all_cons, Bool.and_eq_true] at h
    rw [eqL, eqV_refl h.1, eqL_refl h.2]
    rfl
theorem eqL_len : ∀ {xs ys : List V}, xs.length ≠ ys.length → eqL xs ys = false
  | [], [], h => absurd rfl h
  | [], _ :: _, _ => rfl
  | _ :: _, [], _ => rfl
  | x :: xs, y :: ys, h => by
    rw [eqL, eqL_len (xs := xs) (ys := ys) (fun z => h (by rw [List.length_cons, List.length_cons, z])), Bool.and_false]
theorem eqL_range : ∀ {xs ys : List V}, xs.length = ys.length → (List.range xs.length).all (fun j => eqV (xs.getD j .non) (ys.getD j .non)) = eqL xs ys
  | [], [], _ => rfl
  | [], _ :: _, h => by simp at h
  | _ :: _, [], h => by simp at h
  | x :: xs, y :: ys, h => by
    have h' : xs.length = ys.length := by simpa using h
    rw [List.length_cons, List.range_succ_eq_map, List.all_cons, List.all_map]
    rw [eqL, ← eqL_range h']
    rfl
def rEqL (K : PySem.W.Frag) : R2 := fun x y H Q => ∃ p q xs ys, x = .ref p ∧ y = .ref q ∧ SqL K H p xs ∧ SqL K H q ys ∧ xs.all flatV = true ∧ ys.all flatV = true ∧ Q (.bl (eqL xs ys)) H
theorem op_eqL (hu : X.A.units < cLine) : OpR X (compareOp .Eq) (rEqL X.K) := by
  intro pins s σ H x y v u Q I rx ry h
  obtain ⟨p, q, xs, ys, rfl, rfl, hx, hy, fx, fy, k⟩ := h
  cases rx
  cases ry
  obtain ⟨its, r, pl, hz⟩ := I.list hx
  obtain ⟨its2, r2, pl2, hz2⟩ := I.list hy
  have l1 := r.length
  have l2 := r2.length
  by_cases hl : xs.length = ys.length
  · refine SeqAt.eq_listAt (e := fun j => eqV (xs.getD j .non) (ys.getD j .non)) pl.isList pl2.isList (by simp only [List.size_toArray]; omega) hu (fun j h1 h2 => ?_) ?_
    · have j1 : j < xs.length := by simp only [List.size_toArray] at h1; omega
      have j2 : j < ys.length := by omega
      obtain ⟨w1, e1, q1⟩ := r.get (i := j) (x := xs[j]) (by simp [j1])
      obtain ⟨w2, e2, q2⟩ := r2.get (i := j) (x := ys[j]) (by simp [j2])
      have g1 : its.toArray[j] = w1 := by
        have : its.toArray[j]? = some w1 := by simpa using e1
        exact Option.some.inj ((Array.getElem?_eq_getElem h1).symm.trans this)
      have g2 : its2.toArray[j] = w2 := by
        have : its2.toArray[j]? = some w2 := by simpa using e2
        exact Option.some.inj ((Array.getElem?_eq_getElem h2).symm.trans this)
      rw [g1, g2]
      have d1 : xs.getD j .non = xs[j] := by simp [List.getD, j1]
      have d2 : ys.getD j .non = ys[j] := by simp [List.getD, j2]
      show SeqAt.EqAt _ _ _ _ (eqV (xs.getD j .non) (ys.getD j .non))
      rw [d1, d2]
      exact eqAt_V q1 q2 (List.all_eq_true.mp fx _ (List.getElem_mem j1)) (List.all_eq_true.mp fy _ (List.getElem_mem j2))
    · refine ⟨.bl (eqL xs ys), H, I, ?_, k⟩
      show Value.bool _ = Value.bool _
      rw [List.size_toArray, ← l1, eqL_range hl]
  · refine SeqAt.eq_list_lengthsAt pl.isList pl2.isList (by simp only [List.size_toArray, bne_iff_ne]; omega) hu ?_
    exact ⟨.bl (eqL xs ys), H, I, by rw [eqL_len hl]; rfl, k⟩
end
end L2

namespace L2
open PySem
/-- a text by its codes -/
def tx (l : List Nat) : Str := ⟨l.toArray⟩
theorem tx_len (l : List Nat) : (tx l).length = l.length := by simp [tx, Str.length]
theorem tx_size (l : List Nat) : (tx l).cps.size = l.length := by simp [tx]
theorem tx_get (l : List Nat) (i : Nat) : (tx l).cps[i]? = l[i]? := by simp [tx]
theorem tx_app (a b : List Nat) : tx a ++ tx b = tx (a ++ b) := by
  show Str.append (tx a) (tx b) = _
  simp [tx, Str.append]
theorem tx_inj {a b : List Nat} (h : tx a = tx b) : a = b := by
  have := congrArg (fun z : Str => z.cps.toList) h
  simpa [tx] using this
theorem tx_one (c : Nat) : (⟨#[c]⟩ : Str) = tx [c] := rfl
theorem glue_fold : ∀ (ys : List (List Nat)) (acc : Array Nat), (ys.map tx).foldl (fun acc p => acc ++ (tx []).cps ++ p.cps) acc = acc ++ ys.flatten.toArray
  | [], acc => by simp
  | y :: ys, acc => by
    rw [List.map_cons, List.foldl_cons, glue_fold ys]
    simp [tx]
theorem tx_join : ∀ (ys : List (List Nat)), Txt.join (tx []) (ys.map tx) = tx ys.flatten
  | [] => by simp [Txt.join, Builtin.Str.glued, tx, Str.empty]
  | y :: ys => by
    show Str.mk _ = _
    simp only [List.map_cons, List.drop_one, List.tail_cons, List.headD_cons]
    rw [glue_fold]
    simp [tx]
theorem flat1 {α : Type} (f : α → Nat) : ∀ (l : List α), (l.map fun c => [f c]).flatten = l.map f
  | [] => rfl
  | a :: l => by rw [List.map_cons, List.flatten_cons, flat1 f l]; rfl
theorem sum1 {α : Type} (f : α → Nat) : ∀ (l : List α), (((l.map fun c => [f c]).map tx).map (·.length)).sum = l.length
  | [] => rfl
  | a :: l => by
    rw [List.map_cons, List.map_cons, List.map_cons, List.sum_cons, sum1 f l, tx_len, List.length_cons]
    show 1 + l.length = l.length + 1
    omega
end L2

set_option maxRecDepth 100000
set_option linter.all false
namespace PySem
open Sem (wp)
open Builtin Builtin.Str Builtin.Int
namespace RV
end RV
def revS (x : Str) (t : Tok) (i : Int) : Obj := { cls := .type "reversed", data := .fields #[.str x t, rawInt i] }
def Heap.IsRevS (h : Heap) (a : Addr) (x : Str) (t : Tok) (i : Int) : Prop := ∃ o, h.get? a = some o ∧ o.cls = .type "reversed" ∧ o.data = .fields #[.str x t, rawInt i]
section
variable {prog : Program} {w : World} {A : Around} {E : Value → Shared → Prop} {s : Shared}
end
end PySem

set_option Elab.async false
set_option linter.all false
set_option maxRecDepth 100000
namespace L2
open PySem PySem.Spec PyProof.Rows
/-! ### sep.join(reversed(text)) -/
def revO (p : Addr) (x : Str) : HO := .ext fun h => ∃ t, h.IsRevS p x t ((x.length : Int) - 1)
def anyO (p : Addr) : HO := .ext fun h => ∃ o, h.get? p = some o
section
variable {X : Cx}
end
end L2

set_option Elab.async false
set_option linter.all false
set_option maxRecDepth 100000
namespace L2
open PySem PySem.Spec PyProof.Rows
/-! ### tests that are known -/
theorem iteDn {c A B : Prop} [Decidable c] (h : ¬ c) (k : B) : if decide c = true then A else B := by rw [decide_eq_false h]; exact iteF k
theorem iteDp {c A B : Prop} [Decidable c] (h : c) (k : A) : if decide c = true then A else B := by rw [decide_eq_true h]; exact iteT k
theorem iteNp {c A B : Prop} [Decidable c] (h : ¬ c) (k : A) : if (!decide c) = true then A else B := by rw [decide_eq_false h]; exact iteT k
theorem iteB {b : Bool} {A B : Prop} (h1 : b = true → A) (h2 : b = false → B) : if b = true then A else B := by
  cases b with
  | true => exact iteT (h1 rfl)
  | false => exact iteF (h2 rfl)
theorem ite2D {c A B : Prop} [Decidable c] (h1 : c → A) (h2 : ¬ c → B) : if decide c = true then A else B := by
  by_cases h : c
  · exact iteDp h (h1 h)
  · exact iteDn h (h2 h)
/-! ### heaps -/
theorem Same.upd {H : Hp} {p : Addr} {o : HO} (h : H p = none) : Same H (L2.upd H p o) := fun b o' e => by rw [upd_ne (ne_of_none e h)]; exact e
theorem Same.new {H H1 : Hp} {p : Addr} {o : HO} (e : Same H H1) (h : H1 p = none) : Same H (L2.upd H1 p o) := e.trans (.upd h)
/-- a write at p, which was not there at H -/
theorem Same.over {H H1 : Hp} {p : Addr} {o : HO} (e : Same H H1) (h : H p = none) : Same H (L2.upd H1 p o) := fun b o' q => by rw [upd_ne (ne_of_none q h)]; exact e b o' q
/-! ### Python's own names -/
theorem bt_len : bootBuiltins "len" = some (.builtin "len") := by decide +kernel
theorem bt_isinstance : bootBuiltins "isinstance" = some (.builtin "isinstance") := by decide +kernel
theorem bt_list : bootBuiltins "list" = some (.type "list") := by decide +kernel
theorem bt_str : bootBuiltins "str" = some (.type "str") := by decide +kernel
theorem bt_int : bootBuiltins "int" = some (.type "int") := by decide +kernel
theorem bt_tuple : bootBuiltins "tuple" = some (.type "tuple") := by decide +kernel
theorem bt_reversed : bootBuiltins "reversed" = some (.type "reversed") := by decide +kernel
theorem bt_enumerate : bootBuiltins "enumerate" = some (.type "enumerate") := by decide +kernel
theorem bt_bool : bootBuiltins "bool" = some (.type "bool") := by decide +kernel
/-! ### a def of the text, its name, its parameters -/
structure Df (K : PySem.W.Frag) (mg : Str → Option Value) (x : Str) (st : Stmt) (ps : List Str) (f : Addr) (fd : FuncData) : Prop where
  F : Fun K x x st f fd
  m : mg x = some (.ref f)
  b : Binds K fd ps []
/-! ### lists of texts, of ints -/
def vS (cl : List (List Nat)) : List V := cl.map fun t => V.str (tx t)
def vI (ns : List Int) : List V := ns.map V.int
theorem vS_len (cl : List (List Nat)) : (vS cl).length = cl.length := by unfold vS; rw [List.length_map]
theorem vI_len (ns : List Int) : (vI ns).length = ns.length := by unfold vI; rw [List.length_map]
theorem vS_get {cl : List (List Nat)} {i : Nat} {t : List Nat} (h : cl[i]? = some t) : (vS cl)[i]? = some (.str (tx t)) := by unfold vS; rw [List.getElem?_map, h]; rfl
theorem vI_get {ns : List Int} {i : Nat} {n : Int} (h : ns[i]? = some n) : (vI ns)[i]? = some (.int n) := by unfold vI; rw [List.getElem?_map, h]; rfl
theorem vS_got {cl : List (List Nat)} {i : Nat} {v : V} (h : (vS cl)[i]? = some v) : ∃ t, cl[i]? = some t ∧ v = .str (tx t) := by
  unfold vS at h
  rw [List.getElem?_map] at h
  cases e : cl[i]? with
  | none => rw [e] at h; cases h
  | some t => rw [e] at h; exact ⟨t, rfl, (Option.some.inj h).symm⟩
theorem vI_got {ns : List Int} {i : Nat} {v : V} (h : (vI ns)[i]? = some v) : ∃ t, ns[i]? = some t ∧ v = .int t := by
  unfold vI at h
  rw [List.getElem?_map] at h
  cases e : ns[i]? with
  | none => rw [e] at h; cases h
  | some t => rw [e] at h; exact ⟨t, rfl, (Option.some.inj h).symm⟩
theorem vS_flat (cl : List (List Nat)) : (vS cl).all flatV = true := by unfold vS; rw [List.all_map]; exact List.all_eq_true.mpr fun _ _ => rfl
theorem vS_map (cl : List (List Nat)) : vS cl = (cl.map tx).map V.str := by unfold vS; rw [List.map_map]; rfl
theorem vI_set (ns : List Int) (j : Nat) (n : Int) : (vI ns).set j (.int n) = vI (ns.set j n) := by unfold vI; rw [List.map_set]
theorem vI_app (ns : List Int) (n : Int) : vI ns ++ [.int n] = vI (ns ++ [n]) := by unfold vI; rw [List.map_append]; rfl
theorem vS_app (cl : List (List Nat)) (t : List Nat) : vS cl ++ [.str (tx t)] = vS (cl ++ [t]) := by unfold vS; rw [List.map_append]; rfl
/-- the item at a place that is there -/
theorem atI_of {α : Type} {xs : List α} {i : Int} {v : α} (h0 : 0 ≤ i) (h : xs[i.toNat]? = some v) : atI xs i = some v := by
  have e : i = (i.toNat : Int) := by omega
  rw [e]
  exact atI_nat h
theorem ixN_of {n : Nat} {i : Int} (h0 : 0 ≤ i) (h : i < n) : ixN n i = some i.toNat := by unfold ixN; rw [if_pos h0, if_pos h]
end L2

set_option Elab.async false
set_option linter.all false
set_option maxRecDepth 100000
namespace L2
open PySem PySem.Spec PyProof.Rows
/-! ### the rules that name the written part, with its name given (within a comprehension's block the reading may not lean on the block) -/
section
variable {X : Cx} {K : PySem.W.Frag} {tg : Expr}
theorem ix_listK (hK : X.K = K := by rfl) : IxR X (rIxL K) := by subst hK; exact ix_list
theorem ix_tupK (hK : X.K = K := by rfl) : IxR X (rIxT K) := by subst hK; exact ix_tup
theorem op_eqLK (hu : X.A.units < cLine) (hK : X.K = K := by rfl) : OpR X (compareOp .Eq) (rEqL K) := by subst hK; exact op_eqL hu
theorem call_len_seqK (hK : X.K = K := by rfl) : CallR X (.builtin "len") (fun xs H Q => ∃ p ys, xs = [.ref p] ∧ (SqL K H p ys ∨ SqT K H p ys) ∧ Q (.int ys.length) H) := by subst hK; exact call_len_seq
theorem call_list_ofK (hK : X.K = K := by rfl) : CallR X (.type "list") (fun xs H Q => ∃ p ys, xs = [.ref p] ∧ (SqL K H p ys ∨ SqT K H p ys) ∧ ∀ l, H l = none → Q (.ref l) (upd H l (.lst ys))) := by subst hK; exact call_list_of
theorem call_isiK (hK : X.K = K := by rfl) : CallR X (.builtin "isinstance") (rIsi K) := by subst hK; exact call_isi
theorem mt_joinK (hK : X.K = K := by rfl) : MtR X "str.join" (rJoin K) := by subst hK; exact mt_join
theorem pi_listK {l : Expr} {tl : TE} (hl : PE X l tl) (hK : X.K = K := by rfl) : PI X tg l (iList K tl) := by subst hK; exact pi_list hl
variable {o e : Expr} {es : List Expr} {to : TE} {t : TA} {name : Str} {apos cpos : Pos} {T id : String} {r : V → List V → Hp → VK → Prop}
theorem pe_bmK (pa : PlainAttrs T) (slot : Slot T name id) (hty : typeOf (.builtin id) = pure (.type "method_descriptor")) (hm : MtR X id r) (ho : PE X o to) (ha : PA X (e :: es) t)
    (hbase : attributeBase o name X.env (eval o X.env) = eval o X.env := by rfl)
    (hfew : ((backTo cpos (starEach (e :: es) X.env)).all (fun x => !x.1) && (backToKw cpos (keywordEach [] X.env)).all (fun x => x.1.isSome)
      && decide ((e :: es).length + ([] : List Keyword).length + (if ([] : List Keyword).isEmpty then 0 else 1) < 30)) = true := by rfl)
    (hline : (apos.endLine == cpos.line) = true := by rfl) (hs : starEach (e :: es) X.env = (false, eval e X.env) :: starEach es X.env := by rfl) (hplain : (backTo cpos (starEach es X.env)).any (·.1) = false := by rfl) (hK : X.K = K := by rfl) :
    PE X (.Call (.Attribute o name apos) (e :: es) [] cpos) (tBM K T r to t) := by
  subst hK
  exact pe_bm pa slot hty hm ho ha hbase hfew hline hs hplain
end
end L2

set_option Elab.async false
set_option linter.all false
set_option maxRecDepth 100000
namespace L2
open PySem PySem.Spec PyProof.Rows

/-! ### an exception of an own class, on its way through the frames: its whole record is known but for where its trace stands -/
abbrev exO (C t : Addr) (tb : Value) : Obj := { cls := .ref C, data := .fields #[.ref t, tb, .none, .none, .bool false, .none] }
/-- B: all that stood at the raise but the frames; fl: what the newest entry of the trace says of the flight -/
structure Fx (B : Heap) (l : List Env) (e C t : Addr) (fl : Value) (h : Heap) : Prop where
  st : B.StaysIn h
  ne : B.get? e = none
  fr : h.FunFrames B l
  ob : ∃ (T : Addr) (oT : Obj) (ts : Array Value), h.get? e = some (exO C t (.ref T)) ∧ B.get? T = none ∧ T ≠ e ∧ h.get? T = some oT ∧ oT.data = .fields ts ∧ ts[3]? = some fl
section
variable {M : Model} {A : Around} {E : Value → Shared → Prop} {s : Shared} {B : Heap} {env : Env} {l : List Env} {e C t L : Addr}
end
end L2

set_option Elab.async false
set_option linter.all false
set_option maxRecDepth 100000
namespace L2
open PySem PySem.Spec PyProof.Rows

section
variable {M : Model} {A : Around} {E : Value → Shared → Prop} {s : Shared} {B : Heap} {env : Env} {l : List Env} {e C t L : Addr}
end

/-! ### what an exception leaves behind: B (all but the frames) holds the abstract heap -/
structure Bk (P : Program) (w : World) (outer : List Env) (H : Hp) (h : Heap) (H' : Hp) (B h' : Heap) : Prop where
  ok : HOk P w H' B
  keep : ∀ b o, h.get? b = some o → H b = none → b ∉ frs outer → B.get? b = some o
  slot : ∀ b o, h.get? b = some o → b ∈ frs outer → ∃ sl, h'.get? b = some { o with slots := sl }
  free : ∀ b o, h.get? b = some o → H b = none → H' b = none
  there : ∀ b o, h.get? b = some o → b ∉ frs outer → ∃ o', B.get? b = some o'
  tups : ∀ b xs, H b = some (.tup xs) → H' b = some (.tup xs)
  frzs : ∀ b o u, H b = some (.frz o u) → H' b = some (.frz o u)
  tbls : ∀ b ps, H b = some (.tbl ps) → ∃ more, H' b = some (.tbl (ps ++ more))
/-- behind a call that raised -/
def CX1 (P : Program) (w : World) : CXT := fun outer H s E e s' => ∃ ea C t H' B, e = .ref ea ∧ Fx B outer ea C t .none s'.heap ∧ s'.os = s.os ∧ AllBare s'.gens ∧ Bk P w outer H s.heap H' B s'.heap ∧ E (.ref C) none H'
/-- how an exception lies in a body -/
inductive Fly (B : Heap) (l : List Env) (L ea C t : Addr) (h : Heap) : Prop where
  | new (st : B.StaysIn h) (ne : B.get? ea = none) (fr : h.FunFrames B l) (ob : h.get? ea = some (exO C t .none))
  | came (x : Fx B l ea C t .none h)
  | seen (x : Fx B l ea C t (rawInt L) h)
def FlX (X : Cx) (E : XK) : Value → Shared → Prop := fun e s' => ∃ ea C t H' B, e = .ref ea ∧ Fly B X.stack X.env.locals ea C t s'.heap ∧ s'.os = X.s₀.os ∧ AllBare s'.gens ∧ Bk X.prog X.w X.outer X.H₀ X.s₀.heap H' B s'.heap ∧ E (.ref C) none H'
/-- a body, not a comprehension's block -/
structure Body (X : Cx) : Prop where
  stack : X.stack = X.env :: X.outer
  frame : X.env.frame = some X.env.locals
  ex : X.ex = []

section
variable {X : Cx} {pins : List (Addr × Obj)} {σ : St} {H : Hp} {s s' : Shared} {E : XK} {e : Value}
end
end L2

set_option Elab.async false
set_option linter.all false
set_option maxRecDepth 100000
namespace L2
open PySem PySem.Spec PyProof.Rows

/-! ### own exception classes -/
def mroK (K : PySem.W.Frag) (C : Addr) : List Value := match K.lookup C with
  | some ⟨_, _, .cls cd, _⟩ => cd.mro
  | _ => []
/-! ### raise C(e, ..) -/
def tRaise (C : Addr) (E : XK) (t : TA) : TS := fun _ σ H => t σ H fun vs H1 => vs.length ≤ sizeLine ∧ E (.ref C) none H1
section
variable {X : Cx} {x : Str} {C : Addr} {bmB bmN : List Value} {B Bn nid nid' iid iid' : String} {E : XK} {e : Expr} {es : List Expr} {t : TA} {np cpos pos : Pos}
end

/-! ### a def whose exceptions matter -/
abbrev cx1 (P : Program) (w : World) (K : PySem.W.Frag) (mg : Str → Option Value) (base : Heap) (N : List Str) (qual : Str) (scope : Scope) (f : Addr) (cd : Value) (A : Around) (outer : List Env) (s : Shared) (H : Hp) (E : XK) : Cx :=
  (cxOf (CX1 P w) P w K mg base N qual scope f cd A outer s H E).wish (FlX (cxOf (CX1 P w) P w K mg base N qual scope f cd A outer s H E) E)
section
variable {P : Program} {w : World} {K : PySem.W.Frag} {mg : Str → Option Value} {base : Heap}
end
/-! ### an expression that may raise, tried -/
def PEX (X : Cx) (e : Expr) (t : XK → TE) : Prop := ∀ (pins : List (Addr × Obj)) (s : Shared) (σ : St) (H : Hp) (Q : VK) (E : XK), Inv X pins σ H s → t E σ H Q →
  wpAny (model X.prog X.w) X.A (eval e X.env) (EP X pins σ Q) (fun ex s' => ∃ H1 s1, Inv X pins σ H1 s1 ∧ CX1 X.prog X.w X.stack H1 s1 E ex s') s
section
variable {X : Cx} {k : Nat} {f C : Addr} {fd : FuncData} {ps : List Str} {sp : Sp} {dvs : List V} {ds : List Value} {x m : Str} {p pos apos : Pos} {e o : Expr} {es : List Expr} {ta : TE} {t : TA}
end
end L2

set_option Elab.async false
set_option linter.all false
set_option maxRecDepth 100000
namespace L2
open PySem PySem.Spec PyProof.Rows

/-! ### an exception that was caught, as a tracked thing -/
def exH (C a : Addr) : HO := .ext fun h => ∃ t tb, h.get? a = some (exO C t tb)
section
variable {X : Cx} {pins : List (Addr × Obj)} {σ : St} {H H' : Hp} {s s' : Shared} {B h2 : Heap} {ea C t : Addr} {fl : Value}
/-! ### the handler's context -/
abbrev Cx.hdl (X : Cx) (e : Addr) : Cx := { X with A := X.A.mark (some (.ref e)), calm := false, xe := fun _ _ => False }
end
end L2

set_option Elab.async false
set_option linter.all false
set_option maxRecDepth 100000
namespace L2
open PySem PySem.Spec PyProof.Rows

section
variable {M : Model} {A : Around} {E : Value → Shared → Prop} {h : Heap} {g : Array GenState} {d : Drawn} {t : Nat} {os : OsState}
end

/-! ### a statement that may raise, tried: where it raises the names are as they were -/
abbrev WX (X : Cx) (pins : List (Addr × Obj)) (σ : St) (E : XK) : Value → Shared → Prop := fun ex s' => ∃ H1 s1, Inv X pins σ H1 s1 ∧ CX1 X.prog X.w X.stack H1 s1 E ex s'
def PSX (X : Cx) (st : Stmt) (t : XK → TS) : Prop := ∀ (pins : List (Addr × Obj)) (s : Shared) (σ : St) (H : Hp) (D : Ends) (E : XK), Inv X pins σ H s → t E D σ H → wpAny (model X.prog X.w) X.A (exec st X.env) (SP X pins D) (WX X pins σ E) s
def PSXs (X : Cx) (st : List Stmt) (t : XK → TS) : Prop := ∀ (pins : List (Addr × Obj)) (s : Shared) (σ : St) (H : Hp) (D : Ends) (E : XK), Inv X pins σ H s → t E D σ H → wpAny (model X.prog X.w) X.A (execs st X.env) (SP X pins D) (WX X pins σ E) s
section
variable {X : Cx} {e : Expr} {t u : XK → TS} {te : XK → TE} {pos : Pos} {st : Stmt}
/-! ### try: .. except D as n: .. -/
abbrev Ends.un (D : Ends) (j : Nat) : Ends := { nx := fun σ H => D.nx (σ.set j none) H, rt := D.rt, bk := fun σ H => D.bk (σ.set j none) H, ct := fun σ H => D.ct (σ.set j none) H }
/-- the class C is one that D's name catches -/
def Sub (K : PySem.W.Frag) (C D : Addr) : Prop := (∃ bm nid, PySem.W.excIn K C bm nid = true) ∧ (mroK K C).contains (.ref D) = true
def tTry (K : PySem.W.Frag) (Ch : Addr) (j : Nat) (t : XK → TS) (ts : TS) : TS := fun D σ H => t (fun c _ H' => ∃ C, c = .ref C ∧ Sub K C Ch ∧ ∀ ea, H' ea = none → ts (D.un j) (σ.set j (some (.ref ea))) (upd H' ea (exH C ea))) D σ H
end
end L2

set_option Elab.async false
set_option linter.all false
set_option maxRecDepth 100000
namespace L2
open PySem PySem.Spec PyProof.Rows

/-! ### an own exception class that was made of a built-in one: what is asked of its things -/
structure ExC (K : PySem.W.Frag) (C : Addr) : Prop where
  ga : PySem.W.findIn K (.ref C) "__getattribute__" = some (some (.builtin "BaseException.__getattribute__"))
  gt : PySem.W.findIn K (.ref C) "__getattr__" = some none
  cl : PySem.W.findIn K (.ref C) "__class__" = some (some (.builtin "object.__class__"))
  gc : PySem.W.specialIn K (.builtin "object.__class__") "__get__" = some (some (.builtin "getset_descriptor.__get__"))
  tk : PySem.W.takesIn K (.builtin "object.__class__") = some true
  ob : PySem.W.mroIn K C (.type "object") = some true
  be : PySem.W.mroIn K C (.type "BaseException") = some true
  is : (PySem.W.clsIn K C).isSome = true

section
variable {prog : Program} {w : World} {A : Around} {E : Value → Shared → Prop} {s : Shared} {K : PySem.W.Frag} {x C t : Addr} {tb : Value}
end

/-! ### isinstance(e, D) and e.m() of a caught one -/
def rIsX (K : PySem.W.Frag) : List V → Hp → VK → Prop := fun vs H Q => ∃ a C b, H a = some (exH C a) ∧ ExC K C ∧
  ((∃ n, vs = [.ref a, .ty n] ∧ PySem.W.kitOne K (.ref C) (.type n) = some b) ∨ (∃ D, vs = [.ref a, .ref D] ∧ PySem.W.kitOne K (.ref C) (.ref D) = some b)) ∧ Q (.bl b) H
section
variable {X : Cx} {K : PySem.W.Frag}
variable {CX : CXT} {k : Nat} {ps : List Str} {sp : Addr → Sp} {E : XK} {m : Str} {pos apos : Pos} {o : Expr} {ta : TE}
/-- e.m(), the class being known by the heap -/
def tMethX (K : PySem.W.Frag) (m : Str) (sp : Addr → Sp) (E : XK) (ta : TE) : TE := fun σ H Q => ta σ H fun x H1 => ∃ a C, x = .ref a ∧ H1 a = some (exH C a) ∧ sp C [x] H1 Q E
end
end L2

set_option Elab.async false
set_option linter.all false
set_option maxRecDepth 100000
namespace L2
open PySem PySem.Spec PyProof.Rows

/-! ### the refusals of a text: classes under ValueError, each with a called() -/
abbrev vE : List Value := [.type "ValueError", .type "Exception", .type "BaseException", .type "object"]
abbrev vN : String := "ValueError.__new__"
structure Exn (K : PySem.W.Frag) (C : Addr) : Prop where
  q : PySem.W.excIn K C vE vN = true
  c : ExC K C
  ty : PySem.W.typeIn K (.ref C) = some (.type "type")
  ve : PySem.W.mroIn K C (.type "ValueError") = some true
section
variable {X : Cx} {CX : CXT} {k : Nat} {C f : Addr} {fd : FuncData} {ps : List Str} {sp : Sp} {E : XK} {m : Str} {pos apos : Pos} {o : Expr} {ta : TE}
/-- e.m(), e of the class C -/
def tMethE (C : Addr) (sp : Sp) (E : XK) (ta : TE) : TE := fun σ H Q => ta σ H fun x H1 => ∃ a, x = .ref a ∧ H1 a = some (exH C a) ∧ sp [x] H1 Q E
end
/-! ### a method of the text -/
def clsBody (s : Stmt) : List Stmt := match s with
  | .ClassDef _ _ _ b _ _ _ _ _ _ _ => b
  | _ => []
structure Mf (K : PySem.W.Frag) (x q : Str) (st : Stmt) (ps : List Str) (C f : Addr) (fd : FuncData) : Prop where
  F : Fun K x q st f fd
  m : Meth K C x f
  b : Binds K fd ps []
theorem kit_ib (K : PySem.W.Frag) : PySem.W.kitOne K (.type "int") (.type "bool") = some false := by
  unfold PySem.W.kitOne PySem.W.kitCls PySem.W.subIn
  rw [if_neg (by simp)]
  show (if _ then _ else _) = _
  rw [if_pos (by decide +kernel)]
  show Option.map (fun x => x.contains (Value.type "bool")) (fastBuiltinMro "int") = some false
  decide +kernel
end L2

set_option Elab.async false
set_option linter.all false
set_option maxRecDepth 100000
namespace L2
open PySem PySem.Spec PyProof.Rows
open Builtin Builtin.Str
/-! ### slices of texts -/
def cutT (u : List Nat) (lo hi : Option Int) : List Nat := (u.drop (HT.sIx u.length 0 lo)).take (HT.sIx u.length u.length hi - HT.sIx u.length 0 lo)
theorem rng_eq (a b : Nat) : sliceRange (a : Int) (b : Int) 1 = (List.range (b - a)).map fun k => a + k := by
  unfold sliceRange
  simp only [show (1 : Int) > 0 by decide, if_true]
  by_cases h : (a : Int) < (b : Int)
  · rw [if_pos h, Int.ediv_one, show (b : Int) - (a : Int) + 1 - 1 = ((b - a : Nat) : Int) by omega, Int.toNat_natCast]
    exact List.map_congr_left fun k _ => by omega
  · rw [if_neg h, show b - a = 0 by omega]
    rfl
theorem clip_some (n d : Nat) (i : Int) : max 0 (min (if i < 0 then i + (n : Int) else i) (n : Int)) = (HT.sIx n d (some i) : Int) := by
  show _ = (((if i < 0 then (i + (n : Int)).toNat else min i.toNat n) : Nat) : Int)
  by_cases h : i < 0
  · rw [if_pos h, if_pos h]; omega
  · rw [if_neg h, if_neg h]; omega
theorem idx_eq (n : Nat) (lo hi : Option Int) : strSliceIndices lo hi 1 n = (List.range (HT.sIx n n hi - HT.sIx n 0 lo)).map fun k => HT.sIx n 0 lo + k := by
  rw [← rng_eq]
  cases lo with
  | none =>
    cases hi with
    | none => rfl
    | some j => rw [← clip_some]; rfl
  | some i =>
    cases hi with
    | none => rw [← clip_some n 0 i]; rfl
    | some j => rw [← clip_some n 0 i, ← clip_some n n j]; rfl
theorem tx_slice (u : List Nat) (lo hi : Option Int) : Txt.slice (tx u) lo hi = tx (cutT u lo hi) := by
  unfold Txt.slice cutT
  rw [tx_len, idx_eq]
  have hle : HT.sIx u.length u.length hi ≤ u.length := HT.sIx_le _ _ (Nat.le_refl _) _
  have key : ∀ (a k : Nat), a + k ≤ u.length → ((List.range k).map fun j => a + j).filterMap (fun i => (tx u).cps[i]?) = (u.drop a).take k := by
    intro a k
    induction k with
    | zero => intro _; simp
    | succ k ih =>
      intro h
      rw [List.range_succ, List.map_append, List.filterMap_append, ih (by omega)]
      have : a + k < u.length := by omega
      simp only [List.map_cons, List.map_nil, List.filterMap_cons, List.filterMap_nil, tx_get, List.getElem?_eq_getElem this]
      rw [List.take_succ, List.getElem?_drop, List.getElem?_eq_getElem this]
      rfl
  split
  next h =>
    simp only [List.length_map, List.length_range, Bool.and_eq_true, beq_iff_eq] at h
    have h2 := h.2
    have : HT.sIx u.length 0 lo = 0 ∨ u.length = 0 := by omega
    rcases this with e | e
    · rw [e, List.drop_zero, List.take_of_length_le (by omega)]
    · rw [List.eq_nil_of_length_eq_zero e]; simp
  next h =>
    by_cases hlt : HT.sIx u.length 0 lo ≤ HT.sIx u.length u.length hi
    · show (Str.mk _) = _
      rw [key _ _ (by omega)]
      rfl
    · have e : HT.sIx u.length u.length hi - HT.sIx u.length 0 lo = 0 := by omega
      rw [e]
      simp [tx]
theorem cut_to {u : List Nat} {k : Nat} (h : k ≤ u.length) : cutT u none (some (k : Int)) = u.take k := by
  unfold cutT
  rw [HT.sIx_none, HT.sIx_nat, List.drop_zero, Nat.min_eq_left h, Nat.sub_zero]
section
variable {X : Cx}
theorem sl_str : SlR X (fun x lo hi H Q => ∃ u : List Nat, x = .str (tx u) ∧ u.length ≤ sizeLine ∧ Q (.str (tx (cutT u lo hi))) H) := by
  intro pins s σ H x v vl vu lo hi sl Q I rx hs pl pu h
  obtain ⟨u, rfl, hz, q⟩ := h
  obtain ⟨t, rfl⟩ := rx
  rw [← tx_slice] at q
  refine ⟨"str", _, F.slot_str_getitem.lookup, typeIs_str _ _ _, ?_⟩
  have hsz : (tx u).length ≤ sizeLine := by rw [tx_len]; exact hz
  obtain ⟨os, hos, hcs, hds⟩ := id hs
  have fin : ∀ (l u' : Option (Int × Tok)), s.heap.IsSlice sl l u' none → Q (.str (Txt.slice (tx u) (l.map (·.1)) (u'.map (·.1)))) H → wpAny (model X.prog X.w) X.A (getItem (.str (tx u) t) (.ref sl)) (EP X pins σ Q) X.xe s := fun l u' z q' =>
    wpAny_getItem_str_slice z rfl (post_val_or_str ⟨Nat.le_trans (Txt.slice_le (tx u) _ _) hsz, fun t' k => ⟨.str _, H, I.tok _, ⟨t', rfl⟩, q'⟩⟩)
  cases pl with
  | none => cases pu with
    | none => exact fin none none ⟨os, hos, hcs, hds⟩ q
    | int j tj => exact fin none (some (j, tj)) ⟨os, hos, hcs, hds⟩ q
  | int i ti => cases pu with
    | none => exact fin (some (i, ti)) none ⟨os, hos, hcs, hds⟩ q
    | int j tj => exact fin (some (i, ti)) (some (j, tj)) ⟨os, hos, hcs, hds⟩ q
end
end L2

set_option Elab.async false
set_option linter.all false
set_option maxRecDepth 100000
namespace L2
open PySem PySem.Spec PyProof.Rows
theorem vals_ptw : ∀ (xs : List V) (us : List Value), xs.length = us.length → (∀ (i : Nat) x u, xs[i]? = some x → us[i]? = some u → RelV x u) → Vals xs us
  | [], [], _, _ => .nil
  | [], _ :: _, h, _ => by simp at h
  | _ :: _, [], h, _ => by simp at h
  | x :: xs, u :: us, h, p => .cons (p 0 x u rfl rfl) (vals_ptw xs us (by simpa using h) fun i y v e1 e2 => p (i + 1) y v e1 e2)
/-! ### range objects as values, list(range(..)) -/
def rngO (p : Addr) (a b c : Int) : HO := .ext fun h => ∃ t u v, IsRange h p a b c t u v
def rngL (a c : Int) (n : Nat) : List Int := (List.range n).map fun (i : Nat) => a + (i : Int) * c
section
variable {X : Cx} {K : PySem.W.Frag}
/-! ### int(text), sum(list) -/
/-! ### a sign among signs -/
end
end L2

set_option Elab.async false
set_option linter.all false
set_option maxRecDepth 100000
namespace L2
open PySem PySem.Spec PyProof.Rows
/-! ### range(a, b) of ints of any size -/
section
variable {X : Cx} {tg : Expr}
def iRng2L (ta : TA) : TI := fun σ H R => ta σ H fun vs H1 => ∃ i j : Int, vs = [.int i, .int j] ∧ R (Itr i (j - i).toNat) H1
end
section
variable {X : Cx}
/-! ### a * b of ints of up to 250 bits -/
/-! ### text * n -/
def rRepS : R2 := fun x y H Q => ∃ u n, x = .str (tx u) ∧ y = .int n ∧ 0 ≤ n ∧ n ≤ 1000000 ∧ u.length * n.toNat ≤ sizeLine ∧ Q (.str (tx (List.replicate n.toNat u).flatten)) H
/-! ### text.count(sign) -/
def rCount : V → List V → Hp → VK → Prop := fun x vs H Q => ∃ u c, x = .str (tx u) ∧ vs = [.str ⟨#[c]⟩] ∧ Q (.int (u.count c : Nat)) H
end
end L2

set_option Elab.async false
set_option linter.all false
set_option maxRecDepth 100000
namespace L2
open PySem PySem.Spec PyProof.Rows
/-! ### isinstance(e, (C, D, ..)) of a caught one -/
section
variable {X : Cx} {K : PySem.W.Frag}
def rIsXT (K : PySem.W.Frag) : List V → Hp → VK → Prop := fun vs H Q => ∃ (a C p : Addr) (Ds : List Addr) (b : Bool), vs = [.ref a, .ref p] ∧ H a = some (exH C a) ∧ ExC K C ∧ H p = some (.tup (Ds.map V.ref)) ∧ PySem.W.kitAny K (.ref C) (Ds.map Value.ref) = some b ∧ Q (.bl b) H
end
end L2

set_option Elab.async false
set_option linter.all false
set_option maxRecDepth 100000
namespace L2
open PySem PySem.Spec PyProof.Rows
section
variable {X : Cx} {K : PySem.W.Frag}
/-! ### != of two lists of flat values -/
def rNeL (K : PySem.W.Frag) : R2 := fun x y H Q => ∃ p q xs ys, x = .ref p ∧ y = .ref q ∧ SqL K H p xs ∧ SqL K H q ys ∧ xs.all flatV = true ∧ ys.all flatV = true ∧ Q (.bl (!eqL xs ys)) H
theorem op_neLK (hu : X.A.units < cLine) (hK : X.K = K := by rfl) : OpR X (compareOp .NotEq) (rNeL K) := by
  subst hK
  intro pins s σ H x y v u Q I rx ry h
  obtain ⟨p, q, xs, ys, rfl, rfl, hx, hy, fx, fy, k⟩ := h
  cases rx
  cases ry
  obtain ⟨its, r, pl, hz⟩ := I.list hx
  obtain ⟨its2, r2, pl2, hz2⟩ := I.list hy
  have l1 := r.length
  have l2 := r2.length
  by_cases hl : xs.length = ys.length
  · refine SeqAt.RcNeAt.lists (e := fun j => eqV (xs.getD j .non) (ys.getD j .non)) pl.isList pl2.isList (by simp only [List.size_toArray]; omega) hu (fun j h1 h2 => ?_) _ _ _ _ ?_
    · have j1 : j < xs.length := by simp only [List.size_toArray] at h1; omega
      have j2 : j < ys.length := by omega
      obtain ⟨w1, e1, q1⟩ := r.get (i := j) (x := xs[j]) (by simp [j1])
      obtain ⟨w2, e2, q2⟩ := r2.get (i := j) (x := ys[j]) (by simp [j2])
      have g1 : its.toArray[j] = w1 := by
        have : its.toArray[j]? = some w1 := by simpa using e1
        exact Option.some.inj ((Array.getElem?_eq_getElem h1).symm.trans this)
      have g2 : its2.toArray[j] = w2 := by
        have : its2.toArray[j]? = some w2 := by simpa using e2
        exact Option.some.inj ((Array.getElem?_eq_getElem h2).symm.trans this)
      rw [g1, g2]
      have d1 : xs.getD j .non = xs[j] := by simp [List.getD, j1]
      have d2 : ys.getD j .non = ys[j] := by simp [List.getD, j2]
      show SeqAt.EqAt _ _ _ _ (eqV (xs.getD j .non) (ys.getD j .non))
      rw [d1, d2]
      exact eqAt_V q1 q2 (List.all_eq_true.mp fx _ (List.getElem_mem j1)) (List.all_eq_true.mp fy _ (List.getElem_mem j2))
    · refine ⟨.bl (!eqL xs ys), H, I, ?_, k⟩
      show Value.bool _ = Value.bool _
      rw [List.size_toArray, ← l1, eqL_range hl]
  · refine SeqAt.RcNeAt.lists_lengths pl.isList pl2.isList (by simp only [List.size_toArray, bne_iff_ne]; omega) hu _ _ _ _ ?_
    exact ⟨.bl (!eqL xs ys), H, I, by rw [eqL_len hl]; rfl, k⟩
end
end L2

set_option Elab.async false
set_option linter.all false
set_option maxRecDepth 100000
namespace L2
open PySem PySem.Spec PyProof.Rows
theorem Room.units100 {k : Nat} {A : Around} (r : Room k A) : A.units + 100 < cLine := by have := r.un; omega
/-! ### lists of lists with the same contents -/
def SamL (K : PySem.W.Frag) (H : Hp) (p q : Addr) : Prop := ∃ as bs : List Addr, SqL K H p (as.map V.ref) ∧ SqL K H q (bs.map V.ref) ∧ as.length = bs.length ∧
  ∀ (i : Nat) (a b : Addr), as[i]? = some a → bs[i]? = some b → ∃ xs : List V, xs.all flatV = true ∧ SqL K H a xs ∧ SqL K H b xs
section
variable {X : Cx} {K : PySem.W.Frag}
def rNeLL (K : PySem.W.Frag) : R2 := fun x y H Q => ∃ p q, x = .ref p ∧ y = .ref q ∧ SamL K H p q ∧ Q (.bl false) H
def rEqLL (K : PySem.W.Frag) : R2 := fun x y H Q => ∃ p q, x = .ref p ∧ y = .ref q ∧ SamL K H p q ∧ Q (.bl true) H
/-! ### a number in a list of numbers -/
end
end L2

set_option Elab.async false
set_option linter.all false
set_option maxRecDepth 100000
namespace L2
open PySem PySem.Spec PyProof.Rows
/-! ### several records turned at once -/
/-! ### zip(a, b) of two lists, its pairs unpacked -/
def Itz (K : PySem.W.Frag) (a b : Addr) : It where
  go := fun i H => ∃ xs ys x y, SqL K H a xs ∧ SqL K H b ys ∧ xs[i]? = some x ∧ ys[i]? = some y
  yld := fun i H x H' => ∃ T, x = .ref T ∧ H T = none ∧ ∀ xs ys u v, SqL K H a xs → SqL K H b ys → xs[i]? = some u → ys[i]? = some v → H' = upd H T (.tup [u, v])
  stop := fun i H => ∃ xs ys, SqL K H a xs ∧ SqL K H b ys ∧ (xs.length ≤ i ∨ ys.length ≤ i)
def ZipSt (z TI TO i1 i2 a b : Addr) (i : Nat) (h : Heap) : Prop := IsZip h z TI TO .none ∧ IsPair h TI (.ref i1) (.ref i2) ∧ (∃ p q, IsPair h TO p q) ∧ h.IsListIter i1 a i ∧ h.IsListIter i2 b i
section
variable {X : Cx} {es : List Expr} {kx : Nat} {tp : Pos}
def iZip (K : PySem.W.Frag) (ta : TA) : TI := fun σ H R => ta σ H fun vs H1 => ∃ a b, vs = [.ref a, .ref b] ∧ (∃ xs, SqL K H1 a xs) ∧ (∃ ys, SqL K H1 b ys) ∧ R (Itz K a b) H1
end
end L2

set_option Elab.async false
set_option linter.all false
set_option maxRecDepth 100000
namespace L2
open PySem PySem.Spec PyProof.Rows
/-! ### a tuple of numbers in a list of such tuples, one of which has the same contents -/
def rInT (K : PySem.W.Frag) : R2 := fun x y H Q => ∃ (p q : Addr) (as : List Addr) (ks : List Int), x = .ref p ∧ y = .ref q ∧ SqL K H q (as.map V.ref) ∧ SqT K H p (vI ks) ∧
  (∀ a ∈ as, ∃ js : List Int, SqT K H a (vI js)) ∧ (∃ a ∈ as, SqT K H a (vI ks)) ∧ Q (.bl true) H
section
variable {X : Cx} {K : PySem.W.Frag}
end
end L2

set_option Elab.async false
set_option linter.all false
set_option maxRecDepth 100000
namespace L2
open PySem PySem.Spec PyProof.Rows
/-! ### zip of lists and texts: each side draws by itself -/
section
variable {prog : Program} {w : World} {A : Around} {E : Value → Shared → Prop} {s : Shared}
theorem drawsStr (hh : A.handled = none) (it : Addr) (x : Str) (t : Tok) : Draws prog w A it [it] x.cps.size (fun i v => ∃ c u, x.cps[i]? = some c ∧ v = .str ⟨#[c]⟩ u) (fun i h => h.IsStrIter it (strIterType x) x t i) := by
  unfold strIterType
  split
  · exact Draws.strAscii hh it x t
  · exact Draws.strWide hh it x t
structure Apart2 (z TI TO i1 i2 : Addr) : Prop where
  TIz : TI ≠ z
  TOz : TO ≠ z
  i1z : i1 ≠ z
  i2z : i2 ≠ z
  TITO : TI ≠ TO
  TIi1 : TI ≠ i1
  TIi2 : TI ≠ i2
  TOi1 : TO ≠ i1
  TOi2 : TO ≠ i2
  i12 : i1 ≠ i2
/-! ### the making -/
abbrev strIt (x : Str) (t : Tok) : Obj := { cls := .type (strIterType x), data := .fields #[.str x t, .int 0 0] }
abbrev lstIt (l : Addr) : Obj := { cls := .type "list_iterator", data := .fields #[.ref l, .int 0 0] }
abbrev zHeap (h : Heap) (o1 o2 : Obj) : Heap := ((((h.push o1).push o2).push { cls := .type "tuple", data := .seq #[.ref h.objs.size, .ref (h.push o1).objs.size] }).push { cls := .type "tuple", data := .seq #[.none, .none] }).push
  { cls := .type "zip", data := .fields #[.none, .bool false, .bool false, .ref ((h.push o1).push o2).objs.size, .ref (((h.push o1).push o2).push { cls := .type "tuple", data := .seq #[.ref h.objs.size, .ref (h.push o1).objs.size] }).objs.size] }
abbrev zAddr (h : Heap) (o1 o2 : Obj) : Addr := ((((h.push o1).push o2).push { cls := .type "tuple", data := .seq #[.ref h.objs.size, .ref (h.push o1).objs.size] }).push { cls := .type "tuple", data := .seq #[.none, .none] }).objs.size
end
end L2

set_option Elab.async false
set_option linter.all false
set_option maxRecDepth 100000
namespace L2
open PySem PySem.Spec PyProof.Rows
/-- a side of zip: a list or a text -/
inductive Src where
  | l (a : Addr)
  | s (z : Str)
def srcV : Src → V
  | .l a => .ref a
  | .s z => .str z
def srcOk (K : PySem.W.Frag) (H : Hp) : Src → Prop
  | .l a => ∃ xs, SqL K H a xs
  | .s _ => True
def srcAt (K : PySem.W.Frag) (H : Hp) : Src → Nat → V → Prop
  | .l a, i, v => ∃ xs, SqL K H a xs ∧ xs[i]? = some v
  | .s z, i, v => ∃ c, z.cps[i]? = some c ∧ v = .str ⟨#[c]⟩
def srcEnd (K : PySem.W.Frag) (H : Hp) : Src → Nat → Prop
  | .l a, i => ∃ xs, SqL K H a xs ∧ xs.length = i
  | .s z, i => z.cps.size = i
def srcSt (it : Addr) (t : Tok) : Src → Nat → Heap → Prop
  | .l a, i, h => h.IsListIter it a i
  | .s z, i, h => h.IsStrIter it (strIterType z) z t i
def srcFp (it : Addr) : Src → List Addr
  | .l a => [it, a]
  | .s _ => [it]
def srcIt (t : Tok) : Src → Obj
  | .l a => lstIt a
  | .s z => strIt z t
def Itz2 (K : PySem.W.Frag) (S1 S2 : Src) : It where
  go := fun i H => (∃ u, srcAt K H S1 i u) ∧ ∃ v, srcAt K H S2 i v
  yld := fun i H x H' => ∃ T, x = .ref T ∧ H T = none ∧ ∀ u v, srcAt K H S1 i u → srcAt K H S2 i v → H' = upd H T (.tup [u, v])
  stop := fun i H => srcOk K H S1 ∧ srcOk K H S2 ∧ (srcEnd K H S1 i ∨ ((∃ u, srcAt K H S1 i u) ∧ srcEnd K H S2 i))
def Zip2St (z TI TO i1 i2 : Addr) (t1 t2 : Tok) (S1 S2 : Src) (i : Nat) (h : Heap) : Prop := IsZip h z TI TO .none ∧ IsPair h TI (.ref i1) (.ref i2) ∧ (∃ p q, IsPair h TO p q) ∧ srcSt i1 t1 S1 i h ∧ srcSt i2 t2 S2 i h
section
variable {X : Cx} {es : List Expr} {kx : Nat} {tp : Pos}
/-- which pairs there is a rule for -/
def zOk : Src → Src → Prop
  | .s _, .l _ => False
  | _, _ => True
def iZip2 (K : PySem.W.Frag) (ta : TA) : TI := fun σ H R => ta σ H fun vs H1 => ∃ S1 S2, vs = [srcV S1, srcV S2] ∧ zOk S1 S2 ∧ srcOk K H1 S1 ∧ srcOk K H1 S2 ∧ R (Itz2 K S1 S2) H1
end
end L2

set_option Elab.async false
set_option linter.all false
set_option maxRecDepth 100000
namespace L2
open PySem PySem.Spec PyProof.Rows
/-! ### a comprehension whose target is a pair of names -/
structure CompOk2 (X : Cx) (x x' : Str) (Nc : List Str) (caps : List Nat) (scope : Scope) : Prop where
  kind : scope.kind = .function
  cell : ∀ y ∈ scope.names, y.2 ≠ .cell
  names : ∀ y ∈ scope.names, y.2 = .local → scope.names.lookup y.1 = some .local
  fr : ∀ y ∈ scope.names, y.2 = .free → X.env.scope.names.lookup y.1 = some .cell ∧ scope.names.lookup y.1 = some .free
  loc : scope.names.lookup x = some .local
  loc2 : scope.names.lookup x' = some .local
  len : Nc.length = caps.length + 2
  hd : Nc[0]? = some x
  hd2 : Nc[1]? = some x'
  nd : Nc.Nodup
  cap : ∀ k j, caps[k]? = some j → ∃ y, Nc[k + 2]? = some y ∧ X.N[j]? = some y ∧ scope.names.lookup y = some .free
def tCompW2 (K : PySem.W.Frag) (caps : List Nat) (tc : TT) (te : TE) (J : It) (σ : St) (H : Hp) (Q : VK) : Prop :=
  ∃ W : Nat → Nat → List V → Hp → Prop, (∃ m, W 0 m [] H) ∧ ∀ i m ys H, W i m ys H →
    (J.stop i H ∧ ys.length ≤ sizeLine ∧ ∀ p, H p = none → Q (.ref p) (upd H p (.lst ys))) ∨
    (J.go i H ∧ ys.length < sizeLine ∧ ∀ x H', J.yld i H x H' → ∃ a u v, x = .ref a ∧ SqT K H' a [u, v] ∧ tc (some u :: some v :: capV σ caps) H' fun b H2 =>
      if b = true then te (some u :: some v :: capV σ caps) H2 fun y H3 => ∃ m', m' < m ∧ W (i + 1) m' (ys ++ [y]) H3 else ∃ m', m' < m ∧ W (i + 1) m' ys H2)
def tComp2 (K : PySem.W.Frag) (wi : TI) (caps : List Nat) (tc : TT) (te : TE) : TE := fun σ H Q => wi σ H fun J H1 => tCompW2 K caps tc te J σ H1 Q
section
variable {X : Cx} {pins : List (Addr × Obj)} {σ : St} {H : Hp} {s : Shared}
end
end L2

set_option Elab.async false
set_option linter.all false
set_option maxRecDepth 100000
namespace L2
open PySem PySem.Spec PyProof.Rows
/-! ### list.count of a number -/
section
variable {X : Cx}
def rCountL (K : PySem.W.Frag) : V → List V → Hp → VK → Prop := fun x vs H Q => ∃ a ns k, x = .ref a ∧ vs = [.int k] ∧ SqL K H a (vI ns) ∧ Q (.int (ns.count k : Nat)) H
end
/-! ### enumerate(list), its pairs unpacked -/
def Ite (K : PySem.W.Frag) (a : Addr) : It where
  go := fun i H => ∃ xs x, SqL K H a xs ∧ xs[i]? = some x
  yld := fun i H x H' => ∃ T, x = .ref T ∧ H T = none ∧ ∀ xs u, SqL K H a xs → xs[i]? = some u → H' = upd H T (.tup [.int (i : Int), u])
  stop := fun i H => ∃ xs, SqL K H a xs ∧ xs.length = i
def EnSt (e it a : Addr) (i : Nat) (h : Heap) : Prop := (∃ old, IsEnum h e it i old) ∧ h.IsListIter it a i
section
variable {X : Cx} {es : List Expr} {kx : Nat} {tp : Pos}
def iEnum (K : PySem.W.Frag) (ta : TA) : TI := fun σ H R => ta σ H fun vs H1 => ∃ a, vs = [.ref a] ∧ (∃ xs, SqL K H1 a xs) ∧ R (Ite K a) H1
end
end L2

set_option Elab.async false
set_option linter.all false
set_option maxRecDepth 100000
namespace L2
open PySem PySem.Spec PyProof.Rows
/-! ### values of the same contents, lists and tuples within one another -/
inductive SamV (K : PySem.W.Frag) (H : Hp) : Nat → V → V → Prop where
  | flat {n : Nat} {x : V} (h : flatV x = true) : SamV K H n x x
  | lst {n : Nat} {p q : Addr} {xs ys : List V} (hp : SqL K H p xs) (hq : SqL K H q ys) (hl : xs.length = ys.length) (hi : ∀ (i : Nat) (x y : V), xs[i]? = some x → ys[i]? = some y → SamV K H n x y) : SamV K H (n + 1) (.ref p) (.ref q)
  | tup {n : Nat} {p q : Addr} {xs ys : List V} (hp : SqT K H p xs) (hq : SqT K H q ys) (hl : xs.length = ys.length) (hi : ∀ (i : Nat) (x y : V), xs[i]? = some x → ys[i]? = some y → SamV K H n x y) : SamV K H (n + 1) (.ref p) (.ref q)
section
variable {X : Cx} {K : PySem.W.Frag}
theorem vals_get {xs : List V} {us : List Value} (r : Vals xs us) {j : Nat} (h : j < us.toArray.size) : ∃ x, xs[j]? = some x ∧ RelV x us.toArray[j] := by
  have l := r.length
  simp only [List.size_toArray] at h
  obtain ⟨u, e, q⟩ := r.get (i := j) (x := xs[j]) (by simp [show j < xs.length by omega])
  refine ⟨xs[j], by simp [show j < xs.length by omega], ?_⟩
  have : us.toArray[j] = u := by
    have h2 : us.toArray[j]? = some u := by simpa using e
    exact Option.some.inj ((Array.getElem?_eq_getElem (by simpa using h)).symm.trans h2)
  rw [this]
  exact q
theorem eqAt_sam {pins : List (Addr × Obj)} {σ : St} {H : Hp} {s : Shared} (I : Inv X pins σ H s) {n : Nat} {x y : V} (S : SamV X.K H n x y) : ∀ {A : Around} {u v : Value}, RelV x u → RelV y v → A.units + n < cLine → SeqAt.EqAt A s u v true := by
  induction S with
  | flat h =>
    intro A u v r1 r2 hu
    have := eqAt_V (A := A) (s := s) r1 r2 h h
    rw [eqV_refl h] at this
    exact this
  | lst hp hq hl hi ih =>
    intro A u v r1 r2 hu
    rename_i n p q xs ys
    cases r1
    cases r2
    by_cases e : p = q
    · subst e; exact SeqAt.EqAt.same _
    · refine SeqAt.EqAt.of_refs e ?_
      obtain ⟨its, r, pl, hz⟩ := I.list hp
      obtain ⟨its2, r2, pl2, hz2⟩ := I.list hq
      have l1 := r.length
      have l2 := r2.length
      have key := SeqAt.RcAt.lists (A := A) (s := s) (e := fun _ => true) pl.isList pl2.isList (by simp only [List.size_toArray]; omega) (by omega) (fun j h1 h2 => ?_)
      · have e1 : (List.range its.toArray.size).all (fun _ => true) = true := by simp
        rw [e1] at key
        exact key
      · obtain ⟨x, ex, qx⟩ := vals_get r h1
        obtain ⟨y, ey, qy⟩ := vals_get r2 h2
        exact ih j x y ex ey qx qy (by show A.units + 1 + n < cLine; omega)
  | tup hp hq hl hi ih =>
    intro A u v r1 r2 hu
    rename_i n p q xs ys
    cases r1
    cases r2
    by_cases e : p = q
    · subst e; exact SeqAt.EqAt.same _
    · refine SeqAt.EqAt.of_refs e ?_
      obtain ⟨its, r, pl, hz⟩ := I.tuple hp
      obtain ⟨its2, r2, pl2, hz2⟩ := I.tuple hq
      have l1 := r.length
      have l2 := r2.length
      have key := SeqAt.RcAt.tuples (A := A) (s := s) (e := fun _ => true) pl pl2 (by omega) (fun j h1 h2 => ?_)
      · have e1 : ((List.range (min its.toArray.size its2.toArray.size)).all (fun _ => true) && its.toArray.size == its2.toArray.size) = true := by
          have e2 : its.length = its2.length := by omega
          simp [e2]
        rw [e1] at key
        exact key
      · obtain ⟨x, ex, qx⟩ := vals_get r h1
        obtain ⟨y, ey, qy⟩ := vals_get r2 h2
        exact ih j x y ex ey qx qy (by show A.units + 1 + n < cLine; omega)
def SamS (K : PySem.W.Frag) (H : Hp) (p q : Addr) : Prop := ∃ xs ys : List V, SqL K H p xs ∧ SqL K H q ys ∧ xs.length = ys.length ∧ ∀ (i : Nat) (x y : V), xs[i]? = some x → ys[i]? = some y → SamV K H 50 x y
def rEqS (K : PySem.W.Frag) : R2 := fun x y H Q => ∃ p q, x = .ref p ∧ y = .ref q ∧ SamS K H p q ∧ Q (.bl true) H
def rNeS (K : PySem.W.Frag) : R2 := fun x y H Q => ∃ p q, x = .ref p ∧ y = .ref q ∧ SamS K H p q ∧ Q (.bl false) H
end
end L2

set_option Elab.async false
set_option linter.all false
set_option maxRecDepth 100000
namespace L2
open PySem PySem.Spec PyProof.Rows
section
variable {X : Cx} {K : PySem.W.Frag}
/-! ### tuples with the same contents: != -/
def rNeT (K : PySem.W.Frag) : R2 := fun x y H Q => ∃ p q xs, x = .ref p ∧ y = .ref q ∧ SqT K H p xs ∧ SqT K H q xs ∧ (∀ x ∈ xs, flatV x = true) ∧ Q (.bl false) H
end
end L2

set_option Elab.async false
set_option linter.all false
set_option maxRecDepth 100000
namespace L2
open PySem PySem.Spec PyProof.Rows
section
variable {X : Cx} {K : PySem.W.Frag}
/-! ### str.index of a sign that is there; tuples with the same contents: == -/
def rIndex : V → List V → Hp → VK → Prop := fun x vs H Q => ∃ (z y : Str) (i : Nat) (rest : List Nat), x = .str z ∧ vs = [.str y] ∧ Builtin.Str.occurrences z y 0 z.length 1 = i :: rest ∧ Q (.int (i : Int)) H
def rEqT (K : PySem.W.Frag) : R2 := fun x y H Q => ∃ p q xs, x = .ref p ∧ y = .ref q ∧ SqT K H p xs ∧ SqT K H q xs ∧ (∀ x ∈ xs, flatV x = true) ∧ Q (.bl true) H
end
end L2

set_option Elab.async false
set_option linter.all false
set_option maxRecDepth 100000
namespace L2
open PySem PySem.Spec PyProof.Rows
section
variable {X : Cx} {K : PySem.W.Frag}
/-! ### tuples with the same contents, whatever lies within: == -/
def rEqTS (K : PySem.W.Frag) : R2 := fun x y H Q => ∃ (p q : Addr) (xs ys : List V), x = .ref p ∧ y = .ref q ∧ SqT K H p xs ∧ SqT K H q ys ∧ xs.length = ys.length ∧ (∀ (i : Nat) (x y : V), xs[i]? = some x → ys[i]? = some y → SamV K H 50 x y) ∧ Q (.bl true) H
theorem op_eqTS (hu : X.A.units + 100 < cLine) (hK : X.K = K := by rfl) : OpR X (compareOp .Eq) (rEqTS K) := by
  subst hK
  intro pins s σ H x y v u Q I rx ry h
  obtain ⟨p, q, xs, ys, rfl, rfl, hx, hy, hl, hf, k⟩ := h
  cases rx
  cases ry
  obtain ⟨its, r, pl, hz⟩ := I.tuple hx
  obtain ⟨its2, r2, pl2, hz2⟩ := I.tuple hy
  have l1 := r.length
  have l2 := r2.length
  refine SeqAt.RcAt.tuples (e := fun _ => true) pl pl2 (by omega) (fun j h1 h2 => ?_) _ _ _ _ ?_
  · obtain ⟨x, ex, qx⟩ := vals_get r h1
    obtain ⟨y, ey, qy⟩ := vals_get r2 h2
    exact eqAt_sam (n := 50) I (hf j x y ex ey) qx qy (by show X.A.units + 1 + 50 < cLine; omega)
  refine ⟨.bl true, H, I, ?_, k⟩
  show Value.bool _ = Value.bool _
  have : its.length = its2.length := by omega
  simp [this]
end
end L2

set_option Elab.async false
set_option linter.all false
set_option maxRecDepth 100000
namespace L2
open PySem PySem.Spec PyProof.Rows
/-! ### list(reversed(a list)) -/
theorem lri_nolen : typeLookup (.type "list_reverseiterator") "__len__" = pure none := by
  rw [typeLookup_type, builtinLookup_eq_fast]; kernel_rfl
theorem lri_hint : typeLookup (.type "list_reverseiterator") "__length_hint__" = pure (some (.builtin "list_reverseiterator.__length_hint__")) := by
  rw [typeLookup_type, builtinLookup_eq_fast]; kernel_rfl
section
variable {prog : Program} {w : World} {A : Around} {E : Value → Shared → Prop} {s : Shared} {R : Result → Shared → Prop} {it : Addr} {fp wr : List Addr} {G : Array GenState → Array GenState → Prop} {n : Nat} {P : Nat → Value → Prop} {St : Nat → Shared → Prop}
theorem extend_lri (V : WalksS prog w A.in1 it fp wr G n P St) (ty : ∀ i s, St i s → s.TypeIs (.ref it) "list_reverseiterator") (M : Addr) (res : Value) (c : Nat) (st0 : St 0 s) (nf : M ∉ fp) (mi : it ∈ fp) (hM : s.heap.get? M = some { cls := .type "list", data := .seq #[] c })
    (fin : ∀ s' acc c', Moved (M :: wr) G s s' → s'.heap.get? M = some { cls := .type "list", dict := none, data := .seq acc c', slots := #[] } → ItemsOf P acc n → R (.ok (.ret res)) s') (hn : n ≤ sizeLine) :
    wpAny (model prog w) A.in1 (Builtin.List.listExtendWith (.ref M) (.ref it) res)
      (fun f s' => match f with | .done d => R (.ok d) s' | .again k => k.quiet = true ∧ codeAny (model prog w) A k R s') (fun e s' => R (.error e) s') s := by
  have ne : M ≠ it := fun e => nf (e ▸ mi)
  have q1 : Builtin.List.listSameRef (.ref M) (.ref it) = false := by simp [Builtin.List.listSameRef, ne]
  unfold Builtin.List.listExtendWith
  refine wpAny_bind (wpAny_typeOf (ty 0 _ st0) ?_)
  rw [if_neg (by rw [q1]; decide)]
  refine wpAny_bind (V.self 0 _ _ _ st0 ?_); refine wpAny_bind (wpAny_holding ?_)
  unfold Builtin.List.listLengthHint
  refine wpAny_bind (wpAny_specialOf (ty 0 _ st0) lri_nolen ?_)
  show wpAny _ A.in1 (specialOf (Value.ref it) (Str.ofString "__length_hint__") >>= _) _ _ _
  refine wpAny_bind (wpAny_specialOf (ty 0 _ st0) lri_hint ?_)
  generalize hid : ("list_reverseiterator.__length_hint__" : String) = name
  wp_delta
  rw [show splitId name = some ("list_reverseiterator", "__length_hint__") from by subst hid; decide +kernel]
  subst hid
  refine wpAny_bind (wpAny_isInstance (b := true) (ty 0 _ st0) (by rw [isSubtype_type]; kernel_rfl) ?_); refine wpAny_pure ?_
  rw [if_neg (by decide)]
  refine wpAny_pure ⟨plainId_quiet F.plain_extend_loop _, codeAny_extend_loopS V hn _ nf _ n 0 _ _ _ rfl (Nat.zero_le _) st0 hM (ItemsOf.nil P) fun s' acc c' mv hM' ha => ?_⟩
  exact fin s' acc c' mv hM' ha
theorem init_lri (V : WalksS prog w A.in1 it fp wr G n P St) (ty : ∀ i s, St i s → s.TypeIs (.ref it) "list_reverseiterator") (M : Addr) (st0 : St 0 s) (nf : M ∉ fp) (mi : it ∈ fp) (hM : s.heap.get? M = some { cls := .type "list", data := .seq #[] })
    (fin : ∀ s' acc c', Moved (M :: wr) G s s' → s'.heap.get? M = some { cls := .type "list", dict := none, data := .seq acc c', slots := #[] } → ItemsOf P acc n → R (.ok (.ret .none)) s') (hn : n ≤ sizeLine) :
    wpAny (model prog w) A.in1 (Builtin.«list.__init__» ⟨[.ref M, .ref it], []⟩)
      (fun f s' => match f with | .done d => R (.ok d) s' | .again k => k.quiet = true ∧ codeAny (model prog w) A k R s') (fun e s' => R (.error e) s') s := by
  show wpAny _ A.in1 (do let old ← Builtin.List.listItems (.ref M); Builtin.List.listUpdate (.ref M) (fun _ => #[]); letGo old.toList.reverse; Builtin.List.listExtendWith (.ref M) (.ref it) .none) _ _ s
  refine wpAny_bind ?_; unfold Builtin.List.listItems
  refine wpAny_bind (wpAny_seqItems hM rfl (wpAny_pure ?_))
  show wpAny _ A.in1 (updateSeq M (fun _ => #[]) >>= fun _ => letGo (#[] : Array Value).toList.reverse >>= fun _ => Builtin.List.listExtendWith (.ref M) (.ref it) .none) _ _ s
  refine wpAny_bind (wpAny_updateSeq hM rfl ?_)
  have hM2 := Heap.get?_update_self (Obj.mapSeq (fun _ => (#[] : Array Value))) hM rfl
  have off : ∀ b o, b ≠ M → s.heap.get? b = some o → (s.heap.update M (Obj.mapSeq (fun _ => (#[] : Array Value)))).get? b = some o := fun b o nb e => (Heap.get?_update_other _ _ (Ne.symm nb)).trans e
  refine wpAny_bind (wpAny_letGo ?_)
  refine extend_lri V ty M .none _ (V.frame 0 s _ s.toks st0 (Nat.le_refl _) fun b hb o e => off b o (fun z => nf (z ▸ hb)) e) nf mi hM2 (fun s' acc c' mv hM' ha => ?_) hn
  exact fin s' acc c' (Moved.trans V.gtrans ((Moved.refl V.grefl).then_heap (Nat.le_refl _) fun b o hb e => off b o (fun z => hb (z ▸ List.mem_cons_self)) e) mv) hM' ha
theorem list_lri {Q : Value → Shared → Prop} (V : WalksS prog w A.in1.in1 it fp wr G n P St) (ty : ∀ i s, St i s → s.TypeIs (.ref it) "list_reverseiterator") (st0 : St 0 s) (below : ∀ b ∈ fp, b < s.heap.objs.size) (mi : it ∈ fp)
    (fin : ∀ s' acc c', Moved (s.heap.objs.size :: wr) G { s with heap := s.heap.push { cls := .type "list", data := .seq #[] } } s' →
      s'.heap.get? s.heap.objs.size = some { cls := .type "list", dict := none, data := .seq acc c', slots := #[] } → ItemsOf P acc n → Q (.ref s.heap.objs.size) s') (hn : n ≤ sizeLine) :
    wpAny (model prog w) A (call (.type "list") [.ref it]) Q E s := by
  have nf : s.heap.objs.size ∉ fp := fun z => Nat.lt_irrefl _ (below _ z)
  refine callType_codes (Q₁ := fun ob s1 => ob = .ref s.heap.objs.size ∧ s1 = { s with heap := s.heap.push { cls := .type "list", data := .seq #[] } }) F.called_list (F.typeCall_list_1 _) F.entry_list_init (code_list_new _ ⟨rfl, rfl⟩) fun ob s1 h1 => ?_
  obtain ⟨rfl, rfl⟩ := h1
  have hM : (s.heap.push { cls := .type "list", data := .seq #[] }).get? s.heap.objs.size = some { cls := .type "list", data := .seq #[] } := Heap.get?_push_size _ rfl
  refine ⟨⟨_, hM, rfl⟩, F.args_list_init_2 _ _, init_lri V ty _ (V.frame 0 s _ s.toks st0 (Nat.le_refl _) fun b _ o e => Heap.get?_push_of_some _ e) nf mi hM (fun s' acc c' mv hM' ha => ?_) hn⟩
  exact ⟨rfl, fin s' acc c' mv hM' ha⟩
end
section
variable {X : Cx} {K : PySem.W.Frag} {p1 p2 pos1 pos2 : Pos} {e : Expr} {te : TE}
def tListRev (K : PySem.W.Frag) (te : TE) : TE := fun σ H Q => te σ H fun x H1 => ∃ a ys, x = .ref a ∧ SqL K H1 a ys ∧ ys.length ≤ 1000 ∧ ∀ l, H1 l = none → Q (.ref l) (upd H1 l (.lst ys.reverse))
/-- list(reversed(e)) -/
theorem pe_listRev (hg1 : Gl X "list") (hm1 : X.mg "list" = none) (hg2 : Gl X "reversed") (hm2 : X.mg "reversed" = none) (he : PE X e te) (hK : X.K = K := by rfl) (hc : X.calm = true := by rfl)
    (hs2 : starEach [e] X.env = (false, eval e X.env) :: starEach [] X.env := by rfl)
    (hs1 : starEach [.Call (.Name "reversed" p2) [e] [] pos2] X.env = (false, eval (.Call (.Name "reversed" p2) [e] [] pos2) X.env) :: starEach [] X.env := by rfl)
    (hq1 : (backTo pos1 (starEach [] X.env)).any (·.1) = false := by rfl) (hq2 : (backTo pos2 (starEach [] X.env)).any (·.1) = false := by rfl) :
    PE X (.Call (.Name "list" p1) [.Call (.Name "reversed" p2) [e] [] pos2] [] pos1) (tListRev K te) := by
  subst hK
  intro pins s σ H Q I h
  have hsz : sizeLine = 16777216 := sizeLine_eq
  refine wpAny_Call_Name_kw (ld_blt I hg1 hm1 bt_list ?_)
  refine PyProof.Rows.callWith_type1 ?_ hs1 hq1
  rw [hs1]
  show wpAny _ _ (spliced ((false, eval (.Call (.Name "reversed" p2) [e] [] pos2) X.env) :: backTo pos1 (starEach [] X.env))) _ _ s
  refine Calls.spliced_cons ?_
  refine wpAny_Call_Name_kw (ld_blt I hg2 hm2 bt_reversed ?_)
  refine PyProof.Rows.callWith_type1 ?_ hs2 hq2
  rw [hs2]
  show wpAny _ _ (spliced ((false, eval e X.env) :: backTo pos2 (starEach [] X.env))) _ _ s
  refine Calls.spliced_cons (thn (he pins s σ H _ I h) fun u s1 ⟨x, H1, I1, r1, a, ys, ex, hq, hy, q⟩ => ?_)
  subst ex
  cases r1
  refine Calls.spliced_nil ?_
  obtain ⟨its, r, pl, hz⟩ := I1.list hq
  have hl := r.length
  refine call_reversed_list pl.isList ?_
  refine Calls.spliced_nil ?_
  obtain ⟨h1, g1, d1, k1, o1⟩ := s1
  have hit : (h1.push (revObj a ((its.toArray.size : Int) - 1))).IsRevIter h1.objs.size a ((its.toArray.size : Int) - 1 - ((0 : Nat) : Int)) := ⟨_, Heap.get?_push_size _ rfl, rfl, by show Data.fields _ = Data.fields _; rw [show (its.toArray.size : Int) - 1 - ((0 : Nat) : Int) = (its.toArray.size : Int) - 1 by omega]⟩
  have hli : (h1.push (revObj a ((its.toArray.size : Int) - 1))).IsList a its.toArray := pl.isList.push _
  obtain ⟨oa, hoa, _⟩ := pl.isList
  have hlt : a < h1.objs.size := Heap.lt_size hoa
  have hh : X.A.in1.in1.handled = none := by simp [I.ok.hd hc]
  have ps : (h1.push (revObj a ((its.toArray.size : Int) - 1))).objs.size = h1.objs.size + 1 := Heap.size_push _ _
  refine list_lri (Walks.toS (Walks.listRev hh h1.objs.size a (Nat.ne_of_lt hlt) its.toArray)) (fun i s x => x.2.1.typeIs) ⟨Nat.zero_le _, hit, hli⟩ (fun b hb => ?_) (by simp) (fun s' acc c' mv hM ha => ?_) (by rw [List.size_toArray]; omega)
  · show b < (h1.push (revObj a ((its.toArray.size : Int) - 1))).objs.size
    rw [ps]
    rcases List.mem_cons.mp hb with e | e
    · rw [e]; exact Nat.lt_succ_self _
    · rw [List.mem_singleton.mp e]; exact Nat.lt_succ_of_lt hlt
  · have vs : Vals ys.reverse acc.toList := by
      refine vals_ptw _ _ (by rw [List.length_reverse, hl]; have := ha.1; simpa using this.symm) fun i x u e1 e2 => ?_
      have hi : i < ys.length := by
        have := (List.getElem?_eq_some_iff.mp e1).1
        rwa [List.length_reverse] at this
      have e3 := ha.2 i u (by rw [← Array.getElem?_toList]; exact e2)
      rw [List.getElem?_reverse hi] at e1
      obtain ⟨v, hv, rv'⟩ := r.get e1
      rw [List.size_toArray, ← hl] at e3
      have e4 : its[ys.length - 1 - i]? = some u := by simpa using e3
      rw [hv] at e4
      cases e4
      exact rv'
    rw [Moved.eq_with mv]
    have hM' : s'.heap.get? (h1.objs.size + 1) = some { cls := .type "list", dict := none, data := .seq acc c', slots := #[] } := by
      have := hM
      dsimp only at this
      rw [ps] at this
      exact this
    show EP X pins σ Q (Value.ref (h1.push (revObj a ((its.toArray.size : Int) - 1))).objs.size) _
    rw [ps]
    refine ⟨.ref (h1.objs.size + 1), _, I1.laid (t' := s'.toks) (o := .lst ys.reverse) (h' := s'.heap) (fun b o e => ?_) (Nat.le_succ _) ?_, rfl, q _ (I1.hok.fresh (Nat.le_succ _))⟩
    · have hb := Heap.lt_size e
      refine mv.heap b o ?_ (Heap.get?_push_of_some _ (Heap.get?_push_of_some _ e))
      show b ∉ [(h1.push (revObj a ((its.toArray.size : Int) - 1))).objs.size, h1.objs.size]
      rw [ps]
      have hb2 : b < h1.objs.size := hb
      simp only [List.mem_cons, List.not_mem_nil, or_false, not_or]
      exact ⟨Nat.ne_of_lt (Nat.lt_succ_of_lt hb2), Nat.ne_of_lt hb2⟩
    · exact ⟨by rw [List.length_reverse]; exact hz, acc.toList, c', vs, by simpa using hM'⟩
end
end L2

set_option Elab.async false
set_option linter.all false
set_option maxRecDepth 100000
namespace L2
open PySem PySem.Spec PyProof.Rows

/-! ### lists of pairs as tables -/
section
variable {κ : Type} [DecidableEq κ]
def valV (kvs : List (κ × V)) (k : κ) : Option V := (kvs.find? fun kv => decide (kv.1 = k)).map (·.2)
/-- in its place, or at the end -/
def putK (kvs : List (κ × V)) (k : κ) (v : V) : List (κ × V) :=
  if (kvs.any fun kv => decide (kv.1 = k)) = true then kvs.map (fun kv => if kv.1 = k then (kv.1, v) else kv) else kvs ++ [(k, v)]
def dropK (kvs : List (κ × V)) (k : κ) : List (κ × V) := kvs.filter fun kv => decide (kv.1 ≠ k)

theorem valV_nil {k : κ} : valV ([] : List (κ × V)) k = none := rfl
theorem valV_pos {p : κ × V} {r : List (κ × V)} {k : κ} (e : p.1 = k) : valV (p :: r) k = some p.2 := by simp [valV, List.find?_cons, e]
theorem valV_neg {p : κ × V} {r : List (κ × V)} {k : κ} (e : ¬ p.1 = k) : valV (p :: r) k = valV r k := by simp [valV, List.find?_cons, e]
theorem valV_any (k : κ) : ∀ kvs : List (κ × V), (kvs.any fun kv => decide (kv.1 = k)) = (valV kvs k).isSome
  | [] => rfl
  | p :: r => by
    rw [List.any_cons]
    by_cases e : p.1 = k
    · simp only [valV_pos e, decide_eq_true e, Bool.true_or, Option.isSome_some]
    · rw [valV_neg e, decide_eq_false e, Bool.false_or]; exact valV_any k r
theorem length_putK (kvs : List (κ × V)) (k : κ) (v : V) : (putK kvs k v).length ≤ kvs.length + 1 := by
  unfold putK
  split
  · rw [List.length_map]; omega
  · rw [List.length_append, List.length_cons, List.length_nil]; omega
theorem putK_new {kvs : List (κ × V)} {k : κ} (v : V) (h : valV kvs k = none) : putK kvs k v = kvs ++ [(k, v)] := by
  unfold putK
  rw [valV_any, h]
  exact if_neg (by decide)

theorem RelO.isSome_eq {o : Option V} {u : Option Value} (r : RelO o u) : o.isSome = u.isSome := by
  cases o with
  | none => cases u with
    | none => rfl
    | some _ => exact (show False from r).elim
  | some _ => cases u with
    | none => exact (show False from r).elim
    | some _ => rfl
theorem RelO.getD {o : Option V} {u : Option Value} {d : V} {d' : Value} (r : RelO o u) (rd : RelV d d') : RelV (o.getD d) (u.getD d') := by
  cases o with
  | none => cases u with
    | none => exact rd
    | some _ => exact (show False from r).elim
  | some _ => cases u with
    | none => exact (show False from r).elim
    | some _ => exact r

/-- raw tables of the same keys -/
theorem KV.val {kvs : List (κ × V)} {vs : List (κ × Value)} (r : KV kvs vs) (k : κ) : RelO (valV kvs k) (valueAt vs k) := by
  unfold KV at r
  induction r with
  | nil => exact True.intro
  | @cons p q ps qs h t ih =>
    obtain ⟨h1, h2⟩ := h
    by_cases e : p.1 = k
    · have e' : q.1 = k := h1.symm.trans e
      have b : valueAt (q :: qs) k = some q.2 := by simp [valueAt, List.find?_cons, e']
      rw [valV_pos e, b]; exact h2
    · have e' : ¬ q.1 = k := fun z => e (h1.trans z)
      have b : valueAt (q :: qs) k = valueAt qs k := by simp [valueAt, List.find?_cons, e']
      rw [valV_neg e, b]; exact ih
theorem KV.any {kvs : List (κ × V)} {vs : List (κ × Value)} (r : KV kvs vs) (k : κ) : (kvs.any fun kv => decide (kv.1 = k)) = vs.any fun kv => decide (kv.1 = k) := by
  unfold KV at r
  induction r with
  | nil => rfl
  | cons h t ih => rw [List.any_cons, List.any_cons, ih, h.1]
theorem KV.repl {kvs : List (κ × V)} {vs : List (κ × Value)} (r : KV kvs vs) (k : κ) {y : V} {u : Value} (ry : RelV y u) :
    KV (kvs.map fun kv => if kv.1 = k then (kv.1, y) else kv) (vs.map fun kv => if kv.1 = k then (kv.1, u) else kv) := by
  unfold KV at r ⊢
  induction r with
  | nil => exact .nil
  | @cons p q ps qs h t ih =>
    rw [List.map_cons, List.map_cons]
    refine .cons ?_ ih
    obtain ⟨h1, h2⟩ := h
    by_cases e : p.1 = k
    · rw [if_pos e, if_pos (h1.symm.trans e)]; exact ⟨h1, ry⟩
    · rw [if_neg e, if_neg (fun z => e (h1.trans z))]; exact ⟨h1, h2⟩
theorem KV.put {kvs : List (κ × V)} {vs : List (κ × Value)} (r : KV kvs vs) (k : κ) {y : V} {u : Value} (ry : RelV y u) : KV (putK kvs k y) (stored vs k u) := by
  unfold putK stored
  rw [r.any k]
  by_cases e : (vs.any fun kv => decide (kv.1 = k)) = true
  · rw [if_pos e, if_pos e]; exact r.repl k ry
  · rw [if_neg e, if_neg e]; exact Paired.snoc r ⟨rfl, ry⟩
theorem KV.length {kvs : List (κ × V)} {vs : List (κ × Value)} (r : KV kvs vs) : kvs.length = vs.length := Paired.length r
end

/-! ### a tracked dict, its keys ints and texts or tuples of these -/
theorem kV_is {P : Program} {w : World} {k : Key} {u : Value} (r : RelV (kV k) u) : (mixKind P w).is k u = true := by
  cases k with
  | inl i => obtain ⟨t, e⟩ := (show ∃ t, u = Value.int i t from r); subst e; exact mixKind_int P w i t
  | inr x => obtain ⟨t, e⟩ := (show ∃ t, u = Value.str x t from r); subst e; exact mixKind_str P w x t
theorem items_are {P : Program} {w : World} : ∀ {ks : List Key} {us : List Value}, Vals (ks.map kV) us → ItemsAre (mixKind P w) ks us
  | [], _, r => by rw [List.map_nil] at r; cases r; exact .nil
  | k :: ks, _, r => by
    rw [List.map_cons] at r
    cases r with
    | cons h t => exact .cons (kV_is h) (items_are t)

/-- raw entries of a dict with tuple keys -/
abbrev KT (H : Hp) : List (List Key × V) → List (List Key × Addr × Value) → Prop := Paired fun p q => p.1 = q.1 ∧ H q.2.1 = some (.tup (p.1.map kV)) ∧ RelV p.2 q.2.2
theorem KT.val {H : Hp} {kvs : List (List Key × V)} {xs : List (List Key × Addr × Value)} (r : KT H kvs xs) (k : List Key) : RelO (valV kvs k) ((atKey xs k).map (·.2)) := by
  induction r with
  | nil => exact True.intro
  | @cons p q ps qs h t ih =>
    obtain ⟨h1, _, h2⟩ := h
    by_cases e : p.1 = k
    · have e' : q.1 = k := h1.symm.trans e
      have b : atKey (q :: qs) k = some q.2 := by simp [atKey, List.find?_cons, e']
      rw [valV_pos e, b]; exact h2
    · have e' : ¬ q.1 = k := fun z => e (h1.trans z)
      have b : atKey (q :: qs) k = atKey qs k := by simp [atKey, List.find?_cons, e']
      rw [valV_neg e, b]; exact ih
theorem KT.repl {H : Hp} {kvs : List (List Key × V)} {xs : List (List Key × Addr × Value)} (r : KT H kvs xs) (k : List Key) {y : V} {u : Value} (ry : RelV y u) :
    KT H (kvs.map fun kv => if kv.1 = k then (kv.1, y) else kv) (xs.map (putAt k u)) := by
  induction r with
  | nil => exact .nil
  | @cons p q ps qs h t ih =>
    rw [List.map_cons, List.map_cons]
    refine .cons ?_ ih
    obtain ⟨h1, h2, h3⟩ := h
    unfold putAt
    by_cases e : p.1 = k
    · rw [if_pos e, if_pos (h1.symm.trans e)]; exact ⟨h1, h2, ry⟩
    · rw [if_neg e, if_neg (fun z => e (h1.trans z))]; exact ⟨h1, h2, h3⟩
theorem KT.put {H : Hp} {kvs : List (List Key × V)} {xs : List (List Key × Addr × Value)} (r : KT H kvs xs) (k : List Key) {b : Addr} {y : V} {u : Value} (hb : H b = some (.tup (k.map kV))) (ry : RelV y u) :
    KT H (putK kvs k y) (storedH xs k b u) := by
  have e : (kvs.any fun kv => decide (kv.1 = k)) = (atKey xs k).isSome := by
    rw [valV_any, (r.val k).isSome_eq, Option.isSome_map]
  unfold putK storedH
  rw [e]
  by_cases q : (atKey xs k).isSome = true
  · rw [if_pos q, if_pos q]; exact r.repl k ry
  · rw [if_neg q, if_neg q]; exact Paired.snoc r ⟨rfl, hb, ry⟩
theorem KT.keeps {H H' : Hp} {kvs : List (List Key × V)} {xs : List (List Key × Addr × Value)} (r : KT H kvs xs) (ht : ∀ b ys, H b = some (.tup ys) → H' b = some (.tup ys)) : KT H' kvs xs :=
  Paired.mapP r fun _ _ z => ⟨z.1, ht _ _ z.2.1, z.2.2⟩

section
variable {P : Program} {w : World} {H : Hp} {h : Heap} {a : Addr}
theorem rd_of {u : HO} (ok : HOk P w H h) (e : Rd H a u) : ObjOk P w H h a u := e.ok ok
theorem dk_rd {kvs : List (Key × V)} (ok : HOk P w H h) (e : Rd H a (.dK kvs)) : kvs.length ≤ sizeLine ∧ (a == sysModules) = false ∧ ∃ vs, KV kvs vs ∧ h.DictOf (mixKind P w) a vs :=
  show ObjOk P w H h a (.dK kvs) from rd_of ok e
theorem dk_of {kvs : List (Key × V)} (ok : HOk P w H h) (e : H a = some (.dK kvs)) : kvs.length ≤ sizeLine ∧ (a == sysModules) = false ∧ ∃ vs, KV kvs vs ∧ h.DictOf (mixKind P w) a vs := dk_rd ok (.inl e)
/-- a tracked tuple of ints and texts is a key -/
theorem key_of {ks : List Key} (ok : HOk P w H h) (e : H a = some (.tup (ks.map kV))) : (tupleKind (mixKind P w)).is h ks a := by
  obtain ⟨_, its, r, o, h1, h2, n, h3⟩ := (show ObjOk P w H h a (.tup (ks.map kV)) from ok a _ e)
  exact ⟨o, its.toArray, n, h1, h2, h3, by simpa using items_are r⟩
theorem dt_rd {kvs : List (List Key × V)} (ok : HOk P w H h) (e : Rd H a (.dT kvs)) : kvs.length ≤ sizeLine ∧ (a == sysModules) = false ∧
    ∃ xs, KT H kvs xs ∧ h.DictOfH (tupleKind (mixKind P w)) a xs := by
  obtain ⟨z, y, xs, r, o, es, ep, h1, h2, h3, h4, h5⟩ := (show ObjOk P w H h a (.dT kvs) from rd_of ok e)
  refine ⟨z, y, xs, r, o, es, ep, h1, h2, h3, h4, fun x hx => ?_, h5⟩
  have all : ∀ {l : List (List Key × V)} {m : List (List Key × Addr × Value)}, KT H l m → ∀ x ∈ m, (tupleKind (mixKind P w)).is h x.1 x.2.1 := by
    intro l m q
    induction q with
    | nil => intro x hx; exact nomatch hx
    | @cons p q ps qs hq t ih =>
      intro x hx
      rcases List.mem_cons.mp hx with e | hx
      · subst e
        exact key_of ok (by rw [← hq.1]; exact hq.2.1)
      · exact ih x hx
  exact all r x hx
theorem dt_of {kvs : List (List Key × V)} (ok : HOk P w H h) (e : H a = some (.dT kvs)) : kvs.length ≤ sizeLine ∧ (a == sysModules) = false ∧
    ∃ xs, KT H kvs xs ∧ h.DictOfH (tupleKind (mixKind P w)) a xs := dt_rd ok (.inl e)
end

/-- what the dict at a holds at the key y -/
def DGet (H : Hp) (a : Addr) (y : V) (r : Option V) : Prop :=
  (∃ kvs k, Rd H a (.dK kvs) ∧ y = kV k ∧ r = valV kvs k) ∨ ∃ kvs k b, Rd H a (.dT kvs) ∧ y = .ref b ∧ H b = some (.tup (k.map kV)) ∧ r = valV kvs k
/-- the heap behind a[y] = v -/
def DPut (H : Hp) (a : Addr) (y v : V) (H' : Hp) : Prop :=
  (∃ kvs k, H a = some (.dK kvs) ∧ y = kV k ∧ kvs.length < sizeLine ∧ H' = upd H a (.dK (putK kvs k v))) ∨
  ∃ kvs k b, H a = some (.dT kvs) ∧ y = .ref b ∧ H b = some (.tup (k.map kV)) ∧ kvs.length < sizeLine ∧ H' = upd H a (.dT (putK kvs k v))
theorem DGet.k {H : Hp} {a : Addr} {kvs : List (Key × V)} {k : Key} (e : H a = some (.dK kvs)) : DGet H a (kV k) (valV kvs k) := .inl ⟨kvs, k, .inl e, rfl, rfl⟩
theorem DPut.k {H : Hp} {a : Addr} {kvs : List (Key × V)} {k : Key} {v : V} (e : H a = some (.dK kvs)) (hl : kvs.length < sizeLine) : DPut H a (kV k) v (upd H a (.dK (putK kvs k v))) := .inl ⟨kvs, k, e, rfl, hl, rfl⟩
section
variable {X : Cx} {pins : List (Addr × Obj)} {σ : St} {H : Hp} {s : Shared} {a : Addr} {y v : V} {u r : Value} {o : Option V} {A : Around} {E : Value → Shared → Prop}

theorem Inv.big (I : Inv X pins σ H s) : sysModules < s.heap.objs.size := by
  have h : mainGlobals < s.heap.objs.size := (I.mod.glob.keeps I.bk).lt
  exact Nat.lt_trans (by decide) h

/-- d[y], there -/
theorem d_getItem {Q : Value → Shared → Prop} (hu : A.units + 1 < cLine) (I : Inv X pins σ H s) (g : DGet H a y (some v)) (ry : RelV y u) (h : ∀ w' s', Inv X pins σ H s' → RelV v w' → Q w' s') :
    wpAny (model X.prog X.w) A (getItem (.ref a) u) Q E s := by
  rcases g with ⟨kvs, k, e, ey, l⟩ | ⟨kvs, k, b, e, ey, eb, l⟩
  · subst ey
    obtain ⟨z, hd, vs, rel, dd⟩ := dk_rd I.hok e
    obtain ⟨w', hw, rw'⟩ := RelO.some_of (v := v) (o := valueAt vs k) (by rw [l]; exact rel.val k)
    exact wpAny_getItem_of (kV_is ry) dd.mapOf hw (h w' _ (I.tok _) rw')
  · subst ey
    cases (show u = Value.ref b from ry)
    obtain ⟨z, hd, xs, rel, dd⟩ := dt_rd I.hok e
    obtain ⟨w', hw, rw'⟩ := RelO.some_of (v := v) (o := (atKey xs k).map (·.2)) (by rw [l]; exact rel.val k)
    obtain ⟨p, hp, hp2⟩ := Option.map_eq_some_iff.mp hw
    refine wpAny_getItem_heap (tupleKind_room_in1 hu) (key_of I.hok eb) dd hp ?_
    rw [hp2]
    exact h w' _ (I.tok _) rw'
/-- y in d -/
theorem d_in {Q : Value → Shared → Prop} (hu : A.units + 1 < cLine) (I : Inv X pins σ H s) (g : DGet H a y o) (ry : RelV y u) (h : ∀ s', Inv X pins σ H s' → Q (.bool o.isSome) s') :
    wpAny (model X.prog X.w) A (compareOp .In u (.ref a)) Q E s := by
  rcases g with ⟨kvs, k, e, ey, l⟩ | ⟨kvs, k, b, e, ey, eb, l⟩
  · subst ey
    obtain ⟨z, hd, vs, rel, dd⟩ := dk_rd I.hok e
    refine wpAny_in_of (kV_is ry) hd dd.mapOf ?_
    rw [← (rel.val k).isSome_eq, ← l]
    exact h _ (I.tok _)
  · subst ey
    cases (show u = Value.ref b from ry)
    obtain ⟨z, hd, xs, rel, dd⟩ := dt_rd I.hok e
    refine wpAny_in_heap (tupleKind_room_in1 hu) (key_of I.hok eb) hd dd ?_
    have q := (rel.val k).isSome_eq
    rw [Option.isSome_map] at q
    rw [← q, ← l]
    exact h _ (I.tok _)
theorem d_notIn {Q : Value → Shared → Prop} (hu : A.units + 1 < cLine) (I : Inv X pins σ H s) (g : DGet H a y o) (ry : RelV y u) (h : ∀ s', Inv X pins σ H s' → Q (.bool (!o.isSome)) s') :
    wpAny (model X.prog X.w) A (compareOp .NotIn u (.ref a)) Q E s := by
  rcases g with ⟨kvs, k, e, ey, l⟩ | ⟨kvs, k, b, e, ey, eb, l⟩
  · subst ey
    obtain ⟨z, hd, vs, rel, dd⟩ := dk_rd I.hok e
    refine wpAny_notIn_of (kV_is ry) hd dd.mapOf ?_
    rw [← (rel.val k).isSome_eq, ← l]
    exact h _ (I.tok _)
  · subst ey
    cases (show u = Value.ref b from ry)
    obtain ⟨z, hd, xs, rel, dd⟩ := dt_rd I.hok e
    refine wpAny_notIn_heap (tupleKind_room_in1 hu) (key_of I.hok eb) hd dd ?_
    have q := (rel.val k).isSome_eq
    rw [Option.isSome_map] at q
    rw [← q, ← l]
    exact h _ (I.tok _)
/-- a dict's object is replaced -/
theorem d_write {h' : Heap} {t' : Nat} {ob : HO} (I : Inv X pins σ H s) (mu : Mut (H a)) (hs : Heap.SameBut a s.heap h') (he : ∃ q, h'.get? a = some q) (new : ObjOk X.prog X.w (upd H a ob) h' a ob) :
    Inv X pins σ (upd H a ob) { s with heap := h', toks := t' } :=
  I.write (x := a) (e := a) mu (.inl rfl) (fun b q hb z => (hs.2 b hb).trans z) he new
theorem dk_new {P : Program} {w : World} {H' : Hp} {h' : Heap} {kvs : List (Key × V)} {vs : List (Key × Value)} (z : kvs.length ≤ sizeLine) (hd : (a == sysModules) = false) (rel : KV kvs vs) (dd : h'.DictOf (mixKind P w) a vs) :
    ObjOk P w H' h' a (.dK kvs) := ⟨z, hd, vs, rel, dd⟩
/-- d[y] = v -/
theorem d_setItem {H' : Hp} {Q : Unit → Shared → Prop} (hu : A.units + 1 < cLine) (I : Inv X pins σ H s) (g : DPut H a y v H') (ry : RelV y u) (rv : RelV v r) (h : ∀ s', Inv X pins σ H' s' → Q () s') :
    wpAny (model X.prog X.w) A (setItem (.ref a) u r) Q E s := by
  rcases g with ⟨kvs, k, e, ey, l, eH⟩ | ⟨kvs, k, b, e, ey, eb, l, eH⟩
  · subst ey eH
    obtain ⟨z, hd, vs, rel, dd⟩ := dk_of I.hok e
    have hz : vs.length ≤ sizeLine := by rw [← rel.length]; exact z
    have hl : (putK kvs k v).length ≤ sizeLine := by have := length_putK kvs k v; omega
    refine wpAny_setItem_pairs (hsz := hz) (kV_is ry) dd fun h' dd' hs => h _ ?_
    have he : ∃ q, h'.get? a = some q := let ⟨q, _, _, hq, _⟩ := dd'; ⟨q, hq⟩
    exact d_write I (by rw [e]; exact True.intro) hs he (dk_new hl hd (rel.put k rv) dd')
  · subst ey eH
    cases (show u = Value.ref b from ry)
    obtain ⟨z, hd, xs, rel, dd⟩ := dt_of I.hok e
    have hz : xs.length ≤ sizeLine := by rw [← Paired.length rel]; exact z
    have hl : (putK kvs k v).length ≤ sizeLine := by have := length_putK kvs k v; omega
    refine wpAny_setItem_heap (hsz := hz) (tupleKind_room_in1 hu) (key_of I.hok eb) dd fun h' dd' hs => h _ ?_
    obtain ⟨q, es, ep, hq, h2, h3, h4, _, h5⟩ := dd'
    refine d_write I (by rw [e]; exact True.intro) hs ⟨q, hq⟩ ⟨hl, hd, _, (rel.put k eb rv).keeps fun c ys ec => ?_, q, es, ep, hq, h2, h3, h4, h5⟩
    rw [upd_ne (ne_of ec e (fun z => nomatch z))]
    exact ec
end

section
variable {X : Cx} {pins : List (Addr × Obj)} {σ : St} {H : Hp} {s : Shared} {a : Addr} {kvs : List (Key × V)} {k : Key} {u : Value} {A : Around} {E : Value → Shared → Prop}
end

/-! ### readings and rules -/
/-- the element of a subscription, not a slice -/
def NoSl (i : Expr) : Prop := ∀ ov iv, subscripted i false ov iv = operate [ov, iv] (getItem ov iv)
theorem subD_of {prog : Program} {w : World} {A : Around} {E : Value → Shared → Prop} {s : Shared} {env : Env} {value slice : Expr} {pos : Pos} {T id : String} {Q : Value → Shared → Prop}
    (hl : typeLookup (.type T) "__getitem__" = pure (some (.builtin id))) (hs : NoSl slice)
    (h : wpAny (model prog w) A (eval value env) (fun o s₁ => wpAny (model prog w) A (eval slice env) (fun i s₂ => s₂.TypeIs o T ∧ wpAny (model prog w) A (getItem o i) Q E s₂) E s₁) E s) :
    wpAny (model prog w) A (eval (.Subscript value slice pos) env) Q E s := by
  refine Subscript_ (wpAny_mono h (fun o s₁ h₁ => wpAny_mono h₁ (fun i s₂ h₂ => ?_) fun _ _ x => x) fun _ _ x => x)
  obtain ⟨hT, h₂⟩ := h₂
  unfold subscriptTail
  refine wpAny_bind ?_
  rw [getitemInPython_of_ne hT.not_modules]
  refine wpAny_bind (wpAny_specialOf hT hl ?_)
  have fin : wpAny (model prog w) A (subscripted slice false o i) (fun r s₃ => wpAny (model prog w) A (letTemporaryGo value o r >>= fun _ => pure r) Q E s₃) E s₂ := by
    rw [hs o i]
    exact wpAny_operating (wpAny_mono h₂ (fun r s₃ h₃ => wpAny_bind (wpAny_letTemporaryGo (wpAny_pure h₃))) fun _ _ x => x)
  first
    | exact wpAny_pure (wpAny_bind fin)
    | exact wpAny_bind (wpAny_pure (wpAny_bind fin))
    | exact wpAny_bind fin

theorem dict_typeIs {X : Cx} {pins : List (Addr × Obj)} {σ : St} {H : Hp} {s : Shared} {a : Addr} {y : V} {o : Option V} (I : Inv X pins σ H s) (g : DGet H a y o) : s.TypeIs (.ref a) "dict" := by
  rcases g with ⟨kvs, k, e, _, _⟩ | ⟨kvs, k, b, e, _, _, _⟩
  · obtain ⟨_, _, vs, _, dd⟩ := dk_rd I.hok e
    exact dd.typeIs
  · obtain ⟨_, _, xs, _, dd⟩ := dt_rd I.hok e
    exact dd.typeIs
/-- d[y] -/
def tDGet (td ty : TE) : TE := fun σ H Q => td σ H fun x H1 => ty σ H1 fun y H2 => ∃ a v, x = .ref a ∧ DGet H2 a y (some v) ∧ Q v H2
/-- y in d, y not in d -/
def tDIn (ty td : TE) : TE := fun σ H Q => ty σ H fun y H1 => td σ H1 fun x H2 => ∃ a o, x = .ref a ∧ DGet H2 a y o ∧ Q (.bl o.isSome) H2
def tDNotIn (ty td : TE) : TE := fun σ H Q => ty σ H fun y H1 => td σ H1 fun x H2 => ∃ a o, x = .ref a ∧ DGet H2 a y o ∧ Q (.bl (!o.isSome)) H2
/-- d[y] = v -/
def sDPut (td ty tv : TE) : TS := fun D σ H => tv σ H fun v H1 => td σ H1 fun x H2 => ty σ H2 fun y H3 => ∃ a H4, x = .ref a ∧ DPut H3 a y v H4 ∧ D.nx σ H4
/-- d[y] op= v -/
def sDAug (td ty tv : TE) (rd : V → V → Hp → VK → Prop) : TS := fun D σ H => td σ H fun x H1 => ty σ H1 fun y H2 => ∃ a v, x = .ref a ∧ DGet H2 a y (some v) ∧
  tv σ H2 fun y2 H3 => rd v y2 H3 fun z H4 => ∃ H5, DPut H4 a y z H5 ∧ D.nx σ H5
/-- del d[y] -/
def sDDel (td ty : TE) : TS := fun D σ H => td σ H fun x H1 => ty σ H1 fun y H2 => ∃ a kvs k, x = .ref a ∧ H2 a = some (.dK kvs) ∧ y = kV k ∧ (valV kvs k).isSome = true ∧ D.nx σ (upd H2 a (.dK (dropK kvs k)))

section
variable {X : Cx} {o i e value : Expr} {pos pos' tpos : Pos} {td ty tv : TE}
theorem pe_dget (hu : X.A.units + 1 < cLine) (ho : PE X o td) (hi : PE X i ty) (hs : NoSl i) : PE X (.Subscript o i pos) (tDGet td ty) := by
  intro pins s σ H Q I h
  refine subD_of PySem.F.slot_dict_getitem.lookup hs (thn (ho pins s σ H _ I h) fun u s1 ⟨x, H1, I1, rx, q1⟩ => thn (hi pins s1 σ H1 _ I1 q1) fun iv s2 ⟨y, H2, I2, ry, a, v, ex, g, q2⟩ => ?_)
  subst ex
  obtain rfl : u = Value.ref a := rx
  exact ⟨dict_typeIs I2 g, d_getItem hu I2 g ry fun w' s3 I3 rw' => ⟨v, H2, I3, rw', q2⟩⟩
theorem pc_din (hu : X.A.units + 1 < cLine) (hi : PE X i ty) (ho : PE X o td) : PC X .In i o (tDIn ty td) := by
  intro pins s σ H Q I h
  refine thn (hi pins s σ H _ I h) fun iv s1 ⟨y, H1, I1, ry, q1⟩ => thn (ho pins s1 σ H1 _ I1 q1) fun u s2 ⟨x, H2, I2, rx, a, ov, ex, g, q2⟩ => ?_
  subst ex
  obtain rfl : u = Value.ref a := rx
  exact d_in hu I2 g ry fun s3 I3 => ⟨.bl ov.isSome, H2, I3, rfl, q2⟩
theorem pc_dnotin (hu : X.A.units + 1 < cLine) (hi : PE X i ty) (ho : PE X o td) : PC X .NotIn i o (tDNotIn ty td) := by
  intro pins s σ H Q I h
  refine thn (hi pins s σ H _ I h) fun iv s1 ⟨y, H1, I1, ry, q1⟩ => thn (ho pins s1 σ H1 _ I1 q1) fun u s2 ⟨x, H2, I2, rx, a, ov, ex, g, q2⟩ => ?_
  subst ex
  obtain rfl : u = Value.ref a := rx
  exact d_notIn hu I2 g ry fun s3 I3 => ⟨.bl (!ov.isSome), H2, I3, rfl, q2⟩
theorem ps_dput (hu : X.A.units + 1 < cLine) (ho : PE X o td) (hi : PE X i ty) (hv : PE X value tv) (hs : swapsWith value (some (.Subscript o i pos')) pos.line X.env = pure false) :
    PS X (.Assign [.Subscript o i pos'] value pos) (sDPut td ty tv) := by
  intro pins s σ H D I h
  refine wpAny_Assign_Subscript (thn (hv pins s σ H _ I h) fun r s1 ⟨v, H1, I1, rv, q1⟩ => thn (ho pins s1 σ H1 _ I1 q1) fun u s2 ⟨x, H2, I2, rx, q2⟩ => thn (hi pins s2 σ H2 _ I2 q2) fun iv s3 ⟨y, H3, I3, ry, a, H4, ex, g, q3⟩ => ?_) hs
  subst ex
  obtain rfl : u = Value.ref a := rx
  exact d_setItem hu I3 g ry rv fun s4 I4 => ⟨σ, H4, I4, q3⟩
end

/-! ### displays -/
theorem dk_empty {P : Program} {w : World} {H : Hp} (h : Heap) (hb : sysModules < h.objs.size) : ObjOk P w H (h.push { cls := .type "dict", data := .dict #[] }) h.objs.size (.dK []) :=
  ⟨Nat.zero_le _, beq_eq_false_iff_ne.mpr (Ne.symm (Nat.ne_of_lt hb)), [], .nil, Heap.DictOf.new h⟩
/-- {}, to be a dict of the kind that is wanted -/
def tDNewK : TE := fun _ H Q => ∀ p, H p = none → Q (.ref p) (upd H p (.dK []))
def tDNewT : TE := fun _ H Q => ∀ p, H p = none → Q (.ref p) (upd H p (.dT []))
section
variable {X : Cx} {pos : Pos}
theorem pe_dnewK : PE X (.Dict [] [] pos) tDNewK := fun pins s σ H Q I h =>
  wpAny_Dict_empty ⟨.ref s.heap.objs.size, _, I.laid (a := s.heap.objs.size) (o := .dK []) (t' := s.toks) (fun _ _ q => Heap.get?_push_of_some _ q) (Nat.le_refl _) (dk_empty s.heap I.big), rfl, h _ (I.hok.fresh (Nat.le_refl _))⟩
end

/-- the pairs of a display, from the left -/
def tPairs : List (TE × TE) → St → Hp → (List (V × V) → Hp → Prop) → Prop
  | [], _, H, Q => Q [] H
  | (tk, tv) :: r, σ, H, Q => tk σ H fun x H1 => tv σ H1 fun y H2 => tPairs r σ H2 fun ps H3 => Q ((x, y) :: ps) H3
abbrev VV : List (V × V) → List (Value × Value) → Prop := Paired fun p q => RelV p.1 q.1 ∧ RelV p.2 q.2
def PPs (X : Cx) (pos : Pos) (keys : List (Option Expr)) (values : List Expr) (trs : List (TE × TE)) : Prop :=
  ∀ (pins : List (Addr × Obj)) (s : Shared) (σ : St) (H : Hp) (Q : List (V × V) → Hp → Prop), Inv X pins σ H s → tPairs trs σ H Q →
    wpAny (model X.prog X.w) X.A (evalPairs (pairTrees keys values X.env pos)) (fun vs s' => ∃ ps H', Inv X pins σ H' s' ∧ VV ps vs ∧ Q ps H') X.xe s
theorem pps_nil {X : Cx} {pos : Pos} : PPs X pos [] [] [] := fun pins s σ H Q I h => pairTrees_nil_walk ⟨[], H, I, .nil, h⟩
theorem pps_cons {X : Cx} {pos : Pos} {k v : Expr} {ks : List (Option Expr)} {vs : List Expr} {tk tv : TE} {trs : List (TE × TE)} (hk : PE X k tk) (hv : PE X v tv) (hr : PPs X pos ks vs trs) :
    PPs X pos (some k :: ks) (v :: vs) ((tk, tv) :: trs) := fun pins s σ H Q I h =>
  pairTrees_cons_walk (thn (hk pins s σ H _ I h) fun u s1 ⟨x, H1, I1, rx, q1⟩ => thn (hv pins s1 σ H1 _ I1 q1) fun w2 s2 ⟨y, H2, I2, ry, q2⟩ =>
    thn (hr pins s2 σ H2 _ I2 q2) fun ws s3 ⟨ps, H3, I3, rel, q3⟩ => ⟨(x, y) :: ps, H3, I3, .cons ⟨rx, ry⟩ rel, q3⟩)

def mergeK (kvs more : List (Key × V)) : List (Key × V) := more.foldl (fun acc kv => putK acc kv.1 kv.2) kvs
theorem KV.merge : ∀ {more : List (Key × V)} {rs : List (Key × Value)} {kvs : List (Key × V)} {vs : List (Key × Value)}, KV more rs → KV kvs vs → KV (mergeK kvs more) (merged vs rs) := by
  intro more rs kvs vs r
  unfold KV at r
  induction r generalizing kvs vs with
  | nil => intro q; exact q
  | @cons p q ps qs h t ih =>
    intro r0
    have e : KV (putK kvs p.1 p.2) (stored vs q.1 q.2) := by
      have := r0.put p.1 h.2
      rw [← h.1]; exact this
    exact ih e
theorem length_mergeK : ∀ (more kvs : List (Key × V)), (mergeK kvs more).length ≤ kvs.length + more.length
  | [], kvs => by show kvs.length ≤ kvs.length + 0; omega
  | p :: r, kvs => by
    have h1 := length_mergeK r (putK kvs p.1 p.2)
    have h2 := length_putK kvs p.1 p.2
    show (mergeK (putK kvs p.1 p.2) r).length ≤ _
    rw [List.length_cons]; omega
theorem carries_of {P : Program} {w : World} : ∀ {kvs : List (Key × V)} {ws : List (Value × Value)}, VV (kvs.map fun kv => (kV kv.1, kv.2)) ws → ∃ rs, Carries (mixKind P w) ws rs ∧ KV kvs rs
  | [], _, r => by rw [List.map_nil] at r; cases r; exact ⟨[], True.intro, .nil⟩
  | p :: kvs, _, r => by
    rw [List.map_cons] at r
    cases r with
    | @cons a b as bs h t =>
      obtain ⟨rs, c, q⟩ := carries_of (P := P) (w := w) t
      obtain ⟨b1, b2⟩ := b
      exact ⟨(p.1, b2) :: rs, ⟨kV_is h.1, rfl, c⟩, .cons ⟨rfl, h.2⟩ q⟩
/-- {k: v, ..} with keys ints and texts; the new dict stands empty while the pairs are made -/
def tDisp (trs : List (TE × TE)) : TE := fun σ H Q => ∀ p, H p = none → tPairs trs σ (upd H p (.dK [])) fun ps H2 => H2 p = some (.dK []) ∧ ∃ kvs : List (Key × V), ps = kvs.map (fun kv => (kV kv.1, kv.2)) ∧ kvs.length ≤ 15 ∧ Q (.ref p) (upd H2 p (.dK (mergeK [] kvs)))
theorem pe_disp {X : Cx} {pos : Pos} {keys : List (Option Expr)} {values : List Expr} {trs : List (TE × TE)} (h : PPs X pos keys values trs) (hall : keys.all (·.isSome) = true) (hl : keys.length = values.length) (h0 : keys ≠ [])
    (h15 : keys.length ≤ 15) : PE X (.Dict keys values pos) (tDisp trs) := by
  intro pins s σ H Q I q
  have hn := I.hok.fresh (Nat.le_refl s.heap.objs.size)
  have I1 := I.laid (a := s.heap.objs.size) (o := .dK []) (h' := s.heap.push { cls := .type "dict", data := .dict #[] }) (t' := s.toks) (fun _ _ q => Heap.get?_push_of_some _ q) (Nat.le_refl _) (dk_empty s.heap I.big)
  refine wpAny_Dict_walk (knd := mixKind X.prog X.w) hall hl h0 h15 (thn (h pins _ σ _ _ I1 (q _ hn)) fun ws s2 ⟨ps, H2, I2, rel, e, kvs, ep, lk, q2⟩ => ?_)
  subst ep
  obtain ⟨rs, c, rk⟩ := carries_of (P := X.prog) (w := X.w) rel
  obtain ⟨z, hd, vs0, r0, dd⟩ := dk_of I2.hok e
  cases r0
  refine ⟨rs, c, dd, fun h' dd' hs => ⟨.ref s.heap.objs.size, _, ?_, rfl, q2⟩⟩
  have hz : (mergeK [] kvs).length ≤ sizeLine := by
    have h1 := length_mergeK kvs []
    rw [List.length_nil] at h1
    rw [sizeLine_eq]; omega
  have he : ∃ q, h'.get? s.heap.objs.size = some q := let ⟨q, _, _, hq, _⟩ := dd'; ⟨q, hq⟩
  exact d_write I2 (by rw [e]; exact True.intro) hs he (dk_new hz hd (rk.merge .nil) dd')

/-! ### methods -/
/-- a method call o.m(e) of a built-in, with one argument: what must be seen of the text -/
structure M1 (X : Cx) (o : Expr) (m : Str) (apos : Pos) (e : Expr) (cpos : Pos) : Prop where
  base : attributeBase o m X.env (eval o X.env) = eval o X.env
  few : ((backTo cpos (starEach [e] X.env)).all (fun x => !x.1) && (backToKw cpos (keywordEach [] X.env)).all (fun x => x.1.isSome)
    && decide (([e] : List Expr).length + ([] : List Keyword).length + (if ([] : List Keyword).isEmpty then 0 else 1) < 30)) = true
  line : (apos.endLine == cpos.line) = true
  trees : backTo cpos (starEach [e] X.env) = [(false, eval e X.env)]
structure M2 (X : Cx) (o : Expr) (m : Str) (apos : Pos) (e f : Expr) (cpos : Pos) : Prop where
  base : attributeBase o m X.env (eval o X.env) = eval o X.env
  few : ((backTo cpos (starEach [e, f] X.env)).all (fun x => !x.1) && (backToKw cpos (keywordEach [] X.env)).all (fun x => x.1.isSome)
    && decide (([e, f] : List Expr).length + ([] : List Keyword).length + (if ([] : List Keyword).isEmpty then 0 else 1) < 30)) = true
  line : (apos.endLine == cpos.line) = true
  trees : backTo cpos (starEach [e, f] X.env) = [(false, eval e X.env), (false, eval f X.env)]

/-- a is a dict, whatever its keys -/
def IsD (H : Hp) (a : Addr) : Prop := (∃ kvs, Rd H a (.dK kvs)) ∨ ∃ kvs, Rd H a (.dT kvs)
theorem isD_at {X : Cx} {pins : List (Addr × Obj)} {σ : St} {H : Hp} {s : Shared} {a : Addr} (I : Inv X pins σ H s) (d : IsD H a) :
    s.TypeIs (.ref a) "dict" ∧ (∀ b, Value.ref a = .ref b → ∃ ob, s.heap.get? b = some ob ∧ ob.dict = none) ∧ (a == sysModules) = false := by
  rcases d with ⟨kvs, e⟩ | ⟨kvs, e⟩
  · obtain ⟨_, hd, vs, _, dd⟩ := dk_rd I.hok e
    refine ⟨dd.typeIs, fun b q => ?_, hd⟩
    cases q
    obtain ⟨ob, _, _, h1, h2, _⟩ := dd
    exact ⟨ob, h1, h2.2.1⟩
  · obtain ⟨_, hd, xs, _, dd⟩ := dt_rd I.hok e
    refine ⟨dd.typeIs, fun b q => ?_, hd⟩
    cases q
    obtain ⟨ob, _, _, h1, h2, _⟩ := dd
    exact ⟨ob, h1, h2.2.1⟩

section
variable {X : Cx} {pins : List (Addr × Obj)} {σ : St} {H : Hp} {s : Shared} {a : Addr} {y d : V} {u r : Value} {o : Option V} {A : Around} {E : Value → Shared → Prop}
/-- d.get(y) -/
theorem d_get1 {Q : Value → Shared → Prop} (hu : A.units + 1 < cLine) (I : Inv X pins σ H s) (g : DGet H a y o) (ry : RelV y u) (h : ∀ w' s', Inv X pins σ H s' → RelV (o.getD .non) w' → Q w' s') :
    wpAny (model X.prog X.w) A (call (.builtin "dict.get") [.ref a, u]) Q E s := by
  rcases g with ⟨kvs, k, e, ey, l⟩ | ⟨kvs, k, b, e, ey, eb, l⟩
  · subst ey
    obtain ⟨z, hd, vs, rel, dd⟩ := dk_rd I.hok e
    refine call_meetsIn PySem.F.slot_dict_get dd.typeIs PySem.F.entry_dict_get (PySem.F.args_dict_get_2 _ _) (meets_dict_get (mixKind X.prog X.w) a (kV_is ry) hd) ⟨_, dd.mapOf, h _ _ (I.tok _) ?_⟩
    rw [l]
    exact (rel.val k).getD rfl
  · subst ey
    cases (show u = Value.ref b from ry)
    obtain ⟨z, hd, xs, rel, dd⟩ := dt_rd I.hok e
    refine call_meetsIn PySem.F.slot_dict_get dd.typeIs PySem.F.entry_dict_get (PySem.F.args_dict_get_2 _ _) (meetsH_dict_get (tupleKind (mixKind X.prog X.w)) a b hd) ⟨tupleKind_room_in1 hu, k, xs, key_of I.hok eb, dd, h _ _ (I.tok _) ?_⟩
    rw [l]
    exact (rel.val k).getD rfl
end

def tDGet1 (td ty : TE) : TE := fun σ H Q => td σ H fun x H1 => ∃ a, x = .ref a ∧ IsD H1 a ∧ ty σ H1 fun y H2 => ∃ o, DGet H2 a y o ∧ Q (o.getD .non) H2
def tDGet2 (td ty tx : TE) : TE := fun σ H Q => td σ H fun x H1 => ∃ a, x = .ref a ∧ IsD H1 a ∧ ty σ H1 fun y H2 => tx σ H2 fun z H3 => ∃ o, DGet H3 a y o ∧ Q (o.getD z) H3
/-- d.pop(k): there; d.pop(k, x): there or not -/
def tDPop1 (td ty : TE) : TE := fun σ H Q => td σ H fun x H1 => ∃ a, x = .ref a ∧ IsD H1 a ∧ ty σ H1 fun y H2 => ∃ kvs k v, H2 a = some (.dK kvs) ∧ y = kV k ∧ valV kvs k = some v ∧ Q v (upd H2 a (.dK (dropK kvs k)))
def tDPop2 (td ty tx : TE) : TE := fun σ H Q => td σ H fun x H1 => ∃ a, x = .ref a ∧ IsD H1 a ∧ ty σ H1 fun y H2 => tx σ H2 fun z H3 => ∃ kvs k, H3 a = some (.dK kvs) ∧ y = kV k ∧
  (∀ v, valV kvs k = some v → Q v (upd H3 a (.dK (dropK kvs k)))) ∧ (valV kvs k = none → Q z H3)
section
variable {X : Cx} {o e f : Expr} {apos cpos : Pos} {td ty tx : TE}
theorem pe_dget1 (hu : X.A.units + 1 < cLine) (ho : PE X o td) (he : PE X e ty) (m : M1 X o "get" apos e cpos) : PE X (.Call (.Attribute o "get" apos) [e] [] cpos) (tDGet1 td ty) := by
  intro pins s σ H Q I h
  refine wpAny_Call_method m.base m.few m.line PySem.F.plainAttrs_dict PySem.F.slot_dict_get PySem.F.type_dict_get (thn (ho pins s σ H _ I h) fun u s1 ⟨x, H1, I1, rx, a, ex, d, q1⟩ => ?_)
  subst ex
  obtain rfl : u = Value.ref a := rx
  obtain ⟨t1, t2, _⟩ := isD_at I1 d
  refine ⟨t1, t2, ?_⟩
  rw [m.trees]
  refine Calls.callWith_builtin rfl (Calls.evalArgs_plain (Calls.spliced_cons (thn (he pins s1 σ H1 _ I1 q1) fun iv s2 ⟨y, H2, I2, ry, ov, g, q2⟩ => Calls.spliced_nil ?_)))
  exact d_get1 hu I2 g ry fun w' s3 I3 rw' => ⟨_, H2, I3, rw', q2⟩
end

/-! ### dict(d): a copy -/
section
variable {X : Cx} {pins : List (Addr × Obj)} {σ : St} {H : Hp} {s : Shared} {a : Addr} {kvs : List (Key × V)} {A : Around} {E : Value → Shared → Prop}
end

section
variable {X : Cx} {pins : List (Addr × Obj)} {σ : St} {H : Hp} {s : Shared} {a : Addr} {y : V} {u : Value} {A : Around} {E : Value → Shared → Prop}
end
end L2

namespace L2
open PySem PySem.Spec PyProof.Rows
section
variable {X : Cx}
end
/-! ### a dict's pairs: keys that differ -/
section
variable {κ : Type} [DecidableEq κ]
end

end L2

set_option Elab.async false
set_option linter.all false
set_option maxRecDepth 100000
namespace L2
open PySem PySem.Spec PyProof.Rows
/-! ### d.update(another dict) -/
def tDUpd (td ty : TE) : TE := fun σ H Q => td σ H fun x H1 => ∃ a, x = .ref a ∧ IsD H1 a ∧ ty σ H1 fun y H2 => ∃ b kvs more, y = .ref b ∧ a ≠ b ∧ H2 a = some (.dK kvs) ∧ H2 b = some (.dK more) ∧ kvs.length + more.length ≤ sizeLine ∧ Q .non (upd H2 a (.dK (mergeK kvs more)))
section
variable {X : Cx} {o e : Expr} {apos cpos : Pos} {td ty : TE}
theorem pe_dupd (ho : PE X o td) (he : PE X e ty) (m : M1 X o "update" apos e cpos) : PE X (.Call (.Attribute o "update" apos) [e] [] cpos) (tDUpd td ty) := by
  intro pins s σ H Q I h
  refine wpAny_Call_method m.base m.few m.line PySem.F.plainAttrs_dict PySem.F.slot_dict_update PySem.F.type_dict_update (thn (ho pins s σ H _ I h) fun u s1 ⟨x, H1, I1, rx, a, ex, d, q1⟩ => ?_)
  subst ex
  obtain rfl : u = Value.ref a := rx
  obtain ⟨t1, t2, _⟩ := isD_at I1 d
  refine ⟨t1, t2, ?_⟩
  rw [m.trees]
  refine Calls.callWith_builtin rfl (Calls.evalArgs_plain (Calls.spliced_cons (thn (he pins s1 σ H1 _ I1 q1) fun iv s2 ⟨y, H2, I2, ry, b, kvs, more, ey, hab, e1, e2, hz, q2⟩ => Calls.spliced_nil ?_)))
  subst ey
  obtain rfl : iv = Value.ref b := ry
  obtain ⟨z, hd, vs, rel, dd⟩ := dk_of I2.hok e1
  obtain ⟨z', hd', vs', rel', dd'⟩ := dk_of I2.hok e2
  refine call_meetsIn PySem.F.slot_dict_update dd.typeIs PySem.F.entry_dict_update (PySem.F.args_dict_update_2 _ _) (meets_dict_update (mixKind X.prog X.w) a b hab hd') ⟨vs, vs', dd, dd', by rw [← rel.length, ← rel'.length]; exact hz, fun h' d1 d2 hs => ?_⟩
  have rm := KV.merge rel' rel
  have hl : (mergeK kvs more).length ≤ sizeLine := by
    rw [rm.length]
    refine Nat.le_trans (merged_length_le vs vs') ?_
    rw [← rel.length, ← rel'.length]
    exact hz
  exact ⟨.non, _, d_write (t' := s2.toks) I2 (by rw [e1]; exact True.intro) hs (let ⟨q, _, _, hq, _⟩ := d1; ⟨q, hq⟩) (dk_new hl hd rm d1), rfl, q2⟩
end
end L2

set_option Elab.async false
set_option linter.all false
set_option maxRecDepth 100000
namespace L2
open PySem PySem.Spec PyProof.Rows
/-! ### list(enumerate(a text)) -/
theorem ad_ne {a b T : Nat} (h : a < b) (hT : b ≤ T) : T ≠ a := by omega
abbrev EnX (h : Heap) (e it : Addr) (i : Int) (T0 : Addr) (f : Bool) (old : Value) : Prop :=
  h.get? e = some { cls := .type "enumerate", dict := none, data := .fields #[rawInt T0, .bool f, .ref it, rawInt i, .none, old], slots := #[] }
theorem enum_nolen : typeLookup (.type "enumerate") "__len__" = pure none := by rw [typeLookup_type, builtinLookup_eq_fast]; kernel_rfl
theorem enum_nohint : typeLookup (.type "enumerate") "__length_hint__" = pure none := by rw [typeLookup_type, builtinLookup_eq_fast]; kernel_rfl
section
variable {prog : Program} {w : World} {A : Around} {E : Value → Shared → Prop} {s : Shared}
/-- the next pair, where the first one is still held -/
theorem enum_next_out {e it T0 : Addr} {fp : List Addr} {n i : Nat} {P : Nat → Value → Prop} {St : Nat → Heap → Prop} {f : Bool} {old : Value} {o0 : Obj} {Q : Option Value → Shared → Prop}
    (D : Draws prog w A.in1 it fp n P St) (he : EnX s.heap e it i T0 f old) (h0 : s.heap.get? T0 = some o0) (h0e : T0 ≠ e) (h0i : T0 ≠ it) (hst : St i s.heap) (hlt : i < n) (hne : e ≠ it) (hef : e ∉ fp)
    (hQ : ∀ x h' tk, P i x → EnX h' e it ((i : Int) + 1) T0 true old → St (i + 1) h' →
      h'.get? s.heap.objs.size = some { cls := .type "tuple", data := .seq #[.int i tk, x] } → h'.objs.size = s.heap.objs.size + 1 →
      (∀ b o, b ≠ e → b ≠ it → s.heap.get? b = some o → h'.get? b = some o) → Q (some (.ref s.heap.objs.size)) { s with heap := h', toks := tk + 1 }) :
    wpAny (model prog w) A (pyNext (.ref e)) Q E s := by
  have hT : s.TypeIs (.ref e) "enumerate" := ⟨_, he, rfl⟩
  unfold pyNext
  refine wpAny_bind (wpAny_attempt (wpAny_callSpecial?_slot (name := Str.ofString "__next__") hT F.slot_enumerate_next
    (wpAny_call_entry F.slot_enumerate_next hT F.entry_enumerate_next ?_ (F.args_enumerate_next_1 _))))
  clear hT
  obtain ⟨hp, g, d, tk₀, os⟩ := s
  show wpAny _ _ (field (.ref e) 2 >>= _) _ _ _
  refine wpAny_bind (wpAny_field he rfl (x := .ref it) rfl ?_)
  refine wpAny_bind (D.item i _ _ _ hlt hst fun x h₁ tk hPx hit₁ hs₁ => ?_)
  replace hs₁ : Heap.SameBut it hp h₁ := hs₁
  have he₁ : EnX h₁ e it i T0 f old := (hs₁.2 e hne).trans he
  show wpAny _ _ (field (.ref e) 3 >>= _) _ _ ⟨h₁, g, d, tk, os⟩
  refine wpAny_bind (wpAny_field he₁ rfl (x := rawInt i) rfl ?_)
  show wpAny _ _ (field (.ref e) 4 >>= _) _ _ ⟨h₁, g, d, tk, os⟩
  refine wpAny_bind (wpAny_field he₁ rfl (x := .none) rfl ?_)
  show wpAny _ _ (mkInt i >>= _) _ _ ⟨h₁, g, d, tk, os⟩
  refine wpAny_bind (wpAny_mkInt ?_)
  show wpAny _ _ (setField (.ref e) 3 (rawInt ((i : Int) + 1)) >>= _) _ _ ⟨h₁, g, d, tk + 1, os⟩
  refine wpAny_bind (wpAny_setField_rec he₁ (by simp) fun h₂ he₂ hs₂ => ?_)
  replace hs₂ : Heap.SameBut e h₁ h₂ := hs₂
  replace he₂ : EnX h₂ e it ((i : Int) + 1) T0 f old := he₂
  show wpAny _ _ (setField (.ref e) 4 .none >>= _) _ _ ⟨h₂, g, d, tk + 1, os⟩
  refine wpAny_bind (wpAny_setField_rec he₂ (by simp) fun h₃ he₃ hs₃ => ?_)
  replace hs₃ : Heap.SameBut e h₂ h₃ := hs₃
  replace he₃ : EnX h₃ e it ((i : Int) + 1) T0 f old := he₃
  show wpAny _ _ (newTuple [.int i tk, x] >>= _) _ _ ⟨h₃, g, d, tk + 1, os⟩
  refine wpAny_bind (wpAny_newTuple ?_)
  have he₄ : EnX (h₃.push { cls := .type "tuple", data := .seq #[.int i tk, x] }) e it ((i : Int) + 1) T0 f old := Heap.get?_push_of_some _ he₃
  generalize hh₄ : h₃.push { cls := .type "tuple", data := .seq #[.int i tk, x] } = h₄ at he₄
  have hsz : h₃.objs.size = hp.objs.size := by rw [hs₃.1, hs₂.1, hs₁.1]
  have hel : e < hp.objs.size := Heap.lt_size he
  have ht₄ : h₄.get? hp.objs.size = some { cls := .type "tuple", data := .seq #[.int i tk, x] } := by rw [← hh₄, ← hsz]; exact Heap.get?_push_size _ rfl
  have hz₄ : h₄.objs.size = hp.objs.size + 1 := by rw [← hh₄, Heap.size_push, hsz]
  have hk₄ : ∀ b o, b ≠ e → b ≠ it → hp.get? b = some o → h₄.get? b = some o := fun b o hbe hbi hb => by
    rw [← hh₄]; exact Heap.get?_push_of_some _ (hs₃.extBut b o hbe (hs₂.extBut b o hbe (hs₁.extBut b o hbi hb)))
  have hit₄ : St (i + 1) h₄ := D.frame _ _ _ hit₁ fun b hb o y => by
    have hbe : b ≠ e := fun q => hef (q ▸ hb)
    rw [← hh₄]; exact Heap.get?_push_of_some _ (hs₃.extBut b o hbe (hs₂.extBut b o hbe y))
  have ha₄ : h₄.get? T0 = some o0 := hk₄ T0 o0 h0e h0i h0
  show wpAny _ _ (Builtin.SmallTypes.ownedTupleIsFree (.ref e) >>= _) _ _ ⟨h₄, g, d, tk + 1, os⟩
  rw [hsz]
  clear hh₄ he₃ hs₃ he₂ hs₂ he₁ hs₁ hit₁ hsz h₃ h₂ h₁
  have fin : ∀ h₅ : Heap, EnX h₅ e it ((i : Int) + 1) T0 true old → Heap.SameBut e h₄ h₅ → Q (some (.ref hp.objs.size)) ⟨h₅, g, d, tk + 1, os⟩ := fun h₅ he₅ hs₅ =>
    hQ x h₅ tk hPx he₅ (D.frame _ _ _ hit₄ fun b hb o y => hs₅.extBut b o (fun q => hef (q ▸ hb)) y) (hs₅.extBut _ _ (Nat.ne_of_gt hel) ht₄) (by show h₅.objs.size = hp.objs.size + 1; rw [hs₅.1, hz₄])
      fun b o hbe hbi hb => hs₅.extBut b o hbe (hk₄ b o hbe hbi hb)
  refine wpAny_bind ?_
  unfold Builtin.SmallTypes.ownedTupleIsFree
  refine wpAny_bind (wpAny_field he₄ rfl (x := rawInt T0) rfl ?_)
  show wpAny _ _ (loadIfAlive ((T0 : Int).toNat) >>= _) _ _ _
  rw [Int.toNat_natCast]
  refine wpAny_bind (PySem.W.kdx_alive ha₄ ?_)
  simp only [Option.isNone_some, Bool.false_eq_true, if_false]
  refine wpAny_bind (wpAny_field he₄ rfl (x := .bool f) rfl ?_)
  cases f with
  | true =>
    rw [if_neg (show ¬ ((Value.bool true != Value.bool true) = true) from Bool.false_ne_true)]
    refine wpAny_pure ?_
    simp only [Bool.false_eq_true, if_false]
    exact wpAny_pure ⟨_, rfl, wpAny_pure (fin h₄ he₄ (Heap.SameBut.refl _ _))⟩
  | false =>
    rw [if_pos (show (Value.bool false != Value.bool true) = true from rfl)]
    refine wpAny_bind (wpAny_setField_rec he₄ (by simp) fun h₅ he₅ hs₅ => ?_)
    replace hs₅ : Heap.SameBut e h₄ h₅ := hs₅
    replace he₅ : EnX h₅ e it ((i : Int) + 1) T0 true old := he₅
    refine wpAny_pure ?_
    simp only [Bool.false_eq_true, if_false]
    exact wpAny_pure ⟨_, rfl, wpAny_pure (fin h₅ he₅ hs₅)⟩
theorem enum_end_out {e it T0 : Addr} {fp : List Addr} {n : Nat} {P : Nat → Value → Prop} {St : Nat → Heap → Prop} {i : Int} {f : Bool} {old : Value} {Q : Option Value → Shared → Prop}
    (D : Draws prog w A.in1 it fp n P St) (he : EnX s.heap e it i T0 f old) (hst : St n s.heap)
    (hQ : ∀ h', Heap.ExtBut it s.heap h' → Q none { s with heap := h' }) : wpAny (model prog w) A (pyNext (.ref e)) Q E s := by
  have hT : s.TypeIs (.ref e) "enumerate" := ⟨_, he, rfl⟩
  unfold pyNext
  refine wpAny_bind (wpAny_attempt (wpAny_callSpecial?_slot (name := Str.ofString "__next__") hT F.slot_enumerate_next
    (wpAny_call_entry F.slot_enumerate_next hT F.entry_enumerate_next ?_ (F.args_enumerate_next_1 _))))
  show wpAny _ _ (field (.ref e) 2 >>= _) _ _ _
  refine wpAny_bind (wpAny_field he rfl (x := .ref it) rfl ?_)
  refine wpAny_bind (D.done _ _ _ hst fun h' x he' hx' => ?_)
  obtain ⟨o, ho, hc⟩ := hx'
  refine wpAny_bind (wpAny_isInstance (T := "StopIteration") (b := true) ⟨o, ho, hc⟩ isSubtype_stop ?_)
  exact wpAny_pure (hQ _ he')
/-- where the walk stands: the pairs made so far -/
structure EL (P : Nat → Value → Prop) (St : Nat → Heap → Prop) (e it M B : Addr) (s0 : Shared) (i : Nat) (Ts : List Addr) (s : Shared) : Prop where
  st : St i s.heap
  en : (i = 0 ∧ IsEnum s.heap e it 0 .none) ∨ ∃ T0 f old, EnX s.heap e it i T0 f old ∧ Ts[0]? = some T0
  acc : ∃ c, s.heap.get? M = some { cls := .type "list", dict := none, data := .seq (Ts.map Value.ref).toArray c, slots := #[] }
  len : Ts.length = i
  tup : ∀ (j : Nat) (T : Addr), Ts[j]? = some T → B ≤ T ∧ T < s.heap.objs.size ∧ ∃ t x, P j x ∧ s.heap.get? T = some { cls := .type "tuple", data := .seq #[.int (j : Int) t, x] }
  nd : Ts.Nodup
  big : B ≤ s.heap.objs.size
  old : ∀ b o, b ≠ e → b ≠ it → b ≠ M → s0.heap.get? b = some o → s.heap.get? b = some o
  rest : ∃ h tk, s = { s0 with heap := h, toks := tk }
theorem enum_loop {e it M B : Addr} {fp : List Addr} {n : Nat} {P : Nat → Value → Prop} {St : Nat → Heap → Prop} {s0 : Shared} {R : Result → Shared → Prop} {res : Value}
    (D : Draws prog w A.in1.in1 it fp n P St) (hn : n ≤ sizeLine) (hne : e ≠ it) (hef : e ∉ fp) (hMf : M ∉ fp) (hMe : M ≠ e) (hMi : M ≠ it) (be : e < B) (bi : it < B) (bM : M < B)
 :
    ∀ (k i : Nat) (s : Shared) (Ts : List Addr), n - i = k → i ≤ n → EL P St e it M B s0 i Ts s →
    (∀ Ts s h', EL P St e it M B s0 n Ts s → Heap.ExtBut it s.heap h' → R (.ok (.ret res)) { s with heap := h' }) →
    codeAny (model prog w) A (.builtin "list.extend.loop" ⟨[.ref M, .ref e, res], []⟩) R s := by
  intro k
  induction k with
  | zero =>
    intro i s Ts hk hi L hR
    have hin : i = n := by omega
    subst hin
    refine codeAny_builtin F.entry_extend_loop ?_
    rw [Around.under_plainId F.plain_extend_loop _]
    show wpAny _ A.in1 (pyNext (.ref e) >>= _) _ _ s
    refine wpAny_bind ?_
    rcases L.en with ⟨h0, en⟩ | ⟨T0, f, old, en, _⟩
    · exact wpAny_pyNext_enum_endD D en L.st fun h' he => wpAny_pure (hR Ts s h' L he)
    · exact enum_end_out D en L.st fun h' he => wpAny_pure (hR Ts s h' L he)
  | succ k ih =>
    intro i s Ts hk hi L hR
    have hlt : i < n := by omega
    refine codeAny_builtin F.entry_extend_loop ?_
    rw [Around.under_plainId F.plain_extend_loop _]
    show wpAny _ A.in1 (pyNext (.ref e) >>= _) _ _ s
    obtain ⟨c, hM⟩ := L.acc
    have step : ∀ x h' tk T0 f old, P i x → EnX h' e it ((i : Int) + 1) T0 f old → (Ts ++ [s.heap.objs.size])[0]? = some T0 → St (i + 1) h' →
        h'.get? s.heap.objs.size = some { cls := .type "tuple", data := .seq #[.int i tk, x] } → h'.objs.size = s.heap.objs.size + 1 →
        (∀ b o, b ≠ e → b ≠ it → s.heap.get? b = some o → h'.get? b = some o) →
        wpAny (model prog w) A.in1 (updateSeq M (·.push (.ref s.heap.objs.size)) >>= fun _ => again (.builtin "list.extend.loop" ⟨[.ref M, .ref e, res], []⟩))
          (fun f s' => match f with | .done d => R (.ok d) s' | .again k => k.quiet = true ∧ codeAny (model prog w) A k R s') (fun e s' => R (.error e) s') { s with heap := h', toks := tk + 1 } := by
      intro x h' tk T0 f old hP en hT0 st hT hsz kk
      have hM' : h'.get? M = some { cls := .type "list", dict := none, data := .seq (Ts.map Value.ref).toArray c, slots := #[] } := kk M _ hMe hMi hM
      refine wpAny_bind ?_
      refine wpAny_updateSeq hM' rfl (wpAny_pure ⟨plainId_quiet F.plain_extend_loop _, ih (i + 1) _ (Ts ++ [s.heap.objs.size]) (by omega) hlt ?_ hR⟩) ?_ ?_
      · have oth : ∀ b o, b ≠ M → h'.get? b = some o → (h'.update M (Obj.mapSeq (·.push (.ref s.heap.objs.size)))).get? b = some o := fun b o hb y => (Heap.get?_update_other _ _ (Ne.symm hb)).trans y
        have TM : ∀ T, B ≤ T → T ≠ M ∧ T ≠ e ∧ T ≠ it := fun T h => ⟨ad_ne bM h, ad_ne be h, ad_ne bi h⟩
        have bs : B ≤ s.heap.objs.size := L.big
        have hMU := Heap.get?_update_self (Obj.mapSeq (·.push (.ref s.heap.objs.size))) hM' rfl
        refine ⟨D.frame _ _ _ st fun b hb o y => oth b o (fun z => hMf (z ▸ hb)) y, .inr ⟨T0, f, old, ?_, hT0⟩, ⟨c + 1, hMU.trans ?_⟩, by rw [List.length_append, L.len]; rfl, fun j T hj => ?_, ?_, ?_, fun b o b1 b2 b3 y => oth b o b3 (kk b o b1 b2 (L.old b o b1 b2 b3 y)), ?_⟩
        · have := oth e _ (Ne.symm hMe) en
          rw [show ((i + 1 : Nat) : Int) = (i : Int) + 1 by omega]
          exact this
        · show some _ = some _
          congr 1
          simp [Obj.mapSeq]
        · have szU : (h'.update M (Obj.mapSeq (·.push (.ref s.heap.objs.size)))).objs.size = s.heap.objs.size + 1 := by rw [Heap.size_update, hsz]
          by_cases hji : j < Ts.length
          · rw [List.getElem?_append_left hji] at hj
            obtain ⟨b1, b2, t, x', q1, q2⟩ := L.tup j T hj
            obtain ⟨n1, n2, n3⟩ := TM T b1
            exact ⟨b1, by show T < (h'.update M _).objs.size; rw [szU]; exact Nat.lt_succ_of_lt b2, t, x', q1, oth T _ n1 (kk T _ n2 n3 q2)⟩
          · have hj2 := (List.getElem?_eq_some_iff.mp hj).1
            rw [List.length_append, List.length_singleton] at hj2
            have ej : j = Ts.length := by omega
            rw [ej, List.getElem?_append_right (Nat.le_refl _), Nat.sub_self] at hj
            cases hj
            obtain ⟨n1, n2, n3⟩ := TM s.heap.objs.size bs
            refine ⟨bs, by show s.heap.objs.size < (h'.update M _).objs.size; rw [szU]; omega, tk, x, by rw [ej, L.len]; exact hP, ?_⟩
            rw [ej, L.len]
            exact oth _ _ n1 hT
        · refine List.nodup_append.mpr ⟨L.nd, by simp, fun a ha b hb => ?_⟩
          rw [List.mem_singleton.mp hb]
          obtain ⟨j, hj⟩ := List.getElem?_of_mem ha
          exact Nat.ne_of_lt (L.tup j a hj).2.1
        · show B ≤ (h'.update M _).objs.size
          rw [Heap.size_update, hsz]; exact Nat.le_succ_of_le bs
        · obtain ⟨h, tk', e⟩ := L.rest
          exact ⟨_, _, by rw [e]⟩
      · rw [List.size_toArray, List.length_map, L.len]; omega
      · show ((Ts.map Value.ref).toArray.push _).size ≤ sizeLine + 1
        rw [Array.size_push, List.size_toArray, List.length_map, L.len]; omega
    refine wpAny_bind ?_
    rcases L.en with ⟨h0, en⟩ | ⟨T0, f, old, en, ht⟩
    · subst h0
      have e0 : Ts = [] := List.length_eq_zero_iff.mp L.len
      refine wpAny_pyNext_enum_itemD (i := 0) D en L.st hlt hne hef fun x h' tk hP ho hst hT hsz kk => ?_
      exact step x h' tk _ false x hP ho (by rw [e0]; rfl) hst hT hsz kk
    · obtain ⟨b1, b2, t, x0, q1, q2⟩ := L.tup 0 T0 ht
      refine enum_next_out D en q2 (ad_ne be b1) (ad_ne bi b1) L.st hlt hne hef fun x h' tk hP ho hst hT hsz kk => ?_
      exact step x h' tk T0 true old hP ho (by rw [List.getElem?_append_left (List.getElem?_eq_some_iff.mp ht).1]; exact ht) hst hT hsz kk
end
section
variable {prog : Program} {w : World} {A : Around} {E : Value → Shared → Prop} {s : Shared} {R : Result → Shared → Prop}
theorem init_enum {e it M B : Addr} {fp : List Addr} {n : Nat} {P : Nat → Value → Prop} {St : Nat → Heap → Prop}
    (D : Draws prog w A.in1.in1 it fp n P St) (hn : n ≤ sizeLine) (hne : e ≠ it) (hef : e ∉ fp) (hMf : M ∉ fp) (hMe : M ≠ e) (hMi : M ≠ it) (be : e < B) (bi : it < B) (bM : M < B) (hB : B ≤ s.heap.objs.size)
    (st0 : St 0 s.heap) (en : IsEnum s.heap e it 0 .none) (hM : s.heap.get? M = some { cls := .type "list", data := .seq #[] })
    (fin : ∀ Ts s' h', EL P St e it M B s n Ts s' → Heap.ExtBut it s'.heap h' → R (.ok (.ret .none)) { s' with heap := h' }) :
    wpAny (model prog w) A.in1 (Builtin.«list.__init__» ⟨[.ref M, .ref e], []⟩)
      (fun f s' => match f with | .done d => R (.ok d) s' | .again k => k.quiet = true ∧ codeAny (model prog w) A k R s') (fun e s' => R (.error e) s') s := by
  show wpAny _ A.in1 (do let old ← Builtin.List.listItems (.ref M); Builtin.List.listUpdate (.ref M) (fun _ => #[]); letGo old.toList.reverse; Builtin.List.listExtendWith (.ref M) (.ref e) .none) _ _ s
  refine wpAny_bind ?_; unfold Builtin.List.listItems
  refine wpAny_bind (wpAny_seqItems hM rfl (wpAny_pure ?_))
  show wpAny _ A.in1 (updateSeq M (fun _ => #[]) >>= fun _ => letGo (#[] : Array Value).toList.reverse >>= fun _ => Builtin.List.listExtendWith (.ref M) (.ref e) .none) _ _ s
  refine wpAny_bind (wpAny_updateSeq hM rfl ?_)
  have hM2 := Heap.get?_update_self (Obj.mapSeq (fun _ => (#[] : Array Value))) hM rfl
  have off : ∀ b o, b ≠ M → s.heap.get? b = some o → (s.heap.update M (Obj.mapSeq (fun _ => (#[] : Array Value)))).get? b = some o := fun b o nb e => (Heap.get?_update_other _ _ (Ne.symm nb)).trans e
  refine wpAny_bind (wpAny_letGo ?_)
  have q1 : Builtin.List.listSameRef (.ref M) (.ref e) = false := by simp [Builtin.List.listSameRef, hMe]
  have en2 : IsEnum (s.heap.update M (Obj.mapSeq (fun _ => (#[] : Array Value)))) e it 0 .none := off _ _ (Ne.symm hMe) en
  generalize hh2 : s.heap.update M (Obj.mapSeq (fun _ => (#[] : Array Value))) = h2 at hM2 off en2 ⊢
  have sz2 : h2.objs.size = s.heap.objs.size := by rw [← hh2, Heap.size_update]
  have ty : Shared.TypeIs { s with heap := h2 } (.ref e) "enumerate" := ⟨_, en2, rfl⟩
  unfold Builtin.List.listExtendWith
  refine wpAny_bind (wpAny_typeOf ty ?_)
  rw [if_neg (by rw [q1]; decide)]
  refine wpAny_bind (wpAny_pyIter_enum en2 ?_)
  refine wpAny_bind (wpAny_holding ?_)
  unfold Builtin.List.listLengthHint
  refine wpAny_bind (wpAny_specialOf ty enum_nolen ?_)
  show wpAny _ A.in1 (specialOf (Value.ref e) (Str.ofString "__length_hint__") >>= _) _ _ _
  refine wpAny_bind (wpAny_specialOf ty enum_nohint ?_)
  refine wpAny_pure ?_
  show wpAny _ A.in1 (rule "list.extend.makes-room" >>= fun _ => Builtin.List.listTouch (.ref M) >>= fun _ =>
    again (.builtin "list.extend.loop" ⟨[.ref M, .ref e, .none], []⟩)) _ _ _
  refine wpAny_bind (wpAny_rule ?_)
  refine wpAny_bind ?_
  show wpAny _ A.in1 (updateSeq M (·.push .none) >>= fun _ => updateSeq M (·.pop)) _ _ _
  refine wpAny_bind (wpAny_updateSeq hM2 rfl ?_)
  have hM3 := Heap.get?_update_self (Obj.mapSeq (·.push Value.none)) hM2 rfl
  refine wpAny_updateSeq hM3 rfl ?_
  have hM4 := Heap.get?_update_self (Obj.mapSeq (·.pop)) hM3 rfl
  have oth : ∀ b o, b ≠ M → h2.get? b = some o → ((h2.update M (Obj.mapSeq (·.push Value.none))).update M (Obj.mapSeq (·.pop))).get? b = some o :=
    fun b o hb e => (Heap.get?_update_other _ _ (Ne.symm hb)).trans ((Heap.get?_update_other _ _ (Ne.symm hb)).trans e)
  refine wpAny_pure ⟨plainId_quiet F.plain_extend_loop _, enum_loop (s0 := s) D hn hne hef hMf hMe hMi be bi bM n 0 _ [] rfl (Nat.zero_le _) ?_ fin⟩
  refine ⟨D.frame _ _ _ st0 fun b hb o y => ?_, .inl ⟨rfl, oth _ _ (Ne.symm hMe) en2⟩, ⟨_, hM4⟩, rfl, fun j T h => by simp at h, List.Pairwise.nil, ?_, fun b o b1 b2 b3 y => oth b o b3 (off b o b3 y), ⟨_, _, rfl⟩⟩
  · have : b ≠ M := fun z => hMf (z ▸ hb)
    exact oth b o this (off b o this y)
  · show B ≤ ((h2.update M _).update M _).objs.size
    rw [Heap.size_update, Heap.size_update, sz2]
    exact hB
theorem list_enum {Q : Value → Shared → Prop} {e it : Addr} {fp : List Addr} {n : Nat} {P : Nat → Value → Prop} {St : Nat → Heap → Prop}
    (D : Draws prog w A.in1.in1.in1 it fp n P St) (hn : n ≤ sizeLine) (hne : e ≠ it) (hef : e ∉ fp) (below : ∀ b ∈ fp, b < s.heap.objs.size) (be : e < s.heap.objs.size) (bi : it < s.heap.objs.size)
    (st0 : St 0 s.heap) (en : IsEnum s.heap e it 0 .none)
    (fin : ∀ Ts s' h', EL P St e it s.heap.objs.size (s.heap.objs.size + 1) { s with heap := s.heap.push { cls := .type "list", data := .seq #[] } } n Ts s' → Heap.ExtBut it s'.heap h' → Q (.ref s.heap.objs.size) { s' with heap := h' }) :
    wpAny (model prog w) A (call (.type "list") [.ref e]) Q E s := by
  have nf : s.heap.objs.size ∉ fp := fun z => Nat.lt_irrefl _ (below _ z)
  refine callType_codes (Q₁ := fun ob s1 => ob = .ref s.heap.objs.size ∧ s1 = { s with heap := s.heap.push { cls := .type "list", data := .seq #[] } }) F.called_list (F.typeCall_list_1 _) F.entry_list_init (code_list_new _ ⟨rfl, rfl⟩) fun ob s1 h1 => ?_
  obtain ⟨rfl, rfl⟩ := h1
  have hM : (s.heap.push { cls := .type "list", data := .seq #[] }).get? s.heap.objs.size = some { cls := .type "list", data := .seq #[] } := Heap.get?_push_size _ rfl
  refine ⟨⟨_, hM, rfl⟩, F.args_list_init_2 _ _, init_enum (M := s.heap.objs.size) (B := s.heap.objs.size + 1) D hn hne hef nf (Nat.ne_of_gt be) (Nat.ne_of_gt bi) (Nat.lt_succ_of_lt be) (Nat.lt_succ_of_lt bi) (Nat.lt_succ_self _) (by show _ ≤ (s.heap.push _).objs.size; rw [Heap.size_push]; exact Nat.le_refl _)
    (D.frame _ _ _ st0 fun b _ o y => Heap.get?_push_of_some _ y) (Heap.get?_push_of_some _ en) hM (fun Ts s' h' L he => ⟨rfl, fin Ts s' h' L he⟩)⟩
end
/-- several new tuples are tracked -/
theorem track_tups {P : Program} {w : World} {fs ex : List Addr} {H : Hp} {h h' : Heap} {g : Nat → V} : ∀ (Ts : List Addr), Ts.Nodup → (∀ T ∈ Ts, h.objs.size ≤ T) → (∀ b o, h.get? b = some o → h'.get? b = some o) → HOk P w H h → HOk P w H h' →
    (∀ (j : Nat) (T : Addr), Ts[j]? = some T → ∃ us, Vals [.int (j : Int), g j] us ∧ h'.IsTuple T us.toArray) →
    ∃ H', Same H H' ∧ Un fs ex H H' h h' ∧ HOk P w H' h' ∧ (∀ (j : Nat) (T : Addr), Ts[j]? = some T → H' T = some (.tup [.int (j : Int), g j])) ∧ ∀ b, b ∉ Ts → H' b = H b := by
  intro Ts nd big keep ok0 ok tup
  have key : ∀ k, k ≤ Ts.length → ∃ H', Same H H' ∧ Un fs ex H H' h h' ∧ HOk P w H' h' ∧ (∀ (j : Nat) (T : Addr), j < k → Ts[j]? = some T → H' T = some (.tup [.int (j : Int), g j])) ∧ ∀ b, b ∉ Ts.take k → H' b = H b := by
    intro k
    induction k with
    | zero => intro _; exact ⟨H, .refl _, Un.kept keep, ok, fun j T h => by omega, fun b _ => rfl⟩
    | succ k ih =>
      intro hk
      obtain ⟨H1, s1, u1, o1, t1, n1⟩ := ih (by omega)
      have hg : Ts[k]? = some Ts[k] := List.getElem?_eq_getElem (by omega)
      have hb := big _ (List.getElem_mem (show k < Ts.length by omega))
      have nk : Ts[k] ∉ Ts.take k := fun z => by
        obtain ⟨i, hi, e⟩ := List.getElem_of_mem z
        rw [List.length_take] at hi
        rw [List.getElem_take] at e
        have := (List.pairwise_iff_getElem.mp nd) i k (by omega) (by omega) (by omega)
        exact this e
      have hn : H1 Ts[k] = none := by rw [n1 _ nk]; exact ok0.fresh hb
      obtain ⟨us, vs, it⟩ := tup k _ hg
      refine ⟨upd H1 Ts[k] (.tup [.int (k : Int), g k]), s1.new hn, u1.track hb hn, o1.track hn ⟨by show 2 ≤ sizeLine; decide, us, vs, it⟩, fun j T hj e => ?_, fun b hb => ?_⟩
      · by_cases hjk : j = k
        · subst hjk
          rw [hg] at e
          cases e
          exact upd_same
        · have q := t1 j T (by omega) e
          rw [upd_ne (ne_of_none q hn)]
          exact q
      · rw [List.take_add_one, hg] at hb
        have h1 : b ∉ Ts.take k := fun z => hb (List.mem_append_left _ z)
        have h2 : b ≠ Ts[k] := fun z => hb (List.mem_append_right _ (by rw [z]; simp))
        rw [upd_ne h2, n1 b h1]
  obtain ⟨H', s, u, o, t, n⟩ := key Ts.length (Nat.le_refl _)
  refine ⟨H', s, u, o, fun j T e => t j T (List.getElem?_eq_some_iff.mp e).1 e, fun b hb => n b ?_⟩
  rw [List.take_length]
  exact hb
theorem vals_refsE : ∀ l : List Addr, Vals (l.map V.ref) (l.map Value.ref)
  | [] => .nil
  | a :: l => .cons rfl (vals_refsE l)
section
variable {X : Cx} {p1 p2 pos1 pos2 : Pos} {e : Expr} {te : TE}
def tListEnum (te : TE) : TE := fun σ H Q => te σ H fun x H1 => ∃ z : Str, x = .str z ∧ z.cps.size ≤ 1000 ∧ ∀ (l : Addr) (Ts : List Addr) (H' : Hp), Same H1 H' → H1 l = none → H' l = some (.lst (Ts.map V.ref)) → Ts.length = z.cps.size →
  (∀ (j : Nat) (T : Addr) (c : Nat), Ts[j]? = some T → z.cps[j]? = some c → H' T = some (.tup [.int (j : Int), .str ⟨#[c]⟩])) → Q (.ref l) H'
/-- list(enumerate(e)), e a text -/
theorem pe_listEnum (hg1 : Gl X "list") (hm1 : X.mg "list" = none) (hg2 : Gl X "enumerate") (hm2 : X.mg "enumerate" = none) (he : PE X e te) (hc : X.calm = true := by rfl)
    (hs2 : starEach [e] X.env = (false, eval e X.env) :: starEach [] X.env := by rfl)
    (hs1 : starEach [.Call (.Name "enumerate" p2) [e] [] pos2] X.env = (false, eval (.Call (.Name "enumerate" p2) [e] [] pos2) X.env) :: starEach [] X.env := by rfl)
    (hq1 : (backTo pos1 (starEach [] X.env)).any (·.1) = false := by rfl) (hq2 : (backTo pos2 (starEach [] X.env)).any (·.1) = false := by rfl) :
    PE X (.Call (.Name "list" p1) [.Call (.Name "enumerate" p2) [e] [] pos2] [] pos1) (tListEnum te) := by
  intro pins s σ H Q I h
  have hsz : sizeLine = 16777216 := sizeLine_eq
  refine wpAny_Call_Name_kw (ld_blt I hg1 hm1 bt_list ?_)
  refine PyProof.Rows.callWith_type1 ?_ hs1 hq1
  rw [hs1]
  show wpAny _ _ (spliced ((false, eval (.Call (.Name "enumerate" p2) [e] [] pos2) X.env) :: backTo pos1 (starEach [] X.env))) _ _ s
  refine Calls.spliced_cons ?_
  refine wpAny_Call_Name_kw (ld_blt I hg2 hm2 bt_enumerate ?_)
  refine PyProof.Rows.callWith_type1 ?_ hs2 hq2
  rw [hs2]
  show wpAny _ _ (spliced ((false, eval e X.env) :: backTo pos2 (starEach [] X.env))) _ _ s
  refine Calls.spliced_cons (thn (he pins s σ H _ I h) fun u s1 ⟨x, H1, I1, r1, z, ex, hz, q⟩ => ?_)
  subst ex
  obtain ⟨t, rfl⟩ := r1
  refine Calls.spliced_nil ?_
  refine call_enumerate_str fun h1 en hit hsz1 kk => ?_
  refine Calls.spliced_nil ?_
  have hh : X.A.in1.in1.in1.handled = none := by simp [I.ok.hd hc]
  have D := drawsStr (prog := X.prog) (w := X.w) hh s1.heap.objs.size z t
  refine list_enum (s := { s1 with heap := h1 }) D (by omega) (Nat.succ_ne_self _) (by simp) (fun b hb => ?_) (by show _ < h1.objs.size; omega) (by show _ < h1.objs.size; omega) hit en fun Ts s' h' L ext => ?_
  · rw [List.mem_singleton.mp hb]; show _ < h1.objs.size; omega
  have L1 : h1.objs.size = s1.heap.objs.size + 2 := hsz1
  have old : ∀ b o, s1.heap.get? b = some o → h'.get? b = some o := fun b o y => by
    have hb : b < s1.heap.objs.size := Heap.lt_size y
    have y1 := kk b o y
    have b1 : b < h1.objs.size := Heap.lt_size y1
    exact ext b o (Nat.ne_of_lt hb) (L.old b o (Nat.ne_of_lt (Nat.lt_succ_of_lt hb)) (Nat.ne_of_lt hb) (Nat.ne_of_lt b1) (Heap.get?_push_of_some _ y1))
  obtain ⟨c, hM⟩ := L.acc
  have hM : s'.heap.get? h1.objs.size = some { cls := .type "list", dict := none, data := .seq (Ts.map Value.ref).toArray c, slots := #[] } := hM
  have hM' := ext _ _ (show h1.objs.size ≠ s1.heap.objs.size by omega) hM
  have tl : ∀ T ∈ Ts, h1.objs.size < T := fun T hT => by
    obtain ⟨j, hj⟩ := List.getElem?_of_mem hT
    have := (L.tup j T hj).1
    have e : h1.objs.size + 1 ≤ T := this
    omega
  have sgn : ∀ (j : Nat) (T : Addr), Ts[j]? = some T → ∃ us, Vals [.int (j : Int), .str ⟨#[z.cps.getD j 0]⟩] us ∧ h'.IsTuple T us.toArray := fun j T hj => by
    obtain ⟨_, _, tk, x, ⟨c, u, hcz, rfl⟩, ht⟩ := L.tup j T hj
    have nT := tl T (List.mem_of_getElem? hj)
    refine ⟨[.int (j : Int) tk, .str ⟨#[c]⟩ u], .cons ⟨tk, rfl⟩ (.cons ⟨u, ?_⟩ .nil), ⟨_, ext T _ (Nat.ne_of_gt (Nat.lt_trans (by show s1.heap.objs.size < h1.objs.size; omega) nT)) ht, rfl, _, rfl⟩⟩
    rw [show z.cps.getD j 0 = c by rw [Array.getD_eq_getD_getElem?, hcz]; rfl]
  obtain ⟨H', sm, un, ok, tt, nn⟩ := track_tups (P := X.prog) (w := X.w) (fs := X.fs) (ex := []) (H := H1) (h := s1.heap) (h' := h') (g := fun j => .str ⟨#[z.cps.getD j 0]⟩) Ts L.nd (fun T hT => by have := tl T hT; omega) old I1.hok (I1.hok.kept old) sgn
  have hMn : h1.objs.size ∉ Ts := fun z => Nat.lt_irrefl _ (tl _ z)
  have hn : H' h1.objs.size = none := by rw [nn _ hMn]; exact I1.hok.fresh (by omega)
  have vs : Vals (Ts.map V.ref) (Ts.map Value.ref) := vals_refsE Ts
  have ts : (Ts.map V.ref).length ≤ sizeLine := by rw [List.length_map, L.len]; omega
  obtain ⟨hx, tkx, es⟩ := L.rest
  rw [es]
  refine ⟨.ref h1.objs.size, upd H' h1.objs.size (.lst (Ts.map V.ref)), I1.un (t' := tkx) (un.track (by omega) hn) (ok.track hn ⟨ts, _, c, vs, hM'⟩), rfl, ?_⟩
  refine q h1.objs.size Ts _ (sm.new hn) (I1.hok.fresh (by omega)) upd_same L.len fun j T c hj hc => ?_
  have := tt j T hj
  rw [upd_ne (ne_of_none this hn), this]
  rw [show z.cps.getD j 0 = c by rw [Array.getD_eq_getD_getElem?, hc]; rfl]
end
end L2

namespace Mine
open L2
/-- the signs of a cloth: # is 35, . is 46 -/
def Sg (c : Nat) : Prop := c = 35 ∨ c = 46
structure Cl (cl : List (List Nat)) (m n : Nat) : Prop where
  hn : cl.length = n
  hm : ∀ t ∈ cl, t.length = m
  sg : ∀ t ∈ cl, ∀ c ∈ t, Sg c
  m1 : 1 ≤ m
  m40 : m ≤ 40
  n1 : 1 ≤ n
  n40 : n ≤ 40
def flip (c : Nat) : Nat := if c = 35 then 46 else 35
def back (cl : List (List Nat)) : List (List Nat) := cl.map fun t => t.reverse.map flip
def col (cl : List (List Nat)) (e : Nat) : List Nat := cl.map fun t => t.getD e 0
def quart (cl : List (List Nat)) (m : Nat) : List (List Nat) := (List.range m).map fun e => (col cl e).map flip
/-- the sign at a place of the cloth without end -/
def sgn (cl : List (List Nat)) (m n : Nat) (x y : Int) : Nat := (cl.getD (y % (n : Int)).toNat []).getD (x % (m : Int)).toNat 0
end Mine

set_option linter.all false
namespace Mine
open L2
/-- what is seen along a pick -/
def shown (u wa : List Nat) (c : Nat) : List Nat := (List.range u.length).map fun k => if u.getD k 0 = 35 then wa.getD k 0 else c
theorem shown_len (u wa : List Nat) (c : Nat) : (shown u wa c).length = u.length := by unfold shown; rw [List.length_map, List.length_range]
theorem shown_get {u wa : List Nat} {c k : Nat} (h : k < u.length) : (shown u wa c).getD k 0 = if u.getD k 0 = 35 then wa.getD k 0 else c := by
  unfold shown
  simp [List.getD, h]
/-- the picture -/
def pict (cl : List (List Nat)) (wa we : List Nat) : List (List Nat) := (List.range cl.length).map fun j => shown (cl.getD j []) wa (we.getD j 0)
theorem pict_len (cl : List (List Nat)) (wa we : List Nat) : (pict cl wa we).length = cl.length := by unfold pict; rw [List.length_map, List.length_range]
theorem pict_get {cl : List (List Nat)} {wa we : List Nat} {j : Nat} (h : j < cl.length) : (pict cl wa we)[j]? = some (shown (cl.getD j []) wa (we.getD j 0)) := by
  unfold pict
  rw [List.getElem?_map, List.getElem?_range h]
  rfl
def Co (c : Nat) : Prop := 97 ≤ c ∧ c ≤ 102
end Mine

set_option linter.all false
namespace Mine
open L2
/-- what a crossing may be, by what is seen and what its strands are -/
def hs (x e p : Nat) : Nat := if e = x then (if p = x then 63 else 35) else if p = x then 46 else 33
def halfp (u wa : List Nat) (c : Nat) : List Nat := (List.range u.length).map fun k => hs (u.getD k 0) (wa.getD k 0) c
def halfs (cl : List (List Nat)) (wa we : List Nat) : List (List Nat) := (List.range cl.length).map fun j => halfp (cl.getD j []) wa (we.getD j 0)
/-- a picture -/
structure Pic (cl : List (List Nat)) (m n : Nat) : Prop where
  hn : cl.length = n
  hm : ∀ t ∈ cl, t.length = m
  co : ∀ t ∈ cl, ∀ c ∈ t, Co c
  m1 : 1 ≤ m
  m40 : m ≤ 40
  n1 : 1 ≤ n
  n40 : n ≤ 40
end Mine

set_option linter.all false
namespace Mine
/-! ### colours by what is seen -/
/-- what is seen where two strands cross -/
def crs (pic : List (List Nat)) (m v w : Nat) : Nat := if v < m then (pic.getD (w - m) []).getD v 0 else (pic.getD (v - m) []).getD w 0
def Bip (m v w : Nat) : Prop := (v < m ∧ m ≤ w) ∨ (m ≤ v ∧ w < m)
theorem Bip.symm {m v w : Nat} (h : Bip m v w) : Bip m w v := by unfold Bip at *; omega
theorem crs_sym {pic : List (List Nat)} {m v w : Nat} (h : Bip m v w) : crs pic m v w = crs pic m w v := by
  unfold crs
  rcases h with ⟨h1, h2⟩ | ⟨h1, h2⟩
  · rw [if_pos h1, if_neg (by omega)]
  · rw [if_neg (by omega), if_pos h2]
def nbr (m v j : Nat) : Nat := if v < m then m + j else j
def deg (m n v : Nat) : Nat := if v < m then n else m
theorem nbr_bip {m n v j : Nat} (hj : j < deg m n v) : Bip m v (nbr m v j) ∧ nbr m v j < m + n := by
  unfold deg at hj
  unfold Bip nbr
  split at hj <;> split <;> omega
theorem nbr_of {m n v w : Nat} (h : Bip m v w) (hw : w < m + n) : ∃ j, j < deg m n v ∧ nbr m v j = w := by
  unfold Bip at h
  unfold deg nbr
  by_cases hv : v < m
  · exact ⟨w - m, by rw [if_pos hv]; omega, by rw [if_pos hv]; omega⟩
  · exact ⟨w, by rw [if_neg hv]; omega, by rw [if_neg hv]⟩
theorem look_mem {g : List (Nat × Nat)} {v c : Nat} (h : g.lookup v = some c) : (v, c) ∈ g := by
  induction g with
  | nil => simp at h
  | cons p g ih =>
    rw [List.lookup_cons] at h
    cases e : v == p.1 with
    | true =>
      rw [e] at h
      cases h
      have : v = p.1 := by simpa using e
      rw [this]
      exact List.mem_cons_self
    | false =>
      rw [e] at h
      exact List.mem_cons_of_mem _ (ih h)
theorem mem_look {g : List (Nat × Nat)} {v c : Nat} (nd : (g.map (·.1)).Nodup) (h : (v, c) ∈ g) : g.lookup v = some c := by
  induction g with
  | nil => cases h
  | cons p g ih =>
    rw [List.map_cons, List.nodup_cons] at nd
    rcases List.mem_cons.mp h with e | h'
    · rw [← e, List.lookup_cons]; simp
    · have : v ≠ p.1 := fun z => nd.1 (by rw [← z]; exact List.mem_map.mpr ⟨_, h', rfl⟩)
      rw [List.lookup_cons]
      have e : (v == p.1) = false := by simpa using this
      rw [e]
      exact ih nd.2 h'
theorem look_none {g : List (Nat × Nat)} {v : Nat} (h : g.lookup v = none) : v ∉ g.map (·.1) := by
  intro z
  obtain ⟨p, hp, e⟩ := List.mem_map.mp z
  induction g with
  | nil => cases hp
  | cons q g ih =>
    rw [List.lookup_cons] at h
    cases e2 : v == q.1 with
    | true => rw [e2] at h; cases h
    | false =>
      rw [e2] at h
      rcases List.mem_cons.mp hp with e3 | hp'
      · subst e3
        rw [e] at e2
        simp at e2
      · exact ih h (List.mem_map.mpr ⟨p, hp', e⟩) hp'
theorem look_app {g h : List (Nat × Nat)} {v : Nat} : (g ++ h).lookup v = (g.lookup v).or (h.lookup v) := by
  induction g with
  | nil => simp
  | cons p g ih =>
    rw [List.cons_append, List.lookup_cons, List.lookup_cons]
    cases v == p.1 with
    | true => rfl
    | false => exact ih
theorem look_keep {g h : List (Nat × Nat)} {v c : Nat} (e : g.lookup v = some c) : (g ++ h).lookup v = some c := by rw [look_app, e]; rfl
/-- a colouring that fits -/
structure Fit (pic : List (List Nat)) (m n : Nat) (told : List Nat) (O : Nat → Nat) : Prop where
  cr : ∀ v w, v < m + n → w < m + n → Bip m v w → O v = crs pic m v w ∨ O w = crs pic m v w
  td : ∀ v, v < m + n → told.getD v 0 = 63 ∨ told.getD v 0 = O v
  co : ∀ v, v < m + n → 97 ≤ O v ∧ O v ≤ 102
/-- what is borne so far asks nothing more -/
structure Bor (pic : List (List Nat)) (m n : Nat) (told : List Nat) (b : List (Nat × Nat)) : Prop where
  nd : (b.map (·.1)).Nodup
  lt : ∀ p ∈ b, p.1 < m + n
  co : ∀ p ∈ b, 97 ≤ p.2 ∧ p.2 ≤ 102
  td : ∀ p ∈ b, told.getD p.1 0 = 63 ∨ told.getD p.1 0 = p.2
  cl : ∀ p ∈ b, ∀ w, w < m + n → Bip m p.1 w → crs pic m p.1 w = p.2 ∨ b.lookup w = some (crs pic m p.1 w)
structure Ch (pic : List (List Nat)) (m n : Nat) (told : List Nat) (b : List (Nat × Nat)) (O : Nat → Nat) (s0 c0 : Nat) (g : List (Nat × Nat)) (ps : List (Nat × Option Nat)) : Prop where
  keys : ps.map (·.1) = g.map (·.1)
  nd : (g.map (·.1)).Nodup
  lt : ∀ p ∈ g, p.1 < m + n
  co : ∀ p ∈ g, 97 ≤ p.2 ∧ p.2 ≤ 102
  fst : g[0]? = some (s0, c0)
  td : ∀ p ∈ g, p.1 ≠ s0 → told.getD p.1 0 = 63 ∨ told.getD p.1 0 = p.2
  nb : ∀ p ∈ g, b.lookup p.1 = none
  ah : ∀ (i k c : Nat), ps[i]? = some (k, some c) → ∃ (j : Nat) (c' : Option Nat), j < i ∧ ps[j]? = some (c, c')
  ag : O s0 = c0 → ∀ p ∈ g, p.2 = O p.1
theorem nd_len : ∀ (N : Nat) (l : List Nat), l.Nodup → (∀ x ∈ l, x < N) → l.length ≤ N
  | 0, l, _, h => by
    cases l with
    | nil => exact Nat.le_refl _
    | cons a l => exact absurd (h a List.mem_cons_self) (by omega)
  | N + 1, l, nd, h => by
    have ih := nd_len N (l.filter (· != N)) (nd.sublist List.filter_sublist) fun x hx => by
      obtain ⟨h1, h2⟩ := List.mem_filter.mp hx
      have := h x h1
      have : x ≠ N := by simpa using h2
      omega
    have : l.length ≤ (l.filter (· != N)).length + 1 := by
      clear ih h
      induction l with
      | nil => simp
      | cons a l ih =>
        rw [List.nodup_cons] at nd
        by_cases e : a = N
        · have : l.filter (· != N) = l := List.filter_eq_self.mpr fun x hx => by
            have : x ≠ N := fun z => nd.1 (by rw [e, ← z]; exact hx)
            simpa using this
          rw [List.filter_cons_of_neg (by simp [e]), this]
          exact Nat.le_refl _
        · rw [List.filter_cons_of_pos (by simpa using e), List.length_cons, List.length_cons]
          have := ih nd.2
          omega
    omega
section
variable {pic : List (List Nat)} {m n : Nat} {told : List Nat} {b g : List (Nat × Nat)} {O : Nat → Nat} {s0 c0 : Nat} {ps : List (Nat × Option Nat)}
/-- the crossings of a strand that are met -/
def Mt (pic : List (List Nat)) (m : Nat) (b g : List (Nat × Nat)) (v c j : Nat) : Prop := ∀ i, i < j → crs pic m v (nbr m v i) = c ∨ b.lookup (nbr m v i) = some (crs pic m v (nbr m v i)) ∨ g.lookup (nbr m v i) = some (crs pic m v (nbr m v i))
theorem Mt.grow {v c j : Nat} (h : Mt pic m b g v c j) (x : List (Nat × Nat)) : Mt pic m b (g ++ x) v c j := fun i hi => by
  rcases h i hi with z | z | z
  · exact .inl z
  · exact .inr (.inl z)
  · exact .inr (.inr (look_keep z))
theorem Mt.succ {v c j : Nat} (h : Mt pic m b g v c j) (x : crs pic m v (nbr m v j) = c ∨ b.lookup (nbr m v j) = some (crs pic m v (nbr m v j)) ∨ g.lookup (nbr m v j) = some (crs pic m v (nbr m v j))) : Mt pic m b g v c (j + 1) := fun i hi => by
  by_cases e : i < j
  · exact h i e
  · have : i = j := by omega
    subst this
    exact x
/-- all is met: what is borne and what is given together -/
theorem Ch.bor (C : Ch pic m n told b O s0 c0 g ps) (B : Bor pic m n told b) (t0 : told.getD s0 0 = 63 ∨ told.getD s0 0 = c0) (all : ∀ (i v c : Nat), g[i]? = some (v, c) → Mt pic m b g v c (deg m n v)) : Bor pic m n told (b ++ g) where
  nd := by
    rw [List.map_append]
    refine List.nodup_append.mpr ⟨B.nd, C.nd, fun x hx y hy z => ?_⟩
    obtain ⟨p, hp, e1⟩ := List.mem_map.mp hx
    obtain ⟨q, hq, e2⟩ := List.mem_map.mp hy
    have h1 := C.nb q hq
    rw [e2, ← z, ← e1] at h1
    rw [mem_look B.nd (show (p.1, p.2) ∈ b from hp)] at h1
    cases h1
  lt := fun p hp => (List.mem_append.mp hp).elim (B.lt p) (C.lt p)
  co := fun p hp => (List.mem_append.mp hp).elim (B.co p) (C.co p)
  td := fun p hp => by
    rcases List.mem_append.mp hp with h | h
    · exact B.td p h
    · by_cases e : p.1 = s0
      · have : p.2 = c0 := by
          have h0 := List.mem_of_getElem? C.fst
          have l1 := mem_look C.nd h0
          have l2 := mem_look C.nd (show (p.1, p.2) ∈ g from h)
          rw [e, l1] at l2
          exact (Option.some.inj l2).symm
        rw [e, this]
        exact t0
      · exact C.td p h e
  cl := fun p hp w hw hb => by
    rcases List.mem_append.mp hp with h | h
    · rcases B.cl p h w hw hb with z | z
      · exact .inl z
      · exact .inr (look_keep z)
    · obtain ⟨i, hi⟩ := List.getElem?_of_mem h
      obtain ⟨j, hj, ej⟩ := nbr_of hb hw
      rcases all i p.1 p.2 hi j hj with z | z | z
      · rw [ej] at z; exact .inl z
      · rw [ej] at z; exact .inr (look_keep z)
      · rw [ej] at z
        refine .inr ?_
        rw [look_app]
        cases e : b.lookup w with
        | none => exact z
        | some d =>
          have := C.nb _ (look_mem z)
          rw [e] at this
          cases this
end
end Mine

set_option linter.all false
namespace Mine
/-! ### chains that tell why a colour is none -/
structure Cn (pic : List (List Nat)) (m n : Nat) (told : List Nat) (b : List (Nat × Nat)) (s0 c0 : Nat) (g : List (Nat × Nat)) (ps : List (Nat × Option Nat)) : Prop where
  keys : ps.map (·.1) = g.map (·.1)
  nd : (g.map (·.1)).Nodup
  lt : ∀ p ∈ g, p.1 < m + n
  co : ∀ p ∈ g, 97 ≤ p.2 ∧ p.2 ≤ 102
  fst : g[0]? = some (s0, c0)
  td : ∀ p ∈ g, p.1 ≠ s0 → told.getD p.1 0 = 63 ∨ told.getD p.1 0 = p.2
  nb : ∀ p ∈ g, b.lookup p.1 = none
  ah : ∀ (i k c : Nat), ps[i]? = some (k, some c) → ∃ (j : Nat) (c' : Option Nat), j < i ∧ ps[j]? = some (c, c')
  ag : ∀ O, Fit pic m n told O → O s0 = c0 → ∀ p ∈ g, p.2 = O p.1
  ed : ∀ w u, (w, some u) ∈ ps → Bip m u w ∧ g.lookup w = some (crs pic m u w) ∧ ∃ cu, g.lookup u = some cu ∧ crs pic m u w ≠ cu
  rt : ∀ w, (w, none) ∈ ps → w = s0
section
variable {pic : List (List Nat)} {m n : Nat} {told : List Nat} {b g : List (Nat × Nat)} {s0 c0 : Nat} {ps : List (Nat × Option Nat)}
theorem Cn.len (C : Cn pic m n told b s0 c0 g ps) : g.length ≤ m + n := by
  have := nd_len (m + n) (g.map (·.1)) C.nd fun x hx => by
    obtain ⟨p, hp, rfl⟩ := List.mem_map.mp hx
    exact C.lt p hp
  rwa [List.length_map] at this
theorem Cn.len2 (C : Cn pic m n told b s0 c0 g ps) : ps.length = g.length := by
  have := congrArg List.length C.keys
  rwa [List.length_map, List.length_map] at this
theorem Cn.start (hs : s0 < m + n) (hc : 97 ≤ c0 ∧ c0 ≤ 102) (hb : b.lookup s0 = none) : Cn pic m n told b s0 c0 [(s0, c0)] [(s0, none)] where
  keys := rfl
  nd := by simp
  lt := fun p hp => by rw [List.mem_singleton.mp hp]; exact hs
  co := fun p hp => by rw [List.mem_singleton.mp hp]; exact hc
  fst := rfl
  td := fun p hp h => absurd (by rw [List.mem_singleton.mp hp]) h
  nb := fun p hp => by rw [List.mem_singleton.mp hp]; exact hb
  ah := fun i k c h => by
    cases i with
    | zero => cases h
    | succ i => simp at h
  ag := fun O _ e p hp => by rw [List.mem_singleton.mp hp]; exact e.symm
  ed := fun w u h => by simp at h
  rt := fun w h => by simpa using h
theorem Cn.ask (C : Cn pic m n told b s0 c0 g ps) {O : Nat → Nat} (F : Fit pic m n told O) (e : O s0 = c0) {v c w : Nat} (hv : (v, c) ∈ g) (hw : w < m + n) (hb : Bip m v w) (ne : crs pic m v w ≠ c) : O w = crs pic m v w := by
  have h1 := C.ag O F e _ hv
  have h2 := C.lt _ hv
  rcases F.cr v w h2 hw hb with z | z
  · exact absurd (z.symm.trans h1.symm) ne
  · exact z
theorem Cn.no1 (C : Cn pic m n told b s0 c0 g ps) {v c w d : Nat} (hv : (v, c) ∈ g) (hw : w < m + n) (hb : Bip m v w) (ne : crs pic m v w ≠ c) (hd : g.lookup w = some d) (nd : d ≠ crs pic m v w) : ∀ O, Fit pic m n told O → O s0 ≠ c0 :=
  fun O F e => nd ((C.ag O F e _ (look_mem hd)).trans (C.ask F e hv hw hb ne))
theorem Cn.no2 (C : Cn pic m n told b s0 c0 g ps) {v c w : Nat} (hv : (v, c) ∈ g) (hw : w < m + n) (hb : Bip m v w) (ne : crs pic m v w ≠ c) (t1 : told.getD w 0 ≠ 63) (t2 : told.getD w 0 ≠ crs pic m v w) : ∀ O, Fit pic m n told O → O s0 ≠ c0 := by
  intro O F e
  rcases F.td w hw with z | z
  · exact t1 z
  · exact t2 (z.trans (C.ask F e hv hw hb ne))
theorem Cn.step (C : Cn pic m n told b s0 c0 g ps) (B : Bor pic m n told b) {i v c w : Nat} (hi : g[i]? = some (v, c)) (hw : w < m + n) (hb : Bip m v w) (ne : crs pic m v w ≠ c) (hcr : 97 ≤ crs pic m v w ∧ crs pic m v w ≤ 102)
    (nb : b.lookup w ≠ some (crs pic m v w)) (ng : g.lookup w = none) (t : told.getD w 0 = 63 ∨ told.getD w 0 = crs pic m v w) : Cn pic m n told b s0 c0 (g ++ [(w, crs pic m v w)]) (ps ++ [(w, some v)]) := by
  have hv := List.mem_of_getElem? hi
  have bw : b.lookup w = none := by
    cases e : b.lookup w with
    | none => rfl
    | some d =>
      exfalso
      rcases B.cl _ (look_mem e) v (C.lt _ hv) hb.symm with z | z
      · exact nb (by rw [e, crs_sym hb, z])
      · rw [C.nb _ hv] at z; cases z
  have nw := look_none ng
  have look_w : (g ++ [(w, crs pic m v w)]).lookup w = some (crs pic m v w) := by rw [look_app, ng]; simp
  refine ⟨?_, ?_, fun p hp => ?_, fun p hp => ?_, ?_, fun p hp h => ?_, fun p hp => ?_, fun j k d h => ?_, fun O F e p hp => ?_, fun w' u' h => ?_, fun w' h => ?_⟩
  · rw [List.map_append, List.map_append, C.keys]; rfl
  · rw [List.map_append]
    refine List.nodup_append.mpr ⟨C.nd, by simp, fun a ha b hb z => nw ?_⟩
    rw [List.mem_singleton.mp hb] at z
    have z : a = w := z
    rw [← z]
    exact ha
  · rcases List.mem_append.mp hp with h | h
    · exact C.lt p h
    · rw [List.mem_singleton.mp h]; exact hw
  · rcases List.mem_append.mp hp with h | h
    · exact C.co p h
    · rw [List.mem_singleton.mp h]; exact hcr
  · rw [List.getElem?_append_left (List.getElem?_eq_some_iff.mp C.fst).1]; exact C.fst
  · rcases List.mem_append.mp hp with h' | h'
    · exact C.td p h' h
    · rw [List.mem_singleton.mp h']; exact t
  · rcases List.mem_append.mp hp with h | h
    · exact C.nb p h
    · rw [List.mem_singleton.mp h]; exact bw
  · by_cases hj : j < ps.length
    · rw [List.getElem?_append_left hj] at h
      obtain ⟨j', c', h1, h2⟩ := C.ah j k d h
      exact ⟨j', c', h1, by rw [List.getElem?_append_left (by omega)]; exact h2⟩
    · have hj2 := (List.getElem?_eq_some_iff.mp h).1
      rw [List.length_append, List.length_singleton] at hj2
      have ej : j = ps.length := by omega
      rw [ej, List.getElem?_append_right (Nat.le_refl _), Nat.sub_self] at h
      cases h
      have il : i < ps.length := by rw [C.len2]; exact (List.getElem?_eq_some_iff.mp hi).1
      have e2 : (ps.map (·.1))[i]? = some v := by rw [C.keys, List.getElem?_map, hi]; rfl
      rw [List.getElem?_map] at e2
      obtain ⟨q, hq, eq⟩ := Option.map_eq_some_iff.mp e2
      refine ⟨i, q.2, by omega, ?_⟩
      rw [List.getElem?_append_left il, hq, ← eq]
  · rcases List.mem_append.mp hp with h | h
    · exact C.ag O F e p h
    · rw [List.mem_singleton.mp h]; exact (C.ask F e hv hw hb ne).symm
  · rcases List.mem_append.mp h with h | h
    · obtain ⟨a1, a2, cu, a3, a4⟩ := C.ed w' u' h
      exact ⟨a1, look_keep a2, cu, look_keep a3, a4⟩
    · have e := List.mem_singleton.mp h
      injection e with e1 e2
      injection e2 with e2
      subst e1 e2
      exact ⟨hb, look_w, c, look_keep (mem_look C.nd hv), ne⟩
  · rcases List.mem_append.mp h with h | h
    · exact C.rt w' h
    · have e := List.mem_singleton.mp h
      injection e with e1 e2
      cases e2
theorem Cn.bor (C : Cn pic m n told b s0 c0 g ps) (B : Bor pic m n told b) (t0 : told.getD s0 0 = 63 ∨ told.getD s0 0 = c0) (all : ∀ (i v c : Nat), g[i]? = some (v, c) → Mt pic m b g v c (deg m n v)) : Bor pic m n told (b ++ g) := by
  have C' : Ch pic m n told b (fun _ => c0 + 1) s0 c0 g ps := ⟨C.keys, C.nd, C.lt, C.co, C.fst, C.td, C.nb, C.ah, fun e => by omega⟩
  exact C'.bor B t0 all
/-- the colours along a chain of strands -/
def runs (pic : List (List Nat)) (m : Nat) : Nat → List Nat → Prop
  | _, [] => True
  | _, [_] => True
  | x, a :: b :: r => Bip m a b ∧ crs pic m a b ≠ x ∧ runs pic m (crs pic m a b) (b :: r)
def fin (pic : List (List Nat)) (m : Nat) : Nat → List Nat → Nat
  | x, [] => x
  | x, [_] => x
  | _, a :: b :: r => fin pic m (crs pic m a b) (b :: r)
theorem fin_app {a : Nat} {B : List Nat} : ∀ {A : List Nat} {x : Nat}, fin pic m x (A ++ a :: B) = fin pic m (fin pic m x (A ++ [a])) (a :: B)
  | [], x => rfl
  | [c], x => by
    show fin pic m (crs pic m c a) (a :: B) = fin pic m (fin pic m (crs pic m c a) [a]) (a :: B)
    rfl
  | c :: d :: A, x => by
    show fin pic m (crs pic m c d) (d :: A ++ a :: B) = fin pic m (fin pic m (crs pic m c d) (d :: A ++ [a])) (a :: B)
    exact fin_app (A := d :: A)
theorem runs_app {a : Nat} {B : List Nat} : ∀ {A : List Nat} {x : Nat}, runs pic m x (A ++ a :: B) ↔ runs pic m x (A ++ [a]) ∧ runs pic m (fin pic m x (A ++ [a])) (a :: B)
  | [], x => ⟨fun h => ⟨trivial, h⟩, fun h => h.2⟩
  | [c], x => by
    show (Bip m c a ∧ crs pic m c a ≠ x ∧ runs pic m (crs pic m c a) (a :: B)) ↔ (Bip m c a ∧ crs pic m c a ≠ x ∧ True) ∧ runs pic m (crs pic m c a) (a :: B)
    exact ⟨fun ⟨h1, h2, h3⟩ => ⟨⟨h1, h2, trivial⟩, h3⟩, fun ⟨⟨h1, h2, _⟩, h3⟩ => ⟨h1, h2, h3⟩⟩
  | c :: d :: A, x => by
    have ih := runs_app (a := a) (B := B) (A := d :: A) (x := crs pic m c d)
    show (Bip m c d ∧ crs pic m c d ≠ x ∧ runs pic m (crs pic m c d) (d :: A ++ a :: B)) ↔ (Bip m c d ∧ crs pic m c d ≠ x ∧ runs pic m (crs pic m c d) (d :: A ++ [a])) ∧ runs pic m (fin pic m (crs pic m c d) (d :: A ++ [a])) (a :: B)
    rw [ih]
    exact ⟨fun ⟨h1, h2, h3, h4⟩ => ⟨⟨h1, h2, h3⟩, h4⟩, fun ⟨⟨h1, h2, h3⟩, h4⟩ => ⟨h1, h2, h3, h4⟩⟩
/-- a way from the start -/
def Up (ps : List (Nat × Option Nat)) : List Nat → Prop
  | [] => True
  | [_] => True
  | a :: b :: r => (b, some a) ∈ ps ∧ Up ps (b :: r)
def Dw (ps : List (Nat × Option Nat)) : List Nat → Prop
  | [] => True
  | [_] => True
  | a :: b :: r => (a, some b) ∈ ps ∧ Dw ps (b :: r)
theorem Dw.snoc {a b : Nat} : ∀ {A : List Nat}, Dw ps (A ++ [a]) → (a, some b) ∈ ps → Dw ps (A ++ [a] ++ [b])
  | [], _, h => ⟨h, trivial⟩
  | [c], d, h => ⟨d.1, h, trivial⟩
  | c :: e :: A, d, h => ⟨d.1, Dw.snoc (A := e :: A) d.2 h⟩
theorem Up.snoc {a b : Nat} : ∀ {A : List Nat}, Up ps (A ++ [a]) → (b, some a) ∈ ps → Up ps (A ++ [a] ++ [b])
  | [], _, h => ⟨h, trivial⟩
  | [c], d, h => ⟨d.1, h, trivial⟩
  | c :: e :: A, d, h => ⟨d.1, Up.snoc (A := e :: A) d.2 h⟩
theorem Dw.rev : ∀ {A : List Nat}, Dw ps A → Up ps A.reverse
  | [], _ => trivial
  | [c], _ => trivial
  | c :: e :: A, d => by
    have ih := Dw.rev (A := e :: A) d.2
    rw [List.reverse_cons, List.reverse_cons]
    rw [List.reverse_cons] at ih
    exact Up.snoc ih d.1
theorem up_runs (C : Cn pic m n told b s0 c0 g ps) : ∀ {A : List Nat} {u cu : Nat}, g.lookup u = some cu → Up ps (u :: A) → runs pic m cu (u :: A) ∧ ∀ l, (u :: A).getLast? = some l → g.lookup l = some (fin pic m cu (u :: A))
  | [], u, cu, h, _ => ⟨trivial, fun l hl => by
    have hl : u = l := by simpa using hl
    rw [← hl]
    exact h⟩
  | v :: A, u, cu, h, d => by
    obtain ⟨bp, lv, cu', h', ne⟩ := C.ed v u d.1
    rw [h] at h'
    cases h'
    obtain ⟨r1, r2⟩ := up_runs C (A := A) lv d.2
    exact ⟨⟨bp, ne, r1⟩, fun l hl => r2 l (by rw [List.getLast?_cons_cons] at hl; exact hl)⟩
theorem dw_runs (C : Cn pic m n told b s0 c0 g ps) : ∀ {A : List Nat} {u cu x : Nat}, g.lookup u = some cu → x ≠ cu → Dw ps (u :: A) → runs pic m x (u :: A) ∧ ∀ l cl, (u :: A).getLast? = some l → g.lookup l = some cl → fin pic m x (u :: A) ≠ cl
  | [], u, cu, x, h, hx, _ => ⟨trivial, fun l cl hl e => by
    have hl : u = l := by simpa using hl
    rw [← hl, h] at e
    cases e
    exact hx⟩
  | v :: A, u, cu, x, h, hx, d => by
    obtain ⟨bp, lu, cv, hv, ne⟩ := C.ed u v d.1
    rw [h] at lu
    have ec : cu = crs pic m v u := Option.some.inj lu
    have es : crs pic m u v = cu := by rw [ec]; exact (crs_sym bp).symm
    obtain ⟨r1, r2⟩ := dw_runs C (A := A) (x := crs pic m u v) hv (by rw [es, ec]; exact ne) d.2
    exact ⟨⟨bp.symm, by rw [es]; exact hx.symm, r1⟩, fun l cl hl e => r2 l cl (by rw [List.getLast?_cons_cons] at hl; exact hl) e⟩
/-- a chain that is right -/
structure Rgt (pic : List (List Nat)) (m n : Nat) (told : List Nat) (s0 c0 : Nat) (L : List Nat) : Prop where
  two : 2 ≤ L.length
  le : L.length ≤ 6 * (m + n) + 1
  lt : ∀ v ∈ L, v < m + n
  fst : L[0]? = some s0
  run : runs pic m c0 L
  lst : ∀ l, L.getLast? = some l → (l = s0 ∧ fin pic m c0 L ≠ c0) ∨ (told.getD l 0 ≠ 63 ∧ told.getD l 0 ≠ fin pic m c0 L)
theorem Rgt.back (C : Cn pic m n told b s0 c0 g ps) {A B : List Nat} {v w c d : Nat} (hA : Up ps (A ++ [v])) (a0 : (A ++ [v])[0]? = some s0) (hB : Dw ps (w :: B)) (b0 : (w :: B).getLast? = some s0) (hv : g.lookup v = some c) (hw : g.lookup w = some d)
    (bp : Bip m v w) (ne : crs pic m v w ≠ c) (nd : d ≠ crs pic m v w) (lA : (A ++ [v]).length ≤ m + n) (lB : (w :: B).length ≤ m + n) (ltA : ∀ x ∈ A ++ [v], x < m + n) (ltB : ∀ x ∈ w :: B, x < m + n) :
    Rgt pic m n told s0 c0 ((A ++ [v]) ++ (w :: B)) := by
  have l0 : g.lookup s0 = some c0 := mem_look C.nd (List.mem_of_getElem? C.fst)
  have hup : runs pic m c0 (A ++ [v]) ∧ ∀ l, (A ++ [v]).getLast? = some l → g.lookup l = some (fin pic m c0 (A ++ [v])) := by
    cases A with
    | nil =>
      have e : v = s0 := by simpa using a0
      exact up_runs C (A := []) (u := v) (by rw [e]; exact l0) hA
    | cons a A =>
      have e : a = s0 := by simpa using a0
      exact up_runs C (A := A ++ [v]) (u := a) (by rw [e]; exact l0) hA
  have fv : fin pic m c0 (A ++ [v]) = c := by
    have := hup.2 v (by simp)
    rw [hv] at this
    exact (Option.some.inj this).symm
  obtain ⟨r1, r2⟩ := dw_runs C (x := crs pic m v w) hw nd.symm hB
  have eq : (A ++ [v]) ++ (w :: B) = A ++ v :: (w :: B) := by simp
  have er : runs pic m c0 (A ++ v :: (w :: B)) := runs_app.mpr ⟨hup.1, by rw [fv]; exact ⟨bp, ne, r1⟩⟩
  have ef : fin pic m c0 (A ++ v :: (w :: B)) = fin pic m (crs pic m v w) (w :: B) := by rw [fin_app]; rfl
  refine ⟨by rw [List.length_append, List.length_append, List.length_cons, List.length_cons]; omega, by rw [List.length_append]; omega, fun x hx => ?_, ?_, by rw [eq]; exact er, fun l hl => .inl ?_⟩
  · rcases List.mem_append.mp hx with h | h
    · exact ltA x h
    · exact ltB x h
  · rw [List.getElem?_append_left (by rw [List.length_append, List.length_singleton]; omega)]
    exact a0
  · have hl2 : l = s0 := by
      rw [List.getLast?_append, b0] at hl
      simpa using hl.symm
    refine ⟨hl2, ?_⟩
    rw [eq, ef]
    exact r2 s0 c0 b0 l0
theorem Rgt.tolds (C : Cn pic m n told b s0 c0 g ps) {A : List Nat} {v w c : Nat} (hA : Up ps (A ++ [v])) (a0 : (A ++ [v])[0]? = some s0) (hv : g.lookup v = some c)
    (bp : Bip m v w) (ne : crs pic m v w ≠ c) (t1 : told.getD w 0 ≠ 63) (t2 : told.getD w 0 ≠ crs pic m v w) (lA : (A ++ [v]).length ≤ m + n) (ltA : ∀ x ∈ A ++ [v], x < m + n) (hw : w < m + n) :
    Rgt pic m n told s0 c0 ((A ++ [v]) ++ [w]) := by
  have l0 : g.lookup s0 = some c0 := mem_look C.nd (List.mem_of_getElem? C.fst)
  have hup : runs pic m c0 (A ++ [v]) ∧ ∀ l, (A ++ [v]).getLast? = some l → g.lookup l = some (fin pic m c0 (A ++ [v])) := by
    cases A with
    | nil =>
      have e : v = s0 := by simpa using a0
      exact up_runs C (A := []) (u := v) (by rw [e]; exact l0) hA
    | cons a A =>
      have e : a = s0 := by simpa using a0
      exact up_runs C (A := A ++ [v]) (u := a) (by rw [e]; exact l0) hA
  have fv : fin pic m c0 (A ++ [v]) = c := by
    have := hup.2 v (by simp)
    rw [hv] at this
    exact (Option.some.inj this).symm
  have eq : (A ++ [v]) ++ [w] = A ++ v :: [w] := by simp
  have er : runs pic m c0 (A ++ v :: [w]) := runs_app.mpr ⟨hup.1, by rw [fv]; exact ⟨bp, ne, trivial⟩⟩
  have ef : fin pic m c0 (A ++ v :: [w]) = crs pic m v w := by rw [fin_app]; rfl
  refine ⟨by rw [List.length_append, List.length_append]; simp, by rw [List.length_append, List.length_singleton]; omega, fun x hx => ?_, ?_, by rw [eq]; exact er, fun l hl => .inr ?_⟩
  · rcases List.mem_append.mp hx with h | h
    · exact ltA x h
    · rw [List.mem_singleton.mp h]; exact hw
  · rw [List.getElem?_append_left (by rw [List.length_append, List.length_singleton]; omega)]
    exact a0
  · have : l = w := by
      rw [List.getLast?_append] at hl
      simpa using hl.symm
    rw [this, eq, ef]
    exact ⟨t1, t2⟩
/-- one step along a right chain -/
theorem runs_at {x : Nat} {L : List Nat} (h : runs pic m x L) {k a b : Nat} (ha : L[k]? = some a) (hb : L[k + 1]? = some b) :
    Bip m a b ∧ crs pic m a b ≠ fin pic m x (L.take (k + 1)) ∧ fin pic m x (L.take (k + 2)) = crs pic m a b := by
  obtain ⟨h1, e1⟩ := List.getElem?_eq_some_iff.mp ha
  obtain ⟨h2, e2⟩ := List.getElem?_eq_some_iff.mp hb
  have d : L = L.take k ++ a :: b :: L.drop (k + 2) := by
    conv => lhs; rw [← List.take_append_drop k L]
    congr 1
    rw [List.drop_eq_getElem_cons h1, List.drop_eq_getElem_cons h2, e1, e2]
  have t1 : L.take (k + 1) = L.take k ++ [a] := by rw [List.take_add_one, ha]; rfl
  have t2 : L.take (k + 2) = L.take k ++ a :: [b] := by rw [List.take_add_one, t1, hb]; simp
  rw [d] at h
  have h3 := (runs_app.mp h).2
  refine ⟨h3.1, ?_, ?_⟩
  · rw [t1]; exact h3.2.1
  · rw [t2, fin_app]; rfl
/-- the first of all -/
def Lx (pic : List (List Nat)) (m n : Nat) (told : List Nat) (b : List (Nat × Nat)) : Prop := ∀ O, Fit pic m n told O → ∀ s c, b.lookup s = some c → (∀ v, v < s → ∀ d, b.lookup v = some d → O v = d) → c ≤ O s
theorem Lx.step (C : Cn pic m n told b s0 c0 g ps) (X : Lx pic m n told b) (before : ∀ v, v < s0 → b.lookup v ≠ none) (first : ∀ O, Fit pic m n told O → c0 ≤ O s0) : Lx pic m n told (b ++ g) := by
  intro O F s c hs hv
  rw [look_app] at hs
  cases e : b.lookup s with
  | some d =>
    rw [e] at hs
    have : d = c := by simpa using hs
    subst this
    exact X O F s d e fun v hv1 d' hd' => hv v hv1 d' (look_keep hd')
  | none =>
    rw [e] at hs
    have hg : g.lookup s = some c := by simpa using hs
    have l0 : g.lookup s0 = some c0 := mem_look C.nd (List.mem_of_getElem? C.fst)
    by_cases es : s = s0
    · subst es
      rw [l0] at hg
      cases hg
      exact first O F
    · have lt : s0 < s := by
        rcases Nat.lt_trichotomy s s0 with h | h | h
        · exact absurd e (before s h)
        · exact absurd h es
        · exact h
      have nb0 := C.nb _ (List.mem_of_getElem? C.fst)
      have : O s0 = c0 := hv s0 lt c0 (by rw [look_app, nb0]; simpa using l0)
      have := C.ag O F this _ (look_mem hg)
      exact Nat.le_of_eq this
end
end Mine

set_option linter.all false
namespace Mine
/-! ### the chains are told the same each time -/
abbrev Sta := List (Nat × Nat) × List (Nat × Option Nat)
def askF (pic : List (List Nat)) (m : Nat) (b : List (Nat × Nat)) (told : List Nat) (v c j : Nat) (st : Sta) : Option Sta :=
  if crs pic m v (nbr m v j) = c ∨ b.lookup (nbr m v j) = some (crs pic m v (nbr m v j)) ∨ st.1.lookup (nbr m v j) = some (crs pic m v (nbr m v j)) then some st
  else if (st.1.lookup (nbr m v j)).isSome = true then none
  else if told.getD (nbr m v j) 0 ≠ 63 ∧ told.getD (nbr m v j) 0 ≠ crs pic m v (nbr m v j) then none
  else some (st.1 ++ [(nbr m v j, crs pic m v (nbr m v j))], st.2 ++ [(nbr m v j, some v)])
def rowF (pic : List (List Nat)) (m : Nat) (b : List (Nat × Nat)) (told : List Nat) (v c : Nat) : Nat → Sta → Option Sta
  | 0, st => some st
  | j + 1, st => (rowF pic m b told v c j st).bind (askF pic m b told v c j)
def whF (pic : List (List Nat)) (m n : Nat) (b : List (Nat × Nat)) (told : List Nat) (s0 c0 : Nat) : Nat → Option Sta
  | 0 => some ([(s0, c0)], [(s0, none)])
  | p + 1 => (whF pic m n b told s0 c0 p).bind fun st => match st.1[p]? with
    | some (v, c) => rowF pic m b told v c (deg m n v) st
    | none => some st
def okF (pic : List (List Nat)) (m n : Nat) (b : List (Nat × Nat)) (told : List Nat) (s0 c0 : Nat) : Option (List (Nat × Nat)) := (whF pic m n b told s0 c0 (m + n)).map (·.1)
def due (told : List Nat) (s : Nat) : List Nat := if told.getD s 0 = 63 then [97, 98, 99, 100, 101, 102] else [told.getD s 0]
def fB (pic : List (List Nat)) (m n : Nat) (told : List Nat) : Nat → Option (List (Nat × Nat))
  | 0 => some []
  | i + 1 => (fB pic m n told i).bind fun b => if (b.lookup i).isSome = true then some b else ((due told i).findSome? fun c => okF pic m n b told i c).map fun g => b ++ g
/-- a way back to the start -/
structure Wy (ps : List (Nat × Option Nat)) (g : Nat) (as : List Nat) : Prop where
  dw : Dw ps as
  hd : as[0]? = some g
  lst : ∃ r, as.getLast? = some r ∧ (r, none) ∈ ps
  len : as.length ≤ ps.length
  ks : ∀ v ∈ as, v ∈ ps.map (·.1)
section
variable {pic : List (List Nat)} {m n : Nat} {told : List Nat} {b g : List (Nat × Nat)} {s0 c0 v c : Nat} {ps : List (Nat × Option Nat)} {st : Sta}
theorem key_uniq {ps : List (Nat × Option Nat)} {a : Nat} {x y : Option Nat} (nd : (ps.map (·.1)).Nodup) (h1 : (a, x) ∈ ps) (h2 : (a, y) ∈ ps) : x = y := by
  induction ps with
  | nil => cases h1
  | cons p ps ih =>
    rw [List.map_cons, List.nodup_cons] at nd
    rcases List.mem_cons.mp h1 with e1 | h1 <;> rcases List.mem_cons.mp h2 with e2 | h2
    · rw [← e1] at e2; injection e2 with _ e2; exact e2.symm
    · exact absurd (List.mem_map.mpr ⟨_, h2, rfl⟩) (by rw [← e1] at nd; exact nd.1)
    · exact absurd (List.mem_map.mpr ⟨_, h1, rfl⟩) (by rw [← e2] at nd; exact nd.1)
    · exact ih nd.2 h1 h2
theorem dw_uniq (nd : (ps.map (·.1)).Nodup) : ∀ {A A' : List Nat} {a : Nat}, Dw ps (a :: A) → Dw ps (a :: A') → (∃ r, (a :: A).getLast? = some r ∧ (r, none) ∈ ps) → (∃ r, (a :: A').getLast? = some r ∧ (r, none) ∈ ps) → A = A'
  | [], [], a, _, _, _, _ => rfl
  | [], b' :: A', a, _, d', ⟨r, hr, mr⟩, _ => by
    have : a = r := by simpa using hr
    subst this
    cases key_uniq nd mr d'.1
  | b :: A, [], a, d, _, _, ⟨r, hr, mr⟩ => by
    have : a = r := by simpa using hr
    subst this
    cases key_uniq nd mr d.1
  | b :: A, b' :: A', a, d, d', ⟨r, hr, mr⟩, ⟨r', hr', mr'⟩ => by
    have e := key_uniq nd d.1 d'.1
    injection e with e
    subst e
    rw [dw_uniq nd d.2 d'.2 ⟨r, by rw [List.getLast?_cons_cons] at hr; exact hr, mr⟩ ⟨r', by rw [List.getLast?_cons_cons] at hr'; exact hr', mr'⟩]
theorem Wy.uniq (nd : (ps.map (·.1)).Nodup) {x : Nat} {as as' : List Nat} (W : Wy ps x as) (W' : Wy ps x as') : as = as' := by
  cases as with
  | nil => cases W.hd
  | cons a A =>
    cases as' with
    | nil => cases W'.hd
    | cons a' A' =>
      have h1 : a = x := Option.some.inj W.hd
      have h2 : a' = x := Option.some.inj W'.hd
      subst h1 h2
      rw [dw_uniq nd W.dw W'.dw W.lst W'.lst]
theorem rowF_none {j : Nat} (h : rowF pic m b told v c j st = none) : ∀ k, rowF pic m b told v c (j + k) st = none
  | 0 => h
  | k + 1 => by show (rowF pic m b told v c (j + k) st).bind _ = none; rw [rowF_none h k]; rfl
theorem whF_none {p : Nat} (h : whF pic m n b told s0 c0 p = none) : ∀ k, whF pic m n b told s0 c0 (p + k) = none
  | 0 => h
  | k + 1 => by show (whF pic m n b told s0 c0 (p + k)).bind _ = none; rw [whF_none h k]; rfl
theorem whF_fail {p j : Nat} {st0 st : Sta} (h1 : whF pic m n b told s0 c0 p = some st0) (h2 : st0.1[p]? = some (v, c)) (hj : j < deg m n v) (h3 : rowF pic m b told v c j st0 = some st) (h4 : askF pic m b told v c j st = none) : whF pic m n b told s0 c0 (p + 1) = none := by
  show (whF pic m n b told s0 c0 p).bind _ = none
  rw [h1]
  show (match st0.1[p]? with | some (v, c) => rowF pic m b told v c (deg m n v) st0 | none => some st0) = none
  rw [h2]
  have h5 : rowF pic m b told v c (j + 1) st0 = none := by show (rowF pic m b told v c j st0).bind _ = none; rw [h3]; exact h4
  have := rowF_none h5 (deg m n v - (j + 1))
  rw [show j + 1 + (deg m n v - (j + 1)) = deg m n v by omega] at this
  exact this
theorem whF_done {p : Nat} (h1 : whF pic m n b told s0 c0 p = some st) (h2 : p = st.1.length) : ∀ k, whF pic m n b told s0 c0 (p + k) = some st
  | 0 => h1
  | k + 1 => by
    show (whF pic m n b told s0 c0 (p + k)).bind _ = some st
    rw [whF_done h1 h2 k]
    show (match st.1[p + k]? with | some (v, c) => rowF pic m b told v c (deg m n v) st | none => some st) = some st
    rw [List.getElem?_eq_none (by omega)]
theorem okF_done {p : Nat} (h1 : whF pic m n b told s0 c0 p = some st) (h2 : p = st.1.length) (h3 : st.1.length ≤ m + n) : okF pic m n b told s0 c0 = some st.1 := by
  have := whF_done h1 h2 (m + n - p)
  rw [show p + (m + n - p) = m + n by omega] at this
  unfold okF
  rw [this]
  rfl
/-- a chain as it is told -/
def ChL (pic : List (List Nat)) (m n : Nat) (b : List (Nat × Nat)) (told : List Nat) (s0 c0 : Nat) (L : List Nat) : Prop := ∃ (p v c j : Nat) (st0 st : Sta) (as1 : List Nat), whF pic m n b told s0 c0 p = some st0 ∧ st0.1[p]? = some (v, c) ∧ j < deg m n v ∧ p < m + n ∧
  rowF pic m b told v c j st0 = some st ∧ askF pic m b told v c j st = none ∧ (st.2.map (·.1)).Nodup ∧ Wy st.2 v as1 ∧
  ((∃ d as2, st.1.lookup (nbr m v j) = some d ∧ Wy st.2 (nbr m v j) as2 ∧ L = as1.reverse ++ as2) ∨ (st.1.lookup (nbr m v j) = none ∧ L = as1.reverse ++ [nbr m v j]))
theorem ChL.no {L : List Nat} (h : ChL pic m n b told s0 c0 L) : okF pic m n b told s0 c0 = none := by
  obtain ⟨p, v, c, j, st0, st, as1, h1, h2, h3, h4, h5, h6, _⟩ := h
  have := whF_none (whF_fail h1 h2 h3 h5 h6) (m + n - (p + 1))
  rw [show p + 1 + (m + n - (p + 1)) = m + n by omega] at this
  unfold okF
  rw [this]
  rfl
theorem ChL.uniq {L L' : List Nat} (h : ChL pic m n b told s0 c0 L) (h' : ChL pic m n b told s0 c0 L') : L = L' := by
  obtain ⟨p, v, c, j, st0, st, as1, h1, h2, h3, h4, h5, h6, h7, h8, h9⟩ := h
  obtain ⟨p', v', c', j', st0', st', as1', h1', h2', h3', h4', h5', h6', h7', h8', h9'⟩ := h'
  have ep : p = p' := by
    rcases Nat.lt_trichotomy p p' with z | z | z
    · have := whF_none (whF_fail h1 h2 h3 h5 h6) (p' - (p + 1))
      rw [show p + 1 + (p' - (p + 1)) = p' by omega, h1'] at this
      cases this
    · exact z
    · have := whF_none (whF_fail h1' h2' h3' h5' h6') (p - (p' + 1))
      rw [show p' + 1 + (p - (p' + 1)) = p by omega, h1] at this
      cases this
  subst ep
  rw [h1] at h1'
  cases h1'
  rw [h2] at h2'
  cases h2'
  have nx : ∀ {j : Nat} {st : Sta}, rowF pic m b told v c j st0 = some st → askF pic m b told v c j st = none → rowF pic m b told v c (j + 1) st0 = none := fun {j st} a1 a2 => by
    show (rowF pic m b told v c j st0).bind _ = none
    rw [a1]; exact a2
  have ej : j = j' := by
    rcases Nat.lt_trichotomy j j' with z | z | z
    · have := rowF_none (nx h5 h6) (j' - (j + 1))
      rw [show j + 1 + (j' - (j + 1)) = j' by omega, h5'] at this
      cases this
    · exact z
    · have := rowF_none (nx h5' h6') (j - (j' + 1))
      rw [show j' + 1 + (j - (j' + 1)) = j by omega, h5] at this
      cases this
  subst ej
  rw [h5] at h5'
  cases h5'
  have e1 := Wy.uniq h7 h8 h8'
  subst e1
  rcases h9 with ⟨d, as2, a1, a2, a3⟩ | ⟨a1, a3⟩ <;> rcases h9' with ⟨d', as2', a1', a2', a3'⟩ | ⟨a1', a3'⟩
  · rw [a3, a3', Wy.uniq h7 a2 a2']
  · rw [a1] at a1'; cases a1'
  · rw [a1] at a1'; cases a1'
  · rw [a3, a3']
theorem ask_same {j : Nat} (h : crs pic m v (nbr m v j) = c ∨ b.lookup (nbr m v j) = some (crs pic m v (nbr m v j)) ∨ st.1.lookup (nbr m v j) = some (crs pic m v (nbr m v j))) : askF pic m b told v c j st = some st := by unfold askF; rw [if_pos h]
theorem ask_stop1 {j d : Nat} (h1 : crs pic m v (nbr m v j) ≠ c) (h2 : b.lookup (nbr m v j) ≠ some (crs pic m v (nbr m v j))) (h3 : st.1.lookup (nbr m v j) ≠ some (crs pic m v (nbr m v j))) (hd : st.1.lookup (nbr m v j) = some d) : askF pic m b told v c j st = none := by
  unfold askF
  rw [if_neg (fun z => z.elim h1 fun z => z.elim h2 h3), if_pos (by rw [hd]; rfl)]
theorem ask_stop2 {j : Nat} (h1 : crs pic m v (nbr m v j) ≠ c) (h2 : b.lookup (nbr m v j) ≠ some (crs pic m v (nbr m v j))) (hd : st.1.lookup (nbr m v j) = none) (t1 : told.getD (nbr m v j) 0 ≠ 63) (t2 : told.getD (nbr m v j) 0 ≠ crs pic m v (nbr m v j)) : askF pic m b told v c j st = none := by
  unfold askF
  rw [if_neg (fun z => z.elim h1 fun z => z.elim h2 fun z => by rw [hd] at z; cases z), if_neg (by rw [hd]; exact Bool.false_ne_true), if_pos ⟨t1, t2⟩]
theorem ask_add {j : Nat} (h1 : crs pic m v (nbr m v j) ≠ c) (h2 : b.lookup (nbr m v j) ≠ some (crs pic m v (nbr m v j))) (hd : st.1.lookup (nbr m v j) = none) (t : told.getD (nbr m v j) 0 = 63 ∨ told.getD (nbr m v j) 0 = crs pic m v (nbr m v j)) :
    askF pic m b told v c j st = some (st.1 ++ [(nbr m v j, crs pic m v (nbr m v j))], st.2 ++ [(nbr m v j, some v)]) := by
  unfold askF
  rw [if_neg (fun z => z.elim h1 fun z => z.elim h2 fun z => by rw [hd] at z; cases z), if_neg (by rw [hd]; exact Bool.false_ne_true), if_neg (fun z => t.elim z.1 z.2)]
theorem row_next {j : Nat} {st0 st' : Sta} (h : rowF pic m b told v c j st0 = some st) (a : askF pic m b told v c j st = some st') : rowF pic m b told v c (j + 1) st0 = some st' := by
  show (rowF pic m b told v c j st0).bind _ = some st'
  rw [h]; exact a
theorem wh_next {p : Nat} {st0 : Sta} (h1 : whF pic m n b told s0 c0 p = some st0) (h2 : st0.1[p]? = some (v, c)) (h3 : rowF pic m b told v c (deg m n v) st0 = some st) : whF pic m n b told s0 c0 (p + 1) = some st := by
  show (whF pic m n b told s0 c0 p).bind _ = some st
  rw [h1]
  show (match st0.1[p]? with | some (v, c) => rowF pic m b told v c (deg m n v) st0 | none => some st0) = some st
  rw [h2]
  exact h3
theorem fB_none {i : Nat} (h : fB pic m n told i = none) : ∀ k, fB pic m n told (i + k) = none
  | 0 => h
  | k + 1 => by show (fB pic m n told (i + k)).bind _ = none; rw [fB_none h k]; rfl
theorem fB_skip {i : Nat} (h : fB pic m n told i = some b) (l : b.lookup i ≠ none) : fB pic m n told (i + 1) = some b := by
  show (fB pic m n told i).bind _ = some b
  rw [h]
  show (if (b.lookup i).isSome = true then some b else _) = some b
  rw [if_pos (by cases e : b.lookup i with | none => exact absurd e l | some c => rfl)]
theorem fB_set {i : Nat} (h : fB pic m n told i = some b) (l : b.lookup i = none) (o : (due told i).findSome? (fun c => okF pic m n b told i c) = some g) : fB pic m n told (i + 1) = some (b ++ g) := by
  show (fB pic m n told i).bind _ = some (b ++ g)
  rw [h]
  show (if (b.lookup i).isSome = true then some b else _) = some (b ++ g)
  rw [if_neg (by rw [l]; exact Bool.false_ne_true), o]
  rfl
/-- what is told where there is no colouring -/
structure Out (pic : List (List Nat)) (m n : Nat) (told : List Nat) (s0 : Nat) (Ls : List (List Nat)) : Prop where
  ex : ∃ b, fB pic m n told s0 = some b ∧ b.lookup s0 = none ∧ ∀ (i c : Nat) (L : List Nat), (due told s0)[i]? = some c → Ls[i]? = some L → ChL pic m n b told s0 c L
  len : Ls.length = (due told s0).length
theorem Out.stop {s0 : Nat} {Ls : List (List Nat)} (h : Out pic m n told s0 Ls) : fB pic m n told (s0 + 1) = none := by
  obtain ⟨⟨b, h1, h2, h3⟩, h4⟩ := h
  show (fB pic m n told s0).bind _ = none
  rw [h1]
  show (if (b.lookup s0).isSome = true then some b else _) = none
  rw [if_neg (by rw [h2]; exact Bool.false_ne_true)]
  have : (due told s0).findSome? (fun c => okF pic m n b told s0 c) = none := by
    rw [List.findSome?_eq_none_iff]
    intro c hc
    obtain ⟨i, hi⟩ := List.getElem?_of_mem hc
    have il : i < Ls.length := by rw [h4]; exact (List.getElem?_eq_some_iff.mp hi).1
    exact (h3 i c Ls[i] hi (List.getElem?_eq_getElem il)).no
  rw [this]
  rfl
theorem Out.uniq {s0 s0' : Nat} {Ls Ls' : List (List Nat)} (h : Out pic m n told s0 Ls) (h' : Out pic m n told s0' Ls') : s0 = s0' ∧ Ls = Ls' := by
  have e : s0 = s0' := by
    obtain ⟨b, h1, _⟩ := h.ex
    obtain ⟨b', h1', _⟩ := h'.ex
    rcases Nat.lt_trichotomy s0 s0' with z | z | z
    · have := fB_none h.stop (s0' - (s0 + 1))
      rw [show s0 + 1 + (s0' - (s0 + 1)) = s0' by omega, h1'] at this
      cases this
    · exact z
    · have := fB_none h'.stop (s0 - (s0' + 1))
      rw [show s0' + 1 + (s0 - (s0' + 1)) = s0 by omega, h1] at this
      cases this
  subst e
  refine ⟨rfl, ?_⟩
  obtain ⟨b, h1, _, h3⟩ := h.ex
  obtain ⟨b', h1', _, h3'⟩ := h'.ex
  rw [h1] at h1'
  cases h1'
  refine List.ext_getElem (by rw [h.len, h'.len]) fun i a1 a2 => ?_
  have il : i < (due told s0).length := by rw [← h.len]; exact a1
  exact (h3 i _ Ls[i] (List.getElem?_eq_getElem il) (List.getElem?_eq_getElem a1)).uniq (h3' i _ Ls'[i] (List.getElem?_eq_getElem il) (List.getElem?_eq_getElem a2))
end
end Mine

set_option Elab.async false
set_option linter.all false
set_option maxRecDepth 100000
set_option maxHeartbeats 4000000
namespace Mine
open PySem L2
def top (i : Nat) : Stmt := PySem.Challenge.pw_heddle_k48_whole_colours_or_chains.main.body.getD i (.Pass ⟨0, 0, 0, 0⟩)
abbrev s_measured_picture : Stmt := top 6
theorem sc_measured_picture : FnScope ["picture", "ends", "text"] ["picture"] (defScope s_measured_picture) := ⟨rfl, rfl, rfl, by decide +kernel, rfl, by decide +kernel, by decide +kernel⟩
abbrev s_check_threads : Stmt := top 7
theorem sc_check_threads : FnScope ["text", "count", "signs", "sign"] ["text", "count", "signs"] (defScope s_check_threads) := ⟨rfl, rfl, rfl, by decide +kernel, rfl, by decide +kernel, by decide +kernel⟩
abbrev s_way_to : Stmt := top 9
theorem sc_way_to : FnScope ["ahead", "goal", "way"] ["ahead", "goal"] (defScope s_way_to) := ⟨rfl, rfl, rfl, by decide +kernel, rfl, by decide +kernel, by decide +kernel⟩
abbrev s_first_colouring : Stmt := top 11
theorem sc_first_colouring : FnScope ["picture", "warp", "weft", "size", "told", "seen_along", "borne", "strand", "chains", "threads"] ["picture", "warp", "weft"] (defScope s_first_colouring) := ⟨rfl, rfl, rfl, by decide +kernel, rfl, by decide +kernel, by decide +kernel⟩
abbrev s_crossings_of : Stmt := top 12
theorem sc_crossings_of : FnScope ["picture", "ends", "seen_along", "end", "text"] ["picture"] (defScope s_crossings_of) := ⟨rfl, rfl, rfl, by decide +kernel, rfl, by decide +kernel, by decide +kernel⟩
abbrev s_settle_strand : Stmt := top 13
theorem sc_settle_strand : FnScope ["seen_along", "told", "borne", "strand", "chains", "colours", "colour", "given", "chain"] ["seen_along", "told", "borne", "strand"] (defScope s_settle_strand) := ⟨rfl, rfl, rfl, by decide +kernel, rfl, by decide +kernel, by decide +kernel⟩
abbrev s_chain_from : Stmt := top 14
theorem sc_chain_from : FnScope ["seen_along", "told", "borne", "given", "strand", "ahead", "found", "place", "one", "other", "seen"] ["seen_along", "told", "borne", "given", "strand"] (defScope s_chain_from) := ⟨rfl, rfl, rfl, by decide +kernel, rfl, by decide +kernel, by decide +kernel⟩
abbrev s_law_numbers : Stmt := top 16
theorem sc_law_numbers : FnScope ["script", "many", "found", "step", "k"] ["script", "many"] (defScope s_law_numbers) := ⟨rfl, rfl, rfl, by decide +kernel, rfl, by decide +kernel, by decide +kernel⟩
abbrev s_law_bits : Stmt := top 17
theorem sc_law_bits : FnScope ["numbers", "wide", "high", "rows", "j", "row", "k", "at"] ["numbers", "wide", "high"] (defScope s_law_bits) := ⟨rfl, rfl, rfl, by decide +kernel, rfl, by decide +kernel, by decide +kernel⟩
abbrev s_law_threads : Stmt := top 18
theorem sc_law_threads : FnScope ["numbers", "first", "count", "span", "letters"] ["numbers", "first", "count", "span"] (defScope s_law_threads) := ⟨rfl, rfl, rfl, by decide +kernel, rfl, by decide +kernel, by decide +kernel⟩
abbrev s_law_shows : Stmt := top 19
theorem sc_law_shows : FnScope ["given", "warp", "weft", "rows", "j", "row", "k"] ["given", "warp", "weft"] (defScope s_law_shows) := ⟨rfl, rfl, rfl, by decide +kernel, rfl, by decide +kernel, by decide +kernel⟩
abbrev s_law_picture : Stmt := top 20
theorem sc_law_picture : FnScope ["numbers", "wide", "high", "span", "warp", "weft", "rows", "made", "j", "row", "k", "number", "sign"] ["numbers", "wide", "high", "span", "warp", "weft"] (defScope s_law_picture) := ⟨rfl, rfl, rfl, by decide +kernel, rfl, by decide +kernel, by decide +kernel⟩
abbrev s_law_told : Stmt := top 21
theorem sc_law_told : FnScope ["threads", "numbers", "first", "way", "span", "row", "k", "number", "sign"] ["threads", "numbers", "first", "way", "span"] (defScope s_law_told) := ⟨rfl, rfl, rfl, by decide +kernel, rfl, by decide +kernel, by decide +kernel⟩
abbrev s_law_whole_number : Stmt := top 22
theorem sc_law_whole_number : FnScope ["found"] ["found"] (defScope s_law_whole_number) := ⟨rfl, rfl, rfl, by decide +kernel, rfl, by decide +kernel, by decide +kernel⟩
abbrev s_law_seen : Stmt := top 23
theorem sc_law_seen : FnScope ["picture", "wide", "one", "other"] ["picture", "wide", "one", "other"] (defScope s_law_seen) := ⟨rfl, rfl, rfl, by decide +kernel, rfl, by decide +kernel, by decide +kernel⟩
abbrev s_law_chain_right : Stmt := top 24
theorem sc_law_chain_right : FnScope ["picture", "told", "strand", "colour", "chain", "wide", "one", "bears", "k", "seen", "last"] ["picture", "told", "strand", "colour", "chain"] (defScope s_law_chain_right) := ⟨rfl, rfl, rfl, by decide +kernel, rfl, by decide +kernel, by decide +kernel⟩
abbrev s_law_none_right : Stmt := top 25
theorem sc_law_none_right : FnScope ["picture", "told", "found", "due", "k", "pair"] ["picture", "told", "found"] (defScope s_law_none_right) := ⟨rfl, rfl, rfl, by decide +kernel, rfl, by decide +kernel, by decide +kernel⟩
abbrev s_law_fits : Stmt := top 26
theorem sc_law_fits : FnScope ["picture", "told", "warp", "weft", "both", "k", "j"] ["picture", "told", "warp", "weft"] (defScope s_law_fits) := ⟨rfl, rfl, rfl, by decide +kernel, rfl, by decide +kernel, by decide +kernel⟩
abbrev s_law : Stmt := top 27
theorem sc_law : FnScope ["script", "numbers", "most", "wide", "high", "span", "warp", "weft", "picture", "handed", "found", "kept", "pair"] ["script"] (defScope s_law) := ⟨rfl, rfl, rfl, by decide +kernel, rfl, by decide +kernel, by decide +kernel⟩
structure Adr where
  f_measured_picture : Addr
  d_measured_picture : FuncData
  f_check_threads : Addr
  d_check_threads : FuncData
  f_way_to : Addr
  d_way_to : FuncData
  f_first_colouring : Addr
  d_first_colouring : FuncData
  f_crossings_of : Addr
  d_crossings_of : FuncData
  f_settle_strand : Addr
  d_settle_strand : FuncData
  f_chain_from : Addr
  d_chain_from : FuncData
  f_law_numbers : Addr
  d_law_numbers : FuncData
  f_law_bits : Addr
  d_law_bits : FuncData
  f_law_threads : Addr
  d_law_threads : FuncData
  f_law_shows : Addr
  d_law_shows : FuncData
  f_law_picture : Addr
  d_law_picture : FuncData
  f_law_told : Addr
  d_law_told : FuncData
  f_law_whole_number : Addr
  d_law_whole_number : FuncData
  f_law_seen : Addr
  d_law_seen : FuncData
  f_law_chain_right : Addr
  d_law_chain_right : FuncData
  f_law_none_right : Addr
  d_law_none_right : FuncData
  f_law_fits : Addr
  d_law_fits : FuncData
  f_law : Addr
  d_law : FuncData
  e_WeaveError : Addr
  e_NoColour : Addr
structure Txt (K : PySem.W.Frag) (mg : Str → Option Value) (t : Adr) : Prop where
  measured_picture : Df K mg "measured_picture" s_measured_picture ["picture"] t.f_measured_picture t.d_measured_picture
  check_threads : Df K mg "check_threads" s_check_threads ["text", "count", "signs"] t.f_check_threads t.d_check_threads
  way_to : Df K mg "way_to" s_way_to ["ahead", "goal"] t.f_way_to t.d_way_to
  first_colouring : Df K mg "first_colouring" s_first_colouring ["picture", "warp", "weft"] t.f_first_colouring t.d_first_colouring
  crossings_of : Df K mg "crossings_of" s_crossings_of ["picture"] t.f_crossings_of t.d_crossings_of
  settle_strand : Df K mg "settle_strand" s_settle_strand ["seen_along", "told", "borne", "strand"] t.f_settle_strand t.d_settle_strand
  chain_from : Df K mg "chain_from" s_chain_from ["seen_along", "told", "borne", "given", "strand"] t.f_chain_from t.d_chain_from
  law_numbers : Df K mg "_law_numbers" s_law_numbers ["script", "many"] t.f_law_numbers t.d_law_numbers
  law_bits : Df K mg "_law_bits" s_law_bits ["numbers", "wide", "high"] t.f_law_bits t.d_law_bits
  law_threads : Df K mg "_law_threads" s_law_threads ["numbers", "first", "count", "span"] t.f_law_threads t.d_law_threads
  law_shows : Df K mg "_law_shows" s_law_shows ["given", "warp", "weft"] t.f_law_shows t.d_law_shows
  law_picture : Df K mg "_law_picture" s_law_picture ["numbers", "wide", "high", "span", "warp", "weft"] t.f_law_picture t.d_law_picture
  law_told : Df K mg "_law_told" s_law_told ["threads", "numbers", "first", "way", "span"] t.f_law_told t.d_law_told
  law_whole_number : Df K mg "_law_whole_number" s_law_whole_number ["found"] t.f_law_whole_number t.d_law_whole_number
  law_seen : Df K mg "_law_seen" s_law_seen ["picture", "wide", "one", "other"] t.f_law_seen t.d_law_seen
  law_chain_right : Df K mg "_law_chain_right" s_law_chain_right ["picture", "told", "strand", "colour", "chain"] t.f_law_chain_right t.d_law_chain_right
  law_none_right : Df K mg "_law_none_right" s_law_none_right ["picture", "told", "found"] t.f_law_none_right t.d_law_none_right
  law_fits : Df K mg "_law_fits" s_law_fits ["picture", "told", "warp", "weft"] t.f_law_fits t.d_law_fits
  law : Df K mg "law" s_law ["script"] t.f_law t.d_law
  b_bool : mg "bool" = none
  b_enumerate : mg "enumerate" = none
  b_int : mg "int" = none
  b_isinstance : mg "isinstance" = none
  b_len : mg "len" = none
  b_list : mg "list" = none
  b_range : mg "range" = none
  b_reversed : mg "reversed" = none
  b_str : mg "str" = none
  b_tuple : mg "tuple" = none
  c_MOST_STRANDS : ∃ tk, mg "MOST_STRANDS" = some (.int 40 tk)
  c_COLOURS : ∃ tk, mg "COLOURS" = some (.str "abcdef" tk)
  k_WeaveError : mg "WeaveError" = some (.ref t.e_WeaveError)
  i_WeaveError : PySem.W.isClsIn K t.e_WeaveError = true
  j_WeaveError : PySem.W.typeIn K (.ref t.e_WeaveError) = some (.type "type")
  k_NoColour : mg "NoColour" = some (.ref t.e_NoColour)
  i_NoColour : PySem.W.isClsIn K t.e_NoColour = true
  j_NoColour : PySem.W.typeIn K (.ref t.e_NoColour) = some (.type "type")
theorem txt_mk {K : PySem.W.Frag} {h : Heap} {mg : Str → Option Value} {f_measured_picture : Addr} {od_measured_picture an_measured_picture : Option Addr} {sl_measured_picture : Array (Option Value)} {oc_measured_picture kV_measured_picture dc_measured_picture pm_measured_picture cd_measured_picture ct_measured_picture : Value}
    {f_check_threads : Addr} {od_check_threads an_check_threads : Option Addr} {sl_check_threads : Array (Option Value)} {oc_check_threads kV_check_threads dc_check_threads pm_check_threads cd_check_threads ct_check_threads : Value}
    {f_way_to : Addr} {od_way_to an_way_to : Option Addr} {sl_way_to : Array (Option Value)} {oc_way_to kV_way_to dc_way_to pm_way_to cd_way_to ct_way_to : Value}
    {f_first_colouring : Addr} {od_first_colouring an_first_colouring : Option Addr} {sl_first_colouring : Array (Option Value)} {oc_first_colouring kV_first_colouring dc_first_colouring pm_first_colouring cd_first_colouring ct_first_colouring : Value}
    {f_crossings_of : Addr} {od_crossings_of an_crossings_of : Option Addr} {sl_crossings_of : Array (Option Value)} {oc_crossings_of kV_crossings_of dc_crossings_of pm_crossings_of cd_crossings_of ct_crossings_of : Value}
    {f_settle_strand : Addr} {od_settle_strand an_settle_strand : Option Addr} {sl_settle_strand : Array (Option Value)} {oc_settle_strand kV_settle_strand dc_settle_strand pm_settle_strand cd_settle_strand ct_settle_strand : Value}
    {f_chain_from : Addr} {od_chain_from an_chain_from : Option Addr} {sl_chain_from : Array (Option Value)} {oc_chain_from kV_chain_from dc_chain_from pm_chain_from cd_chain_from ct_chain_from : Value}
    {f_law_numbers : Addr} {od_law_numbers an_law_numbers : Option Addr} {sl_law_numbers : Array (Option Value)} {oc_law_numbers kV_law_numbers dc_law_numbers pm_law_numbers cd_law_numbers ct_law_numbers : Value}
    {f_law_bits : Addr} {od_law_bits an_law_bits : Option Addr} {sl_law_bits : Array (Option Value)} {oc_law_bits kV_law_bits dc_law_bits pm_law_bits cd_law_bits ct_law_bits : Value}
    {f_law_threads : Addr} {od_law_threads an_law_threads : Option Addr} {sl_law_threads : Array (Option Value)} {oc_law_threads kV_law_threads dc_law_threads pm_law_threads cd_law_threads ct_law_threads : Value}
    {f_law_shows : Addr} {od_law_shows an_law_shows : Option Addr} {sl_law_shows : Array (Option Value)} {oc_law_shows kV_law_shows dc_law_shows pm_law_shows cd_law_shows ct_law_shows : Value}
    {f_law_picture : Addr} {od_law_picture an_law_picture : Option Addr} {sl_law_picture : Array (Option Value)} {oc_law_picture kV_law_picture dc_law_picture pm_law_picture cd_law_picture ct_law_picture : Value}
    {f_law_told : Addr} {od_law_told an_law_told : Option Addr} {sl_law_told : Array (Option Value)} {oc_law_told kV_law_told dc_law_told pm_law_told cd_law_told ct_law_told : Value}
    {f_law_whole_number : Addr} {od_law_whole_number an_law_whole_number : Option Addr} {sl_law_whole_number : Array (Option Value)} {oc_law_whole_number kV_law_whole_number dc_law_whole_number pm_law_whole_number cd_law_whole_number ct_law_whole_number : Value}
    {f_law_seen : Addr} {od_law_seen an_law_seen : Option Addr} {sl_law_seen : Array (Option Value)} {oc_law_seen kV_law_seen dc_law_seen pm_law_seen cd_law_seen ct_law_seen : Value}
    {f_law_chain_right : Addr} {od_law_chain_right an_law_chain_right : Option Addr} {sl_law_chain_right : Array (Option Value)} {oc_law_chain_right kV_law_chain_right dc_law_chain_right pm_law_chain_right cd_law_chain_right ct_law_chain_right : Value}
    {f_law_none_right : Addr} {od_law_none_right an_law_none_right : Option Addr} {sl_law_none_right : Array (Option Value)} {oc_law_none_right kV_law_none_right dc_law_none_right pm_law_none_right cd_law_none_right ct_law_none_right : Value}
    {f_law_fits : Addr} {od_law_fits an_law_fits : Option Addr} {sl_law_fits : Array (Option Value)} {oc_law_fits kV_law_fits dc_law_fits pm_law_fits cd_law_fits ct_law_fits : Value}
    {f_law : Addr} {od_law an_law : Option Addr} {sl_law : Array (Option Value)} {oc_law kV_law dc_law pm_law cd_law ct_law : Value}
    {q_MOST_STRANDS : Tok}
    {q_COLOURS : Tok}
    {e_WeaveError : Addr}
    {e_NoColour : Addr}
    (X : K.In h) (G : h.Ns mainGlobals mg)
    (a_measured_picture : PySem.W.nsIn K mainGlobals "measured_picture" = some (some (.ref f_measured_picture)))
    (l_measured_picture : K.lookup f_measured_picture = some ⟨oc_measured_picture, od_measured_picture, .func (PySem.W.fnOf "measured_picture" "measured_picture" (defArgs s_measured_picture) (defBody s_measured_picture) (defScope s_measured_picture) .none kV_measured_picture dc_measured_picture pm_measured_picture an_measured_picture cd_measured_picture ct_measured_picture), sl_measured_picture⟩)
    (c_measured_picture : PySem.W.codeIn K cd_measured_picture "measured_picture" = true)
    (k_measured_picture : PySem.W.keepIn K (.ref f_measured_picture) = true)
    (a_check_threads : PySem.W.nsIn K mainGlobals "check_threads" = some (some (.ref f_check_threads)))
    (l_check_threads : K.lookup f_check_threads = some ⟨oc_check_threads, od_check_threads, .func (PySem.W.fnOf "check_threads" "check_threads" (defArgs s_check_threads) (defBody s_check_threads) (defScope s_check_threads) .none kV_check_threads dc_check_threads pm_check_threads an_check_threads cd_check_threads ct_check_threads), sl_check_threads⟩)
    (c_check_threads : PySem.W.codeIn K cd_check_threads "check_threads" = true)
    (k_check_threads : PySem.W.keepIn K (.ref f_check_threads) = true)
    (a_way_to : PySem.W.nsIn K mainGlobals "way_to" = some (some (.ref f_way_to)))
    (l_way_to : K.lookup f_way_to = some ⟨oc_way_to, od_way_to, .func (PySem.W.fnOf "way_to" "way_to" (defArgs s_way_to) (defBody s_way_to) (defScope s_way_to) .none kV_way_to dc_way_to pm_way_to an_way_to cd_way_to ct_way_to), sl_way_to⟩)
    (c_way_to : PySem.W.codeIn K cd_way_to "way_to" = true)
    (k_way_to : PySem.W.keepIn K (.ref f_way_to) = true)
    (a_first_colouring : PySem.W.nsIn K mainGlobals "first_colouring" = some (some (.ref f_first_colouring)))
    (l_first_colouring : K.lookup f_first_colouring = some ⟨oc_first_colouring, od_first_colouring, .func (PySem.W.fnOf "first_colouring" "first_colouring" (defArgs s_first_colouring) (defBody s_first_colouring) (defScope s_first_colouring) .none kV_first_colouring dc_first_colouring pm_first_colouring an_first_colouring cd_first_colouring ct_first_colouring), sl_first_colouring⟩)
    (c_first_colouring : PySem.W.codeIn K cd_first_colouring "first_colouring" = true)
    (k_first_colouring : PySem.W.keepIn K (.ref f_first_colouring) = true)
    (a_crossings_of : PySem.W.nsIn K mainGlobals "crossings_of" = some (some (.ref f_crossings_of)))
    (l_crossings_of : K.lookup f_crossings_of = some ⟨oc_crossings_of, od_crossings_of, .func (PySem.W.fnOf "crossings_of" "crossings_of" (defArgs s_crossings_of) (defBody s_crossings_of) (defScope s_crossings_of) .none kV_crossings_of dc_crossings_of pm_crossings_of an_crossings_of cd_crossings_of ct_crossings_of), sl_crossings_of⟩)
    (c_crossings_of : PySem.W.codeIn K cd_crossings_of "crossings_of" = true)
    (k_crossings_of : PySem.W.keepIn K (.ref f_crossings_of) = true)
    (a_settle_strand : PySem.W.nsIn K mainGlobals "settle_strand" = some (some (.ref f_settle_strand)))
    (l_settle_strand : K.lookup f_settle_strand = some ⟨oc_settle_strand, od_settle_strand, .func (PySem.W.fnOf "settle_strand" "settle_strand" (defArgs s_settle_strand) (defBody s_settle_strand) (defScope s_settle_strand) .none kV_settle_strand dc_settle_strand pm_settle_strand an_settle_strand cd_settle_strand ct_settle_strand), sl_settle_strand⟩)
    (c_settle_strand : PySem.W.codeIn K cd_settle_strand "settle_strand" = true)
    (k_settle_strand : PySem.W.keepIn K (.ref f_settle_strand) = true)
    (a_chain_from : PySem.W.nsIn K mainGlobals "chain_from" = some (some (.ref f_chain_from)))
    (l_chain_from : K.lookup f_chain_from = some ⟨oc_chain_from, od_chain_from, .func (PySem.W.fnOf "chain_from" "chain_from" (defArgs s_chain_from) (defBody s_chain_from) (defScope s_chain_from) .none kV_chain_from dc_chain_from pm_chain_from an_chain_from cd_chain_from ct_chain_from), sl_chain_from⟩)
    (c_chain_from : PySem.W.codeIn K cd_chain_from "chain_from" = true)
    (k_chain_from : PySem.W.keepIn K (.ref f_chain_from) = true)
    (a_law_numbers : PySem.W.nsIn K mainGlobals "_law_numbers" = some (some (.ref f_law_numbers)))
    (l_law_numbers : K.lookup f_law_numbers = some ⟨oc_law_numbers, od_law_numbers, .func (PySem.W.fnOf "_law_numbers" "_law_numbers" (defArgs s_law_numbers) (defBody s_law_numbers) (defScope s_law_numbers) .none kV_law_numbers dc_law_numbers pm_law_numbers an_law_numbers cd_law_numbers ct_law_numbers), sl_law_numbers⟩)
    (c_law_numbers : PySem.W.codeIn K cd_law_numbers "_law_numbers" = true)
    (k_law_numbers : PySem.W.keepIn K (.ref f_law_numbers) = true)
    (a_law_bits : PySem.W.nsIn K mainGlobals "_law_bits" = some (some (.ref f_law_bits)))
    (l_law_bits : K.lookup f_law_bits = some ⟨oc_law_bits, od_law_bits, .func (PySem.W.fnOf "_law_bits" "_law_bits" (defArgs s_law_bits) (defBody s_law_bits) (defScope s_law_bits) .none kV_law_bits dc_law_bits pm_law_bits an_law_bits cd_law_bits ct_law_bits), sl_law_bits⟩)
    (c_law_bits : PySem.W.codeIn K cd_law_bits "_law_bits" = true)
    (k_law_bits : PySem.W.keepIn K (.ref f_law_bits) = true)
    (a_law_threads : PySem.W.nsIn K mainGlobals "_law_threads" = some (some (.ref f_law_threads)))
    (l_law_threads : K.lookup f_law_threads = some ⟨oc_law_threads, od_law_threads, .func (PySem.W.fnOf "_law_threads" "_law_threads" (defArgs s_law_threads) (defBody s_law_threads) (defScope s_law_threads) .none kV_law_threads dc_law_threads pm_law_threads an_law_threads cd_law_threads ct_law_threads), sl_law_threads⟩)
    (c_law_threads : PySem.W.codeIn K cd_law_threads "_law_threads" = true)
    (k_law_threads : PySem.W.keepIn K (.ref f_law_threads) = true)
    (a_law_shows : PySem.W.nsIn K mainGlobals "_law_shows" = some (some (.ref f_law_shows)))
    (l_law_shows : K.lookup f_law_shows = some ⟨oc_law_shows, od_law_shows, .func (PySem.W.fnOf "_law_shows" "_law_shows" (defArgs s_law_shows) (defBody s_law_shows) (defScope s_law_shows) .none kV_law_shows dc_law_shows pm_law_shows an_law_shows cd_law_shows ct_law_shows), sl_law_shows⟩)
    (c_law_shows : PySem.W.codeIn K cd_law_shows "_law_shows" = true)
    (k_law_shows : PySem.W.keepIn K (.ref f_law_shows) = true)
    (a_law_picture : PySem.W.nsIn K mainGlobals "_law_picture" = some (some (.ref f_law_picture)))
    (l_law_picture : K.lookup f_law_picture = some ⟨oc_law_picture, od_law_picture, .func (PySem.W.fnOf "_law_picture" "_law_picture" (defArgs s_law_picture) (defBody s_law_picture) (defScope s_law_picture) .none kV_law_picture dc_law_picture pm_law_picture an_law_picture cd_law_picture ct_law_picture), sl_law_picture⟩)
    (c_law_picture : PySem.W.codeIn K cd_law_picture "_law_picture" = true)
    (k_law_picture : PySem.W.keepIn K (.ref f_law_picture) = true)
    (a_law_told : PySem.W.nsIn K mainGlobals "_law_told" = some (some (.ref f_law_told)))
    (l_law_told : K.lookup f_law_told = some ⟨oc_law_told, od_law_told, .func (PySem.W.fnOf "_law_told" "_law_told" (defArgs s_law_told) (defBody s_law_told) (defScope s_law_told) .none kV_law_told dc_law_told pm_law_told an_law_told cd_law_told ct_law_told), sl_law_told⟩)
    (c_law_told : PySem.W.codeIn K cd_law_told "_law_told" = true)
    (k_law_told : PySem.W.keepIn K (.ref f_law_told) = true)
    (a_law_whole_number : PySem.W.nsIn K mainGlobals "_law_whole_number" = some (some (.ref f_law_whole_number)))
    (l_law_whole_number : K.lookup f_law_whole_number = some ⟨oc_law_whole_number, od_law_whole_number, .func (PySem.W.fnOf "_law_whole_number" "_law_whole_number" (defArgs s_law_whole_number) (defBody s_law_whole_number) (defScope s_law_whole_number) .none kV_law_whole_number dc_law_whole_number pm_law_whole_number an_law_whole_number cd_law_whole_number ct_law_whole_number), sl_law_whole_number⟩)
    (c_law_whole_number : PySem.W.codeIn K cd_law_whole_number "_law_whole_number" = true)
    (k_law_whole_number : PySem.W.keepIn K (.ref f_law_whole_number) = true)
    (a_law_seen : PySem.W.nsIn K mainGlobals "_law_seen" = some (some (.ref f_law_seen)))
    (l_law_seen : K.lookup f_law_seen = some ⟨oc_law_seen, od_law_seen, .func (PySem.W.fnOf "_law_seen" "_law_seen" (defArgs s_law_seen) (defBody s_law_seen) (defScope s_law_seen) .none kV_law_seen dc_law_seen pm_law_seen an_law_seen cd_law_seen ct_law_seen), sl_law_seen⟩)
    (c_law_seen : PySem.W.codeIn K cd_law_seen "_law_seen" = true)
    (k_law_seen : PySem.W.keepIn K (.ref f_law_seen) = true)
    (a_law_chain_right : PySem.W.nsIn K mainGlobals "_law_chain_right" = some (some (.ref f_law_chain_right)))
    (l_law_chain_right : K.lookup f_law_chain_right = some ⟨oc_law_chain_right, od_law_chain_right, .func (PySem.W.fnOf "_law_chain_right" "_law_chain_right" (defArgs s_law_chain_right) (defBody s_law_chain_right) (defScope s_law_chain_right) .none kV_law_chain_right dc_law_chain_right pm_law_chain_right an_law_chain_right cd_law_chain_right ct_law_chain_right), sl_law_chain_right⟩)
    (c_law_chain_right : PySem.W.codeIn K cd_law_chain_right "_law_chain_right" = true)
    (k_law_chain_right : PySem.W.keepIn K (.ref f_law_chain_right) = true)
    (a_law_none_right : PySem.W.nsIn K mainGlobals "_law_none_right" = some (some (.ref f_law_none_right)))
    (l_law_none_right : K.lookup f_law_none_right = some ⟨oc_law_none_right, od_law_none_right, .func (PySem.W.fnOf "_law_none_right" "_law_none_right" (defArgs s_law_none_right) (defBody s_law_none_right) (defScope s_law_none_right) .none kV_law_none_right dc_law_none_right pm_law_none_right an_law_none_right cd_law_none_right ct_law_none_right), sl_law_none_right⟩)
    (c_law_none_right : PySem.W.codeIn K cd_law_none_right "_law_none_right" = true)
    (k_law_none_right : PySem.W.keepIn K (.ref f_law_none_right) = true)
    (a_law_fits : PySem.W.nsIn K mainGlobals "_law_fits" = some (some (.ref f_law_fits)))
    (l_law_fits : K.lookup f_law_fits = some ⟨oc_law_fits, od_law_fits, .func (PySem.W.fnOf "_law_fits" "_law_fits" (defArgs s_law_fits) (defBody s_law_fits) (defScope s_law_fits) .none kV_law_fits dc_law_fits pm_law_fits an_law_fits cd_law_fits ct_law_fits), sl_law_fits⟩)
    (c_law_fits : PySem.W.codeIn K cd_law_fits "_law_fits" = true)
    (k_law_fits : PySem.W.keepIn K (.ref f_law_fits) = true)
    (a_law : PySem.W.nsIn K mainGlobals "law" = some (some (.ref f_law)))
    (l_law : K.lookup f_law = some ⟨oc_law, od_law, .func (PySem.W.fnOf "law" "law" (defArgs s_law) (defBody s_law) (defScope s_law) .none kV_law dc_law pm_law an_law cd_law ct_law), sl_law⟩)
    (c_law : PySem.W.codeIn K cd_law "law" = true)
    (k_law : PySem.W.keepIn K (.ref f_law) = true)
    (z_bool : PySem.W.nsIn K mainGlobals "bool" = some none)
    (z_enumerate : PySem.W.nsIn K mainGlobals "enumerate" = some none)
    (z_int : PySem.W.nsIn K mainGlobals "int" = some none)
    (z_isinstance : PySem.W.nsIn K mainGlobals "isinstance" = some none)
    (z_len : PySem.W.nsIn K mainGlobals "len" = some none)
    (z_list : PySem.W.nsIn K mainGlobals "list" = some none)
    (z_range : PySem.W.nsIn K mainGlobals "range" = some none)
    (z_reversed : PySem.W.nsIn K mainGlobals "reversed" = some none)
    (z_str : PySem.W.nsIn K mainGlobals "str" = some none)
    (z_tuple : PySem.W.nsIn K mainGlobals "tuple" = some none)
    (x_MOST_STRANDS : PySem.W.nsIn K mainGlobals "MOST_STRANDS" = some (some (.int 40 q_MOST_STRANDS)))
    (x_COLOURS : PySem.W.nsIn K mainGlobals "COLOURS" = some (some (.str "abcdef" q_COLOURS)))
    (n_WeaveError : PySem.W.nsIn K mainGlobals "WeaveError" = some (some (.ref e_WeaveError)))
    (n_NoColour : PySem.W.nsIn K mainGlobals "NoColour" = some (some (.ref e_NoColour)))
    (y9_WeaveError : PySem.W.isClsIn K e_WeaveError = true)
    (y10_WeaveError : PySem.W.typeIn K (.ref e_WeaveError) = some (.type "type"))
    (y9_NoColour : PySem.W.isClsIn K e_NoColour = true)
    (y10_NoColour : PySem.W.typeIn K (.ref e_NoColour) = some (.type "type")) :
    Txt K mg ⟨f_measured_picture, PySem.W.fnOf "measured_picture" "measured_picture" (defArgs s_measured_picture) (defBody s_measured_picture) (defScope s_measured_picture) .none kV_measured_picture dc_measured_picture pm_measured_picture an_measured_picture cd_measured_picture ct_measured_picture, f_check_threads, PySem.W.fnOf "check_threads" "check_threads" (defArgs s_check_threads) (defBody s_check_threads) (defScope s_check_threads) .none kV_check_threads dc_check_threads pm_check_threads an_check_threads cd_check_threads ct_check_threads, f_way_to, PySem.W.fnOf "way_to" "way_to" (defArgs s_way_to) (defBody s_way_to) (defScope s_way_to) .none kV_way_to dc_way_to pm_way_to an_way_to cd_way_to ct_way_to, f_first_colouring, PySem.W.fnOf "first_colouring" "first_colouring" (defArgs s_first_colouring) (defBody s_first_colouring) (defScope s_first_colouring) .none kV_first_colouring dc_first_colouring pm_first_colouring an_first_colouring cd_first_colouring ct_first_colouring, f_crossings_of, PySem.W.fnOf "crossings_of" "crossings_of" (defArgs s_crossings_of) (defBody s_crossings_of) (defScope s_crossings_of) .none kV_crossings_of dc_crossings_of pm_crossings_of an_crossings_of cd_crossings_of ct_crossings_of, f_settle_strand, PySem.W.fnOf "settle_strand" "settle_strand" (defArgs s_settle_strand) (defBody s_settle_strand) (defScope s_settle_strand) .none kV_settle_strand dc_settle_strand pm_settle_strand an_settle_strand cd_settle_strand ct_settle_strand, f_chain_from, PySem.W.fnOf "chain_from" "chain_from" (defArgs s_chain_from) (defBody s_chain_from) (defScope s_chain_from) .none kV_chain_from dc_chain_from pm_chain_from an_chain_from cd_chain_from ct_chain_from, f_law_numbers, PySem.W.fnOf "_law_numbers" "_law_numbers" (defArgs s_law_numbers) (defBody s_law_numbers) (defScope s_law_numbers) .none kV_law_numbers dc_law_numbers pm_law_numbers an_law_numbers cd_law_numbers ct_law_numbers, f_law_bits, PySem.W.fnOf "_law_bits" "_law_bits" (defArgs s_law_bits) (defBody s_law_bits) (defScope s_law_bits) .none kV_law_bits dc_law_bits pm_law_bits an_law_bits cd_law_bits ct_law_bits, f_law_threads, PySem.W.fnOf "_law_threads" "_law_threads" (defArgs s_law_threads) (defBody s_law_threads) (defScope s_law_threads) .none kV_law_threads dc_law_threads pm_law_threads an_law_threads cd_law_threads ct_law_threads, f_law_shows, PySem.W.fnOf "_law_shows" "_law_shows" (defArgs s_law_shows) (defBody s_law_shows) (defScope s_law_shows) .none kV_law_shows dc_law_shows pm_law_shows an_law_shows cd_law_shows ct_law_shows, f_law_picture, PySem.W.fnOf "_law_picture" "_law_picture" (defArgs s_law_picture) (defBody s_law_picture) (defScope s_law_picture) .none kV_law_picture dc_law_picture pm_law_picture an_law_picture cd_law_picture ct_law_picture, f_law_told, PySem.W.fnOf "_law_told" "_law_told" (defArgs s_law_told) (defBody s_law_told) (defScope s_law_told) .none kV_law_told dc_law_told pm_law_told an_law_told cd_law_told ct_law_told, f_law_whole_number, PySem.W.fnOf "_law_whole_number" "_law_whole_number" (defArgs s_law_whole_number) (defBody s_law_whole_number) (defScope s_law_whole_number) .none kV_law_whole_number dc_law_whole_number pm_law_whole_number an_law_whole_number cd_law_whole_number ct_law_whole_number, f_law_seen, PySem.W.fnOf "_law_seen" "_law_seen" (defArgs s_law_seen) (defBody s_law_seen) (defScope s_law_seen) .none kV_law_seen dc_law_seen pm_law_seen an_law_seen cd_law_seen ct_law_seen, f_law_chain_right, PySem.W.fnOf "_law_chain_right" "_law_chain_right" (defArgs s_law_chain_right) (defBody s_law_chain_right) (defScope s_law_chain_right) .none kV_law_chain_right dc_law_chain_right pm_law_chain_right an_law_chain_right cd_law_chain_right ct_law_chain_right, f_law_none_right, PySem.W.fnOf "_law_none_right" "_law_none_right" (defArgs s_law_none_right) (defBody s_law_none_right) (defScope s_law_none_right) .none kV_law_none_right dc_law_none_right pm_law_none_right an_law_none_right cd_law_none_right ct_law_none_right, f_law_fits, PySem.W.fnOf "_law_fits" "_law_fits" (defArgs s_law_fits) (defBody s_law_fits) (defScope s_law_fits) .none kV_law_fits dc_law_fits pm_law_fits an_law_fits cd_law_fits ct_law_fits, f_law, PySem.W.fnOf "law" "law" (defArgs s_law) (defBody s_law) (defScope s_law) .none kV_law dc_law pm_law an_law cd_law ct_law, e_WeaveError, e_NoColour⟩ :=
  ⟨⟨fun_mk (st := s_measured_picture) l_measured_picture c_measured_picture k_measured_picture, PySem.W.mg_of X G a_measured_picture, (fun_mk (st := s_measured_picture) l_measured_picture c_measured_picture k_measured_picture).binds (ps := ["picture"]) fun _ _ _ _ _ _ us hl => match us, hl with | [_], _ => rfl⟩,
   ⟨fun_mk (st := s_check_threads) l_check_threads c_check_threads k_check_threads, PySem.W.mg_of X G a_check_threads, (fun_mk (st := s_check_threads) l_check_threads c_check_threads k_check_threads).binds (ps := ["text", "count", "signs"]) fun _ _ _ _ _ _ us hl => match us, hl with | [_, _, _], _ => rfl⟩,
   ⟨fun_mk (st := s_way_to) l_way_to c_way_to k_way_to, PySem.W.mg_of X G a_way_to, (fun_mk (st := s_way_to) l_way_to c_way_to k_way_to).binds (ps := ["ahead", "goal"]) fun _ _ _ _ _ _ us hl => match us, hl with | [_, _], _ => rfl⟩,
   ⟨fun_mk (st := s_first_colouring) l_first_colouring c_first_colouring k_first_colouring, PySem.W.mg_of X G a_first_colouring, (fun_mk (st := s_first_colouring) l_first_colouring c_first_colouring k_first_colouring).binds (ps := ["picture", "warp", "weft"]) fun _ _ _ _ _ _ us hl => match us, hl with | [_, _, _], _ => rfl⟩,
   ⟨fun_mk (st := s_crossings_of) l_crossings_of c_crossings_of k_crossings_of, PySem.W.mg_of X G a_crossings_of, (fun_mk (st := s_crossings_of) l_crossings_of c_crossings_of k_crossings_of).binds (ps := ["picture"]) fun _ _ _ _ _ _ us hl => match us, hl with | [_], _ => rfl⟩,
   ⟨fun_mk (st := s_settle_strand) l_settle_strand c_settle_strand k_settle_strand, PySem.W.mg_of X G a_settle_strand, (fun_mk (st := s_settle_strand) l_settle_strand c_settle_strand k_settle_strand).binds (ps := ["seen_along", "told", "borne", "strand"]) fun _ _ _ _ _ _ us hl => match us, hl with | [_, _, _, _], _ => rfl⟩,
   ⟨fun_mk (st := s_chain_from) l_chain_from c_chain_from k_chain_from, PySem.W.mg_of X G a_chain_from, (fun_mk (st := s_chain_from) l_chain_from c_chain_from k_chain_from).binds (ps := ["seen_along", "told", "borne", "given", "strand"]) fun _ _ _ _ _ _ us hl => match us, hl with | [_, _, _, _, _], _ => rfl⟩,
   ⟨fun_mk (st := s_law_numbers) l_law_numbers c_law_numbers k_law_numbers, PySem.W.mg_of X G a_law_numbers, (fun_mk (st := s_law_numbers) l_law_numbers c_law_numbers k_law_numbers).binds (ps := ["script", "many"]) fun _ _ _ _ _ _ us hl => match us, hl with | [_, _], _ => rfl⟩,
   ⟨fun_mk (st := s_law_bits) l_law_bits c_law_bits k_law_bits, PySem.W.mg_of X G a_law_bits, (fun_mk (st := s_law_bits) l_law_bits c_law_bits k_law_bits).binds (ps := ["numbers", "wide", "high"]) fun _ _ _ _ _ _ us hl => match us, hl with | [_, _, _], _ => rfl⟩,
   ⟨fun_mk (st := s_law_threads) l_law_threads c_law_threads k_law_threads, PySem.W.mg_of X G a_law_threads, (fun_mk (st := s_law_threads) l_law_threads c_law_threads k_law_threads).binds (ps := ["numbers", "first", "count", "span"]) fun _ _ _ _ _ _ us hl => match us, hl with | [_, _, _, _], _ => rfl⟩,
   ⟨fun_mk (st := s_law_shows) l_law_shows c_law_shows k_law_shows, PySem.W.mg_of X G a_law_shows, (fun_mk (st := s_law_shows) l_law_shows c_law_shows k_law_shows).binds (ps := ["given", "warp", "weft"]) fun _ _ _ _ _ _ us hl => match us, hl with | [_, _, _], _ => rfl⟩,
   ⟨fun_mk (st := s_law_picture) l_law_picture c_law_picture k_law_picture, PySem.W.mg_of X G a_law_picture, (fun_mk (st := s_law_picture) l_law_picture c_law_picture k_law_picture).binds (ps := ["numbers", "wide", "high", "span", "warp", "weft"]) fun _ _ _ _ _ _ us hl => match us, hl with | [_, _, _, _, _, _], _ => rfl⟩,
   ⟨fun_mk (st := s_law_told) l_law_told c_law_told k_law_told, PySem.W.mg_of X G a_law_told, (fun_mk (st := s_law_told) l_law_told c_law_told k_law_told).binds (ps := ["threads", "numbers", "first", "way", "span"]) fun _ _ _ _ _ _ us hl => match us, hl with | [_, _, _, _, _], _ => rfl⟩,
   ⟨fun_mk (st := s_law_whole_number) l_law_whole_number c_law_whole_number k_law_whole_number, PySem.W.mg_of X G a_law_whole_number, (fun_mk (st := s_law_whole_number) l_law_whole_number c_law_whole_number k_law_whole_number).binds (ps := ["found"]) fun _ _ _ _ _ _ us hl => match us, hl with | [_], _ => rfl⟩,
   ⟨fun_mk (st := s_law_seen) l_law_seen c_law_seen k_law_seen, PySem.W.mg_of X G a_law_seen, (fun_mk (st := s_law_seen) l_law_seen c_law_seen k_law_seen).binds (ps := ["picture", "wide", "one", "other"]) fun _ _ _ _ _ _ us hl => match us, hl with | [_, _, _, _], _ => rfl⟩,
   ⟨fun_mk (st := s_law_chain_right) l_law_chain_right c_law_chain_right k_law_chain_right, PySem.W.mg_of X G a_law_chain_right, (fun_mk (st := s_law_chain_right) l_law_chain_right c_law_chain_right k_law_chain_right).binds (ps := ["picture", "told", "strand", "colour", "chain"]) fun _ _ _ _ _ _ us hl => match us, hl with | [_, _, _, _, _], _ => rfl⟩,
   ⟨fun_mk (st := s_law_none_right) l_law_none_right c_law_none_right k_law_none_right, PySem.W.mg_of X G a_law_none_right, (fun_mk (st := s_law_none_right) l_law_none_right c_law_none_right k_law_none_right).binds (ps := ["picture", "told", "found"]) fun _ _ _ _ _ _ us hl => match us, hl with | [_, _, _], _ => rfl⟩,
   ⟨fun_mk (st := s_law_fits) l_law_fits c_law_fits k_law_fits, PySem.W.mg_of X G a_law_fits, (fun_mk (st := s_law_fits) l_law_fits c_law_fits k_law_fits).binds (ps := ["picture", "told", "warp", "weft"]) fun _ _ _ _ _ _ us hl => match us, hl with | [_, _, _, _], _ => rfl⟩,
   ⟨fun_mk (st := s_law) l_law c_law k_law, PySem.W.mg_of X G a_law, (fun_mk (st := s_law) l_law c_law k_law).binds (ps := ["script"]) fun _ _ _ _ _ _ us hl => match us, hl with | [_], _ => rfl⟩,
   PySem.W.mg_none_of X G z_bool,
   PySem.W.mg_none_of X G z_enumerate,
   PySem.W.mg_none_of X G z_int,
   PySem.W.mg_none_of X G z_isinstance,
   PySem.W.mg_none_of X G z_len,
   PySem.W.mg_none_of X G z_list,
   PySem.W.mg_none_of X G z_range,
   PySem.W.mg_none_of X G z_reversed,
   PySem.W.mg_none_of X G z_str,
   PySem.W.mg_none_of X G z_tuple,
   ⟨_, PySem.W.mg_of X G x_MOST_STRANDS⟩,
   ⟨_, PySem.W.mg_of X G x_COLOURS⟩,
   PySem.W.mg_of X G n_WeaveError,
   y9_WeaveError,
   y10_WeaveError,
   PySem.W.mg_of X G n_NoColour,
   y9_NoColour,
   y10_NoColour⟩
section
variable {P : Program} {w : World} {K : PySem.W.Frag} {mg : Str → Option Value} {base : Heap} {t : Adr}
def sp_called (z : Str) : Sp := fun vs H Q _ => ∃ v, vs = [v] ∧ Q (.str z) H
end
section
variable {P : Program} {w : World} {K : PySem.W.Frag} {mg : Str → Option Value} {base : Heap} {t : Adr}
theorem z0 (i : Nat) : (0 + (i : Int)).toNat = i := by omega
theorem kit_same (K : PySem.W.Frag) (n : String) : PySem.W.kitOne K (.type n) (.type n) = some true := if_pos (beq_self_eq_true _)
theorem sg_eq {c d : Nat} : (V.str ⟨#[c]⟩ : V) = V.str ⟨#[d]⟩ ↔ c = d :=
  ⟨fun z => by injection z with z; exact (List.cons.inj (tx_inj (a := [c]) (b := [d]) z)).1, fun z => by rw [z]⟩
theorem e35 : (V.str ⟨#[35]⟩ : V) = V.str "#" := congrArg V.str (by decide +kernel)
theorem small40 {n : Nat} (h : n ≤ 40) : n ≤ sizeLine := Nat.le_trans h (by decide)
theorem occC {c : Nat} (h : Co c) : (!(!(Builtin.Str.occurrences "abcdef" ⟨#[c]⟩ 0 (Str.length "abcdef") 1).isEmpty)) = false := by
  obtain ⟨h1, h2⟩ := h
  have : c = 97 ∨ c = 98 ∨ c = 99 ∨ c = 100 ∨ c = 101 ∨ c = 102 := by omega
  rcases this with h | h | h | h | h | h <;> subst h <;> decide +kernel
def sp_cthreads : Sp := fun vs H Q _ => ∃ (u : List Nat), vs = [.str (tx u), .int (u.length : Int), .str "abcdef"] ∧ (∀ c ∈ u, Co c) ∧ u.length ≤ 40 ∧ Q .non H
theorem ok_check_threads (T : Txt K mg t) : FnOk P w K mg base CX0 1 t.f_check_threads t.d_check_threads ["text", "count", "signs"] sp_cthreads := by
  refine T.check_threads.F.ok sc_check_threads (fun vs H Q E h => ?_) (fun cdv A outer s H vs Q E hr h => ?_)
  · obtain ⟨t, rfl, _⟩ := h
    rfl
  · obtain ⟨t, rfl, hsg, hl, k⟩ := h
    refine ⟨_, (pss_cons (ps_if (pt_cmpR op_ne (pe_callB call_len_str rfl T.b_len bt_len (pa_cons (pv 0) pa_nil)) (pv 1) (nomark _))
        (pss_one ps_never)
        pss_nil)
      (pss_one (ps_for PassesOwn.never rfl (pi_str (pv 0)) (pg_name (i := 3) sc_check_threads.nd rfl (Or.inl rfl))
        (pss_one (ps_if (pt_cmpR op_notin_str (pv 3) (pv 2) rfl)
          (pss_one ps_never)
          pss_nil))))), ?_⟩
    refine ⟨_, rfl, _, rfl, (by rw [tx_len]; exact small40 hl), _, rfl, rfl, _, rfl, ?_⟩
    refine iteNS (by rw [tx_len]) ?_
    refine ⟨_, rfl, _, rfl, for_str (z := tx t) (fun i σ H2 => ∃ v, σ = [some (.str (tx t)), some (.int (t.length : Int)), some (.str "abcdef"), v] ∧ H2 = H) ⟨none, rfl, rfl⟩ ?_ ?_⟩
    · rintro i c σ H2 hc ⟨v, rfl, rfl⟩
      rw [tx_get] at hc
      refine ⟨_, rfl, _, rfl, _, _, rfl, rfl, _, rfl, ?_⟩
      rw [occC (hsg c (List.mem_of_getElem? hc))]
      exact iteF ⟨_, rfl, rfl⟩
    · rintro σ H2 ⟨v, rfl, rfl⟩
      exact k
end
end Mine

set_option Elab.async false
set_option linter.all false
set_option maxRecDepth 100000
set_option maxHeartbeats 4000000
namespace Mine
open PySem L2
section
variable {P : Program} {w : World} {K : PySem.W.Frag} {mg : Str → Option Value} {base : Heap} {t : Adr}
theorem by_rest0 {G R : Prop} (main : (Unit → R) → G) (rest : R) : G := main fun _ => rest
theorem by_rest1 {G : Prop} {R : Nat → Prop} (C : Nat → Prop) (main : (∀ m, C m → R m) → G) (rest : ∀ m, C m → R m) : G := main rest
theorem by_restI {G : Prop} {R : Int → Prop} (main : (∀ z, R z) → G) (rest : ∀ z, R z) : G := main rest
theorem one_of (c : Int) {z : Int} (hz : 0 < z) {y : Nat} (hz2 : z ≤ (y : Int)) : ∃ m : Nat, 1 + c % z = (m : Int) ∧ 1 ≤ m ∧ m ≤ y := by
  have h1 := Int.emod_nonneg c (show z ≠ 0 by omega)
  have h2 := Int.emod_lt_of_pos c hz
  exact ⟨(1 + c % z).toNat, by omega, by omega, by omega⟩
def Num (ks : List Int) (m : Nat) : Prop := ks.length = m ∧ ∀ k ∈ ks, 0 ≤ k ∧ k < 1000000
theorem Num.at {ks : List Int} {m : Nat} (h : Num ks m) {i : Int} (h0 : 0 ≤ i) (hi : i < m) : ∃ z : Int, atI (vI ks) i = some (.int z) ∧ 0 ≤ z ∧ z < 1000000 := by
  have hlt : i.toNat < ks.length := by rw [h.1]; omega
  exact ⟨ks[i.toNat], atI_of h0 (vI_get (List.getElem?_eq_getElem hlt)), h.2 _ (List.getElem_mem hlt)⟩
theorem Num.mod (z : Int) : 0 ≤ z % 1000000 ∧ z % 1000000 < 1000000 := ⟨Int.emod_nonneg _ (by decide), Int.emod_lt_of_pos _ (by decide)⟩
def sp_nums (K : PySem.W.Frag) : Sp := fun vs H Q _ => ∃ (a : Addr) (ns : List Int) (m : Nat), vs = [.ref a, .int (m : Int)] ∧ SqL K H a (vI ns) ∧ ns.length ≤ 63 ∧ 1 ≤ m ∧ m ≤ 1000 ∧
  ∀ (l : Addr) (ks : List Int) (H' : Hp), Same H H' → H l = none → H' l = some (.lst (vI ks)) → Num ks m → Q (.ref l) H'
theorem ok_law_numbers (T : Txt K mg t) : FnOk P w K mg base CX0 1 t.f_law_numbers t.d_law_numbers ["script", "many"] (sp_nums K) := by
  refine T.law_numbers.F.ok sc_law_numbers (fun vs H Q E h => ?_) (fun cdv A outer s H vs Q E hr h => ?_)
  · obtain ⟨a, ns, m, rfl, _⟩ := h
    rfl
  · obtain ⟨a, ns, m, rfl, hS, hl, hm, hm2, k⟩ := h
    have hsz : sizeLine = 16777216 := sizeLine_eq
    refine ⟨_, (pss_cons (ps_set (i := 2) sc_law_numbers.nd rfl (Or.inl rfl) (pe_lst pa_nil))
      (pss_cons (ps_set (i := 3) sc_law_numbers.nd rfl (Or.inl rfl) pe_int)
      (pss_cons (ps_if (pt_cmpR op_gt (pe_callB (call_len_seqK (K := K)) rfl T.b_len bt_len (pa_cons (pv 0) pa_nil)) pe_int (nomark _))
        (pss_one (ps_set (i := 3) sc_law_numbers.nd rfl (Or.inl rfl) (pe_op op_add pe_int (pe_op op_mod (pe_ix (ix_listK (K := K)) (pv 0) pe_int (fun _ _ => rfl)) pe_int))))
        pss_nil)
      (pss_cons (ps_for PassesOwn.never rfl (pi_range1 rfl T.b_range (pa_cons (pv 1) pa_nil)) (pg_name (i := 4) sc_law_numbers.nd rfl (Or.inl rfl))
        (pss_cons (ps_set (i := 3) sc_law_numbers.nd rfl (Or.inl rfl) (pe_op op_mod (pe_op op_mul (pv 3) pe_int) pe_int))
        (pss_one (ps_expr (pe_bmK (K := K) PySem.F.plainAttrs_list PySem.F.slot_list_append PySem.F.type_list_append mt_append (pv 2) (pa_cons (pe_op op_mod (pe_op op_fdiv (pv 3) pe_int) pe_int) pa_nil))))))
      (pss_cons (ps_for PassesOwn.never rfl (pi_range1 rfl T.b_range (pa_cons (pe_callB (call_len_seqK (K := K)) rfl T.b_len bt_len (pa_cons (pv 0) pa_nil)) pa_nil)) (pg_name (i := 4) sc_law_numbers.nd rfl (Or.inl rfl))
        (pss_one (ps_asg (pe_op op_mod (pe_op op_add (pe_ix (ix_listK (K := K)) (pv 2) (pe_op op_mod (pv 4) (pv 1)) (fun _ _ => rfl)) (pe_ix (ix_listK (K := K)) (pv 0) (pv 4) (fun _ _ => rfl))) pe_int) (pg_sub (pv 2) (pe_op op_mod (pv 4) (pv 1)) set_list))))
      (pss_one (ps_ret (pv 2)))))))), ?_⟩
    refine ⟨Nat.zero_le _, fun q hq => ?_⟩
    have s1 : Same H (upd H q (.lst [])) := .upd hq
    apply by_restI
    · intro rest
      refine ⟨_, rfl, _, _, rfl, .inl (s1.seq hS), _, _, rfl, rfl, _, rfl, ?_⟩
      refine ite2D (fun h1 => ?_) (fun h1 => ?_)
      · have hlt : 0 < ns.length := by rw [vI_len] at h1; omega
        refine ⟨_, rfl, _, _, _, _, rfl, rfl, s1.seq hS, atI_of (by decide) (vI_get (List.getElem?_eq_getElem hlt)), _, _, rfl, rfl, (by show (0 : Int) < 2147483646; decide), _, _, rfl, rfl, ?_⟩
        obtain ⟨z, ez⟩ : ∃ z : Int, z = (1 : Int) + (ns[0]'hlt : Int) % (2147483646 : Int) := ⟨_, rfl⟩
        dsimp only
        rw [← ez]
        exact rest z
      · exact rest 1
    · intro z0
      refine ⟨_, rfl, _, rfl, (by omega), (by omega), ?_⟩
      rw [Int.toNat_natCast]
      refine for_range (lo := 0) (n := m) (fun i σ H2 => ∃ (z : Int) (ks : List Int) (v : Option V), σ = [some (.ref a), some (.int (m : Int)), some (.ref q), some (.int z), v] ∧ Same H H2 ∧ H2 q = some (.lst (vI ks)) ∧ Num ks i)
        ⟨z0, [], none, rfl, s1, upd_same, rfl, fun _ h => absurd h (by simp)⟩ ?_ ?_
      · rintro i σ H2 hi ⟨z, ks, v, rfl, s2, hq2, hkl⟩
        refine ⟨_, rfl, _, _, rfl, rfl, .inr ⟨by decide, by decide⟩, _, _, rfl, rfl, (by show (0 : Int) < 2147483647; decide), ?_⟩
        refine ⟨_, rfl, .inl ⟨rfl, _, SqL.of hq2⟩, _, rfl, _, _, rfl, rfl, ⟨by decide, by decide⟩, _, _, rfl, rfl, (by show (0 : Int) < 1000000; decide), _, _, _, rfl, rfl, hq2, (by rw [vI_len, hkl.1]; omega), ?_⟩
        rw [vI_app]
        refine ⟨_, _, _, rfl, s2.over hq, upd_same, by rw [List.length_append, hkl.1]; rfl, fun x hx => ?_⟩
        rcases List.mem_append.mp hx with h | h
        · exact hkl.2 x h
        · rw [List.mem_singleton.mp h]; exact Num.mod _
      · rintro σ H2 ⟨z, ks, v, rfl, s2, hq2, hkl⟩
        refine ⟨_, rfl, _, _, rfl, .inl (s2.seq hS), _, rfl, (by omega), (by rw [vI_len]; omega), ?_⟩
        rw [Int.toNat_natCast, vI_len]
        refine for_range (lo := 0) (n := ns.length) (fun i σ H2 => ∃ (ks : List Int) (v : Option V), σ = [some (.ref a), some (.int (m : Int)), some (.ref q), some (.int z), v] ∧ Same H H2 ∧ H2 q = some (.lst (vI ks)) ∧ Num ks m)
          ⟨ks, v, rfl, s2, hq2, hkl⟩ ?_ ?_
        · rintro i σ H3 hi ⟨ks, v, rfl, s3, hq3, hkl⟩
          have hix : (0 + (i : Int)) % (m : Int) = ((i % m : Nat) : Int) := by rw [Int.zero_add]; omega
          have hlt : i % m < ks.length := by rw [hkl.1]; exact Nat.mod_lt _ (by omega)
          have e1 : (vI ks)[((0 + (i : Int)) % (m : Int)).toNat]? = some (.int ks[i % m]) := by
            rw [hix, Int.toNat_natCast]
            exact vI_get (List.getElem?_eq_getElem hlt)
          have e2 : (vI ns)[(0 + (i : Int)).toNat]? = some (.int ns[i]) := by
            rw [Int.zero_add, Int.toNat_natCast]
            exact vI_get (List.getElem?_eq_getElem hi)
          have n1 : 0 ≤ (0 + (i : Int)) % (m : Int) := by rw [hix]; omega
          refine ⟨_, rfl, _, rfl, _, rfl, _, _, rfl, rfl, (by show (0 : Int) < m; omega), ?_⟩
          refine ⟨_, _, _, _, rfl, rfl, SqL.of hq3, atI_of n1 e1, ?_⟩
          refine ⟨_, rfl, _, rfl, _, _, _, _, rfl, rfl, s3.seq hS, atI_of (by omega) e2, ?_⟩
          refine ⟨_, _, rfl, rfl, ?_⟩
          refine ⟨_, _, rfl, rfl, (by show (0 : Int) < 1000000; decide), ?_⟩
          refine ⟨_, rfl, _, rfl, _, rfl, _, _, rfl, rfl, (by show (0 : Int) < m; omega), ?_⟩
          refine ⟨_, _, _, _, rfl, rfl, hq3, ixN_of n1 (by rw [vI_len, hkl.1, hix]; have := Nat.mod_lt i (show m > 0 by omega); omega), ?_⟩
          rw [vI_set]
          refine ⟨_, _, rfl, s3.over hq, upd_same, by rw [List.length_set]; exact hkl.1, fun x hx => ?_⟩
          rcases List.mem_or_eq_of_mem_set hx with h | h
          · exact hkl.2 x h
          · rw [h]; exact Num.mod _
        · rintro σ H3 ⟨ks, v, rfl, s3, hq3, hkl⟩
          exact ⟨_, rfl, k q ks H3 s3 hq hq3 hkl⟩
theorem bit_at (z : Int) : ∃ c : Nat, atI ((".#" : Str)).cps.toList (z % 2) = some c ∧ Sg c := by
  have h1 := Int.emod_nonneg z (show (2 : Int) ≠ 0 by decide)
  have h2 := Int.emod_lt_of_pos z (show (0 : Int) < 2 by decide)
  have : z % 2 = 0 ∨ z % 2 = 1 := by omega
  rcases this with h | h <;> rw [h]
  · exact ⟨46, by decide +kernel, .inr rfl⟩
  · exact ⟨35, by decide +kernel, .inl rfl⟩
theorem sg_add {u : List Nat} {c : Nat} (h : ∀ d ∈ u, Sg d) (hc : Sg c) : ∀ d ∈ u ++ [c], Sg d := fun d hd => by
  rcases List.mem_append.mp hd with h1 | h1
  · exact h d h1
  · rw [List.mem_singleton.mp h1]; exact hc
def sp_bits (K : PySem.W.Frag) : Sp := fun vs H Q _ => ∃ (a : Addr) (ks : List Int) (m n : Nat), vs = [.ref a, .int (m : Int), .int (n : Int)] ∧ SqL K H a (vI ks) ∧ Num ks 63 ∧ 1 ≤ m ∧ m ≤ 40 ∧ 1 ≤ n ∧ n ≤ 40 ∧
  ∀ (l : Addr) (cl : List (List Nat)) (H' : Hp), Same H H' → H l = none → H' l = some (.lst (vS cl)) → Cl cl m n → Q (.ref l) H'
theorem ok_law_bits (T : Txt K mg t) : FnOk P w K mg base CX0 1 t.f_law_bits t.d_law_bits ["numbers", "wide", "high"] (sp_bits K) := by
  refine T.law_bits.F.ok sc_law_bits (fun vs H Q E h => ?_) (fun cdv A outer s H vs Q E hr h => ?_)
  · obtain ⟨a, ks, m, n, rfl, _⟩ := h
    rfl
  · obtain ⟨a, ks, m, n, rfl, hS, hN, m1, m40, n1, n40, k⟩ := h
    have hsz : sizeLine = 16777216 := sizeLine_eq
    refine ⟨_, (pss_cons (ps_set (i := 3) sc_law_bits.nd rfl (Or.inl rfl) (pe_lst pa_nil))
      (pss_cons (ps_for PassesOwn.never rfl (pi_range1 rfl T.b_range (pa_cons (pv 2) pa_nil)) (pg_name (i := 4) sc_law_bits.nd rfl (Or.inl rfl))
        (pss_cons (ps_set (i := 5) sc_law_bits.nd rfl (Or.inl rfl) pe_str)
        (pss_cons (ps_for PassesOwn.never rfl (pi_range1 rfl T.b_range (pa_cons (pv 1) pa_nil)) (pg_name (i := 6) sc_law_bits.nd rfl (Or.inl rfl))
          (pss_cons (ps_set (i := 7) sc_law_bits.nd rfl (Or.inl rfl) (pe_op op_add (pe_op op_mul (pv 4) pe_int) (pv 6)))
          (pss_one (ps_set (i := 5) sc_law_bits.nd rfl (Or.inl rfl) (pe_op op_add_str (pv 5) (pe_ix ix_str pe_str (pe_op op_mod (pe_op op_fdiv (pe_ix (ix_listK (K := K)) (pv 0) (pe_op op_add pe_int (pe_op op_mod (pv 7) pe_int)) (fun _ _ => rfl)) (pe_op op_add pe_int (pe_op op_mul pe_int (pe_op op_fdiv (pv 7) pe_int)))) pe_int) (fun _ _ => rfl)))))))
        (pss_one (ps_expr (pe_bmK (K := K) PySem.F.plainAttrs_list PySem.F.slot_list_append PySem.F.type_list_append mt_append (pv 3) (pa_cons (pv 5) pa_nil)))))))
      (pss_one (ps_ret (pv 3))))), ?_⟩
    refine ⟨Nat.zero_le _, fun q hq => ?_⟩
    have s1 : Same H (upd H q (.lst [])) := .upd hq
    refine ⟨_, rfl, _, rfl, (by omega), (by omega), ?_⟩
    rw [Int.toNat_natCast]
    refine for_range (lo := 0) (n := n) (fun i σ H2 => ∃ (cl : List (List Nat)) (v1 v2 v3 v4 : Option V), σ = [some (.ref a), some (.int (m : Int)), some (.int (n : Int)), some (.ref q), v1, v2, v3, v4] ∧ Same H H2 ∧ H2 q = some (.lst (vS cl)) ∧ cl.length = i ∧ (∀ t ∈ cl, t.length = m) ∧ ∀ t ∈ cl, ∀ c ∈ t, Sg c)
      ⟨[], none, none, none, none, rfl, s1, upd_same, rfl, fun _ h => absurd h (by simp), fun _ h => absurd h (by simp)⟩ ?_ ?_
    · rintro i σ H2 hi ⟨cl, v1, v2, v3, v4, rfl, s2, hq2, hcl, hcm, hcs⟩
      refine ⟨_, rfl, _, rfl, (by omega), (by omega), ?_⟩
      rw [Int.toNat_natCast]
      refine for_range (lo := 0) (n := m) (fun j σ H3 => ∃ (u : List Nat) (v3 v4 : Option V), σ = [some (.ref a), some (.int (m : Int)), some (.int (n : Int)), some (.ref q), some (.int (0 + (i : Int))), some (.str (tx u)), v3, v4] ∧ H3 = H2 ∧ u.length = j ∧ ∀ c ∈ u, Sg c)
        ⟨[], v3, v4, by rw [show (("" : Str)) = tx [] from by decide +kernel]; rfl, rfl, rfl, fun _ h => absurd h (by simp)⟩ ?_ ?_
      · rintro j σ H3 hj ⟨u, v3, v4, rfl, rfl, hul, hus⟩
        refine ⟨_, rfl, _, _, rfl, rfl, .inr ⟨by decide, by decide⟩, _, rfl, _, _, rfl, rfl, ?_⟩
        obtain ⟨y, ey⟩ : ∃ y : Int, y = (0 + (i : Int)) * 40 + (0 + (j : Int)) := ⟨_, rfl⟩
        have y0 : 0 ≤ y := by omega
        have y1 : y < 1600 := by omega
        dsimp only
        rw [← ey]
        have b1 := Int.emod_nonneg y (show (55 : Int) ≠ 0 by decide)
        have b2 := Int.emod_lt_of_pos y (show (0 : Int) < 55 by decide)
        obtain ⟨z, ez, _⟩ := hN.at (i := 8 + y % 55) (by omega) (by omega)
        have d0 : 0 ≤ y / 55 := Int.ediv_nonneg y0 (by decide)
        have d1 : y / 55 ≤ 1600 := by omega
        obtain ⟨c, ec, hc⟩ := bit_at (z / (1 + 2 * (y / 55)))
        refine ⟨_, rfl, _, rfl, _, rfl, _, _, rfl, rfl, (by show (0 : Int) < 55; decide), _, _, rfl, rfl, _, _, _, _, rfl, rfl, s2.seq hS, ez, ?_⟩
        refine ⟨_, rfl, _, _, rfl, rfl, ⟨by decide, by decide⟩, _, _, rfl, rfl, .inl ⟨by decide, by decide⟩, _, _, rfl, rfl, _, _, rfl, rfl, ⟨by omega, by omega⟩, _, _, rfl, rfl, (by show (0 : Int) < 2; decide), ?_⟩
        refine ⟨_, _, _, rfl, rfl, (by decide +kernel), ec, _, _, rfl, rfl, ?_, ?_⟩
        · rw [tx_len, tx_one, tx_len, hul]
          show j + 1 ≤ sizeLine
          omega
        · rw [tx_one, tx_app]
          exact ⟨_, _, _, rfl, rfl, by rw [List.length_append, hul]; rfl, sg_add hus hc⟩
      · rintro σ H3 ⟨u, v3, v4, rfl, rfl, hul, hus⟩
        refine ⟨_, rfl, .inl ⟨rfl, _, SqL.of hq2⟩, _, rfl, _, _, _, rfl, rfl, hq2, (by rw [vS_len, hcl]; omega), ?_⟩
        rw [vS_app]
        refine ⟨_, _, _, _, _, rfl, s2.over hq, upd_same, by rw [List.length_append, hcl]; rfl, fun t ht => ?_, fun t ht => ?_⟩
        · rcases List.mem_append.mp ht with h | h
          · exact hcm t h
          · rw [List.mem_singleton.mp h]; exact hul
        · rcases List.mem_append.mp ht with h | h
          · exact hcs t h
          · rw [List.mem_singleton.mp h]; exact hus
    · rintro σ H2 ⟨cl, v1, v2, v3, v4, rfl, s2, hq2, hcl, hcm, hcs⟩
      exact ⟨_, rfl, k q cl H2 s2 hq hq2 ⟨hcl, hcm, hcs, m1, m40, n1, n40⟩⟩
theorem abc_at {z : Int} (h0 : 0 ≤ z) (h6 : z < 6) : ∃ c : Nat, atI (("abcdef" : Str)).cps.toList z = some c ∧ Co c := by
  have : z = 0 ∨ z = 1 ∨ z = 2 ∨ z = 3 ∨ z = 4 ∨ z = 5 := by omega
  rcases this with h | h | h | h | h | h <;> subst h
  · exact ⟨97, by decide +kernel, by decide, by decide⟩
  · exact ⟨98, by decide +kernel, by decide, by decide⟩
  · exact ⟨99, by decide +kernel, by decide, by decide⟩
  · exact ⟨100, by decide +kernel, by decide, by decide⟩
  · exact ⟨101, by decide +kernel, by decide, by decide⟩
  · exact ⟨102, by decide +kernel, by decide, by decide⟩
def sp_threads (K : PySem.W.Frag) : Sp := fun vs H Q _ => ∃ (a : Addr) (ks : List Int) (f m s : Nat), vs = [.ref a, .int (f : Int), .int (m : Int), .int (s : Int)] ∧ SqL K H a (vI ks) ∧ Num ks 63 ∧ m ≤ 40 ∧ 1 ≤ s ∧ s ≤ 6 ∧
  ∀ (u : List Nat) (H' : Hp), Same H H' → u.length = m → (∀ c ∈ u, Co c) → Q (.str (tx u)) H'
theorem ok_law_threads (T : Txt K mg t) : FnOk P w K mg base CX0 1 t.f_law_threads t.d_law_threads ["numbers", "first", "count", "span"] (sp_threads K) := by
  refine T.law_threads.F.ok sc_law_threads (fun vs H Q E h => ?_) (fun cdv A outer s H vs Q E hr h => ?_)
  · obtain ⟨a, ks, f, m, s, rfl, _⟩ := h
    rfl
  · obtain ⟨a, ks, f, m, s, rfl, hS, hN, hm, hs, hs6, k⟩ := h
    have hsz : sizeLine = 16777216 := sizeLine_eq
    refine ⟨_, (pss_cons (ps_setC (i := 4) (CompOk.mk (caps := [0, 1, 3]) (Nc := ["k", "numbers", "first", "span"]) rfl (by decide +kernel) (by decide +kernel) (comp_fr (sc0 := defScope s_law_threads) rfl (by decide +kernel)) rfl rfl rfl (by decide +kernel) (fun k j h => match k, h with | 0, h => by obtain rfl := Option.some.inj h; exact ⟨_, rfl, rfl, rfl⟩ | 1, h => by obtain rfl := Option.some.inj h; exact ⟨_, rfl, rfl, rfl⟩ | 2, h => by obtain rfl := Option.some.inj h; exact ⟨_, rfl, rfl, rfl⟩ | _ + 3, h => by simp at h)) rfl sc_law_threads.nd rfl rfl (pi_range1 rfl T.b_range (pa_cons (pv 2) pa_nil)) (fun _ _ _ _ _ => .nil) (fun _ _ _ _ _ => (pe_ix ix_str pe_str (pe_op op_mod (pe_op op_fdiv (pe_ix (ix_listK (K := K)) (pv 1) (pe_op op_add pe_int (pe_op op_mod (pe_op op_add (pv 2) (pe_op op_mul pe_int (pv 0))) pe_int)) (fun _ _ => rfl)) pe_int) (pv 3)) (fun _ _ => rfl))) rfl)
      (pss_one (ps_ret (pe_bmK (K := K) PySem.F.plainAttrs_str PySem.F.slot_str_join PySem.F.type_str_join (mt_joinK (K := K)) pe_str (pa_cons (pv 4) pa_nil))))), ?_⟩
    refine ⟨_, rfl, _, rfl, (by omega), (by omega), ?_⟩
    rw [Int.toNat_natCast]
    refine comp_range (lo := 0) (n := m) (fun i ys H2 => H2 = H ∧ ∃ u : List Nat, ys = vS (u.map fun d => [d]) ∧ u.length = i ∧ ∀ c ∈ u, Co c) ⟨rfl, [], rfl, rfl, fun _ h => absurd h (by simp)⟩ ?_ ?_ ?_ ?_
    · rintro i ys H2 hi ⟨rfl, u, rfl, hu, _⟩
      rw [vS_len, List.length_map, hu]
      exact Nat.le_refl _
    · omega
    · rintro i ys H2 hi ⟨rfl, u, rfl, hu, hus⟩
      obtain ⟨y, ey⟩ : ∃ y : Int, y = (f : Int) + 3 * (0 + (i : Int)) := ⟨_, rfl⟩
      have b1 := Int.emod_nonneg y (show (55 : Int) ≠ 0 by decide)
      have b2 := Int.emod_lt_of_pos y (show (0 : Int) < 55 by decide)
      obtain ⟨z, ez, _⟩ := hN.at (i := 8 + y % 55) (by omega) (by omega)
      have b3 := Int.emod_nonneg (z / 7) (show (s : Int) ≠ 0 by omega)
      have b4 := Int.emod_lt_of_pos (z / 7) (show (0 : Int) < (s : Int) by omega)
      obtain ⟨c, ec, hc⟩ := abc_at b3 (by omega)
      subst ey
      refine CTurn.no ?_
      refine ⟨_, rfl, _, rfl, _, rfl, _, _, rfl, rfl, .inl ⟨by decide, by decide⟩, _, _, rfl, rfl, _, _, rfl, rfl, (by show (0 : Int) < 55; decide), _, _, rfl, rfl, _, _, _, _, rfl, rfl, hS, ez, ?_⟩
      refine ⟨_, _, rfl, rfl, ⟨by decide, by decide⟩, _, rfl, _, _, rfl, rfl, (by show (0 : Int) < (s : Int); omega), _, _, _, rfl, rfl, (by decide +kernel), ec, ?_⟩
      refine CN.of hi ⟨rfl, u ++ [c], ?_, by rw [List.length_append, hu]; rfl, fun d hd => ?_⟩
      · rw [List.map_append, tx_one, vS_app]
        rfl
      · rcases List.mem_append.mp hd with h1 | h1
        · exact hus d h1
        · rw [List.mem_singleton.mp h1]; exact hc
    · rintro ys H2 p ⟨rfl, u, rfl, hu, hus⟩ hp
      refine ⟨rfl, _, rfl, _, _, ((u.map fun d => [d]).map tx), rfl, rfl, SqL.of (by rw [upd_same, vS_map]), ?_, ?_⟩
      · have e1 := sum1 (fun d : Nat => d) u
        rw [e1, List.length_map, List.length_map, hu]
        have : m * (Str.length "") = 0 := by rw [show Str.length "" = 0 from by decide +kernel]; omega
        omega
      · rw [show (("" : Str)) = tx [] from by decide +kernel, tx_join]
        have e2 : (u.map fun d => [d]).flatten = u := (flat1 (fun d : Nat => d) u).trans (List.map_id _)
        rw [e2]
        exact k _ _ (.upd hp) hu hus
end
end Mine

set_option Elab.async false
set_option linter.all false
set_option maxRecDepth 100000
set_option maxHeartbeats 4000000
namespace Mine
open PySem L2
/-- so many texts of so many signs -/
def Rct (cl : List (List Nat)) (m n : Nat) : Prop := cl.length = n ∧ ∀ t ∈ cl, t.length = m
theorem Rct.at {cl : List (List Nat)} {m n j : Nat} (R : Rct cl m n) (h : j < n) : cl[j]? = some (cl.getD j []) ∧ (cl.getD j []).length = m ∧ atI (vS cl) (0 + (j : Int)) = some (.str (tx (cl.getD j []))) := by
  have hl : j < cl.length := by rw [R.1]; exact h
  have e : cl[j]? = some (cl.getD j []) := by rw [List.getElem?_eq_getElem hl]; simp [List.getD, hl]
  refine ⟨e, R.2 _ (List.mem_of_getElem? e), atI_of (by omega) ?_⟩
  rw [show (0 + (j : Int)).toNat = j by omega]
  exact vS_get e
theorem tx_at {u : List Nat} {i : Nat} (h : i < u.length) : atI (tx u).cps.toList (0 + (i : Int)) = some (u.getD i 0) := by
  refine atI_of (by omega) ?_
  rw [show (0 + (i : Int)).toNat = i by omega]
  show u.toArray.toList[i]? = _
  simp [List.getD, h]
theorem take_one {u : List Nat} {i : Nat} (h : i < u.length) : u.take (i + 1) = u.take i ++ [u.getD i 0] := by
  rw [List.take_add_one, List.getElem?_eq_getElem h]
  simp [List.getD, h]
theorem take_oneL {u : List (List Nat)} {i : Nat} (h : i < u.length) : u.take (i + 1) = u.take i ++ [u.getD i []] := by
  rw [List.take_add_one, List.getElem?_eq_getElem h]
  simp [List.getD, h]
theorem pict_getD {cl : List (List Nat)} {wa we : List Nat} {j : Nat} (h : j < cl.length) : (pict cl wa we).getD j [] = shown (cl.getD j []) wa (we.getD j 0) := by
  rw [List.getD_eq_getElem?_getD, pict_get h]; rfl
/-- the open places filled -/
def flp (u v : List Nat) : List Nat := (List.range u.length).map fun k => if u.getD k 0 = 63 then v.getD k 0 else u.getD k 0
def flls (cl dl : List (List Nat)) : List (List Nat) := (List.range cl.length).map fun j => flp (cl.getD j []) (dl.getD j [])
section
variable {P : Program} {w : World} {K : PySem.W.Frag} {mg : Str → Option Value} {base : Heap} {t : Adr}
theorem e63 : (V.str ⟨#[63]⟩ : V) = V.str "?" := congrArg V.str (by decide +kernel)
theorem v63 : (("?" : Str)) = ⟨#[63]⟩ := by decide +kernel
def sp_mpic (K : PySem.W.Frag) : Sp := fun vs H Q _ => ∃ (a : Addr) (cl : List (List Nat)) (m n : Nat), vs = [.ref a] ∧ SqL K H a (vS cl) ∧ Pic cl m n ∧ ∀ p, H p = none → Q (.ref p) (upd H p (.tup [.int (m : Int), .int (n : Int)]))
theorem ok_measured_picture (T : Txt K mg t) : FnOk P w K mg base CX0 2 t.f_measured_picture t.d_measured_picture ["picture"] (sp_mpic K) := by
  have G_check_threads : FnOk P w K mg base CX0 1 t.f_check_threads t.d_check_threads _ _ := ok_check_threads T
  refine T.measured_picture.F.ok sc_measured_picture (fun vs H Q E h => ?_) (fun cdv A outer s H vs Q E hr h => ?_)
  · obtain ⟨a, cl, m, n, rfl, _⟩ := h
    rfl
  · obtain ⟨a, cl, m, n, rfl, hS, C, k⟩ := h
    have hlen : (vS cl).length = n := by rw [vS_len, C.hn]
    have h0 : 0 < cl.length := by rw [C.hn]; exact C.n1
    have hm0 := C.hm cl[0] (List.getElem_mem h0)
    have c1 := C.n1
    have c2 := C.n40
    have c3 := C.m1
    have c4 := C.m40
    refine ⟨_, (pss_cons (ps_if (PW.pt (pw_or (pt_cmpR op_lt (pe_callB (call_len_seqK (K := K)) rfl T.b_len bt_len (pa_cons (pv 0) pa_nil)) pe_int (nomark _)) (pw_or1 (pt_cmpR op_gt (pe_callB (call_len_seqK (K := K)) rfl T.b_len bt_len (pa_cons (pv 0) pa_nil)) (pe_glob (v := .int 40) rfl T.c_MOST_STRANDS.choose_spec ⟨_, rfl⟩) (nomark _)))))
        (pss_one ps_never)
        pss_nil)
      (pss_cons (ps_set (i := 1) sc_measured_picture.nd rfl (Or.inl rfl) (pe_callB call_len_str rfl T.b_len bt_len (pa_cons (pe_ix (ix_listK (K := K)) (pv 0) pe_int (fun _ _ => rfl)) pa_nil)))
      (pss_cons (ps_if (PW.pt (pw_or (pt_cmpR op_lt (pv 1) pe_int (nomark _)) (pw_or1 (pt_cmpR op_gt (pv 1) (pe_glob (v := .int 40) rfl T.c_MOST_STRANDS.choose_spec ⟨_, rfl⟩) (nomark _)))))
        (pss_one ps_never)
        pss_nil)
      (pss_cons (ps_for PassesOwn.never rfl (pi_listK (K := K) (pv 0)) (pg_name (i := 2) sc_measured_picture.nd rfl (Or.inl rfl))
        (pss_one (ps_expr (pe_call (G_check_threads.mono (by decide)) hr rfl T.check_threads.m T.check_threads.F.kp T.check_threads.b .nil pass0 (pa_cons (pv 2) (pa_cons (pv 1) (pa_cons (pe_glob (v := .str "abcdef") rfl T.c_COLOURS.choose_spec ⟨_, rfl⟩) pa_nil)))))))
      (pss_one (ps_ret (pe_tup (pa_cons (pv 1) (pa_cons (pe_callB (call_len_seqK (K := K)) rfl T.b_len bt_len (pa_cons (pv 0) pa_nil)) pa_nil))))))))), ?_⟩
    refine ⟨_, rfl, _, _, rfl, .inl hS, _, _, rfl, rfl, _, rfl, ?_⟩
    refine iteDn (by rw [hlen]; omega) ?_
    refine ⟨_, rfl, _, _, rfl, .inl hS, _, _, rfl, rfl, _, rfl, ?_⟩
    refine iteDn (by rw [hlen]; omega) ?_
    refine ⟨_, rfl, _, _, _, _, rfl, rfl, hS, atI_of (by decide) (vS_get (List.getElem?_eq_getElem h0)), _, rfl, (by rw [tx_len, hm0]; exact small40 c4), ?_⟩
    rw [tx_len, hm0]
    refine ⟨_, rfl, _, _, rfl, rfl, _, rfl, ?_⟩
    refine iteDn (by omega) ?_
    refine ⟨_, rfl, _, _, rfl, rfl, _, rfl, ?_⟩
    refine iteDn (by omega) ?_
    refine ⟨_, rfl, _, rfl, ⟨_, hS⟩, for_list (K := K) (a := a) (xs := vS cl) (fun i σ H2 => ∃ v, σ = [some (.ref a), some (.int (m : Int)), v] ∧ H2 = H) ⟨none, rfl, rfl⟩ (fun i σ H2 _ ⟨_, _, e⟩ => e ▸ hS) ?_ ?_⟩
    · rintro i x σ H2 hx ⟨v, rfl, rfl⟩
      obtain ⟨t, ht, rfl⟩ := vS_got hx
      have htm := List.mem_of_getElem? ht
      refine ⟨_, rfl, _, rfl, t, ?_, C.co t htm, ?_, ⟨_, rfl, rfl⟩⟩
      · rw [C.hm t htm]; rfl
      · rw [C.hm t htm]; exact c4
    · rintro σ H2 ⟨v, rfl, rfl⟩
      refine ⟨_, rfl, _, rfl, _, _, rfl, .inl hS, (by show 2 ≤ sizeLine; decide), fun p hp => ?_⟩
      rw [hlen]
      exact k p hp
def sp_shows (K : PySem.W.Frag) : Sp := fun vs H Q _ => ∃ (a : Addr) (cl : List (List Nat)) (m n : Nat) (wa we : List Nat), vs = [.ref a, .str (tx wa), .str (tx we)] ∧ SqL K H a (vS cl) ∧ Rct cl m n ∧ m ≤ 40 ∧ n ≤ 40 ∧ wa.length = m ∧ we.length = n ∧
  ∀ l H', Same H H' → H' l = some (.lst (vS (pict cl wa we))) → Q (.ref l) H'
theorem ok_law_shows (T : Txt K mg t) : FnOk P w K mg base CX0 1 t.f_law_shows t.d_law_shows ["given", "warp", "weft"] (sp_shows K) := by
  refine T.law_shows.F.ok sc_law_shows (fun vs H Q E h => ?_) (fun cdv A outer s H vs Q E hr h => ?_)
  · obtain ⟨a, cl, m, n, wa, we, rfl, _⟩ := h
    rfl
  · obtain ⟨a, cl, m, n, wa, we, rfl, hS, R, m40, n40, hwa, hwe, k⟩ := h
    have hsz : sizeLine = 16777216 := sizeLine_eq
    have hlen : (vS cl).length = n := by rw [vS_len, R.1]
    have sl : ∀ u : List Nat, u.length ≤ 40 → (tx u).length ≤ sizeLine := fun u h => by rw [tx_len]; exact small40 h
    refine ⟨_, (pss_cons (ps_set (i := 3) sc_law_shows.nd rfl (Or.inl rfl) (pe_lst pa_nil))
      (pss_cons (ps_for PassesOwn.never rfl (pi_range1 rfl T.b_range (pa_cons (pe_callB (call_len_seqK (K := K)) rfl T.b_len bt_len (pa_cons (pv 0) pa_nil)) pa_nil)) (pg_name (i := 4) sc_law_shows.nd rfl (Or.inl rfl))
        (pss_cons (ps_set (i := 5) sc_law_shows.nd rfl (Or.inl rfl) pe_str)
        (pss_cons (ps_for PassesOwn.never rfl (pi_range1 rfl T.b_range (pa_cons (pe_callB call_len_str rfl T.b_len bt_len (pa_cons (pv 1) pa_nil)) pa_nil)) (pg_name (i := 6) sc_law_shows.nd rfl (Or.inl rfl))
          (pss_one (ps_if (pt_cmpR op_eq (pe_ix ix_str (pe_ix (ix_listK (K := K)) (pv 0) (pv 4) (fun _ _ => rfl)) (pv 6) (fun _ _ => rfl)) pe_str (nomark _))
            (pss_one (ps_set (i := 5) sc_law_shows.nd rfl (Or.inl rfl) (pe_op op_add_str (pv 5) (pe_ix ix_str (pv 1) (pv 6) (fun _ _ => rfl)))))
            (pss_one (ps_set (i := 5) sc_law_shows.nd rfl (Or.inl rfl) (pe_op op_add_str (pv 5) (pe_ix ix_str (pv 2) (pv 4) (fun _ _ => rfl))))))))
        (pss_one (ps_expr (pe_bmK (K := K) PySem.F.plainAttrs_list PySem.F.slot_list_append PySem.F.type_list_append mt_append (pv 3) (pa_cons (pv 5) pa_nil)))))))
      (pss_one (ps_ret (pv 3))))), ?_⟩
    refine ⟨Nat.zero_le _, fun q nq => ?_⟩
    have s1 : Same H (upd H q (.lst [])) := .upd nq
    have hq1 : (upd H q (.lst [])) q = some (.lst (vS [])) := upd_same
    generalize upd H q (.lst []) = H1 at s1 hq1 ⊢
    refine ⟨_, rfl, _, _, rfl, .inl (s1.seq hS), _, rfl, (by omega), (by rw [hlen]; omega), ?_⟩
    rw [Int.toNat_natCast, hlen]
    refine for_range (lo := 0) (n := n) (fun i σ H2 => ∃ (v4 v5 v6 : Option V), σ = [some (.ref a), some (.str (tx wa)), some (.str (tx we)), some (.ref q), v4, v5, v6] ∧ Same H H2 ∧ H2 q = some (.lst (vS ((pict cl wa we).take i)))) ⟨none, none, none, rfl, s1, hq1⟩ ?_ ?_
    · rintro i σ H2 hi ⟨v4, v5, v6, rfl, s2, hq2⟩
      have hic : i < cl.length := by rw [R.1]; exact hi
      obtain ⟨ei, li, ai⟩ := R.at hi
      have rl : (shown (cl.getD i []) wa (we.getD i 0)).length = m := by rw [shown_len, li]
      obtain ⟨row, erow⟩ : ∃ row, row = shown (cl.getD i []) wa (we.getD i 0) := ⟨_, rfl⟩
      rw [← erow] at rl
      refine ⟨_, rfl, _, rfl, sl _ (by omega), _, rfl, (by omega), (by rw [tx_len]; omega), ?_⟩
      rw [tx_len, Int.toNat_natCast, hwa]
      refine for_range (lo := 0) (n := m) (fun j σ H3 => ∃ (v6 : Option V), σ = [some (.ref a), some (.str (tx wa)), some (.str (tx we)), some (.ref q), some (.int (0 + (i : Int))), some (.str (tx (row.take j))), v6] ∧ H3 = H2) ⟨_, by rw [show (("" : Str)) = tx [] from by decide +kernel] <;> rfl, rfl⟩ ?_ ?_
      · rintro j σ H3 hj ⟨v6, rfl, rfl⟩
        have g : row.getD j 0 = if (cl.getD i []).getD j 0 = 35 then wa.getD j 0 else we.getD i 0 := by rw [erow]; exact shown_get (by omega)
        have tk := take_one (u := row) (i := j) (by omega)
        refine ⟨_, rfl, _, rfl, _, _, _, _, rfl, rfl, s2.seq hS, ai, _, rfl, _, _, _, rfl, rfl, sl _ (by omega), tx_at (by omega), rfl, _, rfl, ?_⟩
        refine ite2D (fun h => ?_) (fun h => ?_)
        · have h35 : (cl.getD i []).getD j 0 = 35 := sg_eq.mp (h.trans e35.symm)
          rw [if_pos h35] at g
          refine ⟨_, rfl, _, rfl, _, rfl, _, _, _, rfl, rfl, sl _ (by omega), tx_at (by omega), _, _, rfl, rfl, (by rw [tx_one, tx_len, tx_len, List.length_take]; show _ + 1 ≤ sizeLine; omega), ?_⟩
          rw [tx_one, tx_app, ← g, ← tk]
          exact ⟨_, rfl, rfl⟩
        · have h35 : ¬ (cl.getD i []).getD j 0 = 35 := fun z => h (by rw [z]; exact e35)
          rw [if_neg h35] at g
          refine ⟨_, rfl, _, rfl, _, rfl, _, _, _, rfl, rfl, sl _ (by omega), tx_at (by omega), _, _, rfl, rfl, (by rw [tx_one, tx_len, tx_len, List.length_take]; show _ + 1 ≤ sizeLine; omega), ?_⟩
          rw [tx_one, tx_app, ← g, ← tk]
          exact ⟨_, rfl, rfl⟩
      · rintro σ H3 ⟨v6, rfl, rfl⟩
        refine ⟨_, rfl, .inl ⟨rfl, _, SqL.of hq2⟩, _, rfl, _, _, _, rfl, rfl, hq2, (by rw [vS_len, List.length_take]; omega), ?_⟩
        rw [List.take_of_length_le (show row.length ≤ m by omega), vS_app]
        refine ⟨_, _, _, rfl, s2.over nq, ?_⟩
        rw [upd_same, take_oneL (by rw [pict_len]; exact hic), pict_getD hic, erow]
    · rintro σ H2 ⟨v4, v5, v6, rfl, s2, hq2⟩
      rw [List.take_of_length_le (by rw [pict_len, R.1]; exact Nat.le_refl _)] at hq2
      exact ⟨_, rfl, k q H2 s2 hq2⟩
end
end Mine

set_option Elab.async false
set_option linter.all false
set_option maxRecDepth 100000
set_option maxHeartbeats 4000000
namespace Mine
open PySem L2
/-- the crossings along each strand, as the program keeps them -/
structure SA (H : Hp) (sa : Addr) (rs : List Addr) (tt : List (List Addr)) (pic : List (List Nat)) (m n k : Nat) : Prop where
  h : H sa = some (.lst (rs.map V.ref))
  rl : rs.length = k
  tl : tt.length = k
  ne : sa ∉ rs
  row : ∀ (v : Nat) (r : Addr) (ts : List Addr), rs[v]? = some r → tt[v]? = some ts → H r = some (.lst (ts.map V.ref)) ∧ ts.length = deg m n v
  tup : ∀ (v : Nat) (ts : List Addr) (j : Nat) (T : Addr), tt[v]? = some ts → ts[j]? = some T → H T = some (.tup [.int ((nbr m v j : Nat) : Int), .str ⟨#[crs pic m v (nbr m v j)]⟩])
theorem SA.same {H H' : Hp} {sa : Addr} {rs : List Addr} {tt : List (List Addr)} {pic : List (List Nat)} {m n k : Nat} (S : SA H sa rs tt pic m n k) (s : Same H H') : SA H' sa rs tt pic m n k :=
  ⟨s _ _ S.h, S.rl, S.tl, S.ne, fun v r ts e1 e2 => ⟨s _ _ (S.row v r ts e1 e2).1, (S.row v r ts e1 e2).2⟩, fun v ts j T e1 e2 => s _ _ (S.tup v ts j T e1 e2)⟩
theorem SA.app {H : Hp} {sa r : Addr} {rs ts : List Addr} {tt : List (List Addr)} {pic : List (List Nat)} {m n k : Nat} (S : SA H sa rs tt pic m n k) (hr : H r = some (.lst (ts.map V.ref))) (hl : ts.length = deg m n k)
    (ht : ∀ (j : Nat) (T : Addr), ts[j]? = some T → H T = some (.tup [.int ((nbr m k j : Nat) : Int), .str ⟨#[crs pic m k (nbr m k j)]⟩])) (nr : r ≠ sa) :
    SA (upd H sa (.lst (rs.map V.ref ++ [.ref r]))) sa (rs ++ [r]) (tt ++ [ts]) pic m n (k + 1) := by
  have last : ∀ {α : Type} {l : List α} {x y : α} {i : Nat}, l.length = k → (l ++ [x])[i]? = some y → (i < k ∧ l[i]? = some y) ∨ (i = k ∧ y = x) := fun {α l x y i} hk e => by
    by_cases hi : i < l.length
    · rw [List.getElem?_append_left hi] at e
      exact .inl ⟨by omega, e⟩
    · have hi2 := (List.getElem?_eq_some_iff.mp e).1
      rw [List.length_append, List.length_singleton] at hi2
      have ei : i = l.length := by omega
      rw [ei, List.getElem?_append_right (Nat.le_refl _), Nat.sub_self] at e
      cases e
      exact .inr ⟨by omega, rfl⟩
  refine ⟨by rw [upd_same, List.map_append]; rfl, by rw [List.length_append, S.rl]; rfl, by rw [List.length_append, S.tl]; rfl, fun z => ?_, fun v r' ts' e1 e2 => ?_, fun v ts' j T e1 e2 => ?_⟩
  · rcases List.mem_append.mp z with z | z
    · exact S.ne z
    · exact nr (List.mem_singleton.mp z).symm
  · rcases last S.rl e1 with ⟨h1, h2⟩ | ⟨h1, h2⟩ <;> rcases last S.tl e2 with ⟨h3, h4⟩ | ⟨h3, h4⟩
    · have := S.row v r' ts' h2 h4
      refine ⟨?_, this.2⟩
      have nr' : r' ≠ sa := fun e => S.ne (by rw [← e]; exact List.mem_of_getElem? h2)
      rw [upd_ne nr']
      exact this.1
    · omega
    · omega
    · rw [h2, h4, h1, upd_ne nr]
      exact ⟨hr, hl⟩
  · have key : H T = some (.tup [.int ((nbr m v j : Nat) : Int), .str ⟨#[crs pic m v (nbr m v j)]⟩]) := by
      rcases last S.tl e1 with ⟨h3, h4⟩ | ⟨h3, h4⟩
      · exact S.tup v ts' j T h4 e2
      · rw [h4] at e2
        rw [h3]
        exact ht j T e2
    rw [upd_ne (fun e => by rw [e, S.h] at key; cases key)]
    exact key
theorem tx_cps (u : List Nat) (j : Nat) : (tx u).cps[j]? = u[j]? := by
  show u.toArray[j]? = _
  simp
section
variable {P : Program} {w : World} {K : PySem.W.Frag} {mg : Str → Option Value} {base : Heap} {t : Adr}
def sp_cross (K : PySem.W.Frag) : Sp := fun vs H Q _ => ∃ (a : Addr) (pic : List (List Nat)) (m n : Nat), vs = [.ref a] ∧ SqL K H a (vS pic) ∧ Pic pic m n ∧ ∀ (sa : Addr) (rs : List Addr) (tt : List (List Addr)) (H' : Hp), Same H H' → H sa = none → SA H' sa rs tt pic m n (m + n) → Q (.ref sa) H'
theorem ok_crossings_of (T : Txt K mg t) : FnOk P w K mg base CX0 1 t.f_crossings_of t.d_crossings_of ["picture"] (sp_cross K) := by
  refine T.crossings_of.F.ok sc_crossings_of (fun vs H Q E h => ?_) (fun cdv A outer s H vs Q E hr h => ?_)
  · obtain ⟨a, pic, m, n, rfl, _⟩ := h
    rfl
  · obtain ⟨a, pic, m, n, rfl, hS, C, k⟩ := h
    have hsz : sizeLine = 16777216 := sizeLine_eq
    have c2 := C.n40
    have c4 := C.m40
    have hlen : (vS pic).length = n := by rw [vS_len, C.hn]
    have h0 : 0 < pic.length := by rw [C.hn]; exact C.n1
    have hm0 := C.hm pic[0] (List.getElem_mem h0)
    have R : Rct pic m n := ⟨C.hn, C.hm⟩
    have sl : ∀ u : List Nat, u.length ≤ 40 → (tx u).length ≤ sizeLine := fun u h => by rw [tx_len]; exact small40 h
    refine ⟨_, (pss_cons (ps_set (i := 1) sc_crossings_of.nd rfl (Or.inr rfl) (pe_callB call_len_str rfl T.b_len bt_len (pa_cons (pe_ix (ix_listK (K := K)) (pv 0) pe_int (fun _ _ => rfl)) pa_nil)))
      (pss_cons (ps_set (i := 2) sc_crossings_of.nd rfl (Or.inl rfl) (pe_lst pa_nil))
      (pss_cons (ps_for PassesOwn.never rfl (pi_range1 rfl T.b_range (pa_cons (pv 1) pa_nil)) (pg_name (i := 3) sc_crossings_of.nd rfl (Or.inr rfl))
        (pss_one (ps_expr (pe_bmK (K := K) PySem.F.plainAttrs_list PySem.F.slot_list_append PySem.F.type_list_append mt_append (pv 2) (pa_cons (pe_comp (CompOk.mk (caps := [0, 1, 3]) (Nc := ["pick", "picture", "ends", "end"]) rfl (by decide +kernel) (by decide +kernel) (comp_fr (sc0 := defScope s_crossings_of) rfl (by decide +kernel)) rfl rfl rfl (by decide +kernel) (fun k j h => match k, h with | 0, h => by obtain rfl := Option.some.inj h; exact ⟨_, rfl, rfl, rfl⟩ | 1, h => by obtain rfl := Option.some.inj h; exact ⟨_, rfl, rfl, rfl⟩ | 2, h => by obtain rfl := Option.some.inj h; exact ⟨_, rfl, rfl, rfl⟩ | _ + 3, h => by simp at h)) rfl (pi_range1 rfl T.b_range (pa_cons (pe_callB (call_len_seqK (K := K)) rfl T.b_len bt_len (pa_cons (pv 0) pa_nil)) pa_nil)) (fun _ _ _ _ _ => .nil) (fun _ _ _ _ _ => (pe_tup (pa_cons (pe_op op_add (pv 2) (pv 0)) (pa_cons (pe_ix ix_str (pe_ix (ix_listK (K := K)) (pv 1) (pv 0) (fun _ _ => rfl)) (pv 3) (fun _ _ => rfl)) pa_nil))))) pa_nil)))))
      (pss_cons (ps_for PassesOwn.never rfl (pi_listK (K := K) (pv 0)) (pg_name (i := 4) sc_crossings_of.nd rfl (Or.inl rfl))
        (pss_one (ps_expr (pe_bmK (K := K) PySem.F.plainAttrs_list PySem.F.slot_list_append PySem.F.type_list_append mt_append (pv 2) (pa_cons (pe_listEnum rfl T.b_list rfl T.b_enumerate (pv 4)) pa_nil)))))
      (pss_one (ps_ret (pv 2))))))), ?_⟩
    refine ⟨_, rfl, _, _, _, _, rfl, rfl, hS, atI_of (by decide) (vS_get (List.getElem?_eq_getElem h0)), _, rfl, (by rw [tx_len, hm0]; exact small40 c4), ?_⟩
    rw [tx_len, hm0]
    refine ⟨Nat.zero_le _, fun sa nsa => ?_⟩
    have s1 : Same H (upd H sa (.lst [])) := .upd nsa
    have S1 : SA (upd H sa (.lst [])) sa [] [] pic m n 0 := ⟨upd_same, rfl, rfl, by simp, fun v r ts e => by simp at e, fun v ts j T e => by simp at e⟩
    generalize upd H sa (.lst []) = H1 at s1 S1 ⊢
    refine ⟨_, rfl, _, rfl, (by omega), (by omega), ?_⟩
    rw [Int.toNat_natCast]
    refine for_range (lo := 0) (n := m) (fun i σ H2 => ∃ (rs : List Addr) (tt : List (List Addr)) (v3 v4 : Option V), σ = [some (.ref a), some (.int (m : Int)), some (.ref sa), v3, v4] ∧ Same H H2 ∧ SA H2 sa rs tt pic m n i) ⟨[], [], none, none, rfl, s1, S1⟩ ?_ ?_
    · rintro i σ H2 hi ⟨rs, tt, v3, v4, rfl, s2, S2⟩
      refine ⟨_, rfl, .inl ⟨rfl, _, SqL.of S2.h⟩, _, rfl, _, _, rfl, .inl (s2.seq hS), _, rfl, (by omega), (by rw [hlen]; omega), ?_⟩
      rw [Int.toNat_natCast, hlen]
      refine comp_range (lo := 0) (n := n) (fun j ys H3 => ∃ ts : List Addr, Same H2 H3 ∧ ys = ts.map V.ref ∧ ts.length = j ∧ ∀ (j' : Nat) (T : Addr), ts[j']? = some T → H3 T = some (.tup [.int ((nbr m i j' : Nat) : Int), .str ⟨#[crs pic m i (nbr m i j')]⟩])) ⟨[], .refl _, rfl, rfl, fun j' T h => by simp at h⟩ ?_ ?_ ?_ ?_
      · rintro j ys H3 hj ⟨ts, s3, rfl, hts, _⟩
        rw [List.length_map, hts]
        exact Nat.le_refl _
      · exact small40 c2
      · rintro j ys H3 hj ⟨ts, s3, rfl, hts, tp⟩
        obtain ⟨ej, lj, aj⟩ := R.at hj
        refine CTurn.no ?_
        refine ⟨_, rfl, _, rfl, _, _, rfl, rfl, _, rfl, _, rfl, _, _, _, _, rfl, rfl, (s2.trans s3).seq hS, aj, _, rfl, _, _, _, rfl, rfl, sl _ (by omega), tx_at (by omega), (by show 2 ≤ sizeLine; omega), fun T2 nT => ?_⟩
        have e1 : nbr m i j = m + j := by unfold nbr; rw [if_pos hi]
        have e2 : crs pic m i (nbr m i j) = (pic.getD j []).getD i 0 := by rw [e1]; unfold crs; rw [if_pos hi, show m + j - m = j by omega]
        dsimp only
        rw [show (m : Int) + (0 + (j : Int)) = ((nbr m i j : Nat) : Int) by rw [e1]; omega, ← e2]
        refine CN.of hj ⟨ts ++ [T2], s3.new nT, by rw [List.map_append]; rfl, by rw [List.length_append, hts]; rfl, fun j' T' h => ?_⟩
        by_cases hj' : j' < ts.length
        · rw [List.getElem?_append_left hj'] at h
          have q := tp j' T' h
          rw [upd_ne (ne_of_none q nT)]
          exact q
        · have h2 := (List.getElem?_eq_some_iff.mp h).1
          rw [List.length_append, List.length_singleton] at h2
          have ej' : j' = ts.length := by omega
          rw [ej', List.getElem?_append_right (Nat.le_refl _), Nat.sub_self] at h
          cases h
          rw [ej', hts]
          exact upd_same
      · rintro ys H3 r ⟨ts, s3, rfl, hts, tp⟩ nr
        have s4 : Same H2 (upd H3 r (.lst (ts.map V.ref))) := s3.new nr
        have S4 := S2.same s4
        have rsa : r ≠ sa := fun e => by rw [e] at nr; rw [s3 _ _ S2.h] at nr; cases nr
        refine ⟨_, _, _, rfl, rfl, S4.h, (by rw [List.length_map, S4.rl]; omega), ?_⟩
        refine ⟨rs ++ [r], tt ++ [ts], _, _, rfl, (s2.trans s4).over nsa, S4.app upd_same (by rw [hts]; unfold deg; rw [if_pos hi]) (fun j T e => ?_) rsa⟩
        have q := tp j T e
        rw [upd_ne (ne_of_none q nr)]
        exact q
    · rintro σ H2 ⟨rs, tt, v3, v4, rfl, s2, S2⟩
      refine ⟨_, rfl, _, rfl, ⟨_, s2.seq hS⟩, for_list (K := K) (a := a) (xs := vS pic) (fun i σ H3 => ∃ (rs : List Addr) (tt : List (List Addr)) (v3 v4 : Option V), σ = [some (.ref a), some (.int (m : Int)), some (.ref sa), v3, v4] ∧ Same H H3 ∧ SA H3 sa rs tt pic m n (m + i)) ⟨rs, tt, v3, v4, rfl, s2, S2⟩ (fun i σ H3 _ ⟨_, _, _, _, _, e, _⟩ => e.seq hS) ?_ ?_⟩
      · rintro i x σ H3 hx ⟨rs, tt, v3, v4, rfl, s3, S3⟩
        obtain ⟨u, hu, rfl⟩ := vS_got hx
        have hul := C.hm u (List.mem_of_getElem? hu)
        have hin : i < n := by have := (List.getElem?_eq_some_iff.mp hu).1; rw [C.hn] at this; exact this
        have gu : pic.getD i [] = u := by rw [List.getD_eq_getElem?_getD, hu]; rfl
        refine ⟨_, rfl, .inl ⟨rfl, _, SqL.of S3.h⟩, _, rfl, tx u, rfl, (by show u.toArray.size ≤ 1000; simp; omega), fun r ts H4 s4 nr hr hts tp => ?_⟩
        have htl : ts.length = m := by rw [hts]; show u.toArray.size = m; simp; exact hul
        have S4 := S3.same s4
        have rsa : r ≠ sa := fun e => by rw [e, S3.h] at nr; cases nr
        refine ⟨_, _, _, rfl, rfl, S4.h, (by rw [List.length_map, S4.rl]; omega), ?_⟩
        refine ⟨rs ++ [r], tt ++ [ts], _, _, rfl, (s3.trans s4).over nsa, S4.app hr (by rw [htl]; unfold deg; rw [if_neg (by omega)]) (fun j T e => ?_) rsa⟩
        have jl : j < u.length := by have := (List.getElem?_eq_some_iff.mp e).1; omega
        have q := tp j T u[j] e (by rw [tx_cps]; exact List.getElem?_eq_getElem jl)
        have e1 : nbr m (m + i) j = j := by unfold nbr; rw [if_neg (by omega)]
        have e2 : crs pic m (m + i) j = u[j] := by
          unfold crs
          rw [if_neg (by omega), show m + i - m = i by omega, gu]
          simp [List.getD, jl]
        rw [e1, e2]
        exact q
      · rintro σ H3 ⟨rs, tt, v3, v4, rfl, s3, S3⟩
        rw [hlen] at S3
        exact ⟨_, rfl, k sa rs tt H3 s3 nsa S3⟩
def pvO : Option Nat → V
  | none => .non
  | some u => .int (u : Int)
def kvs (ps : List (Nat × Option Nat)) : List (Key × V) := ps.map fun p => (Sum.inl (p.1 : Int), pvO p.2)
theorem kvs_none {v : Nat} : ∀ {ps : List (Nat × Option Nat)}, v ∉ ps.map (·.1) → valV (kvs ps) (Sum.inl (v : Int)) = none
  | [], _ => valV_nil
  | p :: ps, h => by
    unfold kvs
    rw [List.map_cons] at h ⊢
    rw [valV_neg (fun e => ?_)]
    · exact kvs_none fun z => h (List.mem_cons_of_mem _ z)
    · have e : ((p.1 : Nat) : Int) = (v : Int) := Sum.inl.inj e
      have e : p.1 = v := by omega
      exact h (by rw [← e]; exact List.mem_cons_self)
theorem kvs_some {v : Nat} {a : Option Nat} : ∀ {ps : List (Nat × Option Nat)}, (ps.map (·.1)).Nodup → (v, a) ∈ ps → valV (kvs ps) (Sum.inl (v : Int)) = some (pvO a)
  | [], _, h => by cases h
  | p :: ps, nd, h => by
    rw [List.map_cons, List.nodup_cons] at nd
    unfold kvs
    rw [List.map_cons]
    rcases List.mem_cons.mp h with e | h'
    · rw [← e]
      exact valV_pos rfl
    · rw [valV_neg (fun z => nd.1 ?_)]
      · exact kvs_some nd.2 h'
      · have z : ((p.1 : Nat) : Int) = (v : Int) := Sum.inl.inj z
        have z : p.1 = v := by omega
        rw [z]
        exact List.mem_map.mpr ⟨_, h', rfl⟩
theorem kvs_app (ps : List (Nat × Option Nat)) (v u : Nat) (h : valV (kvs ps) (Sum.inl (v : Int)) = none) : putK (kvs ps) (Sum.inl (v : Int)) (.int (u : Int)) = kvs (ps ++ [(v, some u)]) := by
  rw [putK_new _ h]
  unfold kvs
  rw [List.map_append]
  rfl
theorem kvs_len (ps : List (Nat × Option Nat)) : (kvs ps).length = ps.length := by unfold kvs; rw [List.length_map]
def Ahd (ps : List (Nat × Option Nat)) : Prop := ∀ (i k c : Nat), ps[i]? = some (k, some c) → ∃ (j : Nat) (c' : Option Nat), j < i ∧ ps[j]? = some (c, c')
theorem at_neg {xs : List V} {x : V} (h : xs[xs.length - 1]? = some x) : atI xs (-1) = some x := by
  have hl := (List.getElem?_eq_some_iff.mp h).1
  unfold atI ixN
  have h1 : ¬ (0 : Int) ≤ -1 := by decide
  rw [if_neg h1]
  have h2 : -((xs.length : Nat) : Int) ≤ -1 := by omega
  rw [if_pos h2]
  show xs[((-1 : Int) + ((xs.length : Nat) : Int)).toNat]? = some x
  rw [show ((-1 : Int) + ((xs.length : Nat) : Int)).toNat = xs.length - 1 by omega]
  exact h
theorem vI_lst (bs : List Int) (x : Int) : atI (vI (bs ++ [x])) (-1) = some (.int x) := by
  refine at_neg ?_
  rw [vI_len, List.length_append, List.length_singleton, Nat.add_sub_cancel]
  exact vI_get (by rw [List.getElem?_append_right (Nat.le_refl _), Nat.sub_self]; rfl)
theorem vI_rev (ks : List Int) : (vI ks).reverse = vI ks.reverse := by unfold vI; rw [List.map_reverse]
def nI (ws : List Nat) : List Int := ws.map fun v => ((v : Nat) : Int)
theorem nI_len (ws : List Nat) : (nI ws).length = ws.length := by unfold nI; rw [List.length_map]
theorem nI_app (a b : List Nat) : nI (a ++ b) = nI a ++ nI b := by unfold nI; rw [List.map_append]
theorem nI_rev (a : List Nat) : (nI a).reverse = nI a.reverse := by unfold nI; rw [List.map_reverse]
theorem nI_at {ws : List Nat} {i v : Nat} (h : ws[i]? = some v) : (vI (nI ws))[i]? = some (.int (v : Int)) := vI_get (by unfold nI; rw [List.getElem?_map, h]; rfl)
def sp_wayto : Sp := fun vs H Q _ => ∃ (d : Addr) (g jg : Nat) (c : Option Nat) (ps : List (Nat × Option Nat)), vs = [.ref d, .int (g : Int)] ∧ H d = some (.dK (kvs ps)) ∧ (ps.map (·.1)).Nodup ∧ Ahd ps ∧ ps.length ≤ 200 ∧ ps[jg]? = some (g, c) ∧
  ∀ (l : Addr) (as : List Nat) (H' : Hp), Same H H' → H l = none → H' l = some (.lst (vI (nI as.reverse))) → Wy ps g as → Q (.ref l) H'
theorem ok_way_to (T : Txt K mg t) : FnOk P w K mg base CX0 1 t.f_way_to t.d_way_to ["ahead", "goal"] sp_wayto := by
  refine T.way_to.F.ok sc_way_to (fun vs H Q E h => ?_) (fun cdv A outer s H vs Q E hr h => ?_)
  · obtain ⟨d, g, jg, c, ps, rfl, _⟩ := h
    rfl
  · obtain ⟨d, g, jg, c, ps, rfl, hd, nd, ah, p200, hg, k⟩ := h
    have hsz : sizeLine = 16777216 := sizeLine_eq
    refine ⟨_, (pss_cons (ps_set (i := 2) sc_way_to.nd rfl (Or.inl rfl) (pe_lst (pa_cons (pv 1) pa_nil)))
      (pss_cons (ps_while PassesOwn.never (pt_cmpR op_notN (pe_dget (hu_of hr) (pv 0) (pe_ix (ix_listK (K := K)) (pv 2) (pe_un un_neg pe_int) (fun _ _ => rfl)) (fun _ _ => rfl)) pe_non (nomark _))
        (pss_one (ps_expr (pe_bmK (K := K) PySem.F.plainAttrs_list PySem.F.slot_list_append PySem.F.type_list_append mt_append (pv 2) (pa_cons (pe_dget (hu_of hr) (pv 0) (pe_ix (ix_listK (K := K)) (pv 2) (pe_un un_neg pe_int) (fun _ _ => rfl)) (fun _ _ => rfl)) pa_nil)))))
      (pss_one (ps_ret (pe_listRev (K := K) rfl T.b_list rfl T.b_reversed (pv 2)))))), ?_⟩
    refine ⟨_, rfl, (by show 1 ≤ sizeLine; decide), fun l nl => ?_⟩
    have s1 : Same H (upd H l (.lst [.int (g : Int)])) := .upd nl
    have jl := (List.getElem?_eq_some_iff.mp hg).1
    refine ⟨fun m σ H2 => ∃ (bs : List Nat) (cur : Nat) (c : Option Nat), σ = [some (.ref d), some (.int (g : Int)), some (.ref l)] ∧ Same H H2 ∧ H2 l = some (.lst (vI (nI (bs ++ [cur])))) ∧ ps[m]? = some (cur, c) ∧ bs.length + m ≤ jg ∧ Dw ps (bs ++ [cur]) ∧ (bs ++ [cur])[0]? = some g ∧ ∀ v ∈ bs ++ [cur], v ∈ ps.map (·.1),
      ⟨jg, [], g, c, rfl, s1, upd_same, hg, by simp, trivial, rfl, fun v hv => ?_⟩, ?_⟩
    · rw [List.mem_singleton.mp hv]; exact List.mem_map.mpr ⟨_, List.mem_of_getElem? hg, rfl⟩
    rintro m σ H2 ⟨bs, cur, c, rfl, s2, hl2, hm, hb, dw, h0, ks⟩
    have hd2 := s2 _ _ hd
    have dg : DGet H2 d (.int (cur : Int)) (some (pvO c)) := by
      have := DGet.k (k := Sum.inl (cur : Int)) hd2
      rw [kvs_some nd (List.mem_of_getElem? hm)] at this
      exact this
    have la : atI (vI (nI (bs ++ [cur]))) (-1) = some (.int (cur : Int)) := by rw [nI_app]; exact vI_lst _ _
    refine ⟨_, rfl, _, rfl, _, rfl, _, _, _, _, rfl, rfl, SqL.of hl2, la, d, _, rfl, dg, rfl, _, rfl, ?_⟩
    cases c with
    | none =>
      refine iteNS rfl ?_
      refine ⟨_, rfl, _, _, rfl, SqL.of hl2, (by rw [vI_len, nI_len, List.length_append, List.length_singleton]; omega), fun q nq => ?_⟩
      rw [vI_rev, nI_rev]
      exact k q (bs ++ [cur]) _ (s2.new nq) (s2.free nq) upd_same ⟨dw, h0, ⟨cur, by simp, List.mem_of_getElem? hm⟩, by rw [List.length_append, List.length_singleton]; omega, ks⟩
    | some c =>
      obtain ⟨j, c', hj, ej⟩ := ah m cur c hm
      refine iteNp (by intro z; cases z) ?_
      refine ⟨fun σ' H' => ∃ (bs : List Nat) (cur : Nat) (c : Option Nat), σ' = [some (.ref d), some (.int (g : Int)), some (.ref l)] ∧ Same H H' ∧ H' l = some (.lst (vI (nI (bs ++ [cur])))) ∧ ps[j]? = some (cur, c) ∧ bs.length + j ≤ jg ∧ Dw ps (bs ++ [cur]) ∧ (bs ++ [cur])[0]? = some g ∧ ∀ v ∈ bs ++ [cur], v ∈ ps.map (·.1),
        fun σ' H' z => ⟨j, hj, z⟩, ?_⟩
      refine ⟨_, rfl, .inl ⟨rfl, _, SqL.of hl2⟩, _, rfl, _, rfl, _, rfl, _, _, _, _, rfl, rfl, SqL.of hl2, la, d, _, rfl, dg, _, _, _, rfl, rfl, hl2, (by rw [vI_len, nI_len, List.length_append, List.length_singleton]; omega), ?_⟩
      refine ⟨bs ++ [cur], c, c', rfl, s2.over nl, ?_, ej, ?_, dw.snoc (List.mem_of_getElem? hm), ?_, fun v hv => ?_⟩
      · rw [upd_same]
        show some (HO.lst (vI (nI (bs ++ [cur])) ++ [.int (c : Int)])) = _
        rw [vI_app, nI_app (bs ++ [cur]) [c]]
        rfl
      · rw [List.length_append, List.length_singleton]; omega
      · rw [List.getElem?_append_left (by rw [List.length_append, List.length_singleton]; omega)]; exact h0
      · rcases List.mem_append.mp hv with h | h
        · exact ks v h
        · rw [List.mem_singleton.mp h]; exact List.mem_map.mpr ⟨_, List.mem_of_getElem? ej, rfl⟩
end
end Mine

set_option Elab.async false
set_option linter.all false
set_option maxRecDepth 100000
set_option maxHeartbeats 4000000
namespace Mine
open PySem L2
/-- a dict of colours -/
def gK (g : List (Nat × Nat)) : List (Key × V) := g.map fun p => (Sum.inl (p.1 : Int), V.str ⟨#[p.2]⟩)
theorem gK_len (g : List (Nat × Nat)) : (gK g).length = g.length := by unfold gK; rw [List.length_map]
theorem gK_val (v : Nat) : ∀ g : List (Nat × Nat), valV (gK g) (Sum.inl (v : Int)) = (g.lookup v).map fun c => V.str ⟨#[c]⟩
  | [] => valV_nil
  | p :: g => by
    unfold gK
    rw [List.map_cons, List.lookup_cons]
    cases e : v == p.1 with
    | true =>
      have : v = p.1 := by simpa using e
      rw [valV_pos (by show Sum.inl ((p.1 : Nat) : Int) = Sum.inl ((v : Nat) : Int); rw [this])]
      rfl
    | false =>
      have : v ≠ p.1 := by simpa using e
      rw [valV_neg (fun z => this (by have z : ((p.1 : Nat) : Int) = (v : Int) := Sum.inl.inj z; omega))]
      exact gK_val v g
theorem gK_app (g : List (Nat × Nat)) (v c : Nat) (h : g.lookup v = none) : putK (gK g) (Sum.inl (v : Int)) (.str ⟨#[c]⟩) = gK (g ++ [(v, c)]) := by
  rw [putK_new _ (by rw [gK_val, h]; rfl)]
  unfold gK
  rw [List.map_append]
  rfl
theorem look_none_of {g : List (Nat × Nat)} {v : Nat} (h : v ∉ g.map (·.1)) : g.lookup v = none := by
  cases e : g.lookup v with
  | none => rfl
  | some c => exact absurd (List.mem_map.mpr ⟨_, look_mem e, rfl⟩) h
theorem gK_merge : ∀ (g b : List (Nat × Nat)), ((b ++ g).map (·.1)).Nodup → mergeK (gK b) (gK g) = gK (b ++ g)
  | [], b, _ => by rw [List.append_nil]; rfl
  | p :: g, b, nd => by
    have nb : b.lookup p.1 = none := look_none_of fun z => by
      rw [List.map_append] at nd
      exact (List.nodup_append.mp nd).2.2 p.1 z p.1 (by rw [List.map_cons]; exact List.mem_cons_self) rfl
    show mergeK (putK (gK b) (Sum.inl (p.1 : Int)) (.str ⟨#[p.2]⟩)) (gK g) = _
    rw [gK_app b p.1 p.2 nb, gK_merge g (b ++ [p]) (by rw [List.append_assoc]; exact nd), List.append_assoc]
    rfl
theorem gK_get {H : Hp} {d : Addr} {g : List (Nat × Nat)} (h : H d = some (.dK (gK g))) (w x : Nat) :
    ∃ ob : Option V, DGet H d (.int (w : Int)) ob ∧ scal (ob.getD .non) (.str ⟨#[x]⟩) = true ∧ (ob.getD .non = V.str ⟨#[x]⟩ ↔ g.lookup w = some x) ∧ ob.isSome = (g.lookup w).isSome := by
  refine ⟨_, DGet.k (k := Sum.inl (w : Int)) h, ?_⟩
  rw [gK_val]
  cases g.lookup w with
  | none => exact ⟨rfl, ⟨fun z => (by cases z), fun z => (by cases z)⟩, rfl⟩
  | some c =>
    refine ⟨rfl, ⟨fun z => congrArg some ?_, fun z => (by cases z; rfl)⟩, rfl⟩
    have z : (V.str ⟨#[c]⟩ : V) = V.str ⟨#[x]⟩ := z
    injection z with z
    exact (List.cons.inj (tx_inj (a := [c]) (b := [x]) z)).1
/-- all is as it was but one -/
def Kp (gd : Addr) (H H' : Hp) : Prop := ∀ b o, b ≠ gd → H b = some o → H' b = some o
theorem Kp.of {gd : Addr} {H H' : Hp} (s : Same H H') : Kp gd H H' := fun b o _ e => s b o e
theorem Kp.thn {gd : Addr} {H H1 H2 : Hp} (k : Kp gd H H1) (s : Same H1 H2) : Kp gd H H2 := fun b o n e => s _ _ (k b o n e)
theorem Kp.put {gd : Addr} {H H1 : Hp} {x : HO} (k : Kp gd H H1) : Kp gd H (upd H1 gd x) := fun b o n e => by rw [upd_ne n]; exact k b o n e
theorem Kp.over {gd a : Addr} {H H1 : Hp} {x : HO} (k : Kp gd H H1) (h : H a = none) : Kp gd H (upd H1 a x) := fun b o n e => by rw [upd_ne (ne_of_none e h)]; exact k b o n e
theorem SA.kp {H H' : Hp} {sa gd : Addr} {rs : List Addr} {tt : List (List Addr)} {pic : List (List Nat)} {m n k : Nat} {y : List (Key × V)} (S : SA H sa rs tt pic m n k) (s : Kp gd H H') (hg : H gd = some (.dK y)) : SA H' sa rs tt pic m n k := by
  have f : ∀ b o, (∀ z, o ≠ .dK z) → H b = some o → H' b = some o := fun b o n e => s b o (fun z => by rw [z, hg] at e; exact n _ (Option.some.inj e).symm) e
  exact ⟨f _ _ (fun z e => by cases e) S.h, S.rl, S.tl, S.ne, fun v r ts e1 e2 => ⟨f _ _ (fun z e => by cases e) (S.row v r ts e1 e2).1, (S.row v r ts e1 e2).2⟩, fun v ts j T e1 e2 => f _ _ (fun z e => by cases e) (S.tup v ts j T e1 e2)⟩
def keysI (g : List (Nat × Nat)) : List Int := g.map fun q => ((q.1 : Nat) : Int)
theorem keysI_len (g : List (Nat × Nat)) : (keysI g).length = g.length := by unfold keysI; rw [List.length_map]
theorem keys_at {g : List (Nat × Nat)} {i v c : Nat} (h : g[i]? = some (v, c)) : atI (vI (keysI g)) (i : Int) = some (.int (v : Int)) := atI_of (by omega) (by
  rw [Int.toNat_natCast]
  exact vI_get (by unfold keysI; rw [List.getElem?_map, h]; rfl))
theorem crs_co {pic : List (List Nat)} {m n v w : Nat} (C : Pic pic m n) (hv : v < m + n) (hw : w < m + n) (h : Bip m v w) : 97 ≤ crs pic m v w ∧ crs pic m v w ≤ 102 := by
  have key : ∀ i j, i < n → j < m → 97 ≤ (pic.getD i []).getD j 0 ∧ (pic.getD i []).getD j 0 ≤ 102 := fun i j hi hj => by
    have hil : i < pic.length := by rw [C.hn]; exact hi
    have e1 : pic.getD i [] = pic[i] := by simp [List.getD, hil]
    have l1 := C.hm _ (List.getElem_mem hil)
    have e2 : pic[i].getD j 0 = pic[i][j] := by simp [List.getD, show j < pic[i].length by omega]
    rw [e1, e2]
    exact C.co _ (List.getElem_mem hil) _ (List.getElem_mem _)
  unfold crs
  rcases h with ⟨h1, h2⟩ | ⟨h1, h2⟩
  · rw [if_pos h1]; exact key _ _ (by omega) h1
  · rw [if_neg (by omega)]; exact key _ _ (by omega) h2
theorem by_restP {G R : Prop} (C : Prop) (main : (C → R) → G) (rest : C → R) : G := main rest
theorem tx_atN {u : List Nat} {i : Nat} (h : i < u.length) : atI (tx u).cps.toList (i : Int) = some (u.getD i 0) := by
  refine atI_of (by omega) ?_
  rw [Int.toNat_natCast]
  show u.toArray.toList[i]? = _
  simp [List.getD, h]
theorem fresh_kp {gd l : Addr} {H H4 H7 : Hp} {x : HO} (k : Kp gd H H4) (hg : H4 gd = some x) (n : H7 l = none) (s : Same H4 H7) : H l = none := by
  cases e : H l with
  | none => rfl
  | some o =>
    by_cases eg : l = gd
    · rw [eg, s _ _ hg] at n; cases n
    · rw [s _ _ (k _ _ eg e)] at n; cases n
theorem chain_back {pic : List (List Nat)} {m n : Nat} {told : List Nat} {b g : List (Nat × Nat)} {s0 c0 : Nat} {ps : List (Nat × Option Nat)} (C : Cn pic m n told b s0 c0 g ps) {as1 as2 : List Nat} {v w c d : Nat} (W1 : Wy ps v as1) (W2 : Wy ps w as2)
    (hv : g.lookup v = some c) (hw : g.lookup w = some d) (bp : Bip m v w) (ne : crs pic m v w ≠ c) (nd : d ≠ crs pic m v w) : Rgt pic m n told s0 c0 (as1.reverse ++ as2) := by
  have inlt : ∀ x, x ∈ ps.map (·.1) → x < m + n := fun x hx => by
    rw [C.keys] at hx
    obtain ⟨q, hq, rfl⟩ := List.mem_map.mp hx
    exact C.lt q hq
  have l1 := W1.len
  have l2 := W2.len
  have gl := C.len
  have pl := C.len2
  obtain ⟨r1, e1, m1⟩ := W1.lst
  obtain ⟨r2, e2, m2⟩ := W2.lst
  have x1 := C.rt _ m1
  have x2 := C.rt _ m2
  subst x1
  cases as1 with
  | nil => cases W1.hd
  | cons a A =>
    cases as2 with
    | nil => cases W2.hd
    | cons a2 B =>
      have h1 : a = v := Option.some.inj W1.hd
      have h2 : a2 = w := Option.some.inj W2.hd
      subst h1 h2
      have up := W1.dw.rev
      rw [List.reverse_cons] at up ⊢
      refine Rgt.back C up ?_ W2.dw (by rw [e2, x2]) hv hw bp ne nd (by rw [List.length_append, List.length_reverse]; simp at l1 ⊢; omega) (by omega) (fun x hx => inlt x (W1.ks x ?_)) (fun x hx => inlt x (W2.ks x hx))
      · rw [← List.reverse_cons, ← List.head?_eq_getElem?, List.head?_reverse]; exact e1
      · rw [← List.reverse_cons] at hx
        exact List.mem_reverse.mp hx
theorem chain_told {pic : List (List Nat)} {m n : Nat} {told : List Nat} {b g : List (Nat × Nat)} {s0 c0 : Nat} {ps : List (Nat × Option Nat)} (C : Cn pic m n told b s0 c0 g ps) {as1 : List Nat} {v w c : Nat} (W1 : Wy ps v as1)
    (hv : g.lookup v = some c) (bp : Bip m v w) (ne : crs pic m v w ≠ c) (t1 : told.getD w 0 ≠ 63) (t2 : told.getD w 0 ≠ crs pic m v w) (hw : w < m + n) : Rgt pic m n told s0 c0 (as1.reverse ++ [w]) := by
  have inlt : ∀ x, x ∈ ps.map (·.1) → x < m + n := fun x hx => by
    rw [C.keys] at hx
    obtain ⟨q, hq, rfl⟩ := List.mem_map.mp hx
    exact C.lt q hq
  have l1 := W1.len
  have gl := C.len
  have pl := C.len2
  obtain ⟨r1, e1, m1⟩ := W1.lst
  have x1 := C.rt _ m1
  subst x1
  cases as1 with
  | nil => cases W1.hd
  | cons a A =>
    have h1 : a = v := Option.some.inj W1.hd
    subst h1
    have up := W1.dw.rev
    rw [List.reverse_cons] at up ⊢
    refine Rgt.tolds C up ?_ hv bp ne t1 t2 (by rw [List.length_append, List.length_reverse]; simp at l1 ⊢; omega) (fun x hx => inlt x (W1.ks x ?_)) hw
    · rw [← List.reverse_cons, ← List.head?_eq_getElem?, List.head?_reverse]; exact e1
    · rw [← List.reverse_cons] at hx
      exact List.mem_reverse.mp hx
section
variable {P : Program} {w : World} {K : PySem.W.Frag} {mg : Str → Option Value} {base : Heap} {t : Adr}
def sp_chain : Sp := fun vs H Q _ => ∃ (sa bd gd : Addr) (rs : List Addr) (tt : List (List Addr)) (pic : List (List Nat)) (m n : Nat) (told : List Nat) (b : List (Nat × Nat)) (s0 c0 : Nat), vs = [.ref sa, .str (tx told), .ref bd, .ref gd, .int (s0 : Int)] ∧
  SA H sa rs tt pic m n (m + n) ∧ Pic pic m n ∧ told.length = m + n ∧ H bd = some (.dK (gK b)) ∧ H gd = some (.dK (gK [(s0, c0)])) ∧ bd ≠ gd ∧ Bor pic m n told b ∧ s0 < m + n ∧ (97 ≤ c0 ∧ c0 ≤ 102) ∧ b.lookup s0 = none ∧
  (∀ (H' : Hp) (g : List (Nat × Nat)) (ps : List (Nat × Option Nat)), Kp gd H H' → H' gd = some (.dK (gK g)) → Cn pic m n told b s0 c0 g ps → (∀ (i v c : Nat), g[i]? = some (v, c) → Mt pic m b g v c (deg m n v)) → okF pic m n b told s0 c0 = some g → Q .non H') ∧
  ((∀ O, Fit pic m n told O → O s0 ≠ c0) → ∀ (l : Addr) (L : List Nat) (H' : Hp), Kp gd H H' → H l = none → H' l = some (.lst (vI (nI L))) → Rgt pic m n told s0 c0 L → ChL pic m n b told s0 c0 L → Q (.ref l) H')
theorem ok_chain_from (T : Txt K mg t) : FnOk P w K mg base CX0 2 t.f_chain_from t.d_chain_from ["seen_along", "told", "borne", "given", "strand"] sp_chain := by
  have G_way_to : FnOk P w K mg base CX0 1 t.f_way_to t.d_way_to _ _ := ok_way_to T
  refine T.chain_from.F.ok sc_chain_from (fun vs H Q E h => ?_) (fun cdv A outer s H vs Q E hr h => ?_)
  · obtain ⟨sa, bd, gd, rs, tt, pic, m, n, told, b, s0, c0, rfl, _⟩ := h
    rfl
  · obtain ⟨sa, bd, gd, rs, tt, pic, m, n, told, b, s0, c0, rfl, S, C, tl, hbd, hgd, bg, B, hs0, hc0, hb0, kN, kL⟩ := h
    have hsz : sizeLine = 16777216 := sizeLine_eq
    have c2 := C.n40
    have c4 := C.m40
    refine ⟨_, (pss_cons (ps_set (i := 5) sc_chain_from.nd rfl (Or.inl rfl) (pe_disp (pps_cons (pv 4) pe_non pps_nil) rfl rfl (by simp) (by decide)))
      (pss_cons (ps_set (i := 6) sc_chain_from.nd rfl (Or.inl rfl) (pe_lst (pa_cons (pv 4) pa_nil)))
      (pss_cons (ps_set (i := 7) sc_chain_from.nd rfl (Or.inl rfl) pe_int)
      (pss_cons (ps_while PassesOwn.never (pt_cmpR op_lt (pv 7) (pe_callB (call_len_seqK (K := K)) rfl T.b_len bt_len (pa_cons (pv 6) pa_nil)) (nomark _))
        (pss_cons (ps_set (i := 8) sc_chain_from.nd rfl (Or.inl rfl) (pe_ix (ix_listK (K := K)) (pv 6) (pv 7) (fun _ _ => rfl)))
        (pss_cons (ps_for PassesOwn.never rfl (pi_listK (K := K) (pe_ix (ix_listK (K := K)) (pv 0) (pv 8) (fun _ _ => rfl))) (pg_tup rfl (pgs_cons (pg_name (i := 9) sc_chain_from.nd rfl (Or.inl rfl)) (pgs_cons (pg_name (i := 10) sc_chain_from.nd rfl (Or.inl rfl)) pgs_nil)))
          (pss_cons (ps_if (PW.pt (pw_or (pt_cmpR op_eq (pv 10) (pe_dget (hu_of hr) (pv 3) (pv 8) (fun _ _ => rfl)) (nomark _)) (pw_or (pt_cmpR op_eq (pe_dget1 (hu_of hr) (pv 2) (pv 9) ⟨rfl, rfl, rfl, rfl⟩) (pv 10) (nomark _)) (pw_or1 (pt_cmpR op_eq (pe_dget1 (hu_of hr) (pv 3) (pv 9) ⟨rfl, rfl, rfl, rfl⟩) (pv 10) (nomark _))))))
            (pss_one ps_continue)
            pss_nil)
          (pss_cons (ps_if (pt_cmp (pc_din (hu_of hr) (pv 9) (pv 3)))
            (pss_one (ps_ret (pe_op op_cat (pe_call (G_way_to.mono (by decide)) hr rfl T.way_to.m T.way_to.F.kp T.way_to.b .nil pass0 (pa_cons (pv 5) (pa_cons (pv 8) pa_nil))) (pe_listRev (K := K) rfl T.b_list rfl T.b_reversed (pe_call (G_way_to.mono (by decide)) hr rfl T.way_to.m T.way_to.F.kp T.way_to.b .nil pass0 (pa_cons (pv 5) (pa_cons (pv 9) pa_nil)))))))
            pss_nil)
          (pss_cons (ps_if (PW.pt (pw_and (pt_cmpR op_ne (pe_ix ix_str (pv 1) (pv 9) (fun _ _ => rfl)) pe_str (nomark _)) (pw_and1 (pt_cmpR op_ne (pe_ix ix_str (pv 1) (pv 9) (fun _ _ => rfl)) (pv 10) (nomark _)))))
            (pss_one (ps_ret (pe_op op_cat (pe_call (G_way_to.mono (by decide)) hr rfl T.way_to.m T.way_to.F.kp T.way_to.b .nil pass0 (pa_cons (pv 5) (pa_cons (pv 8) pa_nil))) (pe_lst (pa_cons (pv 9) pa_nil)))))
            pss_nil)
          (pss_cons (ps_dput (hu_of hr) (pv 3) (pv 9) (pv 10) rfl)
          (pss_cons (ps_dput (hu_of hr) (pv 5) (pv 9) (pv 8) rfl)
          (pss_one (ps_expr (pe_bmK (K := K) PySem.F.plainAttrs_list PySem.F.slot_list_append PySem.F.type_list_append mt_append (pv 6) (pa_cons (pv 9) pa_nil))))))))))
        (pss_one (ps_aug (i := 7) sc_chain_from.nd rfl (Or.inl rfl) pe_int ip_add)))))
      (pss_one (ps_ret pe_non)))))), ?_⟩
    refine fun ad nad => ⟨_, rfl, upd_same, [(Sum.inl (s0 : Int), .non)], rfl, (by show 1 ≤ 15; decide), ?_⟩
    have s1 : Same H (upd (upd H ad (.dK [])) ad (.dK (mergeK [] [(Sum.inl (s0 : Int), .non)]))) := (Same.upd nad).over nad
    have had1 : (upd (upd H ad (.dK [])) ad (.dK (mergeK [] [(Sum.inl (s0 : Int), .non)]))) ad = some (.dK (kvs [(s0, none)])) := upd_same
    generalize upd (upd H ad (.dK [])) ad (.dK (mergeK [] [(Sum.inl (s0 : Int), .non)])) = H1 at s1 had1 ⊢
    have adgd : ad ≠ gd := fun e => by rw [e, hgd] at nad; cases nad
    refine ⟨_, rfl, (by show 1 ≤ sizeLine; decide), fun fo nfo => ?_⟩
    have nfoH : H fo = none := s1.free nfo
    have foad : fo ≠ ad := fun e => by rw [e, had1] at nfo; cases nfo
    have fogd : fo ≠ gd := fun e => by rw [e, hgd] at nfoH; cases nfoH
    have s2 : Same H (upd H1 fo (.lst [.int (s0 : Int)])) := s1.new nfo
    have had2 := (Same.upd (o := .lst [.int (s0 : Int)]) nfo) _ _ had1
    have hfo2 : (upd H1 fo (.lst [.int (s0 : Int)])) fo = some (.lst (vI (keysI [(s0, c0)]))) := upd_same
    have hgd2 := s2 _ _ hgd
    generalize upd H1 fo (.lst [.int (s0 : Int)]) = H2 at s2 had2 hfo2 hgd2 ⊢
    refine ⟨fun mm σ H3 => ∃ (p : Nat) (g : List (Nat × Nat)) (ps : List (Nat × Option Nat)) (v8 v9 v10 : Option V), σ = [some (.ref sa), some (.str (tx told)), some (.ref bd), some (.ref gd), some (.int (s0 : Int)), some (.ref ad), some (.ref fo), some (.int (p : Int)), v8, v9, v10] ∧ Kp gd H H3 ∧ H3 gd = some (.dK (gK g)) ∧ H3 ad = some (.dK (kvs ps)) ∧ H3 fo = some (.lst (vI (keysI g))) ∧
        Cn pic m n told b s0 c0 g ps ∧ p ≤ g.length ∧ (∀ (i v c : Nat), i < p → g[i]? = some (v, c) → Mt pic m b g v c (deg m n v)) ∧ whF pic m n b told s0 c0 p = some (g, ps) ∧ mm = m + n - p,
      ⟨m + n, 0, [(s0, c0)], [(s0, none)], none, none, none, rfl, .of s2, hgd2, had2, hfo2, Cn.start hs0 hc0 hb0, Nat.zero_le _, fun i v c h => (by omega), rfl, rfl⟩, ?_⟩
    rintro mm σ H3 ⟨p, g, ps, v8, v9, v10, rfl, k3, hgd3, had3, hfo3, Cc, hp, all, hwh, rfl⟩
    have gl := Cc.len
    refine ⟨_, rfl, _, rfl, _, _, rfl, .inl (SqL.of hfo3), _, _, rfl, rfl, _, rfl, ?_⟩
    rw [vI_len, keysI_len]
    refine ite2D (fun h => ?_) (fun h => ?_)
    · have plt : p < g.length := by omega
      obtain ⟨⟨v, c⟩, hv⟩ : ∃ q, g[p]? = some q := ⟨_, List.getElem?_eq_getElem plt⟩
      obtain ⟨st0, est0⟩ : ∃ st0 : Sta, st0 = (g, ps) := ⟨_, rfl⟩
      have hwh0 : whF pic m n b told s0 c0 p = some st0 := by rw [est0]; exact hwh
      have hv0 : st0.1[p]? = some (v, c) := by rw [est0]; exact hv
      have pN : p < m + n := by omega
      refine ⟨_, fun _ _ z => z, ?_⟩
      refine ⟨_, rfl, _, rfl, _, _, _, _, rfl, rfl, SqL.of hfo3, keys_at hv, ?_⟩
      have vN : v < m + n := Cc.lt _ (List.mem_of_getElem? hv)
      have S3 := S.kp k3 hgd
      have vr : v < rs.length := by rw [S3.rl]; exact vN
      have vt : v < tt.length := by rw [S3.tl]; exact vN
      have hrow := S3.row v rs[v] tt[v] (List.getElem?_eq_getElem vr) (List.getElem?_eq_getElem vt)
      have av : atI (rs.map V.ref) (v : Int) = some (.ref rs[v]) := atI_of (by omega) (by rw [Int.toNat_natCast, List.getElem?_map, List.getElem?_eq_getElem vr]; rfl)
      refine ⟨_, rfl, _, rfl, _, _, _, _, rfl, rfl, SqL.of S3.h, av, _, rfl, ⟨_, SqL.of hrow.1⟩, for_list (K := K) (a := rs[v]) (xs := tt[v].map V.ref)
        (fun j σ H4 => ∃ (g : List (Nat × Nat)) (ps : List (Nat × Option Nat)) (v9 v10 : Option V), σ = [some (.ref sa), some (.str (tx told)), some (.ref bd), some (.ref gd), some (.int (s0 : Int)), some (.ref ad), some (.ref fo), some (.int (p : Int)), some (.int (v : Int)), v9, v10] ∧ Kp gd H H4 ∧ H4 gd = some (.dK (gK g)) ∧ H4 ad = some (.dK (kvs ps)) ∧ H4 fo = some (.lst (vI (keysI g))) ∧
          Cn pic m n told b s0 c0 g ps ∧ g[p]? = some (v, c) ∧ (∀ (i v c : Nat), i < p → g[i]? = some (v, c) → Mt pic m b g v c (deg m n v)) ∧ Mt pic m b g v c j ∧ rowF pic m b told v c j st0 = some (g, ps))
        ⟨g, ps, v9, v10, rfl, k3, hgd3, had3, hfo3, Cc, hv, all, fun i hi => (by omega), by rw [est0]; rfl⟩ (fun j σ H4 _ ⟨_, _, _, _, _, k4, _⟩ => SqL.of ((S.kp k4 hgd).row v rs[v] tt[v] (List.getElem?_eq_getElem vr) (List.getElem?_eq_getElem vt)).1) ?_ ?_⟩
      · rintro j x σ H4 hx ⟨g, ps, v9, v10, rfl, k4, hgd4, had4, hfo4, Cc, hv, all, mt, hrow4⟩
        rw [List.getElem?_map] at hx
        obtain ⟨T2, hT2, rfl⟩ := Option.map_eq_some_iff.mp hx
        have S4 := S.kp k4 hgd
        have jd : j < deg m n v := by rw [← hrow.2]; exact (List.getElem?_eq_some_iff.mp hT2).1
        have ht := S4.tup v tt[v] j T2 (List.getElem?_eq_getElem vt) hT2
        obtain ⟨bp, wN⟩ := nbr_bip jd
        have ms := @Mt.succ pic m b g v c j mt
        have nd2 : (ps.map (·.1)).Nodup := by rw [Cc.keys]; exact Cc.nd
        have sameR : (crs pic m v (nbr m v j) = c ∨ b.lookup (nbr m v j) = some (crs pic m v (nbr m v j)) ∨ g.lookup (nbr m v j) = some (crs pic m v (nbr m v j))) → rowF pic m b told v c (j + 1) st0 = some (g, ps) := fun h => row_next hrow4 (ask_same (st := (g, ps)) h)
        have addR : crs pic m v (nbr m v j) ≠ c → b.lookup (nbr m v j) ≠ some (crs pic m v (nbr m v j)) → g.lookup (nbr m v j) = none → (told.getD (nbr m v j) 0 = 63 ∨ told.getD (nbr m v j) 0 = crs pic m v (nbr m v j)) → rowF pic m b told v c (j + 1) st0 = some (g ++ [(nbr m v j, crs pic m v (nbr m v j))], ps ++ [(nbr m v j, some v)]) := fun h1 h2 h3 h4 => row_next hrow4 (ask_add (st := (g, ps)) h1 h2 h3 h4)
        have chlB : ∀ (as1 as2 : List Nat) (d : Nat), Wy ps v as1 → Wy ps (nbr m v j) as2 → crs pic m v (nbr m v j) ≠ c → b.lookup (nbr m v j) ≠ some (crs pic m v (nbr m v j)) → g.lookup (nbr m v j) ≠ some (crs pic m v (nbr m v j)) → g.lookup (nbr m v j) = some d → ChL pic m n b told s0 c0 (as1.reverse ++ as2) :=
          fun as1 as2 d W1 W2 h1 h2 h3 hd => ⟨p, v, c, j, st0, (g, ps), as1, hwh0, hv0, jd, pN, hrow4, ask_stop1 (st := (g, ps)) h1 h2 h3 hd, nd2, W1, .inl ⟨d, as2, hd, W2, rfl⟩⟩
        have chlT : ∀ (as1 : List Nat), Wy ps v as1 → crs pic m v (nbr m v j) ≠ c → b.lookup (nbr m v j) ≠ some (crs pic m v (nbr m v j)) → g.lookup (nbr m v j) = none → told.getD (nbr m v j) 0 ≠ 63 → told.getD (nbr m v j) 0 ≠ crs pic m v (nbr m v j) → ChL pic m n b told s0 c0 (as1.reverse ++ [nbr m v j]) :=
          fun as1 W1 h1 h2 hd t1 t2 => ⟨p, v, c, j, st0, (g, ps), as1, hwh0, hv0, jd, pN, hrow4, ask_stop2 (st := (g, ps)) h1 h2 hd t1 t2, nd2, W1, .inr ⟨hd, rfl⟩⟩
        obtain ⟨w, ew⟩ : ∃ w, w = nbr m v j := ⟨_, rfl⟩
        rw [← ew] at ht bp wN ms sameR addR chlB chlT
        have co := crs_co C vN wN bp
        have hgo : g.lookup v = some c := mem_look Cc.nd (List.mem_of_getElem? hv)
        have step := fun ne nb ng t => Cn.step (w := w) Cc B hv wN bp ne co nb ng t
        have no1 := fun (ne : crs pic m v w ≠ c) (d : Nat) hd nd => Cc.no1 (List.mem_of_getElem? hv) wN bp ne (d := d) hd nd
        have no2 := fun (ne : crs pic m v w ≠ c) t1 t2 => Cc.no2 (List.mem_of_getElem? hv) wN bp ne t1 t2
        have inlt : ∀ x, x ∈ ps.map (·.1) → x < m + n := fun x hx => by
          rw [Cc.keys] at hx
          obtain ⟨q, hq, rfl⟩ := List.mem_map.mp hx
          exact Cc.lt q hq
        have bk := fun (as1 as2 : List Nat) (W1 : Wy ps v as1) (W2 : Wy ps w as2) (d : Nat) (ne : crs pic m v w ≠ c) (hd : g.lookup w = some d) (nd : d ≠ crs pic m v w) => chain_back Cc W1 W2 hgo hd bp ne nd
        have tk := fun (as1 : List Nat) (W1 : Wy ps v as1) (ne : crs pic m v w ≠ c) t1 t2 => chain_told Cc W1 hgo bp ne t1 t2 wN
        obtain ⟨x, ex⟩ : ∃ x, x = crs pic m v w := ⟨_, rfl⟩
        rw [← ex] at ht ms co step no1 no2 bk tk sameR addR chlB chlT
        have hbd4 : H4 bd = some (.dK (gK b)) := k4 _ _ bg hbd
        have gl := Cc.len
        have pl2 := Cc.len2
        have p200 : ps.length ≤ 200 := by omega
        have glt : (gK g).length < sizeLine := by rw [gK_len]; omega
        have plt2 : (kvs ps).length < sizeLine := by rw [kvs_len]; omega
        have flt : (vI (keysI g)).length < sizeLine := by rw [vI_len, keysI_len]; omega
        have plg : p < g.length := (List.getElem?_eq_some_iff.mp hv).1
        have at1 := tx_atN (u := told) (i := w) (by omega)
        have slt : (tx told).length ≤ sizeLine := by rw [tx_len]; omega
        have one1 : 1 ≤ sizeLine := by omega
        refine ⟨_, _, rfl, SqT.of ht, rfl, _, _, rfl, _, _, rfl, rfl, ?_⟩
        have dg1 : DGet H4 gd (.int (v : Int)) (some (.str ⟨#[c]⟩)) := by
          have := DGet.k (k := Sum.inl (v : Int)) hgd4
          rw [gK_val, hgo] at this
          exact this
        obtain ⟨ob, dB, sB, iB, _⟩ := gK_get hbd4 w x
        obtain ⟨og, dG, sG, iG, jG⟩ := gK_get hgd4 w x
        refine ⟨_, rfl, _, rfl, _, rfl, gd, _, rfl, dg1, rfl, _, rfl, ?_⟩
        refine ite2D (fun h1 => iteT ?_) (fun h1 => ?_)
        · exact ⟨g, ps, _, _, rfl, k4, hgd4, had4, hfo4, Cc, hv, all, ms (.inl (sg_eq.mp h1)), sameR (.inl (sg_eq.mp h1))⟩
        have nc : x ≠ c := fun z => h1 (sg_eq.mpr z)
        refine ⟨_, rfl, bd, rfl, .inl ⟨_, .inl hbd4⟩, _, rfl, _, dB, _, rfl, sB, _, rfl, ?_⟩
        refine ite2D (fun h2 => iteT ?_) (fun h2 => ?_)
        · exact ⟨g, ps, _, _, rfl, k4, hgd4, had4, hfo4, Cc, hv, all, ms (.inr (.inl (iB.mp h2))), sameR (.inr (.inl (iB.mp h2)))⟩
        refine ⟨_, rfl, gd, rfl, .inl ⟨_, .inl hgd4⟩, _, rfl, _, dG, _, rfl, sG, _, rfl, ?_⟩
        refine ite2D (fun h3 => ?_) (fun h3 => ?_)
        · exact ⟨g, ps, _, _, rfl, k4, hgd4, had4, hfo4, Cc, hv, all, ms (.inr (.inr (iG.mp h3))), sameR (.inr (.inr (iG.mp h3)))⟩
        have n2 : b.lookup w ≠ some x := fun z => h2 (iB.mpr z)
        have n3 : g.lookup w ≠ some x := fun z => h3 (iG.mpr z)
        have inps : ∀ {i u d : Nat}, g[i]? = some (u, d) → ∃ q : Option Nat, ps[i]? = some (u, q) := fun {i u d} hi => by
          have e2 : (ps.map (·.1))[i]? = some u := by rw [Cc.keys, List.getElem?_map, hi]; rfl
          rw [List.getElem?_map] at e2
          obtain ⟨q, hq, eq⟩ := Option.map_eq_some_iff.mp e2
          exact ⟨q.2, by rw [hq, ← eq]⟩
        obtain ⟨pq, hpq⟩ := inps hv
        refine ⟨_, rfl, _, rfl, gd, _, rfl, dG, _, rfl, ?_⟩
        rw [jG]
        cases hw : g.lookup w with
        | some d =>
          refine iteT ?_
          have n4 : d ≠ x := fun z2 => n3 (by rw [hw, z2])
          have nO := no1 nc d hw n4
          obtain ⟨jw, hjw⟩ := List.getElem?_of_mem (look_mem hw)
          obtain ⟨qw, hqw⟩ := inps hjw
          refine ⟨_, rfl, _, rfl, ad, v, p, pq, ps, rfl, had4, nd2, Cc.ah, p200, hpq, fun l1 as1 H5 s5 nl1 hl1 W1 => ?_⟩
          refine ⟨_, rfl, _, rfl, ad, w, jw, qw, ps, rfl, s5 _ _ had4, nd2, Cc.ah, p200, hqw, fun l2 as2 H6 s6 nl2 hl2 W2 => ?_⟩
          have q1 := W1.len
          have q2 := W2.len
          refine ⟨_, _, rfl, SqL.of hl2, (by rw [vI_len, nI_len, List.length_reverse]; omega), fun l3 nl3 => ?_⟩
          refine ⟨_, _, _, _, rfl, rfl, (Same.upd nl3) _ _ (s6 _ _ hl1), upd_same, (by rw [vI_len, nI_len, List.length_reverse, List.length_reverse, vI_len, nI_len, List.length_reverse]; omega), fun l4 nl4 => ?_⟩
          have nl4H : H l4 = none := fresh_kp k4 hgd4 nl4 ((s5.trans s6).new nl3)
          refine kL nO l4 (as1.reverse ++ as2) _ (k4.thn (((s5.trans s6).new nl3).new nl4)) nl4H ?_ (bk as1 as2 W1 W2 d nc hw n4) (chlB as1 as2 d W1 W2 nc n2 n3 hw)
          rw [upd_same, vI_rev, nI_rev, List.reverse_reverse, nI_app]
          unfold vI
          rw [List.map_append]
        | none =>
          refine iteF ?_
          apply by_restP (told.getD w 0 = 63 ∨ told.getD w 0 = x)
          · intro rest
            refine ⟨_, rfl, _, rfl, _, _, _, rfl, rfl, slt, at1, rfl, _, rfl, ?_⟩
            by_cases t1 : told.getD w 0 = 63
            · refine iteNS (by rw [t1]; exact e63) (iteF ?_)
              exact rest (.inl t1)
            · refine iteNp (fun z => t1 (sg_eq.mp (z.trans e63.symm))) ?_
              refine ⟨_, rfl, _, rfl, _, _, _, rfl, rfl, slt, at1, _, rfl, rfl, _, rfl, ?_⟩
              by_cases t2 : told.getD w 0 = x
              · refine iteNS (by rw [t2]) ?_
                exact rest (.inr t2)
              · refine iteNp (fun z => t2 (sg_eq.mp z)) ?_
                have nO := no2 nc t1 t2
                refine ⟨_, rfl, _, rfl, ad, v, p, pq, ps, rfl, had4, nd2, Cc.ah, p200, hpq, fun l1 as1 H5 s5 nl1 hl1 W1 => ?_⟩
                refine ⟨_, rfl, one1, fun l3 nl3 => ?_⟩
                refine ⟨_, _, _, _, rfl, rfl, (Same.upd nl3) _ _ hl1, upd_same, ?_, fun l4 nl4 => ?_⟩
                · have q1 := W1.len
                  rw [vI_len, nI_len, List.length_reverse]
                  clear rest
                  show as1.length + 1 ≤ sizeLine
                  omega
                have nl4H : H l4 = none := fresh_kp k4 hgd4 nl4 (s5.new nl3)
                refine kL nO l4 (as1.reverse ++ [w]) _ (k4.thn ((s5.new nl3).new nl4)) nl4H ?_ (tk as1 W1 nc t1 t2) (chlT as1 W1 nc n2 hw t1 t2)
                rw [upd_same, nI_app]
                unfold vI
                rw [List.map_append]
                rfl
          · intro tw
            have C' := step nc n2 hw tw
            refine ⟨_, rfl, _, rfl, _, rfl, gd, _, rfl, DPut.k (k := Sum.inl (w : Int)) hgd4 glt, ?_⟩
            rw [gK_app g w x hw]
            have k5 : Kp gd H (upd H4 gd (.dK (gK (g ++ [(w, x)])))) := k4.put
            have hgd5 : (upd H4 gd (.dK (gK (g ++ [(w, x)])))) gd = some (.dK (gK (g ++ [(w, x)]))) := upd_same
            have had5 : (upd H4 gd (.dK (gK (g ++ [(w, x)])))) ad = some (.dK (kvs ps)) := by rw [upd_ne adgd]; exact had4
            have hfo5 : (upd H4 gd (.dK (gK (g ++ [(w, x)])))) fo = some (.lst (vI (keysI g))) := by rw [upd_ne fogd]; exact hfo4
            generalize upd H4 gd (.dK (gK (g ++ [(w, x)]))) = H5 at k5 hgd5 had5 hfo5 ⊢
            refine ⟨_, rfl, _, rfl, _, rfl, ad, _, rfl, DPut.k (k := Sum.inl (w : Int)) had5 plt2, ?_⟩
            rw [kvs_app ps w v (kvs_none (by rw [Cc.keys]; exact look_none hw))]
            have k6 : Kp gd H (upd H5 ad (.dK (kvs (ps ++ [(w, some v)])))) := k5.over nad
            have had6 : (upd H5 ad (.dK (kvs (ps ++ [(w, some v)])))) ad = some (.dK (kvs (ps ++ [(w, some v)]))) := upd_same
            have hgd6 : (upd H5 ad (.dK (kvs (ps ++ [(w, some v)])))) gd = some (.dK (gK (g ++ [(w, x)]))) := by rw [upd_ne adgd.symm]; exact hgd5
            have hfo6 : (upd H5 ad (.dK (kvs (ps ++ [(w, some v)])))) fo = some (.lst (vI (keysI g))) := by rw [upd_ne foad]; exact hfo5
            generalize upd H5 ad (.dK (kvs (ps ++ [(w, some v)]))) = H6 at k6 had6 hgd6 hfo6 ⊢
            refine ⟨_, rfl, .inl ⟨rfl, _, SqL.of hfo6⟩, _, rfl, _, _, _, rfl, rfl, hfo6, flt, ?_⟩
            refine ⟨g ++ [(w, x)], ps ++ [(w, some v)], _, _, rfl, k6.over nfoH, by rw [upd_ne fogd.symm]; exact hgd6, by rw [upd_ne foad.symm]; exact had6, ?_, C', ?_, fun i v' c' hi hg' => ?_, ?_, addR nc n2 hw tw⟩
            · rw [upd_same, vI_app]
              unfold keysI
              rw [List.map_append]
              rfl
            · rw [List.getElem?_append_left plg]; exact hv
            · rw [List.getElem?_append_left (by omega)] at hg'
              exact (all i v' c' hi hg').grow _
            · refine Mt.succ (mt.grow _) (.inr (.inr ?_))
              rw [← ew, ← ex, look_app, hw]
              simp
      · rintro σ H4 ⟨g, ps, v9, v10, rfl, k4, hgd4, had4, hfo4, Cc, hv, all, mt, hrow4⟩
        rw [List.length_map, hrow.2] at mt hrow4
        have plg : p < g.length := (List.getElem?_eq_some_iff.mp hv).1
        have gl := Cc.len
        refine ⟨_, rfl, _, _, rfl, rfl, ?_⟩
        refine ⟨m + n - (p + 1), by omega, p + 1, g, ps, _, _, _, rfl, k4, hgd4, had4, hfo4, Cc, by omega, fun i v' c' hi hg' => ?_, wh_next hwh0 hv0 hrow4, rfl⟩
        by_cases e : i < p
        · exact all i v' c' e hg'
        · have e : i = p := by omega
          subst e
          rw [hv] at hg'
          cases hg'
          exact mt
    · have e : p = g.length := by omega
      subst e
      exact kN H3 g ps k3 hgd3 Cc (fun i v c hi => all i v c (List.getElem?_eq_some_iff.mp hi).1 hi) (okF_done (st := (g, ps)) hwh rfl gl)
end
end Mine

set_option Elab.async false
set_option linter.all false
set_option maxRecDepth 100000
set_option maxHeartbeats 4000000
namespace Mine
open PySem L2
theorem by_restL {G : Prop} {R : List Nat → Prop} (C : List Nat → Prop) (main : (∀ u, C u → R u) → G) (rest : ∀ u, C u → R u) : G := main rest
theorem vAll : (("abcdef" : Str)) = tx [97, 98, 99, 100, 101, 102] := by decide +kernel
theorem co_all {c : Nat} (h : 97 ≤ c ∧ c ≤ 102) : c ∈ [97, 98, 99, 100, 101, 102] := by
  have : c = 97 ∨ c = 98 ∨ c = 99 ∨ c = 100 ∨ c = 101 ∨ c = 102 := by omega
  rcases this with h | h | h | h | h | h <;> subst h <;> decide
theorem all_co {c : Nat} (h : c ∈ [97, 98, 99, 100, 101, 102]) : 97 ≤ c ∧ c ≤ 102 := by
  simp only [List.mem_cons, List.not_mem_nil, or_false] at h
  omega
theorem occQ {c : Nat} (h : Co c ∨ c = 63) : (!(!(Builtin.Str.occurrences ("abcdef" ++ "?") ⟨#[c]⟩ 0 (Str.length ("abcdef" ++ "?")) 1).isEmpty)) = false := by
  have : c = 97 ∨ c = 98 ∨ c = 99 ∨ c = 100 ∨ c = 101 ∨ c = 102 ∨ c = 63 := by
    rcases h with ⟨h1, h2⟩ | h <;> omega
  rcases this with h | h | h | h | h | h | h <;> subst h <;> decide +kernel
/-- the chains told for the colours of a strand -/
def CnsL (H : Hp) (lc : Addr) (R : Nat → List Nat → Prop) (cs : List Nat) (Ls : List (List Nat)) : Prop := ∃ ts ls : List Addr, H lc = some (.lst (ts.map V.ref)) ∧ ts.length = Ls.length ∧ ls.length = Ls.length ∧
  ∀ (i : Nat) (T : Addr) (c : Nat) (l : Addr) (L : List Nat), ts[i]? = some T → cs[i]? = some c → ls[i]? = some l → Ls[i]? = some L → H T = some (.tup [.str ⟨#[c]⟩, .ref l]) ∧ H l = some (.lst (vI (nI L))) ∧ l ≠ lc ∧ R c L
theorem CnsL.same {H H' : Hp} {lc : Addr} {R : Nat → List Nat → Prop} {cs : List Nat} {Ls : List (List Nat)} (N : CnsL H lc R cs Ls) (s : Same H H') : CnsL H' lc R cs Ls := by
  obtain ⟨ts, ls, h1, h2, h2', h3⟩ := N
  refine ⟨ts, ls, s _ _ h1, h2, h2', fun i T c l L e1 e2 e3 e4 => ?_⟩
  obtain ⟨a1, a2, a3, a4⟩ := h3 i T c l L e1 e2 e3 e4
  exact ⟨s _ _ a1, s _ _ a2, a3, a4⟩
theorem CnsL.imp {H : Hp} {lc : Addr} {R R' : Nat → List Nat → Prop} {cs : List Nat} {Ls : List (List Nat)} (N : CnsL H lc R cs Ls) (f : ∀ c L, R c L → R' c L) : CnsL H lc R' cs Ls := by
  obtain ⟨ts, ls, h1, h2, h2', h3⟩ := N
  refine ⟨ts, ls, h1, h2, h2', fun i T c l L e1 e2 e3 e4 => ?_⟩
  obtain ⟨a1, a2, a3, a4⟩ := h3 i T c l L e1 e2 e3 e4
  exact ⟨a1, a2, a3, f _ _ a4⟩
theorem app_at {α : Type} {l : List α} {x y : α} {i k : Nat} (hk : l.length = k) (e : (l ++ [x])[i]? = some y) : (i < k ∧ l[i]? = some y) ∨ (i = k ∧ y = x) := by
  by_cases hi : i < l.length
  · rw [List.getElem?_append_left hi] at e
    exact .inl ⟨by omega, e⟩
  · have hi2 := (List.getElem?_eq_some_iff.mp e).1
    rw [List.length_append, List.length_singleton] at hi2
    have ei : i = l.length := by omega
    rw [ei, List.getElem?_append_right (Nat.le_refl _), Nat.sub_self] at e
    cases e
    exact .inr ⟨by omega, rfl⟩
theorem CnsL.app {H : Hp} {lc T l : Addr} {R : Nat → List Nat → Prop} {cs : List Nat} {c : Nat} {L : List Nat} {Ls : List (List Nat)} (N : CnsL H lc R cs Ls) (hc : cs[Ls.length]? = some c) (hT : H T = some (.tup [.str ⟨#[c]⟩, .ref l])) (hl : H l = some (.lst (vI (nI L)))) (nl : l ≠ lc) (r : R c L) :
    ∃ xs, H lc = some (.lst xs) ∧ xs.length = Ls.length ∧ CnsL (upd H lc (.lst (xs ++ [.ref T]))) lc R cs (Ls ++ [L]) := by
  obtain ⟨ts, ls, h1, h2, h2', h3⟩ := N
  refine ⟨ts.map V.ref, h1, by rw [List.length_map, h2], ts ++ [T], ls ++ [l], by rw [upd_same, List.map_append]; rfl, by rw [List.length_append, List.length_append, h2]; rfl, by rw [List.length_append, List.length_append, h2']; rfl, fun i T' c' l' L' e1 e2 e3 e4 => ?_⟩
  have key : H T' = some (.tup [.str ⟨#[c']⟩, .ref l']) ∧ H l' = some (.lst (vI (nI L'))) ∧ l' ≠ lc ∧ R c' L' := by
    rcases app_at h2 e1 with ⟨z1, q1⟩ | ⟨z1, q1⟩ <;> rcases app_at h2' e3 with ⟨z2, q2⟩ | ⟨z2, q2⟩ <;> rcases app_at rfl e4 with ⟨z3, q3⟩ | ⟨z3, q3⟩
    · exact h3 i T' c' l' L' q1 e2 q2 q3
    · omega
    · omega
    · omega
    · omega
    · omega
    · omega
    · rw [z1, hc] at e2
      cases e2
      rw [q1, q2, q3]
      exact ⟨hT, hl, nl, r⟩
  obtain ⟨a1, a2, a3, a4⟩ := key
  have nT : T' ≠ lc := fun e => by rw [e, h1] at a1; cases a1
  exact ⟨by rw [upd_ne nT]; exact a1, by rw [upd_ne a3]; exact a2, a3, a4⟩
theorem find_at {f : Nat → Option (List (Nat × Nat))} {g : List (Nat × Nat)} : ∀ {cs : List Nat} {i c : Nat}, cs[i]? = some c → f c = some g → (∀ (j d : Nat), j < i → cs[j]? = some d → f d = none) → cs.findSome? f = some g
  | [], i, c, h, _, _ => by simp at h
  | x :: cs, 0, c, h, e, _ => by
    cases h
    rw [List.findSome?_cons, e]
  | x :: cs, i + 1, c, h, e, no => by
    rw [List.findSome?_cons, no 0 x (by omega) rfl]
    exact find_at (i := i) h e fun j d hj hd => no (j + 1) d (by omega) hd
section
variable {P : Program} {w : World} {K : PySem.W.Frag} {mg : Str → Option Value} {base : Heap} {t : Adr}
def sp_cthreads2 : Sp := fun vs H Q _ => ∃ (u : List Nat), vs = [.str (tx u), .int (u.length : Int), .str ("abcdef" ++ "?")] ∧ (∀ c ∈ u, Co c ∨ c = 63) ∧ u.length ≤ 40 ∧ Q .non H
theorem ok_check_threads2 (T : Txt K mg t) : FnOk P w K mg base CX0 1 t.f_check_threads t.d_check_threads ["text", "count", "signs"] sp_cthreads2 := by
  refine T.check_threads.F.ok sc_check_threads (fun vs H Q E h => ?_) (fun cdv A outer s H vs Q E hr h => ?_)
  · obtain ⟨t, rfl, _⟩ := h
    rfl
  · obtain ⟨t, rfl, hsg, hl, k⟩ := h
    refine ⟨_, (pss_cons (ps_if (pt_cmpR op_ne (pe_callB call_len_str rfl T.b_len bt_len (pa_cons (pv 0) pa_nil)) (pv 1) (nomark _))
        (pss_one ps_never)
        pss_nil)
      (pss_one (ps_for PassesOwn.never rfl (pi_str (pv 0)) (pg_name (i := 3) sc_check_threads.nd rfl (Or.inl rfl))
        (pss_one (ps_if (pt_cmpR op_notin_str (pv 3) (pv 2) rfl)
          (pss_one ps_never)
          pss_nil))))), ?_⟩
    refine ⟨_, rfl, _, rfl, (by rw [tx_len]; exact small40 hl), _, rfl, rfl, _, rfl, ?_⟩
    refine iteNS (by rw [tx_len]) ?_
    refine ⟨_, rfl, _, rfl, for_str (z := tx t) (fun i σ H2 => ∃ v, σ = [some (.str (tx t)), some (.int (t.length : Int)), some (.str ("abcdef" ++ "?")), v] ∧ H2 = H) ⟨none, rfl, rfl⟩ ?_ ?_⟩
    · rintro i c σ H2 hc ⟨v, rfl, rfl⟩
      rw [tx_get] at hc
      refine ⟨_, rfl, _, rfl, _, _, rfl, rfl, _, rfl, ?_⟩
      rw [occQ (hsg c (List.mem_of_getElem? hc))]
      exact iteF ⟨_, rfl, rfl⟩
    · rintro σ H2 ⟨v, rfl, rfl⟩
      exact k
def sp_settle : Sp := fun vs H Q _ => ∃ (sa bd : Addr) (rs : List Addr) (tt : List (List Addr)) (pic : List (List Nat)) (m n : Nat) (told : List Nat) (b : List (Nat × Nat)) (s0 : Nat), vs = [.ref sa, .str (tx told), .ref bd, .int (s0 : Int)] ∧
  SA H sa rs tt pic m n (m + n) ∧ Pic pic m n ∧ told.length = m + n ∧ (∀ c ∈ told, Co c ∨ c = 63) ∧ H bd = some (.dK (gK b)) ∧ Bor pic m n told b ∧ Lx pic m n told b ∧ (∀ v, v < s0 → b.lookup v ≠ none) ∧ s0 < m + n ∧ b.lookup s0 = none ∧
  (∀ (H' : Hp) (b' g : List (Nat × Nat)), Kp bd H H' → H' bd = some (.dK (gK b')) → Bor pic m n told b' → Lx pic m n told b' → (∀ v, b.lookup v ≠ none → b'.lookup v ≠ none) → b'.lookup s0 ≠ none → b' = b ++ g → (due told s0).findSome? (fun c => okF pic m n b told s0 c) = some g → Q .non H') ∧
  ((∀ O, ¬ Fit pic m n told O) → ∀ (lc : Addr) (Ls : List (List Nat)) (H' : Hp), Same H H' → Ls.length = (due told s0).length → CnsL H' lc (fun c L => Rgt pic m n told s0 c L ∧ ChL pic m n b told s0 c L) (due told s0) Ls → Q (.ref lc) H')
theorem ok_settle_strand (T : Txt K mg t) : FnOk P w K mg base CX0 3 t.f_settle_strand t.d_settle_strand ["seen_along", "told", "borne", "strand"] sp_settle := by
  have G_chain_from : FnOk P w K mg base CX0 2 t.f_chain_from t.d_chain_from _ _ := ok_chain_from T
  refine T.settle_strand.F.ok sc_settle_strand (fun vs H Q E h => ?_) (fun cdv A outer s H vs Q E hr h => ?_)
  · obtain ⟨sa, bd, rs, tt, pic, m, n, told, b, s0, rfl, _⟩ := h
    rfl
  · obtain ⟨sa, bd, rs, tt, pic, m, n, told, b, s0, rfl, S, C, tl, tco, hbd, B, X, before, hs0, hb0, k, kL⟩ := h
    have hsz : sizeLine = 16777216 := sizeLine_eq
    have c2 := C.n40
    have c4 := C.m40
    have at1 := tx_atN (u := told) (i := s0) (by omega)
    have slt : (tx told).length ≤ sizeLine := by rw [tx_len]; omega
    have tm : told.getD s0 0 ∈ told := by rw [show told.getD s0 0 = told[s0]'(by omega) by simp [List.getD, show s0 < told.length by omega]]; exact List.getElem_mem _
    have bl : b.length ≤ m + n := by
      have := nd_len (m + n) (b.map (·.1)) B.nd fun x hx => by
        obtain ⟨p, hp, rfl⟩ := List.mem_map.mp hx
        exact B.lt p hp
      rwa [List.length_map] at this
    refine ⟨_, (pss_cons (ps_set (i := 4) sc_settle_strand.nd rfl (Or.inl rfl) (pe_lst pa_nil))
      (pss_cons (ps_set (i := 5) sc_settle_strand.nd rfl (Or.inl rfl) (pe_ifExp (pt_cmpR op_eq (pe_ix ix_str (pv 1) (pv 3) (fun _ _ => rfl)) pe_str (nomark _)) (pe_glob (v := .str "abcdef") rfl T.c_COLOURS.choose_spec ⟨_, rfl⟩) (pe_ix ix_str (pv 1) (pv 3) (fun _ _ => rfl))))
      (pss_cons (ps_for PassesOwn.never rfl (pi_str (pv 5)) (pg_name (i := 6) sc_settle_strand.nd rfl (Or.inl rfl))
        (pss_cons (ps_set (i := 7) sc_settle_strand.nd rfl (Or.inl rfl) (pe_disp (pps_cons (pv 3) (pv 6) pps_nil) rfl rfl (by simp) (by decide)))
        (pss_cons (ps_set (i := 8) sc_settle_strand.nd rfl (Or.inl rfl) (pe_call (G_chain_from.mono (by decide)) hr rfl T.chain_from.m T.chain_from.F.kp T.chain_from.b .nil pass0 (pa_cons (pv 0) (pa_cons (pv 1) (pa_cons (pv 2) (pa_cons (pv 7) (pa_cons (pv 3) pa_nil)))))))
        (pss_cons (ps_if (pt_cmpR op_isN (pv 8) pe_non (nomark _))
          (pss_cons (ps_expr (pe_dupd (pv 2) (pv 7) ⟨rfl, rfl, rfl, rfl⟩))
          (pss_one (ps_ret pe_non)))
          pss_nil)
        (pss_one (ps_expr (pe_bmK (K := K) PySem.F.plainAttrs_list PySem.F.slot_list_append PySem.F.type_list_append mt_append (pv 4) (pa_cons (pe_tup (pa_cons (pv 6) (pa_cons (pv 8) pa_nil))) pa_nil))))))))
      (pss_one (ps_ret (pv 4)))))), ?_⟩
    refine ⟨Nat.zero_le _, fun lc nlc => ?_⟩
    have s1 : Same H (upd H lc (.lst [])) := .upd nlc
    have hlc1 : (upd H lc (.lst [])) lc = some (.lst ([].map V.ref)) := upd_same
    generalize upd H lc (.lst []) = H1 at s1 hlc1 ⊢
    apply by_restL (fun cs => cs = due told s0 ∧ cs.length ≤ 6 ∧ (∀ O, Fit pic m n told O → O s0 ∈ cs) ∧ cs.Pairwise (· < ·) ∧ ∀ c ∈ cs, (97 ≤ c ∧ c ≤ 102) ∧ (told.getD s0 0 = 63 ∨ told.getD s0 0 = c))
    · intro rest
      refine ⟨_, rfl, _, rfl, _, _, _, rfl, rfl, slt, at1, rfl, _, rfl, ?_⟩
      refine ite2D (fun h => ?_) (fun h => ?_)
      · have t1 : told.getD s0 0 = 63 := sg_eq.mp (h.trans e63.symm)
        obtain ⟨cs, ecs⟩ : ∃ cs, cs = [97, 98, 99, 100, 101, 102] := ⟨_, rfl⟩
        have key := rest cs ⟨by unfold due; rw [if_pos t1, ecs], by rw [ecs]; decide, fun O F => by rw [ecs]; exact co_all (F.co s0 hs0), by rw [ecs]; decide, fun c hc => ⟨by rw [ecs] at hc; exact all_co hc, .inl t1⟩⟩
        show _
        rw [vAll, ← ecs]
        exact key
      · have t1 : ¬ told.getD s0 0 = 63 := fun z => h (by rw [z]; exact e63)
        obtain ⟨cs, ecs⟩ : ∃ cs, cs = [told.getD s0 0] := ⟨_, rfl⟩
        have key := rest cs ⟨by unfold due; rw [if_neg t1, ecs], by rw [ecs]; show 1 ≤ 6; decide, fun O F => by rw [ecs, (F.td s0 hs0).resolve_left t1]; exact List.mem_singleton.mpr rfl, by rw [ecs]; exact List.pairwise_singleton _ _, fun c hc => by
          rw [ecs] at hc
          have e := List.mem_singleton.mp hc
          exact ⟨by rw [e]; exact (tco _ tm).resolve_right t1, .inr e.symm⟩⟩
        refine ⟨_, rfl, _, rfl, _, _, _, rfl, rfl, slt, at1, ?_⟩
        rw [tx_one, ← ecs]
        exact key
    rintro cs ⟨ecs, cl, om, srt, call⟩
    refine ⟨_, rfl, _, rfl, for_str (z := tx cs) (fun i σ H2 => ∃ (Ls : List (List Nat)) (v6 v7 v8 : Option V), σ = [some (.ref sa), some (.str (tx told)), some (.ref bd), some (.int (s0 : Int)), some (.ref lc), some (.str (tx cs)), v6, v7, v8] ∧ Same H H2 ∧ Ls.length = i ∧ CnsL H2 lc (fun c L => Rgt pic m n told s0 c L ∧ ChL pic m n b told s0 c L) cs Ls ∧ (∀ (j c : Nat), j < i → cs[j]? = some c → okF pic m n b told s0 c = none) ∧ ∀ O, Fit pic m n told O → ∀ (j c : Nat), j < i → cs[j]? = some c → O s0 ≠ c) ⟨[], none, none, none, rfl, s1, rfl, ⟨[], [], hlc1, rfl, rfl, fun i T c l L e => by simp at e⟩, fun j c h => (by omega), fun O F j c h => (by omega)⟩ ?_ ?_⟩
    · rintro i c σ H2 hc ⟨Ls, v6, v7, v8, rfl, s2, Ll, N2, nok, hne⟩
      obtain ⟨xs0, hlc2⟩ : ∃ xs, H2 lc = some (.lst xs) := by obtain ⟨ts, _, h1, _⟩ := N2; exact ⟨_, h1⟩
      rw [tx_get] at hc
      have il : i < cs.length := (List.getElem?_eq_some_iff.mp hc).1
      obtain ⟨co, tc⟩ := call c (List.mem_of_getElem? hc)
      refine fun gd ngd => ⟨_, rfl, _, rfl, upd_same, [(Sum.inl (s0 : Int), .str ⟨#[c]⟩)], rfl, (by show 1 ≤ 15; decide), ?_⟩
      have s3 : Same H2 (upd (upd H2 gd (.dK [])) gd (.dK (mergeK [] [(Sum.inl (s0 : Int), .str ⟨#[c]⟩)]))) := (Same.upd ngd).over ngd
      have hgd3 : (upd (upd H2 gd (.dK [])) gd (.dK (mergeK [] [(Sum.inl (s0 : Int), .str ⟨#[c]⟩)]))) gd = some (.dK (gK [(s0, c)])) := upd_same
      generalize upd (upd H2 gd (.dK [])) gd (.dK (mergeK [] [(Sum.inl (s0 : Int), .str ⟨#[c]⟩)])) = H3 at s3 hgd3 ⊢
      have hbd2 := s2 _ _ hbd
      have bdgd : bd ≠ gd := fun e => by rw [← e, hbd2] at ngd; cases ngd
      have nH : H gd = none := s2.free ngd
      have keep2 : ∀ {H4 : Hp}, Kp gd H3 H4 → Same H2 H4 := fun k4 x o e => k4 x o (ne_of_none e ngd) (s3 _ _ e)
      have keep : ∀ {H4 : Hp}, Kp gd H3 H4 → Same H H4 := fun k4 => s2.trans (keep2 k4)
      refine ⟨_, rfl, _, rfl, _, rfl, _, rfl, _, rfl, sa, bd, gd, rs, tt, pic, m, n, told, b, s0, c, rfl, S.same (s2.trans s3), C, tl, s3 _ _ hbd2, hgd3, bdgd, B, hs0, co, hb0, fun H4 g ps k4 hgd4 Cc all ok => ?_, fun nO l L H4 k4 nl hl R RL => ?_⟩
      · have B4 := Cc.bor B tc all
        have gl := Cc.len
        have hbd4 : H4 bd = some (.dK (gK b)) := k4 _ _ bdgd (s3 _ _ hbd2)
        have first : ∀ O, Fit pic m n told O → c ≤ O s0 := fun O F => by
          obtain ⟨j, hj⟩ := List.getElem?_of_mem (om O F)
          have ij : i ≤ j := by
            rcases Nat.lt_or_ge j i with h | h
            · exact absurd rfl (hne O F j _ h hj)
            · exact h
          rcases Nat.lt_or_ge i j with h | h
          · obtain ⟨j1, e1⟩ := List.getElem?_eq_some_iff.mp hj
            obtain ⟨i1, e2⟩ := List.getElem?_eq_some_iff.mp hc
            have := List.pairwise_iff_getElem.mp srt i j i1 j1 h
            rw [e1, e2] at this
            omega
          · have : j = i := by omega
            rw [this, hc] at hj
            exact Nat.le_of_eq (Option.some.inj hj)
        refine ⟨_, rfl, rfl, _, rfl, ?_⟩
        refine iteDp rfl ?_
        refine ⟨_, rfl, bd, rfl, .inl ⟨_, .inl hbd4⟩, _, rfl, gd, _, _, rfl, bdgd, hbd4, hgd4, (by rw [gK_len, gK_len]; omega), ?_⟩
        rw [gK_merge g b B4.nd]
        refine k _ (b ++ g) g (fun x o ne e => by rw [upd_ne ne]; exact keep k4 x o e) upd_same B4 (X.step Cc before first) (fun v hv => ?_) ?_ rfl (by rw [← ecs]; exact find_at hc ok nok)
        · cases e : b.lookup v with
          | none => exact absurd e hv
          | some d => rw [look_keep e]; exact fun z => (by cases z)
        · rw [look_app, hb0, mem_look Cc.nd (List.mem_of_getElem? Cc.fst)]
          exact fun z => (by cases z)
      · have sm := keep2 k4
        have hlc4 := sm _ _ hlc2
        have llc : l ≠ lc := fun e => by rw [e, s3 _ _ hlc2] at nl; cases nl
        refine ⟨_, rfl, rfl, _, rfl, ?_⟩
        refine iteDn (fun z => by cases z) ?_
        refine ⟨_, rfl, .inl ⟨rfl, _, SqL.of hlc4⟩, _, rfl, _, rfl, (by show 2 ≤ sizeLine; omega), fun tp ntp => ?_⟩
        have s5 : Same H4 (upd H4 tp (.tup [.str ⟨#[c]⟩, .ref l])) := .upd ntp
        have ht5 : (upd H4 tp (.tup [.str ⟨#[c]⟩, .ref l])) tp = some (.tup [.str ⟨#[c]⟩, .ref l]) := upd_same
        generalize upd H4 tp (.tup [.str ⟨#[c]⟩, .ref l]) = H5 at s5 ht5 ⊢
        obtain ⟨xs, hx1, hx2, N5⟩ := ((N2.same sm).same s5).app (by rw [Ll]; exact hc) ht5 (s5 _ _ hl) llc ⟨R, RL⟩
        refine ⟨_, _, _, rfl, rfl, hx1, (by omega), ?_⟩
        refine ⟨Ls ++ [L], _, _, _, rfl, ((keep k4).trans s5).over nlc, by rw [List.length_append, Ll]; rfl, N5, fun j d hj hd => ?_, fun O F j d hj hd => ?_⟩
        · by_cases e : j < i
          · exact nok j d e hd
          · have e : j = i := by omega
            subst e
            rw [hc] at hd
            cases hd
            exact RL.no
        by_cases e : j < i
        · exact hne O F j d e hd
        · have e : j = i := by omega
          subst e
          rw [hc] at hd
          cases hd
          exact nO O F
    · rintro σ H2 ⟨Ls, v6, v7, v8, rfl, s2, Ll, N, nok, hne⟩
      have none : ∀ O, ¬ Fit pic m n told O := fun O F => by
        obtain ⟨j, hj⟩ := List.getElem?_of_mem (om O F)
        exact hne O F j _ (by rw [tx_size]; exact (List.getElem?_eq_some_iff.mp hj).1) hj rfl
      rw [ecs] at N
      rw [tx_size, ecs] at Ll
      exact ⟨_, rfl, kL none lc Ls H2 s2 Ll N⟩
theorem cut_tail {u : List Nat} {k : Nat} (h : k ≤ u.length) : cutT u (some (k : Int)) none = u.drop k := by
  unfold cutT
  have e1 : HT.sIx u.length 0 (some (k : Int)) = k := by rw [HT.sIx_nat, Nat.min_eq_left h]
  have e2 : HT.sIx u.length u.length none = u.length := rfl
  rw [e1, e2]
  exact List.take_of_length_le (by rw [List.length_drop]; omega)
/-- the threads told -/
def thr (b : List (Nat × Nat)) (k : Nat) : List Nat := (List.range k).map fun v => (b.lookup v).getD 0
theorem thr_len (b : List (Nat × Nat)) (k : Nat) : (thr b k).length = k := by unfold thr; rw [List.length_map, List.length_range]
theorem thr_get {b : List (Nat × Nat)} {k v : Nat} (h : v < k) : (thr b k).getD v 0 = (b.lookup v).getD 0 := by
  unfold thr
  simp [List.getD, h]
theorem thr_succ (b : List (Nat × Nat)) (k : Nat) : thr b (k + 1) = thr b k ++ [(b.lookup k).getD 0] := by unfold thr; rw [List.range_succ, List.map_append]; rfl
theorem cut_to {u : List Nat} {k : Nat} (h : k ≤ u.length) : cutT u none (some (k : Int)) = u.take k := by
  unfold cutT
  rw [HT.sIx_none, HT.sIx_nat, List.drop_zero, Nat.min_eq_left h, Nat.sub_zero]
/-- what the found threads keep -/
structure Fnd (pic : List (List Nat)) (m n : Nat) (wa we ua ue : List Nat) : Prop where
  la : ua.length = m
  le : ue.length = n
  ca : ∀ j, j < m → Co (ua.getD j 0) ∧ (wa.getD j 0 = 63 ∨ wa.getD j 0 = ua.getD j 0)
  ce : ∀ i, i < n → Co (ue.getD i 0) ∧ (we.getD i 0 = 63 ∨ we.getD i 0 = ue.getD i 0)
  cr : ∀ i j, i < n → j < m → ua.getD j 0 = (pic.getD i []).getD j 0 ∨ ue.getD i 0 = (pic.getD i []).getD j 0
theorem Fnd.of {pic : List (List Nat)} {m n : Nat} {wa we : List Nat} {b : List (Nat × Nat)} (B : Bor pic m n (wa ++ we) b) (hwa : wa.length = m) (hwe : we.length = n) (all : ∀ v, v < m + n → b.lookup v ≠ none) :
    Fnd pic m n wa we ((thr b (m + n)).take m) ((thr b (m + n)).drop m) := by
  have ga : ∀ j, j < m → ((thr b (m + n)).take m).getD j 0 = (thr b (m + n)).getD j 0 := fun j hj => by
    rw [List.getD_eq_getElem?_getD, List.getD_eq_getElem?_getD, List.getElem?_take_of_lt hj]
  have ge : ∀ i, ((thr b (m + n)).drop m).getD i 0 = (thr b (m + n)).getD (m + i) 0 := fun i => by
    rw [List.getD_eq_getElem?_getD, List.getD_eq_getElem?_getD, List.getElem?_drop]
  have val : ∀ v, v < m + n → ∃ c, b.lookup v = some c ∧ (thr b (m + n)).getD v 0 = c := fun v hv => by
    cases e : b.lookup v with
    | none => exact absurd e (all v hv)
    | some c => exact ⟨c, rfl, by rw [thr_get hv, e]; rfl⟩
  have ta : ∀ j, j < m → (wa ++ we).getD j 0 = wa.getD j 0 := fun j hj => by
    rw [List.getD_eq_getElem?_getD, List.getD_eq_getElem?_getD, List.getElem?_append_left (by omega)]
  have te : ∀ i, (wa ++ we).getD (m + i) 0 = we.getD i 0 := fun i => by
    rw [List.getD_eq_getElem?_getD, List.getD_eq_getElem?_getD, List.getElem?_append_right (by omega), hwa, show m + i - m = i by omega]
  refine ⟨by rw [List.length_take, thr_len]; omega, by rw [List.length_drop, thr_len]; omega, fun j hj => ?_, fun i hi => ?_, fun i j hi hj => ?_⟩
  · obtain ⟨c, e1, e2⟩ := val j (by omega)
    have q := B.td _ (look_mem e1)
    have q2 : (wa ++ we).getD j 0 = 63 ∨ (wa ++ we).getD j 0 = c := q
    rw [ta j hj] at q2
    rw [ga j hj, e2]
    exact ⟨B.co _ (look_mem e1), q2⟩
  · obtain ⟨c, e1, e2⟩ := val (m + i) (by omega)
    have q2 : (wa ++ we).getD (m + i) 0 = 63 ∨ (wa ++ we).getD (m + i) 0 = c := B.td _ (look_mem e1)
    rw [te i] at q2
    rw [ge i, e2]
    exact ⟨B.co _ (look_mem e1), q2⟩
  · obtain ⟨c, e1, e2⟩ := val j (by omega)
    obtain ⟨d, e3, e4⟩ := val (m + i) (by omega)
    have cx : crs pic m j (m + i) = (pic.getD i []).getD j 0 := by unfold crs; rw [if_pos hj, show m + i - m = i by omega]
    have q : crs pic m j (m + i) = c ∨ b.lookup (m + i) = some (crs pic m j (m + i)) := B.cl _ (look_mem e1) (m + i) (by omega) (.inl ⟨hj, by omega⟩)
    rw [ga j hj, ge i, e2, e4]
    rcases q with z | z
    · rw [cx] at z; exact .inl z.symm
    · rw [cx, e3] at z; exact .inr (Option.some.inj z)
def sp_first (K : PySem.W.Frag) : Sp := fun vs H Q _ => ∃ (a : Addr) (pic : List (List Nat)) (m n : Nat) (wa we : List Nat), vs = [.ref a, .str (tx wa), .str (tx we)] ∧ SqL K H a (vS pic) ∧ Pic pic m n ∧ wa.length = m ∧ we.length = n ∧ (∀ c ∈ wa, Co c ∨ c = 63) ∧ (∀ c ∈ we, Co c ∨ c = 63) ∧
  (∀ (p : Addr) (H' : Hp) (ua ue : List Nat), Same H H' → H' p = some (.tup [.str "threads", .str (tx ua), .str (tx ue)]) → Fnd pic m n wa we ua ue → (∀ O, Fit pic m n (wa ++ we) O → ∀ s, s < m + n → (∀ v, v < s → O v = (ua ++ ue).getD v 0) → (ua ++ ue).getD s 0 ≤ O s) → Q (.ref p) H') ∧
  ((∀ O, ¬ Fit pic m n (wa ++ we) O) → ∀ (p lc : Addr) (s0 : Nat) (Ls : List (List Nat)) (H' : Hp), Same H H' → s0 < m + n → H' p = some (.tup [.str "none", .int (s0 : Int), .ref lc]) → Ls.length = (due (wa ++ we) s0).length → CnsL H' lc (fun c L => Rgt pic m n (wa ++ we) s0 c L) (due (wa ++ we) s0) Ls → Out pic m n (wa ++ we) s0 Ls → Q (.ref p) H')
theorem ok_first_colouring (T : Txt K mg t) : FnOk P w K mg base CX0 4 t.f_first_colouring t.d_first_colouring ["picture", "warp", "weft"] (sp_first K) := by
  have G_measured_picture : FnOk P w K mg base CX0 2 t.f_measured_picture t.d_measured_picture _ _ := ok_measured_picture T
  have G_check_threads : FnOk P w K mg base CX0 1 t.f_check_threads t.d_check_threads _ _ := ok_check_threads2 T
  have G_crossings_of : FnOk P w K mg base CX0 1 t.f_crossings_of t.d_crossings_of _ _ := ok_crossings_of T
  have G_settle_strand : FnOk P w K mg base CX0 3 t.f_settle_strand t.d_settle_strand _ _ := ok_settle_strand T
  refine T.first_colouring.F.ok sc_first_colouring (fun vs H Q E h => ?_) (fun cdv A outer s H vs Q E hr h => ?_)
  · obtain ⟨a, pic, m, n, wa, we, rfl, _⟩ := h
    rfl
  · obtain ⟨a, pic, m, n, wa, we, rfl, hS, C, hwa, hwe, ca, ce, k, kN⟩ := h
    have hsz : sizeLine = 16777216 := sizeLine_eq
    have c2 := C.n40
    have c4 := C.m40
    have tl : (wa ++ we).length = m + n := by rw [List.length_append, hwa, hwe]
    refine ⟨_, (pss_cons (ps_set (i := 3) sc_first_colouring.nd rfl (Or.inl rfl) (pe_call (G_measured_picture.mono (by decide)) hr rfl T.measured_picture.m T.measured_picture.F.kp T.measured_picture.b .nil pass0 (pa_cons (pv 0) pa_nil)))
      (pss_cons (ps_expr (pe_call (G_check_threads.mono (by decide)) hr rfl T.check_threads.m T.check_threads.F.kp T.check_threads.b .nil pass0 (pa_cons (pv 1) (pa_cons (pe_ix (ix_tupK (K := K)) (pv 3) pe_int (fun _ _ => rfl)) (pa_cons (pe_op op_add_str (pe_glob (v := .str "abcdef") rfl T.c_COLOURS.choose_spec ⟨_, rfl⟩) pe_str) pa_nil)))))
      (pss_cons (ps_expr (pe_call (G_check_threads.mono (by decide)) hr rfl T.check_threads.m T.check_threads.F.kp T.check_threads.b .nil pass0 (pa_cons (pv 2) (pa_cons (pe_ix (ix_tupK (K := K)) (pv 3) pe_int (fun _ _ => rfl)) (pa_cons (pe_op op_add_str (pe_glob (v := .str "abcdef") rfl T.c_COLOURS.choose_spec ⟨_, rfl⟩) pe_str) pa_nil)))))
      (pss_cons (ps_set (i := 4) sc_first_colouring.nd rfl (Or.inl rfl) (pe_op op_add_str (pv 1) (pv 2)))
      (pss_cons (ps_set (i := 5) sc_first_colouring.nd rfl (Or.inl rfl) (pe_call (G_crossings_of.mono (by decide)) hr rfl T.crossings_of.m T.crossings_of.F.kp T.crossings_of.b .nil pass0 (pa_cons (pv 0) pa_nil)))
      (pss_cons (ps_set (i := 6) sc_first_colouring.nd rfl (Or.inr rfl) pe_dnewK)
      (pss_cons (ps_for PassesOwn.never rfl (pi_range1 rfl T.b_range (pa_cons (pe_callB call_len_str rfl T.b_len bt_len (pa_cons (pv 4) pa_nil)) pa_nil)) (pg_name (i := 7) sc_first_colouring.nd rfl (Or.inl rfl))
        (pss_one (ps_if (pt_cmp (pc_dnotin (hu_of hr) (pv 7) (pv 6)))
          (pss_cons (ps_set (i := 8) sc_first_colouring.nd rfl (Or.inl rfl) (pe_call (G_settle_strand.mono (by decide)) hr rfl T.settle_strand.m T.settle_strand.F.kp T.settle_strand.b .nil pass0 (pa_cons (pv 5) (pa_cons (pv 4) (pa_cons (pv 6) (pa_cons (pv 7) pa_nil))))))
          (pss_one (ps_if (pt_cmpR op_notN (pv 8) pe_non (nomark _))
            (pss_one (ps_ret (pe_tup (pa_cons pe_str (pa_cons (pv 7) (pa_cons (pv 8) pa_nil))))))
            pss_nil)))
          pss_nil)))
      (pss_cons (ps_set (i := 9) sc_first_colouring.nd rfl (Or.inl rfl) (pe_bmK (K := K) PySem.F.plainAttrs_str PySem.F.slot_str_join PySem.F.type_str_join (mt_joinK (K := K)) pe_str (pa_cons (pe_comp (CompOk.mk (caps := [6]) (Nc := ["strand", "borne"]) rfl (by decide +kernel) (by decide +kernel) (comp_fr (sc0 := defScope s_first_colouring) rfl (by decide +kernel)) rfl rfl rfl (by decide +kernel) (fun k j h => match k, h with | 0, h => by obtain rfl := Option.some.inj h; exact ⟨_, rfl, rfl, rfl⟩ | _ + 1, h => by simp at h)) rfl (pi_range1 rfl T.b_range (pa_cons (pe_callB call_len_str rfl T.b_len bt_len (pa_cons (pv 4) pa_nil)) pa_nil)) (fun _ _ _ _ _ => .nil) (fun _ _ _ _ _ => (pe_dget (hu_of hr) (pv 1) (pv 0) (fun _ _ => rfl)))) pa_nil)))
      (pss_one (ps_ret (pe_tup (pa_cons pe_str (pa_cons (pe_slice sl_str (pv 9) po_none (po_some (pe_ix (ix_tupK (K := K)) (pv 3) pe_int (fun _ _ => rfl)))) (pa_cons (pe_slice sl_str (pv 9) (po_some (pe_ix (ix_tupK (K := K)) (pv 3) pe_int (fun _ _ => rfl))) po_none) pa_nil)))))))))))))), ?_⟩
    refine ⟨_, rfl, a, pic, m, n, rfl, hS, C, fun p hp => ?_⟩
    have s1 : Same H (upd H p (.tup [.int (m : Int), .int (n : Int)])) := .upd hp
    have hp1 : (upd H p (.tup [.int (m : Int), .int (n : Int)])) p = some (.tup [.int (m : Int), .int (n : Int)]) := upd_same
    generalize upd H p (.tup [.int (m : Int), .int (n : Int)]) = H1 at s1 hp1 ⊢
    have l7 : Str.length "abcdef" + Str.length "?" ≤ sizeLine := by rw [show Str.length "abcdef" + Str.length "?" = 7 from by decide +kernel]; omega
    refine ⟨_, rfl, _, rfl, _, _, _, _, rfl, rfl, SqT.of hp1, atI_of (by decide) rfl, _, _, rfl, rfl, l7, wa, (by rw [hwa]; rfl), ca, (by omega), ?_⟩
    refine ⟨_, rfl, _, rfl, _, _, _, _, rfl, rfl, SqT.of hp1, atI_of (by decide) rfl, _, _, rfl, rfl, l7, we, (by rw [hwe]; rfl), ce, (by omega), ?_⟩
    refine ⟨_, rfl, _, rfl, _, _, rfl, rfl, (by rw [tx_len, tx_len]; omega), ?_⟩
    rw [tx_app]
    refine ⟨_, rfl, a, pic, m, n, rfl, s1.seq hS, C, fun sa rs tt H2 s2 nsa S2 => ?_⟩
    refine fun bd nbd => ?_
    have s3 : Same H2 (upd H2 bd (.dK [])) := .upd nbd
    have hbd3 : (upd H2 bd (.dK [])) bd = some (.dK (gK [])) := upd_same
    have nbH : H bd = none := (s1.trans s2).free nbd
    generalize upd H2 bd (.dK []) = H3 at s3 hbd3 ⊢
    have S3 := S2.same s3
    have u3 := (s1.trans s2).trans s3
    have hp3 := s3 _ _ (s2 _ _ hp1)
    have slt : (tx (wa ++ we)).length ≤ sizeLine := by rw [tx_len]; omega
    refine ⟨_, rfl, _, rfl, slt, _, rfl, (by omega), (by rw [tx_len]; omega), ?_⟩
    rw [tx_len, Int.toNat_natCast, tl]
    refine for_range (lo := 0) (n := m + n) (fun i σ H4 => ∃ (b : List (Nat × Nat)) (v7 v8 v9 : Option V), σ = [some (.ref a), some (.str (tx wa)), some (.str (tx we)), some (.ref p), some (.str (tx (wa ++ we))), some (.ref sa), some (.ref bd), v7, v8, v9] ∧ Kp bd H3 H4 ∧ H4 bd = some (.dK (gK b)) ∧ Bor pic m n (wa ++ we) b ∧ Lx pic m n (wa ++ we) b ∧ fB pic m n (wa ++ we) i = some b ∧ ∀ v, v < i → b.lookup v ≠ none)
      ⟨[], none, none, none, rfl, .of (.refl _), hbd3, ⟨List.Pairwise.nil, fun p h => absurd h (by simp), fun p h => absurd h (by simp), fun p h => absurd h (by simp), fun p h => absurd h (by simp)⟩, fun O F s c h => (by simp at h), rfl, fun v h => (by omega)⟩ ?_ ?_
    · rintro i σ H4 hi ⟨b, v7, v8, v9, rfl, k4, hbd4, B, X, hfb, all⟩
      obtain ⟨ob, dB, _, _, jB⟩ := gK_get hbd4 i 0
      have dB : DGet H4 bd (.int (0 + (i : Int))) ob := by rw [Int.zero_add]; exact dB
      refine ⟨_, rfl, _, rfl, bd, _, rfl, dB, _, rfl, ?_⟩
      rw [jB]
      cases e : b.lookup i with
      | none =>
        refine iteT ?_
        refine ⟨_, rfl, _, rfl, _, rfl, _, rfl, sa, bd, rs, tt, pic, m, n, wa ++ we, b, i, (by rw [Int.zero_add] <;> rfl), S3.kp k4 hbd3, C, tl, (fun c hc => (List.mem_append.mp hc).elim (ca c) (ce c)), hbd4, B, X, all, hi, e, fun H5 b' g k5 hbd5 B' X' mono hb' eb fs => ?_, fun none lc Ls H5 s5 Ll N => ?_⟩
        · refine ⟨_, rfl, rfl, _, rfl, ?_⟩
          refine iteNS rfl ?_
          refine ⟨b', _, _, _, rfl, fun x o ne ex => k5 x o ne (k4 x o ne ex), hbd5, B', X', by rw [eb]; exact fB_set hfb e fs, fun v hv => ?_⟩
          by_cases ev : v < i
          · exact mono v (all v ev)
          · have ev : v = i := by omega
            rw [ev]; exact hb'
        · have keep : Same H H5 := fun x o e => s5 _ _ (k4 x o (ne_of_none e nbH) (u3 _ _ e))
          refine ⟨_, rfl, rfl, _, rfl, ?_⟩
          refine iteNp (fun z => by cases z) ?_
          refine ⟨_, rfl, _, rfl, (by show 3 ≤ sizeLine; omega), fun tp ntp => ?_⟩
          rw [Int.zero_add]
          exact kN none tp lc i Ls _ (keep.new ntp) hi upd_same Ll ((N.same (.upd ntp)).imp fun c L r => r.1) ⟨⟨b, hfb, e, fun j c L hc hL => by
            obtain ⟨ts, ls, h1, h2, h2', h3⟩ := N
            have jl := (List.getElem?_eq_some_iff.mp hL).1
            exact (h3 j ts[j] c ls[j] L (List.getElem?_eq_getElem (by omega)) hc (List.getElem?_eq_getElem (by omega)) hL).2.2.2.2⟩, Ll⟩
      | some c =>
        refine iteF ?_
        refine ⟨b, _, _, _, rfl, k4, hbd4, B, X, fB_skip hfb (by rw [e]; exact fun z => (by cases z)), fun v hv => ?_⟩
        by_cases ev : v < i
        · exact all v ev
        · have ev : v = i := by omega
          rw [ev, e]; exact fun z => (by cases z)
    · rintro σ H4 ⟨b, v7, v8, v9, rfl, k4, hbd4, B, X, hfb, all⟩
      have keep : Same H H4 := fun x o e => k4 x o (ne_of_none e nbH) (u3 _ _ e)
      have hp4 : H4 p = some (.tup [.int (m : Int), .int (n : Int)]) := k4 _ _ (fun e => by rw [e, hbd3] at hp3; cases hp3) hp3
      refine ⟨rfl, _, rfl, _, rfl, slt, _, rfl, (by omega), (by rw [tx_len]; omega), ?_⟩
      rw [tx_len, Int.toNat_natCast, tl]
      refine comp_range (lo := 0) (n := m + n) (fun j ys H5 => H5 = H4 ∧ ys = vS ((thr b j).map fun d => [d])) ⟨rfl, rfl⟩ ?_ ?_ ?_ ?_
      · rintro j ys H5 hj ⟨rfl, rfl⟩
        rw [vS_len, List.length_map, thr_len]
        exact Nat.le_refl _
      · omega
      · rintro j ys H5 hj ⟨rfl, rfl⟩
        refine CTurn.no ?_
        obtain ⟨c, hc⟩ : ∃ c, b.lookup j = some c := by
          cases e : b.lookup j with
          | none => exact absurd e (all j hj)
          | some c => exact ⟨c, rfl⟩
        have dg : DGet H5 bd (.int (0 + (j : Int))) (some (.str ⟨#[c]⟩)) := by
          have := DGet.k (k := Sum.inl (j : Int)) hbd4
          rw [gK_val, hc] at this
          rw [Int.zero_add]
          exact this
        refine ⟨_, rfl, _, rfl, bd, _, rfl, dg, ?_⟩
        refine CN.of hj ⟨rfl, ?_⟩
        rw [thr_succ, hc, List.map_append, tx_one, vS_app]
        rfl
      · rintro ys H5 q ⟨rfl, rfl⟩ hq
        have thl := thr_len b (m + n)
        refine ⟨_, _, (((thr b (m + n)).map fun d => [d]).map tx), rfl, rfl, SqL.of (by rw [upd_same, vS_map]), ?_, ?_⟩
        · have e1 := sum1 (fun d : Nat => d) (thr b (m + n))
          rw [e1, List.length_map, List.length_map, thl]
          have : (m + n) * (Str.length "") = 0 := by rw [show Str.length "" = 0 from by decide +kernel]; omega
          omega
        · rw [show (("" : Str)) = tx [] from by decide +kernel, tx_join]
          have e2 : ((thr b (m + n)).map fun d => [d]).flatten = thr b (m + n) := (flat1 (fun d : Nat => d) (thr b (m + n))).trans (List.map_id _)
          rw [e2]
          have s6 : Same H (upd H5 q (.lst (vS ((thr b (m + n)).map fun d => [d])))) := keep.new hq
          have hp6 := (Same.upd (o := .lst (vS ((thr b (m + n)).map fun d => [d]))) hq) _ _ hp4
          generalize upd H5 q (.lst (vS ((thr b (m + n)).map fun d => [d]))) = H6 at s6 hp6 ⊢
          have h40 : (thr b (m + n)).length ≤ sizeLine := by omega
          refine ⟨_, rfl, _, rfl, _, _, _, _, rfl, rfl, SqT.of hp6, atI_of (by decide) rfl, _, rfl, thr b (m + n), rfl, h40, _, rfl, _, rfl, _, _, _, _, rfl, rfl, SqT.of hp6, atI_of (by decide) rfl, _, rfl, thr b (m + n), rfl, h40, (by show 3 ≤ sizeLine; omega), fun tp ntp => ?_⟩
          rw [cut_to (by omega), cut_tail (by omega)]
          refine k tp _ _ _ (s6.new ntp) upd_same (Fnd.of B hwa hwe all) fun O F s hs hv => ?_
          rw [List.take_append_drop] at hv ⊢
          obtain ⟨c, hc⟩ : ∃ c, b.lookup s = some c := by
            cases e : b.lookup s with
            | none => exact absurd e (all s hs)
            | some c => exact ⟨c, rfl⟩
          rw [thr_get hs, hc]
          refine X O F s c hc fun v hv1 d hd => ?_
          rw [hv v hv1, thr_get (by omega), hd]
          rfl
end
end Mine

set_option Elab.async false
set_option linter.all false
set_option maxRecDepth 100000
set_option maxHeartbeats 4000000
namespace Mine
open PySem L2
def putp (u : List Nat) (e d : Nat) : List Nat := u.take e ++ [d] ++ u.drop (e + 1)
def puts (cl : List (List Nat)) (p e d : Nat) : List (List Nat) := cl.take p ++ [putp (cl.getD p []) e d] ++ cl.drop (p + 1)
/-! ### tables by their signs -/
def gc (a : List (List Nat)) (j k : Nat) : Nat := (a.getD j []).getD k 0
theorem mem_row {u : List Nat} {c : Nat} : c ∈ u ↔ ∃ k, k < u.length ∧ u.getD k 0 = c := by
  constructor
  · intro h
    obtain ⟨k, hk, e⟩ := List.mem_iff_getElem.mp h
    exact ⟨k, hk, by rw [← e]; simp [List.getD, hk]⟩
  · rintro ⟨k, hk, e⟩
    rw [← e, show u.getD k 0 = u[k] by simp [List.getD, hk]]
    exact List.getElem_mem hk
theorem mem_tab {a : List (List Nat)} {r : List Nat} : r ∈ a ↔ ∃ j, j < a.length ∧ a.getD j [] = r := by
  constructor
  · intro h
    obtain ⟨k, hk, e⟩ := List.mem_iff_getElem.mp h
    exact ⟨k, hk, by rw [← e]; simp [List.getD, hk]⟩
  · rintro ⟨k, hk, e⟩
    rw [← e, show a.getD k [] = a[k] by simp [List.getD, hk]]
    exact List.getElem_mem hk
theorem Rct.row {a : List (List Nat)} {m n j : Nat} (A : Rct a m n) (h : j < n) : (a.getD j []).length = m := (A.at h).2.1
section
variable {cl dl : List (List Nat)} {m n : Nat} {wa we : List Nat}
theorem Cl.rct (C : Cl cl m n) : Rct cl m n := ⟨C.hn, C.hm⟩
theorem Pic.rct (C : Pic cl m n) : Rct cl m n := ⟨C.hn, C.hm⟩
theorem pict_rct (R : Rct cl m n) : Rct (pict cl wa we) m n := ⟨by rw [pict_len]; exact R.1, fun t ht => by
  obtain ⟨j, hj, e⟩ := mem_tab.mp ht
  rw [pict_len] at hj
  rw [← e, pict_getD hj, shown_len]
  exact R.row (by rw [← R.1]; exact hj)⟩
theorem pict_gc (R : Rct cl m n) {j k : Nat} (hj : j < n) (hk : k < m) : gc (pict cl wa we) j k = if gc cl j k = 35 then wa.getD k 0 else we.getD j 0 := by
  unfold gc
  rw [pict_getD (by rw [R.1]; exact hj), shown_get (by rw [R.row hj]; exact hk)]
/-- of a table, what its signs are -/
theorem tab_all {Pr : Nat → Prop} (R : Rct cl m n) : (∀ t ∈ cl, ∀ c ∈ t, Pr c) ↔ ∀ j, j < n → ∀ k, k < m → Pr (gc cl j k) := by
  constructor
  · intro h j hj k hk
    have hl : j < cl.length := by rw [R.1]; exact hj
    refine h _ (mem_tab.mpr ⟨j, hl, rfl⟩) _ (mem_row.mpr ⟨k, ?_, rfl⟩)
    rw [R.row hj]; exact hk
  · intro h t ht c hc
    obtain ⟨j, hj, e⟩ := mem_tab.mp ht
    obtain ⟨k, hk, e2⟩ := mem_row.mp hc
    have hjn : j < n := by rw [← R.1]; exact hj
    have : k < m := by rw [← e, R.row hjn] at hk; exact hk
    have z := h j hjn k this
    unfold gc at z
    rw [e, e2] at z
    exact z
theorem getD_co {u : List Nat} (h : ∀ c ∈ u, Co c) {k : Nat} (hk : k < u.length) : Co (u.getD k 0) := h _ (mem_row.mpr ⟨k, hk, rfl⟩)
theorem pict_pic (C : Cl cl m n) (lwa : wa.length = m) (lwe : we.length = n) (ca : ∀ c ∈ wa, Co c) (ce : ∀ c ∈ we, Co c) : Pic (pict cl wa we) m n := by
  have R := pict_rct (wa := wa) (we := we) C.rct
  refine ⟨R.1, R.2, (tab_all R).mpr fun j hj k hk => ?_, C.m1, C.m40, C.n1, C.n40⟩
  rw [pict_gc C.rct hj hk]
  split
  · exact getD_co ca (by omega)
  · exact getD_co ce (by omega)
/-- a picture that is woven but for one text -/
def Wv (pc : List (List Nat)) (wa we : List Nat) (m n p : Nat) : Prop := ∀ j, j < n → j ≠ p → ∀ k, k < m → gc pc j k = wa.getD k 0 ∨ gc pc j k = we.getD j 0
section
variable {pc sg : List (List Nat)}
end
end
theorem at_set {i : Nat} {v : V} {σ σ' : St} {H : Hp} {Kt : St → Hp → Prop} (h : σ.set i (some v) = σ') (k : Kt σ' H) : gName i v σ H Kt := by subst h; exact k
section
variable {P : Program} {w : World} {K : PySem.W.Frag} {mg : Str → Option Value} {base : Heap} {t : Adr}
def sp_lpict (K : PySem.W.Frag) : Sp := fun vs H Q _ => ∃ (a : Addr) (ks : List Int) (m n s : Nat) (wa we : List Nat), vs = [.ref a, .int (m : Int), .int (n : Int), .int (s : Int), .str (tx wa), .str (tx we)] ∧ SqL K H a (vI ks) ∧ Num ks 63 ∧ 1 ≤ m ∧ m ≤ 40 ∧ 1 ≤ n ∧ n ≤ 40 ∧ 1 ≤ s ∧ s ≤ 6 ∧ wa.length = m ∧ we.length = n ∧ (∀ c ∈ wa, Co c) ∧ (∀ c ∈ we, Co c) ∧
  ∀ (l : Addr) (pc : List (List Nat)) (H' : Hp), Same H H' → H l = none → H' l = some (.lst (vS pc)) → Pic pc m n → Q (.ref l) H'
theorem ok_law_picture (T : Txt K mg t) : FnOk P w K mg base CX0 2 t.f_law_picture t.d_law_picture ["numbers", "wide", "high", "span", "warp", "weft"] (sp_lpict K) := by
  have G_law_bits : FnOk P w K mg base CX0 1 t.f_law_bits t.d_law_bits _ _ := ok_law_bits T
  have G_law_shows : FnOk P w K mg base CX0 1 t.f_law_shows t.d_law_shows _ _ := ok_law_shows T
  refine T.law_picture.F.ok sc_law_picture (fun vs H Q E h => ?_) (fun cdv A outer s H vs Q E hr h => ?_)
  · obtain ⟨a, ks, m, n, s, wa, we, rfl, _⟩ := h
    rfl
  · obtain ⟨a, ks, m, n, s, wa, we, rfl, hS, hN, m1, m40, n1, n40, s1, s6, hwa, hwe, ca, ce, k⟩ := h
    have hsz : sizeLine = 16777216 := sizeLine_eq
    obtain ⟨c3, e3, _⟩ := hN.at (i := 3) (by decide) (by decide)
    refine ⟨_, (pss_cons (ps_set (i := 6) sc_law_picture.nd rfl (Or.inl rfl) (pe_call (G_law_shows.mono (by decide)) hr rfl T.law_shows.m T.law_shows.F.kp T.law_shows.b .nil pass0 (pa_cons (pe_call (G_law_bits.mono (by decide)) hr rfl T.law_bits.m T.law_bits.F.kp T.law_bits.b .nil pass0 (pa_cons (pv 0) (pa_cons (pv 1) (pa_cons (pv 2) pa_nil)))) (pa_cons (pv 4) (pa_cons (pv 5) pa_nil)))))
      (pss_cons (ps_set (i := 7) sc_law_picture.nd rfl (Or.inl rfl) (pe_lst pa_nil))
      (pss_cons (ps_for PassesOwn.never rfl (pi_range1 rfl T.b_range (pa_cons (pv 2) pa_nil)) (pg_name (i := 8) sc_law_picture.nd rfl (Or.inl rfl))
        (pss_cons (ps_set (i := 9) sc_law_picture.nd rfl (Or.inl rfl) pe_str)
        (pss_cons (ps_for PassesOwn.never rfl (pi_range1 rfl T.b_range (pa_cons (pv 1) pa_nil)) (pg_name (i := 10) sc_law_picture.nd rfl (Or.inl rfl))
          (pss_cons (ps_set (i := 11) sc_law_picture.nd rfl (Or.inl rfl) (pe_ix (ix_listK (K := K)) (pv 0) (pe_op op_add pe_int (pe_op op_mod (pe_op op_add (pe_op op_add (pe_op op_mul pe_int (pv 10)) (pe_op op_mul pe_int (pv 8))) (pe_op op_mul (pv 8) (pv 10))) pe_int)) (fun _ _ => rfl)))
          (pss_cons (ps_set (i := 12) sc_law_picture.nd rfl (Or.inl rfl) (pe_ix ix_str (pe_ix (ix_listK (K := K)) (pv 6) (pv 8) (fun _ _ => rfl)) (pv 10) (fun _ _ => rfl)))
          (pss_cons (ps_if (PW.pt (pw_or (pt_cmpR op_eq (pe_op op_mod (pe_ix (ix_listK (K := K)) (pv 0) pe_int (fun _ _ => rfl)) pe_int) pe_int (nomark _)) (pw_or1 (PW.pt (pw_and (pt_cmpR op_eq (pe_op op_mod (pe_ix (ix_listK (K := K)) (pv 0) pe_int (fun _ _ => rfl)) pe_int) pe_int (nomark _)) (pw_and1 (pt_cmpR op_eq (pe_op op_mod (pe_op op_fdiv (pv 11) pe_int) (pe_op op_mul (pv 1) (pv 2))) pe_int (nomark _))))))))
            (pss_one (ps_set (i := 12) sc_law_picture.nd rfl (Or.inl rfl) (pe_ix ix_str pe_str (pe_op op_mod (pe_op op_fdiv (pv 11) pe_int) (pv 3)) (fun _ _ => rfl))))
            pss_nil)
          (pss_one (ps_set (i := 9) sc_law_picture.nd rfl (Or.inl rfl) (pe_op op_add_str (pv 9) (pv 12))))))))
        (pss_one (ps_expr (pe_bmK (K := K) PySem.F.plainAttrs_list PySem.F.slot_list_append PySem.F.type_list_append mt_append (pv 7) (pa_cons (pv 9) pa_nil)))))))
      (pss_one (ps_ret (pv 7)))))), ?_⟩
    refine ⟨_, rfl, _, rfl, _, rfl, a, ks, m, n, rfl, hS, hN, m1, m40, n1, n40, fun lg cl H2 s2 nlg hlg C => ?_⟩
    refine ⟨_, rfl, _, rfl, lg, cl, m, n, wa, we, rfl, SqL.of hlg, C.rct, m40, n40, hwa, hwe, fun lr H3 s3 hr3 => ?_⟩
    have Pc := pict_pic C hwa hwe ca ce
    have R := Pc.rct
    have u3 := s2.trans s3
    refine ⟨Nat.zero_le _, fun q nq => ?_⟩
    have nqH := u3.free nq
    have s4 : Same H3 (upd H3 q (.lst [])) := .upd nq
    have hq4 : (upd H3 q (.lst [])) q = some (.lst (vS [])) := upd_same
    generalize upd H3 q (.lst []) = H4 at s4 hq4 ⊢
    refine ⟨_, rfl, _, rfl, (by omega), (by omega), ?_⟩
    rw [Int.toNat_natCast]
    refine for_range (lo := 0) (n := n) (fun i σ H5 => ∃ (pc : List (List Nat)) (v8 v9 v10 v11 v12 : Option V), σ = [some (.ref a), some (.int (m : Int)), some (.int (n : Int)), some (.int (s : Int)), some (.str (tx wa)), some (.str (tx we)), some (.ref lr), some (.ref q), v8, v9, v10, v11, v12] ∧ Same H3 H5 ∧ H5 q = some (.lst (vS pc)) ∧ pc.length = i ∧ (∀ t ∈ pc, t.length = m) ∧ ∀ t ∈ pc, ∀ c ∈ t, Co c)
      ⟨[], none, none, none, none, none, rfl, s4, hq4, rfl, fun t h => absurd h (by simp), fun t h => absurd h (by simp)⟩ ?_ ?_
    · rintro i σ H5 hi ⟨pc, v8, v9, v10, v11, v12, rfl, s5, hq5, pl, pm, pco⟩
      have gS := (u3.trans s5).seq hS
      obtain ⟨_, li, ai⟩ := R.at hi
      have sl : (tx ((pict cl wa we).getD i [])).length ≤ sizeLine := by rw [tx_len, li]; omega
      refine ⟨_, rfl, _, rfl, (by omega), (by omega), ?_⟩
      rw [Int.toNat_natCast]
      refine for_range (lo := 0) (n := m) (fun j σ H6 => ∃ (r : List Nat) (v10 v11 v12 : Option V), σ = [some (.ref a), some (.int (m : Int)), some (.int (n : Int)), some (.int (s : Int)), some (.str (tx wa)), some (.str (tx we)), some (.ref lr), some (.ref q), some (.int (0 + (i : Int))), some (.str (tx r)), v10, v11, v12] ∧ H6 = H5 ∧ r.length = j ∧ ∀ c ∈ r, Co c)
        ⟨[], v10, v11, v12, by rw [show (("" : Str)) = tx [] from by decide +kernel]; rfl, rfl, rfl, fun c h => absurd h (by simp)⟩ ?_ ?_
      · rintro j σ H6 hj ⟨r, v10, v11, v12, rfl, rfl, rl, rco⟩
        obtain ⟨y, ey⟩ : ∃ y : Int, y = 5 * (0 + (j : Int)) + 11 * (0 + (i : Int)) + (0 + (i : Int)) * (0 + (j : Int)) := ⟨_, rfl⟩
        have b1 := Int.emod_nonneg y (show (55 : Int) ≠ 0 by decide)
        have b2 := Int.emod_lt_of_pos y (show (0 : Int) < 55 by decide)
        obtain ⟨z, ez, z0, _⟩ := hN.at (i := 8 + y % 55) (by omega) (by omega)
        subst ey
        have b3 := Int.emod_nonneg (z / 5) (show (s : Int) ≠ 0 by omega)
        have b4 := Int.emod_lt_of_pos (z / 5) (show (0 : Int) < (s : Int) by omega)
        obtain ⟨cc, ec, hcc⟩ := abc_at b3 (by omega)
        have mn : (0 : Int) < (m : Int) * (n : Int) := Int.mul_pos (by omega) (by omega)
        have co0 : Co (((pict cl wa we).getD i []).getD j 0) := (tab_all R).mp Pc.co i hi j hj
        refine ⟨_, rfl, _, rfl, _, _, rfl, rfl, .inl ⟨by decide, by decide⟩, _, rfl, _, _, rfl, rfl, .inl ⟨by decide, by decide⟩, _, _, rfl, rfl, _, rfl, _, rfl, _, _, rfl, rfl, .inl ⟨by omega, by omega⟩, _, _, rfl, rfl, _, _, rfl, rfl, (by show (0 : Int) < 55; decide), _, _, rfl, rfl, _, _, _, _, rfl, rfl, gS, ez, ?_⟩
        refine ⟨_, rfl, _, rfl, _, _, _, _, rfl, rfl, SqL.of (s5 _ _ hr3), ai, _, rfl, _, _, _, rfl, rfl, sl, tx_at (by omega), ?_⟩
        refine at_set (σ' := [some (.ref a), some (.int (m : Int)), some (.int (n : Int)), some (.int (s : Int)), some (.str (tx wa)), some (.str (tx we)), some (.ref lr), some (.ref q), some (.int (0 + (i : Int))), some (.str (tx r)), some (.int (0 + (j : Int))), some (.int z), some (.str ⟨#[((pict cl wa we).getD i []).getD j 0]⟩)]) rfl ?_
        apply by_rest1 (fun d => Co d)
        · intro rest
          obtain ⟨x, ex⟩ : ∃ x, x = ((pict cl wa we).getD i []).getD j 0 := ⟨_, rfl⟩
          rw [← ex] at co0 ⊢
          obtain ⟨d, ed⟩ : ∃ d, d = cc := ⟨_, rfl⟩
          rw [← ed] at ec hcc
          refine ⟨_, rfl, _, _, _, _, rfl, rfl, gS, e3, _, _, rfl, rfl, (by show (0 : Int) < 4; decide), rfl, _, rfl, ?_⟩
          refine ite2D ?tt ?ff
          case ff =>
            intro h
            refine ⟨_, rfl, _, _, _, _, rfl, rfl, gS, e3, _, _, rfl, rfl, (by show (0 : Int) < 4; decide), rfl, _, rfl, ?_⟩
            refine ite2D ?t2 ?f2
            case f2 =>
              intro h2
              refine iteF ?_
              exact rest x co0
            case t2 =>
              intro h2
              refine ⟨_, rfl, _, _, rfl, rfl, ⟨by decide, by decide⟩, _, rfl, _, rfl, _, _, rfl, rfl, .inl ⟨?_, ?_⟩, _, _, rfl, rfl, mn, rfl, _, rfl, ?_⟩
              · clear rest; omega
              · clear rest; omega
              refine ite2D (fun h3 => ?_) (fun h3 => ?_)
              · refine ⟨_, rfl, _, _, rfl, rfl, ⟨by decide, by decide⟩, _, rfl, _, _, rfl, rfl, ?_, _, _, _, rfl, rfl, (by decide +kernel), ec, ?_⟩
                · clear rest; show (0 : Int) < (s : Int); omega
                refine at_set (σ' := [some (.ref a), some (.int (m : Int)), some (.int (n : Int)), some (.int (s : Int)), some (.str (tx wa)), some (.str (tx we)), some (.ref lr), some (.ref q), some (.int (0 + (i : Int))), some (.str (tx r)), some (.int (0 + (j : Int))), some (.int z), some (.str ⟨#[d]⟩)]) rfl ?_
                exact rest d hcc
              · exact rest x co0
          case tt =>
            intro h
            refine iteT ?_
            refine ⟨_, rfl, _, _, rfl, rfl, ⟨by decide, by decide⟩, _, rfl, _, _, rfl, rfl, ?_, _, _, _, rfl, rfl, (by decide +kernel), ec, ?_⟩
            · clear rest; show (0 : Int) < (s : Int); omega
            refine at_set (σ' := [some (.ref a), some (.int (m : Int)), some (.int (n : Int)), some (.int (s : Int)), some (.str (tx wa)), some (.str (tx we)), some (.ref lr), some (.ref q), some (.int (0 + (i : Int))), some (.str (tx r)), some (.int (0 + (j : Int))), some (.int z), some (.str ⟨#[d]⟩)]) rfl ?_
            exact rest d hcc
        rintro d hd
        refine ⟨_, rfl, _, rfl, _, _, rfl, rfl, (by rw [tx_one, tx_len, tx_len]; show r.length + 1 ≤ sizeLine; omega), ?_⟩
        rw [tx_one, tx_app]
        refine ⟨r ++ [d], _, _, _, rfl, rfl, by rw [List.length_append, rl]; rfl, fun c hc => ?_⟩
        rcases List.mem_append.mp hc with h | h
        · exact rco c h
        · rw [List.mem_singleton.mp h]; exact hd
      · rintro σ H6 ⟨r, v10, v11, v12, rfl, rfl, rl, rco⟩
        refine ⟨_, rfl, .inl ⟨rfl, _, SqL.of hq5⟩, _, rfl, _, _, _, rfl, rfl, hq5, (by rw [vS_len]; omega), ?_⟩
        rw [vS_app]
        refine ⟨pc ++ [r], _, _, _, _, _, rfl, s5.over nq, upd_same, by rw [List.length_append, pl]; rfl, fun t ht => ?_, fun t ht => ?_⟩
        · rcases List.mem_append.mp ht with h | h
          · exact pm t h
          · rw [List.mem_singleton.mp h]; exact rl
        · rcases List.mem_append.mp ht with h | h
          · exact pco t h
          · rw [List.mem_singleton.mp h]; exact rco
    · rintro σ H5 ⟨pc, v8, v9, v10, v11, v12, rfl, s5, hq5, pl, pm, pco⟩
      exact ⟨_, rfl, k q pc H5 (u3.trans s5) nqH hq5 ⟨pl, pm, pco, m1, m40, n1, n40⟩⟩
def sp_told (K : PySem.W.Frag) : Sp := fun vs H Q _ => ∃ (a : Addr) (ks : List Int) (u : List Nat) (f s : Nat) (wy : Int), vs = [.str (tx u), .ref a, .int (f : Int), .int wy, .int (s : Int)] ∧ SqL K H a (vI ks) ∧ Num ks 63 ∧ u.length ≤ 40 ∧ 1 ≤ s ∧ s ≤ 6 ∧ (∀ c ∈ u, Co c) ∧
  ∀ r : List Nat, r.length = u.length → (∀ c ∈ r, Co c ∨ c = 63) → Q (.str (tx r)) H
theorem ok_law_told (T : Txt K mg t) : FnOk P w K mg base CX0 1 t.f_law_told t.d_law_told ["threads", "numbers", "first", "way", "span"] (sp_told K) := by
  refine T.law_told.F.ok sc_law_told (fun vs H Q E h => ?_) (fun cdv A outer s H vs Q E hr h => ?_)
  · obtain ⟨a, ks, u, f, s, wy, rfl, _⟩ := h
    rfl
  · obtain ⟨a, ks, u, f, s, wy, rfl, hS, hN, hu, s1, s6, uco, k⟩ := h
    have hsz : sizeLine = 16777216 := sizeLine_eq
    have sl : (tx u).length ≤ sizeLine := by rw [tx_len]; omega
    refine ⟨_, (pss_cons (ps_set (i := 5) sc_law_told.nd rfl (Or.inl rfl) pe_str)
      (pss_cons (ps_for PassesOwn.never rfl (pi_range1 rfl T.b_range (pa_cons (pe_callB call_len_str rfl T.b_len bt_len (pa_cons (pv 0) pa_nil)) pa_nil)) (pg_name (i := 6) sc_law_told.nd rfl (Or.inl rfl))
        (pss_cons (ps_set (i := 7) sc_law_told.nd rfl (Or.inl rfl) (pe_op op_fdiv (pe_ix (ix_listK (K := K)) (pv 1) (pe_op op_add pe_int (pe_op op_mod (pe_op op_add (pv 2) (pe_op op_mul pe_int (pv 6))) pe_int)) (fun _ _ => rfl)) pe_int))
        (pss_cons (ps_set (i := 8) sc_law_told.nd rfl (Or.inl rfl) (pe_ix ix_str (pv 0) (pv 6) (fun _ _ => rfl)))
        (pss_cons (ps_if (PW.pt (pw_or (pt_cmpR op_eq (pv 3) pe_int (nomark _)) (pw_or1 (PW.pt (pw_and (pt_cmpR op_lt (pv 3) pe_int (nomark _)) (pw_and1 (pt_cmpR op_gt (pe_op op_mod (pv 7) pe_int) pe_int (nomark _))))))))
          (pss_one (ps_set (i := 8) sc_law_told.nd rfl (Or.inl rfl) pe_str))
          pss_nil)
        (pss_cons (ps_if (PW.pt (pw_and (pt_cmpR op_eq (pv 3) pe_int (nomark _)) (pw_and1 (pt_cmpR op_eq (pe_op op_mod (pe_op op_fdiv (pv 7) pe_int) pe_int) pe_int (nomark _)))))
          (pss_one (ps_set (i := 8) sc_law_told.nd rfl (Or.inl rfl) (pe_ix ix_str pe_str (pe_op op_mod (pe_op op_fdiv (pv 7) pe_int) (pv 4)) (fun _ _ => rfl))))
          pss_nil)
        (pss_one (ps_set (i := 5) sc_law_told.nd rfl (Or.inl rfl) (pe_op op_add_str (pv 5) (pv 8)))))))))
      (pss_one (ps_ret (pv 5))))), ?_⟩
    refine ⟨_, rfl, _, rfl, sl, _, rfl, (by omega), (by rw [tx_len]; omega), ?_⟩
    rw [tx_len, Int.toNat_natCast]
    refine for_range (lo := 0) (n := u.length) (fun i σ H2 => ∃ (r : List Nat) (v6 v7 v8 : Option V), σ = [some (.str (tx u)), some (.ref a), some (.int (f : Int)), some (.int wy), some (.int (s : Int)), some (.str (tx r)), v6, v7, v8] ∧ H2 = H ∧ r.length = i ∧ ∀ c ∈ r, Co c ∨ c = 63)
      ⟨[], none, none, none, by rw [show (("" : Str)) = tx [] from by decide +kernel]; rfl, rfl, rfl, fun c h => absurd h (by simp)⟩ ?_ ?_
    · rintro i σ H2 hi ⟨r, v6, v7, v8, rfl, rfl, rl, rp⟩
      obtain ⟨y, ey⟩ : ∃ y : Int, y = (f : Int) + 3 * (0 + (i : Int)) := ⟨_, rfl⟩
      have b1 := Int.emod_nonneg y (show (55 : Int) ≠ 0 by decide)
      have b2 := Int.emod_lt_of_pos y (show (0 : Int) < 55 by decide)
      obtain ⟨z, ez, _⟩ := hN.at (i := 8 + y % 55) (by omega) (by omega)
      subst ey
      refine ⟨_, rfl, _, rfl, _, rfl, _, _, rfl, rfl, .inl ⟨by decide, by decide⟩, _, _, rfl, rfl, _, _, rfl, rfl, (by show (0 : Int) < 55; decide), _, _, rfl, rfl, _, _, _, _, rfl, rfl, hS, ez, _, _, rfl, rfl, ⟨by decide, by decide⟩, ?_⟩
      refine ⟨_, rfl, _, rfl, _, _, _, rfl, rfl, sl, tx_at hi, ?_⟩
      obtain ⟨nb, enb⟩ : ∃ nb : Int, nb = z / 7 := ⟨_, rfl⟩
      have b3 := Int.emod_nonneg (nb / 24) (show (s : Int) ≠ 0 by omega)
      have b4 := Int.emod_lt_of_pos (nb / 24) (show (0 : Int) < (s : Int) by omega)
      obtain ⟨cc, ec, hcc⟩ := abc_at b3 (by omega)
      dsimp only
      rw [← enb]
      refine at_set (σ' := [some (.str (tx u)), some (.ref a), some (.int (f : Int)), some (.int wy), some (.int (s : Int)), some (.str (tx r)), some (.int (0 + (i : Int))), some (.int nb), some (.str ⟨#[u.getD i 0]⟩)]) rfl ?_
      have ui : Co (u.getD i 0) := uco _ (mem_row.mpr ⟨i, hi, rfl⟩)
      apply by_rest1 (fun d => Co d ∨ d = 63)
      · intro rest
        obtain ⟨x, ex⟩ : ∃ x, x = u.getD i 0 := ⟨_, rfl⟩
        rw [← ex] at ui ⊢
        refine ⟨_, rfl, rfl, _, rfl, ?_⟩
        refine ite2D ?tt ?ff
        case ff =>
          intro h
          refine ⟨_, rfl, _, _, rfl, rfl, _, rfl, ?_⟩
          refine ite2D ?t2 ?f2
          case f2 =>
            intro h2
            refine iteF ?_
            exact rest x (.inl ui)
          case t2 =>
            intro h2
            refine ⟨_, rfl, _, _, rfl, rfl, (by show (0 : Int) < 3; decide), _, _, rfl, rfl, _, rfl, ?_⟩
            refine ite2D (fun h3 => ?_) (fun h3 => ?_)
            · rw [v63]
              refine at_set (σ' := [some (.str (tx u)), some (.ref a), some (.int (f : Int)), some (.int wy), some (.int (s : Int)), some (.str (tx r)), some (.int (0 + (i : Int))), some (.int nb), some (.str ⟨#[63]⟩)]) rfl ?_
              exact rest 63 (.inr rfl)
            · exact rest x (.inl ui)
        case tt =>
          intro h
          refine iteT ?_
          rw [v63]
          refine at_set (σ' := [some (.str (tx u)), some (.ref a), some (.int (f : Int)), some (.int wy), some (.int (s : Int)), some (.str (tx r)), some (.int (0 + (i : Int))), some (.int nb), some (.str ⟨#[63]⟩)]) rfl ?_
          exact rest 63 (.inr rfl)
      rintro d hd
      apply by_rest1 (fun d => Co d ∨ d = 63)
      · intro rest
        obtain ⟨x, ex⟩ : ∃ x, x = d := ⟨_, rfl⟩
        rw [← ex] at hd ⊢
        obtain ⟨d2, ed2⟩ : ∃ d, d = cc := ⟨_, rfl⟩
        rw [← ed2] at ec hcc
        refine ⟨_, rfl, rfl, _, rfl, ?_⟩
        refine ite2D ?t2 ?f2
        case f2 =>
          intro h
          refine iteF ?_
          exact rest x hd
        case t2 =>
          intro h
          refine ⟨_, rfl, _, _, rfl, rfl, ⟨by decide, by decide⟩, _, _, rfl, rfl, (by show (0 : Int) < 8; decide), rfl, _, rfl, ?_⟩
          refine ite2D (fun h3 => ?_) (fun h3 => ?_)
          · refine ⟨_, rfl, _, _, rfl, rfl, ⟨by decide, by decide⟩, _, rfl, _, _, rfl, rfl, ?_, _, _, _, rfl, rfl, (by decide +kernel), ec, ?_⟩
            · clear rest; show (0 : Int) < (s : Int); omega
            refine at_set (σ' := [some (.str (tx u)), some (.ref a), some (.int (f : Int)), some (.int wy), some (.int (s : Int)), some (.str (tx r)), some (.int (0 + (i : Int))), some (.int nb), some (.str ⟨#[d2]⟩)]) rfl ?_
            exact rest d2 (.inl hcc)
          · exact rest x hd
      rintro d hd
      refine ⟨_, rfl, _, rfl, _, _, rfl, rfl, (by rw [tx_one, tx_len, tx_len]; show r.length + 1 ≤ sizeLine; omega), ?_⟩
      rw [tx_one, tx_app]
      refine ⟨r ++ [d], _, _, _, rfl, rfl, by rw [List.length_append, rl]; rfl, fun c hc => ?_⟩
      rcases List.mem_append.mp hc with h | h
      · exact rp c h
      · rw [List.mem_singleton.mp h]; exact hd
    · rintro σ H2 ⟨r, v6, v7, v8, rfl, rfl, rl, rp⟩
      exact ⟨_, rfl, k r rl rp⟩
def sp_whole : Sp := fun vs H Q _ => ∃ z : Int, vs = [.int z] ∧ Q (.bl true) H
theorem ok_law_whole_number (T : Txt K mg t) : FnOk P w K mg base CX0 1 t.f_law_whole_number t.d_law_whole_number ["found"] sp_whole := by
  refine T.law_whole_number.F.ok sc_law_whole_number (fun vs H Q E h => ?_) (fun cdv A outer s H vs Q E hr h => ?_)
  · obtain ⟨z, rfl, _⟩ := h
    rfl
  · obtain ⟨z, rfl, k⟩ := h
    refine ⟨_, (pss_one (ps_ret (pe_and (pe_callB (call_isiK (K := K)) rfl T.b_isinstance bt_isinstance (pa_cons (pv 0) (pa_cons (pe_bltn (v := .ty "int") rfl T.b_int bt_int rfl) pa_nil))) (pe_one (pe_not (pe_callB (call_isiK (K := K)) rfl T.b_isinstance bt_isinstance (pa_cons (pv 0) (pa_cons (pe_bltn (v := .ty "bool") rfl T.b_bool bt_bool rfl) pa_nil)))))))), ?_⟩
    refine ⟨_, rfl, _, _, true, .int _, .inl ⟨_, rfl, kit_same K _⟩, _, rfl, ?_⟩
    refine iteT ?_
    exact ⟨_, rfl, _, _, false, .int _, .inl ⟨_, rfl, kit_ib K⟩, _, rfl, k⟩
def sp_seen (K : PySem.W.Frag) : Sp := fun vs H Q _ => ∃ (a : Addr) (pic : List (List Nat)) (m n v w : Nat), vs = [.ref a, .int (m : Int), .int (v : Int), .int (w : Int)] ∧ SqL K H a (vS pic) ∧ Pic pic m n ∧ v < m + n ∧ w < m + n ∧ Bip m v w ∧ Q (.str ⟨#[crs pic m v w]⟩) H
theorem ok_law_seen (T : Txt K mg t) : FnOk P w K mg base CX0 1 t.f_law_seen t.d_law_seen ["picture", "wide", "one", "other"] (sp_seen K) := by
  refine T.law_seen.F.ok sc_law_seen (fun vs H Q E h => ?_) (fun cdv A outer s H vs Q E hr h => ?_)
  · obtain ⟨a, pic, m, n, v, w, rfl, _⟩ := h
    rfl
  · obtain ⟨a, pic, m, n, v, w, rfl, hS, C, hv, hw, bp, k⟩ := h
    have hsz : sizeLine = 16777216 := sizeLine_eq
    have R := C.rct
    have c4 := C.m40
    have row : ∀ i, i < n → atI (vS pic) (((m + i : Nat) : Int) - (m : Int)) = some (.str (tx (pic.getD i []))) ∧ (pic.getD i []).length = m := fun i hi => by
      obtain ⟨_, li, ai⟩ := R.at hi
      rw [show ((m + i : Nat) : Int) - (m : Int) = 0 + (i : Int) by omega]
      exact ⟨ai, li⟩
    refine ⟨_, (pss_cons (ps_if (pt_cmpR op_eq (pe_cmpR op_lt (pv 2) (pv 1) (nomark _)) (pe_cmpR op_lt (pv 3) (pv 1) (nomark _)) (nomark _))
        (pss_one (ps_ret pe_str))
        pss_nil)
      (pss_cons (ps_if (pt_cmpR op_lt (pv 2) (pv 1) (nomark _))
        (pss_one (ps_ret (pe_ix ix_str (pe_ix (ix_listK (K := K)) (pv 0) (pe_op op_sub (pv 3) (pv 1)) (fun _ _ => rfl)) (pv 2) (fun _ _ => rfl))))
        pss_nil)
      (pss_one (ps_ret (pe_ix ix_str (pe_ix (ix_listK (K := K)) (pv 0) (pe_op op_sub (pv 2) (pv 1)) (fun _ _ => rfl)) (pv 3) (fun _ _ => rfl)))))), ?_⟩
    refine ⟨_, rfl, _, rfl, _, _, rfl, rfl, _, rfl, _, rfl, _, _, rfl, rfl, rfl, _, rfl, ?_⟩
    have ne : ¬ (V.bl (decide ((v : Int) < (m : Int))) = V.bl (decide ((w : Int) < (m : Int)))) := fun z => by
      have z := V.bl.inj z
      rcases bp with ⟨h1, h2⟩ | ⟨h1, h2⟩
      · rw [decide_eq_true (show (v : Int) < (m : Int) by omega), decide_eq_false (show ¬ (w : Int) < (m : Int) by omega)] at z; cases z
      · rw [decide_eq_false (show ¬ (v : Int) < (m : Int) by omega), decide_eq_true (show (w : Int) < (m : Int) by omega)] at z; cases z
    refine iteDn ne ?_
    refine ⟨_, rfl, _, rfl, _, _, rfl, rfl, _, rfl, ?_⟩
    rcases bp with ⟨h1, h2⟩ | ⟨h1, h2⟩
    · obtain ⟨i, rfl⟩ : ∃ i, w = m + i := ⟨w - m, by omega⟩
      obtain ⟨ai, li⟩ := row i (by omega)
      refine iteDp (by omega) ?_
      have e : crs pic m v (m + i) = (pic.getD i []).getD v 0 := by unfold crs; rw [if_pos h1, show m + i - m = i by omega]
      rw [e] at k
      exact ⟨_, rfl, _, rfl, _, rfl, _, _, rfl, rfl, _, _, _, _, rfl, rfl, hS, ai, _, rfl, _, _, _, rfl, rfl, (by rw [tx_len, li]; omega), tx_atN (by omega), k⟩
    · obtain ⟨i, rfl⟩ : ∃ i, v = m + i := ⟨v - m, by omega⟩
      obtain ⟨ai, li⟩ := row i (by omega)
      refine iteDn (by omega) ?_
      have e : crs pic m (m + i) w = (pic.getD i []).getD w 0 := by unfold crs; rw [if_neg (by omega), show m + i - m = i by omega]
      rw [e] at k
      exact ⟨_, rfl, _, rfl, _, rfl, _, _, rfl, rfl, _, _, _, _, rfl, rfl, hS, ai, _, rfl, _, _, _, rfl, rfl, (by rw [tx_len, li]; omega), tx_atN (by omega), k⟩
theorem Fnd.at {pic : List (List Nat)} {m n : Nat} {wa we ua ue : List Nat} (F : Fnd pic m n wa we ua ue) (hwa : wa.length = m) (hwe : we.length = n) {v : Nat} (hv : v < m + n) :
    Co ((ua ++ ue).getD v 0) ∧ ((wa ++ we).getD v 0 = 63 ∨ (wa ++ we).getD v 0 = (ua ++ ue).getD v 0) := by
  have hla := F.la
  by_cases h : v < m
  · rw [show (ua ++ ue).getD v 0 = ua.getD v 0 by rw [List.getD_eq_getElem?_getD, List.getElem?_append_left (by omega), ← List.getD_eq_getElem?_getD], show (wa ++ we).getD v 0 = wa.getD v 0 by rw [List.getD_eq_getElem?_getD, List.getElem?_append_left (by omega), ← List.getD_eq_getElem?_getD]]
    exact F.ca v h
  · rw [show (ua ++ ue).getD v 0 = ue.getD (v - m) 0 by rw [List.getD_eq_getElem?_getD, List.getElem?_append_right (by omega), hla, ← List.getD_eq_getElem?_getD], show (wa ++ we).getD v 0 = we.getD (v - m) 0 by rw [List.getD_eq_getElem?_getD, List.getElem?_append_right (by omega), hwa, ← List.getD_eq_getElem?_getD]]
    exact F.ce (v - m) (by omega)
def sp_fits (K : PySem.W.Frag) : Sp := fun vs H Q _ => ∃ (a : Addr) (pic : List (List Nat)) (m n : Nat) (wa we ua ue : List Nat), vs = [.ref a, .str (tx (wa ++ we)), .str (tx ua), .str (tx ue)] ∧ SqL K H a (vS pic) ∧ Pic pic m n ∧ wa.length = m ∧ we.length = n ∧ Fnd pic m n wa we ua ue ∧ Q (.bl true) H
theorem ok_law_fits (T : Txt K mg t) : FnOk P w K mg base CX0 1 t.f_law_fits t.d_law_fits ["picture", "told", "warp", "weft"] (sp_fits K) := by
  refine T.law_fits.F.ok sc_law_fits (fun vs H Q E h => ?_) (fun cdv A outer s H vs Q E hr h => ?_)
  · obtain ⟨a, pic, m, n, wa, we, ua, ue, rfl, _⟩ := h
    rfl
  · obtain ⟨a, pic, m, n, wa, we, ua, ue, rfl, hS, C, hwa, hwe, F, k⟩ := h
    have hsz : sizeLine = 16777216 := sizeLine_eq
    have c2 := C.n40
    have c4 := C.m40
    have R := C.rct
    have la := F.la
    have le := F.le
    have hlen : (vS pic).length = n := by rw [vS_len, C.hn]
    have h0 : 0 < pic.length := by rw [C.hn]; exact C.n1
    have hm0 := C.hm pic[0] (List.getElem_mem h0)
    have sla : (tx ua).length ≤ sizeLine := by rw [tx_len]; omega
    have sle : (tx ue).length ≤ sizeLine := by rw [tx_len]; omega
    have tl : (wa ++ we).length = m + n := by rw [List.length_append, hwa, hwe]
    have bl : (ua ++ ue).length = m + n := by rw [List.length_append, la, le]
    have slt : (tx (wa ++ we)).length ≤ sizeLine := by rw [tx_len]; omega
    have slb : (tx (ua ++ ue)).length ≤ sizeLine := by rw [tx_len]; omega
    refine ⟨_, (pss_cons (ps_if (PW.pt (pw_or (pt_not (pt_val (pe_callB (call_isiK (K := K)) rfl T.b_isinstance bt_isinstance (pa_cons (pv 2) (pa_cons (pe_bltn (v := .ty "str") rfl T.b_str bt_str rfl) pa_nil))))) (pw_or1 (pt_not (pt_val (pe_callB (call_isiK (K := K)) rfl T.b_isinstance bt_isinstance (pa_cons (pv 3) (pa_cons (pe_bltn (v := .ty "str") rfl T.b_str bt_str rfl) pa_nil))))))))
        (pss_one (ps_ret pe_bl))
        pss_nil)
      (pss_cons (ps_if (PW.pt (pw_or (pt_cmpR op_ne (pe_callB call_len_str rfl T.b_len bt_len (pa_cons (pv 2) pa_nil)) (pe_callB call_len_str rfl T.b_len bt_len (pa_cons (pe_ix (ix_listK (K := K)) (pv 0) pe_int (fun _ _ => rfl)) pa_nil)) (nomark _)) (pw_or1 (pt_cmpR op_ne (pe_callB call_len_str rfl T.b_len bt_len (pa_cons (pv 3) pa_nil)) (pe_callB (call_len_seqK (K := K)) rfl T.b_len bt_len (pa_cons (pv 0) pa_nil)) (nomark _)))))
        (pss_one (ps_ret pe_bl))
        pss_nil)
      (pss_cons (ps_set (i := 4) sc_law_fits.nd rfl (Or.inl rfl) (pe_op op_add_str (pv 2) (pv 3)))
      (pss_cons (ps_for PassesOwn.never rfl (pi_range1 rfl T.b_range (pa_cons (pe_callB call_len_str rfl T.b_len bt_len (pa_cons (pv 4) pa_nil)) pa_nil)) (pg_name (i := 5) sc_law_fits.nd rfl (Or.inl rfl))
        (pss_one (ps_if (PW.pt (pw_or (pt_cmpR op_notin_str (pe_ix ix_str (pv 4) (pv 5) (fun _ _ => rfl)) pe_str rfl) (pw_or1 (PW.pt (pw_and (pt_cmpR op_ne (pe_ix ix_str (pv 1) (pv 5) (fun _ _ => rfl)) pe_str (nomark _)) (pw_and1 (pt_cmpR op_ne (pe_ix ix_str (pv 1) (pv 5) (fun _ _ => rfl)) (pe_ix ix_str (pv 4) (pv 5) (fun _ _ => rfl)) (nomark _))))))))
          (pss_one (ps_ret pe_bl))
          pss_nil)))
      (pss_cons (ps_for PassesOwn.never rfl (pi_range1 rfl T.b_range (pa_cons (pe_callB call_len_str rfl T.b_len bt_len (pa_cons (pv 3) pa_nil)) pa_nil)) (pg_name (i := 6) sc_law_fits.nd rfl (Or.inl rfl))
        (pss_one (ps_for PassesOwn.never rfl (pi_range1 rfl T.b_range (pa_cons (pe_callB call_len_str rfl T.b_len bt_len (pa_cons (pv 2) pa_nil)) pa_nil)) (pg_name (i := 5) sc_law_fits.nd rfl (Or.inl rfl))
          (pss_one (ps_if (PW.pt (pw_and (pt_cmpR op_ne (pe_ix ix_str (pv 2) (pv 5) (fun _ _ => rfl)) (pe_ix ix_str (pe_ix (ix_listK (K := K)) (pv 0) (pv 6) (fun _ _ => rfl)) (pv 5) (fun _ _ => rfl)) (nomark _)) (pw_and1 (pt_cmpR op_ne (pe_ix ix_str (pv 3) (pv 6) (fun _ _ => rfl)) (pe_ix ix_str (pe_ix (ix_listK (K := K)) (pv 0) (pv 6) (fun _ _ => rfl)) (pv 5) (fun _ _ => rfl)) (nomark _)))))
            (pss_one (ps_ret pe_bl))
            pss_nil)))))
      (pss_one (ps_ret pe_bl))))))), ?_⟩
    refine ⟨_, rfl, _, _, true, .str _, .inl ⟨_, rfl, kit_same K _⟩, _, rfl, iteF ?_⟩
    refine ⟨_, rfl, _, _, true, .str _, .inl ⟨_, rfl, kit_same K _⟩, _, rfl, iteF ?_⟩
    refine ⟨_, rfl, _, rfl, sla, _, rfl, _, _, _, _, rfl, rfl, hS, atI_of (by decide) (vS_get (List.getElem?_eq_getElem h0)), _, rfl, (by rw [tx_len, hm0]; omega), rfl, _, rfl, ?_⟩
    refine iteNS (by rw [tx_len, tx_len, hm0, la]) ?_
    refine ⟨_, rfl, _, rfl, sle, _, rfl, _, _, rfl, .inl hS, rfl, _, rfl, ?_⟩
    refine iteNS (by rw [tx_len, hlen, le]) ?_
    refine ⟨_, rfl, _, rfl, _, _, rfl, rfl, (by rw [tx_len, tx_len]; omega), ?_⟩
    rw [tx_app]
    refine ⟨_, rfl, _, rfl, slb, _, rfl, (by omega), (by rw [tx_len]; omega), ?_⟩
    rw [tx_len, Int.toNat_natCast, bl]
    refine for_range (lo := 0) (n := m + n) (fun i σ H2 => ∃ (v5 v6 : Option V), σ = [some (.ref a), some (.str (tx (wa ++ we))), some (.str (tx ua)), some (.str (tx ue)), some (.str (tx (ua ++ ue))), v5, v6] ∧ H2 = H) ⟨none, none, rfl, rfl⟩ ?_ ?_
    · rintro i σ H2 hi ⟨v5, v6, rfl, rfl⟩
      obtain ⟨co, td⟩ := F.at hwa hwe hi
      refine ⟨_, rfl, _, rfl, _, _, _, rfl, rfl, slb, tx_at (by omega), _, _, rfl, rfl, _, rfl, ?_⟩
      rw [occC co]
      refine iteF ?_
      refine ⟨_, rfl, _, rfl, _, _, _, rfl, rfl, slt, tx_at (by omega), rfl, _, rfl, ?_⟩
      by_cases t1 : (wa ++ we).getD i 0 = 63
      · refine iteNS (by rw [t1]; exact e63) (iteF ?_)
        exact ⟨_, _, rfl, rfl⟩
      · refine iteNp (fun z => t1 (sg_eq.mp (z.trans e63.symm))) ?_
        refine ⟨_, rfl, _, rfl, _, _, _, rfl, rfl, slt, tx_at (by omega), _, rfl, _, rfl, _, _, _, rfl, rfl, slb, tx_at (by omega), rfl, _, rfl, ?_⟩
        refine iteNS (by rw [td.resolve_left t1]) ?_
        exact ⟨_, _, rfl, rfl⟩
    · rintro σ H2 ⟨v5, v6, rfl, rfl⟩
      refine ⟨_, rfl, _, rfl, sle, _, rfl, (by omega), (by rw [tx_len]; omega), ?_⟩
      rw [tx_len, Int.toNat_natCast, le]
      refine for_range (lo := 0) (n := n) (fun i σ H3 => ∃ (v5 v6 : Option V), σ = [some (.ref a), some (.str (tx (wa ++ we))), some (.str (tx ua)), some (.str (tx ue)), some (.str (tx (ua ++ ue))), v5, v6] ∧ H3 = H2) ⟨_, _, rfl, rfl⟩ ?_ ?_
      · rintro i σ H3 hi ⟨v5, v6, rfl, rfl⟩
        obtain ⟨_, li, ai⟩ := R.at hi
        have slr : (tx (pic.getD i [])).length ≤ sizeLine := by rw [tx_len, li]; omega
        refine ⟨_, rfl, _, rfl, sla, _, rfl, (by omega), (by rw [tx_len]; omega), ?_⟩
        rw [tx_len, Int.toNat_natCast, la]
        refine for_range (lo := 0) (n := m) (fun j σ H4 => ∃ (v5 : Option V), σ = [some (.ref a), some (.str (tx (wa ++ we))), some (.str (tx ua)), some (.str (tx ue)), some (.str (tx (ua ++ ue))), v5, some (.int (0 + (i : Int)))] ∧ H4 = H3) ⟨_, rfl, rfl⟩ ?_ ?_
        · rintro j σ H4 hj ⟨v5, rfl, rfl⟩
          refine ⟨_, rfl, _, rfl, _, _, _, rfl, rfl, sla, tx_at (by omega), _, rfl, _, rfl, _, _, _, _, rfl, rfl, hS, ai, _, rfl, _, _, _, rfl, rfl, slr, tx_at (by omega), rfl, _, rfl, ?_⟩
          by_cases h1 : ua.getD j 0 = (pic.getD i []).getD j 0
          · refine iteNS (by rw [h1]) (iteF ?_)
            exact ⟨_, rfl, rfl⟩
          · refine iteNp (fun z => h1 (sg_eq.mp z)) ?_
            refine ⟨_, rfl, _, rfl, _, _, _, rfl, rfl, sle, tx_at (by omega), _, rfl, _, rfl, _, _, _, _, rfl, rfl, hS, ai, _, rfl, _, _, _, rfl, rfl, slr, tx_at (by omega), rfl, _, rfl, ?_⟩
            refine iteNS (by rw [(F.cr i j hi hj).resolve_left h1]) ?_
            exact ⟨_, rfl, rfl⟩
        · rintro σ H4 ⟨v5, rfl, rfl⟩
          exact ⟨_, _, rfl, rfl⟩
      · rintro σ H3 ⟨v5, v6, rfl, rfl⟩
        exact k
end
end Mine

set_option Elab.async false
set_option linter.all false
set_option maxRecDepth 100000
set_option maxHeartbeats 4000000
namespace Mine
open PySem L2
section
variable {P : Program} {w : World} {K : PySem.W.Frag} {mg : Str → Option Value} {base : Heap} {t : Adr}
theorem iteDpN {c A B : Prop} [Decidable c] (h : c) (k : B) : if (!decide c) = true then A else B := by rw [decide_eq_true h]; exact iteF k
theorem vempty {x : Nat} : ¬ (V.str ⟨#[x]⟩ : V) = V.str "" := fun z => by
  injection z with z
  have := congrArg (fun s : Str => s.cps.size) z
  have e : (("" : Str)).cps.size = 0 := by decide +kernel
  rw [e] at this
  simp at this
def sp_cright (K : PySem.W.Frag) : Sp := fun vs H Q _ => ∃ (a l : Addr) (pic : List (List Nat)) (m n : Nat) (told : List Nat) (s0 c0 : Nat) (L : List Nat), vs = [.ref a, .str (tx told), .int (s0 : Int), .str ⟨#[c0]⟩, .ref l] ∧ SqL K H a (vS pic) ∧ Pic pic m n ∧ told.length = m + n ∧ H l = some (.lst (vI (nI L))) ∧ Rgt pic m n told s0 c0 L ∧ Q (.bl true) H
theorem ok_law_chain_right (T : Txt K mg t) : FnOk P w K mg base CX0 2 t.f_law_chain_right t.d_law_chain_right ["picture", "told", "strand", "colour", "chain"] (sp_cright K) := by
  have G_law_whole_number : FnOk P w K mg base CX0 1 t.f_law_whole_number t.d_law_whole_number _ _ := ok_law_whole_number T
  have G_law_seen : FnOk P w K mg base CX0 1 t.f_law_seen t.d_law_seen _ _ := ok_law_seen T
  refine T.law_chain_right.F.ok sc_law_chain_right (fun vs H Q E h => ?_) (fun cdv A outer s H vs Q E hr h => ?_)
  · obtain ⟨a, l, pic, m, n, told, s0, c0, L, rfl, _⟩ := h
    rfl
  · obtain ⟨a, l, pic, m, n, told, s0, c0, L, rfl, hS, C, tl, hl, R, k⟩ := h
    have hsz : sizeLine = 16777216 := sizeLine_eq
    have c2 := C.n40
    have c4 := C.m40
    have two := R.two
    have le := R.le
    have h0 : 0 < pic.length := by rw [C.hn]; exact C.n1
    have hm0 := C.hm pic[0] (List.getElem_mem h0)
    have slt : (tx told).length ≤ sizeLine := by rw [tx_len]; omega
    have ll : (vI (nI L)).length = L.length := by rw [vI_len, nI_len]
    refine ⟨_, (pss_cons (ps_set (i := 5) sc_law_chain_right.nd rfl (Or.inl rfl) (pe_callB call_len_str rfl T.b_len bt_len (pa_cons (pe_ix (ix_listK (K := K)) (pv 0) pe_int (fun _ _ => rfl)) pa_nil)))
      (pss_cons (ps_if (PW.pt (pw_or (pt_not (pt_val (pe_callB (call_isiK (K := K)) rfl T.b_isinstance bt_isinstance (pa_cons (pv 4) (pa_cons (pe_bltn (v := .ty "list") rfl T.b_list bt_list rfl) pa_nil))))) (pw_or1 (pt_not (pt_chain op_le op_le pe_int (pe_callB (call_len_seqK (K := K)) rfl T.b_len bt_len (pa_cons (pv 4) pa_nil)) (pe_op op_add (pe_op op_mul pe_int (pe_callB call_len_str rfl T.b_len bt_len (pa_cons (pv 1) pa_nil))) pe_int))))))
        (pss_one (ps_ret pe_bl))
        pss_nil)
      (pss_cons (ps_for PassesOwn.never rfl (pi_listK (K := K) (pv 4)) (pg_name (i := 6) sc_law_chain_right.nd rfl (Or.inl rfl))
        (pss_one (ps_if (PW.pt (pw_or (pt_not (pt_val (pe_call (G_law_whole_number.mono (by decide)) hr rfl T.law_whole_number.m T.law_whole_number.F.kp T.law_whole_number.b .nil pass0 (pa_cons (pv 6) pa_nil)))) (pw_or1 (pt_not (pt_chain op_le op_lt pe_int (pv 6) (pe_callB call_len_str rfl T.b_len bt_len (pa_cons (pv 1) pa_nil)))))))
          (pss_one (ps_ret pe_bl))
          pss_nil)))
      (pss_cons (ps_if (pt_cmpR op_ne (pe_ix (ix_listK (K := K)) (pv 4) pe_int (fun _ _ => rfl)) (pv 2) (nomark _))
        (pss_one (ps_ret pe_bl))
        pss_nil)
      (pss_cons (ps_set (i := 7) sc_law_chain_right.nd rfl (Or.inl rfl) (pv 3))
      (pss_cons (ps_for PassesOwn.never rfl (pi_range1 rfl T.b_range (pa_cons (pe_op op_sub (pe_callB (call_len_seqK (K := K)) rfl T.b_len bt_len (pa_cons (pv 4) pa_nil)) pe_int) pa_nil)) (pg_name (i := 8) sc_law_chain_right.nd rfl (Or.inl rfl))
        (pss_cons (ps_set (i := 9) sc_law_chain_right.nd rfl (Or.inl rfl) (pe_call (G_law_seen.mono (by decide)) hr rfl T.law_seen.m T.law_seen.F.kp T.law_seen.b .nil pass0 (pa_cons (pv 0) (pa_cons (pv 5) (pa_cons (pe_ix (ix_listK (K := K)) (pv 4) (pv 8) (fun _ _ => rfl)) (pa_cons (pe_ix (ix_listK (K := K)) (pv 4) (pe_op op_add (pv 8) pe_int) (fun _ _ => rfl)) pa_nil))))))
        (pss_cons (ps_if (PW.pt (pw_or (pt_cmpR op_eq (pv 9) pe_str (nomark _)) (pw_or1 (pt_cmpR op_eq (pv 9) (pv 7) (nomark _)))))
          (pss_one (ps_ret pe_bl))
          pss_nil)
        (pss_one (ps_set (i := 7) sc_law_chain_right.nd rfl (Or.inl rfl) (pv 9))))))
      (pss_cons (ps_set (i := 10) sc_law_chain_right.nd rfl (Or.inl rfl) (pe_ix (ix_listK (K := K)) (pv 4) (pe_un un_neg pe_int) (fun _ _ => rfl)))
      (pss_cons (ps_if (PW.pt (pw_and (pt_cmpR op_eq (pv 10) (pv 2) (nomark _)) (pw_and1 (pt_cmpR op_ne (pv 7) (pv 3) (nomark _)))))
        (pss_one (ps_ret pe_bl))
        pss_nil)
      (pss_one (ps_ret (pe_and (pe_cmpR op_ne (pe_ix ix_str (pv 1) (pv 10) (fun _ _ => rfl)) pe_str (nomark _)) (pe_one (pe_cmpR op_ne (pe_ix ix_str (pv 1) (pv 10) (fun _ _ => rfl)) (pv 7) (nomark _)))))))))))))), ?_⟩
    refine ⟨_, rfl, _, _, _, _, rfl, rfl, hS, atI_of (by decide) (vS_get (List.getElem?_eq_getElem h0)), _, rfl, (by rw [tx_len, hm0]; omega), ?_⟩
    rw [tx_len, hm0]
    refine ⟨_, rfl, _, _, true, .lst hl, .inl ⟨_, rfl, kit_same K _⟩, _, rfl, iteF ?_⟩
    refine ⟨_, rfl, _, _, rfl, .inl (SqL.of hl), _, _, rfl, rfl, _, rfl, ?_⟩
    rw [ll]
    refine iteDp (by omega) ?_
    refine ⟨_, rfl, _, rfl, slt, _, _, rfl, rfl, .inl ⟨by decide, by decide⟩, _, _, rfl, rfl, _, _, rfl, rfl, _, rfl, ?_⟩
    rw [tx_len, tl]
    refine iteDpN (by omega) ?_
    refine ⟨_, rfl, _, rfl, ⟨_, SqL.of hl⟩, for_list (K := K) (a := l) (xs := vI (nI L)) (fun i σ H2 => ∃ (v6 : Option V), σ = [some (.ref a), some (.str (tx told)), some (.int (s0 : Int)), some (.str ⟨#[c0]⟩), some (.ref l), some (.int (m : Int)), v6, none, none, none, none] ∧ H2 = H) ⟨none, rfl, rfl⟩ (fun i σ H2 _ ⟨_, _, e⟩ => e ▸ SqL.of hl) ?_ ?_⟩
    · rintro i x σ H2 hx ⟨v6, rfl, rfl⟩
      obtain ⟨z, hz, rfl⟩ := vI_got hx
      unfold nI at hz
      rw [List.getElem?_map] at hz
      obtain ⟨v, hv, rfl⟩ := Option.map_eq_some_iff.mp hz
      have vl := R.lt v (List.mem_of_getElem? hv)
      refine ⟨_, rfl, _, rfl, _, rfl, iteF ?_⟩
      refine ⟨_, rfl, _, _, rfl, rfl, _, rfl, ?_⟩
      refine iteDp (by omega) ?_
      refine ⟨_, rfl, _, rfl, slt, _, _, rfl, rfl, _, rfl, ?_⟩
      refine iteDpN (by rw [tx_len, tl]; omega) ?_
      exact ⟨_, rfl, rfl⟩
    · rintro σ H2 ⟨v6, rfl, rfl⟩
      refine ⟨_, rfl, _, _, _, _, rfl, rfl, SqL.of hl, atI_of (by decide) (nI_at R.fst), _, rfl, rfl, _, rfl, ?_⟩
      refine iteNS rfl ?_
      refine ⟨_, rfl, ?_⟩
      refine ⟨_, rfl, _, _, rfl, .inl (SqL.of hl), _, _, rfl, rfl, _, rfl, (by rw [ll]; omega), (by rw [ll]; omega), ?_⟩
      rw [ll, show ((L.length : Int) - 1).toNat = L.length - 1 by omega]
      refine for_range (lo := 0) (n := L.length - 1) (fun i σ H3 => ∃ (v6 v8 v9 : Option V), σ = [some (.ref a), some (.str (tx told)), some (.int (s0 : Int)), some (.str ⟨#[c0]⟩), some (.ref l), some (.int (m : Int)), v6, some (.str ⟨#[fin pic m c0 (L.take (i + 1))]⟩), v8, v9, none] ∧ H3 = H2) ⟨v6, none, none, ?_, rfl⟩ ?_ ?_
      · have e : L.take 1 = [s0] := by
          rw [List.take_add_one, R.fst]; rfl
        show _ = _
        rw [e]
        rfl
      · rintro i σ H3 hi ⟨v6, v8, v9, rfl, rfl⟩
        have ha : L[i]? = some L[i] := List.getElem?_eq_getElem (by omega)
        have hb : L[i + 1]? = some L[i + 1] := List.getElem?_eq_getElem (by omega)
        obtain ⟨bp, ne, fe⟩ := runs_at R.run ha hb
        have la := R.lt _ (List.getElem_mem (show i < L.length by omega))
        have lb := R.lt _ (List.getElem_mem (show i + 1 < L.length by omega))
        have ia : atI (vI (nI L)) (0 + (i : Int)) = some (.int ((L[i] : Nat) : Int)) := atI_of (by omega) (by rw [z0]; exact nI_at ha)
        have ib : atI (vI (nI L)) (0 + (i : Int) + 1) = some (.int ((L[i + 1] : Nat) : Int)) := atI_of (by omega) (by rw [show (0 + (i : Int) + 1).toNat = i + 1 by omega]; exact nI_at hb)
        refine ⟨_, rfl, _, rfl, _, rfl, _, rfl, _, _, _, _, rfl, rfl, SqL.of hl, ia, _, rfl, _, rfl, _, _, rfl, rfl, _, _, _, _, rfl, rfl, SqL.of hl, ib, a, pic, m, n, L[i], L[i + 1], rfl, hS, C, la, lb, bp, ?_⟩
        refine ⟨_, rfl, rfl, _, rfl, ?_⟩
        refine iteDn vempty ?_
        refine ⟨_, rfl, _, rfl, rfl, _, rfl, ?_⟩
        refine iteDn (fun z => ne (sg_eq.mp z)) ?_
        refine ⟨_, rfl, ?_⟩
        rw [← fe]
        exact ⟨_, _, _, rfl, rfl⟩
      · rintro σ H3 ⟨v6, v8, v9, rfl, rfl⟩
        rw [show L.length - 1 + 1 = L.length by omega, List.take_length]
        have hlast : L[L.length - 1]? = some L[L.length - 1] := List.getElem?_eq_getElem (by omega)
        obtain ⟨la, ela⟩ : ∃ la, la = L[L.length - 1] := ⟨_, rfl⟩
        rw [← ela] at hlast
        have gl : L.getLast? = some la := by rw [List.getLast?_eq_getElem?]; exact hlast
        have lal := R.lt la (List.mem_of_getElem? hlast)
        have il : atI (vI (nI L)) (-1) = some (.int (la : Int)) := at_neg (by rw [ll]; exact nI_at hlast)
        refine ⟨_, rfl, _, rfl, _, _, _, _, rfl, rfl, SqL.of hl, il, ?_⟩
        have at1 := tx_atN (u := told) (i := la) (by omega)
        refine ⟨_, rfl, _, rfl, rfl, _, rfl, ?_⟩
        rcases R.lst la gl with ⟨e1, e2⟩ | ⟨t1, t2⟩
        · refine iteDp (by rw [e1]) ?_
          refine ⟨_, rfl, _, rfl, rfl, _, rfl, ?_⟩
          refine iteNp (fun z => e2 (sg_eq.mp z)) ?_
          exact k
        · have fin2 : (told.getD la 0 ≠ 63 ∧ told.getD la 0 ≠ fin pic m c0 L) := ⟨t1, t2⟩
          apply by_rest0
          · intro rest
            refine ite2D (fun h => ?_) (fun h => iteF ?_)
            · refine ⟨_, rfl, _, rfl, rfl, _, rfl, ?_⟩
              refine iteB (fun h => ?_) (fun h => ?_)
              · exact k
              · exact rest ()
            · exact rest ()
          · refine ⟨_, rfl, _, rfl, _, _, _, rfl, rfl, slt, at1, rfl, _, rfl, ?_⟩
            refine iteNp (fun z => t1 (sg_eq.mp (z.trans e63.symm))) ?_
            refine ⟨_, rfl, _, rfl, _, _, _, rfl, rfl, slt, at1, _, rfl, rfl, ?_⟩
            rw [decide_eq_false (fun z => t2 (sg_eq.mp z))]
            exact k
def sp_nright (K : PySem.W.Frag) : Sp := fun vs H Q _ => ∃ (a p lc : Addr) (pic : List (List Nat)) (m n : Nat) (told : List Nat) (s0 : Nat) (Ls : List (List Nat)), vs = [.ref a, .str (tx told), .ref p] ∧ SqL K H a (vS pic) ∧ Pic pic m n ∧ told.length = m + n ∧ s0 < m + n ∧ H p = some (.tup [.str "none", .int (s0 : Int), .ref lc]) ∧ Ls.length = (due told s0).length ∧ CnsL H lc (fun c L => Rgt pic m n told s0 c L) (due told s0) Ls ∧ Q (.bl true) H
theorem ok_law_none_right (T : Txt K mg t) : FnOk P w K mg base CX0 3 t.f_law_none_right t.d_law_none_right ["picture", "told", "found"] (sp_nright K) := by
  have G_law_whole_number : FnOk P w K mg base CX0 1 t.f_law_whole_number t.d_law_whole_number _ _ := ok_law_whole_number T
  have G_law_chain_right : FnOk P w K mg base CX0 2 t.f_law_chain_right t.d_law_chain_right _ _ := ok_law_chain_right T
  refine T.law_none_right.F.ok sc_law_none_right (fun vs H Q E h => ?_) (fun cdv A outer s H vs Q E hr h => ?_)
  · obtain ⟨a, p, lc, pic, m, n, told, s0, Ls, rfl, _⟩ := h
    rfl
  · obtain ⟨a, p, lc, pic, m, n, told, s0, Ls, rfl, hS, C, tl, hs0, hp, Ll, N, k⟩ := h
    have hsz : sizeLine = 16777216 := sizeLine_eq
    have c2 := C.n40
    have c4 := C.m40
    have slt : (tx told).length ≤ sizeLine := by rw [tx_len]; omega
    have at1 := tx_atN (u := told) (i := s0) (by omega)
    have p0 : atI [V.str "none", V.int (s0 : Int), V.ref lc] 0 = some (V.str "none") := rfl
    have p1 : atI [V.str "none", V.int (s0 : Int), V.ref lc] 1 = some (V.int (s0 : Int)) := rfl
    have p2 : atI [V.str "none", V.int (s0 : Int), V.ref lc] 2 = some (V.ref lc) := rfl
    obtain ⟨ts, ls, hlc, tsl, lsl, tsp⟩ := N
    refine ⟨_, (pss_cons (ps_if (PW.pt (pw_or (pt_not (pt_val (pe_callB (call_isiK (K := K)) rfl T.b_isinstance bt_isinstance (pa_cons (pv 2) (pa_cons (pe_bltn (v := .ty "tuple") rfl T.b_tuple bt_tuple rfl) pa_nil))))) (pw_or (pt_cmpR op_ne (pe_callB (call_len_seqK (K := K)) rfl T.b_len bt_len (pa_cons (pv 2) pa_nil)) pe_int (nomark _)) (pw_or1 (pt_cmpR op_ne (pe_ix (ix_tupK (K := K)) (pv 2) pe_int (fun _ _ => rfl)) pe_str (nomark _))))))
        (pss_one (ps_ret pe_bl))
        pss_nil)
      (pss_cons (ps_if (PW.pt (pw_or (pt_not (pt_val (pe_call (G_law_whole_number.mono (by decide)) hr rfl T.law_whole_number.m T.law_whole_number.F.kp T.law_whole_number.b .nil pass0 (pa_cons (pe_ix (ix_tupK (K := K)) (pv 2) pe_int (fun _ _ => rfl)) pa_nil)))) (pw_or1 (pt_not (pt_chain op_le op_lt pe_int (pe_ix (ix_tupK (K := K)) (pv 2) pe_int (fun _ _ => rfl)) (pe_callB call_len_str rfl T.b_len bt_len (pa_cons (pv 1) pa_nil)))))))
        (pss_one (ps_ret pe_bl))
        pss_nil)
      (pss_cons (ps_set (i := 3) sc_law_none_right.nd rfl (Or.inl rfl) pe_str)
      (pss_cons (ps_if (pt_cmpR op_ne (pe_ix ix_str (pv 1) (pe_ix (ix_tupK (K := K)) (pv 2) pe_int (fun _ _ => rfl)) (fun _ _ => rfl)) pe_str (nomark _))
        (pss_one (ps_set (i := 3) sc_law_none_right.nd rfl (Or.inl rfl) (pe_ix ix_str (pv 1) (pe_ix (ix_tupK (K := K)) (pv 2) pe_int (fun _ _ => rfl)) (fun _ _ => rfl))))
        pss_nil)
      (pss_cons (ps_if (PW.pt (pw_or (pt_not (pt_val (pe_callB (call_isiK (K := K)) rfl T.b_isinstance bt_isinstance (pa_cons (pe_ix (ix_tupK (K := K)) (pv 2) pe_int (fun _ _ => rfl)) (pa_cons (pe_bltn (v := .ty "list") rfl T.b_list bt_list rfl) pa_nil))))) (pw_or1 (pt_cmpR op_ne (pe_callB (call_len_seqK (K := K)) rfl T.b_len bt_len (pa_cons (pe_ix (ix_tupK (K := K)) (pv 2) pe_int (fun _ _ => rfl)) pa_nil)) (pe_callB call_len_str rfl T.b_len bt_len (pa_cons (pv 3) pa_nil)) (nomark _)))))
        (pss_one (ps_ret pe_bl))
        pss_nil)
      (pss_cons (ps_for PassesOwn.never rfl (pi_range1 rfl T.b_range (pa_cons (pe_callB call_len_str rfl T.b_len bt_len (pa_cons (pv 3) pa_nil)) pa_nil)) (pg_name (i := 4) sc_law_none_right.nd rfl (Or.inl rfl))
        (pss_cons (ps_set (i := 5) sc_law_none_right.nd rfl (Or.inl rfl) (pe_ix (ix_listK (K := K)) (pe_ix (ix_tupK (K := K)) (pv 2) pe_int (fun _ _ => rfl)) (pv 4) (fun _ _ => rfl)))
        (pss_cons (ps_if (PW.pt (pw_or (pt_not (pt_val (pe_callB (call_isiK (K := K)) rfl T.b_isinstance bt_isinstance (pa_cons (pv 5) (pa_cons (pe_bltn (v := .ty "tuple") rfl T.b_tuple bt_tuple rfl) pa_nil))))) (pw_or (pt_cmpR op_ne (pe_callB (call_len_seqK (K := K)) rfl T.b_len bt_len (pa_cons (pv 5) pa_nil)) pe_int (nomark _)) (pw_or1 (pt_cmpR op_ne (pe_ix (ix_tupK (K := K)) (pv 5) pe_int (fun _ _ => rfl)) (pe_ix ix_str (pv 3) (pv 4) (fun _ _ => rfl)) (nomark _))))))
          (pss_one (ps_ret pe_bl))
          pss_nil)
        (pss_one (ps_if (pt_not (pt_val (pe_call (G_law_chain_right.mono (by decide)) hr rfl T.law_chain_right.m T.law_chain_right.F.kp T.law_chain_right.b .nil pass0 (pa_cons (pv 0) (pa_cons (pv 1) (pa_cons (pe_ix (ix_tupK (K := K)) (pv 2) pe_int (fun _ _ => rfl)) (pa_cons (pe_ix ix_str (pv 3) (pv 4) (fun _ _ => rfl)) (pa_cons (pe_ix (ix_tupK (K := K)) (pv 5) pe_int (fun _ _ => rfl)) pa_nil))))))))
          (pss_one (ps_ret pe_bl))
          pss_nil)))))
      (pss_one (ps_ret pe_bl)))))))), ?_⟩
    refine ⟨_, rfl, _, _, true, .tup hp, .inl ⟨_, rfl, kit_same K _⟩, _, rfl, iteF ?_⟩
    refine ⟨_, rfl, _, _, rfl, .inr (SqT.of hp), rfl, _, rfl, ?_⟩
    refine iteNS rfl ?_
    refine ⟨_, rfl, _, _, _, _, rfl, rfl, SqT.of hp, p0, rfl, _, rfl, ?_⟩
    refine iteNS rfl ?_
    refine ⟨_, rfl, _, _, _, _, rfl, rfl, SqT.of hp, p1, _, rfl, _, rfl, iteF ?_⟩
    refine ⟨_, rfl, _, _, _, _, rfl, rfl, SqT.of hp, p1, _, _, rfl, rfl, _, rfl, ?_⟩
    refine iteDp (by omega) ?_
    refine ⟨_, rfl, _, rfl, slt, _, _, rfl, rfl, _, rfl, ?_⟩
    refine iteDpN (by rw [tx_len, tl]; omega) ?_
    apply by_restL (fun cs => cs = due told s0)
    · intro rest
      refine ⟨_, rfl, _, rfl, _, _, _, _, rfl, rfl, SqT.of hp, p1, _, _, _, rfl, rfl, slt, at1, rfl, _, rfl, ?_⟩
      by_cases t1 : told.getD s0 0 = 63
      · refine iteNS (by rw [t1]; exact e63) ?_
        obtain ⟨cs, ecs⟩ : ∃ cs, cs = [97, 98, 99, 100, 101, 102] := ⟨_, rfl⟩
        have key := rest cs (by unfold due; rw [if_pos t1, ecs])
        show _
        rw [vAll, ← ecs]
        exact key
      · refine iteNp (fun z => t1 (sg_eq.mp (z.trans e63.symm))) ?_
        obtain ⟨cs, ecs⟩ : ∃ cs, cs = [told.getD s0 0] := ⟨_, rfl⟩
        have key := rest cs (by unfold due; rw [if_neg t1, ecs])
        refine ⟨_, rfl, _, rfl, _, _, _, _, rfl, rfl, SqT.of hp, p1, _, _, _, rfl, rfl, slt, at1, ?_⟩
        rw [tx_one, ← ecs]
        exact key
    rintro cs ecs
    rw [← ecs] at Ll tsp
    have cl : cs.length ≤ 6 := by rw [ecs]; unfold due; split <;> simp
    have slc : (tx cs).length ≤ sizeLine := by rw [tx_len]; omega
    have tml : (ts.map V.ref).length = cs.length := by rw [List.length_map, tsl, Ll]
    refine ⟨_, rfl, _, _, _, _, rfl, rfl, SqT.of hp, p2, _, _, true, .lst hlc, .inl ⟨_, rfl, kit_same K _⟩, _, rfl, iteF ?_⟩
    refine ⟨_, rfl, _, _, _, _, rfl, rfl, SqT.of hp, p2, _, _, rfl, .inl (SqL.of hlc), _, rfl, _, rfl, slc, rfl, _, rfl, ?_⟩
    refine iteNS (by rw [tml, tx_len]) ?_
    refine ⟨_, rfl, _, rfl, slc, _, rfl, (by omega), (by rw [tx_len]; omega), ?_⟩
    rw [tx_len, Int.toNat_natCast]
    refine for_range (lo := 0) (n := cs.length) (fun i σ H2 => ∃ (v4 v5 : Option V), σ = [some (.ref a), some (.str (tx told)), some (.ref p), some (.str (tx cs)), v4, v5] ∧ H2 = H) ⟨none, none, rfl, rfl⟩ ?_ ?_
    · rintro i σ H2 hi ⟨v4, v5, rfl, rfl⟩
      have hT : ts[i]? = some ts[i] := List.getElem?_eq_getElem (by omega)
      have hc : cs[i]? = some (cs.getD i 0) := by rw [List.getElem?_eq_getElem hi]; simp [List.getD, hi]
      obtain ⟨l, hl⟩ : ∃ l, ls[i]? = some l := ⟨ls[i]'(by omega), List.getElem?_eq_getElem (by omega)⟩
      obtain ⟨L, hL⟩ : ∃ L, Ls[i]? = some L := ⟨Ls[i]'(by omega), List.getElem?_eq_getElem (by omega)⟩
      obtain ⟨a1, a2, _, Rg⟩ := tsp i _ _ _ _ hT hc hl hL
      have iT : atI (ts.map V.ref) (0 + (i : Int)) = some (.ref ts[i]) := atI_of (by omega) (by rw [z0, List.getElem?_map, hT]; rfl)
      refine ⟨_, rfl, _, _, _, _, rfl, rfl, SqT.of hp, p2, _, rfl, _, _, _, _, rfl, rfl, SqL.of hlc, iT, ?_⟩
      refine ⟨_, rfl, _, _, true, .tup a1, .inl ⟨_, rfl, kit_same K _⟩, _, rfl, iteF ?_⟩
      refine ⟨_, rfl, _, _, rfl, .inr (SqT.of a1), rfl, _, rfl, ?_⟩
      refine iteNS rfl ?_
      refine ⟨_, rfl, _, _, _, _, rfl, rfl, SqT.of a1, atI_of (by decide) rfl, _, rfl, _, rfl, _, _, _, rfl, rfl, slc, tx_at hi, rfl, _, rfl, ?_⟩
      refine iteNS rfl ?_
      refine ⟨_, rfl, _, rfl, _, rfl, _, _, _, _, rfl, rfl, SqT.of hp, p1, _, rfl, _, rfl, _, _, _, rfl, rfl, slc, tx_at hi, _, rfl, _, _, _, _, rfl, rfl, SqT.of a1, atI_of (by decide) rfl, a, l, pic, m, n, told, s0, cs.getD i 0, L, rfl, hS, C, tl, a2, Rg, _, rfl, iteF ?_⟩
      exact ⟨_, _, rfl, rfl⟩
    · rintro σ H2 ⟨v4, v5, rfl, rfl⟩
      exact k
end
end Mine

set_option Elab.async false
set_option linter.all false
set_option maxRecDepth 100000
set_option maxHeartbeats 4000000
namespace Mine
open PySem L2
theorem at_seq {i : Nat} {v : V} {σ σ' : St} {H : Hp} {b : TS} {D : Ends} (h : σ.set i (some v) = σ') (k : b D σ' H) : tSeq (tAsg (tC v) (gName i)) b D σ H := by subst h; exact k
section
variable {pic : List (List Nat)} {m n : Nat} {wa we ua ue T : List Nat}
theorem fit_fnd (F : Fnd pic m n wa we ua ue) (hwa : wa.length = m) (hwe : we.length = n) : Fit pic m n (wa ++ we) (fun v => (ua ++ ue).getD v 0) := by
  have ga : ∀ j, j < m → (ua ++ ue).getD j 0 = ua.getD j 0 := fun j hj => by
    have := F.la
    rw [List.getD_eq_getElem?_getD, List.getElem?_append_left (by omega), ← List.getD_eq_getElem?_getD]
  have ge : ∀ i, (ua ++ ue).getD (m + i) 0 = ue.getD i 0 := fun i => by
    have := F.la
    rw [List.getD_eq_getElem?_getD, List.getElem?_append_right (by omega), F.la, show m + i - m = i by omega, ← List.getD_eq_getElem?_getD]
  refine ⟨fun v w hv hw hb => ?_, fun v hv => (F.at hwa hwe hv).2, fun v hv => (F.at hwa hwe hv).1⟩
  unfold crs
  rcases hb with ⟨h1, h2⟩ | ⟨h1, h2⟩
  · obtain ⟨i, rfl⟩ : ∃ i, w = m + i := ⟨w - m, by omega⟩
    rw [if_pos h1, show m + i - m = i by omega]
    show (ua ++ ue).getD v 0 = _ ∨ (ua ++ ue).getD (m + i) 0 = _
    rw [ga v h1, ge i]
    exact F.cr i v (by omega) h1
  · obtain ⟨i, rfl⟩ : ∃ i, v = m + i := ⟨v - m, by omega⟩
    rw [if_neg (by omega), show m + i - m = i by omega]
    show (ua ++ ue).getD (m + i) 0 = _ ∨ (ua ++ ue).getD w 0 = _
    rw [ga w h2, ge i]
    exact (F.cr i w (by omega) h2).symm
end
/-- all is as it was but these -/
def KpS (S : List Addr) (H H' : Hp) : Prop := ∀ b o, b ∉ S → H b = some o → H' b = some o
theorem sam_ints {K : PySem.W.Frag} {H : Hp} {l l' : Addr} {ks : List Int} {n : Nat} (h : H l = some (.lst (vI ks))) (h' : H l' = some (.lst (vI ks))) : SamV K H (n + 1) (.ref l) (.ref l') :=
  .lst (SqL.of h) (SqL.of h') rfl fun i x y e1 e2 => by
    rw [e1] at e2
    cases e2
    obtain ⟨z, _, rfl⟩ := vI_got e1
    exact .flat rfl
theorem sam_pair {K : PySem.W.Frag} {H : Hp} {T T' l l' : Addr} {z : Str} {n : Nat} (h : H T = some (.tup [.str z, .ref l])) (h' : H T' = some (.tup [.str z, .ref l'])) (s : SamV K H n (.ref l) (.ref l')) : SamV K H (n + 1) (.ref T) (.ref T') :=
  .tup (SqT.of h) (SqT.of h') rfl fun i x y e1 e2 => by
    match i, e1, e2 with
    | 0, e1, e2 => cases e1; cases e2; exact .flat rfl
    | 1, e1, e2 => cases e1; cases e2; exact s
    | i + 2, e1, e2 => simp at e1
section
variable {P : Program} {w : World} {K : PySem.W.Frag} {mg : Str → Option Value} {base : Heap} {t : Adr}
def sp_law (K : PySem.W.Frag) : Sp := fun vs H Q _ => ∃ (a : Addr) (ns : List Int), vs = [.ref a] ∧ SqL K H a (vI ns) ∧ ns.length ≤ 63 ∧ ∀ H', Q (.bl true) H'
theorem sp_law_holds {K : PySem.W.Frag} {H : Hp} {a : Addr} {ns : List Int} (hl : ns.length ≤ 63) (hS : SqL K H a (ns.map V.int)) : sp_law K [.ref a] H (fun v _ => v = .bl true) fun _ _ _ => False := ⟨a, ns, rfl, hS, hl, fun _ => rfl⟩
theorem ok_law (T : Txt K mg t) : FnOk P w K mg base CX0 5 t.f_law t.d_law ["script"] (sp_law K) := by
  have G_law_numbers : FnOk P w K mg base CX0 1 t.f_law_numbers t.d_law_numbers _ _ := ok_law_numbers T
  have G_law_threads : FnOk P w K mg base CX0 1 t.f_law_threads t.d_law_threads _ _ := ok_law_threads T
  have G_law_picture : FnOk P w K mg base CX0 2 t.f_law_picture t.d_law_picture _ _ := ok_law_picture T
  have G_law_told : FnOk P w K mg base CX0 1 t.f_law_told t.d_law_told _ _ := ok_law_told T
  have G_law_fits : FnOk P w K mg base CX0 1 t.f_law_fits t.d_law_fits _ _ := ok_law_fits T
  have G_law_none_right : FnOk P w K mg base CX0 3 t.f_law_none_right t.d_law_none_right _ _ := ok_law_none_right T
  have G_first_colouring : FnOk P w K mg base CX0 4 t.f_first_colouring t.d_first_colouring _ _ := ok_first_colouring T
  refine T.law.F.ok sc_law (fun vs H Q E h => ?_) (fun cdv A outer s H vs Q E hr h => ?_)
  · obtain ⟨a, ns, rfl, _⟩ := h
    rfl
  · obtain ⟨a, ns, rfl, hS, hl, k⟩ := h
    have hsz : sizeLine = 16777216 := sizeLine_eq
    refine ⟨_, (pss_cons (ps_set (i := 1) sc_law.nd rfl (Or.inl rfl) (pe_call (G_law_numbers.mono (by decide)) hr rfl T.law_numbers.m T.law_numbers.F.kp T.law_numbers.b .nil pass0 (pa_cons (pv 0) (pa_cons pe_int pa_nil))))
      (pss_cons (ps_set (i := 2) sc_law.nd rfl (Or.inl rfl) pe_int)
      (pss_cons (ps_if (pt_cmpR op_eq (pe_op op_mod (pe_op op_fdiv (pe_ix (ix_listK (K := K)) (pv 1) pe_int (fun _ _ => rfl)) pe_int) pe_int) pe_int (nomark _))
        (pss_one (ps_set (i := 2) sc_law.nd rfl (Or.inl rfl) pe_int))
        pss_nil)
      (pss_cons (ps_set (i := 3) sc_law.nd rfl (Or.inl rfl) (pe_op op_add pe_int (pe_op op_mod (pe_ix (ix_listK (K := K)) (pv 1) pe_int (fun _ _ => rfl)) (pv 2))))
      (pss_cons (ps_set (i := 4) sc_law.nd rfl (Or.inl rfl) (pe_op op_add pe_int (pe_op op_mod (pe_ix (ix_listK (K := K)) (pv 1) pe_int (fun _ _ => rfl)) (pv 2))))
      (pss_cons (ps_set (i := 5) sc_law.nd rfl (Or.inl rfl) (pe_op op_add pe_int (pe_op op_mod (pe_ix (ix_listK (K := K)) (pv 1) pe_int (fun _ _ => rfl)) pe_int)))
      (pss_cons (ps_set (i := 6) sc_law.nd rfl (Or.inl rfl) (pe_call (G_law_threads.mono (by decide)) hr rfl T.law_threads.m T.law_threads.F.kp T.law_threads.b .nil pass0 (pa_cons (pv 1) (pa_cons pe_int (pa_cons (pv 3) (pa_cons (pv 5) pa_nil))))))
      (pss_cons (ps_set (i := 7) sc_law.nd rfl (Or.inl rfl) (pe_call (G_law_threads.mono (by decide)) hr rfl T.law_threads.m T.law_threads.F.kp T.law_threads.b .nil pass0 (pa_cons (pv 1) (pa_cons pe_int (pa_cons (pv 4) (pa_cons (pv 5) pa_nil))))))
      (pss_cons (ps_set (i := 8) sc_law.nd rfl (Or.inl rfl) (pe_call (G_law_picture.mono (by decide)) hr rfl T.law_picture.m T.law_picture.F.kp T.law_picture.b .nil pass0 (pa_cons (pv 1) (pa_cons (pv 3) (pa_cons (pv 4) (pa_cons (pv 5) (pa_cons (pv 6) (pa_cons (pv 7) pa_nil))))))))
      (pss_cons (ps_set (i := 6) sc_law.nd rfl (Or.inl rfl) (pe_call (G_law_told.mono (by decide)) hr rfl T.law_told.m T.law_told.F.kp T.law_told.b .nil pass0 (pa_cons (pv 6) (pa_cons (pv 1) (pa_cons pe_int (pa_cons (pe_op op_mod (pe_ix (ix_listK (K := K)) (pv 1) pe_int (fun _ _ => rfl)) pe_int) (pa_cons (pv 5) pa_nil)))))))
      (pss_cons (ps_set (i := 7) sc_law.nd rfl (Or.inl rfl) (pe_call (G_law_told.mono (by decide)) hr rfl T.law_told.m T.law_told.F.kp T.law_told.b .nil pass0 (pa_cons (pv 7) (pa_cons (pv 1) (pa_cons pe_int (pa_cons (pe_op op_mod (pe_ix (ix_listK (K := K)) (pv 1) pe_int (fun _ _ => rfl)) pe_int) (pa_cons (pv 5) pa_nil)))))))
      (pss_cons (ps_set (i := 9) sc_law.nd rfl (Or.inl rfl) (pe_callTy (call_list_ofK (K := K)) rfl T.b_list bt_list (pa_cons (pv 8) pa_nil)))
      (pss_cons (ps_set (i := 10) sc_law.nd rfl (Or.inl rfl) (pe_call (G_first_colouring.mono (by decide)) hr rfl T.first_colouring.m T.first_colouring.F.kp T.first_colouring.b .nil pass0 (pa_cons (pv 9) (pa_cons (pv 6) (pa_cons (pv 7) pa_nil)))))
      (pss_cons (ps_if (PW.pt (pw_or (pt_cmpR (op_neLK (K := K) (hr.units0)) (pv 9) (pv 8) (nomark _)) (pw_or (pt_not (pt_val (pe_callB (call_isiK (K := K)) rfl T.b_isinstance bt_isinstance (pa_cons (pv 10) (pa_cons (pe_bltn (v := .ty "tuple") rfl T.b_tuple bt_tuple rfl) pa_nil))))) (pw_or1 (pt_cmpR op_ne (pe_callB (call_len_seqK (K := K)) rfl T.b_len bt_len (pa_cons (pv 10) pa_nil)) pe_int (nomark _))))))
        (pss_one (ps_ret pe_bl))
        pss_nil)
      (pss_cons (ps_if (pt_cmpR op_eq (pe_ix (ix_tupK (K := K)) (pv 10) pe_int (fun _ _ => rfl)) pe_str (nomark _))
        (pss_one (ps_ret (pe_call (G_law_fits.mono (by decide)) hr rfl T.law_fits.m T.law_fits.F.kp T.law_fits.b .nil pass0 (pa_cons (pv 8) (pa_cons (pe_op op_add_str (pv 6) (pv 7)) (pa_cons (pe_ix (ix_tupK (K := K)) (pv 10) pe_int (fun _ _ => rfl)) (pa_cons (pe_ix (ix_tupK (K := K)) (pv 10) pe_int (fun _ _ => rfl)) pa_nil)))))))
        pss_nil)
      (pss_cons (ps_if (pt_not (pt_val (pe_call (G_law_none_right.mono (by decide)) hr rfl T.law_none_right.m T.law_none_right.F.kp T.law_none_right.b .nil pass0 (pa_cons (pv 8) (pa_cons (pe_op op_add_str (pv 6) (pv 7)) (pa_cons (pv 10) pa_nil))))))
        (pss_one (ps_ret pe_bl))
        pss_nil)
      (pss_cons (ps_set (i := 11) sc_law.nd rfl (Or.inl rfl) (pe_tup (pa_cons pe_str (pa_cons (pe_ix (ix_tupK (K := K)) (pv 10) pe_int (fun _ _ => rfl)) (pa_cons (pe_comp (CompOk.mk (caps := []) (Nc := ["pair"]) rfl (by decide +kernel) (by decide +kernel) (comp_fr (sc0 := defScope s_law) rfl (by decide +kernel)) rfl rfl rfl (by decide +kernel) (fun _ _ h => by simp at h)) rfl (pi_listK (K := K) (pe_ix (ix_tupK (K := K)) (pv 10) pe_int (fun _ _ => rfl))) (fun _ _ _ _ _ => .nil) (fun _ _ _ _ _ => (pe_tup (pa_cons (pe_ix (ix_tupK (K := K)) (pv 0) pe_int (fun _ _ => rfl)) (pa_cons (pe_callTy (call_list_ofK (K := K)) rfl T.b_list bt_list (pa_cons (pe_ix (ix_tupK (K := K)) (pv 0) pe_int (fun _ _ => rfl)) pa_nil)) pa_nil))))) pa_nil)))))
      (pss_cons (ps_for PassesOwn.never rfl (pi_listK (K := K) (pe_ix (ix_tupK (K := K)) (pv 10) pe_int (fun _ _ => rfl))) (pg_name (i := 12) sc_law.nd rfl (Or.inl rfl))
        (pss_one (ps_expr (pe_bmK (K := K) PySem.F.plainAttrs_list PySem.F.slot_list_append PySem.F.type_list_append mt_append (pe_ix (ix_tupK (K := K)) (pv 12) pe_int (fun _ _ => rfl)) (pa_cons pe_int pa_nil)))))
      (pss_cons (ps_expr (pe_bmK (K := K) PySem.F.plainAttrs_list PySem.F.slot_list_append PySem.F.type_list_append mt_append (pe_ix (ix_tupK (K := K)) (pv 10) pe_int (fun _ _ => rfl)) (pa_cons (pe_tup (pa_cons pe_str (pa_cons (pe_lst pa_nil) pa_nil))) pa_nil)))
      (pss_one (ps_ret (pe_and (pe_cmpR (op_eqTS (K := K) (hr.units100)) (pe_call (G_first_colouring.mono (by decide)) hr rfl T.first_colouring.m T.first_colouring.F.kp T.first_colouring.b .nil pass0 (pa_cons (pv 9) (pa_cons (pv 6) (pa_cons (pv 7) pa_nil)))) (pv 11) (nomark _)) (pe_one (pe_cmpR (op_eqLK (K := K) (hr.units0)) (pv 9) (pv 8) (nomark _))))))))))))))))))))))))), ?_⟩
    refine ⟨_, rfl, a, ns, 63, rfl, hS, hl, by decide, by decide, fun ln ks H1 s1 nln hln hN => ?_⟩
    obtain ⟨c0, e0, _⟩ := hN.at (i := 0) (by decide) (by decide)
    obtain ⟨c1, e1, _⟩ := hN.at (i := 1) (by decide) (by decide)
    obtain ⟨c2, e2, _⟩ := hN.at (i := 2) (by decide) (by decide)
    obtain ⟨c4, e4, _⟩ := hN.at (i := 4) (by decide) (by decide)
    have gn : SqL K H1 ln (vI ks) := SqL.of hln
    obtain ⟨sp, esp, sp1, sp6⟩ := one_of c0 (z := 6) (by decide) (y := 6) (by decide)
    refine at_set (σ' := [some (.ref a), some (.ref ln), none, none, none, none, none, none, none, none, none, none, none]) rfl ?_
    refine at_seq (σ' := [some (.ref a), some (.ref ln), some (.int 5), none, none, none, none, none, none, none, none, none, none]) rfl ?_
    apply by_rest1 (fun q => 1 ≤ q ∧ q ≤ 40)
    · intro rest
      refine ⟨_, rfl, _, _, _, _, rfl, rfl, gn, e4, _, _, rfl, rfl, ⟨by decide, by decide⟩, _, _, rfl, rfl, (by show (0 : Int) < 8; decide), rfl, _, rfl, ?_⟩
      refine ite2D (fun _ => ?_) (fun _ => ?_)
      · obtain ⟨q, eq⟩ : ∃ q : Nat, q = 10 := ⟨_, rfl⟩
        refine at_set (σ' := [some (.ref a), some (.ref ln), some (.int (q : Int)), none, none, none, none, none, none, none, none, none, none]) (by rw [eq]; rfl) ?_
        exact rest q ⟨by rw [eq]; decide, by rw [eq]; decide⟩
      · exact rest 5 ⟨by decide, by decide⟩
    rintro q ⟨q1, q40⟩
    obtain ⟨m, em, m1, m40⟩ := one_of c1 (z := (q : Int)) (by omega) (y := 40) (by omega)
    obtain ⟨n, en, n1, n40⟩ := one_of c2 (z := (q : Int)) (by omega) (y := 40) (by omega)
    refine ⟨_, rfl, _, _, _, _, rfl, rfl, gn, e1, _, rfl, _, _, rfl, rfl, (by omega), _, _, rfl, rfl, ?_⟩
    dsimp only
    rw [em]
    refine ⟨_, rfl, _, _, _, _, rfl, rfl, gn, e2, _, rfl, _, _, rfl, rfl, (by omega), _, _, rfl, rfl, ?_⟩
    dsimp only
    rw [en]
    refine ⟨_, rfl, _, _, _, _, rfl, rfl, gn, e0, _, _, rfl, rfl, (by show (0 : Int) < 6; decide), _, _, rfl, rfl, ?_⟩
    dsimp only
    rw [esp]
    refine ⟨_, rfl, _, rfl, _, rfl, ln, ks, 0, m, sp, rfl, gn, hN, m40, sp1, sp6, fun wa H2 s2 hwl hwa => ?_⟩
    refine ⟨_, rfl, _, rfl, _, rfl, ln, ks, 1, n, sp, rfl, s2.seq gn, hN, n40, sp1, sp6, fun we H3 s3 hel hwe => ?_⟩
    have g3 := s3.seq (s2.seq gn)
    refine ⟨_, rfl, _, rfl, _, rfl, _, rfl, _, rfl, _, rfl, ln, ks, m, n, sp, wa, we, rfl, g3, hN, m1, m40, n1, n40, sp1, sp6, hwl, hel, hwa, hwe, fun lp pc H4 s4 nlp hp4 Pc => ?_⟩
    have g4 := s4.seq g3
    refine at_set (σ' := [some (.ref a), some (.ref ln), some (.int (q : Int)), some (.int (m : Int)), some (.int (n : Int)), some (.int (sp : Int)), some (.str (tx wa)), some (.str (tx we)), some (.ref lp), none, none, none, none]) rfl ?_
    refine ⟨_, rfl, _, rfl, _, rfl, _, _, _, _, rfl, rfl, g4, e4, _, _, rfl, rfl, (by show (0 : Int) < 4; decide), _, rfl, ln, ks, wa, 2, sp, _, rfl, g4, hN, by omega, sp1, sp6, hwa, fun ra ra1 raco => ?_⟩
    refine ⟨_, rfl, _, rfl, _, rfl, _, _, _, _, rfl, rfl, g4, e4, _, _, rfl, rfl, (by show (0 : Int) < 4; decide), _, rfl, ln, ks, we, 4, sp, _, rfl, g4, hN, by omega, sp1, sp6, hwe, fun re re1 reco => ?_⟩
    refine at_set (σ' := [some (.ref a), some (.ref ln), some (.int (q : Int)), some (.int (m : Int)), some (.int (n : Int)), some (.int (sp : Int)), some (.str (tx ra)), some (.str (tx re)), some (.ref lp), none, none, none, none]) rfl ?_
    have ral : ra.length = m := by omega
    have rel : re.length = n := by omega
    have tl : (ra ++ re).length = m + n := by rw [List.length_append]; omega
    refine ⟨_, rfl, _, _, rfl, .inl (SqL.of hp4), fun lh nh => ?_⟩
    have s5 : Same H4 (upd H4 lh (.lst (vS pc))) := .upd nh
    have hh5 : (upd H4 lh (.lst (vS pc))) lh = some (.lst (vS pc)) := upd_same
    generalize upd H4 lh (.lst (vS pc)) = H5 at s5 hh5 ⊢
    have hp5 := s5 _ _ hp4
    refine at_set (σ' := [some (.ref a), some (.ref ln), some (.int (q : Int)), some (.int (m : Int)), some (.int (n : Int)), some (.int (sp : Int)), some (.str (tx ra)), some (.str (tx re)), some (.ref lp), some (.ref lh), none, none, none]) rfl ?_
    refine ⟨_, rfl, _, rfl, _, rfl, lh, pc, m, n, ra, re, rfl, SqL.of hh5, Pc, ral, rel, raco, reco, fun fp H6 ua ue s6 hf6 Fd _ => ?_, fun nfit fp lc z0 Ls H6 s6 hz hf6 Ll N O => ?_⟩
    · have hp6 := s6 _ _ hp5
      refine at_set (σ' := [some (.ref a), some (.ref ln), some (.int (q : Int)), some (.int (m : Int)), some (.int (n : Int)), some (.int (sp : Int)), some (.str (tx ra)), some (.str (tx re)), some (.ref lp), some (.ref lh), some (.ref fp), none, none]) rfl ?_
      refine ⟨_, rfl, _, rfl, _, _, _, _, rfl, rfl, SqL.of (s6 _ _ hh5), SqL.of hp6, vS_flat _, vS_flat _, _, rfl, ?_⟩
      rw [eqL_refl (vS_flat _)]
      refine iteF ?_
      refine ⟨_, rfl, _, _, true, .tup hf6, .inl ⟨_, rfl, kit_same K _⟩, _, rfl, iteF ?_⟩
      refine ⟨_, rfl, _, _, rfl, .inr (SqT.of hf6), rfl, _, rfl, ?_⟩
      refine iteNS rfl ?_
      refine ⟨_, rfl, _, _, _, _, rfl, rfl, SqT.of hf6, atI_of (by decide) rfl, rfl, _, rfl, ?_⟩
      refine iteDp rfl ?_
      refine ⟨_, rfl, _, rfl, _, rfl, _, _, rfl, rfl, (by rw [tx_len, tx_len]; omega), _, rfl, _, _, _, _, rfl, rfl, SqT.of hf6, atI_of (by decide) rfl, _, rfl, _, _, _, _, rfl, rfl, SqT.of hf6, atI_of (by decide) rfl, ?_⟩
      rw [tx_app]
      exact ⟨lp, pc, m, n, ra, re, ua, ue, rfl, SqL.of hp6, Pc, ral, rel, Fd, k _⟩
    have hp6 := s6 _ _ hp5
    have hh6 := s6 _ _ hh5
    refine at_set (σ' := [some (.ref a), some (.ref ln), some (.int (q : Int)), some (.int (m : Int)), some (.int (n : Int)), some (.int (sp : Int)), some (.str (tx ra)), some (.str (tx re)), some (.ref lp), some (.ref lh), some (.ref fp), none, none]) rfl ?_
    refine ⟨_, rfl, _, rfl, _, _, _, _, rfl, rfl, SqL.of hh6, SqL.of hp6, vS_flat _, vS_flat _, _, rfl, ?_⟩
    rw [eqL_refl (vS_flat _)]
    refine iteF ?_
    refine ⟨_, rfl, _, _, true, .tup hf6, .inl ⟨_, rfl, kit_same K _⟩, _, rfl, iteF ?_⟩
    refine ⟨_, rfl, _, _, rfl, .inr (SqT.of hf6), rfl, _, rfl, ?_⟩
    refine iteNS rfl ?_
    refine ⟨_, rfl, _, _, _, _, rfl, rfl, SqT.of hf6, atI_of (by decide) rfl, rfl, _, rfl, ?_⟩
    refine iteDn (fun z => by injection z with z; exact absurd z (by decide +kernel)) ?_
    refine ⟨_, rfl, _, rfl, _, rfl, _, _, rfl, rfl, (by rw [tx_len, tx_len]; omega), _, rfl, ?_⟩
    rw [tx_app]
    refine ⟨lp, fp, lc, pc, m, n, ra ++ re, z0, Ls, rfl, SqL.of hp6, Pc, tl, hz, hf6, Ll, N, _, rfl, iteF ?_⟩
    obtain ⟨ts, ls, hlc, tsl, lsl, tsp⟩ := N
    obtain ⟨cs, ecs⟩ : ∃ cs, cs = due (ra ++ re) z0 := ⟨_, rfl⟩
    rw [← ecs] at Ll tsp
    have cl : cs.length ≤ 6 := by rw [ecs]; unfold due; split <;> simp
    have p1 : atI [V.str "none", V.int (z0 : Int), V.ref lc] 1 = some (V.int (z0 : Int)) := rfl
    have p2 : atI [V.str "none", V.int (z0 : Int), V.ref lc] 2 = some (V.ref lc) := rfl
    have tml : (ts.map V.ref).length = Ls.length := by rw [List.length_map, tsl]
    refine ⟨_, rfl, _, _, _, _, rfl, rfl, SqT.of hf6, p1, _, rfl, _, _, _, _, rfl, rfl, SqT.of hf6, p2, _, rfl, ⟨_, SqL.of hlc⟩, comp_list (K := K) (a := lc) (xs := ts.map V.ref) (fun i ys Hy => ∃ ts' ls' : List Addr, Same H6 Hy ∧ ys = ts'.map V.ref ∧ ts'.length = i ∧ ls'.length = i ∧
      ∀ (j : Nat) (T' l' : Addr) (c : Nat) (L : List Nat), ts'[j]? = some T' → ls'[j]? = some l' → cs[j]? = some c → Ls[j]? = some L → Hy T' = some (.tup [.str ⟨#[c]⟩, .ref l']) ∧ Hy l' = some (.lst (vI (nI L))) ∧ H6 T' = none ∧ H6 l' = none) ⟨[], [], .refl _, rfl, rfl, rfl, fun j T' l' c L e => by simp at e⟩ ?_ ?_ ?_ ?_⟩
    · rintro i ys Hy hi ⟨ts', ls', sy, rfl, l1, l2, _⟩
      exact ⟨SqL.of (sy _ _ hlc), by rw [List.length_map, l1]; exact Nat.le_refl _⟩
    · omega
    · rintro i x ys Hy hi hx ⟨ts', ls', sy, rfl, l1, l2, cp⟩
      rw [List.getElem?_map] at hx
      obtain ⟨Tx, hTx, rfl⟩ := Option.map_eq_some_iff.mp hx
      have iL : i < Ls.length := by omega
      obtain ⟨c, hc⟩ : ∃ c, cs[i]? = some c := ⟨cs[i]'(by omega), List.getElem?_eq_getElem (by omega)⟩
      obtain ⟨l, hl⟩ : ∃ l, ls[i]? = some l := ⟨ls[i]'(by omega), List.getElem?_eq_getElem (by omega)⟩
      obtain ⟨L, hL⟩ : ∃ L, Ls[i]? = some L := ⟨Ls[i]'(by omega), List.getElem?_eq_getElem (by omega)⟩
      obtain ⟨a1, a2, _, Rg⟩ := tsp i _ _ _ _ hTx hc hl hL
      refine CTurn.no ?_
      refine ⟨_, rfl, _, _, _, _, rfl, rfl, SqT.of (sy _ _ a1), atI_of (by decide) rfl, _, rfl, _, _, _, _, rfl, rfl, SqT.of (sy _ _ a1), atI_of (by decide) rfl, _, _, rfl, .inl (SqL.of (sy _ _ a2)), fun l' nl' => ?_⟩
      refine ⟨(by show 2 ≤ sizeLine; omega), fun T' nT' => ?_⟩
      have q1 : Same Hy (upd Hy l' (.lst (vI (nI L)))) := .upd nl'
      have q2 : Same Hy (upd (upd Hy l' (.lst (vI (nI L)))) T' (.tup [.str ⟨#[c]⟩, .ref l'])) := q1.new nT'
      have q3 : (upd (upd Hy l' (.lst (vI (nI L)))) T' (.tup [.str ⟨#[c]⟩, .ref l'])) l' = some (.lst (vI (nI L))) := (Same.upd nT') _ _ upd_same
      refine CN.of hi ⟨ts' ++ [T'], ls' ++ [l'], sy.trans q2, by rw [List.map_append]; rfl, by rw [List.length_append, l1]; rfl, by rw [List.length_append, l2]; rfl, fun j Tj lj cj Lj e1 e2 e3 e4 => ?_⟩
      rcases app_at l1 e1 with ⟨z1, g1⟩ | ⟨z1, g1⟩ <;> rcases app_at l2 e2 with ⟨z2, g2⟩ | ⟨z2, g2⟩
      · obtain ⟨b1, b2, b3, b4⟩ := cp j Tj lj cj Lj g1 g2 e3 e4
        exact ⟨q2 _ _ b1, q2 _ _ b2, b3, b4⟩
      · omega
      · omega
      · rw [z1, hc] at e3
        rw [z1, hL] at e4
        cases e3
        cases e4
        rw [g1, g2]
        exact ⟨upd_same, q3, (sy.trans q1).free nT', sy.free nl'⟩
    rintro ys Hy lk ⟨ts', ls', sy, rfl, l1, l2, cp⟩ nk
    rw [List.length_map] at l1 l2
    have sk : Same Hy (upd Hy lk (.lst (ts'.map V.ref))) := .upd nk
    have hk7 : (upd Hy lk (.lst (ts'.map V.ref))) lk = some (.lst (ts'.map V.ref)) := upd_same
    generalize upd Hy lk (.lst (ts'.map V.ref)) = H7 at sk hk7 ⊢
    refine ⟨(by show 3 ≤ sizeLine; omega), fun tk ntk => ?_⟩
    have st : Same H7 (upd H7 tk (.tup [.str "none", .int (z0 : Int), .ref lk])) := .upd ntk
    have ht8 : (upd H7 tk (.tup [.str "none", .int (z0 : Int), .ref lk])) tk = some (.tup [.str "none", .int (z0 : Int), .ref lk]) := upd_same
    generalize upd H7 tk (.tup [.str "none", .int (z0 : Int), .ref lk]) = H8 at st ht8 ⊢
    have s67 := sy.trans sk
    have s68 := s67.trans st
    have nlk : H6 lk = none := sy.free nk
    have ntk6 : H6 tk = none := s67.free ntk
    refine at_set (σ' := [some (.ref a), some (.ref ln), some (.int (q : Int)), some (.int (m : Int)), some (.int (n : Int)), some (.int (sp : Int)), some (.str (tx ra)), some (.str (tx re)), some (.ref lp), some (.ref lh), some (.ref fp), some (.ref tk), none]) rfl ?_
    have lcls : lc ∉ ls := fun hmem => by
      obtain ⟨i, hi⟩ := List.getElem?_of_mem hmem
      have il := (List.getElem?_eq_some_iff.mp hi).1
      exact (tsp i (ts[i]'(by omega)) (cs[i]'(by omega)) lc (Ls[i]'(by omega)) (List.getElem?_eq_getElem (by omega)) (List.getElem?_eq_getElem (by omega)) hi (List.getElem?_eq_getElem (by omega))).2.2.1 rfl
    have inls : ∀ l ∈ ls, ∃ xs : List V, H6 l = some (.lst xs) ∧ xs.length ≤ 500 ∧ ∃ z r, xs = .int z :: r := fun l hmem => by
      obtain ⟨i, hi⟩ := List.getElem?_of_mem hmem
      have il := (List.getElem?_eq_some_iff.mp hi).1
      obtain ⟨_, b2, _, Rg⟩ := tsp i (ts[i]'(by omega)) (cs[i]'(by omega)) l (Ls[i]'(by omega)) (List.getElem?_eq_getElem (by omega)) (List.getElem?_eq_getElem (by omega)) hi (List.getElem?_eq_getElem (by omega))
      have le := Rg.le
      have two := Rg.two
      refine ⟨_, b2, by rw [vI_len, nI_len]; omega, ?_⟩
      generalize (Ls[i]'(by omega)) = Li at two
      cases Li with
      | nil => simp at two
      | cons x r => exact ⟨_, _, rfl⟩
    have tno : ∀ {b : Addr} {o : HO}, H6 b = some o → (∀ z r, o ≠ .lst (.int z :: r)) → b ∉ ls := fun {b o} e no hmem => by
      obtain ⟨xs, e1, _, z, r, e2⟩ := inls b hmem
      rw [e, e2] at e1
      exact no z r (Option.some.inj e1)
    have frls : ∀ {b : Addr}, H6 b = none → b ∉ ls ∧ b ≠ lc := fun {b} e => by
      refine ⟨fun hmem => ?_, fun z => ?_⟩
      · obtain ⟨xs, e1, _⟩ := inls b hmem
        rw [e] at e1; cases e1
      · rw [z, hlc] at e; cases e
    have vsno : ∀ z r, (HO.lst (vS pc)) ≠ .lst (.int z :: r) := fun z r e => by
      injection e with e
      cases pc with
      | nil => cases e
      | cons u pc => injection e with e; cases e
    refine ⟨_, rfl, _, _, _, _, rfl, rfl, SqT.of (s68 _ _ hf6), p2, _, rfl, ⟨_, SqL.of (s68 _ _ hlc)⟩, for_list (K := K) (a := lc) (xs := ts.map V.ref) (fun i σ Hx => ∃ v12 : Option V, σ = [some (.ref a), some (.ref ln), some (.int (q : Int)), some (.int (m : Int)), some (.int (n : Int)), some (.int (sp : Int)), some (.str (tx ra)), some (.str (tx re)), some (.ref lp), some (.ref lh), some (.ref fp), some (.ref tk), v12] ∧ KpS ls H8 Hx ∧ ∀ l ∈ ls, ∃ xs : List V, Hx l = some (.lst xs) ∧ xs.length ≤ 500 + i)
      ⟨none, rfl, fun b o _ e => e, fun l hmem => ?_⟩ (fun i σ Hx _ ⟨_, _, kx, _⟩ => SqL.of (kx _ _ lcls (s68 _ _ hlc))) ?_ ?_⟩
    · obtain ⟨xs, e1, e2, _⟩ := inls l hmem
      exact ⟨xs, s68 _ _ e1, by omega⟩
    · rintro i x σ Hx hx ⟨v12, rfl, kx, lx⟩
      rw [List.getElem?_map] at hx
      obtain ⟨Tx, hTx, rfl⟩ := Option.map_eq_some_iff.mp hx
      have iT := (List.getElem?_eq_some_iff.mp hTx).1
      obtain ⟨c, hc⟩ : ∃ c, cs[i]? = some c := ⟨cs[i]'(by omega), List.getElem?_eq_getElem (by omega)⟩
      obtain ⟨l, hl⟩ : ∃ l, ls[i]? = some l := ⟨ls[i]'(by omega), List.getElem?_eq_getElem (by omega)⟩
      obtain ⟨L, hL⟩ : ∃ L, Ls[i]? = some L := ⟨Ls[i]'(by omega), List.getElem?_eq_getElem (by omega)⟩
      obtain ⟨a1, a2, _, Rg⟩ := tsp i _ _ _ _ hTx hc hl hL
      have lm := List.mem_of_getElem? hl
      have hT : Hx Tx = some (.tup [.str ⟨#[c]⟩, .ref l]) := kx _ _ (tno a1 (fun z r e => by cases e)) (s68 _ _ a1)
      obtain ⟨xs, hxl, xl⟩ := lx l lm
      refine ⟨_, rfl, _, _, _, _, rfl, rfl, SqT.of hT, atI_of (by decide) rfl, .inl ⟨rfl, _, SqL.of hxl⟩, _, _, _, rfl, rfl, hxl, (by omega), ?_⟩
      refine ⟨_, rfl, fun b o nb e => by rw [upd_ne (fun z => nb (by rw [z]; exact lm))]; exact kx b o nb e, fun l2 hl2 => ?_⟩
      by_cases el : l2 = l
      · rw [el]
        exact ⟨_, upd_same, by rw [List.length_append, List.length_singleton]; omega⟩
      · obtain ⟨xs2, h1, h2⟩ := lx l2 hl2
        exact ⟨xs2, by rw [upd_ne el]; exact h1, by omega⟩
    · rintro σ Hx ⟨v12, rfl, kx, lx⟩
      have hlcx := kx _ _ lcls (s68 _ _ hlc)
      have hfx : Hx fp = some (.tup [.str "none", .int (z0 : Int), .ref lc]) := kx _ _ (tno hf6 (fun z r e => by cases e)) (s68 _ _ hf6)
      refine ⟨_, rfl, _, _, _, _, rfl, rfl, SqT.of hfx, p2, .inl ⟨rfl, _, SqL.of hlcx⟩, Nat.zero_le _, fun le0 nle0 => ?_⟩
      refine ⟨(by show 2 ≤ sizeLine; omega), fun ta nta => ?_⟩
      have sq : Same Hx (upd (upd Hx le0 (.lst [])) ta (.tup [.str "a", .ref le0])) := (Same.upd nle0).new nta
      generalize upd (upd Hx le0 (.lst [])) ta (.tup [.str "a", .ref le0]) = H9 at sq ⊢
      refine ⟨_, _, _, rfl, rfl, sq _ _ hlcx, (by rw [tml]; omega), ?_⟩
      have kk : ∀ b o, b ∉ ls → b ≠ lc → H8 b = some o → (upd H9 lc (.lst (ts.map V.ref ++ [.ref ta]))) b = some o := fun b o n1 n2 e => by rw [upd_ne n2]; exact sq _ _ (kx b o n1 e)
      generalize upd H9 lc (.lst (ts.map V.ref ++ [.ref ta])) = H10 at kk ⊢
      have lcno : ∀ {b : Addr} {o : HO}, H6 b = some o → o ≠ .lst (ts.map V.ref) → b ≠ lc := fun {b o} e no z => by rw [z, hlc] at e; exact no (Option.some.inj e).symm
      have vsno2 : (HO.lst (vS pc)) ≠ .lst (ts.map V.ref) := fun e => by
        injection e with e
        have hh : 0 < pc.length := by rw [Pc.hn]; exact n1
        cases pc with
        | nil => simp at hh
        | cons u pc =>
          cases ts with
          | nil => cases e
          | cons t0 ts => injection e with e; cases e
      have hh10 : H10 lh = some (.lst (vS pc)) := kk _ _ (tno hh6 vsno) (lcno hh6 vsno2) (s68 _ _ hh6)
      have hp10 : H10 lp = some (.lst (vS pc)) := kk _ _ (tno hp6 vsno) (lcno hp6 vsno2) (s68 _ _ hp6)
      have ht10 : H10 tk = some (.tup [.str "none", .int (z0 : Int), .ref lk]) := kk _ _ (frls ntk6).1 (frls ntk6).2 ht8
      have hk10 : H10 lk = some (.lst (ts'.map V.ref)) := kk _ _ (frls nlk).1 (frls nlk).2 (st _ _ hk7)
      have cp10 : ∀ (j : Nat) (T' l' : Addr) (c : Nat) (L : List Nat), ts'[j]? = some T' → ls'[j]? = some l' → cs[j]? = some c → Ls[j]? = some L → H10 T' = some (.tup [.str ⟨#[c]⟩, .ref l']) ∧ H10 l' = some (.lst (vI (nI L))) := fun j T' l' c L g1 g2 g3 g4 => by
        obtain ⟨b1, b2, b3, b4⟩ := cp j T' l' c L g1 g2 g3 g4
        exact ⟨kk _ _ (frls b3).1 (frls b3).2 (st _ _ (sk _ _ b1)), kk _ _ (frls b4).1 (frls b4).2 (st _ _ (sk _ _ b2))⟩
      refine ⟨_, rfl, _, rfl, _, rfl, lh, pc, m, n, ra, re, rfl, SqL.of hh10, Pc, ral, rel, raco, reco, fun fp2 H11 ua ue s11 hf11 Fd _ => ?_, fun _ fp2 lc2 z2 Ls2 H11 s11 hz2 hf11 Ll2 N2 O2 => ?_⟩
      · exact absurd (fit_fnd Fd ral rel) (nfit _)
      obtain ⟨ez, eL⟩ := O2.uniq O
      subst ez eL
      rw [← ecs] at N2
      obtain ⟨ts2, ls2, hlc2, tsl2, lsl2, tsp2⟩ := N2
      have ht11 := s11 _ _ ht10
      have hk11 := s11 _ _ hk10
      refine ⟨_, rfl, fp2, tk, _, _, rfl, rfl, SqT.of hf11, SqT.of ht11, rfl, fun i x y g1 g2 => ?_, _, rfl, ?_⟩
      · match i, g1, g2 with
        | 0, g1, g2 => cases g1; cases g2; exact .flat rfl
        | 1, g1, g2 => cases g1; cases g2; exact .flat rfl
        | 2, g1, g2 =>
          cases g1
          cases g2
          refine .lst (SqL.of hlc2) (SqL.of hk11) (by rw [List.length_map, List.length_map, tsl2, l1, tsl]) fun j x y g1 g2 => ?_
          rw [List.getElem?_map] at g1 g2
          obtain ⟨Ta, hTa, rfl⟩ := Option.map_eq_some_iff.mp g1
          obtain ⟨Tb, hTb, rfl⟩ := Option.map_eq_some_iff.mp g2
          have jl := (List.getElem?_eq_some_iff.mp hTa).1
          obtain ⟨c, hc⟩ : ∃ c, cs[j]? = some c := ⟨cs[j]'(by omega), List.getElem?_eq_getElem (by omega)⟩
          obtain ⟨l, hl⟩ : ∃ l, ls2[j]? = some l := ⟨ls2[j]'(by omega), List.getElem?_eq_getElem (by omega)⟩
          obtain ⟨l', hl'⟩ : ∃ l', ls'[j]? = some l' := ⟨ls'[j]'(by omega), List.getElem?_eq_getElem (by omega)⟩
          obtain ⟨L, hL⟩ : ∃ L, Ls2[j]? = some L := ⟨Ls2[j]'(by omega), List.getElem?_eq_getElem (by omega)⟩
          obtain ⟨b1, b2, _, _⟩ := tsp2 j _ _ _ _ hTa hc hl hL
          obtain ⟨d1, d2⟩ := cp10 j _ _ _ _ hTb hl' hc hL
          exact sam_pair (n := 48) b1 (s11 _ _ d1) (sam_ints (n := 47) b2 (s11 _ _ d2))
        | i + 3, g1, g2 => simp at g1
      refine iteT ?_
      refine ⟨_, rfl, _, rfl, _, _, _, _, rfl, rfl, SqL.of (s11 _ _ hh10), SqL.of (s11 _ _ hp10), vS_flat _, vS_flat _, ?_⟩
      rw [eqL_refl (vS_flat _)]
      exact k _
end
theorem law_mk {P : Program} {w : World} {K : PySem.W.Frag} {h : Heap} {mg : Str → Option Value} {fa : Addr} {f_measured_picture : Addr} {od_measured_picture an_measured_picture : Option Addr} {sl_measured_picture : Array (Option Value)} {oc_measured_picture kV_measured_picture dc_measured_picture pm_measured_picture cd_measured_picture ct_measured_picture : Value}
    {f_check_threads : Addr} {od_check_threads an_check_threads : Option Addr} {sl_check_threads : Array (Option Value)} {oc_check_threads kV_check_threads dc_check_threads pm_check_threads cd_check_threads ct_check_threads : Value}
    {f_way_to : Addr} {od_way_to an_way_to : Option Addr} {sl_way_to : Array (Option Value)} {oc_way_to kV_way_to dc_way_to pm_way_to cd_way_to ct_way_to : Value}
    {f_first_colouring : Addr} {od_first_colouring an_first_colouring : Option Addr} {sl_first_colouring : Array (Option Value)} {oc_first_colouring kV_first_colouring dc_first_colouring pm_first_colouring cd_first_colouring ct_first_colouring : Value}
    {f_crossings_of : Addr} {od_crossings_of an_crossings_of : Option Addr} {sl_crossings_of : Array (Option Value)} {oc_crossings_of kV_crossings_of dc_crossings_of pm_crossings_of cd_crossings_of ct_crossings_of : Value}
    {f_settle_strand : Addr} {od_settle_strand an_settle_strand : Option Addr} {sl_settle_strand : Array (Option Value)} {oc_settle_strand kV_settle_strand dc_settle_strand pm_settle_strand cd_settle_strand ct_settle_strand : Value}
    {f_chain_from : Addr} {od_chain_from an_chain_from : Option Addr} {sl_chain_from : Array (Option Value)} {oc_chain_from kV_chain_from dc_chain_from pm_chain_from cd_chain_from ct_chain_from : Value}
    {f_law_numbers : Addr} {od_law_numbers an_law_numbers : Option Addr} {sl_law_numbers : Array (Option Value)} {oc_law_numbers kV_law_numbers dc_law_numbers pm_law_numbers cd_law_numbers ct_law_numbers : Value}
    {f_law_bits : Addr} {od_law_bits an_law_bits : Option Addr} {sl_law_bits : Array (Option Value)} {oc_law_bits kV_law_bits dc_law_bits pm_law_bits cd_law_bits ct_law_bits : Value}
    {f_law_threads : Addr} {od_law_threads an_law_threads : Option Addr} {sl_law_threads : Array (Option Value)} {oc_law_threads kV_law_threads dc_law_threads pm_law_threads cd_law_threads ct_law_threads : Value}
    {f_law_shows : Addr} {od_law_shows an_law_shows : Option Addr} {sl_law_shows : Array (Option Value)} {oc_law_shows kV_law_shows dc_law_shows pm_law_shows cd_law_shows ct_law_shows : Value}
    {f_law_picture : Addr} {od_law_picture an_law_picture : Option Addr} {sl_law_picture : Array (Option Value)} {oc_law_picture kV_law_picture dc_law_picture pm_law_picture cd_law_picture ct_law_picture : Value}
    {f_law_told : Addr} {od_law_told an_law_told : Option Addr} {sl_law_told : Array (Option Value)} {oc_law_told kV_law_told dc_law_told pm_law_told cd_law_told ct_law_told : Value}
    {f_law_whole_number : Addr} {od_law_whole_number an_law_whole_number : Option Addr} {sl_law_whole_number : Array (Option Value)} {oc_law_whole_number kV_law_whole_number dc_law_whole_number pm_law_whole_number cd_law_whole_number ct_law_whole_number : Value}
    {f_law_seen : Addr} {od_law_seen an_law_seen : Option Addr} {sl_law_seen : Array (Option Value)} {oc_law_seen kV_law_seen dc_law_seen pm_law_seen cd_law_seen ct_law_seen : Value}
    {f_law_chain_right : Addr} {od_law_chain_right an_law_chain_right : Option Addr} {sl_law_chain_right : Array (Option Value)} {oc_law_chain_right kV_law_chain_right dc_law_chain_right pm_law_chain_right cd_law_chain_right ct_law_chain_right : Value}
    {f_law_none_right : Addr} {od_law_none_right an_law_none_right : Option Addr} {sl_law_none_right : Array (Option Value)} {oc_law_none_right kV_law_none_right dc_law_none_right pm_law_none_right cd_law_none_right ct_law_none_right : Value}
    {f_law_fits : Addr} {od_law_fits an_law_fits : Option Addr} {sl_law_fits : Array (Option Value)} {oc_law_fits kV_law_fits dc_law_fits pm_law_fits cd_law_fits ct_law_fits : Value}
    {f_law : Addr} {od_law an_law : Option Addr} {sl_law : Array (Option Value)} {oc_law kV_law dc_law pm_law cd_law ct_law : Value}
    {q_MOST_STRANDS : Tok}
    {q_COLOURS : Tok}
    {e_WeaveError : Addr}
    {e_NoColour : Addr}
    (X : K.In h) (G : h.Ns mainGlobals mg) (hfa : mg "law" = some (.ref fa))
    (a_measured_picture : PySem.W.nsIn K mainGlobals "measured_picture" = some (some (.ref f_measured_picture)))
    (l_measured_picture : K.lookup f_measured_picture = some ⟨oc_measured_picture, od_measured_picture, .func (PySem.W.fnOf "measured_picture" "measured_picture" (defArgs s_measured_picture) (defBody s_measured_picture) (defScope s_measured_picture) .none kV_measured_picture dc_measured_picture pm_measured_picture an_measured_picture cd_measured_picture ct_measured_picture), sl_measured_picture⟩)
    (c_measured_picture : PySem.W.codeIn K cd_measured_picture "measured_picture" = true)
    (k_measured_picture : PySem.W.keepIn K (.ref f_measured_picture) = true)
    (a_check_threads : PySem.W.nsIn K mainGlobals "check_threads" = some (some (.ref f_check_threads)))
    (l_check_threads : K.lookup f_check_threads = some ⟨oc_check_threads, od_check_threads, .func (PySem.W.fnOf "check_threads" "check_threads" (defArgs s_check_threads) (defBody s_check_threads) (defScope s_check_threads) .none kV_check_threads dc_check_threads pm_check_threads an_check_threads cd_check_threads ct_check_threads), sl_check_threads⟩)
    (c_check_threads : PySem.W.codeIn K cd_check_threads "check_threads" = true)
    (k_check_threads : PySem.W.keepIn K (.ref f_check_threads) = true)
    (a_way_to : PySem.W.nsIn K mainGlobals "way_to" = some (some (.ref f_way_to)))
    (l_way_to : K.lookup f_way_to = some ⟨oc_way_to, od_way_to, .func (PySem.W.fnOf "way_to" "way_to" (defArgs s_way_to) (defBody s_way_to) (defScope s_way_to) .none kV_way_to dc_way_to pm_way_to an_way_to cd_way_to ct_way_to), sl_way_to⟩)
    (c_way_to : PySem.W.codeIn K cd_way_to "way_to" = true)
    (k_way_to : PySem.W.keepIn K (.ref f_way_to) = true)
    (a_first_colouring : PySem.W.nsIn K mainGlobals "first_colouring" = some (some (.ref f_first_colouring)))
    (l_first_colouring : K.lookup f_first_colouring = some ⟨oc_first_colouring, od_first_colouring, .func (PySem.W.fnOf "first_colouring" "first_colouring" (defArgs s_first_colouring) (defBody s_first_colouring) (defScope s_first_colouring) .none kV_first_colouring dc_first_colouring pm_first_colouring an_first_colouring cd_first_colouring ct_first_colouring), sl_first_colouring⟩)
    (c_first_colouring : PySem.W.codeIn K cd_first_colouring "first_colouring" = true)
    (k_first_colouring : PySem.W.keepIn K (.ref f_first_colouring) = true)
    (a_crossings_of : PySem.W.nsIn K mainGlobals "crossings_of" = some (some (.ref f_crossings_of)))
    (l_crossings_of : K.lookup f_crossings_of = some ⟨oc_crossings_of, od_crossings_of, .func (PySem.W.fnOf "crossings_of" "crossings_of" (defArgs s_crossings_of) (defBody s_crossings_of) (defScope s_crossings_of) .none kV_crossings_of dc_crossings_of pm_crossings_of an_crossings_of cd_crossings_of ct_crossings_of), sl_crossings_of⟩)
    (c_crossings_of : PySem.W.codeIn K cd_crossings_of "crossings_of" = true)
    (k_crossings_of : PySem.W.keepIn K (.ref f_crossings_of) = true)
    (a_settle_strand : PySem.W.nsIn K mainGlobals "settle_strand" = some (some (.ref f_settle_strand)))
    (l_settle_strand : K.lookup f_settle_strand = some ⟨oc_settle_strand, od_settle_strand, .func (PySem.W.fnOf "settle_strand" "settle_strand" (defArgs s_settle_strand) (defBody s_settle_strand) (defScope s_settle_strand) .none kV_settle_strand dc_settle_strand pm_settle_strand an_settle_strand cd_settle_strand ct_settle_strand), sl_settle_strand⟩)
    (c_settle_strand : PySem.W.codeIn K cd_settle_strand "settle_strand" = true)
    (k_settle_strand : PySem.W.keepIn K (.ref f_settle_strand) = true)
    (a_chain_from : PySem.W.nsIn K mainGlobals "chain_from" = some (some (.ref f_chain_from)))
    (l_chain_from : K.lookup f_chain_from = some ⟨oc_chain_from, od_chain_from, .func (PySem.W.fnOf "chain_from" "chain_from" (defArgs s_chain_from) (defBody s_chain_from) (defScope s_chain_from) .none kV_chain_from dc_chain_from pm_chain_from an_chain_from cd_chain_from ct_chain_from), sl_chain_from⟩)
    (c_chain_from : PySem.W.codeIn K cd_chain_from "chain_from" = true)
    (k_chain_from : PySem.W.keepIn K (.ref f_chain_from) = true)
    (a_law_numbers : PySem.W.nsIn K mainGlobals "_law_numbers" = some (some (.ref f_law_numbers)))
    (l_law_numbers : K.lookup f_law_numbers = some ⟨oc_law_numbers, od_law_numbers, .func (PySem.W.fnOf "_law_numbers" "_law_numbers" (defArgs s_law_numbers) (defBody s_law_numbers) (defScope s_law_numbers) .none kV_law_numbers dc_law_numbers pm_law_numbers an_law_numbers cd_law_numbers ct_law_numbers), sl_law_numbers⟩)
    (c_law_numbers : PySem.W.codeIn K cd_law_numbers "_law_numbers" = true)
    (k_law_numbers : PySem.W.keepIn K (.ref f_law_numbers) = true)
    (a_law_bits : PySem.W.nsIn K mainGlobals "_law_bits" = some (some (.ref f_law_bits)))
    (l_law_bits : K.lookup f_law_bits = some ⟨oc_law_bits, od_law_bits, .func (PySem.W.fnOf "_law_bits" "_law_bits" (defArgs s_law_bits) (defBody s_law_bits) (defScope s_law_bits) .none kV_law_bits dc_law_bits pm_law_bits an_law_bits cd_law_bits ct_law_bits), sl_law_bits⟩)
    (c_law_bits : PySem.W.codeIn K cd_law_bits "_law_bits" = true)
    (k_law_bits : PySem.W.keepIn K (.ref f_law_bits) = true)
    (a_law_threads : PySem.W.nsIn K mainGlobals "_law_threads" = some (some (.ref f_law_threads)))
    (l_law_threads : K.lookup f_law_threads = some ⟨oc_law_threads, od_law_threads, .func (PySem.W.fnOf "_law_threads" "_law_threads" (defArgs s_law_threads) (defBody s_law_threads) (defScope s_law_threads) .none kV_law_threads dc_law_threads pm_law_threads an_law_threads cd_law_threads ct_law_threads), sl_law_threads⟩)
    (c_law_threads : PySem.W.codeIn K cd_law_threads "_law_threads" = true)
    (k_law_threads : PySem.W.keepIn K (.ref f_law_threads) = true)
    (a_law_shows : PySem.W.nsIn K mainGlobals "_law_shows" = some (some (.ref f_law_shows)))
    (l_law_shows : K.lookup f_law_shows = some ⟨oc_law_shows, od_law_shows, .func (PySem.W.fnOf "_law_shows" "_law_shows" (defArgs s_law_shows) (defBody s_law_shows) (defScope s_law_shows) .none kV_law_shows dc_law_shows pm_law_shows an_law_shows cd_law_shows ct_law_shows), sl_law_shows⟩)
    (c_law_shows : PySem.W.codeIn K cd_law_shows "_law_shows" = true)
    (k_law_shows : PySem.W.keepIn K (.ref f_law_shows) = true)
    (a_law_picture : PySem.W.nsIn K mainGlobals "_law_picture" = some (some (.ref f_law_picture)))
    (l_law_picture : K.lookup f_law_picture = some ⟨oc_law_picture, od_law_picture, .func (PySem.W.fnOf "_law_picture" "_law_picture" (defArgs s_law_picture) (defBody s_law_picture) (defScope s_law_picture) .none kV_law_picture dc_law_picture pm_law_picture an_law_picture cd_law_picture ct_law_picture), sl_law_picture⟩)
    (c_law_picture : PySem.W.codeIn K cd_law_picture "_law_picture" = true)
    (k_law_picture : PySem.W.keepIn K (.ref f_law_picture) = true)
    (a_law_told : PySem.W.nsIn K mainGlobals "_law_told" = some (some (.ref f_law_told)))
    (l_law_told : K.lookup f_law_told = some ⟨oc_law_told, od_law_told, .func (PySem.W.fnOf "_law_told" "_law_told" (defArgs s_law_told) (defBody s_law_told) (defScope s_law_told) .none kV_law_told dc_law_told pm_law_told an_law_told cd_law_told ct_law_told), sl_law_told⟩)
    (c_law_told : PySem.W.codeIn K cd_law_told "_law_told" = true)
    (k_law_told : PySem.W.keepIn K (.ref f_law_told) = true)
    (a_law_whole_number : PySem.W.nsIn K mainGlobals "_law_whole_number" = some (some (.ref f_law_whole_number)))
    (l_law_whole_number : K.lookup f_law_whole_number = some ⟨oc_law_whole_number, od_law_whole_number, .func (PySem.W.fnOf "_law_whole_number" "_law_whole_number" (defArgs s_law_whole_number) (defBody s_law_whole_number) (defScope s_law_whole_number) .none kV_law_whole_number dc_law_whole_number pm_law_whole_number an_law_whole_number cd_law_whole_number ct_law_whole_number), sl_law_whole_number⟩)
    (c_law_whole_number : PySem.W.codeIn K cd_law_whole_number "_law_whole_number" = true)
    (k_law_whole_number : PySem.W.keepIn K (.ref f_law_whole_number) = true)
    (a_law_seen : PySem.W.nsIn K mainGlobals "_law_seen" = some (some (.ref f_law_seen)))
    (l_law_seen : K.lookup f_law_seen = some ⟨oc_law_seen, od_law_seen, .func (PySem.W.fnOf "_law_seen" "_law_seen" (defArgs s_law_seen) (defBody s_law_seen) (defScope s_law_seen) .none kV_law_seen dc_law_seen pm_law_seen an_law_seen cd_law_seen ct_law_seen), sl_law_seen⟩)
    (c_law_seen : PySem.W.codeIn K cd_law_seen "_law_seen" = true)
    (k_law_seen : PySem.W.keepIn K (.ref f_law_seen) = true)
    (a_law_chain_right : PySem.W.nsIn K mainGlobals "_law_chain_right" = some (some (.ref f_law_chain_right)))
    (l_law_chain_right : K.lookup f_law_chain_right = some ⟨oc_law_chain_right, od_law_chain_right, .func (PySem.W.fnOf "_law_chain_right" "_law_chain_right" (defArgs s_law_chain_right) (defBody s_law_chain_right) (defScope s_law_chain_right) .none kV_law_chain_right dc_law_chain_right pm_law_chain_right an_law_chain_right cd_law_chain_right ct_law_chain_right), sl_law_chain_right⟩)
    (c_law_chain_right : PySem.W.codeIn K cd_law_chain_right "_law_chain_right" = true)
    (k_law_chain_right : PySem.W.keepIn K (.ref f_law_chain_right) = true)
    (a_law_none_right : PySem.W.nsIn K mainGlobals "_law_none_right" = some (some (.ref f_law_none_right)))
    (l_law_none_right : K.lookup f_law_none_right = some ⟨oc_law_none_right, od_law_none_right, .func (PySem.W.fnOf "_law_none_right" "_law_none_right" (defArgs s_law_none_right) (defBody s_law_none_right) (defScope s_law_none_right) .none kV_law_none_right dc_law_none_right pm_law_none_right an_law_none_right cd_law_none_right ct_law_none_right), sl_law_none_right⟩)
    (c_law_none_right : PySem.W.codeIn K cd_law_none_right "_law_none_right" = true)
    (k_law_none_right : PySem.W.keepIn K (.ref f_law_none_right) = true)
    (a_law_fits : PySem.W.nsIn K mainGlobals "_law_fits" = some (some (.ref f_law_fits)))
    (l_law_fits : K.lookup f_law_fits = some ⟨oc_law_fits, od_law_fits, .func (PySem.W.fnOf "_law_fits" "_law_fits" (defArgs s_law_fits) (defBody s_law_fits) (defScope s_law_fits) .none kV_law_fits dc_law_fits pm_law_fits an_law_fits cd_law_fits ct_law_fits), sl_law_fits⟩)
    (c_law_fits : PySem.W.codeIn K cd_law_fits "_law_fits" = true)
    (k_law_fits : PySem.W.keepIn K (.ref f_law_fits) = true)
    (a_law : PySem.W.nsIn K mainGlobals "law" = some (some (.ref f_law)))
    (l_law : K.lookup f_law = some ⟨oc_law, od_law, .func (PySem.W.fnOf "law" "law" (defArgs s_law) (defBody s_law) (defScope s_law) .none kV_law dc_law pm_law an_law cd_law ct_law), sl_law⟩)
    (c_law : PySem.W.codeIn K cd_law "law" = true)
    (k_law : PySem.W.keepIn K (.ref f_law) = true)
    (z_bool : PySem.W.nsIn K mainGlobals "bool" = some none)
    (z_enumerate : PySem.W.nsIn K mainGlobals "enumerate" = some none)
    (z_int : PySem.W.nsIn K mainGlobals "int" = some none)
    (z_isinstance : PySem.W.nsIn K mainGlobals "isinstance" = some none)
    (z_len : PySem.W.nsIn K mainGlobals "len" = some none)
    (z_list : PySem.W.nsIn K mainGlobals "list" = some none)
    (z_range : PySem.W.nsIn K mainGlobals "range" = some none)
    (z_reversed : PySem.W.nsIn K mainGlobals "reversed" = some none)
    (z_str : PySem.W.nsIn K mainGlobals "str" = some none)
    (z_tuple : PySem.W.nsIn K mainGlobals "tuple" = some none)
    (x_MOST_STRANDS : PySem.W.nsIn K mainGlobals "MOST_STRANDS" = some (some (.int 40 q_MOST_STRANDS)))
    (x_COLOURS : PySem.W.nsIn K mainGlobals "COLOURS" = some (some (.str "abcdef" q_COLOURS)))
    (n_WeaveError : PySem.W.nsIn K mainGlobals "WeaveError" = some (some (.ref e_WeaveError)))
    (n_NoColour : PySem.W.nsIn K mainGlobals "NoColour" = some (some (.ref e_NoColour)))
    (y9_WeaveError : PySem.W.isClsIn K e_WeaveError = true)
    (y10_WeaveError : PySem.W.typeIn K (.ref e_WeaveError) = some (.type "type"))
    (y9_NoColour : PySem.W.isClsIn K e_NoColour = true)
    (y10_NoColour : PySem.W.typeIn K (.ref e_NoColour) = some (.type "type")) :
    ∃ fd : FuncData, (∀ (s : Shared) (v : Value), BindsTo s fd ⟨[v], []⟩ [("script", v)]) ∧ ∀ base : Heap, K.In base → base.Ns mainGlobals mg → FnOk P w K mg base CX0 5 fa fd ["script"] (sp_law K) := by
  have e := hfa.symm.trans (PySem.W.mg_of X G a_law)
  cases e
  have T := txt_mk X G a_measured_picture l_measured_picture c_measured_picture k_measured_picture a_check_threads l_check_threads c_check_threads k_check_threads a_way_to l_way_to c_way_to k_way_to a_first_colouring l_first_colouring c_first_colouring k_first_colouring a_crossings_of l_crossings_of c_crossings_of k_crossings_of a_settle_strand l_settle_strand c_settle_strand k_settle_strand a_chain_from l_chain_from c_chain_from k_chain_from a_law_numbers l_law_numbers c_law_numbers k_law_numbers a_law_bits l_law_bits c_law_bits k_law_bits a_law_threads l_law_threads c_law_threads k_law_threads a_law_shows l_law_shows c_law_shows k_law_shows a_law_picture l_law_picture c_law_picture k_law_picture a_law_told l_law_told c_law_told k_law_told a_law_whole_number l_law_whole_number c_law_whole_number k_law_whole_number a_law_seen l_law_seen c_law_seen k_law_seen a_law_chain_right l_law_chain_right c_law_chain_right k_law_chain_right a_law_none_right l_law_none_right c_law_none_right k_law_none_right a_law_fits l_law_fits c_law_fits k_law_fits a_law l_law c_law k_law z_bool z_enumerate z_int z_isinstance z_len z_list z_range z_reversed z_str z_tuple x_MOST_STRANDS x_COLOURS n_WeaveError n_NoColour y9_WeaveError y10_WeaveError y9_NoColour y10_NoColour
  exact ⟨_, fun s v => .of_eq rfl, fun base _ _ => ok_law T⟩
end Mine
open PySem PySem.W PyProof.Rows
set_option maxRecDepth 100000 in
set_option maxHeartbeats 0 in
theorem PySem.Challenge.cw_heddle_k48_whole_colours_or_chains_holds : PySem.Challenge.rw_heddle_k48_whole_colours_or_chains.Holds := by
  w_on; o_law; k_head; (case hw => w_witness2)
  k_fill
  refine L2.walk_ofK (l := PySem.Challenge.rw_heddle_k48_whole_colours_or_chains) (n := 63) (k := 5) (x := "script") (CX := L2.CX0) (sp := Mine.sp_law) rfl (by decide) rfl ⟨rfl, by decide, by decide⟩ (fun w h Y => PySem.W.kIn_of Y) ?F ?S ?C
  case F =>
    intro w mg fa h KX G hmg
    refine' Mine.law_mk KX G hmg ?a_measured_picture ?l_measured_picture ?c_measured_picture ?k_measured_picture ?a_check_threads ?l_check_threads ?c_check_threads ?k_check_threads ?a_way_to ?l_way_to ?c_way_to ?k_way_to ?a_first_colouring ?l_first_colouring ?c_first_colouring ?k_first_colouring ?a_crossings_of ?l_crossings_of ?c_crossings_of ?k_crossings_of ?a_settle_strand ?l_settle_strand ?c_settle_strand ?k_settle_strand ?a_chain_from ?l_chain_from ?c_chain_from ?k_chain_from ?a_law_numbers ?l_law_numbers ?c_law_numbers ?k_law_numbers ?a_law_bits ?l_law_bits ?c_law_bits ?k_law_bits ?a_law_threads ?l_law_threads ?c_law_threads ?k_law_threads ?a_law_shows ?l_law_shows ?c_law_shows ?k_law_shows ?a_law_picture ?l_law_picture ?c_law_picture ?k_law_picture ?a_law_told ?l_law_told ?c_law_told ?k_law_told ?a_law_whole_number ?l_law_whole_number ?c_law_whole_number ?k_law_whole_number ?a_law_seen ?l_law_seen ?c_law_seen ?k_law_seen ?a_law_chain_right ?l_law_chain_right ?c_law_chain_right ?k_law_chain_right ?a_law_none_right ?l_law_none_right ?c_law_none_right ?k_law_none_right ?a_law_fits ?l_law_fits ?c_law_fits ?k_law_fits ?a_law ?l_law ?c_law ?k_law ?z_bool ?z_enumerate ?z_int ?z_isinstance ?z_len ?z_list ?z_range ?z_reversed ?z_str ?z_tuple ?x_MOST_STRANDS ?x_COLOURS ?n_WeaveError ?n_NoColour ?y9_WeaveError ?y10_WeaveError ?y9_NoColour ?y10_NoColour
    (case a_measured_picture => k_is)
    (case l_measured_picture => k_is)
    (case c_measured_picture => k_is)
    (case k_measured_picture => k_is)
    (case a_check_threads => k_is)
    (case l_check_threads => k_is)
    (case c_check_threads => k_is)
    (case k_check_threads => k_is)
    (case a_way_to => k_is)
    (case l_way_to => k_is)
    (case c_way_to => k_is)
    (case k_way_to => k_is)
    (case a_first_colouring => k_is)
    (case l_first_colouring => k_is)
    (case c_first_colouring => k_is)
    (case k_first_colouring => k_is)
    (case a_crossings_of => k_is)
    (case l_crossings_of => k_is)
    (case c_crossings_of => k_is)
    (case k_crossings_of => k_is)
    (case a_settle_strand => k_is)
    (case l_settle_strand => k_is)
    (case c_settle_strand => k_is)
    (case k_settle_strand => k_is)
    (case a_chain_from => k_is)
    (case l_chain_from => k_is)
    (case c_chain_from => k_is)
    (case k_chain_from => k_is)
    (case a_law_numbers => k_is)
    (case l_law_numbers => k_is)
    (case c_law_numbers => k_is)
    (case k_law_numbers => k_is)
    (case a_law_bits => k_is)
    (case l_law_bits => k_is)
    (case c_law_bits => k_is)
    (case k_law_bits => k_is)
    (case a_law_threads => k_is)
    (case l_law_threads => k_is)
    (case c_law_threads => k_is)
    (case k_law_threads => k_is)
    (case a_law_shows => k_is)
    (case l_law_shows => k_is)
    (case c_law_shows => k_is)
    (case k_law_shows => k_is)
    (case a_law_picture => k_is)
    (case l_law_picture => k_is)
    (case c_law_picture => k_is)
    (case k_law_picture => k_is)
    (case a_law_told => k_is)
    (case l_law_told => k_is)
    (case c_law_told => k_is)
    (case k_law_told => k_is)
    (case a_law_whole_number => k_is)
    (case l_law_whole_number => k_is)
    (case c_law_whole_number => k_is)
    (case k_law_whole_number => k_is)
    (case a_law_seen => k_is)
    (case l_law_seen => k_is)
    (case c_law_seen => k_is)
    (case k_law_seen => k_is)
    (case a_law_chain_right => k_is)
    (case l_law_chain_right => k_is)
    (case c_law_chain_right => k_is)
    (case k_law_chain_right => k_is)
    (case a_law_none_right => k_is)
    (case l_law_none_right => k_is)
    (case c_law_none_right => k_is)
    (case k_law_none_right => k_is)
    (case a_law_fits => k_is)
    (case l_law_fits => k_is)
    (case c_law_fits => k_is)
    (case k_law_fits => k_is)
    (case a_law => k_is)
    (case l_law => k_is)
    (case c_law => k_is)
    (case k_law => k_is)
    (case z_bool => k_is)
    (case z_enumerate => k_is)
    (case z_int => k_is)
    (case z_isinstance => k_is)
    (case z_len => k_is)
    (case z_list => k_is)
    (case z_range => k_is)
    (case z_reversed => k_is)
    (case z_str => k_is)
    (case z_tuple => k_is)
    (case x_MOST_STRANDS => k_is)
    (case x_COLOURS => k_is)
    (case n_WeaveError => k_is)
    (case n_NoColour => k_is)
    (case y9_WeaveError => k_is)
    (case y10_WeaveError => k_is)
    (case y9_NoColour => k_is)
    (case y10_NoColour => k_is)
  case S => exact fun K H a ns hl hO hS => Mine.sp_law_holds hl hS
  case C => exact fun _ _ _ _ z => z

