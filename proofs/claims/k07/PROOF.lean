import PyProof.Rows.All
import Wide.All
import OpenK.AllK
import Wide.FinOn
import Lean
import PyProof.EqAt
import PyProof.EqKinds
import PyProof.TupleCall
import PyProof.StrBlockL
import PyProof.EnumMake
import PyProof.CollectIter
import PyProof.JoinWalk
import PyProof.StrOps
import PyProof.StrLawsIdx
import PyProof.StrLawsIn
import PyProof.ListRange
import PyProof.Rows.Range3
import PyProof.Rows.SumAny
import KE.KIntText
import KE.LcSums
import PyProof.LongRange
import PyProof.StrOps2
import PyProof.FitsBits
import PyProof.NeKinds
import PyProof.ConsumeWalk
import PyProof.Rows.ZipGen
import PyProof.Draws
import PyProof.Rows.SeqMore
import PySem.Challenge.RW_heddle_k07_drafts_refused
set_option Elab.async false
set_option linter.all false
set_option maxRecDepth 100000
/-! THE HAND LAYER, for ints, bools, texts, own classes, LISTS and tuples (index, slices, in, append, pop ..), calls, loops. Paste it whole ahead of your own text; what your proof does not reach may be deleted. -/
namespace L2
open PySem PySem.Spec PyProof.Rows

/-- a key: an int or a str -/
abbrev Key := Sum Int Str
def keyIs : Key → Value → Bool
  | .inl k, v => Value.isInt k v
  | .inr x, v => Value.isStrOf x v
def keyH (w : World) : Key → Int
  | .inl k => hashInt k
  | .inr x => hashStr w x
theorem keyIs_shape : ∀ {k : Key} {v : Value}, keyIs k v = true → (∃ i t, k = Sum.inl i ∧ v = Value.int i t) ∨ (∃ x t, k = Sum.inr x ∧ v = Value.str x t)
  | .inl i, v, h => by
    obtain ⟨t, e⟩ := Value.isInt_shape (k := i) (v := v) h
    exact .inl ⟨i, t, rfl, e⟩
  | .inr x, v, h => by
    obtain ⟨t, e⟩ := Value.isStrOf_shape (x := x) (v := v) h
    exact .inr ⟨x, t, rfl, e⟩
theorem key_ll (a b : Int) : decide ((Sum.inl a : Key) = Sum.inl b) = (a == b) := by
  by_cases e : a = b
  · subst e; simp
  · have h : ¬ (Sum.inl a : Key) = Sum.inl b := fun q => e (Sum.inl.inj q)
    rw [decide_eq_false h]
    exact (beq_eq_false_iff_ne.mpr e).symm
theorem key_rr (a b : Str) : decide ((Sum.inr a : Key) = Sum.inr b) = decide (a = b) := by
  by_cases e : a = b
  · subst e; simp
  · have h : ¬ (Sum.inr a : Key) = Sum.inr b := fun q => e (Sum.inr.inj q)
    rw [decide_eq_false h, decide_eq_false e]
theorem key_lr (a : Int) (b : Str) : decide ((Sum.inl a : Key) = Sum.inr b) = false := decide_eq_false (fun q => nomatch q)
theorem key_rl (a : Str) (b : Int) : decide ((Sum.inr a : Key) = Sum.inl b) = false := decide_eq_false (fun q => nomatch q)

def mixKind (prog : Program) (w : World) : PySem.KeyKind prog w Key where
  is := keyIs
  hash := keyH w
  inj := fun v a b ha hb => by
    rcases keyIs_shape ha with ⟨i, t, rfl, rfl⟩ | ⟨x, t, rfl, rfl⟩
    · rcases keyIs_shape hb with ⟨j, u, rfl, e⟩ | ⟨y, u, rfl, e⟩
      · injection e with e1 _; rw [e1]
      · exact nomatch e
    · rcases keyIs_shape hb with ⟨j, u, rfl, e⟩ | ⟨y, u, rfl, e⟩
      · exact nomatch e
      · injection e with e1 _; rw [e1]
  byValue := fun k v h => by
    rcases keyIs_shape h with ⟨i, t, rfl, rfl⟩ | ⟨x, t, rfl, rfl⟩ <;> rfl
  pyHash := fun hv h => by
    rcases keyIs_shape hv with ⟨i, t, rfl, rfl⟩ | ⟨x, t, rfl, rfl⟩
    · exact wpAny_pyHash_int h
    · exact wpAny_pyHash_str h
  eqBool := fun hu hv h => by
    rcases keyIs_shape hu with ⟨i, t, rfl, rfl⟩ | ⟨x, t, rfl, rfl⟩
    · rcases keyIs_shape hv with ⟨j, u, rfl, rfl⟩ | ⟨y, u, rfl, rfl⟩
      · rw [key_ll] at h; exact wpAny_eqBool_int h
      · rw [key_lr] at h; exact SeqAt.EqAt.int_str i t y u _ _ _ _ h
    · rcases keyIs_shape hv with ⟨j, u, rfl, rfl⟩ | ⟨y, u, rfl, rfl⟩
      · rw [key_rl] at h; exact SeqAt.EqAt.str_int x t j u _ _ _ _ h
      · rw [key_rr] at h; exact wpAny_eqBool_str h
  «strs» := fun k x t v h => by
    rcases keyIs_shape h with ⟨i, u, rfl, e⟩ | ⟨y, u, rfl, e⟩
    · exact nomatch e
    · injection e with e1 _
      subst e1
      cases v <;> rfl

end L2

namespace L2
open PySem PySem.Spec PyProof.Rows

/-- a value, without the heap -/
inductive V where
  | non | bl (b : Bool) | int (i : Int) | str (x : Str) | byt (b : Array UInt8) | flt (b : UInt64) | ref (a : Addr) | ty (n : String)
  deriving DecidableEq

def RelV : V → Value → Prop
  | .non, u => u = Value.none
  | .bl b, u => u = Value.bool b
  | .int i, u => ∃ t, u = Value.int i t
  | .str x, u => ∃ t, u = Value.str x t
  | .byt b, u => ∃ t, u = Value.bytes b t
  | .flt b, u => ∃ t, u = Value.float b t
  | .ref a, u => u = Value.ref a
  | .ty n, u => u = Value.type n

abbrev Vals : List V → List Value → Prop := Paired RelV
theorem Vals.length {xs : List V} {us : List Value} (r : Vals xs us) : xs.length = us.length := Paired.length r
theorem Vals.get : ∀ {xs : List V} {us : List Value} {i : Nat} {x : V}, Vals xs us → xs[i]? = some x → ∃ u, us[i]? = some u ∧ RelV x u
  | _, _, _, _, .nil, e => by simp at e
  | _, _, 0, _, .cons r _, e => by simp at e; subst e; exact ⟨_, rfl, r⟩
  | _, _, i + 1, x, .cons _ t, e => by
    obtain ⟨u, h1, h2⟩ := Vals.get (i := i) (x := x) t (by simpa using e)
    exact ⟨u, by simpa using h1, h2⟩
theorem Vals.set {x : V} {u : Value} (r : RelV x u) : ∀ {xs : List V} {us : List Value} (i : Nat), Vals xs us → Vals (xs.set i x) (us.set i u)
  | _, _, _, .nil => .nil
  | _, _, 0, .cons _ t => .cons r t
  | _, _, i + 1, .cons q t => .cons q (Vals.set r i t)
theorem Vals.append : ∀ {xs ys : List V} {us ws : List Value}, Vals xs us → Vals ys ws → Vals (xs ++ ys) (us ++ ws)
  | _, _, _, _, .nil, s => s
  | _, _, _, _, .cons r t, s => .cons r (Vals.append t s)
theorem Vals.take : ∀ {xs : List V} {us : List Value} (n : Nat), Vals xs us → Vals (xs.take n) (us.take n)
  | _, _, 0, _ => .nil
  | _, _, _ + 1, .nil => .nil
  | _, _, n + 1, .cons r t => .cons r (Vals.take n t)
theorem Vals.drop : ∀ {xs : List V} {us : List Value} (n : Nat), Vals xs us → Vals (xs.drop n) (us.drop n)
  | _, _, 0, r => r
  | _, _, _ + 1, .nil => .nil
  | _, _, n + 1, .cons _ t => Vals.drop n t
def RelO : Option V → Option Value → Prop
  | some v, some u => RelV v u
  | none, none => True
  | _, _ => False
def KV {κ : Type} : List (κ × V) → List (κ × Value) → Prop := Paired fun (p : κ × V) (q : κ × Value) => p.1 = q.1 ∧ RelV p.2 q.2

/-- a key of a dict (00_mix): an int or a text -/
def kV : Key → V
  | .inl i => .int i
  | .inr x => .str x

/-- what stands at a tracked address -/
inductive HO where
  /-- a list -/
  | lst (xs : List V)
  /-- a tuple (never changes) -/
  | tup (xs : List V)
  /-- a dict whose keys are ints and texts; one whose keys are tuples of ints and texts (the empty one is both) -/
  | dK (kvs : List (Key × V)) | dT (kvs : List (List Key × V))
  /-- a set of ints: its members, its size -/
  | set (S : Int → Bool) (n : Nat)
  /-- an instance of the class at C, its dict at dx, its attributes -/
  | ins (C dx : Addr) (fs : List (Str × V))
  /-- the dict of the instance at x -/
  | own (x : Addr)
  /-- the dict of an exception -/
  | xd (fs : List (Str × V))
  /-- a bound method, f of x -/
  | met (f x : Addr)
  /-- a range object lo, lo + 1, .. below hi -/
  | rng (lo hi : Int)
  /-- a thing that is known to the object (the script; a dict while a loop walks it): read, never written while it is so -/
  | frz (o : Obj) (u : HO)
  /-- a code object's table -/
  | tbl (ps : Array Value)
  /-- any other thing, by what is true of its one object (a def of one's own: SetO a S n := HO.ext fun h => ..) -/
  | ext (φ : Heap → Prop)

abbrev Hp := Addr → Option HO
def upd (H : Hp) (a : Addr) (o : HO) : Hp := fun b => if b = a then some o else H b
theorem upd_same {H : Hp} {a : Addr} {o : HO} : upd H a o a = some o := by unfold upd; rw [if_pos rfl]
theorem upd_ne {H : Hp} {a b : Addr} {o : HO} (h : b ≠ a) : upd H a o b = H b := by unfold upd; rw [if_neg h]
theorem ne_of_none {H : Hp} {a b : Addr} {o : HO} (h : H a = some o) (h' : H b = none) : a ≠ b := by
  intro e; subst e; rw [h] at h'; cases h'

section
variable (P : Program) (w : World)
def ObjOk (H : Hp) (h : Heap) (a : Addr) : HO → Prop
  | .lst xs => xs.length ≤ sizeLine ∧ ∃ (its : List Value) (n : Nat), Vals xs its ∧ h.get? a = some { cls := .type "list", data := .seq its.toArray n }
  | .tup xs => xs.length ≤ sizeLine ∧ ∃ its : List Value, Vals xs its ∧ IsTup h a its.toArray
  | .dK kvs => kvs.length ≤ sizeLine ∧ (a == sysModules) = false ∧ ∃ vs, KV kvs vs ∧ h.DictOf (mixKind P w) a vs
  | .dT kvs => kvs.length ≤ sizeLine ∧ (a == sysModules) = false ∧ ∃ xs : List (List Key × Addr × Value),
      Paired (fun (p : List Key × V) (q : List Key × Addr × Value) => p.1 = q.1 ∧ H q.2.1 = some (.tup (p.1.map kV)) ∧ RelV p.2 q.2.2) kvs xs ∧
      ∃ o es ep, h.get? a = some o ∧ o.ExactDict ∧ o.data = .dict es ep ∧ es.toList = xs.map (entryOfKey (tupleKind (mixKind P w))) ∧ (xs.map (·.1)).Nodup
  | .set S n => h.SetOf (intKind P w) a S n
  | .ins C dx fs => H dx = some (.own a) ∧ fs.length ≤ 1000 ∧ dx ≠ a ∧ h.get? a = some (PySem.W.instObj C dx) ∧
      ∃ mA, h.Ns1 dx mA ∧ (∀ f, RelO (fs.lookup f) (mA f)) ∧ PySem.Within mA (fs.map (·.1))
  | .own _ => ∃ o, h.get? a = some o
  | .xd fs => ∃ mA, h.Ns1 a mA ∧ ∀ f, RelO (fs.lookup f) (mA f)
  | .rng lo hi => ∃ t u v, h.get? a = some { cls := .type "range", data := .fields #[.int lo t, .int hi u, .int 1 v] }
  | .frz o u => h.get? a = some o ∧ ObjOk H h a u
  | .tbl ps => h.get? a = some { cls := .none, data := .fields ps }
  | .met f x => h.get? a = some (PySem.W.methodObj (.ref f) (.ref x))
  | .ext φ => φ h ∧ (∃ o, h.get? a = some o) ∧ ∀ h1 h2 : Heap, φ h1 → (∀ o, h1.get? a = some o → h2.get? a = some o) → φ h2
/-- the abstract heap is held -/
def HOk (H : Hp) (h : Heap) : Prop := ∀ a o, H a = some o → ObjOk P w H h a o
end

section
variable {P : Program} {w : World} {H H' : Hp} {h h' : Heap} {a : Addr} {o : HO}
theorem ObjOk.lt (x : ObjOk P w H h a o) : a < h.objs.size := by
  cases o with
  | lst xs => obtain ⟨_, _, _, _, e⟩ := x; exact Heap.lt_size e
  | tup xs => obtain ⟨_, _, _, p⟩ := x; exact p.lt
  | dK kvs => obtain ⟨_, _, _, _, o, _, _, e, _⟩ := x; exact Heap.lt_size e
  | dT kvs => obtain ⟨_, _, _, _, o, _, _, e, _⟩ := x; exact Heap.lt_size e
  | set S n => obtain ⟨o, _, _, _, e, _⟩ := x; exact Heap.lt_size e
  | ins C dx fs => obtain ⟨_, _, _, e, _⟩ := x; exact Heap.lt_size e
  | own y => obtain ⟨_, e⟩ := x; exact Heap.lt_size e
  | xd fs => obtain ⟨_, ⟨_, _, _, e, _⟩, _⟩ := x; exact Heap.lt_size e
  | rng lo hi => obtain ⟨_, _, _, e⟩ := x; exact Heap.lt_size e
  | frz ob u => obtain ⟨e, _⟩ := x; exact Heap.lt_size e
  | tbl ps => exact Heap.lt_size (show h.get? a = some _ from x)
  | met f y => exact Heap.lt_size (show h.get? a = some _ from x)
  | ext φ => obtain ⟨_, ⟨_, e⟩, _⟩ := x; exact Heap.lt_size e
theorem Paired.mapP {α β : Type} {F G : α → β → Prop} : ∀ {l₁ : List α} {l₂ : List β}, Paired F l₁ l₂ → (∀ a b, F a b → G a b) → Paired G l₁ l₂
  | _, _, .nil, _ => .nil
  | _, _, .cons r t, f => .cons (f _ _ r) (Paired.mapP t f)
/-- what an object's description leans on: its own object, its own dict, the tuples -/
theorem ObjOk.stay (x : ObjOk P w H h a o) (k : ∀ b u, (b = a ∨ H b = some (.own a)) → h.get? b = some u → h'.get? b = some u)
    (ho : ∀ b, H b = some (.own a) → H' b = some (.own a)) (ht : ∀ b xs, H b = some (.tup xs) → H' b = some (.tup xs)) : ObjOk P w H' h' a o := by
  induction o with
  | lst xs => obtain ⟨z, its, n, r, e⟩ := x; exact ⟨z, its, n, r, k _ _ (.inl rfl) e⟩
  | tup xs => obtain ⟨z, its, r, ob, e, c⟩ := x; exact ⟨z, its, r, ob, k _ _ (.inl rfl) e, c⟩
  | dK kvs => obtain ⟨z, y, vs, r, ob, es, ep, e, c⟩ := x; exact ⟨z, y, vs, r, ob, es, ep, k _ _ (.inl rfl) e, c⟩
  | dT kvs =>
    obtain ⟨z, y, xs, r, ob, es, ep, e, c⟩ := x
    exact ⟨z, y, xs, Paired.mapP r fun p q z => ⟨z.1, ht _ _ z.2.1, z.2.2⟩, ob, es, ep, k _ _ (.inl rfl) e, c⟩
  | set S n => obtain ⟨ob, es, ep, t, e, c⟩ := x; exact ⟨ob, es, ep, t, k _ _ (.inl rfl) e, c⟩
  | ins C dx fs =>
    obtain ⟨d, z, ne, e, mA, ⟨od, es, ep, e2, c⟩, r⟩ := x
    exact ⟨ho _ d, z, ne, k _ _ (.inl rfl) e, mA, ⟨od, es, ep, k _ _ (.inr d) e2, c⟩, r⟩
  | own y => obtain ⟨ob, e⟩ := x; exact ⟨ob, k _ _ (.inl rfl) e⟩
  | xd fs => obtain ⟨mA, ⟨od, es, ep, e, c⟩, r⟩ := x; exact ⟨mA, ⟨od, es, ep, k _ _ (.inl rfl) e, c⟩, r⟩
  | rng lo hi => obtain ⟨t, u, v, e⟩ := x; exact ⟨t, u, v, k _ _ (.inl rfl) e⟩
  | frz ob u ih => obtain ⟨e, q⟩ := x; exact ⟨k _ _ (.inl rfl) e, ih q⟩
  | tbl ps =>
    have e : h.get? a = some { cls := .none, data := .fields ps } := x
    show h'.get? a = some { cls := .none, data := .fields ps }
    exact k a _ (.inl rfl) e
  | met f y =>
    have e : h.get? a = some (PySem.W.methodObj (.ref f) (.ref y)) := x
    show h'.get? a = some (PySem.W.methodObj (.ref f) (.ref y))
    exact k a _ (.inl rfl) e
  | ext φ => obtain ⟨p, ⟨o, e⟩, st⟩ := x; exact ⟨st _ _ p fun o q => k _ _ (.inl rfl) q, ⟨o, k _ _ (.inl rfl) e⟩, st⟩
theorem HOk.lt (x : HOk P w H h) (e : H a = some o) : a < h.objs.size := (x a o e).lt
theorem HOk.fresh (x : HOk P w H h) (e : h.objs.size ≤ a) : H a = none := by
  cases q : H a with
  | none => rfl
  | some u => exact absurd (Nat.lt_of_lt_of_le (x.lt q) e) (Nat.lt_irrefl _)
/-- every object of the heap is kept -/
theorem HOk.kept (x : HOk P w H h) (k : ∀ b u, h.get? b = some u → h'.get? b = some u) : HOk P w H h' := fun a o e =>
  (x a o e).stay (fun b u _ q => k b u q) (fun _ q => q) fun _ _ q => q
/-- a new object is laid and tracked -/
theorem HOk.laid (x : HOk P w H h) (k : ∀ b u, h.get? b = some u → h'.get? b = some u) (hp : h.objs.size ≤ a) (new : ObjOk P w (upd H a o) h' a o) : HOk P w (upd H a o) h' := fun b u e => by
  have hn := x.fresh hp
  by_cases hb : b = a
  · subst hb; rw [upd_same] at e; cases e; exact new
  · rw [upd_ne hb] at e
    exact (x b u e).stay (fun c v _ q => k c v q) (fun c q => by rw [upd_ne (ne_of_none q hn)]; exact q) fun c xs q => by rw [upd_ne (ne_of_none q hn)]; exact q
end

/-- what may be read as u: it is u, or a known u -/
def Rd (H : Hp) (a : Addr) (u : HO) : Prop := H a = some u ∨ ∃ o, H a = some (.frz o u)
theorem Rd.ok {P : Program} {w : World} {H : Hp} {h : Heap} {a : Addr} {u : HO} (r : Rd H a u) (x : HOk P w H h) : ObjOk P w H h a u := by
  rcases r with r | ⟨o, r⟩
  · exact x a u r
  · obtain ⟨_, q⟩ := x a _ r
    exact q
/-- what may be written -/
def Mut : Option HO → Prop
  | some (.lst _) => True
  | some (.dK _) => True
  | some (.dT _) => True
  | some (.set _ _) => True
  | some (.ins _ _ _) => True
  | some (.ext _) => True
  | _ => False
section
variable {P : Program} {w : World} {H : Hp} {h h' : Heap} {x e : Addr} {o' : HO}
/-- the object at e is changed: x itself, or the dict of the instance x -/
theorem HOk.write (ok : HOk P w H h) (mu : Mut (H x)) (he : e = x ∨ H e = some (.own x)) (k : ∀ b u, b ≠ e → h.get? b = some u → h'.get? b = some u) (heo : ∃ u, h'.get? e = some u)
    (new : ObjOk P w (upd H x o') h' x o') : HOk P w (upd H x o') h' := fun b u q => by
  have nown : ∀ c y, H c = some (.own y) → c ≠ x := fun c y r z => by subst z; rw [r] at mu; exact mu
  have ntup : ∀ c xs, H c = some (.tup xs) → c ≠ x := fun c xs r z => by subst z; rw [r] at mu; exact mu
  by_cases hb : b = x
  · subst hb; rw [upd_same] at q; cases q; exact new
  · rw [upd_ne hb] at q
    by_cases hbe : b = e
    · have q' : H b = some (.own x) := by
        rcases he with z | z
        · exact absurd (hbe.trans z) hb
        · rw [hbe]; exact z
      rw [q] at q'; cases q'
      obtain ⟨v, hv⟩ := heo
      exact ⟨v, by rw [hbe]; exact hv⟩
    · refine (ok b u q).stay (fun c v hc r => k c v ?_ r) (fun c r => by rw [upd_ne (nown c b r)]; exact r) fun c xs r => by rw [upd_ne (ntup c xs r)]; exact r
      rcases hc with rfl | hc
      · exact hbe
      · rintro rfl
        rcases he with z | z
        · exact nown c b hc z
        · rw [hc] at z; cases z; exact hb rfl
end

/-! ### kept unless tracked; of the frames at fs (the callers') the slots may change (an exception that passes writes there); of the records at ex (iterators) nothing is said -/
structure Un (fs ex : List Addr) (H H' : Hp) (h h' : Heap) : Prop where
  keep : ∀ b o, h.get? b = some o → H b = none → b ∉ fs → b ∉ ex → h'.get? b = some o
  slot : ∀ b o, h.get? b = some o → H b = none → b ∈ fs → b ∉ ex → ∃ sl, h'.get? b = some { o with slots := sl }
  free : ∀ b o, h.get? b = some o → H b = none → b ∉ ex → H' b = none
  there : ∀ b o, h.get? b = some o → b ∉ ex → ∃ o', h'.get? b = some o'
  tups : ∀ b xs, H b = some (.tup xs) → H' b = some (.tup xs)
  frzs : ∀ b o u, H b = some (.frz o u) → H' b = some (.frz o u)
  tbls : ∀ b ps, H b = some (.tbl ps) → ∃ more, H' b = some (.tbl (ps ++ more))
section
variable {fs fs' ex ex' : List Addr} {H H1 H2 : Hp} {h h1 h2 h' : Heap} {a x e : Addr} {o : HO}
theorem Un.any (u : Un fs ex H H1 h h1) {b : Addr} {ob : Obj} (q : h.get? b = some ob) (n : H b = none) (hx : b ∉ ex) : ∃ sl, h1.get? b = some { ob with slots := sl } := by
  by_cases hb : b ∈ fs
  · exact u.slot b ob q n hb hx
  · exact ⟨ob.slots, u.keep b ob q n hb hx⟩
theorem Un.kept (k : ∀ b u, h.get? b = some u → h'.get? b = some u) : Un fs ex H H h h' :=
  ⟨fun b ob q _ _ _ => k b ob q, fun b ob q _ _ _ => ⟨ob.slots, k b ob q⟩, fun _ _ _ n _ => n, fun b ob q _ => ⟨ob, k b ob q⟩, fun _ _ q => q, fun _ _ _ q => q, fun _ ps q => ⟨#[], by rw [q]; simp⟩⟩
theorem Un.refl : Un fs ex H H h h := Un.kept fun _ _ q => q
theorem Un.laid (k : ∀ b u, h.get? b = some u → h'.get? b = some u) (hp : h.objs.size ≤ a) (hn : H a = none) : Un fs ex H (upd H a o) h h' where
  keep := fun b u q _ _ _ => k b u q
  slot := fun b u q _ _ _ => ⟨u.slots, k b u q⟩
  free := fun b u q n _ => by rw [upd_ne (Nat.ne_of_lt (Nat.lt_of_lt_of_le (Heap.lt_size q) hp))]; exact n
  there := fun b u q _ => ⟨u, k b u q⟩
  tups := fun b xs q => by rw [upd_ne (ne_of_none q hn)]; exact q
  frzs := fun b u xs q => by rw [upd_ne (ne_of_none q hn)]; exact q
  tbls := fun b ps q => ⟨#[], by rw [upd_ne (ne_of_none q hn), q]; simp⟩
theorem Un.write (mu : Mut (H x)) (he : e = x ∨ H e = some (.own x)) (k : ∀ b u, b ≠ e → h.get? b = some u → h'.get? b = some u) (heo : ∃ u, h'.get? e = some u) : Un fs ex H (upd H x o) h h' := by
  have hx : ∀ b, H b = none → b ≠ x := fun b n z => by subst z; rw [n] at mu; exact mu
  have hb : ∀ b, H b = none → b ≠ e := fun b n z => by
    subst z
    rcases he with r | r
    · exact hx b n r
    · rw [n] at r; cases r
  have hm : ∀ b u, H b = some u → ¬ Mut (some u) → b ≠ x := fun b u q nm z => by subst z; rw [q] at mu; exact nm mu
  refine ⟨fun b u q n _ _ => k b u (hb b n) q, fun b u q n _ _ => ⟨u.slots, k b u (hb b n) q⟩, fun b u q n _ => by rw [upd_ne (hx b n)]; exact n, fun b u q _ => ?_,
    fun b xs q => by rw [upd_ne (hm b _ q fun z => z)]; exact q, fun b u xs q => by rw [upd_ne (hm b _ q fun z => z)]; exact q, fun b ps q => ⟨#[], by rw [upd_ne (hm b _ q fun z => z), q]; simp⟩⟩
  by_cases hbe : b = e
  · subst hbe; exact heo
  · exact ⟨u, k b u hbe q⟩
end

/-! ### the heap without what is tracked -/
def trk (h : Heap) (H : Hp) : List Addr := (List.range h.objs.size).filter fun a => (H a).isSome
def hidT (h : Heap) (H : Hp) : Heap := PySem.W.hideAll h (trk h H)
theorem hidT_size (h : Heap) (H : Hp) : (hidT h H).objs.size = h.objs.size := PySem.W.hideAll_size _ _
theorem hidT_get {h : Heap} {H : Hp} {b : Addr} {o : Obj} (e : h.get? b = some o) (n : H b = none) : (hidT h H).get? b = some o :=
  PySem.W.hideAll_get _ e fun hm => by
    have q : (H b).isSome = true := (List.mem_filter.mp hm).2
    rw [n] at q; simp at q
theorem of_hidT {h : Heap} {H : Hp} {b : Addr} {o : Obj} (e : (hidT h H).get? b = some o) : h.get? b = some o ∧ H b = none := by
  have e' : h.get? b = some o := PySem.W.of_hideAll (trk h H) e
  refine ⟨e', ?_⟩
  cases q : H b with
  | none => rfl
  | some x =>
    have hm : b ∈ trk h H := List.mem_filter.mpr ⟨List.mem_range.mpr (Heap.lt_size e'), by simp [q]⟩
    have z : (hidT h H).get? b = none := PySem.W.hideAll_none (trk h H) hm
    rw [z] at e; cases e

/-! ### OpenK's ledger, filled with every new object but one -/
def allNews (g h : Heap) (L : Addr) : List (Addr × Obj) := (List.range h.objs.size).filterMap fun a => if a = L ∨ (g.get? a).isSome = true then none else (h.get? a).map fun o => (a, o)
def rest (g h : Heap) (L d : Addr) : List (Addr × Obj) := (allNews g h L).filter fun p => decide (p.1 ≠ d)
end L2

namespace L2
open PySem PySem.Spec PyProof.Rows

/-- the module's facts, over the base: the heap at the law's entry without what is tracked there -/
structure Mod (K : PySem.W.Frag) (mg : Str → Option Value) (base : Heap) : Prop where
  kin : K.In base
  glob : base.Ns mainGlobals mg
  blt : ∃ mb, base.Ns builtinsNs mb ∧ ∀ x : Str, x ≠ "__name__" → mb x = bootBuiltins x
  nolimit : base.NoLimit

/-- the context: a def's body (or a comprehension's block) running. base: fixed through the whole law; s₀, H₀: the entry; outer: the frames whose slots others may change (a def's callers); stack: all frames that run;
   ex: iterators that were made ahead of the entry and are walked here (a comprehension's); fn: the names whose cells were made at the entry (a def: all; a comprehension's block: its own); calm: not within an except suite; pn: pins that every state bears; xe: what is wanted of an exception that leaves the code -/
structure Cx where
  prog : Program
  w : World
  K : PySem.W.Frag
  mg : Str → Option Value
  base : Heap
  A : Around
  N : List Str
  s₀ : Shared
  H₀ : Hp
  env : Env
  outer : List Env
  stack : List Env
  ex : List Addr
  fn : Str → Bool
  calm : Bool
  pn : List (Addr × Obj)
  xe : Value → Shared → Prop
/-- the callers' frames -/
def frs (l : List Env) : List Addr := l.filterMap (·.frame)
abbrev Cx.fs (X : Cx) : List Addr := frs X.outer

def Vis (sc : Scope) (x : Str) : Prop := sc.names.lookup x = some .local ∨ sc.names.lookup x = some .cell ∨ sc.names.lookup x = some .free
def Loc (sc : Scope) (x : Str) : Prop := sc.names.lookup x = some .local ∨ sc.names.lookup x = some .cell
def Look (env : Env) (h : Heap) (m : Str → Option Value) (x : Str) (u : Value) : Prop :=
  (env.kindOf x = some .local ∧ m x = some u) ∨ ((env.kindOf x = some .cell ∨ env.kindOf x = some .free) ∧ ∃ c, env.cells.lookup x = some c ∧ h.IsCell c (some u))

structure Cx.Ok (X : Cx) : Prop where
  mod : Mod X.K X.mg X.base
  kind : X.env.scope.kind = .function
  glob : X.env.globals = mainGlobals
  blt : X.env.builtins = builtinsNs
  above : X.s₀.heap.objs.size ≤ X.env.locals
  inj : ∀ x y c, X.env.cells.lookup x = some c → X.env.cells.lookup y = some c → x = y
  has : ∀ x, (X.env.kindOf x = some .cell ∨ X.env.kindOf x = some .free) → ∃ c, X.env.cells.lookup x = some c
  cab : ∀ x c, X.fn x = true → X.env.cells.lookup x = some c → X.s₀.heap.objs.size ≤ c
  hd : X.calm = true → X.A.handled = none
  frames : X.A.frames = some X.stack
  stk : X.stack = X.outer ∨ (X.stack = X.env :: X.outer ∧ X.env.frame = some X.env.locals)
  exf : ∀ b ∈ X.ex, b ≠ X.env.locals ∧ ∀ x c, X.env.cells.lookup x = some c → c ≠ b
  bs : ∀ b o, X.base.get? b = some o → X.s₀.heap.get? b = some o ∧ X.H₀ b = none
  bsz : X.base.objs.size ≤ X.s₀.heap.objs.size
  noex : ∀ b o, X.base.get? b = some o → b ∉ X.ex
  exfs : ∀ b ∈ X.ex, b ∉ X.fs
  funs : X.s₀.heap.FunFrames X.base X.outer
  frf : ∀ b ∈ X.fs, X.H₀ b = none

structure Inv (X : Cx) (pins : List (Addr × Obj)) (σ : List (Option V)) (H : Hp) (s : Shared) : Prop where
  ok : X.Ok
  os : s.os = X.s₀.os
  bare : AllBare s.gens
  base : Un X.fs X.ex X.H₀ H X.s₀.heap s.heap
  loc : ∃ m, s.heap.Ns X.env.locals m ∧ ∀ (i : Nat) (x : Str) (v : V), X.N[i]? = some x → σ[i]? = some (some v) → Vis X.env.scope x → ∃ u, RelV v u ∧ Look X.env s.heap m x u
  cell : ∀ x c, X.env.cells.lookup x = some c → ∃ v, s.heap.IsCell c v
  free : H X.env.locals = none
  freeC : ∀ x c, X.env.cells.lookup x = some c → H c = none
  pin : ∀ p ∈ X.pn ++ pins, s.heap.get? p.1 = some p.2 ∧ H p.1 = none ∧ p.1 ≠ X.env.locals ∧ p.1 ∉ X.fs ∧ ∀ v, p.2.data ≠ .cell v
  hok : HOk X.prog X.w H s.heap
  len : σ.length = X.N.length

section
variable {X : Cx} {pins : List (Addr × Obj)} {σ : List (Option V)} {H H' : Hp} {s : Shared} {h' : Heap}

theorem Cx.Ok.nofr (ok : X.Ok) {b : Addr} {o : Obj} (e : X.base.get? b = some o) : b ∉ X.fs := fun hb => by
  have := (ok.funs.mem hb).1
  rw [e] at this; cases this
theorem Inv.bs (I : Inv X pins σ H s) : ∀ b o, X.base.get? b = some o → s.heap.get? b = some o ∧ H b = none := fun b o e =>
  ⟨I.base.keep b o (I.ok.bs b o e).1 (I.ok.bs b o e).2 (I.ok.nofr e) (I.ok.noex b o e), I.base.free b o (I.ok.bs b o e).1 (I.ok.bs b o e).2 (I.ok.noex b o e)⟩
theorem Inv.bk (I : Inv X pins σ H s) : ∀ b o, X.base.get? b = some o → s.heap.get? b = some o := fun b o e => (I.bs b o e).1
theorem Inv.mod (I : Inv X pins σ H s) : Mod X.K X.mg X.base := I.ok.mod
theorem Inv.kIn (I : Inv X pins σ H s) : X.K.In s.heap := I.ok.mod.kin.keeps I.bk
theorem Inv.lt (I : Inv X pins σ H s) : X.env.locals < s.heap.objs.size := let ⟨_, hn, _⟩ := I.loc; hn.lt
theorem Inv.sz (I : Inv X pins σ H s) : X.s₀.heap.objs.size ≤ s.heap.objs.size := Nat.le_trans I.ok.above (Nat.le_of_lt I.lt)
theorem Inv.nofs (I : Inv X pins σ H s) {a : Addr} (h : s.heap.objs.size ≤ a) : a ∉ X.fs := fun hb => by
  obtain ⟨_, o, ho, _⟩ := I.ok.funs.mem hb
  exact absurd (Nat.lt_of_lt_of_le (Heap.lt_size ho) (Nat.le_trans I.sz h)) (Nat.lt_irrefl _)
theorem Inv.cne (I : Inv X pins σ H s) : ∀ x c, X.env.cells.lookup x = some c → c ≠ X.env.locals := fun x c e z => by
  obtain ⟨v, o, ho, hd⟩ := I.cell x c e
  obtain ⟨m, ⟨o', es, ep, ho', hd', _⟩, _⟩ := I.loc
  rw [z, ho'] at ho; cases ho; rw [hd'] at hd; cases hd
theorem Inv.funs (I : Inv X pins σ H s) : s.heap.FunFrames X.base X.outer := by
  have all : ∀ (l : List Env), (∀ b ∈ frs l, b ∈ X.fs) → X.s₀.heap.FunFrames X.base l → s.heap.FunFrames X.base l := by
    intro l
    induction l with
    | nil => intro _ _; trivial
    | cons env r ih =>
      intro hs hl
      obtain ⟨hk, ⟨L, o, hf, hn, ho, hd⟩, hr⟩ := hl
      have hL : L ∈ X.fs := hs L (by unfold frs; rw [List.filterMap_cons, hf]; exact List.mem_cons_self)
      obtain ⟨sl, e⟩ := I.base.slot L o ho (I.ok.frf L hL) hL fun z => I.ok.exfs L z hL
      exact ⟨hk, ⟨L, _, hf, hn, e, hd⟩, ih (fun b hb => hs b (by unfold frs; rw [List.filterMap_cons, hf]; exact List.mem_cons_of_mem _ hb)) hr⟩
  exact all X.outer (fun _ hb => hb) I.ok.funs

/-- the frames that run, for a call -/
theorem Inv.stack (I : Inv X pins σ H s) : s.heap.FunFrames X.base X.stack := by
  rcases I.ok.stk with e | ⟨e, hf⟩
  · rw [e]; exact I.funs
  · rw [e]
    obtain ⟨m, hn, _⟩ := I.loc
    refine .cons (by rw [I.ok.kind]; decide) hf hn ?_ I.funs
    exact Heap.get?_none_of_le (Nat.le_trans I.ok.bsz I.ok.above)
theorem Inv.stkSub (I : Inv X pins σ H s) : ∀ b ∈ frs X.stack, b ∈ X.env.locals :: X.fs := fun b hb => by
  rcases I.ok.stk with e | ⟨e, hf⟩
  · rw [e] at hb; exact List.mem_cons_of_mem _ hb
  · rw [e] at hb
    unfold frs at hb
    rw [List.filterMap_cons, hf] at hb
    exact hb
theorem Inv.stkFree (I : Inv X pins σ H s) : ∀ b ∈ frs X.stack, H b = none := fun b hb => by
  rcases List.mem_cons.mp (I.stkSub b hb) with e | hb
  · rw [e]; exact I.free
  · obtain ⟨_, o, ho, _⟩ := I.ok.funs.mem hb
    exact I.base.free b o ho (I.ok.frf b hb) fun z => I.ok.exfs b z hb

/-- THE STEP: the untracked objects but the frame and the records at ch are kept (the callers' frames up to slots), the frame's map is kept, the new abstract heap is held -/
theorem Inv.step {g' : Array GenState} {t' : Nat} {d' : Drawn} {ch : List Addr} (I : Inv X pins σ H s)
    (hch : ∀ b ∈ ch, (b ∈ X.ex ∨ X.s₀.heap.objs.size ≤ b) ∧ b ≠ X.env.locals ∧ (∀ x c, X.env.cells.lookup x = some c → c ≠ b) ∧ ∀ p ∈ X.pn ++ pins, p.1 ≠ b)
    (keep : ∀ b o, b ≠ X.env.locals → b ∉ X.fs → b ∉ ch → s.heap.get? b = some o → H b = none → h'.get? b = some o)
    (slot : ∀ b o, b ≠ X.env.locals → b ∈ X.fs → b ∉ ch → s.heap.get? b = some o → H b = none → ∃ sl, h'.get? b = some { o with slots := sl }) (free : ∀ b o, b ∉ ch → s.heap.get? b = some o → H b = none → H' b = none)
    (there : ∀ b o, b ∉ ch → s.heap.get? b = some o → ∃ o', h'.get? b = some o')
    (tups : ∀ b xs, H b = some (.tup xs) → H' b = some (.tup xs)) (frzs : ∀ b o u, H b = some (.frz o u) → H' b = some (.frz o u)) (tbls : ∀ b ps, H b = some (.tbl ps) → ∃ more, H' b = some (.tbl (ps ++ more)))
    (ns : ∀ m, s.heap.Ns X.env.locals m → h'.Ns X.env.locals m) (hok : HOk X.prog X.w H' h') (hg : AllBare g') :
    Inv X pins σ H' { s with heap := h', gens := g', drawn := d', toks := t' } := by
  have neL : ∀ b o, X.s₀.heap.get? b = some o → b ≠ X.env.locals := fun b o e => Nat.ne_of_lt (Nat.lt_of_lt_of_le (Heap.lt_size e) I.ok.above)
  have neC : ∀ b o, X.s₀.heap.get? b = some o → b ∉ X.ex → b ∉ ch := fun b o e hx hb => by
    rcases (hch b hb).1 with z | z
    · exact hx z
    · exact absurd (Nat.lt_of_lt_of_le (Heap.lt_size e) z) (Nat.lt_irrefl _)
  have cellK : ∀ x c, X.env.cells.lookup x = some c → ∀ v, s.heap.IsCell c v → h'.IsCell c v := fun x c e v ⟨o, ho, hd⟩ => by
    have nch : c ∉ ch := fun z => (hch c z).2.2.1 x c e rfl
    by_cases hc : c ∈ X.fs
    · obtain ⟨sl, q⟩ := slot c o (I.cne x c e) hc nch ho (I.freeC x c e)
      exact ⟨_, q, hd⟩
    · exact ⟨o, keep c o (I.cne x c e) hc nch ho (I.freeC x c e), hd⟩
  refine ⟨I.ok, I.os, hg, ⟨fun b o e n hb hx => ?_, fun b o e n hb hx => ?_, fun b o e n hx => ?_, fun b o e hx => ?_, fun b xs e => tups b xs (I.base.tups b xs e), fun b o xs e => frzs b o xs (I.base.frzs b o xs e), fun b ps e => ?_⟩, ?_, fun x c e => ?_, ?_, fun x c e => ?_, fun p hp => ?_, hok, I.len⟩
  · exact keep b o (neL b o e) hb (neC b o e hx) (I.base.keep b o e n hb hx) (I.base.free b o e n hx)
  · obtain ⟨sl, e1⟩ := I.base.slot b o e n hb hx
    obtain ⟨sl', e2⟩ := slot b _ (neL b o e) hb (neC b o e hx) e1 (I.base.free b o e n hx)
    exact ⟨sl', e2⟩
  · obtain ⟨o', e1⟩ := I.base.there b o e hx
    exact free b o' (neC b o e hx) e1 (I.base.free b o e n hx)
  · obtain ⟨o', e1⟩ := I.base.there b o e hx
    exact there b o' (neC b o e hx) e1
  · obtain ⟨m1, e1⟩ := I.base.tbls b ps e
    obtain ⟨m2, e2⟩ := tbls b _ e1
    exact ⟨m1 ++ m2, by rw [e2, Array.append_assoc]⟩
  · obtain ⟨m, hn, hl⟩ := I.loc
    refine ⟨m, ns m hn, fun i x v e1 e2 e3 => ?_⟩
    obtain ⟨u, r, l⟩ := hl i x v e1 e2 e3
    refine ⟨u, r, ?_⟩
    rcases l with l | ⟨k, c, e, z⟩
    · exact .inl l
    · exact .inr ⟨k, c, e, cellK x c e _ z⟩
  · obtain ⟨v, z⟩ := I.cell x c e
    exact ⟨v, cellK x c e v z⟩
  · obtain ⟨m, ⟨o, _, _, ho, _⟩, _⟩ := I.loc
    exact free _ o (fun z => (hch _ z).2.1 rfl) ho I.free
  · obtain ⟨v, o, ho, hd⟩ := I.cell x c e
    exact free c o (fun z => (hch c z).2.2.1 x c e rfl) ho (I.freeC x c e)
  · obtain ⟨e, n, ne, nf, d⟩ := I.pin p hp
    have nch : p.1 ∉ ch := fun z => (hch p.1 z).2.2.2 p hp rfl
    exact ⟨keep p.1 p.2 ne nf nch e n, free p.1 p.2 nch e n, ne, nf, d⟩
/-- .. where the frame's own object is kept too -/
theorem Inv.un {t' : Nat} (I : Inv X pins σ H s) (u : Un X.fs [] H H' s.heap h') (hok : HOk X.prog X.w H' h') : Inv X pins σ H' { s with heap := h', toks := t' } := by
  obtain ⟨m, ⟨o, es, ep, ho, r⟩, _⟩ := id I.loc
  obtain ⟨sl, hL⟩ := u.any ho I.free (by simp)
  exact I.step (g' := s.gens) (d' := s.drawn) (ch := []) (fun _ z => nomatch z) (fun b o _ hb _ e n => u.keep b o e n hb (by simp)) (fun b o _ hb _ e n => u.slot b o e n hb (by simp)) (fun b o _ e n => u.free b o e n (by simp)) (fun b o _ e => u.there b o e (by simp)) u.tups u.frzs u.tbls (fun m' hm => by
    obtain ⟨o', es', ep', ho', r'⟩ := hm
    rw [ho] at ho'; cases ho'
    exact ⟨_, es', ep', hL, r'⟩) hok I.bare
/-- behind a call (or a comprehension's block): the slots of this frame may have changed too, the records at ch may have turned -/
theorem Inv.call {g' : Array GenState} {t' : Nat} {d' : Drawn} {ch : List Addr} (I : Inv X pins σ H s) (u : Un (frs X.stack) ch H H' s.heap h') (hok : HOk X.prog X.w H' h') (hg : AllBare g')
    (hch : ∀ b ∈ ch, (b ∈ X.ex ∨ X.s₀.heap.objs.size ≤ b) ∧ b ≠ X.env.locals ∧ (∀ x c, X.env.cells.lookup x = some c → c ≠ b) ∧ ∀ p ∈ X.pn ++ pins, p.1 ≠ b) :
    Inv X pins σ H' { s with heap := h', gens := g', drawn := d', toks := t' } := by
  obtain ⟨m, ⟨o, es, ep, ho, r⟩, _⟩ := id I.loc
  obtain ⟨sl, hL⟩ := u.any ho I.free fun z => (hch _ z).2.1 rfl
  exact I.step (ch := ch) hch (fun b o hL hb hc e n => u.keep b o e n (fun z => (List.mem_cons.mp (I.stkSub b z)).elim hL hb) hc) (fun b o _ _ hc e n => u.any e n hc) (fun b o hc e n => u.free b o e n hc) (fun b o hc e => u.there b o e hc) u.tups u.frzs u.tbls (fun m' hm => by
    obtain ⟨o', es', ep', ho', r'⟩ := hm
    rw [ho] at ho'; cases ho'
    exact ⟨_, es', ep', hL, r'⟩) hok hg
/-- an untracked record of ours (an iterator) has turned -/
theorem Inv.turned {t' : Nat} {it : Addr} (I : Inv X pins σ H s) (k : ∀ b o, b ≠ it → s.heap.get? b = some o → h'.get? b = some o) (hn : H it = none) (hL : it ≠ X.env.locals)
    (h1 : it ∈ X.ex ∨ X.s₀.heap.objs.size ≤ it) (h2 : ∀ x c, X.env.cells.lookup x = some c → c ≠ it) (h3 : ∀ p ∈ X.pn ++ pins, p.1 ≠ it) : Inv X pins σ H { s with heap := h', toks := t' } := by
  have nit : ∀ b u, H b = some u → b ≠ it := fun b u e z => by rw [z, hn] at e; cases e
  refine I.step (g' := s.gens) (d' := s.drawn) (ch := [it]) (fun b hb => ?_) (fun b o _ _ hc e _ => k b o (fun z => hc (by simp [z])) e) (fun b o _ _ hc e _ => ⟨o.slots, k b o (fun z => hc (by simp [z])) e⟩) (fun _ _ _ _ n => n)
    (fun b o hc e => ⟨o, k b o (fun z => hc (by simp [z])) e⟩) (fun _ _ e => e) (fun _ _ _ e => e) (fun b ps e => ⟨#[], by rw [e]; simp⟩) (fun m hm => ?_) (fun b u e => ?_) I.bare
  · have e : b = it := by simpa using hb
    subst e
    exact ⟨h1, hL, h2, h3⟩
  · obtain ⟨o, es, ep, ho, r⟩ := hm
    exact ⟨o, es, ep, k _ o (Ne.symm hL) ho, r⟩
  · refine (I.hok b u e).stay (fun c v hc q => k c v ?_ q) (fun _ q => q) fun _ _ q => q
    rcases hc with z | z
    · rw [z]; exact nit b u e
    · exact nit c _ z
theorem Inv.tok (I : Inv X pins σ H s) (t : Nat) : Inv X pins σ H { s with toks := t } := I.un (h' := s.heap) (t' := t) Un.refl I.hok
/-- all objects kept -/
theorem Inv.kept {t' : Nat} (I : Inv X pins σ H s) (k : ∀ b u, s.heap.get? b = some u → h'.get? b = some u) : Inv X pins σ H { s with heap := h', toks := t' } := I.un (Un.kept k) (I.hok.kept k)
/-- a new object laid and tracked -/
theorem Inv.laid {a : Addr} {o : HO} {t' : Nat} (I : Inv X pins σ H s) (k : ∀ b u, s.heap.get? b = some u → h'.get? b = some u) (hp : s.heap.objs.size ≤ a) (new : ObjOk X.prog X.w (upd H a o) h' a o) :
    Inv X pins σ (upd H a o) { s with heap := h', toks := t' } := I.un (Un.laid k hp (I.hok.fresh hp)) (I.hok.laid k hp new)
/-- an object written -/
theorem Inv.write {x e : Addr} {o : HO} {t' : Nat} (I : Inv X pins σ H s) (mu : Mut (H x)) (he : e = x ∨ H e = some (.own x)) (k : ∀ b u, b ≠ e → s.heap.get? b = some u → h'.get? b = some u) (heo : ∃ u, h'.get? e = some u)
    (new : ObjOk X.prog X.w (upd H x o) h' x o) : Inv X pins σ (upd H x o) { s with heap := h', toks := t' } := I.un (Un.write mu he k heo) (I.hok.write mu he k heo new)
theorem Inv.pins_of {pins' : List (Addr × Obj)} (I : Inv X pins σ H s) (h : ∀ p ∈ pins', s.heap.get? p.1 = some p.2 ∧ H p.1 = none ∧ p.1 ≠ X.env.locals ∧ p.1 ∉ X.fs ∧ ∀ v, p.2.data ≠ .cell v) : Inv X pins' σ H s :=
  ⟨I.ok, I.os, I.bare, I.base, I.loc, I.cell, I.free, I.freeC, fun p hp => (List.mem_append.mp hp).elim (fun z => I.pin p (List.mem_append_left _ z)) (h p), I.hok, I.len⟩

theorem nodup_ix {N : List Str} (hN : N.Nodup) {i j : Nat} {x : Str} (a : N[i]? = some x) (b : N[j]? = some x) : i = j := by
  obtain ⟨h1, e1⟩ := List.getElem?_eq_some_iff.mp a
  obtain ⟨h2, e2⟩ := List.getElem?_eq_some_iff.mp b
  exact (List.getElem_inj hN).mp (e1.trans e2.symm)

/-- a name is stored; what changed -/
theorem store_ok2 {M : Model} {A : Around} {E : Value → Shared → Prop} {i : Nat} {x : Str} {v : V} {u : Value} {Q : Unit → Shared → Prop} (I : Inv X pins σ H s) (hN : X.N.Nodup) (hi : X.N[i]? = some x) (hx : Loc X.env.scope x) (r : RelV v u)
    (h : ∀ s', Inv X pins (σ.set i (some v)) H s' → (∃ a, Heap.SameBut a s.heap s'.heap ∧ (a = X.env.locals ∨ X.env.cells.lookup x = some a)) → Q () s') (hf : X.fn x = true ∨ X.env.scope.names.lookup x = some .local := by first | exact .inl rfl | exact .inr rfl | assumption) : wpAny M A (storeName X.env x u) Q E s := by
  obtain ⟨m, hn, hl⟩ := id I.loc
  have hcls : (X.env.scope.kind == .class || (X.env.scope.kind == .module && X.env.locals != X.env.globals)) = false := by rw [I.ok.kind]; rfl
  have hiσ : i < σ.length := by rw [I.len]; exact (List.getElem?_eq_some_iff.mp hi).1
  have cne := I.cne
  have tracked : ∀ {a : Addr} {h' : Heap}, (∃ o, s.heap.get? a = some o ∧ H a = none) → Heap.SameBut a s.heap h' → HOk X.prog X.w H h' := fun {a h'} ha hs b ob e => by
    obtain ⟨_, _, hfree⟩ := ha
    refine (I.hok b ob e).stay (fun c w' hc q => (hs.2 c ?_).trans q) (fun _ q => q) fun _ _ q => q
    rintro rfl
    rcases hc with rfl | hc
    · rw [hfree] at e; cases e
    · rw [hfree] at hc; cases hc
  rcases hx with hk | hk
  · refine wpAny_storeName_local hk hn (fun h' hn' hs => ?_) hcls
    obtain ⟨oL, _, _, hoL, _⟩ := id hn
    refine h _ ⟨I.ok, I.os, I.bare, ⟨fun b o e n hb hx => ?_, fun b o e n hb hx => ?_, I.base.free, fun b o e hx => ?_, I.base.tups, I.base.frzs, I.base.tbls⟩, ⟨_, hn', fun j y v' e1 e2 e3 => ?_⟩, fun y c e => ?_, I.free, I.freeC, fun p hp => ?_, tracked ⟨oL, hoL, I.free⟩ hs, by simpa using I.len⟩ ⟨_, hs, .inl rfl⟩
    · exact (hs.2 b (Nat.ne_of_lt (Nat.lt_of_lt_of_le (Heap.lt_size e) I.ok.above))).trans (I.base.keep b o e n hb hx)
    · obtain ⟨sl, e1⟩ := I.base.slot b o e n hb hx
      exact ⟨sl, (hs.2 b (Nat.ne_of_lt (Nat.lt_of_lt_of_le (Heap.lt_size e) I.ok.above))).trans e1⟩
    · obtain ⟨o', e1⟩ := I.base.there b o e hx
      exact ⟨o', (hs.2 b (Nat.ne_of_lt (Nat.lt_of_lt_of_le (Heap.lt_size e) I.ok.above))).trans e1⟩
    · by_cases hj : j = i
      · subst hj
        rw [hi] at e1; cases e1
        rw [List.getElem?_set_self hiσ] at e2
        cases e2
        exact ⟨u, r, .inl ⟨hk, by simp⟩⟩
      · rw [List.getElem?_set_ne (Ne.symm hj)] at e2
        obtain ⟨u', r', q⟩ := hl j y v' e1 e2 e3
        refine ⟨u', r', ?_⟩
        rcases q with ⟨k, e⟩ | ⟨k, c, e, z⟩
        · refine .inl ⟨k, ?_⟩
          have : y ≠ x := fun e => hj (nodup_ix hN e1 (e ▸ hi))
          simp [this, e]
        · exact .inr ⟨k, c, e, z.sameBut hs (cne y c e)⟩
    · obtain ⟨w', z⟩ := I.cell y c e
      exact ⟨w', z.sameBut hs (cne y c e)⟩
    · obtain ⟨e, n, ne, nf, d⟩ := I.pin p hp
      exact ⟨(hs.2 p.1 ne).trans e, n, ne, nf, d⟩
  · have hfn : X.fn x = true := by
      rcases hf with z | z
      · exact z
      · rw [z] at hk; cases hk
    obtain ⟨c, hc⟩ := I.ok.has x (.inl hk)
    obtain ⟨w', z⟩ := I.cell x c hc
    refine wpAny_storeName_cell I.ok.kind hk hc z (fun h' hc' hs => ?_)
    obtain ⟨oc, hoc, hocd⟩ := id z
    refine h { s with heap := h' } ⟨I.ok, I.os, I.bare, ⟨fun b o e n hb hx => ?_, fun b o e n hb hx => ?_, I.base.free, fun b o e hx => ?_, I.base.tups, I.base.frzs, I.base.tbls⟩, ⟨m, hn.sameBut hs (Ne.symm (cne x c hc)), fun j y v' e1 e2 e3 => ?_⟩, fun y c' e => ?_, I.free, I.freeC, fun p hp => ?_, tracked ⟨oc, hoc, I.freeC x c hc⟩ hs, by simpa using I.len⟩ ⟨c, hs, .inr hc⟩
    · exact (hs.2 b (Nat.ne_of_lt (Nat.lt_of_lt_of_le (Heap.lt_size e) (I.ok.cab x c hfn hc)))).trans (I.base.keep b o e n hb hx)
    · obtain ⟨sl, e1⟩ := I.base.slot b o e n hb hx
      exact ⟨sl, (hs.2 b (Nat.ne_of_lt (Nat.lt_of_lt_of_le (Heap.lt_size e) (I.ok.cab x c hfn hc)))).trans e1⟩
    · obtain ⟨o', e1⟩ := I.base.there b o e hx
      exact ⟨o', (hs.2 b (Nat.ne_of_lt (Nat.lt_of_lt_of_le (Heap.lt_size e) (I.ok.cab x c hfn hc)))).trans e1⟩
    · by_cases hj : j = i
      · subst hj
        rw [hi] at e1; cases e1
        rw [List.getElem?_set_self hiσ] at e2
        cases e2
        exact ⟨u, r, .inr ⟨.inl hk, c, hc, hc'⟩⟩
      · rw [List.getElem?_set_ne (Ne.symm hj)] at e2
        obtain ⟨u', r', q⟩ := hl j y v' e1 e2 e3
        refine ⟨u', r', ?_⟩
        rcases q with q | ⟨k, c', e, z'⟩
        · exact .inl q
        · refine .inr ⟨k, c', e, z'.sameBut hs ?_⟩
          rintro rfl
          exact hj (nodup_ix hN e1 (I.ok.inj _ _ _ e hc ▸ hi))
    · by_cases hcc : c' = c
      · subst hcc; exact ⟨_, hc'⟩
      · obtain ⟨w2, z2⟩ := I.cell y c' e
        exact ⟨w2, z2.sameBut hs hcc⟩
    · obtain ⟨e, n, ne, nf, d⟩ := I.pin p hp
      refine ⟨(hs.2 p.1 ?_).trans e, n, ne, nf, d⟩
      intro q
      rw [q, hoc] at e
      have q' : oc = p.2 := Option.some.inj e
      exact d w' (by rw [← q']; exact hocd)
theorem store_ok {M : Model} {A : Around} {E : Value → Shared → Prop} {i : Nat} {x : Str} {v : V} {u : Value} {Q : Unit → Shared → Prop} (I : Inv X pins σ H s) (hN : X.N.Nodup) (hi : X.N[i]? = some x) (hx : Loc X.env.scope x) (r : RelV v u)
    (h : ∀ s', Inv X pins (σ.set i (some v)) H s' → Q () s') (hf : X.fn x = true ∨ X.env.scope.names.lookup x = some .local := by first | exact .inl rfl | exact .inr rfl | assumption) : wpAny M A (storeName X.env x u) Q E s :=
  store_ok2 I hN hi hx r (fun s' I' _ => h s' I') hf
/-- behind a call or a block, the state as it is -/
theorem Inv.call' {s' : Shared} {ch : List Addr} (I : Inv X pins σ H s) (ho : s'.os = s.os) (u : Un (frs X.stack) ch H H' s.heap s'.heap) (hok : HOk X.prog X.w H' s'.heap) (hg : AllBare s'.gens)
    (hch : ∀ b ∈ ch, (b ∈ X.ex ∨ X.s₀.heap.objs.size ≤ b) ∧ b ≠ X.env.locals ∧ (∀ x c, X.env.cells.lookup x = some c → c ≠ b) ∧ ∀ p ∈ X.pn ++ pins, p.1 ≠ b) : Inv X pins σ H' s' := by
  obtain ⟨h', g', d', t', o'⟩ := s'
  have e : o' = s.os := ho
  subst e
  exact I.call (g' := g') (t' := t') (d' := d') u hok hg hch
end

/-! ### the judgements -/
/-- an exception: its class, its own dict's address (where it has one), the abstract heap behind it -/
abbrev XK := Value → Option Addr → Hp → Prop
abbrev St := List (Option V)
abbrev VK := V → Hp → Prop
/-- an expression's reading; a test's; an argument list's -/
abbrev TE := St → Hp → VK → Prop
abbrev TT := St → Hp → (Bool → Hp → Prop) → Prop
abbrev TA := St → Hp → (List V → Hp → Prop) → Prop
/-- what is wanted behind a statement -/
structure Ends where
  nx : St → Hp → Prop
  rt : VK
  bk : St → Hp → Prop := fun _ _ => False
  ct : St → Hp → Prop := fun _ _ => False
abbrev TS := Ends → St → Hp → Prop

def EP (X : Cx) (pins : List (Addr × Obj)) (σ : St) (Q : VK) (u : Value) (s' : Shared) : Prop := ∃ v H', Inv X pins σ H' s' ∧ RelV v u ∧ Q v H'
def TP (X : Cx) (pins : List (Addr × Obj)) (σ : St) (Q : Bool → Hp → Prop) (b : Bool) (s' : Shared) : Prop := ∃ H', Inv X pins σ H' s' ∧ Q b H'
def AP (X : Cx) (pins : List (Addr × Obj)) (σ : St) (Q : List V → Hp → Prop) (us : List Value) (s' : Shared) : Prop := ∃ vs H', Inv X pins σ H' s' ∧ Vals vs us ∧ Q vs H'
def SP (X : Cx) (pins : List (Addr × Obj)) (D : Ends) (f : Flow) (s' : Shared) : Prop :=
  match f with
  | .next => ∃ σ' H', Inv X pins σ' H' s' ∧ D.nx σ' H'
  | .brk => ∃ σ' H', Inv X pins σ' H' s' ∧ D.bk σ' H'
  | .cont => ∃ σ' H', Inv X pins σ' H' s' ∧ D.ct σ' H'
  | .ret u => ∃ v σ' H', Inv X pins σ' H' s' ∧ RelV v u ∧ D.rt v H'

def PE (X : Cx) (e : Expr) (t : TE) : Prop :=
  ∀ (pins : List (Addr × Obj)) (s : Shared) (σ : St) (H : Hp) (Q : VK), Inv X pins σ H s → t σ H Q → wpAny (model X.prog X.w) X.A (eval e X.env) (EP X pins σ Q) X.xe s
def PT (X : Cx) (e : Expr) (t : TT) : Prop :=
  ∀ (pins : List (Addr × Obj)) (s : Shared) (σ : St) (H : Hp) (Q : Bool → Hp → Prop), Inv X pins σ H s → t σ H Q → wpAny (model X.prog X.w) X.A (isTrue e X.env (eval e X.env)) (TP X pins σ Q) X.xe s
/-- a test whatever its 'whole' is (and, or) -/
def PW (X : Cx) (e : Expr) (t : TT) : Prop :=
  ∀ (whole : Sem Value) (pins : List (Addr × Obj)) (s : Shared) (σ : St) (H : Hp) (Q : Bool → Hp → Prop), Inv X pins σ H s → t σ H Q → wpAny (model X.prog X.w) X.A (isTrue e X.env whole) (TP X pins σ Q) X.xe s
theorem PW.pt {X : Cx} {e : Expr} {t : TT} (h : PW X e t) : PT X e t := h _
/-- an argument list (no star), from the left -/
def PA (X : Cx) (es : List Expr) (t : TA) : Prop :=
  ∀ (pos : Pos) (pins : List (Addr × Obj)) (s : Shared) (σ : St) (H : Hp) (Q : List V → Hp → Prop), Inv X pins σ H s → t σ H Q → wpAny (model X.prog X.w) X.A (spliced (backTo pos (starEach es X.env))) (AP X pins σ Q) X.xe s
def PS (X : Cx) (st : Stmt) (t : TS) : Prop :=
  ∀ (pins : List (Addr × Obj)) (s : Shared) (σ : St) (H : Hp) (D : Ends), Inv X pins σ H s → t D σ H → wpAny (model X.prog X.w) X.A (exec st X.env) (SP X pins D) X.xe s
def PSs (X : Cx) (st : List Stmt) (t : TS) : Prop :=
  ∀ (pins : List (Addr × Obj)) (s : Shared) (σ : St) (H : Hp) (D : Ends), Inv X pins σ H s → t D σ H → wpAny (model X.prog X.w) X.A (execs st X.env) (SP X pins D) X.xe s
/-- weaken the end -/
theorem thn {α : Type} {t : Sem α} {Q Q' : α → Shared → Prop} {M : Model} {A : Around} {E : Value → Shared → Prop} {s : Shared} (h : wpAny M A t Q E s) (hQ : ∀ a s, Q a s → Q' a s) : wpAny M A t Q' E s := wpAny_mono h hQ fun _ _ x => x
end L2

namespace L2
open PySem PySem.Spec PyProof.Rows
section
variable {X : Cx}

/-- two expressions in a row -/
theorem bin {a b : Expr} {ta tb : TE} (ha : PE X a ta) (hb : PE X b tb) {pins : List (Addr × Obj)} {s : Shared} {σ : St} {H : Hp} {R : V → V → Hp → Prop} (I : Inv X pins σ H s) (h : ta σ H fun x H1 => tb σ H1 fun y H2 => R x y H2)
    {α : Type} {Q : α → Shared → Prop} {f : Value → Value → Sem α}
    (hf : ∀ v u s2 x y H2, Inv X pins σ H2 s2 → RelV x v → RelV y u → R x y H2 → wpAny (model X.prog X.w) X.A (f v u) Q X.xe s2) :
    wpAny (model X.prog X.w) X.A (eval a X.env) (fun v s₁ => wpAny (model X.prog X.w) X.A (eval b X.env) (fun u s₂ => wpAny (model X.prog X.w) X.A (f v u) Q X.xe s₂) X.xe s₁) X.xe s := by
  refine thn (ha pins s σ H _ I h) fun v s1 ⟨x, H1, I1, r1, q1⟩ => ?_
  refine thn (hb pins s1 σ H1 _ I1 q1) fun u s2 ⟨y, H2, I2, r2, q2⟩ => ?_
  exact hf v u s2 x y H2 I2 r1 r2 q2

/-! ### names and constants -/
def tVar (i : Nat) : TE := fun σ H Q => ∃ v, σ[i]? = some (some v) ∧ Q v H
def tC (v : V) : TE := fun _ H Q => Q v H
theorem pe_var {i : Nat} {x : Str} {pos : Pos} (hN : X.N[i]? = some x) (hv : Vis X.env.scope x) (hd : (x == ("__debug__" : Str)) = false := by decide) (hcd : (x == ("__classdict__" : Str)) = false := by decide) : PE X (.Name x pos) (tVar i) := by
  intro pins s σ H Q I h
  obtain ⟨v, e, h⟩ := h
  obtain ⟨m, hn, hl⟩ := I.loc
  obtain ⟨u, r, l⟩ := hl i x v hN e hv
  have fin : EP X pins σ Q u s := ⟨v, H, I, r, h⟩
  rcases l with ⟨hk, hm⟩ | ⟨hk, c, hc, hcell⟩
  · exact wpAny_Name (wpAny_loadName_local I.ok.kind hk hn hm fin) hd
  · rcases hk with hk | hk
    · exact wpAny_Name (wpAny_loadName_cell I.ok.kind hk hc hcell fin) hd
    · exact wpAny_Name (wpAny_loadName_free I.ok.kind hk hc hcell fin hcd) hd
theorem pe_int {i j pos} : PE X (.Constant (.int i) j pos) (tC (.int i)) := fun _ _ _ H _ I h => wpAny_Constant_int ⟨.int i, H, I.tok _, ⟨_, rfl⟩, h⟩
theorem pe_bl {b j pos} : PE X (.Constant (.bool b) j pos) (tC (.bl b)) := fun _ _ _ H _ I h => Constant_bool ⟨.bl b, H, I, rfl, h⟩
theorem pe_non {j pos} : PE X (.Constant .none j pos) (tC .non) := fun _ _ _ H _ I h => Constant_none ⟨.non, H, I, rfl, h⟩
theorem pe_str {x j pos} : PE X (.Constant (.str x) j pos) (tC (.str x)) := fun _ _ _ H _ I h => Calls.Constant_str ⟨.str x, H, I.tok _, ⟨_, rfl⟩, h⟩

/-- a global name of the def -/
def Gl (X : Cx) (x : Str) : Prop := X.env.kindOf x = some .globalImplicit
theorem ld_glob {E : Value → Shared → Prop} {pins : List (Addr × Obj)} {s : Shared} {σ : St} {H : Hp} {x : Str} {u : Value} {pos : Pos} {Q : Value → Shared → Prop} (I : Inv X pins σ H s) (hg : Gl X x) (hm : X.mg x = some u) (h : Q u s)
    (hd : (x == ("__debug__" : Str)) = false := by decide) : wpAny (model X.prog X.w) X.A (eval (.Name x pos) X.env) Q E s :=
  Calls.Name_function_global I.ok.kind hg (Calls.loadGlobal_global (by rw [I.ok.glob]; exact I.mod.glob.keeps I.bk) hm h) hd
theorem ld_blt {E : Value → Shared → Prop} {pins : List (Addr × Obj)} {s : Shared} {σ : St} {H : Hp} {x : Str} {u : Value} {pos : Pos} {Q : Value → Shared → Prop} (I : Inv X pins σ H s) (hg : Gl X x) (hm : X.mg x = none) (hv : bootBuiltins x = some u) (h : Q u s)
    (hn : x ≠ "__name__" := by decide) (hd : (x == ("__debug__" : Str)) = false := by decide) : wpAny (model X.prog X.w) X.A (eval (.Name x pos) X.env) Q E s := by
  obtain ⟨mb, h1, h2⟩ := I.mod.blt
  exact Calls.Name_function_global I.ok.kind hg (Calls.loadGlobal_builtin (by rw [I.ok.glob]; exact I.mod.glob.keeps I.bk) hm (by rw [I.ok.blt]; exact h1.keeps I.bk) ((h2 x hn).trans hv) h) hd
/-- a module's constant, a class, a function, as a value -/
theorem pe_glob {x : Str} {v : V} {u : Value} {pos : Pos} (hg : Gl X x) (hm : X.mg x = some u) (r : RelV v u) (hd : (x == ("__debug__" : Str)) = false := by decide) : PE X (.Name x pos) (tC v) :=
  fun _ _ _ H _ I h => ld_glob I hg hm ⟨v, H, I, r, h⟩ hd
theorem pe_bltn {x : Str} {v : V} {u : Value} {pos : Pos} (hg : Gl X x) (hm : X.mg x = none) (hv : bootBuiltins x = some u) (r : RelV v u) (hn : x ≠ "__name__" := by decide) (hd : (x == ("__debug__" : Str)) = false := by decide) : PE X (.Name x pos) (tC v) :=
  fun _ _ _ H _ I h => ld_blt I hg hm hv ⟨v, H, I, r, h⟩ hn hd

/-! ### arithmetic -/
/-- two ints -/
def t2I (ta tb : TE) (k : Int → Int → Hp → Prop) : St → Hp → Prop := fun σ H => ta σ H fun x H1 => tb σ H1 fun y H2 => ∃ i j, x = .int i ∧ y = .int j ∧ k i j H2
def tAdd (ta tb : TE) : TE := fun σ H Q => t2I ta tb (fun i j H2 => Q (.int (i + j)) H2) σ H
def tSub (ta tb : TE) : TE := fun σ H Q => t2I ta tb (fun i j H2 => Q (.int (i - j)) H2) σ H
/-- the left factor below 2^64 -/
def tMul (ta tb : TE) : TE := fun σ H Q => t2I ta tb (fun i j H2 => (-(2 ^ 64) < i ∧ i < 2 ^ 64) ∧ Q (.int (i * j)) H2) σ H
variable {a b : Expr} {ta tb : TE} {pos : Pos}
/-! ### comparisons -/
def PC (X : Cx) (op : CmpOp) (a b : Expr) (t : TE) : Prop :=
  ∀ (pins : List (Addr × Obj)) (s : Shared) (σ : St) (H : Hp) (Q : VK), Inv X pins σ H s → t σ H Q →
    wpAny (model X.prog X.w) X.A (eval a X.env) (fun v s₁ => wpAny (model X.prog X.w) X.A (eval b X.env) (fun u s₂ => wpAny (model X.prog X.w) X.A (compareOp op v u) (EP X pins σ Q) X.xe s₂) X.xe s₁) X.xe s
def tCmp (p : Int → Int → Bool) (ta tb : TE) : TE := fun σ H Q => t2I ta tb (fun i j H2 => Q (.bl (p i j)) H2) σ H
abbrev tLt : TE → TE → TE := tCmp fun i j => decide (i < j)
abbrev tLe : TE → TE → TE := tCmp fun i j => decide (i ≤ j)
abbrev tGt : TE → TE → TE := tCmp fun i j => decide (j < i)
abbrev tGe : TE → TE → TE := tCmp fun i j => decide (j ≤ i)
abbrev tEqI : TE → TE → TE := tCmp fun i j => decide (i = j)
abbrev tNeI : TE → TE → TE := tCmp fun i j => !decide (i = j)
/-- is None -/
def tIsN (ta : TE) : TE := fun σ H Q => ta σ H fun x H1 => Q (.bl (decide (x = .non))) H1
def tNotN (ta : TE) : TE := fun σ H Q => ta σ H fun x H1 => Q (.bl (!decide (x = .non))) H1
/-- a comparison as a value, as a test -/
def tB (t : TE) : TT := fun σ H Q => t σ H fun x H1 => ∃ c, x = .bl c ∧ Q c H1
theorem pt_cmp {op : CmpOp} {t : TE} (h : PC X op a b t) (h1 : behindInMarks op b = false := by first | exact nobehind _ (by decide) (by decide) | rfl) : PT X (.Compare a [op] [b] pos) (tB t) := by
  intro pins s σ H Q I hw
  refine wpAny_isTrue_Compare1 (thn (h pins s σ H _ I hw) fun v s1 h1 => thn h1 fun u s2 h2 => thn h2 fun c s3 ⟨x, H1, I1, r1, q1⟩ => ?_) h1
  obtain ⟨d, rfl, q⟩ := q1
  cases r1
  exact wpAny_truthy_bool ⟨H1, I1, q⟩
/-- an expression whose value is a bool, as a test -/
theorem pt_val {e : Expr} {t : TE} (h : PE X e t) (he : ∀ whole, isTrue e X.env whole = (do let v ← whole; standAt e.pos; holding [v] (truthy v)) := by intro _; rfl) : PT X e (tB t) := by
  intro pins s σ H Q I hw
  refine isTrue_plain (thn (h pins s σ H _ I hw) fun v s1 ⟨x, H1, I1, r1, q1⟩ => ?_) (he _)
  obtain ⟨d, rfl, q⟩ := q1
  cases r1
  exact wpAny_truthy_bool ⟨H1, I1, q⟩

/-! ### and, or, not -/
variable {tA tB' : TT} {rest : List Expr}
def tAnd (t u : TT) : TT := fun σ H Q => t σ H fun c H1 => if c = true then u σ H1 Q else Q false H1
def tOr (t u : TT) : TT := fun σ H Q => t σ H fun c H1 => if c = true then Q true H1 else u σ H1 Q
def tNot (t : TT) : TT := fun σ H Q => t σ H fun c H1 => Q (!c) H1
theorem pw_and1 (ha : PT X a tA) : PW X (.BoolOp .And [a] pos) tA := by
  intro wh pins s σ H Q I h
  refine isTrue_and (thn (ha pins s σ H Q I h) fun c s1 e => ?_)
  cases c with
  | true => exact isTrue_and_nil e
  | false => exact e
theorem pw_or1 (ha : PT X a tA) : PW X (.BoolOp .Or [a] pos) tA := by
  intro wh pins s σ H Q I h
  refine isTrue_or (thn (ha pins s σ H Q I h) fun c s1 e => ?_)
  cases c with
  | false => exact isTrue_or_nil e
  | true => exact e
theorem pw_and (ha : PT X a tA) (hb : PW X (.BoolOp .And (b :: rest) pos) tB') : PW X (.BoolOp .And (a :: b :: rest) pos) (tAnd tA tB') := by
  intro wh pins s σ H Q I h
  refine isTrue_and (thn (ha pins s σ H _ I h) fun c s1 ⟨H1, I1, q1⟩ => ?_)
  cases c with
  | true => exact hb wh pins s1 σ H1 Q I1 q1
  | false => exact ⟨H1, I1, q1⟩
theorem pw_or (ha : PT X a tA) (hb : PW X (.BoolOp .Or (b :: rest) pos) tB') : PW X (.BoolOp .Or (a :: b :: rest) pos) (tOr tA tB') := by
  intro wh pins s σ H Q I h
  refine isTrue_or (thn (ha pins s σ H _ I h) fun c s1 ⟨H1, I1, q1⟩ => ?_)
  cases c with
  | true => exact ⟨H1, I1, q1⟩
  | false => exact hb wh pins s1 σ H1 Q I1 q1
theorem pt_not (ha : PT X a tA) : PT X (.UnaryOp .Not a pos) (tNot tA) := by
  intro pins s σ H Q I h
  exact isTrue_not (ha pins s σ H (fun c H1 => Q (!c) H1) I h)
/-- .. as values (bools) -/
def tAndV (ta tb : TE) : TE := fun σ H Q => ta σ H fun x H1 => ∃ c, x = .bl c ∧ if c = true then tb σ H1 Q else Q (.bl false) H1
def tOrV (ta tb : TE) : TE := fun σ H Q => ta σ H fun x H1 => ∃ c, x = .bl c ∧ if c = true then Q (.bl true) H1 else tb σ H1 Q
def tNotV (ta : TE) : TE := fun σ H Q => ta σ H fun x H1 => ∃ c, x = .bl c ∧ Q (.bl (!c)) H1
theorem pe_one {op} {t : TE} (h : PE X a t) : PE X (.BoolOp op [a] pos) t := fun pins s σ H Q I hw => BoolOp_one (h pins s σ H Q I hw)
theorem pe_and (ha : PE X a ta) (hb : PE X (.BoolOp .And (b :: rest) pos) tb) : PE X (.BoolOp .And (a :: b :: rest) pos) (tAndV ta tb) := by
  intro pins s σ H Q I h
  refine BoolOp_and (thn (ha pins s σ H _ I h) fun v s1 ⟨x, H1, I1, r1, q1⟩ => ?_)
  obtain ⟨c, rfl, q1⟩ := q1
  cases r1
  refine wpAny_truthy_bool ?_
  cases c with
  | true => exact hb pins s1 σ H1 Q I1 q1
  | false => exact ⟨.bl false, H1, I1, rfl, q1⟩
theorem pe_not (ha : PE X a ta) : PE X (.UnaryOp .Not a pos) (tNotV ta) := by
  intro pins s σ H Q I h
  refine UnaryOp_ (thn (ha pins s σ H _ I h) fun v s1 ⟨x, H1, I1, r1, q1⟩ => ?_)
  obtain ⟨c, rfl, q1⟩ := q1
  cases r1
  exact not_of (wpAny_truthy_bool ⟨.bl (!c), H1, I1, rfl, q1⟩)
/-- a if t else b -/
def tIf (t : TT) (ta tb : TE) : TE := fun σ H Q => t σ H fun c H1 => if c = true then ta σ H1 Q else tb σ H1 Q
end
end L2

namespace L2
open PySem PySem.Spec PyProof.Rows

/-! ### a list, a tuple that is read: tracked, frozen, or an object of the module -/
def SqL (K : PySem.W.Frag) (H : Hp) (a : Addr) (xs : List V) : Prop :=
  Rd H a (.lst xs) ∨
    ∃ (o : Obj) (its : Array Value) (n : Nat), K.lookup a = some o ∧ o.cls = .type "list" ∧ o.dict = none ∧ o.data = .seq its n ∧ its.size ≤ sizeLine ∧ Vals xs its.toList
def SqT (K : PySem.W.Frag) (H : Hp) (a : Addr) (xs : List V) : Prop :=
  Rd H a (.tup xs) ∨
    ∃ (o : Obj) (its : Array Value) (n : Nat), K.lookup a = some o ∧ o.cls = .type "tuple" ∧ o.data = .seq its n ∧ its.size ≤ sizeLine ∧ Vals xs its.toList
def absV : Value → Option V
  | .none => some .non
  | .bool b => some (.bl b)
  | .int i _ => some (.int i)
  | .str x _ => some (.str x)
  | .bytes b _ => some (.byt b)
  | .float b _ => some (.flt b)
  | .ref a => some (.ref a)
  | .type n => some (.ty n)
  | _ => none
theorem RelV.abs {x : V} {u : Value} (r : RelV x u) : absV u = some x := by
  cases x with
  | non => cases r; rfl
  | bl _ => cases r; rfl
  | int _ => obtain ⟨t, rfl⟩ := r; rfl
  | str _ => obtain ⟨t, rfl⟩ := r; rfl
  | byt _ => obtain ⟨t, rfl⟩ := r; rfl
  | flt _ => obtain ⟨t, rfl⟩ := r; rfl
  | ref _ => cases r; rfl
  | ty _ => cases r; rfl
theorem RelV.inj {x y : V} {u : Value} (r : RelV x u) (q : RelV y u) : x = y := Option.some.inj (r.abs.symm.trans q.abs)
theorem Vals.inj : ∀ {xs ys : List V} {us : List Value}, Vals xs us → Vals ys us → xs = ys
  | _, _, _, .nil, .nil => rfl
  | _, _, _, .cons r t, .cons r' t' => by rw [r.inj r', Vals.inj t t']
section
variable {X : Cx} {pins : List (Addr × Obj)} {σ : St} {H : Hp} {s : Shared} {a : Addr} {xs ys : List V}
theorem SqL.of {K : PySem.W.Frag} (h : H a = some (.lst xs)) : SqL K H a xs := .inl (.inl h)
theorem SqT.of {K : PySem.W.Frag} (h : H a = some (.tup xs)) : SqT K H a xs := .inl (.inl h)
theorem Inv.list (I : Inv X pins σ H s) (h : SqL X.K H a xs) : ∃ its : List Value, Vals xs its ∧ PlainL s.heap a its.toArray ∧ xs.length ≤ sizeLine := by
  rcases h with h | ⟨o, its, n, hk, hc, hd, hs, hz, r⟩
  · obtain ⟨z, its, n, r, e⟩ := h.ok I.hok
    exact ⟨its, r, ⟨_, n, e, rfl, rfl, rfl⟩, z⟩
  · refine ⟨its.toList, r, ⟨o, n, I.kIn a o hk, hc, hd, by simpa using hs⟩, ?_⟩
    have e := r.length
    simp only [Array.length_toList] at e
    omega
theorem Inv.tuple (I : Inv X pins σ H s) (h : SqT X.K H a xs) : ∃ its : List Value, Vals xs its ∧ IsTup s.heap a its.toArray ∧ xs.length ≤ sizeLine := by
  rcases h with h | ⟨o, its, n, hk, hc, hs, hz, r⟩
  · obtain ⟨z, its, r, p⟩ := h.ok I.hok
    exact ⟨its, r, p, z⟩
  · refine ⟨its.toList, r, ⟨o, I.kIn a o hk, hc, n, by simpa using hs⟩, ?_⟩
    have e := r.length
    simp only [Array.length_toList] at e
    omega
theorem Inv.list_inj (I : Inv X pins σ H s) (h : SqL X.K H a xs) (h' : SqL X.K H a ys) : xs = ys := by
  obtain ⟨its, r, ⟨o, n, e, _, _, d⟩, _⟩ := I.list h
  obtain ⟨its', r', ⟨o', n', e', _, _, d'⟩, _⟩ := I.list h'
  rw [e] at e'; cases e'
  rw [d] at d'
  injection d' with d1 _
  have : its = its' := by simpa using congrArg Array.toList d1
  subst this
  exact r.inj r'
end

/-! ### another wish about exceptions -/
abbrev Cx.wish (X : Cx) (E : Value → Shared → Prop) : Cx := { X with xe := E }
/-- no exception leaves -/
abbrev Cx.nox (X : Cx) : Cx := X.wish fun _ _ => False
theorem Cx.Ok.wish {X : Cx} (ok : X.Ok) (E : Value → Shared → Prop) : (X.wish E).Ok :=
  ⟨ok.mod, ok.kind, ok.glob, ok.blt, ok.above, ok.inj, ok.has, ok.cab, ok.hd, ok.frames, ok.stk, ok.exf, ok.bs, ok.bsz, ok.noex, ok.exfs, ok.funs, ok.frf⟩
theorem Cx.Ok.unwish {X : Cx} {E : Value → Shared → Prop} (ok : (X.wish E).Ok) : X.Ok :=
  ⟨ok.mod, ok.kind, ok.glob, ok.blt, ok.above, ok.inj, ok.has, ok.cab, ok.hd, ok.frames, ok.stk, ok.exf, ok.bs, ok.bsz, ok.noex, ok.exfs, ok.funs, ok.frf⟩
section
variable {X : Cx} {pins : List (Addr × Obj)} {σ : St} {H : Hp} {s : Shared} {E : Value → Shared → Prop}
theorem Inv.wish (I : Inv X pins σ H s) (E : Value → Shared → Prop) : Inv (X.wish E) pins σ H s := ⟨I.ok.wish E, I.os, I.bare, I.base, I.loc, I.cell, I.free, I.freeC, I.pin, I.hok, I.len⟩
theorem Inv.unwish (I : Inv (X.wish E) pins σ H s) : Inv X pins σ H s := ⟨I.ok.unwish, I.os, I.bare, I.base, I.loc, I.cell, I.free, I.freeC, I.pin, I.hok, I.len⟩
theorem SP.unwish {D : Ends} {f : Flow} {s' : Shared} (h : SP (X.wish E) pins D f s') : SP X pins D f s' := by
  cases f with
  | next => obtain ⟨σ', H', I, q⟩ := h; exact ⟨σ', H', I.unwish, q⟩
  | brk => obtain ⟨σ', H', I, q⟩ := h; exact ⟨σ', H', I.unwish, q⟩
  | cont => obtain ⟨σ', H', I, q⟩ := h; exact ⟨σ', H', I.unwish, q⟩
  | ret u => obtain ⟨v, σ', H', I, r, q⟩ := h; exact ⟨v, σ', H', I.unwish, r, q⟩
theorem PSs.nox {st : List Stmt} {t : TS} (h : PSs X.nox st t) : PSs X st t := fun pins s σ H D I hw =>
  wpAny_mono (h pins s σ H D (I.wish _) hw) (fun _ _ q => q.unwish) fun _ _ z => False.elim z
end

/-! ### blocks and small statements -/
section
variable {X : Cx} {st : Stmt} {rest : List Stmt} {t u : TS} {e : Expr} {te : TE} {pos : Pos}
def tNext : TS := fun D σ H => D.nx σ H
def tSeq (t u : TS) : TS := fun D σ H => t { D with nx := u D } σ H
theorem pss_nil : PSs X [] tNext := fun _ _ σ H _ I h => wpAny_execs_nil ⟨σ, H, I, h⟩
theorem pss_cons (h1 : PS X st t) (h2 : PSs X rest u) : PSs X (st :: rest) (tSeq t u) := by
  intro pins s σ H D I h
  refine wpAny_execs_cons (thn (h1 pins s σ H { D with nx := u D } I h) fun f s1 q => ?_)
  cases f with
  | next =>
    obtain ⟨σ', H', I', q⟩ := q
    exact h2 pins s1 σ' H' D I' q
  | ret v => exact q
  | brk => exact q
  | cont => exact q
theorem pss_one (h1 : PS X st t) : PSs X [st] t := by
  intro pins s σ H D I h
  refine wpAny_execs_cons (thn (h1 pins s σ H D I h) fun f s1 q => ?_)
  cases f with
  | next => exact wpAny_execs_nil q
  | ret v => exact q
  | brk => exact q
  | cont => exact q
def tBreak : TS := fun D σ H => D.bk σ H
def tCont : TS := fun D σ H => D.ct σ H
/-- in a def's body nothing is shown -/
theorem Inv.quiet {pins : List (Addr × Obj)} {σ : St} {H : Hp} {s : Shared} (I : Inv X pins σ H s) : interactive X.env = false := by simp [interactive, I.ok.kind]
/-- an expression whose value is dropped -/
def tDrop (te : TE) : TS := fun D σ H => te σ H fun _ H1 => D.nx σ H1
theorem ps_expr (he : PE X e te) (hs : swapsWith e none pos.line X.env = pure false := by rfl) : PS X (.Expr e pos) (tDrop te) := by
  intro pins s σ H D I h
  exact wpAny_Expr_any (thn (he pins s σ H _ I h) fun v s1 ⟨x, H1, I1, r1, q1⟩ => ⟨σ, H1, I1, q1⟩) I.quiet hs
def tRet (te : TE) : TS := fun D σ H => te σ H D.rt
theorem ps_ret (he : PE X e te) : PS X (.Return (some e) pos) (tRet te) := by
  intro pins s σ H D I h
  exact wpAny_Return_some (thn (he pins s σ H _ I h) fun v s1 ⟨x, H1, I1, r1, q1⟩ => ⟨x, σ, H1, I1, r1, q1⟩)
def tRetN : TS := fun D _ H => D.rt .non H
def tIfS (c : TT) (t u : TS) : TS := fun D σ H => c σ H fun b H1 => if b = true then t D σ H1 else u D σ H1
theorem ps_if {c : Expr} {a b : List Stmt} {tc : TT} (hc : PT X c tc) (ha : PSs X a t) (hb : PSs X b u) : PS X (.If c a b pos) (tIfS tc t u) := by
  intro pins s σ H D I h
  refine wpAny_If (thn (hc pins s σ H _ I h) fun d s1 ⟨H1, I1, q1⟩ => ?_)
  cases d with
  | true => exact ha pins s1 σ H1 D I1 q1
  | false => exact hb pins s1 σ H1 D I1 q1
/-- code that the proof never comes to -/
def tNever : TS := fun _ _ _ => False
end

/-! ### targets -/
abbrev TG := V → St → Hp → (St → Hp → Prop) → Prop
abbrev TGs := List V → St → Hp → (St → Hp → Prop) → Prop
def PG (X : Cx) (target : Expr) (t : TG) : Prop :=
  ∀ (pins : List (Addr × Obj)) (s : Shared) (σ : St) (H : Hp) (v : V) (u : Value) (Q : St → Hp → Prop), Inv X pins σ H s → RelV v u → t v σ H Q →
    wpAny (model X.prog X.w) X.A (assign target X.env u) (fun _ s' => ∃ σ' H', Inv X pins σ' H' s' ∧ Q σ' H') X.xe s
/-- several targets, one after another -/
def PGs (X : Cx) (ts : List Expr) (t : TGs) : Prop :=
  ∀ (pins : List (Addr × Obj)) (s : Shared) (σ : St) (H : Hp) (vs : List V) (us : List Value) (Q : St → Hp → Prop), Inv X pins σ H s → Vals vs us → t vs σ H Q →
    wpAny (model X.prog X.w) X.A (assignInOrder ((assignEach ts X.env).map (·.2)) us) (fun _ s' => ∃ σ' H', Inv X pins σ' H' s' ∧ Q σ' H') X.xe s
/-- o[i] = v, by values -/
abbrev TSet := V → V → V → Hp → (Hp → Prop) → Prop
def PSet (X : Cx) (t : TSet) : Prop :=
  ∀ (pins : List (Addr × Obj)) (s : Shared) (σ : St) (H : Hp) (o i v : V) (ov iv u : Value) (Q : Hp → Prop), Inv X pins σ H s → RelV o ov → RelV i iv → RelV v u → t o i v H Q →
    wpAny (model X.prog X.w) X.A (setItem ov iv u) (fun _ s' => ∃ H', Inv X pins σ H' s' ∧ Q H') X.xe s
/-- a op= b, by values -/
abbrev TIp := V → V → Hp → VK → Prop
def PIp (X : Cx) (op : Operator) (t : TIp) : Prop :=
  ∀ (pins : List (Addr × Obj)) (s : Shared) (σ : St) (H : Hp) (x y : V) (v u : Value) (Q : VK), Inv X pins σ H s → RelV x v → RelV y u → t x y H Q →
    wpAny (model X.prog X.w) X.A (inplaceOp op v u) (EP X pins σ Q) X.xe s
section
variable {X : Cx} {pos : Pos}
def gName (i : Nat) : TG := fun v σ H Q => Q (σ.set i (some v)) H
theorem pg_name {i : Nat} {x : Str} (hN : X.N.Nodup) (hi : X.N[i]? = some x) (hx : Loc X.env.scope x) (hf : X.fn x = true ∨ X.env.scope.names.lookup x = some .local := by first | exact .inl rfl | exact .inr rfl | assumption) : PG X (.Name x pos) (gName i) := by
  intro pins s σ H v u Q I r h
  exact wpAny_assign_Name (store_ok I hN hi hx r (fun s' I' => ⟨_, H, I', h⟩) hf)
def gNil : TGs := fun vs σ H Q => vs = [] ∧ Q σ H
def gCons (t : TG) (u : TGs) : TGs := fun vs σ H Q => ∃ v r, vs = v :: r ∧ t v σ H fun σ' H' => u r σ' H' Q
/-- (a, b, ..) = a tuple of that length -/
def gTup (K : PySem.W.Frag) (n : Nat) (t : TGs) : TG := fun v σ H Q => ∃ a xs, v = .ref a ∧ SqT K H a xs ∧ xs.length = n ∧ t xs σ H Q
/-- o[i] = .. -/
def gSub (to ti : TE) (t : TSet) : TG := fun v σ H Q => to σ H fun o H1 => ti σ H1 fun i H2 => t o i v H2 fun H3 => Q σ H3
theorem pg_sub {o i : Expr} {to ti : TE} {t : TSet} (ho : PE X o to) (hi : PE X i ti) (hs : PSet X t)
    (ha : ∀ v, assign (.Subscript o i pos) X.env v = (do
      let ov ← holding [v] (eval o X.env)
      let iv ← holding [v, ov] (eval i X.env)
      standAt pos
      holding [v, ov, iv] (setItem ov iv v)
      release [v, ov, iv] []) := by intro _; rfl) : PG X (.Subscript o i pos) (gSub to ti t) := by
  intro pins s σ H v u Q I r h
  rw [ha]
  refine wpAny_bind (wpAny_holding (thn (ho pins s σ H _ I h) fun ov s1 ⟨x, H1, I1, r1, q1⟩ => ?_))
  refine wpAny_bind (wpAny_holding (thn (hi pins s1 σ H1 _ I1 q1) fun iv s2 ⟨y, H2, I2, r2, q2⟩ => ?_))
  refine wpAny_bind (wpAny_standAt (wpAny_bind (wpAny_holding (thn (hs pins s2 σ H2 x y v ov iv u _ I2 r1 r2 r q2) fun _ s3 ⟨H3, I3, q3⟩ => ?_))))
  exact wpAny_release ⟨σ, H3, I3, q3⟩
/-- target = value -/
def tAsg (te : TE) (g : TG) : TS := fun D σ H => te σ H fun x H1 => g x σ H1 D.nx
theorem ps_asg {tg e : Expr} {te : TE} {g : TG} (he : PE X e te) (hg : PG X tg g) (hs : swapsWithSole [tg] e pos.line X.env = pure false := by rfl) (hw : swappedStores [tg] e X.env = pure none := by rfl)
    (h1 : (assignEach [tg] X.env).map (·.2) = [assign tg X.env] := by rfl) : PS X (.Assign [tg] e pos) (tAsg te g) := by
  intro pins s σ H D I h
  refine wpAny_Assign_stores (thn (he pins s σ H _ I h) fun v s1 ⟨x, H1, I1, r1, q1⟩ => ?_) hs hw
  rw [h1]
  exact thn (hg pins s1 σ H1 x v _ I1 r1 q1) fun _ s2 q => q
/-- name = value -/
theorem ps_set {i : Nat} {x : Str} {e : Expr} {te : TE} {pos' : Pos} (hN : X.N.Nodup) (hi : X.N[i]? = some x) (hx : Loc X.env.scope x) (he : PE X e te) (hs : swapsWith e (some (.Name x pos')) pos.line X.env = pure false := by rfl) (hf : X.fn x = true ∨ X.env.scope.names.lookup x = some .local := by first | exact .inl rfl | exact .inr rfl | assumption) :
    PS X (.Assign [.Name x pos'] e pos) (tAsg te (gName i)) := by
  intro pins s σ H D I h
  refine wpAny_Assign_Name (thn (he pins s σ H _ I h) fun v s1 ⟨y, H1, I1, r1, q1⟩ => ?_) hs
  exact store_ok I1 hN hi hx r1 (fun s2 I2 => ⟨_, H1, I2, q1⟩) hf
/-- a, b = x, y with plain local names: stored from the right; the pair itself is not tracked (the opening rows as in PyProof/Rows/TupAssign.lean:23) -/
def tPar (i j : Nat) (ta : TA) : TS := fun D σ H => ta σ H fun vs H1 => ∃ v w, vs = [v, w] ∧ D.nx ((σ.set i (some v)).set j (some w)) H1
/-- name op= e -/
def tAug (i : Nat) (te : TE) (ti : TIp) : TS := fun D σ H => ∃ x, σ[i]? = some (some x) ∧ te σ H fun y H1 => ti x y H1 fun z H2 => D.nx (σ.set i (some z)) H2
/-- o[i] op= e -/
def tAugS (to ti te : TE) (tget : V → V → Hp → VK → Prop) (tip : TIp) (tset : TSet) : TS := fun D σ H => to σ H fun o H1 => ti σ H1 fun i H2 => tget o i H2 fun x H3 => te σ H3 fun y H4 => tip x y H4 fun z H5 => tset o i z H5 fun H6 => D.nx σ H6
/-- o[i], by values -/
def PGet (X : Cx) (t : V → V → Hp → VK → Prop) : Prop :=
  ∀ (pins : List (Addr × Obj)) (s : Shared) (σ : St) (H : Hp) (o i : V) (ov iv : Value) (Q : VK), Inv X pins σ H s → RelV o ov → RelV i iv → t o i H Q →
    wpAny (model X.prog X.w) X.A (getItem ov iv) (EP X pins σ Q) X.xe s
/-- ints -/
def ipI (f : Int → Int → Int) : TIp := fun x y H Q => ∃ i j, x = .int i ∧ y = .int j ∧ Q (.int (f i j)) H
end

/-! ### while -/
section
variable {X : Cx} {pos : Pos}
/-- the invariant W with its measure -/
def tWhile (c : TT) (tb : TS) : TS := fun D σ H => ∃ W : Nat → St → Hp → Prop, (∃ m, W m σ H) ∧ ∀ m σ H, W m σ H →
  c σ H fun b H1 => if b = true then ∃ N : St → Hp → Prop, (∀ σ' H', N σ' H' → ∃ m', m' < m ∧ W m' σ' H') ∧ tb { D with nx := N, ct := N, bk := D.nx } σ H1 else D.nx σ H1
theorem ps_while {c : Expr} {body : List Stmt} {tc : TT} {tb : TS} (hp : PassesOwn (model X.prog X.w) X.A X.env X.xe) (hc : PT X c tc) (hb : PSs X body tb) : PS X (.While c body [] pos) (tWhile tc tb) := by
  intro pins s σ H D I h
  obtain ⟨W, ⟨m0, w0⟩, turn⟩ := h
  refine wpAny_While (codeAny_whileLoop (fun n s' => ∃ σ' H', Inv X pins σ' H' s' ∧ W n σ' H') ?_ m0 ⟨σ, H, I, w0⟩)
  rintro n s1 ⟨σ1, H1, I1, w1⟩
  refine wpAny_passesOwn hp (thn (hc pins s1 σ1 H1 _ I1 (turn n σ1 H1 w1)) fun b s2 ⟨H2, I2, q2⟩ => ?_)
  cases b with
  | true =>
    obtain ⟨N, hN, q2⟩ := q2
    rw [if_pos rfl]
    refine wpAny_passesOwn hp (thn (hb pins s2 σ1 H2 _ I2 q2) fun f s3 q3 => ?_)
    cases f with
    | next =>
      obtain ⟨σ3, H3, I3, n3⟩ := q3
      obtain ⟨m', hm, w3⟩ := hN σ3 H3 n3
      exact ⟨m', hm, σ3, H3, I3, w3⟩
    | cont =>
      obtain ⟨σ3, H3, I3, n3⟩ := q3
      obtain ⟨m', hm, w3⟩ := hN σ3 H3 n3
      exact ⟨m', hm, σ3, H3, I3, w3⟩
    | brk => exact q3
    | ret v => exact q3
  | false =>
    rw [if_neg Bool.false_ne_true]
    exact wpAny_execs_nil ⟨σ1, H2, I2, q2⟩
end

/-! ### what a loop or a comprehension walks -/
/-- at turn i: it yields x (the heap may grow), or it stops -/
structure It where
  go : Nat → Hp → Prop
  yld : Nat → Hp → V → Hp → Prop
  stop : Nat → Hp → Prop
/-- the iterator's own objects may turn: they are not the frame's, not pinned, younger than the entry (or a comprehension's own) -/
def FpOk (X : Cx) (pins : List (Addr × Obj)) (H : Hp) (b : Addr) : Prop :=
  H b = none ∧ b ≠ X.env.locals ∧ b ∉ X.fs ∧ (b ∈ X.ex ∨ X.s₀.heap.objs.size ≤ b) ∧ (∀ x c, X.env.cells.lookup x = some c → c ≠ b) ∧ ∀ p ∈ X.pn ++ pins, p.1 ≠ b
theorem Inv.fpOk {X : Cx} {pins : List (Addr × Obj)} {σ : St} {H H' : Hp} {s : Shared} {b : Addr} (I : Inv X pins σ H s) (hb : s.heap.objs.size ≤ b) (hn : H' b = none) : FpOk X pins H' b := by
  refine ⟨hn, Nat.ne_of_gt (Nat.lt_of_lt_of_le I.lt hb), I.nofs hb, .inr (Nat.le_trans I.sz hb), fun x c e z => ?_, fun p hp z => ?_⟩
  · obtain ⟨v, q⟩ := I.cell x c e
    exact absurd (Nat.lt_of_lt_of_le q.lt (by rw [z]; exact hb)) (Nat.lt_irrefl _)
  · exact absurd (Nat.lt_of_lt_of_le (Heap.lt_size (I.pin p hp).1) (by rw [z]; exact hb)) (Nat.lt_irrefl _)
structure Turn (P : Program) (w : World) (K : PySem.W.Frag) (tg : Expr) (J : It) (fp : List Addr) (it : Addr) (tn : Nat → Heap → Prop) : Prop where
  mem : it ∈ fp
  obj : ∀ i h, tn i h → ∀ b ∈ fp, ∃ o, h.get? b = some o ∧ ∀ v, o.data ≠ .cell v
  keep : ∀ i h h', tn i h → (∀ b ∈ fp, ∀ o, h.get? b = some o → h'.get? b = some o) → tn i h'
  item : ∀ (X : Cx), X.prog = P → X.w = w → X.K = K → X.calm = true → ∀ (i : Nat) (pins : List (Addr × Obj)) (s : Shared) (σ : St) (H : Hp) (E : Value → Shared → Prop), Inv X pins σ H s → (∀ b ∈ fp, FpOk X pins H b) → tn i s.heap → J.go i H →
    wpAny (model P w) X.A (pyNext (.ref it)) (fun r s1 => ∃ u, r = some u ∧
      wpAny (model P w) X.A (letOwnedTupleGo tg (.ref it) u) (fun _ s2 => ∃ x H', Inv X pins σ H' s2 ∧ RelV x u ∧ J.yld i H x H' ∧ tn (i + 1) s2.heap ∧ ∀ b ∈ fp, H' b = none) E s1) E s
  done : ∀ (X : Cx), X.prog = P → X.w = w → X.K = K → X.calm = true → ∀ (i : Nat) (pins : List (Addr × Obj)) (s : Shared) (σ : St) (H : Hp) (E : Value → Shared → Prop), Inv X pins σ H s → (∀ b ∈ fp, FpOk X pins H b) → tn i s.heap → J.stop i H →
    wpAny (model P w) X.A (pyNext (.ref it)) (fun r s1 => r = none ∧ Inv X pins σ H s1) E s
  self : ∀ (A : Around) (i : Nat) (s : Shared) (Q : Value → Shared → Prop) (E : Value → Shared → Prop), tn i s.heap → Q (.ref it) s → wpAny (model P w) A (pyIter (.ref it)) Q E s
abbrev TI := St → Hp → (It → Hp → Prop) → Prop
/-- an iterator has come -/
def PIE (X : Cx) (pins : List (Addr × Obj)) (σ : St) (tg : Expr) (R : It → Hp → Prop) (itv : Value) (s2 : Shared) : Prop :=
  ∃ (it : Addr) (fp : List Addr) (tn : Nat → Heap → Prop) (J : It) (H' : Hp), itv = .ref it ∧ Inv X pins σ H' s2 ∧ Turn X.prog X.w X.K tg J fp it tn ∧ tn 0 s2.heap ∧ (∀ b ∈ fp, FpOk X pins H' b) ∧ R J H'
def PI (X : Cx) (tg iter : Expr) (wi : TI) : Prop :=
  ∀ (pins : List (Addr × Obj)) (s : Shared) (σ : St) (H : Hp) (R : It → Hp → Prop), Inv X pins σ H s → wi σ H R →
    wpAny (model X.prog X.w) X.A (eval iter X.env) (fun v s1 => wpAny (model X.prog X.w) X.A (pyIter v) (PIE X pins σ tg R) X.xe s1) X.xe s

/-- the step ahead of the store is nothing for an iterator that keeps no tuple -/
theorem go_of {M : Model} {A : Around} {E : Value → Shared → Prop} {s : Shared} {tg : Expr} {it : Addr} {u : Value} {o : Obj} {n : String} {vs : Array Value} {Q : Unit → Shared → Prop} (ho : s.heap.get? it = some o) (hc : o.cls = .type n) (hd : o.data = .fields vs)
    (hn : ["enumerate", "zip", "dict_itemiterator", "dict_reverseitemiterator", "odict_iterator", "itertools.zip_longest", "itertools.pairwise"].contains n = false) (hQ : Q () s) : wpAny M A (letOwnedTupleGo tg (.ref it) u) Q E s := by
  unfold letOwnedTupleGo
  cases tg <;> first
    | exact wpAny_pure hQ
    | (cases u <;> first
        | exact wpAny_pure hQ
        | (refine wpAny_bind (wpAny_load ho ?_)
           rw [hc, hd]
           show wpAny M A (if (["enumerate", "zip", "dict_itemiterator", "dict_reverseitemiterator", "odict_iterator", "itertools.zip_longest", "itertools.pairwise"].contains n && vs[0]? == some (rawInt _)) = true then _ else _) Q E s
           rw [if_neg (by intro h; rw [hn, Bool.false_and] at h; cases h)]
           exact wpAny_pure hQ))

/-- the list at a, as it stands at each turn (a loop may append to it) -/
def Itl (K : PySem.W.Frag) (a : Addr) : It :=
  ⟨fun i H => ∃ xs x, SqL K H a xs ∧ xs[i]? = some x, fun i H x H' => H' = H ∧ ∀ xs, SqL K H a xs → xs[i]? = some x, fun i H => ∃ xs, SqL K H a xs ∧ xs.length ≤ i⟩
def Itt (K : PySem.W.Frag) (a : Addr) : It :=
  ⟨fun i H => ∃ xs x, SqT K H a xs ∧ xs[i]? = some x, fun i H x H' => H' = H ∧ ∀ xs, SqT K H a xs → xs[i]? = some x, fun i H => ∃ xs, SqT K H a xs ∧ xs.length ≤ i⟩
/-- lo, lo + 1, .. (n of them) -/
def Itr (lo : Int) (n : Nat) : It := ⟨fun i _ => i < n, fun i H x H' => H' = H ∧ x = .int (lo + i), fun i _ => n ≤ i⟩
theorem turn_list {P : Program} {w : World} {K : PySem.W.Frag} {tg : Expr} (a it : Addr) : Turn P w K tg (Itl K a) [it] it (fun i h => h.IsListIter it a i) where
  mem := by simp
  obj := fun i h st b hb => by
    have e : b = it := by simpa using hb
    subst e
    obtain ⟨o, e, c, d⟩ := st
    exact ⟨o, e, fun v z => by rw [d] at z; cases z⟩
  keep := fun i h h' st k => st.at fun o e => k it (by simp) o e
  item := by
    intro X hP hw hK hc i pins s σ H E I hf st hg
    subst hP hw hK
    obtain ⟨xs, x, hq, hx⟩ := hg
    obtain ⟨its, rv, p, hz⟩ := I.list hq
    obtain ⟨u, hu, ru⟩ := rv.get hx
    obtain ⟨f0, f1, f2, f3, f4, f5⟩ := hf it (by simp)
    refine wpAny_pyNext_list_item st p.isList (x := u) (by simpa using hu) fun h' st' sb => ?_
    have I1 : Inv X pins σ H { s with heap := h' } := I.turned (t' := s.toks) (fun b o hb e => (sb.2 b hb).trans e) f0 f1 f3 f4 f5
    obtain ⟨o, e, c, d⟩ := id st'
    exact ⟨u, rfl, go_of (s := { s with heap := h' }) e c d (by decide) ⟨x, H, I1, ru, ⟨rfl, fun ys hy => by rw [I.list_inj hy hq]; exact hx⟩, st', fun b hb => (hf b hb).1⟩⟩
  done := by
    intro X hP hw hK hc i pins s σ H E I hf st hg
    subst hP hw hK
    obtain ⟨xs, hq, hx⟩ := hg
    obtain ⟨its, rv, p, hz⟩ := I.list hq
    obtain ⟨f0, f1, f2, f3, f4, f5⟩ := hf it (by simp)
    have hl := rv.length
    exact wpAny_pyNext_list_end (I.ok.hd hc) st p.isList (by simp; omega) fun h' eb => ⟨rfl, I.turned (t' := s.toks) (fun b o hb e => eb b o hb e) f0 f1 f3 f4 f5⟩
  self := fun _ _ _ _ _ st h => wpAny_pyIter_listiter st h
theorem turn_range {P : Program} {w : World} {K : PySem.W.Frag} {tg : Expr} (it : Addr) (lo : Int) (n : Nat) : Turn P w K tg (Itr lo n) [it] it (fun i h => IsRangeIter h it (lo + (i : Nat) * 1) ((n : Int) - (i : Nat)) 1) where
  mem := by simp
  obj := fun i h st b hb => by
    have e : b = it := by simpa using hb
    subst e
    exact ⟨_, st, fun v z => by
      have z' : Data.fields _ = Data.cell v := z
      cases z'⟩
  keep := fun i h h' st k => k it (by simp) _ st
  item := by
    intro X hP hw hK hc i pins s σ H E I hf st hg
    subst hP hw hK
    obtain ⟨f0, f1, f2, f3, f4, f5⟩ := hf it (by simp)
    have W := Walks.range (prog := X.prog) (w := X.w) (I.ok.hd hc) it lo 1 n
    refine W.item i s _ _ hg st fun v h' tk hv st' kk => ?_
    obtain ⟨t, rfl⟩ := hv
    have I1 : Inv X pins σ H { s with heap := h', toks := tk } := I.turned (fun b o hb e => kk b o (by simpa using hb) e) f0 f1 f3 f4 f5
    refine ⟨_, rfl, go_of (s := { s with heap := h', toks := tk }) (n := "range_iterator") st' rfl rfl (by decide) ⟨.int (lo + i), H, I1, ⟨t, ?_⟩, ⟨rfl, rfl⟩, st', fun b hb => (hf b hb).1⟩⟩
    rw [Int.mul_one]
  done := by
    intro X hP hw hK hc i pins s σ H E I hf st hg
    subst hP hw hK
    obtain ⟨f0, f1, f2, f3, f4, f5⟩ := hf it (by simp)
    exact wpAny_pyNext_range_end (I.ok.hd hc) st (by have : n ≤ i := hg; omega) fun h' eb => ⟨rfl, I.turned (t' := s.toks) (fun b o hb e => eb b o hb e) f0 f1 f3 f4 f5⟩
  self := fun _ _ _ _ _ st h => wpAny_pyIter_rangeiter st h
end L2

namespace L2
open PySem PySem.Spec PyProof.Rows
section
variable {X : Cx} {tg : Expr}
def iList (K : PySem.W.Frag) (tl : TE) : TI := fun σ H R => tl σ H fun x H1 => ∃ a, x = .ref a ∧ (∃ xs, SqL K H1 a xs) ∧ R (Itl K a) H1
def iTup (K : PySem.W.Frag) (tl : TE) : TI := fun σ H R => tl σ H fun x H1 => ∃ a, x = .ref a ∧ (∃ xs, SqT K H1 a xs) ∧ R (Itt K a) H1
theorem pi_list {l : Expr} {tl : TE} (hl : PE X l tl) : PI X tg l (iList X.K tl) := by
  intro pins s σ H R I h
  refine thn (hl pins s σ H _ I h) fun v s1 ⟨x, H1, I1, r1, q1⟩ => ?_
  obtain ⟨a, e, ⟨xs, hq⟩, q⟩ := q1
  subst e
  cases r1
  obtain ⟨its, rv, p, hz⟩ := I1.list hq
  refine wpAny_pyIter_list p.isList ?_
  refine ⟨s1.heap.objs.size, [s1.heap.objs.size], _, _, H1, rfl, I1.kept (t' := s1.toks) fun b o e => Heap.get?_push_of_some _ e, turn_list a _, ⟨_, Heap.get?_push_size _ rfl, rfl, rfl⟩, fun b hb => ?_, q⟩
  have e : b = s1.heap.objs.size := by simpa using hb
  subst e
  exact I1.fpOk (Nat.le_refl _) (I1.hok.fresh (Nat.le_refl _))
/-- a range object just made, walked -/
theorem range_it {pins : List (Addr × Obj)} {σ : St} {H : Hp} {s : Shared} {R : It → Hp → Prop} {E : Value → Shared → Prop} {lo hi : Int} {t u v : Tok} {tk : Nat} (I : Inv X pins σ H s) (h1 : -(2 ^ 62) ≤ lo) (h2 : lo < 2 ^ 62) (h3 : -(2 ^ 62) ≤ hi) (h4 : hi < 2 ^ 62)
    (q : R (Itr lo (hi - lo).toNat) H) : wpAny (model X.prog X.w) X.A (pyIter (.ref s.heap.objs.size)) (PIE X pins σ tg R) E { s with heap := s.heap.push { cls := .type "range", data := .fields #[.int lo t, .int hi u, .int 1 v] }, toks := tk } := by
  refine wpAny_pyIter_range (IsRange.new ..) (small_one h1 h2 h3 h4) ?_
  have I1 : Inv X pins σ H { s with heap := s.heap.push { cls := .type "range", data := .fields #[.int lo t, .int hi u, .int 1 v] }, toks := tk } := I.kept fun b o e => Heap.get?_push_of_some _ e
  refine ⟨(s.heap.push { cls := .type "range", data := .fields #[.int lo t, .int hi u, .int 1 v] }).objs.size, [(s.heap.push { cls := .type "range", data := .fields #[.int lo t, .int hi u, .int 1 v] }).objs.size], _, _, H, rfl,
    I1.kept (t' := tk) fun b o e => Heap.get?_push_of_some _ e, turn_range _ lo (hi - lo).toNat, ?_, fun b hb => ?_, q⟩
  · have e1 : lo + ((0 : Nat) : Int) * 1 = lo := by simp
    have e2 : (((hi - lo).toNat : Nat) : Int) - ((0 : Nat) : Int) = Builtin.Range.rangeSize lo hi 1 := by rw [rangeSize_one]; split <;> omega
    show IsRangeIter _ _ (lo + ((0 : Nat) : Int) * 1) ((((hi - lo).toNat : Nat) : Int) - ((0 : Nat) : Int)) 1
    rw [e1, e2]
    exact Heap.get?_push_size _ rfl
  · have e : b = (s.heap.push { cls := .type "range", data := .fields #[.int lo t, .int hi u, .int 1 v] }).objs.size := by simpa using hb
    subst e
    exact I1.fpOk (Nat.le_refl _) (I1.hok.fresh (Nat.le_refl _))
def iRng1 (ta : TA) : TI := fun σ H R => ta σ H fun vs H1 => ∃ j : Int, vs = [.int j] ∧ -(2 ^ 62) ≤ j ∧ j < 2 ^ 62 ∧ R (Itr 0 j.toNat) H1
def iRng2 (ta : TA) : TI := fun σ H R => ta σ H fun vs H1 => ∃ i j : Int, vs = [.int i, .int j] ∧ (-(2 ^ 62) ≤ i ∧ i < 2 ^ 62 ∧ -(2 ^ 62) ≤ j ∧ j < 2 ^ 62) ∧ R (Itr i (j - i).toNat) H1
theorem pi_range1 {a : Expr} {ta : TA} {p pos : Pos} (hg : Gl X "range") (hm : X.mg "range" = none) (ha : PA X [a] ta) (hs : starEach [a] X.env = [(false, eval a X.env)] := by rfl) : PI X tg (.Call (.Name "range" p) [a] [] pos) (iRng1 ta) := by
  intro pins s σ H R I h
  refine Call_ (ld_blt I hg hm boot_range (PyProof.Rows.callWith_type1 (thn (ha pos pins s σ H _ I h) fun us s1 ⟨vs, H1, I1, r1, q1⟩ => ?_) hs rfl))
  obtain ⟨j, e, q1, q2, q⟩ := q1
  subst e
  cases r1 with
  | cons r rr =>
    cases rr
    obtain ⟨t, rfl⟩ := r
    exact call_range_1 (range_it I1 (by omega) (by omega) q1 q2 (by simpa using q))
theorem pi_range2 {a b : Expr} {ta : TA} {p pos : Pos} (hg : Gl X "range") (hm : X.mg "range" = none) (ha : PA X [a, b] ta) (hs : starEach [a, b] X.env = [(false, eval a X.env), (false, eval b X.env)] := by rfl) (hs2 : starEach [b] X.env = [(false, eval b X.env)] := by rfl) :
    PI X tg (.Call (.Name "range" p) [a, b] [] pos) (iRng2 ta) := by
  intro pins s σ H R I h
  refine Call_ (ld_blt I hg hm boot_range (PyProof.Rows.callWith_type1 (thn (ha pos pins s σ H _ I h) fun us s1 ⟨vs, H1, I1, r1, q1⟩ => ?_) (by rw [hs, hs2]) (by rw [hs2]; rfl)))
  obtain ⟨i, j, e, ⟨q1, q2, q3, q4⟩, q⟩ := q1
  subst e
  cases r1 with
  | cons r rr =>
    cases rr with
    | cons r' rr =>
      cases rr
      obtain ⟨t, rfl⟩ := r
      obtain ⟨t', rfl⟩ := r'
      exact call_range_2 (range_it I1 q1 q2 q3 q4 q)

/-! ### for -/
/-- W: the invariant by the turn and a measure; N: what the body is to reach -/
def tFor (wi : TI) (g : TG) (tb : TS) : TS := fun D σ H => wi σ H fun J H1 => ∃ W : Nat → Nat → St → Hp → Prop, (∃ m, W 0 m σ H1) ∧ ∀ i m σ H, W i m σ H →
  (J.stop i H ∧ D.nx σ H) ∨ (J.go i H ∧ ∃ N : St → Hp → Prop, (∀ σ' H', N σ' H' → ∃ m', m' < m ∧ W (i + 1) m' σ' H') ∧ ∀ x H', J.yld i H x H' → g x σ H' fun σ2 H2 => tb { D with nx := N, ct := N, bk := D.nx } σ2 H2)
/-- the records at fp as they stand -/
def pinsAt (fp : List Addr) (h : Heap) : List (Addr × Obj) := fp.filterMap fun b => (h.get? b).map fun o => (b, o)
theorem mem_pinsAt {fp : List Addr} {h : Heap} {b : Addr} {o : Obj} (hb : b ∈ fp) (e : h.get? b = some o) : (b, o) ∈ pinsAt fp h := List.mem_filterMap.mpr ⟨b, hb, by rw [e]; rfl⟩
theorem of_pinsAt {fp : List Addr} {h : Heap} {p : Addr × Obj} (hp : p ∈ pinsAt fp h) : p.1 ∈ fp ∧ h.get? p.1 = some p.2 := by
  obtain ⟨b, hb, e⟩ := List.mem_filterMap.mp hp
  cases q : h.get? b with
  | none => rw [q] at e; cases e
  | some o =>
    rw [q] at e
    have e' : (b, o) = p := Option.some.inj e
    subst e'
    exact ⟨hb, q⟩
theorem Inv.pinned {pins : List (Addr × Obj)} {σ : St} {H : Hp} {s : Shared} {fp : List Addr} (I : Inv X pins σ H s) (hf : ∀ b ∈ fp, FpOk X pins H b) (ho : ∀ b ∈ fp, ∃ o, s.heap.get? b = some o ∧ ∀ v, o.data ≠ .cell v) : Inv X (pins ++ pinsAt fp s.heap) σ H s :=
  I.pins_of fun p hp => (List.mem_append.mp hp).elim (fun z => I.pin p (List.mem_append_right _ z)) fun z => by
    obtain ⟨hb, e⟩ := of_pinsAt z
    obtain ⟨f0, f1, f2, _⟩ := hf p.1 hb
    obtain ⟨o, e', d⟩ := ho p.1 hb
    rw [e] at e'; cases e'
    exact ⟨e, f0, f1, f2, d⟩
theorem Inv.unpinned {pins pl : List (Addr × Obj)} {σ : St} {H : Hp} {s : Shared} (I : Inv X (pins ++ pl) σ H s) : Inv X pins σ H s := I.pins_of fun p hp => I.pin p (List.mem_append_right _ (List.mem_append_left _ hp))
theorem ps_for {iter : Expr} {body : List Stmt} {wi : TI} {g : TG} {tb : TS} {pos : Pos} (hp : PassesOwn (model X.prog X.w) X.A X.env X.xe) (hc : X.calm = true) (hi : PI X tg iter wi) (hg : PG X tg g) (hb : PSs X body tb)
    (hs : ∀ x, foldedSetIterable iter X.env x = pure x := by intro _; rfl) : PS X (.For tg iter body [] pos) (tFor wi g tb) := by
  intro pins s σ H D I h
  refine wpAny_For (thn (hi pins s σ H _ I h) fun v s1 h1 => thn h1 fun itv s2 h2 => ?_) hs
  obtain ⟨it, fp, tn, J, H2, e, I2, T, st2, f2, W, ⟨m0, w0⟩, turn⟩ := h2
  subst e
  -- what stays true of the iterator's objects through the loop
  have stat : ∀ {H' : Hp}, (∀ b ∈ fp, H' b = none) → ∀ b ∈ fp, FpOk X pins H' b := fun hn b hb => ⟨hn b hb, (f2 b hb).2⟩
  refine codeAny_forLoop_any (fun n s' => ∃ i σ' H', Inv X pins σ' H' s' ∧ tn i s'.heap ∧ (∀ b ∈ fp, H' b = none) ∧ W i n σ' H') ?_ m0 ⟨0, σ, H2, I2, st2, fun b hb => (f2 b hb).1, w0⟩
  rintro n s3 ⟨i, σ3, H3, I3, st3, fr3, w3⟩
  rcases turn i n σ3 H3 w3 with ⟨stop, qn⟩ | ⟨go, N, hN, step⟩
  · refine wpAny_passesOwn hp (thn (T.done X rfl rfl rfl hc i pins s3 σ3 H3 X.xe I3 (stat fr3) st3 stop) fun r s4 ⟨hr, I4⟩ => ?_)
    subst hr
    exact wpAny_execs_nil ⟨σ3, H3, I4, qn⟩
  · refine wpAny_passesOwn hp (thn (T.item X rfl rfl rfl hc i pins s3 σ3 H3 X.xe I3 (stat fr3) st3 go) fun r s4 ⟨u, hr, h4⟩ => ?_)
    subst hr
    refine wpAny_passesOwn hp (thn h4 fun _ s5 ⟨x, H5, I5, r5, y5, st5, fr5⟩ => ?_)
    have I5' := I5.pinned (stat fr5) (T.obj _ _ st5)
    refine wpAny_passesOwn hp (thn (hg _ s5 σ3 H5 x u _ I5' r5 (step x H5 y5)) fun _ s6 ⟨σ6, H6, I6, q6⟩ => ?_)
    refine wpAny_passesOwn hp (thn (hb _ s6 σ6 H6 _ I6 q6) fun f s7 q7 => ?_)
    have again : ∀ {σ7 : St} {H7 : Hp}, Inv X (pins ++ pinsAt fp s5.heap) σ7 H7 s7 → N σ7 H7 → ∃ m, m < n ∧ ∃ i σ' H', Inv X pins σ' H' s7 ∧ tn i s7.heap ∧ (∀ b ∈ fp, H' b = none) ∧ W i m σ' H' := fun {σ7 H7} I7 n7 => by
      obtain ⟨m', hm, w7⟩ := hN σ7 H7 n7
      refine ⟨m', hm, i + 1, σ7, H7, I7.unpinned, T.keep _ _ _ st5 fun b hb o e => (I7.pin (b, o) (List.mem_append_right _ (List.mem_append_right _ (mem_pinsAt hb e)))).1, fun b hb => ?_, w7⟩
      obtain ⟨o, e, d⟩ := T.obj _ _ st5 b hb
      exact (I7.pin (b, o) (List.mem_append_right _ (List.mem_append_right _ (mem_pinsAt hb e)))).2.1
    cases f with
    | next => obtain ⟨σ7, H7, I7, n7⟩ := q7; exact again I7 n7
    | cont => obtain ⟨σ7, H7, I7, n7⟩ := q7; exact again I7 n7
    | brk => obtain ⟨σ7, H7, I7, q7⟩ := q7; exact ⟨σ7, H7, I7.unpinned, q7⟩
    | ret v => obtain ⟨x7, σ7, H7, I7, r7, q7⟩ := q7; exact ⟨x7, σ7, H7, I7.unpinned, r7, q7⟩
end

/-! ### the forms one uses -/
/-- over a list that the body leaves as it is -/
theorem for_list {K : PySem.W.Frag} {a : Addr} {xs : List V} {g : TG} {tb : TS} {D : Ends} {σ : St} {H : Hp} (Pv : Nat → St → Hp → Prop) (h0 : Pv 0 σ H) (hl : ∀ i σ H, i ≤ xs.length → Pv i σ H → SqL K H a xs)
    (hs : ∀ i x σ H, xs[i]? = some x → Pv i σ H → g x σ H fun σ2 H2 => tb { D with nx := Pv (i + 1), ct := Pv (i + 1), bk := D.nx } σ2 H2) (hd : ∀ σ H, Pv xs.length σ H → D.nx σ H) :
    ∃ W : Nat → Nat → St → Hp → Prop, (∃ m, W 0 m σ H) ∧ ∀ i m σ H, W i m σ H →
      ((Itl K a).stop i H ∧ D.nx σ H) ∨ ((Itl K a).go i H ∧ ∃ N : St → Hp → Prop, (∀ σ' H', N σ' H' → ∃ m', m' < m ∧ W (i + 1) m' σ' H') ∧ ∀ x H', (Itl K a).yld i H x H' → g x σ H' fun σ2 H2 => tb { D with nx := N, ct := N, bk := D.nx } σ2 H2) := by
  refine ⟨fun i m σ H => m = xs.length - i ∧ i ≤ xs.length ∧ Pv i σ H, ⟨xs.length, by simp, Nat.zero_le _, h0⟩, ?_⟩
  rintro i m σ H ⟨rfl, hi, p⟩
  have q := hl i σ H hi p
  by_cases hlt : i < xs.length
  · refine .inr ⟨⟨xs, xs[i], q, by simp [hlt]⟩, Pv (i + 1), fun σ' H' p' => ⟨xs.length - (i + 1), by omega, rfl, hlt, p'⟩, fun x H' y => ?_⟩
    obtain ⟨e, y⟩ := y
    subst e
    exact hs i x σ _ (y xs q) p
  · have e : i = xs.length := by omega
    subst e
    exact .inl ⟨⟨xs, q, Nat.le_refl _⟩, hd σ H p⟩
theorem for_range {lo : Int} {n : Nat} {g : TG} {tb : TS} {D : Ends} {σ : St} {H : Hp} (Pv : Nat → St → Hp → Prop) (h0 : Pv 0 σ H)
    (hs : ∀ i σ H, i < n → Pv i σ H → g (.int (lo + i)) σ H fun σ2 H2 => tb { D with nx := Pv (i + 1), ct := Pv (i + 1), bk := D.nx } σ2 H2) (hd : ∀ σ H, Pv n σ H → D.nx σ H) :
    ∃ W : Nat → Nat → St → Hp → Prop, (∃ m, W 0 m σ H) ∧ ∀ i m σ H, W i m σ H →
      ((Itr lo n).stop i H ∧ D.nx σ H) ∨ ((Itr lo n).go i H ∧ ∃ N : St → Hp → Prop, (∀ σ' H', N σ' H' → ∃ m', m' < m ∧ W (i + 1) m' σ' H') ∧ ∀ x H', (Itr lo n).yld i H x H' → g x σ H' fun σ2 H2 => tb { D with nx := N, ct := N, bk := D.nx } σ2 H2) := by
  refine ⟨fun i m σ H => m = n - i ∧ i ≤ n ∧ Pv i σ H, ⟨n, by simp, Nat.zero_le _, h0⟩, ?_⟩
  rintro i m σ H ⟨rfl, hi, p⟩
  by_cases hlt : i < n
  · refine .inr ⟨hlt, Pv (i + 1), fun σ' H' p' => ⟨n - (i + 1), by omega, rfl, hlt, p'⟩, fun x H' y => ?_⟩
    obtain ⟨e, y⟩ := y
    subst e y
    exact hs i σ _ hlt p
  · have e : i = n := by omega
    subst e
    exact .inl ⟨Nat.le_refl _, hd σ H p⟩
end L2

namespace L2
open PySem PySem.Spec PyProof.Rows

abbrev R2 := V → V → Hp → VK → Prop
/-- a two-place operation on values: f is binaryOp op, inplaceOp op or compareOp op -/
def OpR (X : Cx) (f : Value → Value → Sem Value) (r : R2) : Prop :=
  ∀ (pins : List (Addr × Obj)) (s : Shared) (σ : St) (H : Hp) (x y : V) (v u : Value) (Q : VK), Inv X pins σ H s → RelV x v → RelV y u → r x y H Q →
    wpAny (model X.prog X.w) X.A (f v u) (EP X pins σ Q) X.xe s
/-- a one-place operation -/
def UnR (X : Cx) (f : Value → Sem Value) (r : V → Hp → VK → Prop) : Prop :=
  ∀ (pins : List (Addr × Obj)) (s : Shared) (σ : St) (H : Hp) (x : V) (v : Value) (Q : VK), Inv X pins σ H s → RelV x v → r x H Q →
    wpAny (model X.prog X.w) X.A (f v) (EP X pins σ Q) X.xe s
/-- a call of a value that is known (a builtin, a type) with values -/
def CallR (X : Cx) (f : Value) (r : List V → Hp → VK → Prop) : Prop :=
  ∀ (pins : List (Addr × Obj)) (s : Shared) (σ : St) (H : Hp) (xs : List V) (us : List Value) (Q : VK), Inv X pins σ H s → Vals xs us → r xs H Q →
    wpAny (model X.prog X.w) X.A (call f us) (EP X pins σ Q) X.xe s
/-- a value's truth -/
def TruR (X : Cx) (r : V → Hp → (Bool → Hp → Prop) → Prop) : Prop :=
  ∀ (pins : List (Addr × Obj)) (s : Shared) (σ : St) (H : Hp) (x : V) (v : Value) (Q : Bool → Hp → Prop), Inv X pins σ H s → RelV x v → r x H Q →
    wpAny (model X.prog X.w) X.A (truthy v) (TP X pins σ Q) X.xe s

def tOp (r : R2) (ta tb : TE) : TE := fun σ H Q => ta σ H fun x H1 => tb σ H1 fun y H2 => r x y H2 Q
def tUn (r : V → Hp → VK → Prop) (ta : TE) : TE := fun σ H Q => ta σ H fun x H1 => r x H1 Q
/-- ints in, under C, and a value out -/
def rI (C : Int → Int → Prop) (g : Int → Int → V) : R2 := fun x y H Q => ∃ i j, x = .int i ∧ y = .int j ∧ C i j ∧ Q (g i j) H
def rI0 (g : Int → Int → V) : R2 := fun x y H Q => ∃ i j, x = .int i ∧ y = .int j ∧ Q (g i j) H
def rU (g : Int → V) : V → Hp → VK → Prop := fun x H Q => ∃ i, x = .int i ∧ Q (g i) H

section
variable {X : Cx} {a b c : Expr} {ta tb tc : TE} {pos : Pos}

theorem binT (ha : PE X a ta) (hb : PE X b tb) {pins : List (Addr × Obj)} {s : Shared} {σ : St} {H : Hp} {R : V → V → Hp → Prop} (I : Inv X pins σ H s)
    (h : ta σ H fun x H1 => tb σ H1 fun y H2 => R x y H2) {Q : Value → Shared → Prop} {f : Value → Value → Sem Value}
    (hf : ∀ v u s2 x y H2, Inv X pins σ H2 s2 → RelV x v → RelV y u → R x y H2 → wpAny (model X.prog X.w) X.A (f v u) Q X.xe s2) :
    wpAny (model X.prog X.w) X.A (eval a X.env) (fun v s₁ => wpAny (model X.prog X.w) X.A (eval b X.env) (fun u s₂ => wpAny (model X.prog X.w) X.A (f v u) Q X.xe s₂) X.xe s₁) X.xe s := by
  refine thn (ha pins s σ H _ I h) fun v s1 ⟨x, H1, I1, r1, q1⟩ => ?_
  refine thn (hb pins s1 σ H1 _ I1 q1) fun u s2 ⟨y, H2, I2, r2, q2⟩ => ?_
  exact hf v u s2 x y H2 I2 r1 r2 q2

theorem pe_op {op : Operator} {r : R2} (ho : OpR X (binaryOp op) r) (ha : PE X a ta) (hb : PE X b tb) : PE X (.BinOp a op b pos) (tOp r ta tb) := by
  intro pins s σ H Q I h
  exact wpAny_BinOp (binT ha hb I h fun v u s2 x y H2 I2 rx ry q => ho pins s2 σ H2 x y v u Q I2 rx ry q)
theorem pe_un {op : UnaryOp} {r : V → Hp → VK → Prop} (ho : UnR X (unaryOp op) r) (ha : PE X a ta) : PE X (.UnaryOp op a pos) (tUn r ta) := by
  intro pins s σ H Q I h
  exact UnaryOp_ (thn (ha pins s σ H _ I h) fun v s1 ⟨x, H1, I1, r1, q1⟩ => ho pins s1 σ H1 x v Q I1 r1 q1)
/-! ### ints -/
theorem opI {f : Value → Value → Sem Value} {C : Int → Int → Prop} {g : Int → Int → Int}
    (rule : ∀ (i j : Int) (t u : Tok) (s : Shared) (Q : Value → Shared → Prop) (E : Value → Shared → Prop), C i j → Q (.int (g i j) s.toks) { s with toks := s.toks + 1 } → wpAny (model X.prog X.w) X.A (f (.int i t) (.int j u)) Q E s) :
    OpR X f (rI C fun i j => .int (g i j)) := by
  intro pins s σ H x y v u Q I rx ry h
  obtain ⟨i, j, rfl, rfl, hc, q⟩ := h
  obtain ⟨t, rfl⟩ := rx
  obtain ⟨t', rfl⟩ := ry
  exact rule i j t t' s _ _ hc ⟨.int (g i j), H, I.tok _, ⟨_, rfl⟩, q⟩
theorem opI0 {f : Value → Value → Sem Value} {g : Int → Int → Int}
    (rule : ∀ (i j : Int) (t u : Tok) (s : Shared) (Q : Value → Shared → Prop) (E : Value → Shared → Prop), Q (.int (g i j) s.toks) { s with toks := s.toks + 1 } → wpAny (model X.prog X.w) X.A (f (.int i t) (.int j u)) Q E s) :
    OpR X f (rI0 fun i j => .int (g i j)) := by
  intro pins s σ H x y v u Q I rx ry h
  obtain ⟨i, j, rfl, rfl, q⟩ := h
  obtain ⟨t, rfl⟩ := rx
  obtain ⟨t', rfl⟩ := ry
  exact rule i j t t' s _ _ ⟨.int (g i j), H, I.tok _, ⟨_, rfl⟩, q⟩
theorem opB0 {f : Value → Value → Sem Value} {g : Int → Int → Bool}
    (rule : ∀ (i j : Int) (t u : Tok) (s : Shared) (Q : Value → Shared → Prop) (E : Value → Shared → Prop), Q (.bool (g i j)) s → wpAny (model X.prog X.w) X.A (f (.int i t) (.int j u)) Q E s) :
    OpR X f (rI0 fun i j => .bl (g i j)) := by
  intro pins s σ H x y v u Q I rx ry h
  obtain ⟨i, j, rfl, rfl, q⟩ := h
  obtain ⟨t, rfl⟩ := rx
  obtain ⟨t', rfl⟩ := ry
  exact rule i j t t' s _ _ ⟨.bl (g i j), H, I, rfl, q⟩

def CDiv (i j : Int) : Prop := 0 < j ∧ j < 1073741824
def CDivN (i j : Int) : Prop := j ≠ 0 ∧ j.natAbs < 1073741824
def CPow (i j : Int) : Prop := 0 ≤ j ∧ j ≤ 1000000 ∧ i.natAbs < 2 ^ 64
def CMul (i j : Int) : Prop := (-(2 ^ 64) < i ∧ i < 2 ^ 64) ∨ (-(2 ^ 64) < j ∧ j < 2 ^ 64)
theorem CMul.ok {i j : Int} (h : CMul i j) : IntMulOk i j := by
  rcases h with ⟨h1, h2⟩ | ⟨h1, h2⟩
  · exact .of_left (intBits_le_64 h1 h2)
  · exact .of_right (intBits_le_64 h1 h2)
theorem op_add : OpR X (binaryOp .Add) (rI0 fun i j => .int (i + j)) := opI0 fun _ _ _ _ _ _ _ q => add_int q
theorem op_sub : OpR X (binaryOp .Sub) (rI0 fun i j => .int (i - j)) := opI0 fun _ _ _ _ _ _ _ q => sub_int q
theorem op_mul : OpR X (binaryOp .Mult) (rI CMul fun i j => .int (i * j)) := opI fun _ _ _ _ _ _ _ hc q => mul_int q hc.ok
/-- // by a positive divisor -/
theorem op_fdiv : OpR X (binaryOp .FloorDiv) (rI CDiv fun i j => .int (i / j)) := opI fun i j _ _ _ _ _ hc q => by
  have h1 : (0 : Int) < j := hc.1
  have h2 : j < 1073741824 := hc.2
  exact floordiv_int (by omega) (by rw [Int.fdiv_eq_ediv_of_nonneg i (by omega)]; exact q) (.inl (PyProof.noPylong_small (by omega)))
/-- % by a positive divisor of any size -/
theorem op_mod : OpR X (binaryOp .Mod) (rI (fun _ j => 0 < j) fun i j => .int (i % j)) := opI fun i j _ _ _ _ _ hc q => by
  have h1 : (0 : Int) < j := hc
  exact mod_int' (by omega) (by rw [Int.fmod_eq_emod_of_nonneg i (by omega)]; exact q)
theorem op_pow : OpR X (binaryOp .Pow) (rI CPow fun i j => .int (i ^ j.toNat)) := opI fun _ _ _ _ _ _ _ hc q => pow_int_small hc.1 hc.2.1 hc.2.2 q
theorem unI {f : Value → Sem Value} {g : Int → Int}
    (rule : ∀ (i : Int) (t : Tok) (s : Shared) (Q : Value → Shared → Prop) (E : Value → Shared → Prop), Q (.int (g i) s.toks) { s with toks := s.toks + 1 } → wpAny (model X.prog X.w) X.A (f (.int i t)) Q E s) :
    UnR X f (rU fun i => .int (g i)) := by
  intro pins s σ H x v Q I rx h
  obtain ⟨i, rfl, q⟩ := h
  obtain ⟨t, rfl⟩ := rx
  exact rule i t s _ _ ⟨.int (g i), H, I.tok _, ⟨_, rfl⟩, q⟩
theorem un_neg : UnR X (unaryOp .USub) (rU fun i => .int (-i)) := unI fun _ _ _ _ _ q => neg_int q
/-! ### bools among ints: n += (a < b) -/
end

/-! ### comparisons -/
/-- the scalars that == tells apart as data does -/
def scal : V → V → Bool
  | .non, .non => true | .non, .int _ => true | .int _, .non => true | .non, .bl _ => true | .bl _, .non => true | .non, .str _ => true | .str _, .non => true
  | .int _, .int _ => true | .bl _, .bl _ => true | .str _, .str _ => true | .byt _, .byt _ => true
  | .int _, .str _ => true | .str _, .int _ => true | .bl _, .str _ => true | .str _, .bl _ => true
  | _, _ => false
def rEq : R2 := fun x y H Q => scal x y = true ∧ Q (.bl (decide (x = y))) H
def rNe : R2 := fun x y H Q => scal x y = true ∧ Q (.bl (!decide (x = y))) H

theorem dec_int {i j : Int} : decide (V.int i = V.int j) = (i == j) := by
  rw [Bool.eq_iff_iff]
  simp
theorem dec_bl {i j : Bool} : decide (V.bl i = V.bl j) = (i == j) := by
  rw [Bool.eq_iff_iff]
  simp
theorem dec_str {i j : Str} : decide (V.str i = V.str j) = (i == j) := by
  rw [Bool.eq_iff_iff]
  simp
theorem dec_byt {i j : Array UInt8} : decide (V.byt i = V.byt j) = (i.toList == j.toList) := by
  rw [Bool.eq_iff_iff]
  cases i
  cases j
  simp

section
variable {X : Cx} {a b c : Expr} {ta tb tc : TE} {pos : Pos}
theorem fin_bl {pins : List (Addr × Obj)} {σ : St} {H : Hp} {s : Shared} {Q : VK} {k k' : Bool} (I : Inv X pins σ H s) (q : Q (.bl k) H) (e : k = k') : EP X pins σ Q (.bool k') s := by
  subst e
  exact ⟨.bl k, H, I, rfl, q⟩
theorem op_eq : OpR X (compareOp .Eq) rEq := by
  intro pins s σ H x y v u Q I rx ry h
  obtain ⟨hs, q⟩ := h
  cases x with
  | non =>
    cases rx
    cases y with
    | non => cases ry; exact PySem.EqNone.eq_none_none (fin_bl I q (by simp))
    | bl j => cases ry; exact PySem.EqNone.eq_none_bool (fin_bl I q (by simp))
    | int j => obtain ⟨t', rfl⟩ := ry; exact PySem.EqNone.eq_none_int (fin_bl I q (by simp))
    | str j => obtain ⟨t', rfl⟩ := ry; exact PySem.EqNone.eq_none_str (fin_bl I q (by simp))
    | _ => exact absurd (show false = true from hs) Bool.false_ne_true
  | bl i =>
    cases rx
    cases y with
    | non => cases ry; exact PySem.EqNone.eq_bool_none (fin_bl I q (by simp))
    | bl j => cases ry; exact eq_bool (fin_bl I q dec_bl)
    | str j => obtain ⟨t', rfl⟩ := ry; exact PySem.EqMixed.eq_bool_str (fin_bl I q (by simp))
    | _ => exact absurd (show false = true from hs) Bool.false_ne_true
  | int i =>
    obtain ⟨t, rfl⟩ := rx
    cases y with
    | non => cases ry; exact PySem.EqNone.eq_int_none (fin_bl I q (by simp))
    | int j => obtain ⟨t', rfl⟩ := ry; exact eq_int (fin_bl I q dec_int)
    | str j => obtain ⟨t', rfl⟩ := ry; exact PySem.EqMixed.eq_int_str (fin_bl I q (by simp))
    | _ => exact absurd (show false = true from hs) Bool.false_ne_true
  | str i =>
    obtain ⟨t, rfl⟩ := rx
    cases y with
    | non => cases ry; exact PySem.EqNone.eq_str_none (fin_bl I q (by simp))
    | bl j => cases ry; exact PySem.EqMixed.eq_str_bool (fin_bl I q (by simp))
    | int j => obtain ⟨t', rfl⟩ := ry; exact PySem.EqMixed.eq_str_int (fin_bl I q (by simp))
    | str j => obtain ⟨t', rfl⟩ := ry; exact eq_str (fin_bl I q dec_str)
    | _ => exact absurd (show false = true from hs) Bool.false_ne_true
  | byt i =>
    obtain ⟨t, rfl⟩ := rx
    cases y with
    | byt j => obtain ⟨t', rfl⟩ := ry; exact PySem.W.eq_bytes (fin_bl I q dec_byt)
    | _ => exact absurd (show false = true from hs) Bool.false_ne_true
  | _ => cases y <;> exact absurd (show false = true from hs) Bool.false_ne_true
theorem op_ne : OpR X (compareOp .NotEq) rNe := by
  intro pins s σ H x y v u Q I rx ry h
  obtain ⟨hs, q⟩ := h
  cases x with
  | non =>
    cases rx
    cases y with
    | non => cases ry; exact PySem.EqNone.ne_none_none (fin_bl I q (by simp))
    | bl j => cases ry; exact PySem.EqNone.ne_none_bool (fin_bl I q (by simp))
    | int j => obtain ⟨t', rfl⟩ := ry; exact PySem.EqNone.ne_none_int (fin_bl I q (by simp))
    | str j => obtain ⟨t', rfl⟩ := ry; exact PySem.EqNone.ne_none_str (fin_bl I q (by simp))
    | _ => exact absurd (show false = true from hs) Bool.false_ne_true
  | bl i =>
    cases rx
    cases y with
    | non => cases ry; exact PySem.EqNone.ne_bool_none (fin_bl I q (by simp))
    | bl j => cases ry; exact ne_bool (fin_bl I q (congrArg not dec_bl))
    | str j => obtain ⟨t', rfl⟩ := ry; exact PySem.EqMixed.ne_bool_str (fin_bl I q (by simp))
    | _ => exact absurd (show false = true from hs) Bool.false_ne_true
  | int i =>
    obtain ⟨t, rfl⟩ := rx
    cases y with
    | non => cases ry; exact PySem.EqNone.ne_int_none (fin_bl I q (by simp))
    | int j => obtain ⟨t', rfl⟩ := ry; exact ne_int (fin_bl I q (congrArg not dec_int))
    | str j => obtain ⟨t', rfl⟩ := ry; exact PySem.EqMixed.ne_int_str (fin_bl I q (by simp))
    | _ => exact absurd (show false = true from hs) Bool.false_ne_true
  | str i =>
    obtain ⟨t, rfl⟩ := rx
    cases y with
    | non => cases ry; exact PySem.EqNone.ne_str_none (fin_bl I q (by simp))
    | bl j => cases ry; exact PySem.EqMixed.ne_str_bool (fin_bl I q (by simp))
    | int j => obtain ⟨t', rfl⟩ := ry; exact PySem.EqMixed.ne_str_int (fin_bl I q (by simp))
    | str j => obtain ⟨t', rfl⟩ := ry; exact ne_str (fin_bl I q (congrArg not dec_str))
    | _ => exact absurd (show false = true from hs) Bool.false_ne_true
  | byt i =>
    obtain ⟨t, rfl⟩ := rx
    cases y with
    | byt j => obtain ⟨t', rfl⟩ := ry; exact PySem.W.ne_bytes (fin_bl I q (congrArg not dec_byt))
    | _ => exact absurd (show false = true from hs) Bool.false_ne_true
  | _ => cases y <;> exact absurd (show false = true from hs) Bool.false_ne_true

theorem op_lt : OpR X (compareOp .Lt) (rI0 fun i j => .bl (decide (i < j))) := opB0 fun _ _ _ _ _ _ _ q => lt_int q
theorem op_le : OpR X (compareOp .LtE) (rI0 fun i j => .bl (decide (i ≤ j))) := opB0 fun _ _ _ _ _ _ _ q => le_int q
theorem op_gt : OpR X (compareOp .Gt) (rI0 fun i j => .bl (decide (j < i))) := opB0 fun _ _ _ _ _ _ _ q => gt_int q
theorem op_ge : OpR X (compareOp .GtE) (rI0 fun i j => .bl (decide (j ≤ i))) := opB0 fun _ _ _ _ _ _ _ q => ge_int q
theorem op_notN : OpR X (compareOp .IsNot) (fun x y H Q => y = .non ∧ Q (.bl (!decide (x = .non))) H) := by
  intro pins s σ H x y v u Q I rx ry h
  obtain ⟨rfl, q⟩ := h
  cases ry
  refine isnot_none_gen (fin_bl I q ?_)
  cases x <;> first
    | (cases rx; rfl)
    | (obtain ⟨t, rfl⟩ := rx; rfl)

/-- is, is not of two objects that are tracked lists or instances -/
def isObj : HO → Bool
  | .lst _ => true
  | .ins _ _ _ => true
  | _ => false
theorem nomark (b : Expr) {op : CmpOp} (h : op ≠ .In := by decide) (h2 : op ≠ .NotIn := by decide) : behindInMarks op b = false := by
  have e1 : (op == CmpOp.In) = false := by cases op <;> first | rfl | exact absurd rfl h
  have e2 : (op == CmpOp.NotIn) = false := by cases op <;> first | rfl | exact absurd rfl h2
  cases b <;> simp [behindInMarks, e1, e2]
/-- a comparison as a value; hm: nomark b, or (for in, not in) by with_unfolding_all rfl -/
theorem pe_cmpR {op : CmpOp} {r : R2} (ho : OpR X (compareOp op) r) (ha : PE X a ta) (hb : PE X b tb) (hm : behindInMarks op b = false) : PE X (.Compare a [op] [b] pos) (tOp r ta tb) := by
  intro pins s σ H Q I h
  exact wpAny_Compare1 (binT ha hb I h fun v u s2 x y H2 I2 rx ry q => ho pins s2 σ H2 x y v u Q I2 rx ry q) hm
/-- a reading of a value as a test -/
def tTest (t : TE) : TT := fun σ H Q => t σ H fun x H' => ∃ k, x = .bl k ∧ Q k H'
theorem pt_cmpR {op : CmpOp} {r : R2} (ho : OpR X (compareOp op) r) (ha : PE X a ta) (hb : PE X b tb) (hm : behindInMarks op b = false) : PT X (.Compare a [op] [b] pos) (tTest (tOp r ta tb)) := by
  intro pins s σ H Q I h
  refine wpAny_isTrue_Compare1 (thn (ha pins s σ H _ I h) fun v s1 ⟨x, H1, I1, r1, q1⟩ => thn (hb pins s1 σ H1 _ I1 q1) fun u s2 ⟨y, H2, I2, r2, q2⟩ =>
    thn (ho pins s2 σ H2 x y v u _ I2 r1 r2 q2) fun c s3 ⟨z, H3, I3, r3, k, e, q3⟩ => ?_) hm
  subst e
  cases r3
  exact wpAny_truthy_bool ⟨H3, I3, q3⟩
/-- a op1 b op2 c -/
def tChain (r r' : R2) (ta tb tc : TE) : TE := fun σ H Q => ta σ H fun x H1 => tb σ H1 fun y H2 => r x y H2 fun z H3 => ∃ k, z = .bl k ∧
  (if k = true then tc σ H3 fun w' H4 => r' y w' H4 Q else Q (.bl false) H3)
/-! ### truth -/
/-- a value's truth by the abstract heap -/
def TruV (K : PySem.W.Frag) (x : V) (H : Hp) (k : Bool) : Prop :=
  match x with
  | .non => k = false
  | .bl b => k = b
  | .int i => k = (i != 0)
  | .str y => y.length ≤ sizeLine ∧ k = ((y.length : Int) != 0)
  | .byt y => y.size ≤ sizeLine ∧ k = ((y.size : Int) != 0)
  | .ref p => (∃ xs, SqL K H p xs ∧ k = !xs.isEmpty) ∨ (∃ xs, SqT K H p xs ∧ k = !xs.isEmpty) ∨ ∃ kvs, H p = some (.dK kvs) ∧ k = !kvs.isEmpty
  | _ => False
theorem line63 : (sizeLine : Nat) < 2 ^ 63 := by rw [sizeLine_eq]; decide
/-! ### strs and bytes -/
def PlainIxT (b : Expr) : Prop := ∀ o i, subscripted b false o i = operate [o, i] (getItem o i)
/-! ### scalar builtins, by CallR -/
theorem vals1 {x : V} {us : List Value} (r : Vals [x] us) : ∃ u, us = [u] ∧ RelV x u := by
  cases r with
  | cons r1 r2 => cases r2; exact ⟨_, rfl, r1⟩
/-- len of a str, a bytes, a list, a tuple -/
def LenV (K : PySem.W.Frag) (x : V) (H : Hp) (n : Nat) : Prop :=
  match x with
  | .str y => y.length ≤ sizeLine ∧ n = y.length
  | .byt y => y.size ≤ sizeLine ∧ n = y.size
  | .ref p => (∃ xs, SqL K H p xs ∧ n = xs.length) ∨ ∃ xs, SqT K H p xs ∧ n = xs.length
  | _ => False
end
end L2

namespace L2
open PySem PySem.Spec PyProof.Rows

/-! ### an instance, its attributes a map -/
structure ObjM (h : Heap) (x dx C : Addr) (mA : Str → Option Value) : Prop where
  obj : h.get? x = some (PySem.W.instObj C dx)
  ns : h.Ns1 dx mA
  ne : dx ≠ x

theorem lookIn_ns {h : Heap} {dx : Addr} {mA : Str → Option Value} (n : h.Ns1 dx mA) : ∃ od, h.get? dx = some od ∧ ∀ name, PySem.W.lookIn name od = some (mA name) := by
  obtain ⟨o, es, ep, ho, hd, hk, _, hm⟩ := n
  refine ⟨o, ho, fun name => ?_⟩
  have e := hm name
  unfold nsFind findBy at e
  rw [← Array.find?_toList] at e
  unfold PySem.W.lookIn
  rw [hd]
  dsimp only
  split
  · rename_i y q
    rw [q] at e
    exact congrArg some e
  · rename_i q
    rw [q] at e
    have a : es.toList.any (·.refKey) = false := by
      rw [List.any_eq_false]
      intro y hy
      obtain ⟨z, t, hkey⟩ := hk y (Array.mem_toList_iff.mp hy)
      simp [DictEntry.refKey, hkey]
    have a' : ¬ es.toList.any (·.refKey) = true := by rw [a]; exact Bool.false_ne_true
    rw [if_neg a']
    exact congrArg some e

theorem ObjM.look {h : Heap} {x dx C : Addr} {mA : Str → Option Value} (I : ObjM h x dx C mA) : ∃ od, PySem.W.InstAt h x (PySem.W.instObj C dx) C (some od) ∧ ∀ name, PySem.W.lookIn name od = some (mA name) :=
  let ⟨od, ho, hl⟩ := lookIn_ns I.ns
  ⟨od, ⟨I.obj, rfl, rfl, ho⟩, hl⟩

section
variable {prog : Program} {w : World} {A : Around} {E : Value → Shared → Prop} {s : Shared} {K : PySem.W.Frag} {x dx C f : Addr} {mA : Str → Option Value} {name : Str} {v : Value}

theorem get_map {expr : Bool} {Q : Value → Shared → Prop} (X : K.In s.heap) (I : ObjM s.heap x dx C mA) (hg : PySem.W.plainGet K C name = true) (hh : PySem.W.hasDictIn K C = true)
    (ha : PySem.W.findIn K (.ref C) name = some none) (hv : mA name = some v) (hv' : PySem.W.handedIn v = true) (h : Q v { s with toks := s.toks + 1 }) :
    wpAny (model prog w) A (getAttr (.ref x) name expr) Q E s := by
  obtain ⟨od, J, hl⟩ := I.look
  exact PySem.W.get_value X J (PySem.W.plainGet_of hg).1 (PySem.W.findObj_own hh ha rfl (by rw [hl, hv])) hv' h

theorem set_map {ns : List Str} {Q : Unit → Shared → Prop} (X : K.In s.heap) (I : ObjM s.heap x dx C mA)
    (hs : PySem.W.findIn K (.ref C) "__setattr__" = some (some (.builtin "object.__setattr__"))) (hp : PySem.W.plainOver K C = true) (ht : PySem.W.takerIn K C name = some none) (hh : PySem.W.hasDictIn K C = true)
    (hw : PySem.Within mA ns) (hsz : ns.length ≤ sizeLine)
    (h : ∀ h', ObjM h' x dx C (fun y => if y = name then some v else mA y) → Heap.SameBut dx s.heap h' → Q () { s with heap := h', toks := s.toks + 2 }) :
    wpAny (model prog w) A (setAttr (.ref x) name v) Q E s := by
  obtain ⟨od, J, hl⟩ := I.look
  refine PySem.W.set_plain X J hs (PySem.W.osa_open (s := { s with toks := s.toks + 1 }) (r := none) X J hp ht fun b => ?_)
  obtain ⟨cd, hc, hd'⟩ := PySem.W.any_some hh
  have hx : s.heap.get? x = some ⟨.ref C, some dx, .plain, #[]⟩ := I.obj
  refine wpAny_bind (wpAny_pure (wpAny_bind (wpAny_bind (wpAny_loadPart hx (wpAny_bind (PySem.W.Looks.here (s := { s with toks := s.toks + 1 }) (PySem.W.looks_clsIn X hc) ?_))))))
  rw [hd']
  refine wpAny_pure (a := some dx) (wpAny_bind (wpAny_pure (wpAny_bind ?_)))
  refine wpAny_nsSet1 (s := { s with toks := s.toks + 1 }) I.ns fun h' hn2 hs2 => ?_
  obtain ⟨oD, esD, epD, hoD, hdD, hcD⟩ := hn2.count (PySem.Within.cons name v hw)
  refine wpAny_bind (wpAny_lookBehind hoD (by rw [hdD]; exact pastItsLine_dict (Nat.le_trans hcD (by rw [List.length_cons]; omega))) ?_)
  exact wpAny_pure (h _ ⟨(hs2.2 _ (Ne.symm I.ne)).trans I.obj, hn2, I.ne⟩ hs2)

/-- C(..): the dict at the heap's end, the instance behind it; then its __init__ -/
theorem make_map {R : Result → Shared → Prop} {vs : List Value} {kw : List (Str × Value)} (X : K.In s.heap) (hm : PySem.W.makesIn K C = true)
    (hi : PySem.W.findIn K (.ref C) "__init__" = some (some (.ref f))) (hf : PySem.W.typeIn K (.ref f) = some (.type "function"))
    (h : codeAny (model prog w) (A.under (.builtin "type.__call__" ⟨.ref C :: vs, kw⟩)) (.call (.ref f) ⟨.ref (s.heap.objs.size + 1) :: vs, kw⟩) (PySem.W.InitBack (s.heap.objs.size + 1) R)
      { s with heap := (s.heap.push PySem.W.emptyDict).push (PySem.W.instObj C s.heap.objs.size) }) :
    codeAny (model prog w) A (.call (.ref C) ⟨vs, kw⟩) R s := by
  obtain ⟨hh, g, d, t, os⟩ := s
  exact PySem.W.make_core (PySem.W.makes_of X hm) (PySem.W.looks_findIn X hi) (fun self => PySem.W.bind_fn X self hf) (.inl rfl) h
end

/-! ### the attributes as a list of pairs -/
def putF (f : Str) (v : V) : List (Str × V) → List (Str × V)
  | [] => [(f, v)]
  | (g, x) :: r => if g = f then (g, v) :: r else (g, x) :: putF f v r
theorem lookup_putF (f g : Str) (v : V) : ∀ fs : List (Str × V), (putF f v fs).lookup g = if g = f then some v else fs.lookup g
  | [] => by
    show List.lookup g [(f, v)] = _
    by_cases h : g = f
    · have hb : (g == f) = true := beq_iff_eq.mpr h
      simp only [List.lookup, hb, if_pos h]
    · have hb : (g == f) = false := beq_eq_false_iff_ne.mpr h
      simp only [List.lookup, hb, if_neg h]
  | (k, x) :: r => by
    have ih := lookup_putF f g v r
    rw [show putF f v ((k, x) :: r) = (if k = f then (k, v) :: r else (k, x) :: putF f v r) from rfl]
    by_cases hk : k = f
    · rw [if_pos hk]
      by_cases h : g = k
      · have hb : (g == k) = true := beq_iff_eq.mpr h
        simp only [List.lookup, hb, if_pos (h.trans hk)]
      · have hb : (g == k) = false := beq_eq_false_iff_ne.mpr h
        simp only [List.lookup, hb, if_neg (fun e : g = f => h (e.trans hk.symm))]
    · rw [if_neg hk]
      by_cases h : g = k
      · have hb : (g == k) = true := beq_iff_eq.mpr h
        simp only [List.lookup, hb, if_neg (fun e : g = f => hk (h.symm.trans e))]
      · have hb : (g == k) = false := beq_eq_false_iff_ne.mpr h
        simp only [List.lookup, hb]
        exact ih
theorem keys_putF (f : Str) (v : V) : ∀ fs : List (Str × V), f ∈ (putF f v fs).map (·.1) ∧ ∀ g, g ∈ fs.map (·.1) → g ∈ (putF f v fs).map (·.1)
  | [] => ⟨by simp [putF], fun g h => by simp at h⟩
  | (k, x) :: r => by
    obtain ⟨i1, i2⟩ := keys_putF f v r
    rw [show putF f v ((k, x) :: r) = (if k = f then (k, v) :: r else (k, x) :: putF f v r) from rfl]
    by_cases hk : k = f
    · rw [if_pos hk]
      subst hk
      exact ⟨by simp, fun g h => by simpa using h⟩
    · rw [if_neg hk]
      refine ⟨?_, fun g h => ?_⟩
      · rw [List.map_cons]
        exact List.mem_cons_of_mem _ i1
      · rw [List.map_cons] at h ⊢
        rcases List.mem_cons.mp h with e | e
        · exact List.mem_cons.mpr (.inl e)
        · exact List.mem_cons_of_mem _ (i2 g e)
theorem length_putF (f : Str) (v : V) : ∀ fs : List (Str × V), (putF f v fs).length ≤ fs.length + 1
  | [] => by simp [putF]
  | (k, x) :: r => by
    have ih := length_putF f v r
    rw [show putF f v ((k, x) :: r) = (if k = f then (k, v) :: r else (k, x) :: putF f v r) from rfl]
    by_cases hk : k = f
    · rw [if_pos hk, List.length_cons, List.length_cons]; omega
    · rw [if_neg hk, List.length_cons, List.length_cons]; omega

theorem RelO.some_of {v : V} {o : Option Value} (r : RelO (some v) o) : ∃ u, o = some u ∧ RelV v u := by
  cases o with
  | none => exact (show False from r).elim
  | some u => exact ⟨u, rfl, r⟩
theorem handed_of {v : V} {u : Value} (r : RelV v u) : PySem.W.handedIn u = true := by
  cases v with
  | non => cases (show u = Value.none from r); rfl
  | bl b => cases (show u = Value.bool b from r); rfl
  | int i => obtain ⟨t, e⟩ := (show ∃ t, u = Value.int i t from r); cases e; rfl
  | str x => obtain ⟨t, e⟩ := (show ∃ t, u = Value.str x t from r); cases e; rfl
  | byt b => obtain ⟨t, e⟩ := (show ∃ t, u = Value.bytes b t from r); cases e; rfl
  | flt b => obtain ⟨t, e⟩ := (show ∃ t, u = Value.float b t from r); cases e; rfl
  | ref a => cases (show u = Value.ref a from r); rfl
  | ty n => cases (show u = Value.type n from r); rfl

section
variable {P : Program} {w : World} {H H' : Hp} {h h' : Heap} {a C dx : Addr} {fs fs' : List (Str × V)}
theorem ins_get (hok : HOk P w H h) (e : H a = some (.ins C dx fs)) : ∃ mA, ObjM h a dx C mA ∧ (∀ f, RelO (fs.lookup f) (mA f)) ∧ PySem.Within mA (fs.map (·.1)) ∧ fs.length ≤ 1000 ∧ H dx = some (.own a) := by
  obtain ⟨d, z, ne, ob, mA, n, r, q⟩ := (show ObjOk P w H h a (.ins C dx fs) from hok a _ e)
  exact ⟨mA, ⟨ob, n, ne⟩, r, q, z, d⟩
end

/-! ### what of the text a class must have -/
structure Cls (K : PySem.W.Frag) (C : Addr) : Prop where
  pg : PySem.W.plainGet K C Str.empty = true
  hd : PySem.W.hasDictIn K C = true
  po : PySem.W.plainOver K C = true
  sa : PySem.W.findIn K (.ref C) "__setattr__" = some (some (.builtin "object.__setattr__"))
theorem Cls.get {K : PySem.W.Frag} {C : Addr} (c : Cls K C) (f : Str) : PySem.W.plainGet K C f = true := c.pg
/-- no class of it has the name -/
def NoAttr (K : PySem.W.Frag) (C : Addr) (f : Str) : Prop := PySem.W.findIn K (.ref C) f = some none
theorem NoAttr.taker {K : PySem.W.Frag} {C : Addr} {f : Str} (n : NoAttr K C f) : PySem.W.takerIn K C f = some none := by
  unfold PySem.W.takerIn
  rw [show PySem.W.findIn K (.ref C) f = some none from n]
  rfl
/-- a constant of the class -/
structure Con (K : PySem.W.Frag) (C : Addr) (f : Str) (v : V) (u : Value) : Prop where
  at_ : PySem.W.findIn K (.ref C) f = some (some u)
  rel : RelV v u
  get : PySem.W.specialIn K u "__get__" = some none
  cp : PySem.W.copiedNames.contains f = false
/-- a method: a plain def of the class or of one above it -/
structure Meth (K : PySem.W.Frag) (C : Addr) (m : Str) (f : Addr) : Prop where
  at_ : PySem.W.findIn K (.ref C) m = some (some (.ref f))
  fn : PySem.W.isFn K (.ref f) = true
  kp : PySem.W.keepIn K (.ref f) = true

section
variable {X : Cx} {pins : List (Addr × Obj)} {σ : St} {H : Hp} {s : Shared} {a C dx : Addr} {fs : List (Str × V)} {f : Str} {v : V} {A : Around} {E : Value → Shared → Prop}

theorem getattr_ok {b : Bool} {Q : Value → Shared → Prop} (I : Inv X pins σ H s) (e : H a = some (.ins C dx fs)) (c : Cls X.K C) (n : NoAttr X.K C f) (l : fs.lookup f = some v)
    (h : ∀ u s', Inv X pins σ H s' → RelV v u → Q u s') : wpAny (model X.prog X.w) A (getAttr (.ref a) f b) Q E s := by
  obtain ⟨mA, O, r, _, _, _⟩ := ins_get I.hok e
  obtain ⟨u, hu, ru⟩ := RelO.some_of (v := v) (o := mA f) (by rw [← l]; exact r f)
  exact get_map I.kIn O (c.get f) c.hd n hu (handed_of ru) (h u _ (I.tok _) ru)

theorem setattr_ok {y : V} {u : Value} {Q : Unit → Shared → Prop} (I : Inv X pins σ H s) (e : H a = some (.ins C dx fs)) (c : Cls X.K C) (n : NoAttr X.K C f) (hl : fs.length < 1000) (ry : RelV y u)
    (h : ∀ s', Inv X pins σ (upd H a (.ins C dx (putF f y fs))) s' → Q () s') : wpAny (model X.prog X.w) A (setAttr (.ref a) f u) Q E s := by
  obtain ⟨mA, O, r, wi, _, ho⟩ := ins_get I.hok e
  have hz : (fs.map (·.1)).length ≤ sizeLine := by rw [List.length_map, sizeLine_eq]; omega
  refine set_map I.kIn O c.sa c.po n.taker c.hd wi hz fun h' O' sb => h _ ?_
  have hd : ∃ o, h'.get? dx = some o := let ⟨o, _, _, e', _⟩ := O'.ns; ⟨o, e'⟩
  refine I.write (x := a) (e := dx) (by rw [e]; exact True.intro) (.inr ho) (fun b q hb z => (sb.2 b hb).trans z) hd ?_
  refine ⟨by rw [upd_ne O.ne]; exact ho, ?_, O.ne, O'.obj, _, O'.ns, fun g => ?_, fun g hg => ?_⟩
  · have := length_putF f y fs; omega
  · show RelO ((putF f y fs).lookup g) (if g = f then some u else mA g)
    rw [lookup_putF]
    by_cases q : g = f
    · rw [if_pos q, if_pos q]; exact ry
    · rw [if_neg q, if_neg q]; exact r g
  · by_cases q : g = f
    · rw [q]; exact (keys_putF f y fs).1
    · refine (keys_putF f y fs).2 g (wi g fun z => hg ?_)
      show (if g = f then some u else mA g) = none
      rw [if_neg q]; exact z

/-- a new instance, tracked, without attributes -/
theorem Inv.made (I : Inv X pins σ H s) : Inv X pins σ (upd (upd H s.heap.objs.size (.own (s.heap.objs.size + 1))) (s.heap.objs.size + 1) (.ins C s.heap.objs.size []))
    { s with heap := (s.heap.push PySem.W.emptyDict).push (PySem.W.instObj C s.heap.objs.size) } := by
  have e1 : (s.heap.push PySem.W.emptyDict).get? s.heap.objs.size = some PySem.W.emptyDict := Heap.get?_push_size s.heap rfl
  have e2 : ((s.heap.push PySem.W.emptyDict).push (PySem.W.instObj C s.heap.objs.size)).get? (s.heap.objs.size + 1) = some (PySem.W.instObj C s.heap.objs.size) := by
    have := Heap.get?_push_size (s.heap.push PySem.W.emptyDict) (o := PySem.W.instObj C s.heap.objs.size) rfl
    rwa [Heap.size_push] at this
  have e3 : (s.heap.push PySem.W.emptyDict).Ns s.heap.objs.size (fun _ => none) := ⟨PySem.W.emptyDict, #[], _, e1, rfl, (fun e he => absurd he (by simp)), fun _ => rfl⟩
  have I1 := I.laid (a := s.heap.objs.size) (o := .own (s.heap.objs.size + 1)) (h' := s.heap.push PySem.W.emptyDict) (t' := s.toks) (fun b u q => Heap.get?_push_of_some _ q) (Nat.le_refl _) ⟨_, e1⟩
  refine I1.laid (a := s.heap.objs.size + 1) (o := .ins C s.heap.objs.size []) (t' := s.toks) (fun b u q => Heap.get?_push_of_some _ q) (Nat.le_of_eq (Heap.size_push _ _)) ?_
  have ne : s.heap.objs.size ≠ s.heap.objs.size + 1 := Nat.ne_of_lt (Nat.lt_succ_self _)
  refine ⟨by rw [upd_ne ne, upd_same], Nat.zero_le _, ne, e2, fun _ => none, (Heap.Ns1.of_empty e3).at fun o q => Heap.get?_push_of_some _ q, fun _ => True.intro, fun y hy => absurd rfl hy⟩

/-- e.f where nothing but the object is asked: through attributeBase (super) and the last hold -/
theorem attr_of {prog : Program} {w : World} {env : Env} {e : Expr} {f : Str} {pos : Pos} {s : Shared} {Q : Value → Shared → Prop} (hb : attributeBase e f env (eval e env) = eval e env)
    (h : wpAny (model prog w) A (eval e env) (fun o s₁ => wpAny (model prog w) A (getAttr o f true) Q E s₁) E s) : wpAny (model prog w) A (eval (.Attribute e f pos) env) Q E s :=
  Attribute_any_ h (by rw [arm_eval_Attribute, hb])
end

/-! ### readings and rules -/
/-- e.f, an attribute of the instance -/
def tFld (K : PySem.W.Frag) (ta : TE) (f : Str) : TE := fun σ H Q => ta σ H fun x H1 => ∃ a C dx fs v, x = .ref a ∧ H1 a = some (.ins C dx fs) ∧ Cls K C ∧ NoAttr K C f ∧ fs.lookup f = some v ∧ Q v H1
/-- e.f, a constant of the class -/
def tCon (K : PySem.W.Frag) (ta : TE) (f : Str) : TE := fun σ H Q => ta σ H fun x H1 => ∃ a C dx fs v u, x = .ref a ∧ H1 a = some (.ins C dx fs) ∧ Cls K C ∧ Con K C f v u ∧ fs.lookup f = none ∧ Q v H1
/-- e.f = value -/
def sFld (K : PySem.W.Frag) (ta tv : TE) (f : Str) : TS := fun D σ H => tv σ H fun y H1 => ta σ H1 fun x H2 => ∃ a C dx fs, x = .ref a ∧ H2 a = some (.ins C dx fs) ∧ Cls K C ∧ NoAttr K C f ∧ fs.length < 1000 ∧
  D.nx σ (upd H2 a (.ins C dx (putF f y fs)))
/-- an augmented operator on two values -/
def InOp (X : Cx) (op : Operator) (rd : V → V → Hp → VK → Prop) : Prop :=
  ∀ (pins : List (Addr × Obj)) (s : Shared) (σ : St) (H : Hp) (x y : V) (u v : Value) (Q : VK), Inv X pins σ H s → RelV x u → RelV y v → rd x y H Q → wpAny (model X.prog X.w) X.A (inplaceOp op u v) (EP X pins σ Q) X.xe s
/-- e.f op= value -/
def sFldAug (K : PySem.W.Frag) (ta tv : TE) (rd : V → V → Hp → VK → Prop) (f : Str) : TS := fun D σ H => ta σ H fun x H1 => ∃ a C dx fs v, x = .ref a ∧ H1 a = some (.ins C dx fs) ∧ Cls K C ∧ NoAttr K C f ∧ fs.lookup f = some v ∧
  tv σ H1 fun y H2 => rd v y H2 fun z H3 => ∃ dx' fs', H3 a = some (.ins C dx' fs') ∧ fs'.length < 1000 ∧ D.nx σ (upd H3 a (.ins C dx' (putF f z fs')))

section
variable {X : Cx} {o e value : Expr} {f : Str} {pos pos' tpos : Pos} {ta tv : TE}
theorem pe_fld (he : PE X e ta) (hb : attributeBase e f X.env (eval e X.env) = eval e X.env) : PE X (.Attribute e f pos) (tFld X.K ta f) := by
  intro pins s σ H Q I h
  refine attr_of hb (thn (he pins s σ H _ I h) fun u s1 ⟨x, H1, I1, rx, a, C, dx, fs, v, ex, ea, c, n, l, q⟩ => ?_)
  subst ex
  obtain rfl : u = Value.ref a := rx
  exact getattr_ok I1 ea c n l fun u' s2 I2 ru => ⟨v, H1, I2, ru, q⟩
theorem ps_fld (ha : PE X o ta) (hv : PE X value tv) (hs : swapsWith value (some (.Attribute o f pos')) pos.line X.env = pure false) : PS X (.Assign [.Attribute o f pos'] value pos) (sFld X.K ta tv f) := by
  intro pins s σ H D I h
  refine plainObj_wpAny_Assign_Attribute (thn (hv pins s σ H _ I h) fun u s1 ⟨y, H1, I1, ry, q⟩ => thn (ha pins s1 σ H1 _ I1 q) fun ov s2 ⟨x, H2, I2, rx, a, C, dx, fs, ex, ea, c, n, l, q2⟩ => ?_) hs
  subst ex
  obtain rfl : ov = Value.ref a := rx
  exact setattr_ok I2 ea c n l ry fun s3 I3 => ⟨σ, _, I3, q2⟩
def rAdd : V → V → Hp → VK → Prop := fun x y H Q => ∃ i j, x = .int i ∧ y = .int j ∧ Q (.int (i + j)) H
def rSub : V → V → Hp → VK → Prop := fun x y H Q => ∃ i j, x = .int i ∧ y = .int j ∧ Q (.int (i - j)) H
end

/-! ### isinstance -/
section
variable {X : Cx} {pins : List (Addr × Obj)} {σ : St} {H : Hp} {s : Shared} {A : Around} {E : Value → Shared → Prop} {Q : Value → Shared → Prop} {c : Value} {b : Bool}
/-- the type of a value, as the fragment's deciders take it; for an instance its class -/
inductive TyOf (K : PySem.W.Frag) (H : Hp) : V → Value → Prop where
  | non : TyOf K H .non (.type "NoneType")
  | bl (x : Bool) : TyOf K H (.bl x) (.type "bool")
  | int (i : Int) : TyOf K H (.int i) (.type "int")
  | str (x : Str) : TyOf K H (.str x) (.type "str")
  | flt (x : UInt64) : TyOf K H (.flt x) (.type "float")
  | lst {a : Addr} {xs : List V} (e : H a = some (.lst xs)) : TyOf K H (.ref a) (.type "list")
  | frz {a : Addr} {o : Obj} {xs : List V} (e : H a = some (.frz o (.lst xs))) : TyOf K H (.ref a) (.type "list")
  | tup {a : Addr} {xs : List V} (e : H a = some (.tup xs)) : TyOf K H (.ref a) (.type "tuple")
  | dK {a : Addr} {kvs : List (Key × V)} (e : H a = some (.dK kvs)) : TyOf K H (.ref a) (.type "dict")
  | dT {a : Addr} {kvs : List (List Key × V)} (e : H a = some (.dT kvs)) : TyOf K H (.ref a) (.type "dict")
  | ins {a C dx : Addr} {fs : List (Str × V)} (e : H a = some (.ins C dx fs)) (cl : Cls K C) (ha : PySem.W.findIn K (.ref C) "__class__" = some (some (.builtin "object.__class__")))
      (hn : PySem.W.specialIn K (.builtin "object.__class__") "__get__" = some (some (.builtin "getset_descriptor.__get__"))) (htk : PySem.W.takesIn K (.builtin "object.__class__") = some true)
      (hm : PySem.W.mroIn K C (.type "object") = some true) : TyOf K H (.ref a) (.ref C)
/-- isinstance(x, c) for one class c, a built-in or an own one: kitOne's answer -/
theorem isinst_ok {x : V} {u t : Value} (I : Inv X pins σ H s) (rx : RelV x u) (ty : TyOf X.K H x t) (e : PySem.W.kitOne X.K t c = some b) (h : ∀ tk, Q (.bool b) { s with toks := tk }) :
    wpAny (model X.prog X.w) A (call (.builtin "isinstance") [u, c]) Q E s := by
  cases ty with
  | non => cases (show u = Value.none from rx); exact PySem.W.kia_one PySem.W.kitx_none I.kIn True.intro e (fun z => nomatch z) h
  | bl y => cases (show u = Value.bool y from rx); exact PySem.W.kia_one PySem.W.kitx_bool I.kIn True.intro e (fun z => nomatch z) h
  | int i => obtain ⟨t, q⟩ := (show ∃ t, u = Value.int i t from rx); cases q; exact PySem.W.kia_one PySem.W.kitx_int I.kIn True.intro e (fun z => nomatch z) h
  | str y => obtain ⟨t, q⟩ := (show ∃ t, u = Value.str y t from rx); cases q; exact PySem.W.kia_one PySem.W.kitx_str I.kIn True.intro e (fun z => nomatch z) h
  | flt y => obtain ⟨t, q⟩ := (show ∃ t, u = Value.float y t from rx); cases q; exact PySem.W.kia_one PySem.W.kitx_float I.kIn True.intro e (fun z => nomatch z) h
  | @lst a xs ea =>
    cases (show u = Value.ref a from rx)
    obtain ⟨_, _, n, _, h1⟩ := (show ObjOk X.prog X.w H s.heap a (.lst xs) from I.hok a _ ea)
    exact PySem.W.kia_one PySem.W.kitx_list I.kIn ⟨_, h1, rfl⟩ e (fun z => nomatch z) h
  | @frz a ob xs ea =>
    cases (show u = Value.ref a from rx)
    obtain ⟨_, _, _, n, _, h1⟩ := (show ObjOk X.prog X.w H s.heap a (.frz ob (.lst xs)) from I.hok a _ ea)
    exact PySem.W.kia_one PySem.W.kitx_list I.kIn ⟨_, h1, rfl⟩ e (fun z => nomatch z) h
  | @tup a xs ea =>
    cases (show u = Value.ref a from rx)
    obtain ⟨_, _, _, p⟩ := (show ObjOk X.prog X.w H s.heap a (.tup xs) from I.hok a _ ea)
    obtain ⟨o, h1, h2, _⟩ := p
    exact PySem.W.kia_one PySem.W.kitx_tuple I.kIn ⟨o, h1, h2⟩ e (fun z => nomatch z) h
  | @dK a kvs ea =>
    cases (show u = Value.ref a from rx)
    obtain ⟨_, _, vs, _, p⟩ := (show ObjOk X.prog X.w H s.heap a (.dK kvs) from I.hok a _ ea)
    obtain ⟨o, es, ep, h1, h2, _⟩ := p
    exact PySem.W.kia_one PySem.W.kitx_dict I.kIn ⟨o, h1, h2.1⟩ e (fun z => nomatch z) h
  | @dT a kvs ea =>
    cases (show u = Value.ref a from rx)
    obtain ⟨_, _, xs, _, o, es, ep, h1, h2, _⟩ := (show ObjOk X.prog X.w H s.heap a (.dT kvs) from I.hok a _ ea)
    exact PySem.W.kia_one PySem.W.kitx_dict I.kIn ⟨o, h1, h2.1⟩ e (fun z => nomatch z) h
  | @ins a C dx fs ea cl ha hn htk hm =>
    cases (show u = Value.ref a from rx)
    obtain ⟨mA, O, _⟩ := ins_get I.hok ea
    obtain ⟨od, J, _⟩ := O.look
    exact PySem.W.kia_one (PySem.W.kitx_own (cl.get _) cl.hd ha hn htk hm) I.kIn J e (fun z => nomatch z) h
end
end L2

namespace L2
open PySem PySem.Spec PyProof.Rows

/-! ### room -/
structure Room (k : Nat) (A : Around) : Prop where
  hd : A.handled = none
  dp : A.depth + 3 * k + 5 < recursionLimit
  un : A.units + 16 * k + 200 < cLine
theorem Room.mono {j k : Nat} {A : Around} (r : Room k A) (h : j ≤ k) : Room j A := ⟨r.hd, by have := r.dp; omega, by have := r.un; omega⟩
theorem Room.deeper {k : Nat} {A : Around} (r : Room (k + 1) A) (env : Env) : Room k (A.deeper env) :=
  ⟨r.hd, by have := r.dp; show A.depth + 1 + 3 * k + 5 < _; omega, by have := r.un; show A.units + 3 + 16 * k + 200 < _; omega⟩
theorem make_depth {A : Around} {C : Addr} {us : List Value} {kw : List (Str × Value)} : (A.under (.builtin "type.__call__" ⟨.ref C :: us, kw⟩)).depth = A.depth + 1 := by
  first | rfl | simp [Around.under, Code.weight, Code.isCreation, Code.isGuard, Code.isCaller, Code.frames, Code.isFrame, guardIds]
theorem make_units {A : Around} {C : Addr} {us : List Value} {kw : List (Str × Value)} : (A.under (.builtin "type.__call__" ⟨.ref C :: us, kw⟩)).units = A.units + 1 := by
  first | rfl | simp [Around.under, Code.cUnits, Code.frames, Code.isFrame]
theorem Room.make {k : Nat} {A : Around} (r : Room (k + 1) A) (C : Addr) (us : List Value) (kw : List (Str × Value)) : Room k (A.under (.builtin "type.__call__" ⟨.ref C :: us, kw⟩)) :=
  ⟨r.hd, by have := r.dp; rw [make_depth]; omega, by have := r.un; rw [make_units]; omega⟩
theorem Room.depth {k : Nat} {A : Around} (r : Room k A) : A.depth < recursionLimit := by have := r.dp; omega
theorem Room.units0 {k : Nat} {A : Around} (r : Room k A) : A.units < cLine := by have := r.un; omega

/-! ### argument lists and displays -/
def tNil : TA := fun _ H Q => Q [] H
def tCons (ta : TE) (tr : TA) : TA := fun σ H Q => ta σ H fun x H1 => tr σ H1 fun xs H2 => Q (x :: xs) H2
section
variable {X : Cx} {e : Expr} {es : List Expr} {te : TE} {t : TA} {pos : Pos}
theorem pa_nil : PA X [] tNil := fun _ _ _ _ H Q I h => Calls.spliced_nil ⟨[], H, I, .nil, h⟩
theorem pa_cons (ha : PE X e te) (hr : PA X es t) (hs : starEach (e :: es) X.env = (false, eval e X.env) :: starEach es X.env := by rfl) : PA X (e :: es) (tCons te t) := by
  intro pos pins s σ H Q I h
  rw [hs]
  show wpAny _ _ (spliced ((false, eval e X.env) :: backTo pos (starEach es X.env))) _ _ s
  refine Calls.spliced_cons (thn (ha pins s σ H _ I h) fun u s1 ⟨x, H1, I1, r1, q1⟩ => ?_)
  exact thn (hr pos pins s1 σ H1 _ I1 q1) fun us s2 ⟨xs, H2, I2, r2, q2⟩ => ⟨x :: xs, H2, I2, .cons r1 r2, q2⟩

/-- a tuple, a list of written items -/
def tTup (t : TA) : TE := fun σ H Q => t σ H fun xs H1 => xs.length ≤ sizeLine ∧ ∀ p, H1 p = none → Q (.ref p) (upd H1 p (.tup xs))
def tLst (t : TA) : TE := fun σ H Q => t σ H fun xs H1 => xs.length ≤ sizeLine ∧ ∀ p, H1 p = none → Q (.ref p) (upd H1 p (.lst xs))
theorem pe_tup {x1} (h : PA X es t) : PE X (.Tuple es x1 pos) (tTup t) := by
  intro pins s σ H Q I hq
  refine wpAny_Tuple_spliced (thn (h pos pins s σ H _ I hq) fun us s1 ⟨xs, H1, I1, r, z, q⟩ => ⟨by rw [← r.length]; exact z, ?_⟩)
  have hf : H1 s1.heap.objs.size = none := I1.hok.fresh (Nat.le_refl _)
  refine ⟨.ref s1.heap.objs.size, upd H1 s1.heap.objs.size (.tup xs), I1.laid (t' := s1.toks) (fun b u e => Heap.get?_push_of_some _ e) (Nat.le_refl _) ?_, rfl, q _ hf⟩
  exact ⟨z, us, r, ⟨_, Heap.get?_push_size _ rfl, rfl, _, rfl⟩⟩
theorem pe_lst (h : PA X es t) : PE X (.List es pos) (tLst t) := by
  intro pins s σ H Q I hq
  refine wpAny_List_spliced (thn (h pos pins s σ H _ I hq) fun us s1 ⟨xs, H1, I1, r, z, q⟩ => ⟨by rw [← r.length]; exact z, ?_⟩)
  have hf : H1 s1.heap.objs.size = none := I1.hok.fresh (Nat.le_refl _)
  refine ⟨.ref s1.heap.objs.size, upd H1 s1.heap.objs.size (.lst xs), I1.laid (t' := s1.toks) (fun b u e => Heap.get?_push_of_some _ e) (Nat.le_refl _) ?_, rfl, q _ hf⟩
  exact ⟨z, us, 0, r, Heap.get?_push_size _ rfl⟩
end

/-! ### what a def promises -/
/-- a def's promise: the bound arguments in the parameters' order, the heap, the wanted end, the wanted exception -/
abbrev Sp := List V → Hp → VK → XK → Prop
/-- how an exception lies behind a call (file 08 gives it): the callers' frames, abstract heap and state ahead of the call, the wish, the exception, the state -/
abbrev CXT := List Env → Hp → Shared → XK → Value → Shared → Prop

/-- the state at a call -/
structure Env0 (P : Program) (w : World) (K : PySem.W.Frag) (mg : Str → Option Value) (base : Heap) (A : Around) (outer : List Env) (s : Shared) (H : Hp) : Prop where
  frames : A.frames = some outer
  mod : Mod K mg base
  bs : ∀ b o, base.get? b = some o → s.heap.get? b = some o ∧ H b = none
  bsz : base.objs.size ≤ s.heap.objs.size
  funs : s.heap.FunFrames base outer
  frf : ∀ b ∈ frs outer, H b = none
  hok : HOk P w H s.heap
  bare : AllBare s.gens
/-- a call's end -/
def CE (outer : List Env) (P : Program) (w : World) (H : Hp) (s : Shared) (Q : VK) (u : Value) (s' : Shared) : Prop :=
  ∃ v H', s'.os = s.os ∧ AllBare s'.gens ∧ Un (frs outer) [] H H' s.heap s'.heap ∧ HOk P w H' s'.heap ∧ RelV v u ∧ Q v H'
def CR (CX : CXT) (outer : List Env) (P : Program) (w : World) (H : Hp) (s : Shared) (Q : VK) (E : XK) (r : Result) (s' : Shared) : Prop :=
  match r with
  | .ok (.ret u) => CE outer P w H s Q u s'
  | .ok _ => False
  | .error e => CX outer H s E e s'
structure FnOk (P : Program) (w : World) (K : PySem.W.Frag) (mg : Str → Option Value) (base : Heap) (CX : CXT) (k : Nat) (f : Addr) (fd : FuncData) (ps : List Str) (sp : Sp) : Prop where
  len : ∀ vs H Q E, sp vs H Q E → vs.length = ps.length
  run : ∀ (A : Around) (outer : List Env) (s : Shared) (H : Hp) (args : Args) (us : List Value) (vs : List V) (Q : VK) (E : XK), Room k A → Env0 P w K mg base A outer s H → BindsTo s fd args (ps.zip us) → Vals vs us → sp vs H Q E →
    codeAny (model P w) A (.call (.ref f) args) (CR CX outer P w H s Q E) s
theorem FnOk.mono {P : Program} {w : World} {K : PySem.W.Frag} {mg : Str → Option Value} {base : Heap} {CX : CXT} {j k : Nat} {f : Addr} {fd : FuncData} {ps : List Str} {sp : Sp} (F : FnOk P w K mg base CX j f fd ps sp) (h : j ≤ k) :
    FnOk P w K mg base CX k f fd ps sp := ⟨F.len, fun A outer s H args us vs Q E hr => F.run A outer s H args us vs Q E (hr.mono h)⟩
theorem Env0.make {P : Program} {w : World} {K : PySem.W.Frag} {mg : Str → Option Value} {base : Heap} {A : Around} {outer : List Env} {s : Shared} {H : Hp} (e : Env0 P w K mg base A outer s H) (C : Addr) (us : List Value) (kw : List (Str × Value)) :
    Env0 P w K mg base (A.under (.builtin "type.__call__" ⟨.ref C :: us, kw⟩)) outer s H := ⟨by first | exact e.frames | (simpa [Around.under, Code.envs, Code.isFrame, pushEnvs] using e.frames), e.mod, e.bs, e.bsz, e.funs, e.frf, e.hok, e.bare⟩
section
variable {X : Cx} {pins : List (Addr × Obj)} {σ : St} {H : Hp} {s s' : Shared}
/-- from a body: what a callee wants -/
theorem Inv.env0 (I : Inv X pins σ H s) : Env0 X.prog X.w X.K X.mg X.base X.A X.stack s H :=
  ⟨I.ok.frames, I.ok.mod, I.bs, Nat.le_trans I.ok.bsz I.sz, I.stack, I.stkFree, I.hok, I.bare⟩
/-- behind a call -/
theorem Inv.after {Q : VK} {u : Value} (I : Inv X pins σ H s) (h : CE X.stack X.prog X.w H s Q u s') : EP X pins σ Q u s' := by
  obtain ⟨v, H', os, bare, un, hok, r, q⟩ := h
  obtain ⟨hh, g, d, t, os'⟩ := s'
  obtain rfl : os' = s.os := os
  exact ⟨v, H', I.call (h' := hh) (g' := g) (d' := d) (t' := t) (ch := []) un hok bare (fun b z => absurd z (by simp)), r, q⟩
end

/-! ### calls -/
/-- f(..): the written arguments, then the defaults dvs; E: what is wanted of an exception -/
def tCall (sp : Sp) (dvs : List V) (E : XK) (t : TA) : TE := fun σ H Q => t σ H fun vs H1 => sp (vs ++ dvs) H1 Q E
/-- o.m(..) of an instance of the class at C -/
def tMeth (C : Addr) (m : Str) (sp : Sp) (dvs : List V) (E : XK) (ta : TE) (t : TA) : TE := fun σ H Q => ta σ H fun x H1 => ∃ a dx fs, x = .ref a ∧ H1 a = some (.ins C dx fs) ∧ fs.lookup m = none ∧
  t σ H1 fun vs H2 => sp (x :: (vs ++ dvs)) H2 Q E
/-- C(..): a new instance and its dict, then __init__ -/
def tMake (C : Addr) (sp : Sp) (dvs : List V) (E : XK) (t : TA) : TE := fun σ H Q => t σ H fun vs H1 => ∀ x dx, H1 x = none → H1 dx = none → dx ≠ x →
  sp (.ref x :: (vs ++ dvs)) (upd (upd H1 dx (.own x)) x (.ins C dx [])) (fun v H2 => v = .non ∧ Q (.ref x) H2) E

/-- how the parameters are bound: us the positional arguments, kw the keywords' values by name, ds the defaults that fill up -/
def Binds (K : PySem.W.Frag) (fd : FuncData) (ps : List Str) (ds : List Value) : Prop :=
  ∀ (s : Shared) (us : List Value), K.In s.heap → (us ++ ds).length = ps.length → BindsTo s fd ⟨us, []⟩ (ps.zip (us ++ ds))
/-- every parameter is given -/
theorem Binds.all {K : PySem.W.Frag} {fd : FuncData} {ps : List Str} (h : ∀ us : List Value, us.length = ps.length → bindArgs fd ⟨us, []⟩ = pure (ps.zip us)) : Binds K fd ps [] := fun s us _ hl => by
  rw [List.append_nil] at hl ⊢
  exact .of_eq (h us hl)

/-- an exception of a callee reaches what this body wants of exceptions -/
def Passes (CX : CXT) (X : Cx) (E : XK) : Prop := ∀ (pins : List (Addr × Obj)) (σ : St) (H : Hp) (s : Shared) (e : Value) (s' : Shared), Inv X pins σ H s → CX X.stack H s E e s' → X.xe e s'

section
variable {X : Cx} {CX : CXT} {k : Nat} {f C : Addr} {fd : FuncData} {ps : List Str} {sp : Sp} {dvs : List V} {ds : List Value} {E : XK} {x m : Str} {p pos apos : Pos} {e o : Expr} {es : List Expr} {ta : TE} {t : TA}

/-- the callee runs -/
theorem run_fn {pins : List (Addr × Obj)} {σ : St} {H : Hp} {s : Shared} {Q : VK} {us : List Value} {vs : List V} (F : FnOk X.prog X.w X.K X.mg X.base CX k f fd ps sp) (hr : Room k X.A) (hb : Binds X.K fd ps ds) (hd : Vals dvs ds) (hx : Passes CX X E)
    (I : Inv X pins σ H s) (r : Vals vs us) (h : sp (vs ++ dvs) H Q E) : wpAny (model X.prog X.w) X.A (call (.ref f) us) (EP X pins σ Q) X.xe s := by
  have r2 : Vals (vs ++ dvs) (us ++ ds) := r.append hd
  have hl : (us ++ ds).length = ps.length := by rw [← r2.length]; exact F.len _ _ _ _ h
  refine wpAny_call (codeAny_mono (F.run X.A X.stack s H ⟨us, []⟩ (us ++ ds) (vs ++ dvs) Q E hr I.env0 (hb s us I.kIn hl) r2 h) fun r s' hq => ?_)
  cases r with
  | error e => exact hx pins σ H s e s' I hq
  | ok fl =>
    cases fl with
    | ret u => exact I.after hq
    | next => exact False.elim hq
    | brk => exact False.elim hq
    | cont => exact False.elim hq

theorem pe_call (F : FnOk X.prog X.w X.K X.mg X.base CX k f fd ps sp) (hr : Room k X.A) (hg : Gl X x) (hm : X.mg x = some (.ref f)) (hk : PySem.W.keepIn X.K (.ref f) = true) (hb : Binds X.K fd ps ds) (hd : Vals dvs ds) (hx : Passes CX X E)
    (ha : PA X (e :: es) t) (hdb : (x == ("__debug__" : Str)) = false := by decide) (he : starEach (e :: es) X.env = (false, eval e X.env) :: starEach es X.env := by rfl) (hpl : (backTo pos (starEach es X.env)).any (·.1) = false := by rfl) :
    PE X (.Call (.Name x p) (e :: es) [] pos) (tCall sp dvs E t) := by
  intro pins s σ H Q I h
  refine wpAny_Call_Name_kw (ld_glob I hg hm ?_ hdb)
  refine PySem.W.callWith_K (h₀ := X.base) I.ok.mod.kin hk (thn (ha pos pins s σ H _ I h) fun us s1 ⟨vs, H1, I1, r, q⟩ => ⟨I1.kIn, ?_⟩) he hpl
  exact run_fn F hr hb hd hx I1 r q
/-- what a class must have to be made -/
structure Mk (K : PySem.W.Frag) (C f : Addr) : Prop where
  makes : PySem.W.makesIn K C = true
  init : PySem.W.findIn K (.ref C) "__init__" = some (some (.ref f))
  fn : PySem.W.isFn K (.ref f) = true
  kp : PySem.W.keepIn K (.ref C) = true

theorem run_make {pins : List (Addr × Obj)} {σ : St} {H : Hp} {s : Shared} {Q : VK} {us : List Value} {vs : List V} (M : Mk X.K C f) (F : FnOk X.prog X.w X.K X.mg X.base CX k f fd ps sp) (hr : Room (k + 1) X.A) (hb : Binds X.K fd ps ds) (hd : Vals dvs ds)
    (hx : Passes CX X E) (I : Inv X pins σ H s) (r : Vals vs us)
    (h : ∀ x dx, H x = none → H dx = none → dx ≠ x → sp (.ref x :: (vs ++ dvs)) (upd (upd H dx (.own x)) x (.ins C dx [])) (fun v H2 => v = .non ∧ Q (.ref x) H2) E) :
    wpAny (model X.prog X.w) X.A (call (.ref C) us) (EP X pins σ Q) X.xe s := by
  have hq := h (s.heap.objs.size + 1) s.heap.objs.size (I.hok.fresh (Nat.le_succ _)) (I.hok.fresh (Nat.le_refl _)) (Nat.ne_of_lt (Nat.lt_succ_self _))
  have I2 := Inv.made (C := C) I
  have r2 : Vals (V.ref (s.heap.objs.size + 1) :: (vs ++ dvs)) (Value.ref (s.heap.objs.size + 1) :: (us ++ ds)) := .cons rfl (r.append hd)
  have hl : (Value.ref (s.heap.objs.size + 1) :: us ++ ds).length = ps.length := by
    have e := r2.length
    rw [F.len _ _ _ _ hq] at e
    exact e.symm
  refine wpAny_call (make_map (f := f) I.kIn M.makes M.init (beq_iff_eq.mp M.fn) (codeAny_mono (F.run _ X.stack _ _ ⟨Value.ref (s.heap.objs.size + 1) :: us, []⟩ (Value.ref (s.heap.objs.size + 1) :: (us ++ ds)) _ _ E (hr.make C us [])
    (I2.env0.make C us []) (hb _ (Value.ref (s.heap.objs.size + 1) :: us) I2.kIn hl) r2 hq) fun r s' hq' => ?_))
  cases r with
  | error e => exact hx pins σ _ _ e s' I2 hq'
  | ok fl =>
    cases fl with
    | ret u =>
      obtain ⟨v, H', I3, rv, ev, q3⟩ := I2.after hq'
      subst ev
      exact ⟨rv, ⟨V.ref (s.heap.objs.size + 1), H', I3, rfl, q3⟩⟩
    | next => exact False.elim hq'
    | brk => exact False.elim hq'
    | cont => exact False.elim hq'
theorem pe_make (M : Mk X.K C f) (F : FnOk X.prog X.w X.K X.mg X.base CX k f fd ps sp) (hr : Room (k + 1) X.A) (hg : Gl X x) (hm : X.mg x = some (.ref C)) (hb : Binds X.K fd ps ds) (hd : Vals dvs ds) (hx : Passes CX X E)
    (ha : PA X (e :: es) t) (hdb : (x == ("__debug__" : Str)) = false := by decide) (he : starEach (e :: es) X.env = (false, eval e X.env) :: starEach es X.env := by rfl) (hpl : (backTo pos (starEach es X.env)).any (·.1) = false := by rfl) :
    PE X (.Call (.Name x p) (e :: es) [] pos) (tMake C sp dvs E t) := by
  intro pins s σ H Q I h
  refine wpAny_Call_Name_kw (ld_glob I hg hm ?_ hdb)
  refine PySem.W.callWith_K (h₀ := X.base) I.ok.mod.kin M.kp (thn (ha pos pins s σ H _ I h) fun us s1 ⟨vs, H1, I1, r, q⟩ => ⟨I1.kIn, ?_⟩) he hpl
  exact run_make M F hr hb hd hx I1 r q
end

/-! ### keywords -/
/-- the values of the keywords, from the left -/
def PK (X : Cx) (kws : List Keyword) (t : TA) : Prop :=
  ∀ (pos : Pos) (pins : List (Addr × Obj)) (s : Shared) (σ : St) (H : Hp) (Q : List V → Hp → Prop), Inv X pins σ H s → t σ H Q → wpAny (model X.prog X.w) X.A (evalAll ((backToKw pos (keywordEach kws X.env)).map (·.2))) (AP X pins σ Q) X.xe s
section
variable {X : Cx} {CX : CXT} {k : Nat} {f C : Addr} {fd : FuncData} {ps ks : List Str} {sp : Sp} {E : XK} {x m : Str} {p pos apos kpos : Pos} {e o : Expr} {es : List Expr} {kws : List Keyword} {te ta : TE} {t tk : TA} {nm : Option Str}
/-- how a call with keywords binds: g puts the positional values us and the keywords' values ws (names ks) in the parameters' order, defaults among them -/
structure KBinds (K : PySem.W.Frag) (fd : FuncData) (ps ks : List Str) (g : List Value → List Value → List Value) (gV : List V → List V → List V) : Prop where
  to : ∀ (s : Shared) (us ws : List Value), K.In s.heap → (g us ws).length = ps.length → BindsTo s fd ⟨us, ks.zip ws⟩ (ps.zip (g us ws))
  rel : ∀ {vs : List V} {us : List Value} {zs : List V} {ws : List Value}, Vals vs us → Vals zs ws → Vals (gV vs zs) (g us ws)
def tCallK (sp : Sp) (gV : List V → List V → List V) (E : XK) (t tk : TA) : TE := fun σ H Q => t σ H fun vs H1 => tk σ H1 fun zs H2 => sp (gV vs zs) H2 Q E
variable {g : List Value → List Value → List Value} {gV : List V → List V → List V}
end

/-! ### a def's body keeps its promise -/
/-- names: the parameters first -/
structure FnScope (N P : List Str) (sc : Scope) : Prop where
  kind : sc.kind = .function
  co : sc.isCoroutine = false
  gen : sc.isGenerator = false
  nd : N.Nodup
  pre : N.take P.length = P
  par : ∀ x ∈ P, sc.names.lookup x = some .local ∨ sc.names.lookup x = some .cell
  nofree : ∀ y ∈ sc.names, y.2 ≠ .free

theorem bindL_out {kindOf : Str → Option NameKind} {x : Str} : ∀ {binds : List (Str × Value)} {m : Str → Option Value}, (∀ v, (x, v) ∉ binds) → bindL kindOf binds m x = m x
  | [], _, _ => rfl
  | (n, v) :: r, m, h => by
    unfold bindL
    rw [bindL_out fun w hw => h w (List.mem_cons_of_mem _ hw)]
    split
    · have : x ≠ n := by rintro rfl; exact h v List.mem_cons_self
      simp [this]
    · rfl
theorem bindC_out {kindOf : Str → Option NameKind} {x : Str} : ∀ {binds : List (Str × Value)} {m : Str → Option Value}, (∀ v, (x, v) ∉ binds) → bindC kindOf binds m x = m x
  | [], _, _ => rfl
  | (n, v) :: r, m, h => by
    unfold bindC
    rw [bindC_out fun w hw => h w (List.mem_cons_of_mem _ hw)]
    split
    · rfl
    · have : x ≠ n := by rintro rfl; exact h v List.mem_cons_self
      simp [this]
theorem bindL_get {kindOf : Str → Option NameKind} {x : Str} {v : Value} : ∀ {P : List Str} {vs : List Value} {i : Nat} {m : Str → Option Value}, P.Nodup → P[i]? = some x → vs[i]? = some v → kindOf x = some .local →
    bindL kindOf (P.zip vs) m x = some v
  | [], _, _, _, _, h, _, _ => by simp at h
  | _ :: _, [], _, _, _, _, h, _ => by simp at h
  | p :: P, w :: vs, 0, m, nd, h1, h2, hk => by
    simp at h1 h2; subst h1; subst h2
    show bindL kindOf ((p, w) :: P.zip vs) m p = _
    unfold bindL
    rw [bindL_out fun v hv => (List.nodup_cons.mp nd).1 (List.of_mem_zip hv).1, if_pos hk]
    simp
  | p :: P, w :: vs, i + 1, m, nd, h1, h2, hk => by
    show bindL kindOf ((p, w) :: P.zip vs) m x = _
    unfold bindL
    exact bindL_get (i := i) (List.nodup_cons.mp nd).2 (by simpa using h1) (by simpa using h2) hk
theorem bindC_get {kindOf : Str → Option NameKind} {x : Str} {v : Value} : ∀ {P : List Str} {vs : List Value} {i : Nat} {m : Str → Option Value}, P.Nodup → P[i]? = some x → vs[i]? = some v → kindOf x ≠ some .local →
    bindC kindOf (P.zip vs) m x = some v
  | [], _, _, _, _, h, _, _ => by simp at h
  | _ :: _, [], _, _, _, _, h, _ => by simp at h
  | p :: P, w :: vs, 0, m, nd, h1, h2, hk => by
    simp at h1 h2; subst h1; subst h2
    show bindC kindOf ((p, w) :: P.zip vs) m p = _
    unfold bindC
    rw [bindC_out fun v hv => (List.nodup_cons.mp nd).1 (List.of_mem_zip hv).1, if_neg hk]
    simp
  | p :: P, w :: vs, i + 1, m, nd, h1, h2, hk => by
    show bindC kindOf ((p, w) :: P.zip vs) m x = _
    unfold bindC
    exact bindC_get (i := i) (List.nodup_cons.mp nd).2 (by simpa using h1) (by simpa using h2) hk

/-- the names' values at the entry -/
def start (N : List Str) (vs : List V) : St := vs.map some ++ List.replicate (N.length - vs.length) none

/-- the context of a def's body, at its entry; an exception leaves the frame, then lies as CX says -/
def cxOf (CX : CXT) (P : Program) (w : World) (K : PySem.W.Frag) (mg : Str → Option Value) (base : Heap) (N : List Str) (qual : Str) (scope : Scope) (f : Addr) (cd : Value) (A : Around) (outer : List Env) (s : Shared) (H : Hp) (E : XK) : Cx where
  prog := P
  w := w
  K := K
  mg := mg
  base := base
  A := A.deeper (envOfC qual scope s.heap.objs.size f cd)
  N := N
  s₀ := s
  H₀ := H
  env := envOfC qual scope s.heap.objs.size f cd
  outer := outer
  stack := envOfC qual scope s.heap.objs.size f cd :: outer
  ex := []
  calm := true
  fn := fun _ => true
  pn := []
  xe := fun e s' => wpAny (model P w) (A.deeper (envOfC qual scope s.heap.objs.size f cd)) (leaving (envOfC qual scope s.heap.objs.size f cd) e) (fun _ s'' => CX outer H s E e s'') (fun e' s'' => CX outer H s E e' s'') s'

theorem cell_has {sc : Scope} {n : Nat} {x : Str} (h : sc.names.lookup x = some .cell) : ∃ c, (cellsFrom n sc.names []).lookup x = some c := by
  have q := PySem.W.cellsFrom_some sc.names n [] (.inl h)
  exact Option.isSome_iff_exists.mp q

theorem inv_start {CX : CXT} {P : Program} {w : World} {K : PySem.W.Frag} {mg : Str → Option Value} {base : Heap} {N ps : List Str} {qual : Str} {scope : Scope} {f : Addr} {cd : Value} {A : Around} {outer : List Env} {s s1 : Shared} {H : Hp} {E : XK} {us : List Value} {vs : List V}
    (S : FnScope N ps scope) (hd : A.handled = none) (e0 : Env0 P w K mg base A outer s H) (hl : vs.length = ps.length) (r : Vals vs us)
    (x : InCallC s s.heap.objs.size (bindL (envOfC qual scope s.heap.objs.size f cd).kindOf (ps.zip us) fun _ => none) (cellsFrom (s.heap.objs.size + 1) scope.names []) (bindC (envOfC qual scope s.heap.objs.size f cd).kindOf (ps.zip us) fun _ => none) s1) :
    Inv (cxOf CX P w K mg base N qual scope f cd A outer s H E) [] (start N vs) H s1 := by
  have hpl : ps.length ≤ N.length := by have := congrArg List.length S.pre; rw [List.length_take] at this; omega
  obtain ⟨h1, tk, rfl, hk⟩ := x.done
  have noA : ∀ b : Addr, b ∉ (cxOf CX P w K mg base N qual scope f cd A outer s H E).ex := fun b z => absurd (show b ∈ ([] : List Addr) from z) (by simp)
  refine ⟨⟨e0.mod, S.kind, rfl, rfl, Nat.le_refl _, fun y z c h1 h2 => ?_, fun y hy => ?_, fun y c _ h => ?_, fun _ => hd, Around.frames_deeper e0.frames, .inr ⟨rfl, rfl⟩, fun b z => absurd z (noA b), e0.bs, e0.bsz, fun b _ _ => noA b, fun b z => absurd z (noA b), e0.funs, e0.frf⟩,
    rfl, e0.bare, Un.kept hk, ⟨_, x.toInCall.ns, fun i y v h1 h2 h3 => ?_⟩, fun y c h => ⟨_, x.cell y c h⟩, e0.hok.fresh (Nat.le_refl _), fun y c h => ?_, fun p hp => absurd (show p ∈ ([] : List (Addr × Obj)) from hp) (by simp), e0.hok.kept hk, ?_⟩
  · exact name_of_addr x.apart (PySem.mem_of_lookup h1) (PySem.mem_of_lookup h2)
  · have hy : scope.names.lookup y = some .cell ∨ scope.names.lookup y = some .free := hy
    rcases hy with hy | hy
    · exact cell_has hy
    · exact absurd rfl (S.nofree _ (PySem.mem_of_lookup hy))
  · exact Nat.le_of_lt (x.above y c (PySem.mem_of_lookup h))
  · have hi : i < vs.length := by
      unfold start at h2
      by_cases hi : i < vs.length
      · exact hi
      · rw [List.getElem?_append_right (by simpa using hi)] at h2
        rw [List.getElem?_replicate] at h2
        split at h2 <;> cases h2
    have ha : vs[i]? = some v := by
      unfold start at h2
      rw [List.getElem?_append_left (by simpa using hi), List.getElem?_map] at h2
      cases e : vs[i]? with
      | none => rw [e] at h2; cases h2
      | some a => rw [e] at h2; cases h2; rfl
    obtain ⟨u, hu, rv⟩ := r.get ha
    have hp : ps[i]? = some y := by
      rw [← S.pre, List.getElem?_take_of_lt (by omega)]; exact h1
    have ndP : ps.Nodup := by rw [← S.pre]; exact S.nd.sublist (List.take_sublist _ _)
    refine ⟨u, rv, ?_⟩
    rcases S.par y (List.mem_of_getElem? hp) with k | k
    · exact .inl ⟨k, bindL_get ndP hp hu k⟩
    · obtain ⟨c, e⟩ := cell_has (n := s.heap.objs.size + 1) k
      refine .inr ⟨.inl k, c, e, ?_⟩
      have q := x.cell y c e
      rw [bindC_get ndP hp hu (by show scope.names.lookup y ≠ _; rw [k]; decide)] at q
      exact q
  · exact e0.hok.fresh (Nat.le_of_lt (x.above y c (PySem.mem_of_lookup h)))
  · unfold start
    show _ = N.length
    rw [List.length_append, List.length_map, List.length_replicate]
    omega

/-- THE RULE: a def (or a method) of the text, by its body. The body's reading t is chosen for each entry; it is run at the parameters' values -/
theorem fn_of {CX : CXT} {P : Program} {w : World} {K : PySem.W.Frag} {mg : Str → Option Value} {base : Heap} {k : Nat} {f : Addr} {name qual : Str} {params : Arguments} {body : List Stmt} {scope : Scope} {dV kV doc pm cdv ct oc : Value} {an od : Option Addr}
    {osl : Array (Option Value)} {N ps : List Str} {sp : Sp} (lk : K.lookup f = some ⟨oc, od, .func (PySem.W.fnOf name qual params body scope dV kV doc pm an cdv ct), osl⟩) (hcd : PySem.W.codeIn K cdv qual = true) (S : FnScope N ps scope)
    (len : ∀ vs H Q E, sp vs H Q E → vs.length = ps.length)
    (hbody : ∀ (A : Around) (outer : List Env) (s : Shared) (H : Hp) (vs : List V) (Q : VK) (E : XK), Room k (A.deeper (envOfC qual scope s.heap.objs.size f cdv)) → sp vs H Q E →
      ∃ t, PSs (cxOf CX P w K mg base N qual scope f cdv A outer s H E) body t ∧ t { nx := fun _ H' => Q .non H', rt := Q } (start N vs) H) :
    FnOk P w K mg base CX (k + 1) f (PySem.W.fnOf name qual params body scope dV kV doc pm an cdv ct) ps sp := by
  refine ⟨len, fun A outer s H args us vs Q E hr e0 hb r hsp => ?_⟩
  have hl := len _ _ _ _ hsp
  have KX : K.In s.heap := e0.mod.kin.keeps fun b o e => (e0.bs b o e).1
  have lim : s.heap.NoLimit := e0.mod.nolimit.keeps fun b o e => (e0.bs b o e).1
  have hkind : ∀ y ∈ ps.zip us, scope.names.lookup y.1 = some .local ∨ (scope.names.lookup y.1 = some .cell ∧ ((cellsFrom (s.heap.objs.size + 1) scope.names []).lookup y.1).isSome = true) := fun ⟨n, v⟩ hy => by
    rcases S.par n (List.of_mem_zip hy).1 with q | q
    · exact .inl q
    · exact .inr ⟨q, PySem.W.cellsFrom_some _ _ _ (.inl q)⟩
  refine codeAny_call_function hr.depth (KX _ _ lk) rfl S.co S.gen rfl (PySem.W.codeRec_of KX hcd) (hb _ _ _ _ ?_)
  refine wpAny_newFunctionEnv_cells S.kind hkind fun env he s1 x => ?_
  subst he
  refine ⟨lim.keeps x.toInCall.keep, codeAny_func ?_⟩
  obtain ⟨t, ht, hq⟩ := hbody A outer s H vs Q E (hr.deeper _) hsp
  have I : Inv (cxOf CX P w K mg base N qual scope f cdv A outer s H E) [] (start N vs) H s1 := inv_start S hr.hd e0 hl r x
  refine wpAny_mono (ht [] s1 (start N vs) H _ I hq) (fun fl s' hs => ?_) fun e s' hs => hs
  have fin : ∀ {σ' : St} {H' : Hp} {v : V} {u : Value}, Inv (cxOf CX P w K mg base N qual scope f cdv A outer s H E) [] σ' H' s' → RelV v u → Q v H' → CE outer P w H s Q u s' :=
    fun {σ' H' v u} J rv q => ⟨v, H', J.os, J.bare, J.base, J.hok, rv, q⟩
  cases fl with
  | ret u =>
    obtain ⟨v, σ', H', J, rv, q⟩ := hs
    exact fin J rv q
  | next =>
    obtain ⟨σ', H', J, q⟩ := hs
    exact fin (v := V.non) (u := Value.none) J rfl q
  | brk =>
    obtain ⟨_, _, _, q⟩ := hs
    exact False.elim q
  | cont =>
    obtain ⟨_, _, _, q⟩ := hs
    exact False.elim q
end L2

namespace L2
open PySem PySem.Spec PyProof.Rows
section
variable {X : Cx} {x : Str} {p pos : Pos} {e : Expr} {es : List Expr} {t : TA} {id T : String} {r : List V → Hp → VK → Prop}

def tCB (r : List V → Hp → VK → Prop) (t : TA) : TE := fun σ H Q => t σ H fun vs H1 => r vs H1 Q
/-- f(e, ..), f a built-in function -/
theorem pe_callB (hc : CallR X (.builtin id) r) (hg : Gl X x) (hm : X.mg x = none) (hv : bootBuiltins x = some (.builtin id)) (ha : PA X (e :: es) t) (hn : x ≠ "__name__" := by decide) (hdb : (x == ("__debug__" : Str)) = false := by decide)
    (he : starEach (e :: es) X.env = (false, eval e X.env) :: starEach es X.env := by rfl) (hpl : (backTo pos (starEach es X.env)).any (·.1) = false := by rfl) : PE X (.Call (.Name x p) (e :: es) [] pos) (tCB r t) := by
  intro pins s σ H Q I h
  refine wpAny_Call_Name_kw (ld_blt I hg hm hv ?_ hn hdb)
  exact PyProof.Rows.callWith_builtin1 (thn (ha pos pins s σ H _ I h) fun us s1 ⟨vs, H1, I1, r1, q1⟩ => hc pins s1 σ H1 vs us Q I1 r1 q1) he hpl
/-- T(e, ..), T a built-in type -/
theorem pe_callTy (hc : CallR X (.type T) r) (hg : Gl X x) (hm : X.mg x = none) (hv : bootBuiltins x = some (.type T)) (ha : PA X (e :: es) t) (hn : x ≠ "__name__" := by decide) (hdb : (x == ("__debug__" : Str)) = false := by decide)
    (he : starEach (e :: es) X.env = (false, eval e X.env) :: starEach es X.env := by rfl) (hpl : (backTo pos (starEach es X.env)).any (·.1) = false := by rfl) : PE X (.Call (.Name x p) (e :: es) [] pos) (tCB r t) := by
  intro pins s σ H Q I h
  refine wpAny_Call_Name_kw (ld_blt I hg hm hv ?_ hn hdb)
  exact PyProof.Rows.callWith_type1 (thn (ha pos pins s σ H _ I h) fun us s1 ⟨vs, H1, I1, r1, q1⟩ => hc pins s1 σ H1 vs us Q I1 r1 q1) he hpl
end
end L2

namespace HT
open PySem PyProof.Rows

/-- t < u of tuples of ints -/
def lexLt : List Int → List Int → Bool
  | [], [] => false
  | [], _ :: _ => true
  | _ :: _, [] => false
  | x :: xs, y :: ys => if x = y then lexLt xs ys else decide (x < y)
section
open PySem.SeqAt
open PySem.AutoSeq1 (wpAny_loadPart')
open PySem.MeetsSeq PySem.MeetsSeq2 PySem.MeetsSeq3

end

section
variable {prog : Program} {w : World} {A : Around} {E : Value → Shared → Prop} {s : Shared}

/-! ### t[a:b], not the whole -/
/-- a slice's bound as a place among n (d where it is left out) -/
def sIx (n d : Nat) : Option Int → Nat
  | none => d
  | some v => if v < 0 then (v + (n : Int)).toNat else min v.toNat n
theorem sIx_none (n d : Nat) : sIx n d none = d := rfl
theorem sIx_nat (n d k : Nat) : sIx n d (some (k : Int)) = min k n := by
  show (if (k : Int) < 0 then ((k : Int) + (n : Int)).toNat else min (k : Int).toNat n) = min k n
  rw [if_neg (by omega), Int.toNat_natCast]
end
end HT

namespace L2
open PySem PySem.Spec PyProof.Rows

/-! ### the parts of a slice -/
abbrev TO := St → Hp → (Option Int → Hp → Prop) → Prop
/-- a slice's part (left out, or an int) -/
def PO (X : Cx) (e : Option Expr) (t : TO) : Prop :=
  ∀ (pins : List (Addr × Obj)) (s : Shared) (σ : St) (H : Hp) (Q : Option Int → Hp → Prop), Inv X pins σ H s → t σ H Q →
    wpAny (model X.prog X.w) X.A (evalPart e X.env) (fun u s' => ∃ o H', Inv X pins σ H' s' ∧ IsPart u o ∧ Q o H') X.xe s
def tNoPart : TO := fun _ H Q => Q none H
def tPart (t : TE) : TO := fun σ H Q => t σ H fun x H1 => ∃ i, x = .int i ∧ Q (some i) H1

section
variable {X : Cx} {e : Expr} {te : TE} {lo hi : Option Expr} {tl th : TO} {pos p2 : Pos}

theorem po_none : PO X none tNoPart := by
  intro pins s σ H Q I h
  rw [evalPart_none]
  exact wpAny_pure ⟨none, H, I, .none, h⟩
theorem po_some (h : PE X e te) : PO X (some e) (tPart te) := by
  intro pins s σ H Q I hw
  rw [evalPart_some]
  refine thn (h pins s σ H _ I hw) fun u s1 ⟨x, H1, I1, r1, q1⟩ => ?_
  obtain ⟨i, rfl, q⟩ := q1
  obtain ⟨t, rfl⟩ := r1
  exact ⟨some i, H1, I1, .int i t, q⟩

/-- what a slice of a value is, by values: the slice object stands at sl -/
def SlR (X : Cx) (r : V → Option Int → Option Int → Hp → VK → Prop) : Prop :=
  ∀ (pins : List (Addr × Obj)) (s : Shared) (σ : St) (H : Hp) (x : V) (v vl vu : Value) (lo hi : Option Int) (sl : Addr) (Q : VK), Inv X pins σ H s → RelV x v → s.heap.IsSliceOf sl vl vu .none → IsPart vl lo → IsPart vu hi → r x lo hi H Q →
    ∃ T id, typeLookup (.type T) "__getitem__" = pure (some (.builtin id)) ∧ s.TypeIs v T ∧ wpAny (model X.prog X.w) X.A (getItem v (.ref sl)) (EP X pins σ Q) X.xe s
def tSl (r : V → Option Int → Option Int → Hp → VK → Prop) (te : TE) (tl th : TO) : TE := fun σ H Q => te σ H fun x H1 => tl σ H1 fun l H2 => th σ H2 fun u H3 => r x l u H3 Q
/-- a[lo:hi], any a -/
theorem pe_slice {r : V → Option Int → Option Int → Hp → VK → Prop} (hr : SlR X r) (he : PE X e te) (hl : PO X lo tl) (hu : PO X hi th) : PE X (.Subscript e (.Slice lo hi none p2) pos) (tSl r te tl th) := by
  intro pins s σ H Q I h
  refine Subscript_ (thn (he pins s σ H _ I h) fun v s1 ⟨x, H1, I1, r1, q1⟩ => ?_)
  refine wpAny_Slice (thn (hl pins s1 σ H1 _ I1 q1) fun vl s2 ⟨l, H2, I2, pl, q2⟩ => thn (hu pins s2 σ H2 _ I2 q2) fun vu s3 ⟨u, H3, I3, pu, q3⟩ => ?_)
  rw [evalPart_none]
  refine wpAny_pure ?_
  have I4 : Inv X pins σ H3 { s3 with heap := s3.heap.push { cls := .type "slice", data := .fields #[vl, vu, .none] } } := I3.kept (t' := s3.toks) fun b ob q => Heap.get?_push_of_some _ q
  obtain ⟨T, id, hT, ht, hg⟩ := hr pins { s3 with heap := s3.heap.push { cls := .type "slice", data := .fields #[vl, vu, .none] } } σ H3 x v vl vu l u s3.heap.objs.size Q I4 r1 (Heap.IsSliceOf.new ..) pl pu q3
  show wpAny (model X.prog X.w) X.A (subscriptTail e (.Slice lo hi none p2) v (.ref s3.heap.objs.size)) (EP X pins σ Q) X.xe { s3 with heap := s3.heap.push { cls := .type "slice", data := .fields #[vl, vu, .none] } }
  exact tail_any (ops := [.ref s3.heap.objs.size, v]) ht hT hg (by with_unfolding_all rfl)

/-- the items of xs[lo:hi] -/
def cutV (xs : List V) (lo hi : Option Int) : List V := (xs.drop (HT.sIx xs.length 0 lo)).take (HT.sIx xs.length xs.length hi - HT.sIx xs.length 0 lo)
theorem cutV_length (xs : List V) (lo hi : Option Int) : (cutV xs lo hi).length ≤ xs.length := by
  unfold cutV
  rw [List.length_take, List.length_drop]
  omega
/-- t[lo:hi], not the whole of it (the whole would be t itself) -/
def rSlT (K : PySem.W.Frag) : V → Option Int → Option Int → Hp → VK → Prop := fun x lo hi H Q => ∃ a xs, x = .ref a ∧ SqT K H a xs ∧
  ¬ (HT.sIx xs.length 0 lo = 0 ∧ HT.sIx xs.length xs.length hi = xs.length) ∧ ∀ p, H p = none → Q (.ref p) (upd H p (.tup (cutV xs lo hi)))
/-! ### t < u, t + u -/
def rLtT (K : PySem.W.Frag) : R2 := fun x y H Q => ∃ a b ns ms, x = .ref a ∧ y = .ref b ∧ SqT K H a (ns.map V.int) ∧ SqT K H b (ms.map V.int) ∧ Q (.bl (HT.lexLt ns ms)) H
/-- t + u, t not empty: u empty gives t itself -/
def rCatT (K : PySem.W.Frag) : R2 := fun x y H Q => ∃ a b xs ys, x = .ref a ∧ y = .ref b ∧ SqT K H a xs ∧ SqT K H b ys ∧ xs ≠ [] ∧ xs.length + ys.length ≤ sizeLine ∧
  (ys = [] → Q (.ref a) H) ∧ (ys ≠ [] → ∀ p, H p = none → Q (.ref p) (upd H p (.tup (xs ++ ys))))
end
end L2

namespace L2
open PySem PySem.Spec PyProof.Rows

/-! ### places -/
/-- the place that an index of any sign means -/
def ixN (n : Nat) (i : Int) : Option Nat := if 0 ≤ i then (if i < n then some i.toNat else none) else if -(n : Int) ≤ i then some (i + n).toNat else none
def atI {α : Type} (xs : List α) (i : Int) : Option α := (ixN xs.length i).bind fun j => xs[j]?
theorem ixN_seq {n : Nat} {i : Int} {j : Nat} (h : ixN n i = some j) : seqIndex? i n = some j ∧ j < n ∧ -(n : Int) ≤ i ∧ i < n := by
  unfold ixN at h
  by_cases h0 : 0 ≤ i
  · rw [if_pos h0] at h
    by_cases h1 : i < n
    · rw [if_pos h1] at h
      have e : i.toNat = j := Option.some.inj h
      exact ⟨by rw [seqIndex_of h0 h1, e], by omega, by omega, h1⟩
    · rw [if_neg h1] at h; cases h
  · rw [if_neg h0] at h
    by_cases h1 : -(n : Int) ≤ i
    · rw [if_pos h1] at h
      have e : (i + n).toNat = j := Option.some.inj h
      exact ⟨by rw [seqIndex_neg (by omega) h1, e], by omega, h1, by omega⟩
    · rw [if_neg h1] at h; cases h
theorem atI_get {α : Type} {xs : List α} {i : Int} {v : α} (h : atI xs i = some v) : ∃ j, seqIndex? i xs.length = some j ∧ xs[j]? = some v ∧ j < xs.length ∧ -(xs.length : Int) ≤ i ∧ i < xs.length := by
  unfold atI at h
  cases e : ixN xs.length i with
  | none => rw [e] at h; cases h
  | some j =>
    rw [e] at h
    obtain ⟨h1, h2, h3, h4⟩ := ixN_seq e
    exact ⟨j, h1, h, h2, h3, h4⟩
theorem atI_nat {α : Type} {xs : List α} {j : Nat} {v : α} (h : xs[j]? = some v) : atI xs (j : Int) = some v := by
  have hj : j < xs.length := (List.getElem?_eq_some_iff.mp h).1
  have e : ixN xs.length (j : Int) = some j := by
    unfold ixN
    rw [if_pos (by omega), if_pos (by omega)]; simp
  unfold atI; rw [e]; exact h
/-! ### what may be subscripted -/
/-- what stands as an index of a plain subscript -/
def PlainIx (b : Expr) : Prop := ∀ o i, subscripted b false o i = operate [o, i] (getItem o i)
/-- a subscript by values -/
def IxR (X : Cx) (r : R2) : Prop :=
  ∀ (value slice : Expr) (pins : List (Addr × Obj)) (s : Shared) (σ : St) (H : Hp) (x y : V) (v u : Value) (Q : VK), Inv X pins σ H s → RelV x v → RelV y u → r x y H Q →
    subscripted slice false v u = operate [v, u] (getItem v u) → wpAny (model X.prog X.w) X.A (subscriptTail value slice v u) (EP X pins σ Q) X.xe s
/-- a call of a builtin's method by values: the receiver, the arguments -/
def MtR (X : Cx) (id : String) (r : V → List V → Hp → VK → Prop) : Prop :=
  ∀ (pins : List (Addr × Obj)) (s : Shared) (σ : St) (H : Hp) (x : V) (xs : List V) (v : Value) (us : List Value) (Q : VK), Inv X pins σ H s → RelV x v → Vals xs us → r x xs H Q →
    wpAny (model X.prog X.w) X.A (call (.builtin id) (v :: us)) (EP X pins σ Q) X.xe s
section
variable {X : Cx} {a b : Expr} {ta tb : TE} {pos : Pos}
/-- a[b] -/
theorem pe_ix {r : R2} (hr : IxR X r) (ha : PE X a ta) (hb : PE X b tb) (hs : PlainIx b) : PE X (.Subscript a b pos) (tOp r ta tb) := by
  intro pins s σ H Q I h
  exact Subscript_ (binT ha hb I h fun v u s2 x y H2 I2 rx ry q => hr a b pins s2 σ H2 x y v u Q I2 rx ry q (hs _ _))

def rIxL (K : PySem.W.Frag) : R2 := fun x y H Q => ∃ p xs i v, x = .ref p ∧ y = .int i ∧ SqL K H p xs ∧ atI xs i = some v ∧ Q v H
def rIxT (K : PySem.W.Frag) : R2 := fun x y H Q => ∃ p xs i v, x = .ref p ∧ y = .int i ∧ SqT K H p xs ∧ atI xs i = some v ∧ Q v H
def rIxS : R2 := fun x y H Q => ∃ z i c, x = .str z ∧ y = .int i ∧ z.length ≤ sizeLine ∧ atI z.cps.toList i = some c ∧ Q (.str ⟨#[c]⟩) H
theorem ix_list : IxR X (rIxL X.K) := by
  intro value slice pins s σ H x y v u Q I rx ry h hs
  obtain ⟨p, xs, i, z, rfl, rfl, hq, he, q⟩ := h
  cases rx
  obtain ⟨t, rfl⟩ := ry
  obtain ⟨its, r, pl, hz⟩ := I.list hq
  obtain ⟨j, h1, h2, h3, h4, h5⟩ := atI_get he
  obtain ⟨w, ew, rw'⟩ := r.get h2
  have hl := r.length
  have hn := line63
  have fin : EP X pins σ Q w s := ⟨z, H, I, rw', q⟩
  by_cases h0 : 0 ≤ i
  · have hj : i.toNat = j := by
      rw [seqIndex_of h0 h5] at h1
      exact Option.some.inj h1
    exact item_listR pl.isList h0 (by omega) (by rw [hj]; simpa using ew) fin hs
  · have hj : (i + (its.toArray.size : Int)).toNat = j := by
      rw [seqIndex_neg (by omega) h4] at h1
      rw [List.size_toArray, ← hl]
      exact Option.some.inj h1
    exact subscriptTail_builtinR (x := w) pl.isList.typeIs slot_list_getitem.lookup
      (wpAny_getItem_list_neg (Q := fun r s' => r = w ∧ EP X pins σ Q r s') pl.isList (by omega) (by rw [List.size_toArray] <;> omega) (by omega) (by rw [hj]; simpa using ew) ⟨rfl, fin⟩) hs
theorem ix_tup : IxR X (rIxT X.K) := by
  intro value slice pins s σ H x y v u Q I rx ry h hs
  obtain ⟨p, xs, i, z, rfl, rfl, hq, he, q⟩ := h
  cases rx
  obtain ⟨t, rfl⟩ := ry
  obtain ⟨its, r, pl, hz⟩ := I.tuple hq
  obtain ⟨j, h1, h2, h3, h4, h5⟩ := atI_get he
  obtain ⟨w, ew, rw'⟩ := r.get h2
  have hl := r.length
  have hn := line63
  have fin : EP X pins σ Q w s := ⟨z, H, I, rw', q⟩
  exact subscriptTail_builtinR (x := w) pl.typeIs slot_tuple_getitem.lookup
    (getItem_tuple (j := j) (Q := fun r s' => r = w ∧ EP X pins σ Q r s') pl (by omega) (by omega) (by rw [List.size_toArray, ← hl]; exact h1) (by simpa using ew) ⟨rfl, fin⟩) hs
/-- list, tuple or str -/
def rIx (K : PySem.W.Frag) : R2 := fun x y H Q => rIxL K x y H Q ∨ rIxT K x y H Q ∨ rIxS x y H Q
/-! ### xs[i] = v, any sign -/
/-- the list's object behind a store -/
theorem mapSeq_set (its : List Value) (n j : Nat) (u : Value) : Obj.mapSeq (·.setIfInBounds j u) { cls := .type "list", data := .seq its.toArray n } = { cls := .type "list", data := .seq (its.set j u).toArray n } := by
  simp [Obj.mapSeq]
theorem Inv.lst {pins : List (Addr × Obj)} {σ : St} {H : Hp} {s : Shared} {p : Addr} {xs : List V} (I : Inv X pins σ H s) (h : H p = some (.lst xs)) :
    ∃ (its : List Value) (n : Nat), Vals xs its ∧ s.heap.get? p = some { cls := .type "list", data := .seq its.toArray n } ∧ xs.length ≤ sizeLine := by
  obtain ⟨z, its, n, r, e⟩ := I.hok p _ h
  exact ⟨its, n, r, e, z⟩
/-- the list at p is written by an update of its object -/
theorem Inv.lstUpd {pins : List (Addr × Obj)} {σ : St} {H : Hp} {s : Shared} {p : Addr} {xs ys : List V} {its its' : List Value} {n n' : Nat} {f : Obj → Obj} (I : Inv X pins σ H s) (h : H p = some (.lst xs))
    (ho : s.heap.get? p = some { cls := .type "list", data := .seq its.toArray n }) (hf : f { cls := .type "list", data := .seq its.toArray n } = { cls := .type "list", data := .seq its'.toArray n' }) (r : Vals ys its') (hz : ys.length ≤ sizeLine) (t : Nat) :
    Inv X pins σ (upd H p (.lst ys)) { s with heap := s.heap.update p f, toks := t } := by
  have e : (s.heap.update p f).get? p = some { cls := .type "list", data := .seq its'.toArray n' } := by
    rw [Heap.get?_update_self f ho (by rw [hf] <;> rfl), hf]
  refine I.write (x := p) (e := p) (by rw [h]; trivial) (.inl rfl) (fun b u hb q => (Heap.get?_update_other _ _ (Ne.symm hb)).trans q) ⟨_, e⟩ ?_
  exact ⟨hz, its', n', r, e⟩
def rSetL : V → V → V → Hp → (Hp → Prop) → Prop := fun o i v H Q => ∃ p xs k j, o = .ref p ∧ i = .int k ∧ H p = some (.lst xs) ∧ ixN xs.length k = some j ∧ Q (upd H p (.lst (xs.set j v)))
theorem set_list : PSet X rSetL := by
  intro pins s σ H o i v ov iv u Q I ro ri rv h
  obtain ⟨p, xs, k, j, rfl, rfl, hp, hj, q⟩ := h
  cases ro
  obtain ⟨t, rfl⟩ := ri
  obtain ⟨its, n, r, ho, hz⟩ := I.lst hp
  obtain ⟨h1, h2, h3, h4⟩ := ixN_seq hj
  have hl := r.length
  have hn := line63
  have I' : Inv X pins σ (upd H p (.lst (xs.set j v))) { s with heap := s.heap.update p (Obj.mapSeq (·.setIfInBounds j u)) } :=
    I.lstUpd hp ho (mapSeq_set its n j u) (r.set rv j) (by rw [List.length_set]; exact hz) s.toks
  by_cases h0 : 0 ≤ k
  · have hk : k.toNat = j := by
      rw [seqIndex_of h0 h4] at h1
      exact Option.some.inj h1
    exact PySem.W.ki_setAt ho h0 (by omega) (by rw [List.size_toArray, ← hl]; exact h4) (by rw [hk]; exact ⟨_, I', q⟩)
  · have hk : (k + (its.toArray.size : Int)).toNat = j := by
      rw [seqIndex_neg (by omega) h3] at h1
      rw [List.size_toArray, ← hl]
      exact Option.some.inj h1
    exact PySem.W.ki_setBack ho (by omega) (by rw [List.size_toArray, ← hl]; exact h3) (by omega) (by rw [hk]; exact ⟨_, I', q⟩)

/-! ### slices -/
theorem slice_bounds (lo hi : Option Int) (n : Nat) : (sliceBounds lo hi none n).1 = ((HT.sIx n 0 lo : Nat) : Int) ∧ (sliceBounds lo hi none n).2.1 = ((HT.sIx n n hi : Nat) : Int) ∧ (sliceBounds lo hi none n).2.2 = 1 := by
  refine ⟨?_, ?_, rfl⟩
  · cases lo with
    | none => simp [sliceBounds, HT.sIx]
    | some i =>
      simp only [sliceBounds, HT.sIx, Option.getD_none, show (1 : Int) > 0 by decide, if_true]
      by_cases h : i < 0
      · simp only [h, if_true] <;> omega
      · simp only [h, if_false] <;> omega
  · cases hi with
    | none => simp [sliceBounds, HT.sIx]
    | some i =>
      simp only [sliceBounds, HT.sIx, Option.getD_none, show (1 : Int) > 0 by decide, if_true]
      by_cases h : i < 0
      · simp only [h, if_true] <;> omega
      · simp only [h, if_false] <;> omega
theorem slicePick_cut (its : List Value) (lo hi : Option Int) : slicePick its.toArray lo hi none = ((its.drop (HT.sIx its.length 0 lo)).take (HT.sIx its.length its.length hi - HT.sIx its.length 0 lo)).toArray := by
  obtain ⟨h1, h2, h3⟩ := slice_bounds lo hi its.toArray.size
  unfold slicePick
  rw [h1, h2, h3]
  simp only [sliceRange_one, pick_run, List.size_toArray] <;> rfl
/-- xs[lo:hi] of a list: a new list -/
def rSlL (K : PySem.W.Frag) : V → Option Int → Option Int → Hp → VK → Prop := fun x lo hi H Q => ∃ a xs, x = .ref a ∧ SqL K H a xs ∧ ∀ p, H p = none → Q (.ref p) (upd H p (.lst (cutV xs lo hi)))
theorem sl_list : SlR X (rSlL X.K) := by
  intro pins s σ H x v vl vu lo hi sl Q I rx hs pl pu h
  obtain ⟨a, xs, rfl, hx, q⟩ := h
  cases rx
  obtain ⟨its, r, ht, hz⟩ := I.list hx
  have hlen := r.length
  refine ⟨"list", _, slot_list_getitem.lookup, ht.isList.typeIs, ?_⟩
  refine wpAny_getItem_list_slice ht.isList hs pl pu .none (by simp) ?_ (by rw [List.size_toArray] <;> omega)
  rw [slicePick_cut, ← hlen]
  refine ⟨.ref s.heap.objs.size, _, I.laid (t' := s.toks) (o := .lst (cutV xs lo hi)) (fun b ob q => Heap.get?_push_of_some _ q) (Nat.le_refl _) ?_, rfl, q _ (I.hok.fresh (Nat.le_refl _))⟩
  exact ⟨Nat.le_trans (cutV_length xs lo hi) hz, _, 0, (r.drop (HT.sIx xs.length 0 lo)).take (HT.sIx xs.length xs.length hi - HT.sIx xs.length 0 lo), Heap.get?_push_size _ rfl⟩

/-! ### in, not in: flat items -/
def flatV : V → Bool
  | .non => true
  | .bl _ => true
  | .int _ => true
  | .str _ => true
  | _ => false
/-- == of flat values -/
def eqV : V → V → Bool
  | .non, .non => true
  | .bl a, .bl b => a == b
  | .bl a, .int b => (if a then 1 else 0) == b
  | .int a, .bl b => a == (if b then 1 else 0)
  | .int a, .int b => a == b
  | .str a, .str b => a == b
  | _, _ => false
theorem eqAt_V {A : Around} {s : Shared} {y x : V} {u v : Value} (ry : RelV y u) (rx : RelV x v) (fy : flatV y = true) (fx : flatV x = true) : SeqAt.EqAt A s u v (eqV y x) := by
  cases y with
  | non =>
    cases ry
    cases x with
    | non => cases rx; exact SeqAt.EqAt.same _
    | bl b => cases rx; exact SeqAt.EqAt.none_bool b
    | int b => obtain ⟨t, rfl⟩ := rx; exact SeqAt.EqAt.none_int b t
    | str b => obtain ⟨t, rfl⟩ := rx; exact SeqAt.EqAt.none_str b t
    | _ => exact absurd (show false = true from fx) Bool.false_ne_true
  | bl a =>
    cases ry
    cases x with
    | non => cases rx; exact SeqAt.EqAt.bool_none a
    | bl b => cases rx; exact SeqAt.EqAt.bool_bool a b
    | int b => obtain ⟨t, rfl⟩ := rx; exact SeqAt.EqAt.bool_int a b t
    | str b => obtain ⟨t, rfl⟩ := rx; exact SeqAt.EqAt.bool_str a b t
    | _ => exact absurd (show false = true from fx) Bool.false_ne_true
  | int a =>
    obtain ⟨t', rfl⟩ := ry
    cases x with
    | non => cases rx; exact SeqAt.EqAt.int_none a t'
    | bl b => cases rx; exact SeqAt.EqAt.int_bool a t' b
    | int b => obtain ⟨t, rfl⟩ := rx; exact SeqAt.EqAt.int_int a t' b t
    | str b => obtain ⟨t, rfl⟩ := rx; exact SeqAt.EqAt.int_str a t' b t
    | _ => exact absurd (show false = true from fx) Bool.false_ne_true
  | str a =>
    obtain ⟨t', rfl⟩ := ry
    cases x with
    | non => cases rx; exact SeqAt.EqAt.str_none a t'
    | bl b => cases rx; exact SeqAt.EqAt.str_bool a t' b
    | int b => obtain ⟨t, rfl⟩ := rx; exact SeqAt.EqAt.str_int a t' b t
    | str b => obtain ⟨t, rfl⟩ := rx; exact SeqAt.EqAt.str_str a t' b t
    | _ => exact absurd (show false = true from fx) Bool.false_ne_true
  | _ => exact absurd (show false = true from fy) Bool.false_ne_true
/-- the items' answers, read off the values (a value's own answer does not lean on its token) -/
def eqU (x : V) (u : Value) : Bool := match u with
  | .none => eqV .non x
  | .bool b => eqV (.bl b) x
  | .int i _ => eqV (.int i) x
  | .str z _ => eqV (.str z) x
  | _ => false
def inV (x : V) (xs : List V) : Bool := xs.any fun y => eqV y x
/-- x in a list or tuple of flat items -/
def rIn (K : PySem.W.Frag) (neg : Bool) : R2 := fun x y H Q => ∃ p xs, y = .ref p ∧ (SqL K H p xs ∨ SqT K H p xs) ∧ flatV x = true ∧ xs.all flatV = true ∧ Q (.bl (if neg then !inV x xs else inV x xs)) H
/-! ### len, list(x), tuple(x) of any list or tuple that is read -/
theorem call_len_seq : CallR X (.builtin "len") (fun xs H Q => ∃ p ys, xs = [.ref p] ∧ (SqL X.K H p ys ∨ SqT X.K H p ys) ∧ Q (.int ys.length) H) := by
  intro pins s σ H xs us Q I r h
  obtain ⟨p, ys, rfl, hq, q⟩ := h
  obtain ⟨u, rfl, rx⟩ := vals1 r
  cases rx
  have hn := line63
  rcases hq with hq | hq
  · obtain ⟨its, r', pl, hz⟩ := I.list hq
    have hlen := r'.length
    exact Calls.call_len_list pl.isList (by simp only [List.size_toArray] <;> omega) ⟨.int ys.length, H, I.tok _, ⟨s.toks + 1, by rw [List.size_toArray, hlen]⟩, q⟩
  · obtain ⟨its, r', pl, hz⟩ := I.tuple hq
    have hlen := r'.length
    exact len_tuple pl (by simp only [List.size_toArray] <;> omega) ⟨.int ys.length, H, I.tok _, ⟨s.toks + 1, by rw [List.size_toArray, hlen]⟩, q⟩
theorem call_list_of : CallR X (.type "list") (fun xs H Q => ∃ p ys, xs = [.ref p] ∧ (SqL X.K H p ys ∨ SqT X.K H p ys) ∧ ∀ l, H l = none → Q (.ref l) (upd H l (.lst ys))) := by
  intro pins s σ H xs us Q I r h
  obtain ⟨p, ys, rfl, hq, q⟩ := h
  obtain ⟨u, rfl, rx⟩ := vals1 r
  cases rx
  have fin : ∀ (its : List Value), Vals ys its → ys.length ≤ sizeLine → ∀ (h' : Heap) (c' : Nat), (∀ b o', s.heap.get? b = some o' → h'.get? b = some o') →
      h'.get? s.heap.objs.size = some { cls := .type "list", dict := none, data := .seq its.toArray c', slots := #[] } → EP X pins σ Q (.ref s.heap.objs.size) { s with heap := h' } := fun its r' hz h' c' kp e =>
    ⟨.ref s.heap.objs.size, _, I.laid (t' := s.toks) kp (Nat.le_refl _) (show ObjOk X.prog X.w _ h' _ (.lst ys) from ⟨hz, its, c', r', e⟩), rfl, q _ (I.hok.fresh (Nat.le_refl _))⟩
  rcases hq with hq | hq
  · obtain ⟨its, r', pl, hz⟩ := I.list hq
    have hlen := r'.length
    obtain ⟨o, ho, hc, n, hd⟩ := pl.isList
    exact call_list_seq p (.inl rfl) ho hc hd (fun h' c' kp e => fin its r' hz h' c' kp e) (by simp only [List.size_toArray] <;> omega)
  · obtain ⟨its, r', pl, hz⟩ := I.tuple hq
    have hlen := r'.length
    obtain ⟨o, ho, hc, n, hd⟩ := pl
    exact call_list_seq p (.inr rfl) ho hc hd (fun h' c' kp e => fin its r' hz h' c' kp e) (by simp only [List.size_toArray] <;> omega)
/-! ### the call of a builtin's method: o.m(..) -/
/-- the value is of that builtin type -/
def tyV (K : PySem.W.Frag) (T : String) (x : V) (H : Hp) : Prop := match x with
  | .str _ => T = "str"
  | .int _ => T = "int"
  | .ref p => (T = "list" ∧ ∃ xs, SqL K H p xs) ∨ (T = "tuple" ∧ ∃ o, K.lookup p = some o ∧ o.cls = .type "tuple" ∧ o.dict = none) ∨
      (T = "dict" ∧ ((∃ kvs, H p = some (.dK kvs)) ∨ ∃ kvs, H p = some (.dT kvs))) ∨ (T = "set" ∧ ∃ S n, H p = some (.set S n))
  | _ => False
theorem tyV_is {pins : List (Addr × Obj)} {σ : St} {H : Hp} {s : Shared} {T : String} {x : V} {v : Value} (I : Inv X pins σ H s) (r : RelV x v) (ty : tyV X.K T x H) :
    s.TypeIs v T ∧ ∀ a, v = .ref a → ∃ ob, s.heap.get? a = some ob ∧ ob.dict = none := by
  cases x with
  | str z =>
    obtain ⟨t, rfl⟩ := r
    cases (show T = "str" from ty)
    exact ⟨typeIs_str s z t, fun _ e => nomatch e⟩
  | int i =>
    obtain ⟨t, rfl⟩ := r
    cases (show T = "int" from ty)
    exact ⟨typeIs_int s i t, fun _ e => nomatch e⟩
  | ref p =>
    cases r
    rcases ty with ⟨rfl, xs, hq⟩ | ⟨rfl, o, hk, hc, hd⟩ | ⟨rfl, hk⟩ | ⟨rfl, S, n, hk⟩
    · obtain ⟨its, _, pl, _⟩ := I.list hq
      refine ⟨pl.isList.typeIs, fun a e => ?_⟩
      cases e
      obtain ⟨o, n, e, c, hd, _⟩ := pl
      exact ⟨o, e, hd⟩
    · refine ⟨⟨o, I.kIn p o hk, hc⟩, fun a e => ?_⟩
      cases e
      exact ⟨o, I.kIn _ o hk, hd⟩
    · have z : ∃ o, s.heap.get? p = some o ∧ o.ExactDict := by
        rcases hk with ⟨kvs, hk⟩ | ⟨kvs, hk⟩
        · obtain ⟨_, _, _, _, o, _, _, e, ex, _⟩ := I.hok p _ hk
          exact ⟨o, e, ex⟩
        · obtain ⟨_, _, _, _, o, _, _, e, ex, _⟩ := I.hok p _ hk
          exact ⟨o, e, ex⟩
      obtain ⟨o, e, ex⟩ := z
      refine ⟨⟨o, e, ex.1⟩, fun a e2 => ?_⟩
      cases e2
      exact ⟨o, e, ex.2.1⟩
    · obtain ⟨o, _, _, _, e, ex, _⟩ := I.hok p _ hk
      refine ⟨⟨o, e, ex.1⟩, fun a e2 => ?_⟩
      cases e2
      exact ⟨o, e, ex.2.1⟩
  | _ => exact False.elim ty
def tBM0 (K : PySem.W.Frag) (T : String) (r : V → List V → Hp → VK → Prop) (to : TE) : TE := fun σ H Q => to σ H fun x H1 => tyV K T x H1 ∧ r x [] H1 Q
def tBM (K : PySem.W.Frag) (T : String) (r : V → List V → Hp → VK → Prop) (to : TE) (t : TA) : TE := fun σ H Q => to σ H fun x H1 => tyV K T x H1 ∧ t σ H1 fun xs H2 => r x xs H2 Q
variable {o e : Expr} {es : List Expr} {to : TE} {t : TA} {name : Str} {apos cpos : Pos} {T id : String} {r : V → List V → Hp → VK → Prop}
theorem pe_bm (pa : PlainAttrs T) (slot : Slot T name id) (hty : typeOf (.builtin id) = pure (.type "method_descriptor")) (hm : MtR X id r) (ho : PE X o to) (ha : PA X (e :: es) t)
    (hbase : attributeBase o name X.env (eval o X.env) = eval o X.env := by rfl)
    (hfew : ((backTo cpos (starEach (e :: es) X.env)).all (fun x => !x.1) && (backToKw cpos (keywordEach [] X.env)).all (fun x => x.1.isSome)
      && decide ((e :: es).length + ([] : List Keyword).length + (if ([] : List Keyword).isEmpty then 0 else 1) < 30)) = true := by rfl)
    (hline : (apos.endLine == cpos.line) = true := by rfl) (hs : starEach (e :: es) X.env = (false, eval e X.env) :: starEach es X.env := by rfl) (hplain : (backTo cpos (starEach es X.env)).any (·.1) = false := by rfl) :
    PE X (.Call (.Attribute o name apos) (e :: es) [] cpos) (tBM X.K T r to t) := by
  intro pins s σ H Q I h
  refine wpAny_Call_method_late hbase hfew hline rfl (thn (ho pins s σ H _ I h) fun v s1 ⟨x, H1, I1, r1, ty, q1⟩ => ?_)
  obtain ⟨h1, h2⟩ := tyV_is I1 r1 ty
  refine ⟨T, id, pa, slot, hty, h1, h2, ?_⟩
  have hA := ha cpos pins s1 σ H1 _ I1 q1
  rw [hs] at hA ⊢
  refine Calls.callWith_builtin (by show (false || (backTo cpos (starEach es X.env)).any (·.1)) = false; rw [hplain] <;> rfl) (Calls.evalArgs_plain ?_)
  exact thn hA fun us s2 ⟨vs, H2, I2, r2, q2⟩ => hm pins s2 σ H2 x vs v us Q I2 r1 r2 q2
/- xs.append(e), list.index on a module's tuple .. are MtR facts of 06m -/
end
end L2

namespace L2
open PySem PySem.Spec PyProof.Rows

def MtM (X : Cx) (id : String) (r : V → List V → Hp → VK → Prop) : Prop :=
  ∀ (pins : List (Addr × Obj)) (s : Shared) (σ : St) (H : Hp) (x : V) (xs : List V) (v : Value) (us : List Value) (Q : VK), Inv X pins σ H s → RelV x v → Vals xs us → r x xs H Q →
    wpAny (model X.prog X.w) X.A (call (.builtin id) (v :: us)) (EP X pins σ Q) X.xe s

/-! ### lists of values -/
theorem Vals.one : ∀ {x : V} {us : List Value}, Vals [x] us → ∃ u, us = [u] ∧ RelV x u
  | _, _, .cons r .nil => ⟨_, rfl, r⟩
theorem Vals.two : ∀ {x y : V} {us : List Value}, Vals [x, y] us → ∃ u v, us = [u, v] ∧ RelV x u ∧ RelV y v
  | _, _, _, .cons r (.cons q .nil) => ⟨_, _, rfl, r, q⟩
theorem Vals.rep {xs : List V} {us : List Value} (h : Vals xs us) : ∀ k : Nat, Vals (List.replicate k xs).flatten (List.replicate k us).flatten
  | 0 => .nil
  | k + 1 => by
    rw [List.replicate_succ, List.replicate_succ, List.flatten_cons, List.flatten_cons]
    exact Vals.append h (Vals.rep h k)
theorem foldl_rep (its : List Value) : ∀ (k : Nat) (acc : List Value),
    List.foldl (fun x1 x2 => x1 ++ x2) acc.toArray (List.replicate k its.toArray) = (acc ++ (List.replicate k its).flatten).toArray
  | 0, acc => by simp
  | k + 1, acc => by
    have e : acc.toArray ++ its.toArray = (acc ++ its).toArray := by simp
    have e2 : (acc ++ its) ++ (List.replicate k its).flatten = acc ++ (List.replicate (k + 1) its).flatten := by
      rw [List.replicate_succ, List.flatten_cons, List.append_assoc]
    rw [← e2, ← foldl_rep its k (acc ++ its), ← e, List.replicate_succ, List.foldl_cons]

section
variable {X : Cx} {pins : List (Addr × Obj)} {σ : St} {H : Hp} {s : Shared} {l b : Addr} {xs ys zs : List V}

/-! ### the two steps: a tracked list is rewritten, a new list is laid -/
theorem Inv.lset {its its' : List Value} {n : Nat} {f : Array Value → Array Value} {t' : Nat} (I : Inv X pins σ H s) (hH : H l = some (.lst xs))
    (e : s.heap.get? l = some { cls := .type "list", data := .seq its.toArray n }) (hf : f its.toArray = its'.toArray) (hv : Vals ys its') (hz : ys.length ≤ sizeLine) :
    Inv X pins σ (upd H l (.lst ys)) { s with heap := s.heap.update l (Obj.mapSeq f), toks := t' } := by
  have q := PySem.IsL.update e f
  rw [hf] at q
  refine I.write (x := l) (e := l) (by rw [hH]; exact trivial) (.inl rfl) (fun b' u hb hu => (Heap.get?_update_other s.heap (Obj.mapSeq f) (Ne.symm hb)).trans hu) ⟨_, q⟩ ?_
  exact ⟨hz, its', _, hv, q⟩
theorem Inv.lnew {its : List Value} {t' : Nat} (I : Inv X pins σ H s) (hv : Vals ys its) (hz : ys.length ≤ sizeLine) :
    Inv X pins σ (upd H s.heap.objs.size (.lst ys)) { s with heap := s.heap.push { cls := .type "list", data := .seq its.toArray }, toks := t' } :=
  I.laid (fun _ _ q => Heap.get?_push_of_some _ q) (Nat.le_refl _) ⟨hz, its, 0, hv, Heap.get?_push_size _ rfl⟩
theorem Inv.fresh (I : Inv X pins σ H s) : H s.heap.objs.size = none := I.hok.fresh (Nat.le_refl _)
theorem Inv.lstM (I : Inv X pins σ H s) (hH : H l = some (.lst xs)) : xs.length ≤ sizeLine ∧ ∃ (its : List Value) (n : Nat), Vals xs its ∧ xs.length = its.length ∧ s.heap.get? l = some { cls := .type "list", data := .seq its.toArray n } := by
  obtain ⟨z, its, n, r, e⟩ := I.hok l _ hH
  exact ⟨z, its, n, r, r.length, e⟩

theorem notLongL {n : Nat} (h : n ≤ sizeLine) : Builtin.List.listTooLong n = false := by
  unfold Builtin.List.listTooLong
  exact decide_eq_false (by omega)
end

section
variable {X : Cx}

/-! ### methods -/
def rAppend : V → List V → Hp → VK → Prop := fun x vs H Q => ∃ l xs y, x = .ref l ∧ vs = [y] ∧ H l = some (.lst xs) ∧ xs.length < sizeLine ∧ Q .non (upd H l (.lst (xs ++ [y])))
theorem mt_append : MtM X "list.append" rAppend := by
  intro pins s σ H x vs v us Q I rx rv h
  obtain ⟨l, xs, y, rfl, rfl, hH, hz, q⟩ := h
  cases rx
  obtain ⟨u, rfl, ru⟩ := rv.one
  obtain ⟨z, its, n, r, hl, e⟩ := I.lstM hH
  refine call_meets F.slot_list_append ⟨_, e, rfl⟩ F.entry_list_append (F.args_list_append_2 _ _) (PySem.list_append l its.toArray n u (by rw [List.size_toArray]; omega)) ⟨e, ?_⟩
  refine ⟨.non, _, I.lset (its' := its ++ [u]) hH e (by simp) (r.append (.cons ru .nil)) ?_, rfl, q⟩
  rw [List.length_append, List.length_singleton]
  omega

def rExtend : V → List V → Hp → VK → Prop := fun x vs H Q => ∃ l b xs zs, x = .ref l ∧ vs = [.ref b] ∧ H l = some (.lst xs) ∧ H b = some (.lst zs) ∧ xs.length + zs.length ≤ sizeLine ∧ Q .non (upd H l (.lst (xs ++ zs)))
theorem mt_extend : MtM X "list.extend" rExtend := by
  intro pins s σ H x vs v us Q I rx rv h
  obtain ⟨l, b, xs, zs, rfl, rfl, hH, hB, hz, q⟩ := h
  cases rx
  obtain ⟨u, rfl, ru⟩ := rv.one
  cases ru
  obtain ⟨z, its, n, r, hl, e⟩ := I.lstM hH
  obtain ⟨z2, its2, n2, r2, hl2, e2⟩ := I.lstM hB
  have hsz : its.toArray.size + its2.toArray.size ≤ sizeLine := by rw [List.size_toArray, List.size_toArray]; omega
  have hlong : ¬ (!its.toArray.isEmpty && Builtin.List.listTooLong (its.toArray.size + its2.toArray.size)) = true := by
    rw [notLongL hsz, Bool.and_false]
    exact Bool.false_ne_true
  refine call_meets F.slot_list_extend ⟨_, e, rfl⟩ F.entry_list_extend (F.args_list_extend_2 _ _)
    (AutoSeq1.list_extend_list_list_0 l its.toArray n b its2.toArray n2 hlong (by rw [List.size_toArray]; omega) (by omega)) ⟨e, e2, ?_⟩
  refine ⟨.non, _, I.lset (its' := its ++ its2) hH e (by simp) (r.append r2) ?_, rfl, q⟩
  rw [List.length_append]
  omega

def rPop : V → List V → Hp → VK → Prop := fun x vs H Q => ∃ l xs y, x = .ref l ∧ vs = [] ∧ H l = some (.lst xs) ∧ xs[xs.length - 1]? = some y ∧ Q y (upd H l (.lst xs.dropLast))
def rPopAt : V → List V → Hp → VK → Prop := fun x vs H Q => ∃ l xs i k y, x = .ref l ∧ vs = [.int i] ∧ H l = some (.lst xs) ∧ -(2 ^ 63) ≤ i ∧ i < 2 ^ 63 ∧ seqIndex? i xs.length = some k ∧ xs[k]? = some y ∧ Q y (upd H l (.lst (xs.eraseIdx k)))
def rReverse : V → List V → Hp → VK → Prop := fun x vs H Q => ∃ l xs, x = .ref l ∧ vs = [] ∧ H l = some (.lst xs) ∧ Q .non (upd H l (.lst xs.reverse))
def rClear : V → List V → Hp → VK → Prop := fun x vs H Q => ∃ l xs, x = .ref l ∧ vs = [] ∧ H l = some (.lst xs) ∧ Q .non (upd H l (.lst []))
/-! ### list + list, list += list, list * int -/
def rCat : R2 := fun x y H Q => ∃ l b xs zs, x = .ref l ∧ y = .ref b ∧ H l = some (.lst xs) ∧ H b = some (.lst zs) ∧ xs.length + zs.length ≤ sizeLine ∧ ∀ p, H p = none → Q (.ref p) (upd H p (.lst (xs ++ zs)))
theorem op_cat : OpR X (binaryOp .Add) rCat := by
  intro pins s σ H x y v u Q I rx ry h
  obtain ⟨l, b, xs, zs, rfl, rfl, hH, hB, hz, q⟩ := h
  cases rx
  cases ry
  obtain ⟨z, its, n, r, hl, e⟩ := I.lstM hH
  obtain ⟨z2, its2, n2, r2, hl2, e2⟩ := I.lstM hB
  refine PySem.P.add_list e e2 ?_ (by rw [List.size_toArray, List.size_toArray]; omega)
  have ea : its.toArray ++ its2.toArray = (its ++ its2).toArray := by simp
  rw [ea]
  exact ⟨.ref _, _, I.lnew (t' := s.toks) (r.append r2) (by rw [List.length_append]; omega), rfl, q _ I.fresh⟩
/-- a list times an int (a negative one is nothing) -/
def rRep : R2 := fun x y H Q => ∃ l k xs, x = .ref l ∧ y = .int k ∧ H l = some (.lst xs) ∧ -(2 ^ 63) ≤ k ∧ k < 2 ^ 63 ∧ xs.length * k.toNat ≤ sizeLine ∧
  ∀ p, H p = none → Q (.ref p) (upd H p (.lst (List.replicate k.toNat xs).flatten))
theorem len_rep {α : Type} (xs : List α) (k : Nat) : (List.replicate k xs).flatten.length = k * xs.length := by
  induction k with
  | zero => simp
  | succ k ih => rw [List.replicate_succ, List.flatten_cons, List.length_append, ih, Nat.succ_mul, Nat.add_comm]
theorem op_rep : OpR X (binaryOp .Mult) rRep := by
  intro pins s σ H x y v u Q I rx ry h
  obtain ⟨l, k, xs, rfl, rfl, hH, h1, h2, hz, q⟩ := h
  cases rx
  obtain ⟨t, rfl⟩ := ry
  obtain ⟨z, its, n, r, hl, e⟩ := I.lstM hH
  have hlen : its.toArray.size * k.toNat ≤ sizeLine := by rw [List.size_toArray, ← hl]; exact hz
  have hcap : ¬ its.toArray.size * k.toNat > (2 ^ 63 - 1) / 8 := by
    have : (sizeLine : Nat) ≤ (2 ^ 63 - 1) / 8 := by decide
    omega
  have hfit : ¬ (!Builtin.List.listFitsIndex k) = true := by
    rw [fitsIndex_both h1 h2]
    exact Bool.false_ne_true
  have hlong : ¬ Builtin.List.listTooLong (its.toArray.size * k.toNat) = true := by
    rw [notLongL hlen]
    exact Bool.false_ne_true
  have hnew : List.foldl (fun x1 x2 => x1 ++ x2) #[] (List.replicate (if its.toArray.isEmpty = true then 0 else k.toNat) its.toArray) = (List.replicate k.toNat its).flatten.toArray := by
    have f0 : ∀ m : Nat, List.foldl (fun x1 x2 => x1 ++ x2) #[] (List.replicate m its.toArray) = (List.replicate m its).flatten.toArray := fun m => by
      have := foldl_rep its m []
      rw [List.nil_append] at this
      exact this
    rw [f0]
    cases its with
    | nil => simp
    | cons a r' => rw [if_neg (by simp)]
  refine wpAny_binaryOp_repeat_ref (T := "list") (U := "int") (by decide) ⟨_, e, rfl⟩ (fun s' => typeIs_int s' k t) noFill_list_mul F.fills_int_mul F.slot_int_rmul repeat_list F.slot_int_index.lookup
    (call_meets F.slot_int_rmul (typeIs_int s k t) F.entry_int_rmul (F.args_int_rmul_2 _ _) (int___rmul___int_list k t l its.toArray n)
      ⟨e, rfl, ⟨_, e, rfl⟩, call_meets F.slot_list_mul ⟨_, e, rfl⟩ F.entry_list_mul (F.args_list_mul_2 _ _) (AutoListH.list___mul___list_int_3 l its.toArray n k t hfit hcap hlong) ⟨e, ?_⟩⟩)
  rw [hnew]
  exact ⟨.ref _, _, I.lnew (t' := s.toks) (r.rep k.toNat) (by rw [len_rep, Nat.mul_comm]; exact hz), rfl, q _ I.fresh⟩

/-! ### del xs[i] -/
end

/-! ### xs[a:b] = ys -/
section
variable {prog : Program} {w : World} {A : Around} {E : Value → Shared → Prop} {s : Shared}
end

section
variable {X : Cx}
end
end L2

namespace Att
open PySem PySem.W PySem.Calls PyProof.Rows

/-! ### the script -/
theorem ints_of_wellAll {P : Params} {h : Heap} : ∀ (ns : List Int) (vs : List Value), WellAll P h vs (ns.map WData.int) → IntsAre vs ns := by
  intro ns
  induction ns with
  | nil =>
    intro vs w
    rw [List.map_nil] at w
    cases w
    exact .nil
  | cons n ns ih =>
    intro vs w
    rw [List.map_cons] at w
    cases w with
    | cons a b =>
      cases a
      exact .cons _ _ (ih _ b)

theorem script_of {l : OpenLaw} {n : Nat} (hn : l.most = some n) {P : Params} {h : Heap} {args : List WData} {vals : List Value}
    (hpre : l.row.toRowW.claim.pre args = true) (hwl : WellAll P h vals args) :
    ∃ a vs ns, vals = [Value.ref a] ∧ args = [WData.list (ns.map WData.int)] ∧ h.get? a = some { cls := .type "list", data := .seq vs.toArray } ∧ IntsAre vs ns ∧ ns.length ≤ n := by
  have hsh : WShape.hasAll [] args [.list .int] = true := (pre_splitW hpre).1
  have hc : l.pre.holds [] { args := args } = true := (pre_splitW hpre).2
  obtain ⟨d, r, rfl, h1, h2⟩ := hasAllW_cons hsh
  obtain rfl := hasAllW_nil h2
  obtain ⟨xs, rfl, h3⟩ := hasW_list h1
  obtain ⟨ns, rfl⟩ := items_int h3
  have hlen : ns.length ≤ n := by
    unfold OpenLaw.pre at hc
    have h4 : (WTm.not (.lt (.lit (.int (n : Int))) (.len (.arg 0)))).holds [] { args := [.list (ns.map .int)] } = true := by
      have h4 := (holds_andW hc).1
      rw [hn] at h4
      exact h4
    have h5 := condW_of h4 (w_not (w_lt w_lit (w_len_list (w_arg rfl))))
    rw [List.length_map] at h5
    refine Nat.le_of_not_lt fun q => ?_
    have q' : (n : Int) < ((ns.length : Nat) : Int) := by omega
    first
      | (rw [decide_eq_true q'] at h5; exact absurd h5 (by decide))
      | (simp at h5; omega)
  cases hwl with
  | cons w1 w2 =>
    cases w2
    cases w1 with
    | list ho hall => exact ⟨_, _, ns, rfl, rfl, ho, ints_of_wellAll ns _ hall, hlen⟩

theorem post_true (l : OpenLaw) (args : List WData) : l.row.toRowW.claim.post args (.bool true) args = true :=
  postW_of (r := l.row.toRowW) (X := (true == true))
    (show WShape.has [] (.bool true) .bool = true by first | rfl | decide | simp [WShape.has, WShape.arms, WShape.armsAll])
    (show (WTm.eq .res (.lit (.bool true))).value [] { args := args, res := some (.bool true), after := args } = some (.bool (true == true)) from w_eq_bool (w_res rfl) w_lit) rfl

/-! ### the attachment: holds_open's last premise (the goal 'hc' behind k_head) from a wpAny of the law's body -/
/-- the same from a codeAny of the CALL (for a layer whose function contracts speak of calls) -/
theorem attach_call {l : OpenLaw} {n : Nat} {q : Program} {loose : List Str} {XP : (Str → Option Value) → Heap → Prop} {YP : World → Heap → Prop} {d : DefRec}
    (hn : l.most = some n) (hdf : d.params.defaults = [])
    (call : ∀ (w : World) (s₀ s₁ : Shared) (mg mb : Str → Option Value) (fa : Addr) (o : Obj) (pm cd doc : Value) (a : Addr) (vs : List Value) (ns : List Int),
      Ground q loose [] XP w s₀ mg mb s₁.heap → YP w s₁.heap →
      s₁.heap.get? fa = some o → o.data = .func (docDef d.name d.params d.body d.scope pm cd doc) → s₁.heap.CodeRec cd d.name → mg d.name = some (.ref fa) →
      s₁.heap.get? a = some { cls := .type "list", data := .seq vs.toArray } → IntsAre vs ns → ns.length ≤ n → s₁.gens = #[] →
      codeAny (model l.prog w) callerA (.call (.ref fa) ⟨[.ref a], []⟩) (fun r s' => r = .ok (.ret (.bool true)) ∧ OldK s₁.heap s'.heap ∧ s'.os = s₁.os ∧ AllBare s'.gens) s₁) :
    WalkO q loose XP YP l.row.toRowW d [] (fun f vs => PySem.call f vs) := by
  intro w s₀ s₁ mg mb G Y fa o pm cd doc dV kV ho hd hcd hD hmg hg args vals as hpre hlay hrd hwl hlo
  obtain rfl : dV = .none := Dflts.none hD hdf
  obtain rfl : kV = .none := Dflts.noKw hD
  obtain ⟨a, vs, ns, rfl, rfl, hobj, hints, hlen⟩ := script_of hn hpre hwl
  refine enter_call (codeAny_mono (call w s₀ s₁ mg mb fa o pm cd doc a vs ns G Y ho (fd_plain hd) hcd hmg hobj hints hlen hg) fun r s' hq => ?_)
  obtain ⟨rfl, h2, h3, h4⟩ := hq
  exact ⟨.inl ⟨.bool true, .bool true, [], rfl, fun _ => rfl, .bool true, post_true l _, fun _ => ⟨List.Pairwise.nil, fun _ hm => (nomatch hm)⟩⟩, h2, h3, h4⟩

/-! ### rules over ANY heap (no ledger) from facts about the written part K: the library's own take a ledger (News) for what they write -/
section
variable {prog : Program} {w : World} {A : Around} {E : Value → Shared → Prop} {s : Shared} {K : Frag}

/-! the whole heap as the ledger: makes every rule that writes through a ledger a rule over any heap -/
def noObjs (h : Heap) : Heap := { h with objs := #[] }
def ledger (h : Heap) (L d : Addr) : List (Addr × Obj) := (List.range h.objs.size).filterMap fun a => if a = L ∨ a = d then none else (h.get? a).map fun o => (a, o)
end
end Att

namespace L2
open PySem PySem.Spec PyProof.Rows

theorem vals_ints : ∀ {vs : List Value} {ns : List Int}, IntsAre vs ns → Vals (ns.map V.int) vs
  | _, _, .nil => .nil
  | _, _, .cons n t h => .cons ⟨t, rfl⟩ (vals_ints h)

/-- nothing is tracked but the script, known to the object (or it is an object of the module) -/
def Only (H : Hp) : Prop := ∀ b, H b = none ∨ ∃ o xs, H b = some (.frz o (.lst xs))

/-- THE HEAD: the law's promise, at the heap behind the top. F, the promise of the law's def, may use that base is part of the heap (so K.In base, base.Ns mainGlobals mg stand in Mod) -/
theorem law_call {P : Program} {w : World} {K : PySem.W.Frag} {mg mb : Str → Option Value} {CX : CXT} {k : Nat} {fa a : Addr} {fd : FuncData} {x : Str} {sp : Sp} {s₁ : Shared} {vs : List Value} {ns : List Int}
    (KX : K.In s₁.heap) (hns : s₁.heap.Ns mainGlobals mg) (hb : s₁.heap.Ns builtinsNs mb) (hbb : ∀ x : Str, x ≠ "__name__" → mb x = bootBuiltins x) (hlim : s₁.heap.NoLimit) (hg : s₁.gens = #[])
    (ha : s₁.heap.get? a = some { cls := .type "list", data := .seq vs.toArray }) (hi : IntsAre vs ns) (hl : ns.length ≤ sizeLine) (hr : Room k callerA)
    (F : ∀ base : Heap, K.In base → base.Ns mainGlobals mg → FnOk P w K mg base CX k fa fd [x] sp) (hbind : ∀ (s : Shared) (u : Value), BindsTo s fd ⟨[u], []⟩ [(x, u)])
    (hsp : ∀ H : Hp, Only H → SqL K H a (ns.map V.int) → sp [.ref a] H (fun v _ => v = .bl true) fun _ _ _ => False)
    (hCX : ∀ H e s', CX [] H s₁ (fun _ _ _ => False) e s' → False) :
    codeAny (model P w) callerA (.call (.ref fa) ⟨[.ref a], []⟩) (fun r s' => r = .ok (.ret (.bool true)) ∧ OldK s₁.heap s'.heap ∧ s'.os = s₁.os ∧ AllBare s'.gens) s₁ := by
  have rv := vals_ints hi
  have lenV := hi.length
  -- from an abstract heap in which nothing but the script may be tracked
  have core : ∀ H : Hp, Only H → SqL K H a (ns.map V.int) → HOk P w H s₁.heap → (∀ b, H b ≠ none → b = a) → (H a ≠ none → K.lookup a = none) →
      codeAny (model P w) callerA (.call (.ref fa) ⟨[.ref a], []⟩) (fun r s' => r = .ok (.ret (.bool true)) ∧ OldK s₁.heap s'.heap ∧ s'.os = s₁.os ∧ AllBare s'.gens) s₁ := by
    intro H hO hS hok hA hK
    have base_of : ∀ {b : Addr} {o : Obj}, s₁.heap.get? b = some o → H b = none → (hidT s₁.heap H).get? b = some o := fun e n => hidT_get e n
    have noA : ∀ {b : Addr} {o : Obj} {es : Array DictEntry} {ep : Nat}, s₁.heap.get? b = some o → o.data = .dict es ep → H b = none := fun {b o es ep} e d => by
      cases q : H b with
      | none => rfl
      | some u =>
        have e' : b = a := hA b (by rw [q]; simp)
        subst e'
        rw [ha] at e; cases e
        have d' : Data.seq vs.toArray _ = Data.dict es ep := d
        cases d'
    have nsK : ∀ {b : Addr} {m : Str → Option Value}, s₁.heap.Ns b m → (hidT s₁.heap H).Ns b m := fun {b m} ⟨o, es, ep, e, d, r⟩ => ⟨o, es, ep, base_of e (noA e d), d, r⟩
    have hKb : K.In (hidT s₁.heap H) := fun b o e => base_of (KX b o e) (by
      cases q : H b with
      | none => rfl
      | some u =>
        have e' : b = a := hA b (by rw [q]; simp)
        subst e'
        rw [hK (by rw [q]; simp)] at e; cases e)
    have hM : Mod K mg (hidT s₁.heap H) := ⟨hKb, nsK hns, ⟨mb, nsK hb, hbb⟩, let ⟨mc, h1, h2⟩ := hlim; ⟨mc, nsK h1, h2⟩⟩
    have e0 : Env0 P w K mg (hidT s₁.heap H) callerA [] s₁ H := ⟨rfl, hM, fun b o e => of_hidT e, Nat.le_of_eq (hidT_size _ _), trivial, fun b hb => absurd (show b ∈ ([] : List Addr) from hb) (by simp), hok, .of_eq hg⟩
    refine codeAny_mono ((F _ hKb (nsK hns)).run callerA [] s₁ H ⟨[.ref a], []⟩ [.ref a] [.ref a] _ _ hr e0 (hbind s₁ (.ref a)) (.cons rfl .nil) (hsp H hO hS)) fun r s' h => ?_
    cases r with
    | error e => exact (hCX H e s' h).elim
    | ok fl =>
      cases fl with
      | next => exact False.elim h
      | brk => exact False.elim h
      | cont => exact False.elim h
      | ret u =>
        obtain ⟨v, H', os, bare, un, hok', r', q⟩ := h
        have q' : v = .bl true := q
        subst q'
        obtain rfl : u = Value.bool true := r'
        refine ⟨rfl, OldK.of_keep fun b o e => ?_, os, bare⟩
        cases q : H b with
        | none => exact un.keep b o e q (by intro z; exact absurd (show b ∈ ([] : List Addr) from z) (by simp)) (by simp)
        | some u =>
          rcases hO b with z | ⟨ob, xs, z⟩
          · rw [q] at z; cases z
          · have z2 := un.frzs b ob _ z
            obtain ⟨e1, _⟩ := hok b _ z
            obtain ⟨e2, _⟩ := hok' b _ z2
            rw [e] at e1; cases e1
            exact e2
  cases hk : K.lookup a with
  | some o =>
    -- the script is one of the module's own objects
    have e := KX a o hk
    rw [ha] at e
    cases e
    refine core (fun _ => none) (fun _ => .inl rfl) (.inr ⟨_, vs.toArray, _, hk, rfl, rfl, rfl, by rw [List.size_toArray, lenV]; exact hl, by simpa using rv⟩) (fun b u z => by have z' : (none : Option HO) = some u := z; cases z') (fun b z => absurd rfl z) fun z => absurd rfl z
  | none =>
    refine core (fun b => if b = a then some (.frz { cls := .type "list", data := .seq vs.toArray } (.lst (ns.map V.int))) else none) (fun b => ?_) (.inl (.inr ⟨{ cls := .type "list", data := .seq vs.toArray }, if_pos rfl⟩)) (fun b u z => ?_) (fun b z => ?_) fun _ => hk
    · by_cases hb : b = a
      · exact .inr ⟨_, _, if_pos hb⟩
      · exact .inl (if_neg hb)
    · by_cases hb : b = a
      · have z' := (if_pos hb).symm.trans z
        cases z'
        subst hb
        exact ⟨ha, by rw [List.length_map]; exact hl, vs, _, rv, ha⟩
      · have z' := (if_neg hb).symm.trans z
        cases z'
    · by_cases hb : b = a
      · exact hb
      · exact absurd (if_neg hb) z
end L2

namespace L2
open PySem PySem.Spec PyProof.Rows

abbrev KOf {K : PySem.W.Frag} {h : Heap} (_ : K.In h) : PySem.W.Frag := K

/-- the goal that k_head leaves (case hc), from the law's promise. F gives the function object fd (K's own) once, then the promise over every base -/
theorem walk_of {l : PySem.W.OpenLaw} {n k : Nat} {q : Program} {loose : List Str} {XP : (Str → Option Value) → Heap → Prop} {YP : World → Heap → Prop} {d : DefRec} {K : Params → PySem.W.Frag} {CX : World → CXT} {sp : World → Sp} {x : Str}
    (hn : l.most = some n) (hn2 : n ≤ sizeLine) (hdf : d.params.defaults = []) (hr : Room k callerA)
    (hY : ∀ (w : World) (h : Heap), YP w h → (K w.params).In h)
    (F : ∀ (w : World) (mg : Str → Option Value) (fa : Addr) (h : Heap), (K w.params).In h → h.Ns mainGlobals mg → mg d.name = some (.ref fa) →
      ∃ fd : FuncData, (∀ (s : Shared) (u : Value), BindsTo s fd ⟨[u], []⟩ [(x, u)]) ∧
        ∀ base : Heap, (K w.params).In base → base.Ns mainGlobals mg → FnOk l.prog w (K w.params) mg base (CX w) k fa fd [x] (sp w))
    (hsp : ∀ (w : World) (H : Hp) (a : Addr) (ns : List Int), ns.length ≤ n → Only H → SqL (K w.params) H a (ns.map V.int) → sp w [.ref a] H (fun v _ => v = .bl true) fun _ _ _ => False)
    (hCX : ∀ (w : World) (H : Hp) (s : Shared) (e : Value) (s' : Shared), CX w [] H s (fun _ _ _ => False) e s' → False) :
    PySem.W.WalkO q loose XP YP l.row.toRowW d [] (fun f vs => PySem.call f vs) := by
  refine Att.attach_call hn hdf fun w s₀ s₁ mg mb fa o pm cd doc a vs ns G Y ho hd hcd hmg hobj hints hlen hg => ?_
  have KX := hY w _ Y
  obtain ⟨fd, hb, hF⟩ := F w mg fa _ KX G.T.g hmg
  exact law_call KX G.T.g G.T.b G.T.builtins G.T.nolimit hg hobj hints (Nat.le_trans hlen hn2) hr hF hb (fun H hO hS => hsp w H a ns hlen hO hS) fun H e s' => hCX w H s₁ e s'
/-- the same where the promise hangs on the written part alone: (sp := My.sp_law), no hole under a binder -/
theorem walk_ofK {l : PySem.W.OpenLaw} {n k : Nat} {q : Program} {loose : List Str} {XP : (Str → Option Value) → Heap → Prop} {YP : World → Heap → Prop} {d : DefRec} {K : Params → PySem.W.Frag} {CX : CXT} {sp : PySem.W.Frag → Sp} {x : Str}
    (hn : l.most = some n) (hn2 : n ≤ sizeLine) (hdf : d.params.defaults = []) (hr : Room k callerA)
    (hY : ∀ (w : World) (h : Heap), YP w h → (K w.params).In h)
    (F : ∀ (w : World) (mg : Str → Option Value) (fa : Addr) (h : Heap), (K w.params).In h → h.Ns mainGlobals mg → mg d.name = some (.ref fa) →
      ∃ fd : FuncData, (∀ (s : Shared) (u : Value), BindsTo s fd ⟨[u], []⟩ [(x, u)]) ∧
        ∀ base : Heap, (K w.params).In base → base.Ns mainGlobals mg → FnOk l.prog w (K w.params) mg base CX k fa fd [x] (sp (K w.params)))
    (hsp : ∀ (K : PySem.W.Frag) (H : Hp) (a : Addr) (ns : List Int), ns.length ≤ n → Only H → SqL K H a (ns.map V.int) → sp K [.ref a] H (fun v _ => v = .bl true) fun _ _ _ => False)
    (hCX : ∀ (H : Hp) (s : Shared) (e : Value) (s' : Shared), CX [] H s (fun _ _ _ => False) e s' → False) :
    PySem.W.WalkO q loose XP YP l.row.toRowW d [] (fun f vs => PySem.call f vs) :=
  walk_of (K := K) (CX := fun _ => CX) (sp := fun w => sp (K w.params)) hn hn2 hdf hr hY F (fun w H a ns h1 h2 h3 => hsp (K w.params) H a ns h1 h2 h3) fun _ H s e s' => hCX H s e s'
end L2

/- THE LAST THEOREM (shape; LID, My.* are yours):
   My.Adr: a structure of the addresses that your layer names (classes, functions); My.Txt K t: a structure (Prop) of the equations over K;
   My.txt_mk : {K} {implicit addresses ..} (e1 : nsIn K mainGlobals "law" = some (some (.ref f))) (e2 : K.lookup f = some ⟨oc, od, .func (fnOf "law" "law" params body scope dV kV doc pm an cdv ct), sl⟩) (e3 : codeIn K cdv "law" = true) .. : ∃ t, My.Txt K t

(the tactic k_is has no namespace: write k_is) -/

/-! SHORT WORDS over the layer: a def of the text, its body, what a loop and a test want. -/
namespace L2
open PySem PySem.Spec PyProof.Rows

/-! ### the text by places -/
/-- the j-th statement of a class's body -/
def inClass (s : Stmt) (j : Nat) : Stmt := match s with
  | .ClassDef _ _ _ body _ _ _ _ _ _ _ => body.getD j (.Pass ⟨0, 0, 0, 0⟩)
  | _ => .Pass ⟨0, 0, 0, 0⟩
def defArgs (s : Stmt) : Arguments := match s with
  | .FunctionDef _ a _ _ _ _ _ _ _ _ => a
  | _ => { posonlyargs := [], args := [], vararg := none, kwonlyargs := [], kw_defaults := [], kwarg := none, defaults := [] }
def defBody (s : Stmt) : List Stmt := match s with
  | .FunctionDef _ _ b _ _ _ _ _ _ _ => b
  | _ => []
def defScope (s : Stmt) : Scope := match s with
  | .FunctionDef _ _ _ _ _ _ sc _ _ _ => sc
  | _ => { kind := .function, names := [], isGenerator := false, isCoroutine := false }

/-! ### no exception leaves a def -/
abbrev CX0 : CXT := fun _ _ _ _ _ _ => False
abbrev E0 : XK := fun _ _ _ => False
theorem pass0 {X : Cx} : Passes CX0 X E0 := fun _ _ _ _ _ _ _ h => h.elim

/-! ### a def (or method) of the text as it stands behind the top -/
structure Fun (K : PySem.W.Frag) (x qual : Str) (st : Stmt) (f : Addr) (fd : FuncData) : Prop where
  ex : ∃ (oc : Value) (od : Option Addr) (kV doc pm : Value) (an : Option Addr) (cdv ct : Value) (osl : Array (Option Value)),
    fd = PySem.W.fnOf x qual (defArgs st) (defBody st) (defScope st) .none kV doc pm an cdv ct ∧ K.lookup f = some ⟨oc, od, .func fd, osl⟩ ∧ PySem.W.codeIn K cdv qual = true
  kp : PySem.W.keepIn K (.ref f) = true
section
variable {P : Program} {w : World} {K : PySem.W.Frag} {mg : Str → Option Value} {base : Heap}
/-- THE RULE for a def: its body as a term of rules, and the reading of that term -/
theorem Fun.ok {x qual : Str} {st : Stmt} {f : Addr} {fd : FuncData} {N ps : List Str} {k : Nat} {sp : Sp} (F : Fun K x qual st f fd) (S : FnScope N ps (defScope st)) (len : ∀ vs H Q E, sp vs H Q E → vs.length = ps.length)
    (hbody : ∀ (cdv : Value) (A : Around) (outer : List Env) (s : Shared) (H : Hp) (vs : List V) (Q : VK) (E : XK), Room k (A.deeper (envOfC qual (defScope st) s.heap.objs.size f cdv)) → sp vs H Q E →
      ∃ t, PSs (cxOf CX0 P w K mg base N qual (defScope st) f cdv A outer s H E).nox (defBody st) t ∧ t { nx := fun _ H' => Q .non H', rt := Q } (start N vs) H) : FnOk P w K mg base CX0 (k + 1) f fd ps sp := by
  obtain ⟨oc, od, kV, doc, pm, an, cdv, ct, osl, rfl, lk, hcd⟩ := F.ex
  refine fn_of lk hcd S len fun A outer s H vs Q E hr hsp => ?_
  obtain ⟨t, h, q⟩ := hbody cdv A outer s H vs Q E hr hsp
  exact ⟨t, h.nox, q⟩
/-- how its arguments bind (no defaults): h is «fun _ _ _ _ _ _ us hl => match us, hl with | [_, _], _ => rfl», one _ a parameter -/
theorem Fun.binds {x qual : Str} {st : Stmt} {f : Addr} {fd : FuncData} {ps : List Str} (F : Fun K x qual st f fd)
    (h : ∀ (kV doc pm : Value) (an : Option Addr) (cdv ct : Value) (us : List Value), us.length = ps.length → bindArgs (PySem.W.fnOf x qual (defArgs st) (defBody st) (defScope st) .none kV doc pm an cdv ct) ⟨us, []⟩ = pure (ps.zip us)) : Binds K fd ps [] := by
  obtain ⟨oc, od, kV, doc, pm, an, cdv, ct, osl, rfl, lk, hcd⟩ := F.ex
  exact .all (h kV doc pm an cdv ct)
theorem fun_mk {x qual : Str} {st : Stmt} {f : Addr} {oc : Value} {od an : Option Addr} {osl : Array (Option Value)} {kV doc pm cdv ct : Value} (l : K.lookup f = some ⟨oc, od, .func (PySem.W.fnOf x qual (defArgs st) (defBody st) (defScope st) .none kV doc pm an cdv ct), osl⟩)
    (c : PySem.W.codeIn K cdv qual = true) (k : PySem.W.keepIn K (.ref f) = true) : Fun K x qual st f (PySem.W.fnOf x qual (defArgs st) (defBody st) (defScope st) .none kV doc pm an cdv ct) := ⟨⟨oc, od, kV, doc, pm, an, cdv, ct, osl, rfl, l, c⟩, k⟩
end
theorem small1000 {n : Nat} (h : n ≤ 1000) : n < sizeLine := Nat.lt_of_le_of_lt h (by decide)

/-! ### expressions in short: the name that stands in the i-th slot -/
section
variable {X : Cx}
theorem pv (i : Nat) {x : Str} {pos : Pos} (hN : X.N[i]? = some x := by rfl) (hv : Vis X.env.scope x := by first | exact Or.inl rfl | exact Or.inr (Or.inl rfl) | exact Or.inr (Or.inr rfl)) (hd : (x == ("__debug__" : Str)) = false := by decide)
    (hcd : (x == ("__classdict__" : Str)) = false := by decide) : PE X (.Name x pos) (tVar i) := pe_var hN hv hd hcd
end

/-! ### tests -/
theorem iteF {A B : Prop} (h : B) : if false = true then A else B := by
  rw [if_neg Bool.false_ne_true]
  exact h
theorem iteT {A B : Prop} (h : A) : if true = true then A else B := by
  rw [if_pos rfl]
  exact h
theorem iteNS {c A B : Prop} [Decidable c] (hc : c) (h : B) : if (!decide c) = true then A else B := by
  rw [decide_eq_true hc]
  exact iteF h

/-! ### heaps -/
/-- all that was tracked is as it was -/
def Same (H H' : Hp) : Prop := ∀ b o, H b = some o → H' b = some o
theorem Same.refl (H : Hp) : Same H H := fun _ _ h => h
theorem Same.trans {H H1 H2 : Hp} (a : Same H H1) (b : Same H1 H2) : Same H H2 := fun c o h => b c o (a c o h)
theorem Same.free {H H' : Hp} (e : Same H H') {l : Addr} (h : H' l = Option.none) : H l = Option.none := by
  cases q : H l with
  | none => rfl
  | some o =>
    rw [e l o q] at h
    cases h
theorem Same.seq {K : PySem.W.Frag} {H H' : Hp} {a : Addr} {xs : List V} (e : Same H H') (h : SqL K H a xs) : SqL K H' a xs := by
  rcases h with (h | ⟨o, h⟩) | h
  · exact .inl (.inl (e _ _ h))
  · exact .inl (.inr ⟨o, e _ _ h⟩)
  · exact .inr h

end L2

set_option Elab.async false
set_option linter.all false
set_option maxRecDepth 100000
namespace L2
open PySem PySem.Spec PyProof.Rows

/-! ### list comprehensions: one clause, a name as its target, at most one test; no exception leaves it -/
theorem closure_is {scope : Scope} {env : Env} (h : ∀ y ∈ scope.names, y.2 = .free → ∃ c, env.cells.lookup y.1 = some c) :
    ∃ cl, closureFor scope env = pure cl ∧ (∀ x c, cl.lookup x = some c → env.cells.lookup x = some c ∧ (x, NameKind.free) ∈ scope.names) ∧
      ∀ x, (x, NameKind.free) ∈ scope.names → cl.lookup x = env.cells.lookup x := by
  have key : ∀ (l : List (Str × NameKind)) (cs : List (Str × Addr)), (∀ y ∈ l, y.2 = .free → ∃ c, env.cells.lookup y.1 = some c) →
      ∃ cl, (forIn l cs (fun (x : Str × NameKind) (cs : List (Str × Addr)) => do
          if x.2 == .free then
            let c ← cellOf env x.1
            pure (ForInStep.yield ((x.1, c) :: cs))
          else pure (ForInStep.yield cs)) : Sem (List (Str × Addr))) = pure cl ∧
        (∀ x c, cl.lookup x = some c → (env.cells.lookup x = some c ∧ (x, NameKind.free) ∈ l) ∨ cs.lookup x = some c) ∧
        ∀ x, ((x, NameKind.free) ∈ l → cl.lookup x = env.cells.lookup x) ∧ ((cs.lookup x = env.cells.lookup x) → cl.lookup x = env.cells.lookup x) := by
    intro l
    induction l with
    | nil => intro cs _; exact ⟨cs, rfl, fun x c e => .inr e, fun x => ⟨fun z => absurd z (by simp), fun z => z⟩⟩
    | cons y r ih =>
      intro cs hl
      obtain ⟨n, k⟩ := y
      by_cases hk : k = .free
      · subst hk
        obtain ⟨c, hc⟩ := hl (n, .free) List.mem_cons_self rfl
        obtain ⟨cl, e1, e2, e3⟩ := ih ((n, c) :: cs) fun y hy => hl y (List.mem_cons_of_mem _ hy)
        refine ⟨cl, ?_, fun x d e => ?_, fun x => ⟨fun z => ?_, fun z => ?_⟩⟩
        · rw [List.forIn_cons]
          simp only [beq_self_eq_true, if_true, cellOf, hc]
          exact e1
        · rcases e2 x d e with ⟨z1, z2⟩ | z
          · exact .inl ⟨z1, List.mem_cons_of_mem _ z2⟩
          · rw [List.lookup_cons] at z
            by_cases hx : x == n
            · rw [hx] at z
              have hx' : x = n := by simpa using hx
              subst hx'
              refine .inl ⟨?_, List.mem_cons_self⟩
              rw [hc]; exact z
            · have hx' : (x == n) = false := by simpa using hx
              rw [hx'] at z
              exact .inr z
        · rcases List.mem_cons.mp z with z | z
          · injection z with z1 _
            subst z1
            refine (e3 x).2 ?_
            rw [List.lookup_cons, hc]
            simp
          · exact (e3 x).1 z
        · by_cases hx : x = n
          · subst hx
            refine (e3 x).2 ?_
            rw [List.lookup_cons, hc]
            simp
          · refine (e3 x).2 ?_
            rw [List.lookup_cons]
            have hx' : (x == n) = false := by simpa using hx
            rw [hx']
            exact z
      · obtain ⟨cl, e1, e2, e3⟩ := ih cs fun y hy => hl y (List.mem_cons_of_mem _ hy)
        have hb : (k == NameKind.free) = false := by simpa using hk
        refine ⟨cl, ?_, fun x d e => ?_, fun x => ⟨fun z => ?_, (e3 x).2⟩⟩
        · rw [List.forIn_cons]
          simp only [hb, Bool.false_eq_true, if_false]
          exact e1
        · rcases e2 x d e with ⟨z1, z2⟩ | z
          · exact .inl ⟨z1, List.mem_cons_of_mem _ z2⟩
          · exact .inr z
        · rcases List.mem_cons.mp z with z | z
          · injection z with _ z2
            exact absurd z2.symm hk
          · exact (e3 x).1 z
  obtain ⟨cl, e1, e2, e3⟩ := key scope.names [] h
  refine ⟨cl, ?_, fun x c e => ?_, fun x z => (e3 x).1 z⟩
  · unfold closureFor
    have := e1
    simpa using this
  · rcases e2 x c e with z | z
    · exact z
    · simp at z

theorem lookup_relabel {env : Env} (hk : env.scope.kind = .function) : ∀ {names : List (Str × NameKind)} {x : Str} {k : NameKind}, names.lookup x = some k → k ≠ .free →
    (names.map fun (n, k) => if (k == NameKind.free && env.scope.kind == .function && env.kindOf n == some .cell) then (n, NameKind.cell) else (n, k)).lookup x = some k
  | [], _, _, h, _ => by simp at h
  | (n, k') :: r, x, k, h, hf => by
    have ih := @lookup_relabel env hk r x k
    show List.lookup x ((if (k' == NameKind.free && env.scope.kind == .function && env.kindOf n == some .cell) = true then (n, NameKind.cell) else (n, k')) :: _) = _
    cases hx : x == n with
    | true =>
      simp only [List.lookup_cons, hx] at h
      cases h
      have : (k' == NameKind.free) = false := by simpa using hf
      simp [List.lookup_cons, hx, this]
    | false =>
      simp only [List.lookup_cons, hx] at h
      by_cases hc : (k' == NameKind.free && env.scope.kind == .function && env.kindOf n == some .cell) = true
      · rw [if_pos hc]; simp only [List.lookup_cons, hx]; exact ih h hf
      · rw [if_neg hc]; simp only [List.lookup_cons, hx]; exact ih h hf
theorem lookup_relabel_free {env : Env} (hk : env.scope.kind = .function) : ∀ {names : List (Str × NameKind)} {x : Str}, names.lookup x = some .free → env.kindOf x = some .cell →
    (names.map fun (n, k) => if (k == NameKind.free && env.scope.kind == .function && env.kindOf n == some .cell) then (n, NameKind.cell) else (n, k)).lookup x = some .cell
  | [], _, h, _ => by simp at h
  | (n, k') :: r, x, h, hc => by
    have ih := @lookup_relabel_free env hk r x
    show List.lookup x ((if (k' == NameKind.free && env.scope.kind == .function && env.kindOf n == some .cell) = true then (n, NameKind.cell) else (n, k')) :: _) = _
    cases hx : x == n with
    | true =>
      simp only [List.lookup_cons, hx] at h
      cases h
      have hxn : x = n := by simpa using hx
      subst hxn
      simp [List.lookup_cons, hk, hc]
    | false =>
      simp only [List.lookup_cons, hx] at h
      by_cases hd : (k' == NameKind.free && env.scope.kind == .function && env.kindOf n == some .cell) = true
      · rw [if_pos hd]; simp only [List.lookup_cons, hx]; exact ih h hc
      · rw [if_neg hd]; simp only [List.lookup_cons, hx]; exact ih h hc

/-- the context of a comprehension's block; Nc: its own name, then the names it takes from around it -/
def cxComp (X : Cx) (Nc : List Str) (scope : Scope) (cl : List (Str × Addr)) (C : Addr) (fp : List Addr) (s : Shared) (H : Hp) : Cx where
  prog := X.prog
  w := X.w
  K := X.K
  mg := X.mg
  base := X.base
  A := X.A
  N := Nc
  s₀ := s
  H₀ := H
  env := compEnvC scope cl C X.env
  outer := X.stack
  stack := X.stack
  ex := fp
  fn := fun _ => false
  calm := X.calm
  pn := []
  xe := fun _ _ => False

/-- the slots of the names that are taken from around: their values -/
def capV (σ : St) (caps : List Nat) : St := caps.map fun j => (σ[j]?).join

structure CompOk (X : Cx) (x : Str) (Nc : List Str) (caps : List Nat) (scope : Scope) : Prop where
  kind : scope.kind = .function
  cell : ∀ y ∈ scope.names, y.2 ≠ .cell
  names : ∀ y ∈ scope.names, y.2 = .local → scope.names.lookup y.1 = some .local
  fr : ∀ y ∈ scope.names, y.2 = .free → X.env.scope.names.lookup y.1 = some .cell ∧ scope.names.lookup y.1 = some .free
  loc : scope.names.lookup x = some .local
  len : Nc.length = caps.length + 1
  hd : Nc[0]? = some x
  nd : Nc.Nodup
  cap : ∀ k j, caps[k]? = some j → ∃ y, Nc[k + 1]? = some y ∧ X.N[j]? = some y ∧ scope.names.lookup y = some .free

theorem compLoop_any {prog : Program} {w : World} {A : Around} {R : Result → Shared → Prop} {s : Shared} {elt target iter : Expr} {ifs : List Expr} {scope : Scope} {pos : Pos} {it acc : Value} {env : Env} (I : Nat → Shared → Prop)
    (turn : ∀ n s, I n s → wpAny (model prog w) A (pyNext it) (fun r s₁ => match r with
      | none => R (.ok .next) s₁
      | some v => wpAny (model prog w) A (letOwnedTupleGo target it v) (fun _ s1' => wpAny (model prog w) A (assign target env v) (fun _ s₂ =>
          wpAny (model prog w) A (forIn ifs true fun c r => if r = true then do let ok ← isTrue c env (eval c env); pure (ForInStep.yield ok) else pure (ForInStep.yield r)) (fun ok s₃ =>
            if ok = true then wpAny (model prog w) A (eval elt env) (fun x s₄ =>
              wpAny (model prog w) A (call (.builtin "list.append") [acc, x]) (fun _ s₅ => ∃ m, m < n ∧ I m s₅) (notedBy (model prog w) A env fun e s' => R (.error e) s') s₄) (notedBy (model prog w) A env fun e s' => R (.error e) s') s₃
            else ∃ m, m < n ∧ I m s₃) (notedBy (model prog w) A env fun e s' => R (.error e) s') s₂) (notedBy (model prog w) A env fun e s' => R (.error e) s') s1') (notedBy (model prog w) A env fun e s' => R (.error e) s') s₁) (notedBy (model prog w) A env fun e s' => R (.error e) s') s)
    (n : Nat) (h : I n s) :
    codeAny (model prog w) A (.compLoop (.ListComp elt [⟨target, iter, ifs, 0⟩] scope pos) 0 it acc env) R s := by
  refine codeAny_loop rfl I (fun n s hI => ?_) n h
  show wpAny _ A ((compTurn (.ListComp elt [⟨target, iter, ifs, 0⟩] scope pos) 0 it acc env).onRaise (fun x => do noteFrame x env; theTreesLotGoes x)) _ _ s
  refine wpAny_noted ?_
  rw [compTurn_list]
  refine wpAny_bind (wpAny_standAt (wpAny_bind (wpAny_mono (turn n s hI) (fun r s₁ h₁ => ?_) fun _ _ h' => h')))
  cases r with
  | none => exact wpAny_pure h₁
  | some v =>
    refine wpAny_bind (wpAny_mono h₁ (fun _ s1' h₁ => ?_) fun _ _ h' => h')
    refine wpAny_bind (wpAny_mono h₁ (fun _ s₂ h₂ => wpAny_bind (wpAny_mono h₂ (fun ok s₃ h₃ => ?_) fun _ _ h' => h')) fun _ _ h' => h')
    cases ok with
    | false => exact wpAny_pure ⟨rfl, h₃⟩
    | true =>
      exact wpAny_bind (wpAny_bind (wpAny_mono h₃ (fun x s₄ h₄ => wpAny_bind (wpAny_mono h₄ (fun _ s₅ h₅ => wpAny_pure (wpAny_pure ⟨rfl, h₅⟩)) fun _ _ h' => h')) fun _ _ h' => h'))

/-- the test, where there is one -/
def tNoTest : TT := fun _ H Q => Q true H
inductive PIf (X : Cx) : List Expr → TT → Prop where
  | nil : PIf X [] tNoTest
  | one {c : Expr} {t : TT} (h : PT X c t) : PIf X [c] t
theorem PIf.run {X : Cx} {ifs : List Expr} {t : TT} (h : PIf X ifs t) {pins : List (Addr × Obj)} {s : Shared} {σ : St} {H : Hp} {Q : Bool → Hp → Prop} (I : Inv X pins σ H s) (ht : t σ H Q) :
    wpAny (model X.prog X.w) X.A (forIn ifs true fun c r => if r = true then do let ok ← isTrue c X.env (eval c X.env); pure (ForInStep.yield ok) else pure (ForInStep.yield r)) (TP X pins σ Q) X.xe s := by
  cases h with
  | nil => exact wpAny_tests_nil ⟨H, I, ht⟩
  | one h => exact wpAny_tests_one (h pins s σ H Q I ht)

/-- the reading: W by the turn, a measure, what is made so far -/
def tCompW (caps : List Nat) (tc : TT) (te : TE) (J : It) (σ : St) (H : Hp) (Q : VK) : Prop :=
  ∃ W : Nat → Nat → List V → Hp → Prop, (∃ m, W 0 m [] H) ∧ ∀ i m ys H, W i m ys H →
    (J.stop i H ∧ ys.length ≤ sizeLine ∧ ∀ p, H p = none → Q (.ref p) (upd H p (.lst ys))) ∨
    (J.go i H ∧ ys.length < sizeLine ∧ ∀ x H', J.yld i H x H' → tc (some x :: capV σ caps) H' fun b H2 =>
      if b = true then te (some x :: capV σ caps) H2 fun y H3 => ∃ m', m' < m ∧ W (i + 1) m' (ys ++ [y]) H3 else ∃ m', m' < m ∧ W (i + 1) m' ys H2)
def tComp (wi : TI) (caps : List Nat) (tc : TT) (te : TE) : TE := fun σ H Q => wi σ H fun J H1 => tCompW caps tc te J σ H1 Q

section
variable {X : Cx} {pins : List (Addr × Obj)} {σ : St} {H : Hp} {s : Shared}

theorem Un.track {fs ex : List Addr} {H H' : Hp} {h h' : Heap} {a : Addr} {o : HO} (u : Un fs ex H H' h h') (ha : h.objs.size ≤ a) (hn : H' a = none) : Un fs ex H (upd H' a o) h h' where
  keep := u.keep
  slot := u.slot
  free := fun b ob q n hx => by rw [upd_ne (Nat.ne_of_lt (Nat.lt_of_lt_of_le (Heap.lt_size q) ha))]; exact u.free b ob q n hx
  there := u.there
  tups := fun b xs q => by rw [upd_ne (ne_of_none (u.tups b xs q) hn)]; exact u.tups b xs q
  frzs := fun b ob xs q => by rw [upd_ne (ne_of_none (u.frzs b ob xs q) hn)]; exact u.frzs b ob xs q
  tbls := fun b ps q => by
    obtain ⟨m, e⟩ := u.tbls b ps q
    exact ⟨m, by rw [upd_ne (ne_of_none e hn)]; exact e⟩
theorem HOk.track {P : Program} {w : World} {H : Hp} {h : Heap} {a : Addr} {o : HO} (x : HOk P w H h) (hn : H a = none) (new : ObjOk P w (upd H a o) h a o) : HOk P w (upd H a o) h := fun b u e => by
  by_cases hb : b = a
  · subst hb; rw [upd_same] at e; cases e; exact new
  · rw [upd_ne hb] at e
    exact (x b u e).stay (fun c v _ q => q) (fun c q => by rw [upd_ne (ne_of_none q hn)]; exact q) fun c xs q => by rw [upd_ne (ne_of_none q hn)]; exact q

/-- the block's context is good -/
theorem comp_ok {x : Str} {Nc : List Str} {caps : List Nat} {scope : Scope} {cl : List (Str × Addr)} {C : Addr} {fp : List Addr} (I : Inv X pins σ H s) (O : CompOk X x Nc caps scope)
    (hcl : ∀ x c, cl.lookup x = some c → X.env.cells.lookup x = some c ∧ (x, NameKind.free) ∈ scope.names) (hcl2 : ∀ x, (x, NameKind.free) ∈ scope.names → cl.lookup x = X.env.cells.lookup x)
    (hC : s.heap.objs.size ≤ C) (hfp : ∀ b ∈ fp, FpOk X pins H b) (hfo : ∀ b ∈ fp, b < s.heap.objs.size) : (cxComp X Nc scope cl C fp s H).Ok where
  mod := I.ok.mod
  kind := O.kind
  glob := I.ok.glob
  blt := I.ok.blt
  above := hC
  inj := fun a b c e1 e2 => I.ok.inj a b c (hcl a c e1).1 (hcl b c e2).1
  has := fun y hy => by
    have mem : (y, NameKind.free) ∈ scope.names := by
      have hy' : ((relabel scope X.env).names.lookup y = some .cell) ∨ ((relabel scope X.env).names.lookup y = some .free) := hy
      have hm : ∃ k, (y, k) ∈ (relabel scope X.env).names ∧ (k = .cell ∨ k = .free) := by
        rcases hy' with h | h
        · exact ⟨_, PySem.mem_of_lookup h, .inl rfl⟩
        · exact ⟨_, PySem.mem_of_lookup h, .inr rfl⟩
      obtain ⟨k, hm, hk⟩ := hm
      obtain ⟨⟨n, k'⟩, hm', e⟩ := List.mem_map.mp hm
      dsimp only at e
      by_cases hc : (k' == NameKind.free && X.env.scope.kind == .function && X.env.kindOf n == some .cell) = true
      · rw [if_pos hc] at e
        injection e with e1 _
        subst e1
        have : k' = .free := by
          have := (Bool.and_eq_true _ _ ▸ (Bool.and_eq_true _ _ ▸ hc).1).1
          simpa using this
        subst this
        exact hm'
      · rw [if_neg hc] at e
        injection e with e1 e2
        subst e1 e2
        rcases hk with hk | hk
        · subst hk; exact absurd rfl (O.cell _ hm')
        · subst hk; exact hm'
    obtain ⟨c, e⟩ := I.ok.has y (.inl (O.fr _ mem rfl).1)
    exact ⟨c, (hcl2 y mem).trans e⟩
  cab := fun _ _ z => nomatch z
  hd := I.ok.hd
  frames := I.ok.frames
  stk := .inl rfl
  exf := fun b hb => ⟨Nat.ne_of_lt (Nat.lt_of_lt_of_le (hfo b hb) hC), fun y c e => (hfp b hb).2.2.2.2.1 y c (hcl y c e).1⟩
  bs := I.bs
  bsz := Nat.le_trans I.ok.bsz I.sz
  noex := fun b o e hb => by
    rcases (hfp b hb).2.2.2.1 with z | z
    · exact I.ok.noex b o e z
    · exact absurd (Nat.lt_of_lt_of_le (Heap.lt_size e) (Nat.le_trans I.ok.bsz z)) (Nat.lt_irrefl _)
  exfs := fun b hb z => by
    rcases List.mem_cons.mp (I.stkSub b z) with e | e
    · exact (hfp b hb).2.1 e
    · exact (hfp b hb).2.2.1 e
  funs := I.stack
  frf := I.stkFree
end
end L2

set_option Elab.async false
set_option linter.all false
set_option maxRecDepth 100000
namespace L2
open PySem PySem.Spec PyProof.Rows
section
variable {X : Cx} {pins : List (Addr × Obj)} {σ : St} {H : Hp} {s : Shared}

theorem capV_len (σ : St) (caps : List Nat) : (capV σ caps).length = caps.length := by unfold capV; rw [List.length_map]
theorem capV_get {σ : St} {caps : List Nat} {k : Nat} {v : V} (e : (capV σ caps)[k]? = some (some v)) : ∃ j, caps[k]? = some j ∧ σ[j]? = some (some v) := by
  unfold capV at e
  rw [List.getElem?_map] at e
  cases hk : caps[k]? with
  | none => rw [hk] at e; cases e
  | some j =>
    rw [hk] at e
    have e' : (σ[j]?).join = some v := Option.some.inj e
    refine ⟨j, rfl, ?_⟩
    cases hj : σ[j]? with
    | none => rw [hj] at e'; cases e'
    | some o => rw [hj] at e'; rw [show o = some v from e']

theorem Un.but {fs ex : List Addr} {H H' : Hp} {h h1 h2 : Heap} {C : Addr} (u : Un fs ex H H' h h1) (hs : Heap.SameBut C h1 h2) (hC : h.objs.size ≤ C) : Un fs ex H H' h h2 where
  keep := fun b o q n hb hx => (hs.2 b (Nat.ne_of_lt (Nat.lt_of_lt_of_le (Heap.lt_size q) hC))).trans (u.keep b o q n hb hx)
  slot := fun b o q n hb hx => by
    obtain ⟨sl, e⟩ := u.slot b o q n hb hx
    exact ⟨sl, (hs.2 b (Nat.ne_of_lt (Nat.lt_of_lt_of_le (Heap.lt_size q) hC))).trans e⟩
  free := u.free
  there := fun b o q hx => by
    obtain ⟨o', e⟩ := u.there b o q hx
    exact ⟨o', (hs.2 b (Nat.ne_of_lt (Nat.lt_of_lt_of_le (Heap.lt_size q) hC))).trans e⟩
  tups := u.tups
  frzs := u.frzs
  tbls := u.tbls
/-- the block's state at its start -/
theorem comp_start {x : Str} {Nc : List Str} {caps : List Nat} {scope : Scope} {cl : List (Str × Addr)} {C : Addr} {fp : List Addr} {h' : Heap} {tk : Nat} {m0 : Str → Option Value} (I : Inv X pins σ H s) (O : CompOk X x Nc caps scope)
    (hcl : ∀ x c, cl.lookup x = some c → X.env.cells.lookup x = some c ∧ (x, NameKind.free) ∈ scope.names) (hcl2 : ∀ x, (x, NameKind.free) ∈ scope.names → cl.lookup x = X.env.cells.lookup x)
    (hC : s.heap.objs.size ≤ C) (hfp : ∀ b ∈ fp, FpOk X pins H b) (hfo : ∀ b ∈ fp, b < s.heap.objs.size)
    (old : ∀ b o, s.heap.get? b = some o → h'.get? b = some o) (hns : h'.Ns C m0) :
    Inv (cxComp X Nc scope cl C fp s H) [] (none :: capV σ caps) H { s with heap := h', toks := tk } where
  ok := comp_ok I O hcl hcl2 hC hfp hfo
  os := rfl
  bare := I.bare
  base := Un.kept old
  loc := by
    refine ⟨m0, hns, fun i y v hN hσ hv => ?_⟩
    cases i with
    | zero => simp at hσ
    | succ k =>
      rw [List.getElem?_cons_succ] at hσ
      obtain ⟨j, hj, hs⟩ := capV_get hσ
      obtain ⟨z, hz1, hz2, hz3⟩ := O.cap k j hj
      have hN' : Nc[k + 1]? = some y := hN
      rw [hz1] at hN'
      cases hN'
      have mem : (y, NameKind.free) ∈ scope.names := PySem.mem_of_lookup hz3
      have hk := (O.fr _ mem rfl).1
      obtain ⟨m, hn, hl⟩ := I.loc
      obtain ⟨u, r, l⟩ := hl j y v hz2 hs (.inr (.inl hk))
      refine ⟨u, r, ?_⟩
      rcases l with ⟨k', _⟩ | ⟨_, c, hc, z⟩
      · have k'' : X.env.scope.names.lookup y = some .local := k'
        rw [hk] at k''; cases k''
      · obtain ⟨o, ho, hd⟩ := z
        exact .inr ⟨.inl (lookup_relabel_free I.ok.kind hz3 hk), c, (hcl2 y mem).trans hc, o, old _ _ ho, hd⟩
  cell := fun y c e => by
    obtain ⟨v, o, ho, hd⟩ := I.cell y c (hcl y c e).1
    exact ⟨v, o, old _ _ ho, hd⟩
  free := I.hok.fresh hC
  freeC := fun y c e => I.freeC y c (hcl y c e).1
  pin := fun p hp => absurd (show p ∈ ([] : List (Addr × Obj)) from hp) (by simp)
  hok := I.hok.kept old
  len := by
    show (none :: capV σ caps).length = Nc.length
    rw [List.length_cons, capV_len, O.len]

/-- a list that only the block knows, as it stands -/
abbrev rawL (us : List Value) (n : Nat) : Obj := { cls := .type "list", data := .seq us.toArray n }

theorem comp_fr {X : Cx} {sc0 scope : Scope} (h : X.env.scope = sc0) (hd : ∀ y ∈ scope.names, y.2 = .free → sc0.names.lookup y.1 = some .cell ∧ scope.names.lookup y.1 = some .free) :
    ∀ y ∈ scope.names, y.2 = .free → X.env.scope.names.lookup y.1 = some .cell ∧ scope.names.lookup y.1 = some .free := by
  rw [h]
  exact hd

/-- THE BLOCK: the list is made, the variables live, the turns go; RR is what is wanted at the block's end -/
theorem comp_block {x : Str} {px : Pos} {Nc : List Str} {caps : List Nat} {scope : Scope} {cl : List (Str × Addr)} {iter elt : Expr} {ifs : List Expr} {pos : Pos} {tc : TT} {te : TE} {Q : VK} {it : Addr} {fp : List Addr} {tn : Nat → Heap → Prop} {J : It}
    {RR : Value → Addr → Result → Shared → Prop} {E : Value → Shared → Prop}
    (O : CompOk X x Nc caps scope) (hc : X.calm = true)
    (hcl : ∀ x c, cl.lookup x = some c → X.env.cells.lookup x = some c ∧ (x, NameKind.free) ∈ scope.names) (hcl2 : ∀ x, (x, NameKind.free) ∈ scope.names → cl.lookup x = X.env.cells.lookup x)
    (hte : ∀ C fp s H, PE (cxComp X Nc scope cl C fp s H) elt te) (htc : ∀ C fp s H, PIf (cxComp X Nc scope cl C fp s H) ifs tc)
    (I : Inv X pins σ H s) (T : Turn X.prog X.w X.K (.Name x px) J fp it tn) (st : tn 0 s.heap) (hfp : ∀ b ∈ fp, FpOk X pins H b) (h : tCompW caps tc te J σ H Q)
    (hRR : ∀ (D C : Addr) (s' : Shared) (m : Str → Option Value), s'.heap.Ns C m → (∀ h', Heap.SameBut C s'.heap h' → ∃ H', Inv X pins σ H' { s' with heap := h' } ∧ H' C = none ∧ Q (.ref D) H') →
      s.heap.objs.size ≤ C → RR (.ref D) C (.ok .next) s') :
    wpAny (model X.prog X.w) X.A (newList []) (fun acc s₃ => wpAny (model X.prog X.w) X.A (newFunctionEnv scope X.env.globals cl [] X.env.qual none .none (some X.env)) (fun cenv s₄ =>
      codeAny (model X.prog X.w) X.A (.compStart (.ListComp elt [⟨.Name x px, iter, ifs, 0⟩] scope pos) 0 (.ref it) acc { cenv with scope := relabel scope X.env }) (RR acc cenv.locals) s₄) E s₃) E s := by
  refine wpAny_newObj_type (wpAny_newFunctionEnv O.cell (by intro y hy; simp at hy) (fun h₁ hns₁ hsb₁ => ?_) O.kind)
  dsimp only at hns₁ hsb₁ ⊢
  generalize hH2 : s.heap.push { cls := .type "list", dict := none, data := .seq ([] : List Value).toArray } = H2 at hns₁ hsb₁ ⊢
  have hC : H2.objs.size = s.heap.objs.size + 1 := by rw [← hH2, Heap.size_push]
  have hCle : s.heap.objs.size ≤ H2.objs.size := by rw [hC]; exact Nat.le_succ _
  have hDC : s.heap.objs.size ≠ H2.objs.size := by rw [hC]; exact Nat.ne_of_lt (Nat.lt_succ_self _)
  have below : ∀ b, b < s.heap.objs.size → b ≠ H2.objs.size ∧ b ≠ s.heap.objs.size := fun b hb => ⟨by rw [hC]; exact Nat.ne_of_lt (Nat.lt_succ_of_lt hb), Nat.ne_of_lt hb⟩
  have old : ∀ b o, s.heap.get? b = some o → h₁.get? b = some o := fun b o e => hsb₁.extBut b o (below b (Heap.lt_size e)).1 (Heap.get?_push_of_some _ (hH2 ▸ Heap.get?_push_of_some _ e))
  have hacc : h₁.get? s.heap.objs.size = some (rawL [] 0) := hsb₁.extBut _ _ hDC (Heap.get?_push_of_some _ (hH2 ▸ Heap.get?_push_size _ rfl))
  have hfo : ∀ b ∈ fp, b < s.heap.objs.size := fun b hb => by
    obtain ⟨o, e, _⟩ := T.obj _ _ st b hb
    exact Heap.lt_size e
  have st1 : tn 0 h₁ := T.keep _ _ _ st fun b _ o e => old b o e
  generalize hDD : s.heap.objs.size = D at *
  generalize hCC : H2.objs.size = C at *
  have DleC : D ≤ C := hCle
  let Y : Cx := cxComp X Nc scope cl C fp s H
  have I0 : Inv Y [] (none :: capV σ caps) H { s with heap := h₁, toks := s.toks + ([] : List (Str × Value)).length } := comp_start I O hcl hcl2 (by rw [hDD]; exact hCle) hfp (fun b hb => by rw [hDD]; exact hfo b hb) old hns₁
  have Dfree : H D = none := by rw [← hDD]; exact I.hok.fresh (Nat.le_refl _)
  have DneC : D ≠ C := hDC
  -- what stays true of D, of the iterator's objects
  have Dfs : D ∉ Y.fs := fun z => by
    have := I.stack.mem (show D ∈ frs X.stack from z)
    obtain ⟨_, o, e, _⟩ := this
    have := Heap.lt_size e
    rw [hDD] at this
    exact Nat.lt_irrefl _ this
  have Dcell : ∀ y c, Y.env.cells.lookup y = some c → c ≠ D := fun y c e z => by
    obtain ⟨v, q⟩ := I.cell y c (hcl y c e).1
    have := q.lt
    rw [z, hDD] at this
    exact Nat.lt_irrefl _ this
  have Dfp : ∀ b ∈ fp, b ≠ D := fun b hb => Nat.ne_of_lt (hfo b hb)
  have fpY : ∀ {H' : Hp}, (∀ b ∈ fp, H' b = none) → ∀ b ∈ fp, FpOk Y [] H' b := fun hn b hb =>
    ⟨hn b hb, Nat.ne_of_lt (Nat.lt_of_lt_of_le (hfo b hb) DleC), fun z => I0.ok.exfs b hb z, .inl hb, fun y c e => (I0.ok.exf b hb).2 y c e, fun p hp => absurd (show p ∈ ([] : List (Addr × Obj)) from hp) (by simp)⟩
  obtain ⟨W, ⟨m0, w0⟩, turn⟩ := h
  have loop : ∀ s₃ : Shared, s₃ = { s with heap := h₁, toks := s.toks + ([] : List (Str × Value)).length } →
      codeAny (model X.prog X.w) X.A (.compLoop (.ListComp elt [⟨.Name x px, iter, ifs, 0⟩] scope pos) 0 (.ref it) (.ref D) (compEnvC scope cl C X.env)) (RR (.ref D) C) s₃ := by
    rintro s₃ rfl
    refine compLoop_any (fun n s' => ∃ (i : Nat) (o : Option V) (H' : Hp) (ys : List V) (us : List Value) (k : Nat), Inv Y [] (o :: capV σ caps) H' s' ∧ tn i s'.heap ∧ (∀ b ∈ fp, H' b = none) ∧ s'.heap.get? D = some (rawL us k) ∧ H' D = none ∧ Vals ys us ∧ W i n ys H')
      ?_ m0 ⟨0, none, H, [], [], 0, I0, st1, fun b hb => (hfp b hb).1, hacc, Dfree, .nil, w0⟩
    rintro n s3 ⟨i, o3, H3, ys, us, k, I3, st3, fr3, hD3, nD3, rv, w3⟩
    have fpP : ∀ {H' : Hp} {ob : Obj}, (∀ b ∈ fp, H' b = none) → ∀ b ∈ fp, FpOk Y [(D, ob)] H' b := fun hn b hb => by
      obtain ⟨g0, g1, g2, g3, g4, _⟩ := fpY hn b hb
      refine ⟨g0, g1, g2, g3, g4, fun p hp => ?_⟩
      have e : p = (D, _) := List.mem_singleton.mp (show p ∈ [(D, _)] from hp)
      rw [e]
      exact Ne.symm (Dfp b hb)
    have IP : Inv Y [(D, rawL us k)] (o3 :: capV σ caps) H3 s3 := I3.pins_of fun p hp => by
      have e : p = (D, rawL us k) := List.mem_singleton.mp hp
      subst e
      exact ⟨hD3, nD3, DneC, Dfs, fun v z => by cases z⟩
    have pinD : ∀ {σ' : St} {H' : Hp} {s' : Shared} {pl : List (Addr × Obj)}, Inv Y ([(D, rawL us k)] ++ pl) σ' H' s' → s'.heap.get? D = some (rawL us k) ∧ H' D = none := fun I' => by
      have z := I'.pin (D, rawL us k) (List.mem_append_right _ (List.mem_append_left _ List.mem_cons_self))
      exact ⟨z.1, z.2.1⟩
    rcases turn i n ys H3 w3 with ⟨stop, hlen, fin⟩ | ⟨go, hlen, step⟩
    · -- the end
      refine wpAny_mono (T.done Y rfl rfl rfl hc i _ s3 _ H3 (fun _ _ => False) IP (fpP fr3) st3 stop) (fun r s4 hr => ?_) fun _ _ z => z.elim
      obtain ⟨hr, I4⟩ := hr
      subst hr
      obtain ⟨gD, nD⟩ := pinD (pl := []) (by simpa using I4)
      obtain ⟨m, hn, _⟩ := I4.loc
      refine hRR D C s4 m hn (fun h' hs' => ⟨upd H3 D (.lst ys), ?_, (upd_ne (Ne.symm DneC)).trans I4.free, fin D nD⟩) hCle
      have nt : ∀ b ob, H3 b = some ob → b ≠ C := fun b ob e z => by
        have := I4.free
        rw [z] at e
        rw [show H3 C = none from this] at e
        cases e
      have u1 : Un (frs X.stack) fp H H3 s.heap h' := Un.but I4.base hs' (show s.heap.objs.size ≤ C by rw [hDD]; exact hCle)
      have ok1 : HOk X.prog X.w H3 h' := fun b ob e => (I4.hok b ob e).stay (fun c v hc q => (hs'.2 c (by
        rcases hc with z | z
        · rw [z]; exact nt b ob e
        · exact nt c _ z)).trans q) (fun _ q => q) fun _ _ q => q
      have gD' : h'.get? D = some (rawL us k) := (hs'.2 D DneC).trans gD
      exact I.call' (s' := { s4 with heap := h' }) (ch := fp) I4.os (u1.track (Nat.le_of_eq hDD) nD) (ok1.track nD ⟨hlen, us, k, rv, gD'⟩) I4.bare fun b hb => by
        obtain ⟨_, g1, _, g3, g4, g5⟩ := hfp b hb
        exact ⟨g3, g1, g4, g5⟩
    · -- a turn
      refine wpAny_mono (T.item Y rfl rfl rfl hc i _ s3 _ H3 (fun _ _ => False) IP (fpP fr3) st3 go) (fun r s4 hr => ?_) fun _ _ z => z.elim
      obtain ⟨u0, hr, h4⟩ := hr
      subst hr
      refine wpAny_mono h4 (fun _ s5 h5 => ?_) fun _ _ z => z.elim
      obtain ⟨x5, H5, I5, r5, y5, st5, fr5⟩ := h5
      have I5' := I5.pinned (fpP fr5) (T.obj _ _ st5)
      have tgt : PG Y (.Name x px) (gName 0) := pg_name (i := 0) O.nd O.hd (.inl (lookup_relabel I.ok.kind O.loc (by intro z; cases z))) (.inr (lookup_relabel I.ok.kind O.loc (by intro z; cases z)))
      refine wpAny_mono (tgt _ s5 _ H5 x5 u0 (fun σ2 H2 => σ2 = some x5 :: capV σ caps ∧ H2 = H5) I5' r5 ⟨rfl, rfl⟩) (fun _ s6 h6 => ?_) fun _ _ z => z.elim
      obtain ⟨_, _, I6, rfl, rfl⟩ := h6
      refine wpAny_mono ((htc C fp s H).run I6 (step x5 _ y5)) (fun b s7 h7 => ?_) fun _ _ z => z.elim
      obtain ⟨H7, I7, q7⟩ := h7
      have keepT : ∀ {σ' : St} {H' : Hp} {s' : Shared}, Inv Y ([(D, rawL us k)] ++ pinsAt fp s5.heap) σ' H' s' → tn (i + 1) s'.heap ∧ ∀ b ∈ fp, H' b = none := fun I' =>
        ⟨T.keep _ _ _ st5 fun b hb o e => (I'.pin (b, o) (List.mem_append_right _ (List.mem_append_right _ (mem_pinsAt hb e)))).1, fun b hb => by
          obtain ⟨o, e, d⟩ := T.obj _ _ st5 b hb
          exact (I'.pin (b, o) (List.mem_append_right _ (List.mem_append_right _ (mem_pinsAt hb e)))).2.1⟩
      cases b with
      | false =>
        rw [if_neg Bool.false_ne_true] at q7
        rw [if_neg Bool.false_ne_true]
        obtain ⟨m', hm, w7⟩ := q7
        obtain ⟨gD, nD⟩ := pinD I7
        obtain ⟨k1, k2⟩ := keepT I7
        exact ⟨m', hm, i + 1, some x5, H7, ys, us, k, I7.pins_of (fun p hp => nomatch hp), k1, k2, gD, nD, rv, w7⟩
      | true =>
        rw [if_pos rfl] at q7
        rw [if_pos rfl]
        refine wpAny_mono (hte C fp s H _ s7 _ H7 _ I7 q7) (fun u8 s8 h8 => ?_) fun _ _ z => z.elim
        obtain ⟨y8, H8, I8, r8, m', hm, w8⟩ := h8
        obtain ⟨gD, nD⟩ := pinD I8
        obtain ⟨k1, k2⟩ := keepT I8
        refine call_meets F.slot_list_append ⟨_, gD, rfl⟩ F.entry_list_append (F.args_list_append_2 _ _) (PySem.list_append D us.toArray k u8 (by rw [List.size_toArray, ← rv.length]; omega)) ⟨gD, ?_⟩
        have q := PySem.IsL.update gD (·.push u8)
        have e1 : us.toArray.push u8 = (us ++ [u8]).toArray := by simp
        rw [e1] at q
        have I8' : Inv Y [] (some x5 :: capV σ caps) H8 s8 := I8.pins_of (fun p hp => nomatch hp)
        have I9 : Inv Y [] (some x5 :: capV σ caps) H8 { s8 with heap := s8.heap.update D (Obj.mapSeq (·.push u8)), toks := s8.toks } :=
          I8'.turned (it := D) (fun b o hb e => (Heap.get?_update_other s8.heap (Obj.mapSeq (·.push u8)) (Ne.symm hb)).trans e) nD DneC (.inr (Nat.le_of_eq hDD)) Dcell (fun p hp => nomatch hp)
        refine ⟨m', hm, i + 1, some x5, H8, ys ++ [y8], us ++ [u8], _, I9, T.keep _ _ _ k1 fun b hb o e => (Heap.get?_update_other s8.heap (Obj.mapSeq (·.push u8)) (Ne.symm (Dfp b hb))).trans e, k2, q, nD, rv.append (.cons r8 .nil), w8⟩
  exact codeAny_compStart_list (loop _ rfl) (T.self X.A 0 _ _ _ st1 (loop _ rfl))

/-- [elt for x in iter if test] -/
theorem pe_comp {x : Str} {px pos : Pos} {Nc : List Str} {caps : List Nat} {scope : Scope} {iter elt : Expr} {ifs : List Expr} {wi : TI} {tc : TT} {te : TE} (O : CompOk X x Nc caps scope) (hc : X.calm = true) (hi : PI X (.Name x px) iter wi)
    (htc : ∀ cl C fp s H, PIf (cxComp X Nc scope cl C fp s H) ifs tc) (hte : ∀ cl C fp s H, PE (cxComp X Nc scope cl C fp s H) elt te) (hs : ∀ x, foldedSetIterable iter X.env x = pure x := by intro _; rfl) :
    PE X (.ListComp elt [⟨.Name x px, iter, ifs, 0⟩] scope pos) (tComp wi caps tc te) := by
  intro pins s σ H Q I h
  rw [eval_ListComp]
  obtain ⟨cl, e1, e2, e3⟩ := closure_is (scope := scope) (env := X.env) fun y hy hf => I.ok.has y.1 (.inl (O.fr y hy hf).1)
  refine wpAny_comprehension_free (use := none) rfl hs e1 O.kind O.names (thn (hi pins s σ H _ I h) fun v s1 h1 => thn h1 fun itv s2 h2 => ?_)
  obtain ⟨it, fp, tn, J, H2, e, I2, T, st2, f2, w2⟩ := h2
  subst e
  refine comp_block (RR := fun acc C => compPost (model X.prog X.w) X.A X.xe none (EP X pins σ Q) acc C) O hc e2 e3 (hte cl) (htc cl) I2 T st2 f2 w2 ?_
  intro D C s' m hn hq hC
  refine ⟨m, hn, fun h' hs' => ?_⟩
  obtain ⟨H', I', _, q⟩ := hq h' hs'
  exact ⟨.ref D, H', I', rfl, q⟩

/-- y = [elt for x in iter if test], where the value is stored ahead of the variables' going -/
theorem ps_setC {i : Nat} {y x : Str} {px py pos spos : Pos} {Nc : List Str} {caps : List Nat} {scope : Scope} {iter elt : Expr} {ifs : List Expr} {wi : TI} {tc : TT} {te : TE} (O : CompOk X x Nc caps scope) (hc : X.calm = true)
    (hN : X.N.Nodup) (hy : X.N[i]? = some y) (hx : X.env.scope.names.lookup y = some .local) (hi : PI X (.Name x px) iter wi)
    (htc : ∀ cl C fp s H, PIf (cxComp X Nc scope cl C fp s H) ifs tc) (hte : ∀ cl C fp s H, PE (cxComp X Nc scope cl C fp s H) elt te)
    (hsw : swapsWith (.ListComp elt [⟨.Name x px, iter, ifs, 0⟩] scope pos) (some (.Name y py)) spos.line X.env = pure true) (hs : ∀ x, foldedSetIterable iter X.env x = pure x := by intro _; rfl) :
    PS X (.Assign [.Name y py] (.ListComp elt [⟨.Name x px, iter, ifs, 0⟩] scope pos) spos) (tAsg (tComp wi caps tc te) (gName i)) := by
  intro pins s σ H Dn I h
  rw [exec_Assign_Name_used _ _ _ _ hsw]
  refine wpAny_bind (wpAny_standAt (wpAny_bind ?_))
  obtain ⟨cl, e1, e2, e3⟩ := closure_is (scope := scope) (env := X.env) fun y hy hf => I.ok.has y.1 (.inl (O.fr y hy hf).1)
  show wpAny _ X.A (do let _ ← comprehension (.ListComp elt [⟨.Name x px, iter, ifs, 0⟩] scope pos) scope X.env _ (newList []) false (eval iter X.env) (some (assign (.Name y py) X.env))) _ _ s
  refine wpAny_bind (wpAny_mono (wpAny_comprehension_free (use := some (assign (.Name y py) X.env)) (Q := fun _ s' => SP X pins Dn .next s') rfl hs e1 O.kind O.names
    (thn (hi pins s σ H _ I h) fun v s1 h1 => thn h1 fun itv s2 h2 => ?_)) (fun _ s' hq => wpAny_pure (wpAny_pure hq)) fun _ _ e => e)
  obtain ⟨it, fp, tn, J, H2, e, I2, T, st2, f2, w2⟩ := h2
  subst e
  refine comp_block (RR := fun acc C => compPost (model X.prog X.w) X.A X.xe (some (assign (.Name y py) X.env)) (fun _ s' => SP X pins Dn .next s') acc C) O hc e2 e3 (hte cl) (htc cl) I2 T st2 f2 w2 ?_
  intro D C s' m hn hq hC
  show wpAny _ X.A (assign (.Name y py) X.env (.ref D)) _ _ _
  obtain ⟨H', I', nC, q⟩ := hq s'.heap (.refl ..)
  have I'' : Inv X pins σ H' s' := I'
  have CL : C ≠ X.env.locals := Nat.ne_of_gt (Nat.lt_of_lt_of_le I2.lt hC)
  have Ccell : ∀ y c, X.env.cells.lookup y = some c → c ≠ C := fun y c e z => by
    obtain ⟨v, q⟩ := I2.cell y c e
    have := Nat.lt_of_lt_of_le q.lt hC
    rw [z] at this
    exact Nat.lt_irrefl _ this
  refine wpAny_assign_Name (store_ok2 I'' hN hy (.inl hx) (show RelV (.ref D) (.ref D) from rfl) (fun s3 I3 hsb => ?_) (.inr hx))
  obtain ⟨a, hsb, ha⟩ := hsb
  have aC : C ≠ a := by
    rcases ha with z | z
    · rw [z]; exact CL
    · exact Ne.symm (Ccell _ _ z)
  refine ⟨m, hn.sameBut hsb aC, fun h4 hs4 => ?_⟩
  refine ⟨_, H', I3.turned (it := C) (t' := s3.toks) (fun b o hb e => (hs4.2 b hb).trans e) nC CL (.inr (Nat.le_trans I2.sz hC)) Ccell (fun p hp z => ?_), q⟩
  · have := Nat.lt_of_lt_of_le (Heap.lt_size (I2.pin p hp).1) hC
    rw [z] at this
    exact Nat.lt_irrefl _ this
end
end L2

set_option Elab.async false
set_option linter.all false
set_option maxRecDepth 100000
namespace L2
open PySem PySem.Spec PyProof.Rows

/-! ### for c in text -/
def Its (x : Str) : It := ⟨fun i _ => i < x.cps.size, fun i H v H' => H' = H ∧ ∃ c, x.cps[i]? = some c ∧ v = .str ⟨#[c]⟩, fun i _ => x.cps.size ≤ i⟩
section
variable {X : Cx} {tg : Expr}
def iStr (tl : TE) : TI := fun σ H R => tl σ H fun x H1 => ∃ z, x = .str z ∧ R (Its z) H1
end
/-! ### the forms of a comprehension that one uses: what stands behind i items -/
/-- one item more is behind -/
def CN (n : Nat) (Pv : Nat → List V → Hp → Prop) (i : Nat) (ys : List V) (H : Hp) : Prop := ∃ m', m' < n - i ∧ m' = n - (i + 1) ∧ i + 1 ≤ n ∧ Pv (i + 1) ys H
theorem CN.of {n : Nat} {Pv : Nat → List V → Hp → Prop} {i : Nat} {ys : List V} {H : Hp} (h : i < n) (p : Pv (i + 1) ys H) : CN n Pv i ys H := ⟨n - (i + 1), by omega, rfl, h, p⟩
/-- a turn: the test, then the element -/
def CTurn (n : Nat) (Pv : Nat → List V → Hp → Prop) (tc : TT) (te : TE) (σ : St) (i : Nat) (ys : List V) (H : Hp) : Prop :=
  tc σ H fun b H2 => if b = true then te σ H2 fun y H3 => CN n Pv i (ys ++ [y]) H3 else CN n Pv i ys H2
theorem CTurn.no {n : Nat} {Pv : Nat → List V → Hp → Prop} {te : TE} {σ : St} {i : Nat} {ys : List V} {H : Hp} (h : te σ H fun y H3 => CN n Pv i (ys ++ [y]) H3) : CTurn n Pv tNoTest te σ i ys H := by
  unfold CTurn tNoTest
  exact iteT h
theorem comp_list {K : PySem.W.Frag} {a : Addr} {xs : List V} {caps : List Nat} {tc : TT} {te : TE} {σ : St} {H : Hp} {Q : VK} (Pv : Nat → List V → Hp → Prop) (h0 : Pv 0 [] H) (hl : ∀ i ys H, i ≤ xs.length → Pv i ys H → SqL K H a xs ∧ ys.length ≤ i)
    (hz : xs.length ≤ sizeLine) (hs : ∀ i x ys H, i < xs.length → xs[i]? = some x → Pv i ys H → CTurn xs.length Pv tc te (some x :: capV σ caps) i ys H)
    (hd : ∀ ys H p, Pv xs.length ys H → H p = none → Q (.ref p) (upd H p (.lst ys))) : tCompW caps tc te (Itl K a) σ H Q := by
  refine ⟨fun i m ys H => m = xs.length - i ∧ i ≤ xs.length ∧ Pv i ys H, ⟨xs.length, by simp, Nat.zero_le _, h0⟩, ?_⟩
  rintro i m ys H ⟨rfl, hi, p⟩
  obtain ⟨q, hy⟩ := hl i ys H hi p
  by_cases hlt : i < xs.length
  · refine .inr ⟨⟨xs, xs[i], q, by simp [hlt]⟩, by omega, fun x H' y => ?_⟩
    obtain ⟨e, y⟩ := y
    subst e
    exact hs i x ys _ hlt (y xs q) p
  · have e : i = xs.length := by omega
    subst e
    exact .inl ⟨⟨xs, q, Nat.le_refl _⟩, by omega, fun p' hp => hd ys H p' p hp⟩
/-! ### sep.join(list of texts) -/
def rJoin (K : PySem.W.Frag) : V → List V → Hp → VK → Prop := fun x vs H Q => ∃ z a ys, x = .str z ∧ vs = [.ref a] ∧ SqL K H a (ys.map V.str) ∧ (ys.map (·.length)).sum + ys.length * z.length ≤ 16777216 ∧ Q (.str (Txt.join z ys)) H
section
variable {X : Cx}
/-! ### isinstance(x, C) -/
def rIsi (K : PySem.W.Frag) : List V → Hp → VK → Prop := fun vs H Q => ∃ x t b, TyOf K H x t ∧
  ((∃ n, vs = [x, .ty n] ∧ PySem.W.kitOne K t (.type n) = some b) ∨ (∃ a, vs = [x, .ref a] ∧ PySem.W.kitOne K t (.ref a) = some b)) ∧ Q (.bl b) H
theorem call_isi : CallR X (.builtin "isinstance") (rIsi X.K) := by
  intro pins s σ H xs us Q I rv h
  obtain ⟨x, t, b, ty, hv, q⟩ := h
  rcases hv with ⟨n, rfl, e⟩ | ⟨a, rfl, e⟩
  · obtain ⟨u1, u2, rfl, r1, r2⟩ := rv.two
    cases r2
    exact isinst_ok I r1 ty e fun tk => ⟨.bl b, H, I.tok _, rfl, q⟩
  · obtain ⟨u1, u2, rfl, r1, r2⟩ := rv.two
    cases r2
    exact isinst_ok I r1 ty e fun tk => ⟨.bl b, H, I.tok _, rfl, q⟩

/-! ### == of two lists of flat values -/
def eqL : List V → List V → Bool
  | [], [] => true
  | x :: xs, y :: ys => eqV x y && eqL xs ys
  | _, _ => false
theorem eqV_refl {x : V} (h : flatV x = true) : eqV x x = true := by
  cases x with
  | non => rfl
  | bl b => simp [eqV]
  | int i => simp [eqV]
  | str z => simp [eqV]
  | _ => exact absurd (show false = true from h) Bool.false_ne_true
theorem eqL_len : ∀ {xs ys : List V}, xs.length ≠ ys.length → eqL xs ys = false
  | [], [], h => absurd rfl h
  | [], _ :: _, _ => rfl
  | _ :: _, [], _ => rfl
  | x :: xs, y :: ys, h => by
    rw [eqL, eqL_len (xs := xs) (ys := ys) (fun z => h (by rw [List.length_cons, List.length_cons, z])), Bool.and_false]
theorem eqL_range : ∀ {xs ys : List V}, xs.length = ys.length → (List.range xs.length).all (fun j => eqV (xs.getD j .non) (ys.getD j .non)) = eqL xs ys
  | [], [], _ => rfl
  | [], _ :: _, h => by simp at h
  | _ :: _, [], h => by simp at h
  | x :: xs, y :: ys, h => by
    have h' : xs.length = ys.length := by simpa using h
    rw [List.length_cons, List.range_succ_eq_map, List.all_cons, List.all_map]
    rw [eqL, ← eqL_range h']
    rfl
def rEqL (K : PySem.W.Frag) : R2 := fun x y H Q => ∃ p q xs ys, x = .ref p ∧ y = .ref q ∧ SqL K H p xs ∧ SqL K H q ys ∧ xs.all flatV = true ∧ ys.all flatV = true ∧ Q (.bl (eqL xs ys)) H
theorem op_eqL (hu : X.A.units < cLine) : OpR X (compareOp .Eq) (rEqL X.K) := by
  intro pins s σ H x y v u Q I rx ry h
  obtain ⟨p, q, xs, ys, rfl, rfl, hx, hy, fx, fy, k⟩ := h
  cases rx
  cases ry
  obtain ⟨its, r, pl, hz⟩ := I.list hx
  obtain ⟨its2, r2, pl2, hz2⟩ := I.list hy
  have l1 := r.length
  have l2 := r2.length
  by_cases hl : xs.length = ys.length
  · refine SeqAt.eq_listAt (e := fun j => eqV (xs.getD j .non) (ys.getD j .non)) pl.isList pl2.isList (by simp only [List.size_toArray]; omega) hu (fun j h1 h2 => ?_) ?_
    · have j1 : j < xs.length := by simp only [List.size_toArray] at h1; omega
      have j2 : j < ys.length := by omega
      obtain ⟨w1, e1, q1⟩ := r.get (i := j) (x := xs[j]) (by simp [j1])
      obtain ⟨w2, e2, q2⟩ := r2.get (i := j) (x := ys[j]) (by simp [j2])
      have g1 : its.toArray[j] = w1 := by
        have : its.toArray[j]? = some w1 := by simpa using e1
        exact Option.some.inj ((Array.getElem?_eq_getElem h1).symm.trans this)
      have g2 : its2.toArray[j] = w2 := by
        have : its2.toArray[j]? = some w2 := by simpa using e2
        exact Option.some.inj ((Array.getElem?_eq_getElem h2).symm.trans this)
      rw [g1, g2]
      have d1 : xs.getD j .non = xs[j] := by simp [List.getD, j1]
      have d2 : ys.getD j .non = ys[j] := by simp [List.getD, j2]
      show SeqAt.EqAt _ _ _ _ (eqV (xs.getD j .non) (ys.getD j .non))
      rw [d1, d2]
      exact eqAt_V q1 q2 (List.all_eq_true.mp fx _ (List.getElem_mem j1)) (List.all_eq_true.mp fy _ (List.getElem_mem j2))
    · refine ⟨.bl (eqL xs ys), H, I, ?_, k⟩
      show Value.bool _ = Value.bool _
      rw [List.size_toArray, ← l1, eqL_range hl]
  · refine SeqAt.eq_list_lengthsAt pl.isList pl2.isList (by simp only [List.size_toArray, bne_iff_ne]; omega) hu ?_
    exact ⟨.bl (eqL xs ys), H, I, by rw [eqL_len hl]; rfl, k⟩
end
end L2

namespace L2
open PySem
/-- a text by its codes -/
def tx (l : List Nat) : Str := ⟨l.toArray⟩
end L2

set_option maxRecDepth 100000
set_option linter.all false
namespace PySem
open Sem (wp)
open Builtin Builtin.Str Builtin.Int
namespace RV
end RV
def revS (x : Str) (t : Tok) (i : Int) : Obj := { cls := .type "reversed", data := .fields #[.str x t, rawInt i] }
def Heap.IsRevS (h : Heap) (a : Addr) (x : Str) (t : Tok) (i : Int) : Prop := ∃ o, h.get? a = some o ∧ o.cls = .type "reversed" ∧ o.data = .fields #[.str x t, rawInt i]
section
variable {prog : Program} {w : World} {A : Around} {E : Value → Shared → Prop} {s : Shared}
end
end PySem

set_option Elab.async false
set_option linter.all false
set_option maxRecDepth 100000
namespace L2
open PySem PySem.Spec PyProof.Rows
/-! ### sep.join(reversed(text)) -/
def revO (p : Addr) (x : Str) : HO := .ext fun h => ∃ t, h.IsRevS p x t ((x.length : Int) - 1)
def anyO (p : Addr) : HO := .ext fun h => ∃ o, h.get? p = some o
section
variable {X : Cx}
end
end L2

set_option Elab.async false
set_option linter.all false
set_option maxRecDepth 100000
namespace L2
open PySem PySem.Spec PyProof.Rows
/-! ### tests that are known -/
theorem iteDn {c A B : Prop} [Decidable c] (h : ¬ c) (k : B) : if decide c = true then A else B := by rw [decide_eq_false h]; exact iteF k
theorem iteDp {c A B : Prop} [Decidable c] (h : c) (k : A) : if decide c = true then A else B := by rw [decide_eq_true h]; exact iteT k
theorem ite2D {c A B : Prop} [Decidable c] (h1 : c → A) (h2 : ¬ c → B) : if decide c = true then A else B := by
  by_cases h : c
  · exact iteDp h (h1 h)
  · exact iteDn h (h2 h)
/-! ### heaps -/
theorem Same.upd {H : Hp} {p : Addr} {o : HO} (h : H p = none) : Same H (L2.upd H p o) := fun b o' e => by rw [upd_ne (ne_of_none e h)]; exact e
theorem Same.new {H H1 : Hp} {p : Addr} {o : HO} (e : Same H H1) (h : H1 p = none) : Same H (L2.upd H1 p o) := e.trans (.upd h)
/-- a write at p, which was not there at H -/
theorem Same.over {H H1 : Hp} {p : Addr} {o : HO} (e : Same H H1) (h : H p = none) : Same H (L2.upd H1 p o) := fun b o' q => by rw [upd_ne (ne_of_none q h)]; exact e b o' q
/-! ### Python's own names -/
theorem bt_len : bootBuiltins "len" = some (.builtin "len") := by decide +kernel
theorem bt_isinstance : bootBuiltins "isinstance" = some (.builtin "isinstance") := by decide +kernel
theorem bt_list : bootBuiltins "list" = some (.type "list") := by decide +kernel
theorem bt_int : bootBuiltins "int" = some (.type "int") := by decide +kernel
theorem bt_bool : bootBuiltins "bool" = some (.type "bool") := by decide +kernel
/-! ### a def of the text, its name, its parameters -/
structure Df (K : PySem.W.Frag) (mg : Str → Option Value) (x : Str) (st : Stmt) (ps : List Str) (f : Addr) (fd : FuncData) : Prop where
  F : Fun K x x st f fd
  m : mg x = some (.ref f)
  b : Binds K fd ps []
/-! ### lists of texts, of ints -/
def vS (cl : List (List Nat)) : List V := cl.map fun t => V.str (tx t)
def vI (ns : List Int) : List V := ns.map V.int
theorem vI_len (ns : List Int) : (vI ns).length = ns.length := by unfold vI; rw [List.length_map]
theorem vI_get {ns : List Int} {i : Nat} {n : Int} (h : ns[i]? = some n) : (vI ns)[i]? = some (.int n) := by unfold vI; rw [List.getElem?_map, h]; rfl
theorem vI_got {ns : List Int} {i : Nat} {v : V} (h : (vI ns)[i]? = some v) : ∃ t, ns[i]? = some t ∧ v = .int t := by
  unfold vI at h
  rw [List.getElem?_map] at h
  cases e : ns[i]? with
  | none => rw [e] at h; cases h
  | some t => rw [e] at h; exact ⟨t, rfl, (Option.some.inj h).symm⟩
theorem vI_set (ns : List Int) (j : Nat) (n : Int) : (vI ns).set j (.int n) = vI (ns.set j n) := by unfold vI; rw [List.map_set]
theorem vI_app (ns : List Int) (n : Int) : vI ns ++ [.int n] = vI (ns ++ [n]) := by unfold vI; rw [List.map_append]; rfl
/-- the item at a place that is there -/
theorem atI_of {α : Type} {xs : List α} {i : Int} {v : α} (h0 : 0 ≤ i) (h : xs[i.toNat]? = some v) : atI xs i = some v := by
  have e : i = (i.toNat : Int) := by omega
  rw [e]
  exact atI_nat h
theorem ixN_of {n : Nat} {i : Int} (h0 : 0 ≤ i) (h : i < n) : ixN n i = some i.toNat := by unfold ixN; rw [if_pos h0, if_pos h]
end L2

set_option Elab.async false
set_option linter.all false
set_option maxRecDepth 100000
namespace L2
open PySem PySem.Spec PyProof.Rows
/-! ### the rules that name the written part, with its name given (within a comprehension's block the reading may not lean on the block) -/
section
variable {X : Cx} {K : PySem.W.Frag} {tg : Expr}
theorem ix_listK (hK : X.K = K := by rfl) : IxR X (rIxL K) := by subst hK; exact ix_list
theorem ix_tupK (hK : X.K = K := by rfl) : IxR X (rIxT K) := by subst hK; exact ix_tup
theorem call_len_seqK (hK : X.K = K := by rfl) : CallR X (.builtin "len") (fun xs H Q => ∃ p ys, xs = [.ref p] ∧ (SqL K H p ys ∨ SqT K H p ys) ∧ Q (.int ys.length) H) := by subst hK; exact call_len_seq
theorem call_list_ofK (hK : X.K = K := by rfl) : CallR X (.type "list") (fun xs H Q => ∃ p ys, xs = [.ref p] ∧ (SqL K H p ys ∨ SqT K H p ys) ∧ ∀ l, H l = none → Q (.ref l) (upd H l (.lst ys))) := by subst hK; exact call_list_of
theorem call_isiK (hK : X.K = K := by rfl) : CallR X (.builtin "isinstance") (rIsi K) := by subst hK; exact call_isi
theorem sl_listK (hK : X.K = K := by rfl) : SlR X (rSlL K) := by subst hK; exact sl_list
theorem pi_listK {l : Expr} {tl : TE} (hl : PE X l tl) (hK : X.K = K := by rfl) : PI X tg l (iList K tl) := by subst hK; exact pi_list hl
variable {o e : Expr} {es : List Expr} {to : TE} {t : TA} {name : Str} {apos cpos : Pos} {T id : String} {r : V → List V → Hp → VK → Prop}
theorem pe_bmK (pa : PlainAttrs T) (slot : Slot T name id) (hty : typeOf (.builtin id) = pure (.type "method_descriptor")) (hm : MtR X id r) (ho : PE X o to) (ha : PA X (e :: es) t)
    (hbase : attributeBase o name X.env (eval o X.env) = eval o X.env := by rfl)
    (hfew : ((backTo cpos (starEach (e :: es) X.env)).all (fun x => !x.1) && (backToKw cpos (keywordEach [] X.env)).all (fun x => x.1.isSome)
      && decide ((e :: es).length + ([] : List Keyword).length + (if ([] : List Keyword).isEmpty then 0 else 1) < 30)) = true := by rfl)
    (hline : (apos.endLine == cpos.line) = true := by rfl) (hs : starEach (e :: es) X.env = (false, eval e X.env) :: starEach es X.env := by rfl) (hplain : (backTo cpos (starEach es X.env)).any (·.1) = false := by rfl) (hK : X.K = K := by rfl) :
    PE X (.Call (.Attribute o name apos) (e :: es) [] cpos) (tBM K T r to t) := by
  subst hK
  exact pe_bm pa slot hty hm ho ha hbase hfew hline hs hplain
end
end L2

set_option Elab.async false
set_option linter.all false
set_option maxRecDepth 100000
namespace L2
open PySem PySem.Spec PyProof.Rows

/-! ### an exception of an own class, on its way through the frames: its whole record is known but for where its trace stands -/
abbrev exO (C t : Addr) (tb : Value) : Obj := { cls := .ref C, data := .fields #[.ref t, tb, .none, .none, .bool false, .none] }
/-- B: all that stood at the raise but the frames; fl: what the newest entry of the trace says of the flight -/
structure Fx (B : Heap) (l : List Env) (e C t : Addr) (fl : Value) (h : Heap) : Prop where
  st : B.StaysIn h
  ne : B.get? e = none
  fr : h.FunFrames B l
  ob : ∃ (T : Addr) (oT : Obj) (ts : Array Value), h.get? e = some (exO C t (.ref T)) ∧ B.get? T = none ∧ T ≠ e ∧ h.get? T = some oT ∧ oT.data = .fields ts ∧ ts[3]? = some fl
theorem Fx.outer {B : Heap} {env : Env} {l : List Env} {e C t : Addr} {fl : Value} {h : Heap} (x : Fx B (env :: l) e C t fl h) : Fx B l e C t fl h := ⟨x.st, x.ne, x.fr.2.2, x.ob⟩
section
variable {M : Model} {A : Around} {E : Value → Shared → Prop} {s : Shared} {B : Heap} {env : Env} {l : List Env} {e C t L : Addr}
/-- the flight ends, or goes on elsewhere -/
theorem fx_land {fl : Value} {Q : Unit → Shared → Prop} (x : Fx B l e C t fl s.heap) (k : ∀ h', Fx B l e C t .none h' → s.heap.UpToSlots h' → Q () { s with heap := h' }) : wpAny M A (setFlight (.ref e) none) Q E s := by
  obtain ⟨st, ne, fr, T, oT, ts, hE, hBT, hTe, hT, hdT, h3⟩ := x
  have h3s : 3 < ts.size := (Array.getElem?_eq_some_iff.mp h3).1
  unfold setFlight
  refine wpAny_bind (wpAny_field hE rfl (x := .ref T) rfl ?_)
  rw [if_pos (show (Value.ref T != Value.none) = true by simp)]
  refine wpAny_setField hT hdT h3s (k _ ?_ ?_)
  all_goals
    have oth : ∀ b, b ≠ T → (s.heap.update T (Obj.mapFields (·.setIfInBounds 3 ((none : Option Addr).elim Value.none fun f => rawInt f)))).get? b = s.heap.get? b := fun b hb => Heap.get?_update_other _ _ (Ne.symm hb)
    have nrec : ∀ b o, s.heap.get? b = some o → (∀ vs, o.data ≠ .fields vs) → b ≠ T := fun b o hb hn q => by
      rw [q, hT] at hb
      cases hb
      exact hn ts hdT
  · refine ⟨fun b o hb => (oth b fun q => by rw [q, hBT] at hb; cases hb).trans (st b o hb), ne, fr.of_keeps fun b o hb hn => ⟨o, (oth b (nrec b o hb hn)).trans hb, rfl⟩, T, _, _, (oth e (Ne.symm hTe)).trans hE, hBT, hTe,
      Heap.get?_update_self _ hT (Obj.isFreed_of_fields (Obj.data_mapFields hdT _)), Obj.data_mapFields hdT _, ?_⟩
    simp [h3s]
  · exact fun b o hb hn => ⟨o.slots, (oth b (nrec b o hb hn)).trans hb⟩
/-- the frame enters itself into the trace -/
theorem fx_enter {tb : Value} {had : Bool} {Q : Unit → Shared → Prop} (hfr : A.frames = some (env :: l)) (hf : env.frame = some L) (st : B.StaysIn s.heap) (ne : B.get? e = none) (fr : s.heap.FunFrames B (env :: l))
    (hE : s.heap.get? e = some (exO C t tb)) (k : ∀ h', Fx B (env :: l) e C t (rawInt L) h' → s.heap.UpToSlots h' → Q () { s with heap := h' }) :
    wpAny M A (do let a ← frameOf env; let pl ← entryPlaceOf L had; let b ← EntryCells.newEntry tb a .none (rawInt L) .none pl; setField (.ref e) 1 b) Q E s := by
  have eF : e ∉ (env :: l).filterMap (·.frame) := fun hm => by
    obtain ⟨_, o, ho, hn⟩ := fr.mem hm
    rw [hE] at ho
    cases ho
    exact hn _ rfl
  refine wpAny_bind (wpAny_frameOf_fun hfr fr hf fun h1 so => wpAny_bind (wpAny_entryPlaceOf fun pl hpl => ?_))
  unfold EntryCells.newEntry newFields
  refine wpAny_bind (wpAny_newObj_type ?_ (hpl.sizeOk5 _ _ _ _ _))
  have E1 : h1.get? e = some (exO C t tb) := (so.2.1 e eF).trans hE
  have st1 : B.StaysIn h1 := fun b o hb => (so.2.1 b fun hm => by rw [(fr.mem hm).1] at hb; cases hb).trans (st b o hb)
  have TE : h1.objs.size ≠ e := Nat.ne_of_gt (Heap.lt_size E1)
  generalize hN : ({ cls := .type "traceback", dict := none, data := .fields ([tb, .ref L, .none, rawInt L, .none] ++ (if pl.isEmpty then List.replicate 6 Value.none else pl)).toArray } : Obj) = nT
  have E2 : (h1.push nT).get? e = some (exO C t tb) := Heap.get?_push_of_some nT E1
  refine wpAny_setField (s := { s with heap := h1.push nT }) E2 rfl (by show 1 < 6; decide) (k _ ?_ ?_)
  all_goals
    have kp : ∀ b o, b ≠ e → h1.get? b = some o → ((h1.push nT).update e (Obj.mapFields (·.setIfInBounds 1 (Value.ref h1.objs.size)))).get? b = some o := fun b o hb q =>
      (Heap.get?_update_other _ _ (Ne.symm hb)).trans (Heap.get?_push_of_some nT q)
    have nrec : ∀ b o, s.heap.get? b = some o → (∀ vs, o.data ≠ .fields vs) → b ≠ e := fun b o hb hn q => by
      rw [q, hE] at hb
      cases hb
      exact hn _ rfl
  · have freed : nT.isFreed = false := by rw [← hN]; rfl
    refine ⟨fun b o hb => kp b o (fun q => by rw [q, ne] at hb; cases hb) (st1 b o hb), ne, fr.of_keeps fun b o hb hn => ?_, h1.objs.size, nT, _, Heap.get?_update_self _ E2 rfl, st1.fresh, TE,
      (Heap.get?_update_other _ _ (Ne.symm TE)).trans (Heap.get?_push_size h1 freed), by rw [← hN], by simp⟩
    obtain ⟨sl, q⟩ := so.2.2 b o hb
    exact ⟨_, kp b _ (nrec b o hb hn) q, rfl⟩
  · intro b o hb hn
    obtain ⟨sl, q⟩ := so.2.2 b o hb
    exact ⟨sl, kp b _ (nrec b o hb hn) q⟩
/-- a new exception is looked at by its own frame -/
theorem fx_note0 {Q : Unit → Shared → Prop} (hfr : A.frames = some (env :: l)) (hf : env.frame = some L) (st : B.StaysIn s.heap) (ne : B.get? e = none) (fr : s.heap.FunFrames B (env :: l))
    (hE : s.heap.get? e = some (exO C t .none)) (k : ∀ h', Fx B (env :: l) e C t (rawInt L) h' → s.heap.UpToSlots h' → Q () { s with heap := h' }) : wpAny M A (noteFrame (.ref e) env) Q E s := by
  unfold noteFrame
  simp only [hf]
  refine wpAny_bind (wpAny_field hE rfl (x := .none) rfl ?_)
  rw [if_neg (by decide)]
  exact fx_enter hfr hf st ne fr hE k
/-- one that comes from a callee -/
theorem fx_note {Q : Unit → Shared → Prop} (hfr : A.frames = some (env :: l)) (hf : env.frame = some L) (x : Fx B (env :: l) e C t .none s.heap)
    (k : ∀ h', Fx B (env :: l) e C t (rawInt L) h' → s.heap.UpToSlots h' → Q () { s with heap := h' }) : wpAny M A (noteFrame (.ref e) env) Q E s := by
  obtain ⟨st, ne, fr, T, oT, ts, hE, hBT, hTe, hT, hdT, h3⟩ := x
  unfold noteFrame
  simp only [hf]
  refine wpAny_bind (wpAny_field hE rfl (x := .ref T) rfl ?_)
  rw [if_pos (show (Value.ref T != Value.none) = true by simp)]
  refine wpAny_bind (wpAny_field hT hdT h3 ?_)
  rw [if_neg (show ¬ ((Value.none == rawInt L) = true) by simp [rawInt])]
  refine wpAny_bind (wpAny_setField hT hdT (Array.getElem?_eq_some_iff.mp h3).1 ?_)
  have oth : ∀ b, b ≠ T → (s.heap.update T (Obj.mapFields (·.setIfInBounds 3 Value.none))).get? b = s.heap.get? b := fun b hb => Heap.get?_update_other _ _ (Ne.symm hb)
  have nrec : ∀ b o, s.heap.get? b = some o → (∀ vs, o.data ≠ .fields vs) → b ≠ T := fun b o hb hn q => by
    rw [q, hT] at hb
    cases hb
    exact hn ts hdT
  exact fx_enter (s := { s with heap := s.heap.update T (Obj.mapFields (·.setIfInBounds 3 Value.none)) }) hfr hf (fun b o hb => (oth b fun q => by rw [q, hBT] at hb; cases hb).trans (st b o hb)) ne
    (fr.of_keeps fun b o hb hn => ⟨o, (oth b (nrec b o hb hn)).trans hb, rfl⟩) ((oth e (Ne.symm hTe)).trans hE)
    fun h' y u => k h' y fun b o hb hn => u b o ((oth b (nrec b o hb hn)).trans hb) hn
end
end L2

set_option Elab.async false
set_option linter.all false
set_option maxRecDepth 100000
namespace L2
open PySem PySem.Spec PyProof.Rows

section
variable {M : Model} {A : Around} {E : Value → Shared → Prop} {s : Shared} {B : Heap} {env : Env} {l : List Env} {e C t L : Addr}
/-- the flight's mark is set -/
theorem fx_flight {fl : Value} {f : Option Addr} {Q : Unit → Shared → Prop} (x : Fx B l e C t fl s.heap) (k : ∀ h', Fx B l e C t (f.elim Value.none fun f => rawInt f) h' → s.heap.UpToSlots h' → Q () { s with heap := h' }) : wpAny M A (setFlight (.ref e) f) Q E s := by
  obtain ⟨st, ne, fr, T, oT, ts, hE, hBT, hTe, hT, hdT, h3⟩ := x
  have h3s : 3 < ts.size := (Array.getElem?_eq_some_iff.mp h3).1
  unfold setFlight
  refine wpAny_bind (wpAny_field hE rfl (x := .ref T) rfl ?_)
  rw [if_pos (show (Value.ref T != Value.none) = true by simp)]
  refine wpAny_setField hT hdT h3s (k _ ?_ ?_)
  all_goals
    have oth : ∀ b, b ≠ T → (s.heap.update T (Obj.mapFields (·.setIfInBounds 3 (f.elim Value.none fun f => rawInt f)))).get? b = s.heap.get? b := fun b hb => Heap.get?_update_other _ _ (Ne.symm hb)
    have nrec : ∀ b o, s.heap.get? b = some o → (∀ vs, o.data ≠ .fields vs) → b ≠ T := fun b o hb hn q => by
      rw [q, hT] at hb
      cases hb
      exact hn ts hdT
  · refine ⟨fun b o hb => (oth b fun q => by rw [q, hBT] at hb; cases hb).trans (st b o hb), ne, fr.of_keeps fun b o hb hn => ⟨o, (oth b (nrec b o hb hn)).trans hb, rfl⟩, T, _, _, (oth e (Ne.symm hTe)).trans hE, hBT, hTe,
      Heap.get?_update_self _ hT (Obj.isFreed_of_fields (Obj.data_mapFields hdT _)), Obj.data_mapFields hdT _, ?_⟩
    simp [h3s]
  · exact fun b o hb hn => ⟨o.slots, (oth b (nrec b o hb hn)).trans hb⟩
/-- the frame has looked at it already -/
theorem fx_noteN {Q : Unit → Shared → Prop} (hf : env.frame = some L) (x : Fx B l e C t (rawInt L) s.heap) (k : Q () s) : wpAny M A (noteFrame (.ref e) env) Q E s := by
  obtain ⟨st, ne, fr, T, oT, ts, hE, hBT, hTe, hT, hdT, h3⟩ := x
  unfold noteFrame
  simp only [hf]
  refine wpAny_bind (wpAny_field hE rfl (x := .ref T) rfl ?_)
  rw [if_pos (show (Value.ref T != Value.none) = true by simp)]
  refine wpAny_bind (wpAny_field hT hdT h3 ?_)
  rw [if_pos (show ((rawInt L == rawInt L) = true) by simp)]
  exact wpAny_pure k
end

/-! ### what an exception leaves behind: B (all but the frames) holds the abstract heap -/
structure Bk (P : Program) (w : World) (outer : List Env) (H : Hp) (h : Heap) (H' : Hp) (B h' : Heap) : Prop where
  ok : HOk P w H' B
  keep : ∀ b o, h.get? b = some o → H b = none → b ∉ frs outer → B.get? b = some o
  slot : ∀ b o, h.get? b = some o → b ∈ frs outer → ∃ sl, h'.get? b = some { o with slots := sl }
  free : ∀ b o, h.get? b = some o → H b = none → H' b = none
  there : ∀ b o, h.get? b = some o → b ∉ frs outer → ∃ o', B.get? b = some o'
  tups : ∀ b xs, H b = some (.tup xs) → H' b = some (.tup xs)
  frzs : ∀ b o u, H b = some (.frz o u) → H' b = some (.frz o u)
  tbls : ∀ b ps, H b = some (.tbl ps) → ∃ more, H' b = some (.tbl (ps ++ more))
theorem Bk.slots {P : Program} {w : World} {outer : List Env} {H H' : Hp} {h B h1 h2 : Heap} (k : Bk P w outer H h H' B h1) (fr : h1.FunFrames B outer) (u : h1.UpToSlots h2) : Bk P w outer H h H' B h2 :=
  ⟨k.ok, k.keep, fun b o q hb => by
    obtain ⟨sl, e⟩ := k.slot b o q hb
    obtain ⟨_, o2, e2, n2⟩ := fr.mem hb
    rw [e] at e2
    cases e2
    obtain ⟨sl2, e3⟩ := u b _ e n2
    exact ⟨sl2, e3⟩, k.free, k.there, k.tups, k.frzs, k.tbls⟩
/-- behind a call that raised -/
def CX1 (P : Program) (w : World) : CXT := fun outer H s E e s' => ∃ ea C t H' B, e = .ref ea ∧ Fx B outer ea C t .none s'.heap ∧ s'.os = s.os ∧ AllBare s'.gens ∧ Bk P w outer H s.heap H' B s'.heap ∧ E (.ref C) none H'
/-- how an exception lies in a body -/
inductive Fly (B : Heap) (l : List Env) (L ea C t : Addr) (h : Heap) : Prop where
  | new (st : B.StaysIn h) (ne : B.get? ea = none) (fr : h.FunFrames B l) (ob : h.get? ea = some (exO C t .none))
  | came (x : Fx B l ea C t .none h)
  | seen (x : Fx B l ea C t (rawInt L) h)
theorem Fly.fr {B : Heap} {l : List Env} {L ea C t : Addr} {h : Heap} (x : Fly B l L ea C t h) : h.FunFrames B l := by
  cases x with
  | new st ne fr ob => exact fr
  | came x => exact x.fr
  | seen x => exact x.fr
def FlX (X : Cx) (E : XK) : Value → Shared → Prop := fun e s' => ∃ ea C t H' B, e = .ref ea ∧ Fly B X.stack X.env.locals ea C t s'.heap ∧ s'.os = X.s₀.os ∧ AllBare s'.gens ∧ Bk X.prog X.w X.outer X.H₀ X.s₀.heap H' B s'.heap ∧ E (.ref C) none H'
/-- a body, not a comprehension's block -/
structure Body (X : Cx) : Prop where
  stack : X.stack = X.env :: X.outer
  frame : X.env.frame = some X.env.locals
  ex : X.ex = []

section
variable {X : Cx} {pins : List (Addr × Obj)} {σ : St} {H : Hp} {s s' : Shared} {E : XK} {e : Value}
theorem Inv.frsN (I : Inv X pins σ H s) {b : Addr} {o : Obj} (q : X.s₀.heap.get? b = some o) (hb : b ∉ X.fs) : b ∉ frs X.stack := fun hm => by
  rcases List.mem_cons.mp (I.stkSub b hm) with z | z
  · rw [z] at q
    exact absurd (Nat.lt_of_lt_of_le (Heap.lt_size q) I.ok.above) (Nat.lt_irrefl _)
  · exact hb z
/-- an exception of a callee -/
theorem passX (hB : Body X) (I : Inv X pins σ H s) (c : CX1 X.prog X.w X.stack H s E e s') : FlX X E e s' := by
  obtain ⟨ea, C, t, H', B, rfl, fx, os, bare, bk, q⟩ := c
  have nx : ∀ b : Addr, b ∉ X.ex := fun b z => by rw [hB.ex] at z; exact nomatch z
  have fsS : ∀ b, b ∈ X.fs → b ∈ frs X.stack := fun b hb => by
    rw [hB.stack]; unfold frs; rw [List.filterMap_cons, hB.frame]; exact List.mem_cons_of_mem _ hb
  refine ⟨ea, C, t, H', B, rfl, .came fx, os.trans I.os, bare, ⟨bk.ok, fun b o e n hb => ?_, fun b o e hb => ?_, fun b o e n => ?_, fun b o e hb => ?_, fun b xs e => bk.tups b xs (I.base.tups b xs e), fun b o u e => bk.frzs b o u (I.base.frzs b o u e), fun b ps e => ?_⟩, q⟩
  · exact bk.keep b o (I.base.keep b o e n hb (nx b)) (I.base.free b o e n (nx b)) (I.frsN e hb)
  · obtain ⟨sl, e1⟩ := I.base.slot b o e (I.ok.frf b hb) hb (nx b)
    obtain ⟨sl2, e2⟩ := bk.slot b _ e1 (fsS b hb)
    exact ⟨sl2, e2⟩
  · obtain ⟨o', e1⟩ := I.base.there b o e (nx b)
    exact bk.free b o' e1 (I.base.free b o e n (nx b))
  · obtain ⟨o', e1⟩ := I.base.there b o e (nx b)
    exact bk.there b o' e1 (I.frsN e hb)
  · obtain ⟨m1, e1⟩ := I.base.tbls b ps e
    obtain ⟨m2, e2⟩ := bk.tbls b _ e1
    exact ⟨m1 ++ m2, by rw [e2, Array.append_assoc]⟩
/-- an exception made here -/
theorem madeX {h' : Heap} {ea C : Addr} {vs : List Value} (hB : Body X) (I : Inv X pins σ H s) (hx : Heap.MadeExcOf s.heap h' ea (.ref C) vs) (q : E (.ref C) none H) : FlX X E (.ref ea) { s with heap := h' } := by
  obtain ⟨t, ht, _, _⟩ := hx.there
  have nx : ∀ b : Addr, b ∉ X.ex := fun b z => by rw [hB.ex] at z; exact nomatch z
  have nfr : ∀ b u, H b = some u → b ∉ frs X.stack := fun b u e hm => by rw [I.stkFree b hm] at e; cases e
  refine ⟨ea, C, t, H, PySem.W.hideAll s.heap (frs X.stack), rfl, .new (fun b o e => hx.keeps b o (PySem.W.of_hideAll _ e)) ?_ ?_ ht, I.os, I.bare, ⟨fun b u e => ?_, fun b o e n hb => ?_, fun b o e hb => ?_, fun b o e n => I.base.free b o e n (nx b), fun b o e hb => ?_, I.base.tups, I.base.frzs, I.base.tbls⟩, q⟩
  · cases z : (PySem.W.hideAll s.heap (frs X.stack)).get? ea with
    | none => rfl
    | some o =>
      have := PySem.W.of_hideAll _ z
      rw [hx.new] at this
      cases this
  · exact (PySem.W.funFrames_hide I.stack fun env he a ha => List.mem_filterMap.mpr ⟨env, he, ha⟩).of_keeps fun b o hb _ => ⟨o, hx.keeps b o hb, rfl⟩
  · refine (I.hok b u e).stay (fun c v hc z => PySem.W.hideAll_get _ z ?_) (fun _ z => z) fun _ _ z => z
    rcases hc with z | z
    · rw [z]; exact nfr b u e
    · exact nfr c _ z
  · exact PySem.W.hideAll_get _ (I.base.keep b o e n hb (nx b)) (I.frsN e hb)
  · obtain ⟨sl, e1⟩ := I.base.slot b o e (I.ok.frf b hb) hb (nx b)
    exact ⟨sl, hx.keeps _ _ e1⟩
  · obtain ⟨o', e1⟩ := I.base.there b o e (nx b)
    exact ⟨o', PySem.W.hideAll_get _ e1 (I.frsN e hb)⟩
/-- the frame looks at it -/
theorem noteX {M : Model} {Q : Unit → Shared → Prop} {E' : Value → Shared → Prop} {B : Heap} {ea C t : Addr} (hB : Body X) (hfr : X.A.frames = some X.stack) (x : Fly B X.stack X.env.locals ea C t s.heap)
    (k : ∀ h', Fx B X.stack ea C t (rawInt X.env.locals) h' → s.heap.UpToSlots h' → Q () { s with heap := h' }) : wpAny M X.A (noteFrame (.ref ea) X.env) Q E' s := by
  rw [hB.stack] at x hfr k
  cases x with
  | new st ne fr ob => exact fx_note0 hfr hB.frame st ne fr ob k
  | came x => exact fx_note hfr hB.frame x k
  | seen x => exact fx_noteN hB.frame x (k s.heap x (.refl _))
theorem frs_sub (hB : Body X) {B h : Heap} (x : h.FunFrames B X.stack) : h.FunFrames B X.outer := by
  rw [hB.stack] at x
  exact x.2.2
/-- it leaves the frame -/
theorem leaveX {M : Model} {E' : Value → Shared → Prop} (hB : Body X) (hfr : X.A.frames = some X.stack) (c : FlX X E e s) : wpAny M X.A (leaving X.env e) (fun _ s'' => CX1 X.prog X.w X.outer X.H₀ X.s₀ E e s'') E' s := by
  obtain ⟨ea, C, t, H', B, rfl, fx, os, bare, bk, q⟩ := c
  unfold leaving
  refine wpAny_bind (noteX hB hfr fx fun h1 x1 u1 => fx_land (s := { s with heap := h1 }) x1 fun h2 x2 u2 => ?_)
  have x3 := x2
  rw [hB.stack] at x3
  exact ⟨ea, C, t, H', B, rfl, x3.outer, os, bare, bk.slots (frs_sub hB fx.fr) (u1.trans u2), q⟩
/-- .. and may be passed on within it -/
theorem ownX (hB : Body X) (hfr : X.A.frames = some X.stack) : PassesOwn (model X.prog X.w) X.A X.env (FlX X E) := by
  rintro e s ⟨ea, C, t, H', B, rfl, fx, os, bare, bk, q⟩
  unfold notedBy
  refine noteX hB hfr fx fun h1 x1 u1 => ?_
  obtain ⟨T, oT, ts, hE, _⟩ := x1.ob
  unfold cameBackBy
  refine wpAny_bind (wpAny_field (s := { s with heap := h1 }) hE rfl (x := .ref T) rfl ?_)
  rw [if_neg (by simp)]
  refine fx_flight (s := { s with heap := h1 }) (f := X.env.frame) x1 fun h2 x2 u2 => ?_
  rw [hB.frame] at x2
  exact ⟨ea, C, t, H', B, rfl, .seen x2, os, bare, bk.slots (frs_sub hB fx.fr) (u1.trans u2), q⟩
end
end L2

set_option Elab.async false
set_option linter.all false
set_option maxRecDepth 100000
namespace L2
open PySem PySem.Spec PyProof.Rows

/-! ### own exception classes -/
def mroK (K : PySem.W.Frag) (C : Addr) : List Value := match K.lookup C with
  | some ⟨_, _, .cls cd, _⟩ => cd.mro
  | _ => []
theorem exc_obj {K : PySem.W.Frag} {h : Heap} {C : Addr} {bmB : List Value} {nid : String} (X : K.In h) (q : PySem.W.excIn K C bmB nid = true) :
    ∃ bm N nm qn bs hdct sn sub ab col dd k0 k1 k2 k3 k5 mN, mroK K C = .ref C :: bm ∧ h.get? C = some (excClassObj nm qn C N bs bm hdct sn sub ab col dd k0 k1 k2 k3 k5 nid) ∧ h.Ns N mN ∧ mN "__init__" = none ∧ OwnTail h bmB bm := by
  unfold PySem.W.excIn at q
  split at q
  next dd cd sl ho =>
    split at q
    next C' bm k0 k1 k2 k3 n k5 hm hs =>
      have hM : mroK K C = cd.mro := by unfold mroK; rw [ho]
      simp only [Bool.and_eq_true, beq_iff_eq, Bool.not_eq_true'] at q
      obtain ⟨⟨⟨⟨⟨q1, q2⟩, hdel⟩, ht⟩, hok⟩, hni⟩ := q
      subst q1 q2
      have hsl : sl = #[k0, k1, k2, k3, some (.builtin n), k5] := by rw [← hs]
      rw [hm] at hM
      cases cd
      dsimp only at hm hdel hok hni
      subst hm hdel hsl
      exact ⟨bm, _, _, _, _, _, _, _, _, _, dd, k0, k1, k2, k3, k5, _, hM, X _ _ ho, .of_isNs (PySem.W.isNs_of_in X hok), PySem.W.nsMap_none_of_in X hok hni, PySem.W.tail_of_in X ht⟩
    next => cases q
  next => cases q

/-! ### raise C(e, ..) -/
def tRaise (C : Addr) (E : XK) (t : TA) : TS := fun _ σ H => t σ H fun vs H1 => vs.length ≤ sizeLine ∧ E (.ref C) none H1
section
variable {X : Cx} {x : Str} {C : Addr} {bmB bmN : List Value} {B Bn nid nid' iid iid' : String} {E : XK} {e : Expr} {es : List Expr} {t : TA} {np cpos pos : Pos}
theorem ps_raise (hB : Body X) (hc : X.calm = true) (hw : ∀ e s', FlX X E e s' → X.xe e s') (Fn : ExcBaseFacts Bn nid iid bmN) (hn : bmB.contains (.type Bn) = true) (FB : ExcBaseFacts B nid' iid' bmB) (q : PySem.W.excIn X.K C bmB nid = true) (hg : Gl X x) (hm : X.mg x = some (.ref C)) (ha : PA X.nox (e :: es) t)
    (hd : (x == ("__debug__" : Str)) = false := by decide) (he : starEach (e :: es) X.env = (false, eval e X.env) :: starEach es X.env := by rfl) (hpl : (backTo cpos (starEach es X.env)).any (·.1) = false := by rfl) :
    PS X (.Raise (some (.Call (.Name x np) (e :: es) [] cpos)) none pos) (tRaise C E t) := by
  intro pins s σ H D I h
  obtain ⟨bm, N, nm, qn, bs, hdct, sn, sub, ab, col, dd, k0, k1, k2, k3, k5, mN, _, hC, hN, hni, T⟩ := exc_obj I.ok.mod.kin q
  refine wpAny_Raise_call_subU (N := N) (C := C) (k5 := k5) (k3 := k3) (k2 := k2) (k1 := k1) (k0 := k0) (dd := dd) (col := col) (ab := ab) (sub := sub) (sn := sn) (hdct := hdct) (bs := bs) (q := qn) (nm := nm) (newId := nid) Fn hn FB (mN := mN) (T.hasType FB.hasBase) (I.ok.hd hc) (by rw [he]; show (false || (backTo cpos (starEach es X.env)).any (·.1)) = false; rw [hpl]; rfl) hni (ld_glob I hg hm ⟨rfl, ?_⟩ hd)
  have h1 := ha cpos pins s σ H _ (I.wish _) h
  rw [he] at h1 ⊢
  refine Calls.evalArgs_plain (wpAny_mono h1 (fun us s2 z => ?_) fun _ _ z => z.elim)
  obtain ⟨vs, H1, I1, r, hl, hE⟩ := z
  have I2 : Inv X pins σ H1 s2 := I1.unwish
  exact ⟨rfl, by rw [← r.length]; exact hl, I2.bk _ _ hC, hN.keeps I2.bk, T.keeps I2.bk, fun h' ea hx => hw _ _ (madeX hB I2 hx hE)⟩
end

/-! ### a def whose exceptions matter -/
abbrev cx1 (P : Program) (w : World) (K : PySem.W.Frag) (mg : Str → Option Value) (base : Heap) (N : List Str) (qual : Str) (scope : Scope) (f : Addr) (cd : Value) (A : Around) (outer : List Env) (s : Shared) (H : Hp) (E : XK) : Cx :=
  (cxOf (CX1 P w) P w K mg base N qual scope f cd A outer s H E).wish (FlX (cxOf (CX1 P w) P w K mg base N qual scope f cd A outer s H E) E)
section
variable {P : Program} {w : World} {K : PySem.W.Frag} {mg : Str → Option Value} {base : Heap}
theorem body1 {N : List Str} {qual : Str} {scope : Scope} {f : Addr} {cd : Value} {A : Around} {outer : List Env} {s : Shared} {H : Hp} {E : XK} : Body (cx1 P w K mg base N qual scope f cd A outer s H E) := ⟨rfl, rfl, rfl⟩
theorem Fun.okX {x qual : Str} {st : Stmt} {f : Addr} {fd : FuncData} {N ps : List Str} {k : Nat} {sp : Sp} (F : Fun K x qual st f fd) (S : FnScope N ps (defScope st)) (len : ∀ vs H Q E, sp vs H Q E → vs.length = ps.length)
    (hbody : ∀ (cdv : Value) (A : Around) (outer : List Env) (s : Shared) (H : Hp) (vs : List V) (Q : VK) (E : XK), Room k (A.deeper (envOfC qual (defScope st) s.heap.objs.size f cdv)) → sp vs H Q E →
      ∃ t, PSs (cx1 P w K mg base N qual (defScope st) f cdv A outer s H E) (defBody st) t ∧ t { nx := fun _ H' => Q .non H', rt := Q } (start N vs) H) : FnOk P w K mg base (CX1 P w) (k + 1) f fd ps sp := by
  obtain ⟨oc, od, kV, doc, pm, an, cdv, ct, osl, rfl, lk, hcd⟩ := F.ex
  refine fn_of lk hcd S len fun A outer s H vs Q E hr hsp => ?_
  obtain ⟨t, h, q⟩ := hbody cdv A outer s H vs Q E hr hsp
  refine ⟨t, fun pins s1 σ H1 D I h1 => ?_, q⟩
  exact wpAny_mono (h pins s1 σ H1 D (I.wish _) h1) (fun _ _ z => z.unwish) fun e s' z => leaveX (X := cxOf (CX1 P w) P w K mg base N qual (defScope st) f cdv A outer s H E) ⟨rfl, rfl, rfl⟩ I.ok.frames z
/-- the exceptions of a callee of the same wish -/
theorem pass1 {N : List Str} {qual : Str} {scope : Scope} {f : Addr} {cd : Value} {A : Around} {outer : List Env} {s : Shared} {H : Hp} {E : XK} :
    Passes (CX1 P w) (cx1 P w K mg base N qual scope f cd A outer s H E) E := fun _ _ _ _ _ _ I c => passX ⟨rfl, rfl, rfl⟩ I.unwish c
end
theorem PS.nox {X : Cx} {st : Stmt} {t : TS} (h : PS X.nox st t) : PS X st t := fun pins s σ H D I hw =>
  wpAny_mono (h pins s σ H D (I.wish _) hw) (fun _ _ q => q.unwish) fun _ _ z => False.elim z

/-! ### an expression that may raise, tried -/
def PEX (X : Cx) (e : Expr) (t : XK → TE) : Prop := ∀ (pins : List (Addr × Obj)) (s : Shared) (σ : St) (H : Hp) (Q : VK) (E : XK), Inv X pins σ H s → t E σ H Q →
  wpAny (model X.prog X.w) X.A (eval e X.env) (EP X pins σ Q) (fun ex s' => ∃ H1 s1, Inv X pins σ H1 s1 ∧ CX1 X.prog X.w X.stack H1 s1 E ex s') s
section
variable {X : Cx} {k : Nat} {f C : Addr} {fd : FuncData} {ps : List Str} {sp : Sp} {dvs : List V} {ds : List Value} {x m : Str} {p pos apos : Pos} {e o : Expr} {es : List Expr} {ta : TE} {t : TA}
end
end L2

set_option Elab.async false
set_option linter.all false
set_option maxRecDepth 100000
namespace L2
open PySem PySem.Spec PyProof.Rows

/-! ### an exception that was caught, as a tracked thing -/
def exH (C a : Addr) : HO := .ext fun h => ∃ t tb, h.get? a = some (exO C t tb)
theorem ObjOk.get {P : Program} {w : World} {H : Hp} {h : Heap} {a : Addr} {o : HO} (x : ObjOk P w H h a o) : ∃ u, h.get? a = some u := by
  induction o with
  | lst xs => obtain ⟨_, _, _, _, e⟩ := x; exact ⟨_, e⟩
  | tup xs => obtain ⟨_, _, _, _, e, _⟩ := x; exact ⟨_, e⟩
  | dK kvs => obtain ⟨_, _, _, _, _, _, _, e, _⟩ := x; exact ⟨_, e⟩
  | dT kvs => obtain ⟨_, _, _, _, _, _, _, e, _⟩ := x; exact ⟨_, e⟩
  | set S n => obtain ⟨_, _, _, _, e, _⟩ := x; exact ⟨_, e⟩
  | ins C dx fs => obtain ⟨_, _, _, e, _⟩ := x; exact ⟨_, e⟩
  | own y => obtain ⟨_, e⟩ := x; exact ⟨_, e⟩
  | xd fs => obtain ⟨_, ⟨_, _, _, e, _⟩, _⟩ := x; exact ⟨_, e⟩
  | rng lo hi => obtain ⟨_, _, _, e⟩ := x; exact ⟨_, e⟩
  | frz ob u ih => obtain ⟨e, _⟩ := x; exact ⟨_, e⟩
  | tbl ps => exact ⟨_, x⟩
  | met f y => exact ⟨_, x⟩
  | ext φ => exact x.2.1
section
variable {X : Cx} {pins : List (Addr × Obj)} {σ : St} {H H' : Hp} {s s' : Shared} {B h2 : Heap} {ea C t : Addr} {fl : Value}
theorem Bk.none {P : Program} {w : World} {outer : List Env} {h h' : Heap} (k : Bk P w outer H h H' B h') (ne : B.get? ea = Option.none) : H' ea = Option.none := by
  cases q : H' ea with
  | none => rfl
  | some o =>
    obtain ⟨u, e⟩ := (k.ok ea o q).get
    rw [ne] at e
    cases e
theorem caughtI (I : Inv X pins σ H s) (os : s'.os = s.os) (bare : AllBare s'.gens) (bk : Bk X.prog X.w X.stack H s.heap H' B h2) (fx : Fx B X.stack ea C t fl h2) :
    Inv X pins σ (upd H' ea (exH C ea)) { s' with heap := h2 } := by
  have hn := bk.none fx.ne
  obtain ⟨T, oT, ts, hE, _⟩ := fx.ob
  have ne : ∀ b o, s.heap.get? b = some o → b ≠ ea := fun b o e z => by
    by_cases hb : b ∈ frs X.stack
    · obtain ⟨_, o2, e2, n2⟩ := fx.fr.mem hb
      rw [z, hE] at e2
      cases e2
      exact n2 _ rfl
    · obtain ⟨o', e1⟩ := bk.there b o e hb
      rw [z, fx.ne] at e1
      cases e1
  have nt : ∀ b u, H' b = some u → b ≠ ea := fun b u e z => by
    rw [z, hn] at e
    cases e
  obtain ⟨hh, g, d, tk, os'⟩ := s'
  obtain rfl : os' = s.os := os
  refine I.call (s := s) (h' := h2) (g' := g) (d' := d) (t' := tk) (ch := []) ⟨fun b o e n hb _ => fx.st _ _ (bk.keep b o e n hb), fun b o e n hb _ => bk.slot b o e hb, fun b o e n _ => ?_, fun b o e _ => ?_, fun b xs e => ?_, fun b o u e => ?_, fun b ps e => ?_⟩ (fun b u e => ?_) bare (fun b z => nomatch z)
  · rw [upd_ne (ne b o e)]
    exact bk.free b o e n
  · by_cases hb : b ∈ frs X.stack
    · obtain ⟨sl, e1⟩ := bk.slot b o e hb
      exact ⟨_, e1⟩
    · obtain ⟨o', e1⟩ := bk.there b o e hb
      exact ⟨o', fx.st _ _ e1⟩
  · have e1 := bk.tups b xs e
    rw [upd_ne (nt _ _ e1)]
    exact e1
  · have e1 := bk.frzs b o u e
    rw [upd_ne (nt _ _ e1)]
    exact e1
  · obtain ⟨m1, e1⟩ := bk.tbls b ps e
    exact ⟨m1, by rw [upd_ne (nt _ _ e1)]; exact e1⟩
  · by_cases hb : b = ea
    · subst hb
      rw [upd_same] at e
      cases e
      exact ⟨⟨t, _, hE⟩, ⟨_, hE⟩, fun h1 h3 ⟨t', tb', q⟩ k => ⟨t', tb', k _ q⟩⟩
    · rw [upd_ne hb] at e
      refine (bk.ok b u e).stay (fun c v _ q => fx.st _ _ q) (fun c q => ?_) fun c xs q => ?_
      · rw [upd_ne (nt _ _ q)]; exact q
      · rw [upd_ne (nt _ _ q)]; exact q

/-! ### the handler's context -/
abbrev Cx.hdl (X : Cx) (e : Addr) : Cx := { X with A := X.A.mark (some (.ref e)), calm := false, xe := fun _ _ => False }
theorem Inv.hdl (I : Inv X pins σ H s) (e : Addr) : Inv (X.hdl e) pins σ H s :=
  ⟨⟨I.ok.mod, I.ok.kind, I.ok.glob, I.ok.blt, I.ok.above, I.ok.inj, I.ok.has, I.ok.cab, (fun z => nomatch z), I.ok.frames, I.ok.stk, I.ok.exf, I.ok.bs, I.ok.bsz, I.ok.noex, I.ok.exfs, I.ok.funs, I.ok.frf⟩, I.os, I.bare, I.base, I.loc, I.cell, I.free, I.freeC, I.pin, I.hok, I.len⟩
theorem Inv.unhdl {e : Addr} (hd : X.calm = true → X.A.handled = none) (I : Inv (X.hdl e) pins σ H s) : Inv X pins σ H s :=
  ⟨⟨I.ok.mod, I.ok.kind, I.ok.glob, I.ok.blt, I.ok.above, I.ok.inj, I.ok.has, I.ok.cab, hd, I.ok.frames, I.ok.stk, I.ok.exf, I.ok.bs, I.ok.bsz, I.ok.noex, I.ok.exfs, I.ok.funs, I.ok.frf⟩, I.os, I.bare, I.base, I.loc, I.cell, I.free, I.freeC, I.pin, I.hok, I.len⟩
/-- the name of the exception goes -/
theorem Inv.forget {n : Str} {j : Nat} {m : Str → Option Value} {v : Option Value} {tk : Nat} {h' : Heap} (I : Inv X pins σ H s) (hN : X.N.Nodup) (hj : X.N[j]? = some n) (hn : s.heap.Ns X.env.locals m)
    (hm : ∀ (i : Nat) (x : Str) (v : V), X.N[i]? = some x → σ[i]? = some (some v) → Vis X.env.scope x → ∃ u, RelV v u ∧ Look X.env s.heap m x u) (hn' : h'.Ns X.env.locals (fun x => if x = n then v else m x)) (hs : Heap.SameBut X.env.locals s.heap h') :
    Inv X pins (σ.set j none) H { s with heap := h', toks := tk } := by
  obtain ⟨oL, _, _, hoL, _⟩ := id hn
  have neL : ∀ b o, X.s₀.heap.get? b = some o → b ≠ X.env.locals := fun b o e => Nat.ne_of_lt (Nat.lt_of_lt_of_le (Heap.lt_size e) I.ok.above)
  refine ⟨I.ok, I.os, I.bare, ⟨fun b o e n hb hx => ?_, fun b o e n hb hx => ?_, I.base.free, fun b o e hx => ?_, I.base.tups, I.base.frzs, I.base.tbls⟩, ⟨_, hn', fun i y w e1 e2 e3 => ?_⟩, fun y c e => ?_, I.free, I.freeC, fun p hp => ?_, fun b u e => ?_, by rw [List.length_set]; exact I.len⟩
  · exact (hs.2 b (neL b o e)).trans (I.base.keep b o e n hb hx)
  · obtain ⟨sl, e1⟩ := I.base.slot b o e n hb hx
    exact ⟨sl, (hs.2 b (neL b o e)).trans e1⟩
  · obtain ⟨o', e1⟩ := I.base.there b o e hx
    exact ⟨o', (hs.2 b (neL b o e)).trans e1⟩
  · by_cases hij : i = j
    · subst hij
      rw [List.getElem?_set] at e2
      split at e2
      · split at e2 <;> cases e2
      · exact absurd rfl ‹_›
    · rw [List.getElem?_set_ne (Ne.symm hij)] at e2
      obtain ⟨u, r, l⟩ := hm i y w e1 e2 e3
      refine ⟨u, r, ?_⟩
      rcases l with ⟨k, z⟩ | ⟨k, c, z, y'⟩
      · have : y ≠ n := fun q => hij (nodup_ix hN e1 (q ▸ hj))
        exact .inl ⟨k, by simp [this, z]⟩
      · exact .inr ⟨k, c, z, y'.sameBut hs (I.cne y c z)⟩
  · obtain ⟨v', z⟩ := I.cell y c e
    exact ⟨v', z.sameBut hs (I.cne y c e)⟩
  · obtain ⟨e, n1, n2, nf, d⟩ := I.pin p hp
    exact ⟨(hs.2 p.1 n2).trans e, n1, n2, nf, d⟩
  · refine (I.hok b u e).stay (fun c w' hc q => (hs.2 c ?_).trans q) (fun _ q => q) fun _ _ q => q
    rintro rfl
    rcases hc with z | z
    · rw [← z, I.free] at e; cases e
    · rw [I.free] at z; cases z
end
end L2

set_option Elab.async false
set_option linter.all false
set_option maxRecDepth 100000
namespace L2
open PySem PySem.Spec PyProof.Rows

section
variable {M : Model} {A : Around} {E : Value → Shared → Prop} {h : Heap} {g : Array GenState} {d : Drawn} {t : Nat} {os : OsState}
/-- is it caught by a class of one's own? -/
theorem exc_matches {K : PySem.W.Frag} {C D e : Addr} {bC bD : List Value} {nC nD : String} {oe : Obj} {Q : Bool → Shared → Prop} (X : K.In h) (qC : PySem.W.excIn K C bC nC = true) (qD : PySem.W.excIn K D bD nD = true)
    (hb : bD.contains (.type "BaseException") = true) (he : h.get? e = some oe) (hc : oe.cls = .ref C) (hq : Q ((mroK K C).contains (.ref D)) ⟨h, g, d, t, os⟩) : wpAny M A (excMatches (.ref e) (.ref D)) Q E ⟨h, g, d, t, os⟩ := by
  obtain ⟨bm1, _, _, _, _, _, _, _, _, _, _, _, _, _, _, _, _, e1, hC, _, _, T1⟩ := exc_obj X qC
  obtain ⟨bm2, _, _, _, _, _, _, _, _, _, _, _, _, _, _, _, _, _, hD, _, _, T2⟩ := exc_obj X qD
  have hcB : (Value.ref D :: bm2).contains (.type "BaseException") = true := by rw [List.contains_cons, T2.hasType hb, Bool.or_true]
  have f := tc_notTuple
  rw [e1] at hq
  unfold excMatches
  repeat (first | (with_reducible refine wpAny_loadPart_at he ?_; rw [hc]) | with_reducible refine wpAny_loadPart_at hD ?_ | (with_reducible refine wpAny_isSubtype_exc hD ?_; rw [hcB]) | with_reducible refine wpAny_isSubtype_exc hC ?_ | wp_step)
  all_goals (revert hq; cases (Value.ref C :: bm1).contains (Value.ref D) <;> intro hq)
  all_goals (repeat (first | exact hq | wp_step))
end

/-! ### a statement that may raise, tried: where it raises the names are as they were -/
abbrev WX (X : Cx) (pins : List (Addr × Obj)) (σ : St) (E : XK) : Value → Shared → Prop := fun ex s' => ∃ H1 s1, Inv X pins σ H1 s1 ∧ CX1 X.prog X.w X.stack H1 s1 E ex s'
def PSX (X : Cx) (st : Stmt) (t : XK → TS) : Prop := ∀ (pins : List (Addr × Obj)) (s : Shared) (σ : St) (H : Hp) (D : Ends) (E : XK), Inv X pins σ H s → t E D σ H → wpAny (model X.prog X.w) X.A (exec st X.env) (SP X pins D) (WX X pins σ E) s
def PSXs (X : Cx) (st : List Stmt) (t : XK → TS) : Prop := ∀ (pins : List (Addr × Obj)) (s : Shared) (σ : St) (H : Hp) (D : Ends) (E : XK), Inv X pins σ H s → t E D σ H → wpAny (model X.prog X.w) X.A (execs st X.env) (SP X pins D) (WX X pins σ E) s
section
variable {X : Cx} {e : Expr} {t u : XK → TS} {te : XK → TE} {pos : Pos} {st : Stmt}
theorem psxs_one (h : PSX X st t) : PSXs X [st] t := by
  intro pins s σ H D E I h1
  refine wpAny_execs_cons (thn (h pins s σ H D E I h1) fun f s1 q => ?_)
  match f, q with
  | .next, q => exact wpAny_execs_nil q
  | .brk, q => exact q
  | .cont, q => exact q
  | .ret u, q => exact q
theorem psx_set {i : Nat} {x : Str} {pos' : Pos} (hN : X.N.Nodup) (hi : X.N[i]? = some x) (hx : Loc X.env.scope x) (he : PEX X e te) (hs : swapsWith e (some (.Name x pos')) pos.line X.env = pure false := by rfl)
    (hf : X.fn x = true ∨ X.env.scope.names.lookup x = some .local := by first | exact .inl rfl | exact .inr rfl | assumption) : PSX X (.Assign [.Name x pos'] e pos) fun E => tAsg (te E) (gName i) := by
  intro pins s σ H D E I h
  refine wpAny_Assign_Name (thn (he pins s σ H _ E I h) fun v s1 ⟨y, H1, I1, r1, q1⟩ => ?_) hs
  exact store_ok I1 hN hi hx r1 (fun s2 I2 => ⟨_, H1, I2, q1⟩) hf
/-! ### try: .. except D as n: .. -/
abbrev Ends.un (D : Ends) (j : Nat) : Ends := { nx := fun σ H => D.nx (σ.set j none) H, rt := D.rt, bk := fun σ H => D.bk (σ.set j none) H, ct := fun σ H => D.ct (σ.set j none) H }
/-- the class C is one that D's name catches -/
def Sub (K : PySem.W.Frag) (C D : Addr) : Prop := (∃ bm nid, PySem.W.excIn K C bm nid = true) ∧ (mroK K C).contains (.ref D) = true
def tTry (K : PySem.W.Frag) (Ch : Addr) (j : Nat) (t : XK → TS) (ts : TS) : TS := fun D σ H => t (fun c _ H' => ∃ C, c = .ref C ∧ Sub K C Ch ∧ ∀ ea, H' ea = none → ts (D.un j) (σ.set j (some (.ref ea))) (upd H' ea (exH C ea))) D σ H
theorem ps_try {body suite : List Stmt} {b₀ : Stmt} {ts : TS} {n x : Str} {j : Nat} {Ch : Addr} {bmB : List Value} {nid : String} {np hpos : Pos} (hB : Body X) (hc : X.calm = true) (hb : PSXs X body t) (hN : X.N.Nodup) (hj : X.N[j]? = some n)
    (hn : X.env.scope.names.lookup n = some .local) (hg : Gl X x) (hm : X.mg x = some (.ref Ch)) (hq : PySem.W.excIn X.K Ch bmB nid = true) (hbs : bmB.contains (.type "BaseException") = true) (hs : ∀ ea, PSs (X.hdl ea) (b₀ :: suite) ts)
    (hd : (x == ("__debug__" : Str)) = false := by decide) :
    PS X (.Try body [.ExceptHandler (some (.Name x np)) (some n) (b₀ :: suite) hpos] [] [] pos) (tTry X.K Ch j t ts) := by
  intro pins s σ H D I h
  refine wpAny_Try_except (wpAny_mono (hb pins s σ H D _ I h) (fun f s1 q => ?_) fun ex s1 z => ?_)
  · match f, q with
    | .next, q => exact wpAny_execs_nil q
    | .brk, q => exact q
    | .cont, q => exact q
    | .ret u, q => exact q
  · obtain ⟨H1, s0, I0, ea, C, t0, H', B, rfl, fx, os, bare, bk, C', eC, ⟨⟨bC, nC, qC⟩, sub⟩, ht⟩ := z
    obtain rfl : C = C' := by cases eC; rfl
    refine noteX hB I.ok.frames (.came fx) fun h1 x1 u1 => fx_land (s := { s1 with heap := h1 }) x1 fun h2 x2 u2 => ?_
    have bk2 := (bk.slots fx.fr u1).slots x1.fr u2
    have I2 : Inv X pins σ (upd H' ea (exH C ea)) { s1 with heap := h2 } := caughtI I0 os bare bk2 x2
    refine wpAny_handleBy_cons (codeAny_handlers_test (ld_glob (X := X.hdl ea) (I2.hdl ea) hg hm ?_ hd)) (by intro q; cases q)
    obtain ⟨T, oT, tt, hE, _⟩ := x2.ob
    refine exc_matches I2.kIn qC hq hbs hE rfl ?_
    rw [sub]
    refine codeAny_handlers_suite_as ?_
    refine fx_land (s := { s1 with heap := h2 }) x2 fun h3 x3 u3 => ?_
    have I3 : Inv X pins σ (upd H' ea (exH C ea)) { s1 with heap := h3 } := caughtI I0 os bare (bk2.slots x2.fr u3) x3
    refine store_ok (X := X.hdl ea) (I3.hdl ea) hN hj (.inl hn) (v := .ref ea) rfl (fun s4 I4 => ?_) (.inr hn)
    refine wpAny_mono (hs ea pins s4 _ _ _ I4 (ht ea (bk.none fx.ne))) (fun f s5 q => ?_) fun _ _ z => z.elim
    have go : ∀ {σ' : St} {H5 : Hp} {Q : Unit → Shared → Prop}, Inv (X.hdl ea) pins σ' H5 s5 → (∀ s6, Inv X pins (σ'.set j none) H5 s6 → Q () s6) → wpAny (model X.prog X.w) X.A (do bindName X.env n .none; unbindBehindTheSuite X.env n hpos) Q X.xe s5 := fun {σ' H5 Q} J k => by
      have J' : Inv X pins σ' H5 s5 := J.unhdl I.ok.hd
      obtain ⟨m, hns, hl⟩ := id J'.loc
      refine wpAny_nameGoes_keeps hn hns (by rw [I.ok.kind]; rfl) fun h6 v hn6 hs6 => k _ ?_
      exact J'.forget hN hj hns hl hn6 hs6
    match f, q with
    | .next, ⟨σ', H5, J, q⟩ => exact go J fun s6 J6 => ⟨_, H5, J6, q⟩
    | .brk, ⟨σ', H5, J, q⟩ => exact go J fun s6 J6 => ⟨_, H5, J6, q⟩
    | .cont, ⟨σ', H5, J, q⟩ => exact go J fun s6 J6 => ⟨_, H5, J6, q⟩
    | .ret u, ⟨v, σ', H5, J, r, q⟩ => exact go J fun s6 J6 => ⟨v, _, H5, J6, r, q⟩
end
end L2

set_option Elab.async false
set_option linter.all false
set_option maxRecDepth 100000
namespace L2
open PySem PySem.Spec PyProof.Rows

/-! ### an own exception class that was made of a built-in one: what is asked of its things -/
structure ExC (K : PySem.W.Frag) (C : Addr) : Prop where
  ga : PySem.W.findIn K (.ref C) "__getattribute__" = some (some (.builtin "BaseException.__getattribute__"))
  gt : PySem.W.findIn K (.ref C) "__getattr__" = some none
  cl : PySem.W.findIn K (.ref C) "__class__" = some (some (.builtin "object.__class__"))
  gc : PySem.W.specialIn K (.builtin "object.__class__") "__get__" = some (some (.builtin "getset_descriptor.__get__"))
  tk : PySem.W.takesIn K (.builtin "object.__class__") = some true
  ob : PySem.W.mroIn K C (.type "object") = some true
  be : PySem.W.mroIn K C (.type "BaseException") = some true
  is : (PySem.W.clsIn K C).isSome = true

theorem canon_bga : (Manifest.canonical "BaseException.__getattribute__" != "object.__getattribute__") = false := by decide +kernel
section
variable {prog : Program} {w : World} {A : Around} {E : Value → Shared → Prop} {s : Shared} {K : PySem.W.Frag} {x C t : Addr} {tb : Value}
theorem ex_inst {h : Heap} (hx : h.get? x = some (exO C t tb)) : PySem.W.InstAt h x (exO C t tb) C none := ⟨hx, rfl, rfl, True.intro⟩
/-- e.m, to be called -/
theorem ex_meth {m : Str} {f : Addr} {pl : Sem Bool} {Q : Value × List Value → Shared → Prop} (X : K.In s.heap) (hx : s.heap.get? x = some (exO C t tb)) (c : ExC K C) (hf : PySem.W.findIn K (.ref C) m = some (some (.ref f)))
    (ht : PySem.W.isFn K (.ref f) = true) (h : Q (.ref f, [.ref x]) s) : wpAny (model prog w) A (getMethod (.ref x) m pl) Q E s := by
  have I := ex_inst hx
  have hty : PySem.W.typeIn K (.ref f) = some (.type "function") := beq_iff_eq.mp ht
  unfold getMethod specialOf
  refine wpAny_bind (wpAny_bind (I.type.here ((PySem.W.looks_findIn X c.ga).here ?_)))
  dsimp only
  rw [canon_bga, if_neg Bool.false_ne_true]
  refine wpAny_bind (wpAny_bind (I.type.here ((PySem.W.looks_findIn X c.gt).here ?_)))
  refine wpAny_bind (wpAny_bind (I.type.here ((PySem.W.looks_findIn X hf).here (wpAny_bind ((PySem.W.looks_typeIn X hty).here ?_)))))
  rw [if_neg (by decide +kernel)]
  refine wpAny_bind (wpAny_loadPart hx ?_)
  exact wpAny_bind (wpAny_rule (wpAny_pure h))
/-- e.__class__ -/
theorem ex_class {Q : Option Value → Shared → Prop} (X : K.In s.heap) (hx : s.heap.get? x = some (exO C t tb)) (c : ExC K C) (h : Q (some (.ref C)) { s with toks := s.toks + 1 }) : wpAny (model prog w) A (getAttr? (.ref x) "__class__") Q E s := by
  have I := ex_inst hx
  obtain ⟨hh, g, d, tk, os⟩ := s
  have L0 : PySem.W.Looks (model prog w) hh (typeOf (.ref x)) (.ref C) := I.type
  have L1 := PySem.W.looks_findIn (M := model prog w) X c.ga
  have L2 := PySem.W.looks_findIn (M := model prog w) X c.gt
  have hfo : PySem.W.findObj K C none "__class__" = some (.bind (.builtin "getset_descriptor.__get__") (.builtin "object.__class__")) := by
    obtain ⟨cd, hc⟩ := Option.isSome_iff_exists.mp c.is
    unfold PySem.W.findObj
    rw [hc, Option.bind_some, c.cl, Option.bind_some]
    simp [c.gc, c.tk]
  have L3 := PySem.W.looks_find (M := model prog w) X I hfo
  have L4 : PySem.W.Looks (model prog w) hh (isInstance (.ref x) (.type "BaseException")) true := L0.andThen (PySem.W.looks_mroIn X c.be)
  have f3 := F.excAttr_ValueError.ga.bind (.ref x)
  unfold getAttr? getAttrBy? getAttrBy
  refine wpAny_bind (wpAny_mkText (wpAny_bind (wpAny_attempt (wpAny_holding (wpAny_bind (L0.at (wpAny_bind (L1.at ?_))))))))
  show wpAny _ _ (getAttrByItsOwn _ _ _ _ _ _) _ _ _
  unfold getAttrByItsOwn hookBefore
  rw [if_pos (show onTheHeap (Value.ref C) = true from rfl)]
  refine wpAny_bind (L2.at (wpAny_bind (wpAny_attempt (wpAny_holding ?_))))
  unfold callGetattribute
  rw [if_neg (show ¬ ((false && onTheHeap (Value.builtin "BaseException.__getattribute__")) = true) by simp)]
  unfold boundAndCalled
  rw [f3]
  refine wpAny_bind (wpAny_pure (wpAny_call (codeAny_call_builtin F.excAttr_ValueError.ga.plain F.entry_bexc_ga ?_)))
  have hk : builtinKind "BaseException.__getattribute__" = some .slot := by decide +kernel
  have hsp : splitId "BaseException.__getattribute__" = some ("BaseException", "__getattribute__") := by decide +kernel
  have ha := F.args_bexc_ga (.ref x) (.str "__class__" tk)
  simp only [checkBuiltinCall, hk, hsp]
  refine wpAny_bind (L4.at ?_)
  repeat (first | (with_reducible refine wpAny_bind (L0.at (wpAny_bind (L3.at ?_)))) | wp_step)
  refine PySem.W.class_get (s := ⟨hh, g, d, tk + 1, os⟩) (ox := exO C t tb) (od := none) X I c.ob ?_
  exact wpAny_pure (PySem.W.handed_on rfl (wpAny_pure h))
theorem kitx_exc (c : ExC K C) : PySem.W.KitX K (.ref x) (.ref C) (fun h => ∃ t tb, h.get? x = some (exO C t tb)) where
  ty := fun M h _ ⟨t, tb, e⟩ => (ex_inst e).type
  it := fun M h X _ => by
    obtain ⟨cd, hc⟩ := Option.isSome_iff_exists.mp c.is
    unfold PySem.W.clsIn at hc
    split at hc
    next ho =>
      intro A' Q' E' s' k q
      unfold isType loadHead
      exact wpAny_bind (wpAny_loadPart (k _ _ (X _ _ ho)) (wpAny_pure q))
    next => cases hc
  ne := fun h tp dd its n sl X htp => by
    obtain ⟨cd, hc⟩ := Option.isSome_iff_exists.mp c.is
    refine Bool.eq_false_iff.mpr fun q => ?_
    have e : C = tp := Value.ref.inj (beq_iff_eq.mp q)
    subst e
    unfold PySem.W.clsIn at hc
    split at hc
    next ho => cases (X _ _ ho).symm.trans htp
    next => cases hc
  ca := fun X ⟨t, tb, e⟩ k => ex_class X e c k
end

/-! ### isinstance(e, D) and e.m() of a caught one -/
def rIsX (K : PySem.W.Frag) : List V → Hp → VK → Prop := fun vs H Q => ∃ a C b, H a = some (exH C a) ∧ ExC K C ∧
  ((∃ n, vs = [.ref a, .ty n] ∧ PySem.W.kitOne K (.ref C) (.type n) = some b) ∨ (∃ D, vs = [.ref a, .ref D] ∧ PySem.W.kitOne K (.ref C) (.ref D) = some b)) ∧ Q (.bl b) H
section
variable {X : Cx} {K : PySem.W.Frag}
theorem ex_at {pins : List (Addr × Obj)} {σ : St} {H : Hp} {s : Shared} {a C : Addr} (I : Inv X pins σ H s) (e : H a = some (exH C a)) : ∃ t tb, s.heap.get? a = some (exO C t tb) := (I.hok a _ e).1
theorem call_isx (hK : X.K = K := by rfl) : CallR X (.builtin "isinstance") (rIsX K) := by
  subst hK
  intro pins s σ H xs us Q I rv h
  obtain ⟨a, C, b, ea, c, hv, q⟩ := h
  rcases hv with ⟨n, rfl, e⟩ | ⟨D, rfl, e⟩
  · obtain ⟨u1, u2, rfl, r1, r2⟩ := rv.two
    cases r1
    cases r2
    exact PySem.W.kia_one (kitx_exc c) I.kIn (ex_at I ea) e (fun z => nomatch z) fun tk => ⟨.bl b, H, I.tok _, rfl, q⟩
  · obtain ⟨u1, u2, rfl, r1, r2⟩ := rv.two
    cases r1
    cases r2
    exact PySem.W.kia_one (kitx_exc c) I.kIn (ex_at I ea) e (fun z => nomatch z) fun tk => ⟨.bl b, H, I.tok _, rfl, q⟩
variable {CX : CXT} {k : Nat} {ps : List Str} {sp : Addr → Sp} {E : XK} {m : Str} {pos apos : Pos} {o : Expr} {ta : TE}
/-- e.m(), the class being known by the heap -/
def tMethX (K : PySem.W.Frag) (m : Str) (sp : Addr → Sp) (E : XK) (ta : TE) : TE := fun σ H Q => ta σ H fun x H1 => ∃ a C, x = .ref a ∧ H1 a = some (exH C a) ∧ sp C [x] H1 Q E
end
end L2

set_option Elab.async false
set_option linter.all false
set_option maxRecDepth 100000
namespace L2
open PySem PySem.Spec PyProof.Rows

/-! ### the refusals of a text: classes under ValueError, each with a called() -/
abbrev vE : List Value := [.type "ValueError", .type "Exception", .type "BaseException", .type "object"]
abbrev vN : String := "ValueError.__new__"
structure Exn (K : PySem.W.Frag) (C : Addr) : Prop where
  q : PySem.W.excIn K C vE vN = true
  c : ExC K C
  ty : PySem.W.typeIn K (.ref C) = some (.type "type")
  ve : PySem.W.mroIn K C (.type "ValueError") = some true
theorem exn_mk {K : PySem.W.Frag} {C : Addr} (q : PySem.W.excIn K C vE vN = true) (ga : PySem.W.findIn K (.ref C) "__getattribute__" = some (some (.builtin "BaseException.__getattribute__"))) (gt : PySem.W.findIn K (.ref C) "__getattr__" = some none)
    (cl : PySem.W.findIn K (.ref C) "__class__" = some (some (.builtin "object.__class__"))) (gc : PySem.W.specialIn K (.builtin "object.__class__") "__get__" = some (some (.builtin "getset_descriptor.__get__"))) (tk : PySem.W.takesIn K (.builtin "object.__class__") = some true)
    (ob : PySem.W.mroIn K C (.type "object") = some true) (be : PySem.W.mroIn K C (.type "BaseException") = some true) (is : PySem.W.isClsIn K C = true) (ty : PySem.W.typeIn K (.ref C) = some (.type "type")) (ve : PySem.W.mroIn K C (.type "ValueError") = some true) : Exn K C :=
  ⟨q, ⟨ga, gt, cl, gc, tk, ob, be, is⟩, ty, ve⟩
theorem has_base : vE.contains (.type "BaseException") = true := by decide
theorem has_ve : vE.contains (.type "ValueError") = true := by decide
theorem Exn.sub {K : PySem.W.Frag} {C D : Addr} (x : Exn K C) (r : PySem.W.mroIn K C (.ref D) = some true) : Sub K C D := by
  refine ⟨⟨_, _, x.q⟩, ?_⟩
  obtain ⟨cd, h1, h2⟩ := Option.bind_eq_some_iff.mp r
  unfold PySem.W.clsIn at h1
  unfold mroK
  split at h1
  next c d cd' sl ho =>
    cases h1
    rw [ho]
    split at h2
    · cases h2
    · exact Option.some.inj h2
  next => cases h1
theorem kit_ref {K : PySem.W.Frag} {C D : Addr} {b : Bool} (hC : PySem.W.mroIn K C (.ref C) = some true) (x : Exn K D) (r : PySem.W.mroIn K C (.ref D) = some b) : PySem.W.kitOne K (.ref C) (.ref D) = some b := by
  unfold PySem.W.kitOne
  by_cases q : (Value.ref C == Value.ref D) = true
  · rw [if_pos q]
    have e : C = D := Value.ref.inj (beq_iff_eq.mp q)
    subst e
    rw [hC] at r
    exact r
  · rw [if_neg q]
    unfold PySem.W.kitCls
    have h : ((PySem.W.clsIn K D).isSome && PySem.W.typeIn K (.ref D) == some (.type "type")) = true := by rw [x.c.is, x.ty]; rfl
    show (if _ then _ else _) = _
    rw [if_pos h]
    exact r
theorem kit_ve {K : PySem.W.Frag} {C : Addr} (x : Exn K C) : PySem.W.kitOne K (.ref C) (.type "ValueError") = some true := by
  unfold PySem.W.kitOne
  rw [if_neg (by simp)]
  unfold PySem.W.kitCls
  show (if _ then _ else _) = _
  rw [if_pos (by decide +kernel)]
  exact x.ve
section
variable {X : Cx} {CX : CXT} {k : Nat} {C f : Addr} {fd : FuncData} {ps : List Str} {sp : Sp} {E : XK} {m : Str} {pos apos : Pos} {o : Expr} {ta : TE}
/-- e.m(), e of the class C -/
def tMethE (C : Addr) (sp : Sp) (E : XK) (ta : TE) : TE := fun σ H Q => ta σ H fun x H1 => ∃ a, x = .ref a ∧ H1 a = some (exH C a) ∧ sp [x] H1 Q E
theorem pe_methE {pl : Sem Bool} (he : PE X o ta) (c : ExC X.K C) (hm : Meth X.K C m f) (F : FnOk X.prog X.w X.K X.mg X.base CX k f fd ps sp) (hr : Room k X.A) (hb : Binds X.K fd ps []) (hx : Passes CX X E)
    (ht : eval (.Call (.Attribute o m apos) [] [] pos) X.env = (do
      let ov ← eval o X.env
      standAt apos.atName
      let (f, first) ← holding [ov] (getMethod ov m pl)
      callWith pos f first (backTo pos (starEach [] X.env)) (backToKw pos (keywordEach [] X.env))) := by rfl) :
    PE X (.Call (.Attribute o m apos) [] [] pos) (tMethE C sp E ta) := by
  intro pins s σ H Q I h
  refine PySem.W.methodCall_KW (pl := pl) (thn (he pins s σ H _ I h) fun u s1 ⟨x, H1, I1, rx, a, ex, ea, q⟩ => ?_) ht
  subst ex
  obtain rfl : u = Value.ref a := rx
  obtain ⟨t, tb, e1⟩ := ex_at I1 ea
  refine ex_meth I1.kIn e1 c hm.at_ hm.fn ?_
  exact PySem.W.callWith_K0 (first := [.ref a]) I1.kIn hm.kp (run_fn (us := [.ref a]) (vs := [.ref a]) (dvs := []) F hr hb .nil hx I1 (.cons rfl .nil) q)
end
/-! ### a method of the text -/
def clsBody (s : Stmt) : List Stmt := match s with
  | .ClassDef _ _ _ b _ _ _ _ _ _ _ => b
  | _ => []
structure Mf (K : PySem.W.Frag) (x q : Str) (st : Stmt) (ps : List Str) (C f : Addr) (fd : FuncData) : Prop where
  F : Fun K x q st f fd
  m : Meth K C x f
  b : Binds K fd ps []
theorem bt_ValueError : bootBuiltins "ValueError" = some (.type "ValueError") := by decide +kernel
theorem kit_ib (K : PySem.W.Frag) : PySem.W.kitOne K (.type "int") (.type "bool") = some false := by
  unfold PySem.W.kitOne PySem.W.kitCls PySem.W.subIn
  rw [if_neg (by simp)]
  show (if _ then _ else _) = _
  rw [if_pos (by decide +kernel)]
  show Option.map (fun x => x.contains (Value.type "bool")) (fastBuiltinMro "int") = some false
  decide +kernel
end L2

set_option Elab.async false
set_option linter.all false
set_option maxRecDepth 100000
namespace L2
open PySem PySem.Spec PyProof.Rows
open Builtin Builtin.Str
/-! ### slices of texts -/
def cutT (u : List Nat) (lo hi : Option Int) : List Nat := (u.drop (HT.sIx u.length 0 lo)).take (HT.sIx u.length u.length hi - HT.sIx u.length 0 lo)
section
variable {X : Cx}
end
end L2

set_option Elab.async false
set_option linter.all false
set_option maxRecDepth 100000
namespace L2
open PySem PySem.Spec PyProof.Rows
/-! ### range objects as values, list(range(..)) -/
def rngO (p : Addr) (a b c : Int) : HO := .ext fun h => ∃ t u v, IsRange h p a b c t u v
def rngL (a c : Int) (n : Nat) : List Int := (List.range n).map fun (i : Nat) => a + (i : Int) * c
section
variable {X : Cx} {K : PySem.W.Frag}
/-! ### int(text), sum(list) -/
/-! ### a sign among signs -/
end
end L2

set_option Elab.async false
set_option linter.all false
set_option maxRecDepth 100000
namespace L2
open PySem PySem.Spec PyProof.Rows
/-! ### range(a, b) of ints of any size -/
section
variable {X : Cx} {tg : Expr}
def iRng2L (ta : TA) : TI := fun σ H R => ta σ H fun vs H1 => ∃ i j : Int, vs = [.int i, .int j] ∧ R (Itr i (j - i).toNat) H1
end
section
variable {X : Cx}
/-! ### a * b of ints of up to 250 bits -/
/-! ### text * n -/
def rRepS : R2 := fun x y H Q => ∃ u n, x = .str (tx u) ∧ y = .int n ∧ 0 ≤ n ∧ n ≤ 1000000 ∧ u.length * n.toNat ≤ sizeLine ∧ Q (.str (tx (List.replicate n.toNat u).flatten)) H
/-! ### text.count(sign) -/
def rCount : V → List V → Hp → VK → Prop := fun x vs H Q => ∃ u c, x = .str (tx u) ∧ vs = [.str ⟨#[c]⟩] ∧ Q (.int (u.count c : Nat)) H
end
end L2

set_option Elab.async false
set_option linter.all false
set_option maxRecDepth 100000
namespace L2
open PySem PySem.Spec PyProof.Rows
/-! ### isinstance(e, (C, D, ..)) of a caught one -/
section
variable {X : Cx} {K : PySem.W.Frag}
def rIsXT (K : PySem.W.Frag) : List V → Hp → VK → Prop := fun vs H Q => ∃ (a C p : Addr) (Ds : List Addr) (b : Bool), vs = [.ref a, .ref p] ∧ H a = some (exH C a) ∧ ExC K C ∧ H p = some (.tup (Ds.map V.ref)) ∧ PySem.W.kitAny K (.ref C) (Ds.map Value.ref) = some b ∧ Q (.bl b) H
end
end L2

set_option Elab.async false
set_option linter.all false
set_option maxRecDepth 100000
namespace L2
open PySem PySem.Spec PyProof.Rows
/-- a callee that does not raise here -/
theorem passF {P : Program} {w : World} {X : Cx} : Passes (CX1 P w) X (fun _ _ _ => False) := fun _ _ _ _ _ _ _ c => by
  obtain ⟨_, _, _, _, _, _, _, _, _, _, q⟩ := c
  exact q.elim
section
variable {X : Cx} {K : PySem.W.Frag}
/-! ### != of two lists of flat values -/
def rNeL (K : PySem.W.Frag) : R2 := fun x y H Q => ∃ p q xs ys, x = .ref p ∧ y = .ref q ∧ SqL K H p xs ∧ SqL K H q ys ∧ xs.all flatV = true ∧ ys.all flatV = true ∧ Q (.bl (!eqL xs ys)) H
theorem op_neLK (hu : X.A.units < cLine) (hK : X.K = K := by rfl) : OpR X (compareOp .NotEq) (rNeL K) := by
  subst hK
  intro pins s σ H x y v u Q I rx ry h
  obtain ⟨p, q, xs, ys, rfl, rfl, hx, hy, fx, fy, k⟩ := h
  cases rx
  cases ry
  obtain ⟨its, r, pl, hz⟩ := I.list hx
  obtain ⟨its2, r2, pl2, hz2⟩ := I.list hy
  have l1 := r.length
  have l2 := r2.length
  by_cases hl : xs.length = ys.length
  · refine SeqAt.RcNeAt.lists (e := fun j => eqV (xs.getD j .non) (ys.getD j .non)) pl.isList pl2.isList (by simp only [List.size_toArray]; omega) hu (fun j h1 h2 => ?_) _ _ _ _ ?_
    · have j1 : j < xs.length := by simp only [List.size_toArray] at h1; omega
      have j2 : j < ys.length := by omega
      obtain ⟨w1, e1, q1⟩ := r.get (i := j) (x := xs[j]) (by simp [j1])
      obtain ⟨w2, e2, q2⟩ := r2.get (i := j) (x := ys[j]) (by simp [j2])
      have g1 : its.toArray[j] = w1 := by
        have : its.toArray[j]? = some w1 := by simpa using e1
        exact Option.some.inj ((Array.getElem?_eq_getElem h1).symm.trans this)
      have g2 : its2.toArray[j] = w2 := by
        have : its2.toArray[j]? = some w2 := by simpa using e2
        exact Option.some.inj ((Array.getElem?_eq_getElem h2).symm.trans this)
      rw [g1, g2]
      have d1 : xs.getD j .non = xs[j] := by simp [List.getD, j1]
      have d2 : ys.getD j .non = ys[j] := by simp [List.getD, j2]
      show SeqAt.EqAt _ _ _ _ (eqV (xs.getD j .non) (ys.getD j .non))
      rw [d1, d2]
      exact eqAt_V q1 q2 (List.all_eq_true.mp fx _ (List.getElem_mem j1)) (List.all_eq_true.mp fy _ (List.getElem_mem j2))
    · refine ⟨.bl (!eqL xs ys), H, I, ?_, k⟩
      show Value.bool _ = Value.bool _
      rw [List.size_toArray, ← l1, eqL_range hl]
  · refine SeqAt.RcNeAt.lists_lengths pl.isList pl2.isList (by simp only [List.size_toArray, bne_iff_ne]; omega) hu _ _ _ _ ?_
    exact ⟨.bl (!eqL xs ys), H, I, by rw [eqL_len hl]; rfl, k⟩
end
end L2

set_option Elab.async false
set_option linter.all false
set_option maxRecDepth 100000
namespace L2
open PySem PySem.Spec PyProof.Rows
theorem Room.units100 {k : Nat} {A : Around} (r : Room k A) : A.units + 100 < cLine := by have := r.un; omega
/-! ### lists of lists with the same contents -/
def SamL (K : PySem.W.Frag) (H : Hp) (p q : Addr) : Prop := ∃ as bs : List Addr, SqL K H p (as.map V.ref) ∧ SqL K H q (bs.map V.ref) ∧ as.length = bs.length ∧
  ∀ (i : Nat) (a b : Addr), as[i]? = some a → bs[i]? = some b → ∃ xs : List V, xs.all flatV = true ∧ SqL K H a xs ∧ SqL K H b xs
section
variable {X : Cx} {K : PySem.W.Frag}
def rNeLL (K : PySem.W.Frag) : R2 := fun x y H Q => ∃ p q, x = .ref p ∧ y = .ref q ∧ SamL K H p q ∧ Q (.bl false) H
def rEqLL (K : PySem.W.Frag) : R2 := fun x y H Q => ∃ p q, x = .ref p ∧ y = .ref q ∧ SamL K H p q ∧ Q (.bl true) H
/-! ### a number in a list of numbers -/
end
end L2

set_option Elab.async false
set_option linter.all false
set_option maxRecDepth 100000
namespace L2
open PySem PySem.Spec PyProof.Rows
section
variable {X : Cx} {K : PySem.W.Frag} {o e value : Expr} {f : Str} {pos pos' tpos : Pos} {ta tv : TE} {st : Stmt} {t : TS}
theorem pe_fldK (he : PE X e ta) (hb : attributeBase e f X.env (eval e X.env) = eval e X.env) (hK : X.K = K := by rfl) : PE X (.Attribute e f pos) (tFld K ta f) := by subst hK; exact pe_fld he hb
theorem ps_fldK (ha : PE X o ta) (hv : PE X value tv) (hs : swapsWith value (some (.Attribute o f pos')) pos.line X.env = pure false := by rfl) (hK : X.K = K := by rfl) : PS X (.Assign [.Attribute o f pos'] value pos) (sFld K ta tv f) := by subst hK; exact ps_fld ha hv hs
/-- a rule that asks for the frames -/
theorem ps_fr (h : X.A.frames = some X.stack → PS X st t) : PS X st t := fun pins s σ H D I hw => h I.ok.frames pins s σ H D I hw
end
/-! ### own classes -/
structure Own (K : PySem.W.Frag) (C f : Addr) : Prop where
  c : Cls K C
  m : Mk K C f
theorem own_mk {K : PySem.W.Frag} {C f : Addr} (h1 : PySem.W.plainGet K C Str.empty = true) (h2 : PySem.W.hasDictIn K C = true) (h3 : PySem.W.plainOver K C = true) (h4 : PySem.W.findIn K (.ref C) "__setattr__" = some (some (.builtin "object.__setattr__")))
    (h5 : PySem.W.makesIn K C = true) (h6 : PySem.W.findIn K (.ref C) "__init__" = some (some (.ref f))) (h7 : PySem.W.isFn K (.ref f) = true) (h8 : PySem.W.keepIn K (.ref C) = true) : Own K C f := ⟨⟨h1, h2, h3, h4⟩, ⟨h5, h6, h7, h8⟩⟩
end L2

set_option Elab.async false
set_option linter.all false
set_option maxRecDepth 100000
namespace L2
open PySem PySem.Spec PyProof.Rows
def vB (bs : List Bool) : List V := bs.map V.bl
section
variable {X : Cx} {K : PySem.W.Frag}
/-! ### x is not False -/
end
end L2

set_option Elab.async false
set_option linter.all false
set_option maxRecDepth 100000
namespace L2
open PySem PySem.Spec PyProof.Rows
/-! ### several records turned at once -/
/-! ### zip(a, b) of two lists, its pairs unpacked -/
def Itz (K : PySem.W.Frag) (a b : Addr) : It where
  go := fun i H => ∃ xs ys x y, SqL K H a xs ∧ SqL K H b ys ∧ xs[i]? = some x ∧ ys[i]? = some y
  yld := fun i H x H' => ∃ T, x = .ref T ∧ H T = none ∧ ∀ xs ys u v, SqL K H a xs → SqL K H b ys → xs[i]? = some u → ys[i]? = some v → H' = upd H T (.tup [u, v])
  stop := fun i H => ∃ xs ys, SqL K H a xs ∧ SqL K H b ys ∧ (xs.length ≤ i ∨ ys.length ≤ i)
def ZipSt (z TI TO i1 i2 a b : Addr) (i : Nat) (h : Heap) : Prop := IsZip h z TI TO .none ∧ IsPair h TI (.ref i1) (.ref i2) ∧ (∃ p q, IsPair h TO p q) ∧ h.IsListIter i1 a i ∧ h.IsListIter i2 b i
section
variable {X : Cx} {es : List Expr} {kx : Nat} {tp : Pos}
def iZip (K : PySem.W.Frag) (ta : TA) : TI := fun σ H R => ta σ H fun vs H1 => ∃ a b, vs = [.ref a, .ref b] ∧ (∃ xs, SqL K H1 a xs) ∧ (∃ ys, SqL K H1 b ys) ∧ R (Itz K a b) H1
end
end L2

set_option Elab.async false
set_option linter.all false
set_option maxRecDepth 100000
namespace L2
open PySem PySem.Spec PyProof.Rows
/-! ### a tuple of numbers in a list of such tuples, one of which has the same contents -/
def rInT (K : PySem.W.Frag) : R2 := fun x y H Q => ∃ (p q : Addr) (as : List Addr) (ks : List Int), x = .ref p ∧ y = .ref q ∧ SqL K H q (as.map V.ref) ∧ SqT K H p (vI ks) ∧
  (∀ a ∈ as, ∃ js : List Int, SqT K H a (vI js)) ∧ (∃ a ∈ as, SqT K H a (vI ks)) ∧ Q (.bl true) H
section
variable {X : Cx} {K : PySem.W.Frag}
end
end L2

set_option Elab.async false
set_option linter.all false
set_option maxRecDepth 100000
namespace L2
open PySem PySem.Spec PyProof.Rows
/-! ### zip of lists and texts: each side draws by itself -/
section
variable {prog : Program} {w : World} {A : Around} {E : Value → Shared → Prop} {s : Shared}
structure Apart2 (z TI TO i1 i2 : Addr) : Prop where
  TIz : TI ≠ z
  TOz : TO ≠ z
  i1z : i1 ≠ z
  i2z : i2 ≠ z
  TITO : TI ≠ TO
  TIi1 : TI ≠ i1
  TIi2 : TI ≠ i2
  TOi1 : TO ≠ i1
  TOi2 : TO ≠ i2
  i12 : i1 ≠ i2
/-! ### the making -/
abbrev strIt (x : Str) (t : Tok) : Obj := { cls := .type (strIterType x), data := .fields #[.str x t, .int 0 0] }
abbrev lstIt (l : Addr) : Obj := { cls := .type "list_iterator", data := .fields #[.ref l, .int 0 0] }
abbrev zHeap (h : Heap) (o1 o2 : Obj) : Heap := ((((h.push o1).push o2).push { cls := .type "tuple", data := .seq #[.ref h.objs.size, .ref (h.push o1).objs.size] }).push { cls := .type "tuple", data := .seq #[.none, .none] }).push
  { cls := .type "zip", data := .fields #[.none, .bool false, .bool false, .ref ((h.push o1).push o2).objs.size, .ref (((h.push o1).push o2).push { cls := .type "tuple", data := .seq #[.ref h.objs.size, .ref (h.push o1).objs.size] }).objs.size] }
abbrev zAddr (h : Heap) (o1 o2 : Obj) : Addr := ((((h.push o1).push o2).push { cls := .type "tuple", data := .seq #[.ref h.objs.size, .ref (h.push o1).objs.size] }).push { cls := .type "tuple", data := .seq #[.none, .none] }).objs.size
end
end L2

set_option Elab.async false
set_option linter.all false
set_option maxRecDepth 100000
namespace L2
open PySem PySem.Spec PyProof.Rows
/-- a side of zip: a list or a text -/
inductive Src where
  | l (a : Addr)
  | s (z : Str)
def srcV : Src → V
  | .l a => .ref a
  | .s z => .str z
def srcOk (K : PySem.W.Frag) (H : Hp) : Src → Prop
  | .l a => ∃ xs, SqL K H a xs
  | .s _ => True
def srcAt (K : PySem.W.Frag) (H : Hp) : Src → Nat → V → Prop
  | .l a, i, v => ∃ xs, SqL K H a xs ∧ xs[i]? = some v
  | .s z, i, v => ∃ c, z.cps[i]? = some c ∧ v = .str ⟨#[c]⟩
def srcEnd (K : PySem.W.Frag) (H : Hp) : Src → Nat → Prop
  | .l a, i => ∃ xs, SqL K H a xs ∧ xs.length = i
  | .s z, i => z.cps.size = i
def srcSt (it : Addr) (t : Tok) : Src → Nat → Heap → Prop
  | .l a, i, h => h.IsListIter it a i
  | .s z, i, h => h.IsStrIter it (strIterType z) z t i
def srcFp (it : Addr) : Src → List Addr
  | .l a => [it, a]
  | .s _ => [it]
def srcIt (t : Tok) : Src → Obj
  | .l a => lstIt a
  | .s z => strIt z t
def Itz2 (K : PySem.W.Frag) (S1 S2 : Src) : It where
  go := fun i H => (∃ u, srcAt K H S1 i u) ∧ ∃ v, srcAt K H S2 i v
  yld := fun i H x H' => ∃ T, x = .ref T ∧ H T = none ∧ ∀ u v, srcAt K H S1 i u → srcAt K H S2 i v → H' = upd H T (.tup [u, v])
  stop := fun i H => srcOk K H S1 ∧ srcOk K H S2 ∧ (srcEnd K H S1 i ∨ ((∃ u, srcAt K H S1 i u) ∧ srcEnd K H S2 i))
def Zip2St (z TI TO i1 i2 : Addr) (t1 t2 : Tok) (S1 S2 : Src) (i : Nat) (h : Heap) : Prop := IsZip h z TI TO .none ∧ IsPair h TI (.ref i1) (.ref i2) ∧ (∃ p q, IsPair h TO p q) ∧ srcSt i1 t1 S1 i h ∧ srcSt i2 t2 S2 i h
section
variable {X : Cx} {es : List Expr} {kx : Nat} {tp : Pos}
/-- which pairs there is a rule for -/
def zOk : Src → Src → Prop
  | .s _, .l _ => False
  | _, _ => True
def iZip2 (K : PySem.W.Frag) (ta : TA) : TI := fun σ H R => ta σ H fun vs H1 => ∃ S1 S2, vs = [srcV S1, srcV S2] ∧ zOk S1 S2 ∧ srcOk K H1 S1 ∧ srcOk K H1 S2 ∧ R (Itz2 K S1 S2) H1
end
end L2

set_option Elab.async false
set_option linter.all false
set_option maxRecDepth 100000
namespace L2
open PySem PySem.Spec PyProof.Rows
/-! ### a comprehension whose target is a pair of names -/
structure CompOk2 (X : Cx) (x x' : Str) (Nc : List Str) (caps : List Nat) (scope : Scope) : Prop where
  kind : scope.kind = .function
  cell : ∀ y ∈ scope.names, y.2 ≠ .cell
  names : ∀ y ∈ scope.names, y.2 = .local → scope.names.lookup y.1 = some .local
  fr : ∀ y ∈ scope.names, y.2 = .free → X.env.scope.names.lookup y.1 = some .cell ∧ scope.names.lookup y.1 = some .free
  loc : scope.names.lookup x = some .local
  loc2 : scope.names.lookup x' = some .local
  len : Nc.length = caps.length + 2
  hd : Nc[0]? = some x
  hd2 : Nc[1]? = some x'
  nd : Nc.Nodup
  cap : ∀ k j, caps[k]? = some j → ∃ y, Nc[k + 2]? = some y ∧ X.N[j]? = some y ∧ scope.names.lookup y = some .free
def tCompW2 (K : PySem.W.Frag) (caps : List Nat) (tc : TT) (te : TE) (J : It) (σ : St) (H : Hp) (Q : VK) : Prop :=
  ∃ W : Nat → Nat → List V → Hp → Prop, (∃ m, W 0 m [] H) ∧ ∀ i m ys H, W i m ys H →
    (J.stop i H ∧ ys.length ≤ sizeLine ∧ ∀ p, H p = none → Q (.ref p) (upd H p (.lst ys))) ∨
    (J.go i H ∧ ys.length < sizeLine ∧ ∀ x H', J.yld i H x H' → ∃ a u v, x = .ref a ∧ SqT K H' a [u, v] ∧ tc (some u :: some v :: capV σ caps) H' fun b H2 =>
      if b = true then te (some u :: some v :: capV σ caps) H2 fun y H3 => ∃ m', m' < m ∧ W (i + 1) m' (ys ++ [y]) H3 else ∃ m', m' < m ∧ W (i + 1) m' ys H2)
def tComp2 (K : PySem.W.Frag) (wi : TI) (caps : List Nat) (tc : TT) (te : TE) : TE := fun σ H Q => wi σ H fun J H1 => tCompW2 K caps tc te J σ H1 Q
section
variable {X : Cx} {pins : List (Addr × Obj)} {σ : St} {H : Hp} {s : Shared}
end
end L2

set_option Elab.async false
set_option linter.all false
set_option maxRecDepth 100000
namespace L2
open PySem PySem.Spec PyProof.Rows
/-! ### list.count of a number -/
section
variable {X : Cx}
def rCountL (K : PySem.W.Frag) : V → List V → Hp → VK → Prop := fun x vs H Q => ∃ a ns k, x = .ref a ∧ vs = [.int k] ∧ SqL K H a (vI ns) ∧ Q (.int (ns.count k : Nat)) H
end
/-! ### enumerate(list), its pairs unpacked -/
def Ite (K : PySem.W.Frag) (a : Addr) : It where
  go := fun i H => ∃ xs x, SqL K H a xs ∧ xs[i]? = some x
  yld := fun i H x H' => ∃ T, x = .ref T ∧ H T = none ∧ ∀ xs u, SqL K H a xs → xs[i]? = some u → H' = upd H T (.tup [.int (i : Int), u])
  stop := fun i H => ∃ xs, SqL K H a xs ∧ xs.length = i
def EnSt (e it a : Addr) (i : Nat) (h : Heap) : Prop := (∃ old, IsEnum h e it i old) ∧ h.IsListIter it a i
section
variable {X : Cx} {es : List Expr} {kx : Nat} {tp : Pos}
def iEnum (K : PySem.W.Frag) (ta : TA) : TI := fun σ H R => ta σ H fun vs H1 => ∃ a, vs = [.ref a] ∧ (∃ xs, SqL K H1 a xs) ∧ R (Ite K a) H1
end
end L2

set_option Elab.async false
set_option linter.all false
set_option maxRecDepth 100000
namespace L2
open PySem PySem.Spec PyProof.Rows
/-! ### values of the same contents, lists and tuples within one another -/
inductive SamV (K : PySem.W.Frag) (H : Hp) : Nat → V → V → Prop where
  | flat {n : Nat} {x : V} (h : flatV x = true) : SamV K H n x x
  | lst {n : Nat} {p q : Addr} {xs ys : List V} (hp : SqL K H p xs) (hq : SqL K H q ys) (hl : xs.length = ys.length) (hi : ∀ (i : Nat) (x y : V), xs[i]? = some x → ys[i]? = some y → SamV K H n x y) : SamV K H (n + 1) (.ref p) (.ref q)
  | tup {n : Nat} {p q : Addr} {xs ys : List V} (hp : SqT K H p xs) (hq : SqT K H q ys) (hl : xs.length = ys.length) (hi : ∀ (i : Nat) (x y : V), xs[i]? = some x → ys[i]? = some y → SamV K H n x y) : SamV K H (n + 1) (.ref p) (.ref q)
section
variable {X : Cx} {K : PySem.W.Frag}
theorem vals_get {xs : List V} {us : List Value} (r : Vals xs us) {j : Nat} (h : j < us.toArray.size) : ∃ x, xs[j]? = some x ∧ RelV x us.toArray[j] := by
  have l := r.length
  simp only [List.size_toArray] at h
  obtain ⟨u, e, q⟩ := r.get (i := j) (x := xs[j]) (by simp [show j < xs.length by omega])
  refine ⟨xs[j], by simp [show j < xs.length by omega], ?_⟩
  have : us.toArray[j] = u := by
    have h2 : us.toArray[j]? = some u := by simpa using e
    exact Option.some.inj ((Array.getElem?_eq_getElem (by simpa using h)).symm.trans h2)
  rw [this]
  exact q
theorem eqAt_sam {pins : List (Addr × Obj)} {σ : St} {H : Hp} {s : Shared} (I : Inv X pins σ H s) {n : Nat} {x y : V} (S : SamV X.K H n x y) : ∀ {A : Around} {u v : Value}, RelV x u → RelV y v → A.units + n < cLine → SeqAt.EqAt A s u v true := by
  induction S with
  | flat h =>
    intro A u v r1 r2 hu
    have := eqAt_V (A := A) (s := s) r1 r2 h h
    rw [eqV_refl h] at this
    exact this
  | lst hp hq hl hi ih =>
    intro A u v r1 r2 hu
    rename_i n p q xs ys
    cases r1
    cases r2
    by_cases e : p = q
    · subst e; exact SeqAt.EqAt.same _
    · refine SeqAt.EqAt.of_refs e ?_
      obtain ⟨its, r, pl, hz⟩ := I.list hp
      obtain ⟨its2, r2, pl2, hz2⟩ := I.list hq
      have l1 := r.length
      have l2 := r2.length
      have key := SeqAt.RcAt.lists (A := A) (s := s) (e := fun _ => true) pl.isList pl2.isList (by simp only [List.size_toArray]; omega) (by omega) (fun j h1 h2 => ?_)
      · have e1 : (List.range its.toArray.size).all (fun _ => true) = true := by simp
        rw [e1] at key
        exact key
      · obtain ⟨x, ex, qx⟩ := vals_get r h1
        obtain ⟨y, ey, qy⟩ := vals_get r2 h2
        exact ih j x y ex ey qx qy (by show A.units + 1 + n < cLine; omega)
  | tup hp hq hl hi ih =>
    intro A u v r1 r2 hu
    rename_i n p q xs ys
    cases r1
    cases r2
    by_cases e : p = q
    · subst e; exact SeqAt.EqAt.same _
    · refine SeqAt.EqAt.of_refs e ?_
      obtain ⟨its, r, pl, hz⟩ := I.tuple hp
      obtain ⟨its2, r2, pl2, hz2⟩ := I.tuple hq
      have l1 := r.length
      have l2 := r2.length
      have key := SeqAt.RcAt.tuples (A := A) (s := s) (e := fun _ => true) pl pl2 (by omega) (fun j h1 h2 => ?_)
      · have e1 : ((List.range (min its.toArray.size its2.toArray.size)).all (fun _ => true) && its.toArray.size == its2.toArray.size) = true := by
          have e2 : its.length = its2.length := by omega
          simp [e2]
        rw [e1] at key
        exact key
      · obtain ⟨x, ex, qx⟩ := vals_get r h1
        obtain ⟨y, ey, qy⟩ := vals_get r2 h2
        exact ih j x y ex ey qx qy (by show A.units + 1 + n < cLine; omega)
def SamS (K : PySem.W.Frag) (H : Hp) (p q : Addr) : Prop := ∃ xs ys : List V, SqL K H p xs ∧ SqL K H q ys ∧ xs.length = ys.length ∧ ∀ (i : Nat) (x y : V), xs[i]? = some x → ys[i]? = some y → SamV K H 50 x y
def rEqS (K : PySem.W.Frag) : R2 := fun x y H Q => ∃ p q, x = .ref p ∧ y = .ref q ∧ SamS K H p q ∧ Q (.bl true) H
theorem op_eqS (hu : X.A.units + 100 < cLine) (hK : X.K = K := by rfl) : OpR X (compareOp .Eq) (rEqS K) := by
  subst hK
  intro pins s σ H x y v u Q I rx ry h
  obtain ⟨p, q, rfl, rfl, ⟨xs, ys, hx, hy, hl, hi⟩, k⟩ := h
  cases rx
  cases ry
  obtain ⟨its, r, pl, hz⟩ := I.list hx
  obtain ⟨its2, r2, pl2, hz2⟩ := I.list hy
  have l1 := r.length
  have l2 := r2.length
  refine SeqAt.eq_listAt (e := fun _ => true) pl.isList pl2.isList (by simp only [List.size_toArray]; omega) (by omega) (fun j h1 h2 => ?_) ?_
  · obtain ⟨x, ex, qx⟩ := vals_get r h1
    obtain ⟨y, ey, qy⟩ := vals_get r2 h2
    exact eqAt_sam I (hi j x y ex ey) qx qy (by show X.A.units + 1 + 50 < cLine; omega)
  refine ⟨.bl true, H, I, ?_, k⟩
  show Value.bool _ = Value.bool _
  simp
def rNeS (K : PySem.W.Frag) : R2 := fun x y H Q => ∃ p q, x = .ref p ∧ y = .ref q ∧ SamS K H p q ∧ Q (.bl false) H
theorem op_neS (hu : X.A.units + 100 < cLine) (hK : X.K = K := by rfl) : OpR X (compareOp .NotEq) (rNeS K) := by
  subst hK
  intro pins s σ H x y v u Q I rx ry h
  obtain ⟨p, q, rfl, rfl, ⟨xs, ys, hx, hy, hl, hi⟩, k⟩ := h
  cases rx
  cases ry
  obtain ⟨its, r, pl, hz⟩ := I.list hx
  obtain ⟨its2, r2, pl2, hz2⟩ := I.list hy
  have l1 := r.length
  have l2 := r2.length
  refine SeqAt.RcNeAt.lists (e := fun _ => true) pl.isList pl2.isList (by simp only [List.size_toArray]; omega) (by omega) (fun j h1 h2 => ?_) _ _ _ _ ?_
  · obtain ⟨x, ex, qx⟩ := vals_get r h1
    obtain ⟨y, ey, qy⟩ := vals_get r2 h2
    exact eqAt_sam I (hi j x y ex ey) qx qy (by show X.A.units + 1 + 50 < cLine; omega)
  refine ⟨.bl false, H, I, ?_, k⟩
  show Value.bool _ = Value.bool _
  simp
end
end L2

set_option Elab.async false
set_option linter.all false
set_option maxRecDepth 100000
namespace L2
open PySem PySem.Spec PyProof.Rows
/-! ### an own class made, a method called, within try; if within try -/
section
variable {X : Cx} {K : PySem.W.Frag} {k : Nat} {f C : Addr} {fd : FuncData} {ps : List Str} {sp : Sp} {dvs : List V} {ds : List Value} {x m : Str} {p pos apos : Pos} {e o : Expr} {es : List Expr} {ta : TE} {t : TA}
theorem run_makeX {pins : List (Addr × Obj)} {σ : St} {H : Hp} {s : Shared} {Q : VK} {E : XK} {us : List Value} {vs : List V} (M : Mk X.K C f) (F : FnOk X.prog X.w X.K X.mg X.base (CX1 X.prog X.w) k f fd ps sp) (hr : Room (k + 1) X.A) (hb : Binds X.K fd ps ds) (hd : Vals dvs ds)
    (I : Inv X pins σ H s) (r : Vals vs us)
    (h : ∀ x dx, H x = none → H dx = none → dx ≠ x → sp (.ref x :: (vs ++ dvs)) (upd (upd H dx (.own x)) x (.ins C dx [])) (fun v H2 => v = .non ∧ Q (.ref x) H2) E) :
    wpAny (model X.prog X.w) X.A (call (.ref C) us) (EP X pins σ Q) (fun ex s' => ∃ H1 s1, Inv X pins σ H1 s1 ∧ CX1 X.prog X.w X.stack H1 s1 E ex s') s := by
  have hq := h (s.heap.objs.size + 1) s.heap.objs.size (I.hok.fresh (Nat.le_succ _)) (I.hok.fresh (Nat.le_refl _)) (Nat.ne_of_lt (Nat.lt_succ_self _))
  have I2 := Inv.made (C := C) I
  have r2 : Vals (V.ref (s.heap.objs.size + 1) :: (vs ++ dvs)) (Value.ref (s.heap.objs.size + 1) :: (us ++ ds)) := .cons rfl (r.append hd)
  have hl : (Value.ref (s.heap.objs.size + 1) :: us ++ ds).length = ps.length := by
    have e := r2.length
    rw [F.len _ _ _ _ hq] at e
    exact e.symm
  refine wpAny_call (make_map (f := f) I.kIn M.makes M.init (beq_iff_eq.mp M.fn) (codeAny_mono (F.run _ X.stack _ _ ⟨Value.ref (s.heap.objs.size + 1) :: us, []⟩ (Value.ref (s.heap.objs.size + 1) :: (us ++ ds)) _ _ E (hr.make C us [])
    (I2.env0.make C us []) (hb _ (Value.ref (s.heap.objs.size + 1) :: us) I2.kIn hl) r2 hq) fun r s' hq' => ?_))
  cases r with
  | error e => exact ⟨_, _, I2, hq'⟩
  | ok fl =>
    cases fl with
    | ret u =>
      obtain ⟨v, H', I3, rv, ev, q3⟩ := I2.after hq'
      subst ev
      exact ⟨rv, ⟨V.ref (s.heap.objs.size + 1), H', I3, rfl, q3⟩⟩
    | next => exact False.elim hq'
    | brk => exact False.elim hq'
    | cont => exact False.elim hq'
theorem pex_make (M : Mk X.K C f) (F : FnOk X.prog X.w X.K X.mg X.base (CX1 X.prog X.w) k f fd ps sp) (hr : Room (k + 1) X.A) (hg : Gl X x) (hm : X.mg x = some (.ref C)) (hb : Binds X.K fd ps ds) (hd : Vals dvs ds)
    (ha : PA X.nox (e :: es) t) (hdb : (x == ("__debug__" : Str)) = false := by decide) (he : starEach (e :: es) X.env = (false, eval e X.env) :: starEach es X.env := by rfl) (hpl : (backTo pos (starEach es X.env)).any (·.1) = false := by rfl) :
    PEX X (.Call (.Name x p) (e :: es) [] pos) fun E => tMake C sp dvs E t := by
  intro pins s σ H Q E I h
  refine wpAny_Call_Name_kw (ld_glob I hg hm ?_ hdb)
  refine PySem.W.callWith_K (h₀ := X.base) I.ok.mod.kin M.kp (wpAny_mono (ha pos pins s σ H _ (I.wish _) h) (fun us s1 ⟨vs, H1, I1, r, q⟩ => ⟨I1.kIn, ?_⟩) fun _ _ z => z.elim) he hpl
  exact run_makeX M F hr hb hd (I1.unwish) r q
/-! ### a list and the empty list -/
def rNeE (K : PySem.W.Frag) : R2 := fun x y H Q => ∃ p q xs, x = .ref p ∧ y = .ref q ∧ SqL K H p xs ∧ SqL K H q [] ∧ Q (.bl (!xs.isEmpty)) H
theorem op_neE (hu : X.A.units < cLine) (hK : X.K = K := by rfl) : OpR X (compareOp .NotEq) (rNeE K) := by
  subst hK
  intro pins s σ H x y v u Q I rx ry h
  obtain ⟨p, q, xs, rfl, rfl, hx, hy, k⟩ := h
  cases xs with
  | nil => exact op_neLK hu rfl pins s σ H (.ref p) (.ref q) v u Q I rx ry ⟨p, q, [], [], rfl, rfl, hx, hy, rfl, rfl, k⟩
  | cons a xs =>
    cases rx
    cases ry
    obtain ⟨its, r, pl, hz⟩ := I.list hx
    obtain ⟨its2, r2, pl2, hz2⟩ := I.list hy
    have l1 := r.length
    have l2 := r2.length
    simp only [List.length_cons, List.length_nil] at l1 l2
    refine SeqAt.RcNeAt.lists_lengths pl.isList pl2.isList (by simp only [List.size_toArray, bne_iff_ne]; omega) hu _ _ _ _ ?_
    exact ⟨.bl true, H, I, rfl, k⟩
def rEqE (K : PySem.W.Frag) : R2 := fun x y H Q => ∃ p q xs, x = .ref p ∧ y = .ref q ∧ SqL K H p xs ∧ SqL K H q [] ∧ Q (.bl xs.isEmpty) H
theorem op_eqE (hu : X.A.units < cLine) (hK : X.K = K := by rfl) : OpR X (compareOp .Eq) (rEqE K) := by
  subst hK
  intro pins s σ H x y v u Q I rx ry h
  obtain ⟨p, q, xs, rfl, rfl, hx, hy, k⟩ := h
  cases xs with
  | nil => exact op_eqL hu pins s σ H (.ref p) (.ref q) v u Q I rx ry ⟨p, q, [], [], rfl, rfl, hx, hy, rfl, rfl, k⟩
  | cons a xs =>
    cases rx
    cases ry
    obtain ⟨its, r, pl, hz⟩ := I.list hx
    obtain ⟨its2, r2, pl2, hz2⟩ := I.list hy
    have l1 := r.length
    have l2 := r2.length
    simp only [List.length_cons, List.length_nil] at l1 l2
    refine SeqAt.eq_list_lengthsAt pl.isList pl2.isList (by simp only [List.size_toArray, bne_iff_ne]; omega) hu ?_
    exact ⟨.bl false, H, I, rfl, k⟩
end
end L2

namespace Mine
open L2
/-- the signs of a cloth: # is 35, . is 46 -/
def Sg (c : Nat) : Prop := c = 35 ∨ c = 46
structure Cl (cl : List (List Nat)) (m n : Nat) : Prop where
  hn : cl.length = n
  hm : ∀ t ∈ cl, t.length = m
  sg : ∀ t ∈ cl, ∀ c ∈ t, Sg c
  m1 : 1 ≤ m
  m40 : m ≤ 40
  n1 : 1 ≤ n
  n40 : n ≤ 40
def flip (c : Nat) : Nat := if c = 35 then 46 else 35
def back (cl : List (List Nat)) : List (List Nat) := cl.map fun t => t.reverse.map flip
def col (cl : List (List Nat)) (e : Nat) : List Nat := cl.map fun t => t.getD e 0
def quart (cl : List (List Nat)) (m : Nat) : List (List Nat) := (List.range m).map fun e => (col cl e).map flip
/-- the sign at a place of the cloth without end -/
def sgn (cl : List (List Nat)) (m n : Nat) (x y : Int) : Nat := (cl.getD (y % (n : Int)).toNat []).getD (x % (m : Int)).toNat 0
end Mine

set_option linter.all false
namespace Mine
open L2
/-- a rising list of shafts -/
def Rs (ks : List Int) : Prop := (∀ (i : Nat) (a b : Int), ks[i]? = some a → ks[i + 1]? = some b → a < b) ∧ ∀ k ∈ ks, 0 ≤ k ∧ k < 40
theorem rs_nil : Rs [] := ⟨fun i a b h => by simp at h, fun k h => by cases h⟩
theorem rs_add {ks : List Int} {z : Int} (h : Rs ks) (hz : ∀ k ∈ ks, k < z) (h0 : 0 ≤ z) (h1 : z < 40) : Rs (ks ++ [z]) := by
  refine ⟨fun i a b ha hb => ?_, fun k hk => ?_⟩
  · by_cases hi : i + 1 < ks.length
    · rw [List.getElem?_append_left (by omega)] at ha
      rw [List.getElem?_append_left hi] at hb
      exact h.1 i a b ha hb
    · by_cases hi2 : i < ks.length
      · rw [List.getElem?_append_left hi2] at ha
        rw [List.getElem?_append_right (by omega)] at hb
        have e : i + 1 - ks.length = 0 := by omega
        rw [e] at hb
        have : b = z := by simpa using hb.symm
        rw [this]
        exact hz a (List.mem_of_getElem? ha)
      · rw [List.getElem?_append_right (by omega)] at hb
        have : ([z] : List Int)[i + 1 - ks.length]? = none := by
          apply List.getElem?_eq_none
          simp
          omega
        rw [this] at hb
        cases hb
  · rcases List.mem_append.mp hk with h2 | h2
    · exact h.2 k h2
    · rw [List.mem_singleton.mp h2]; exact ⟨h0, h1⟩
/-- lists that fit a draft -/
structure Ft (th : List Int) (tss : List (List Int)) (tr : List Int) : Prop where
  m1 : 1 ≤ th.length
  m40 : th.length ≤ 40
  t1 : 1 ≤ tss.length
  t40 : tss.length ≤ 40
  n1 : 1 ≤ tr.length
  n40 : tr.length ≤ 40
  hth : ∀ v ∈ th, 0 ≤ v ∧ v < 40
  hti : ∀ ks ∈ tss, Rs ks
  htr : ∀ v ∈ tr, 0 ≤ v ∧ v < tss.length
def shd (th ks : List Int) : List Nat := th.map fun s => if s ∈ ks then 35 else 46
def wv (th : List Int) (tss : List (List Int)) (tr : List Int) : List (List Nat) := tr.map fun v => shd th (tss.getD v.toNat [])
end Mine

set_option Elab.async false
set_option linter.all false
set_option maxRecDepth 100000
set_option maxHeartbeats 4000000
namespace Mine
open PySem L2
def top (i : Nat) : Stmt := PySem.Challenge.pw_heddle_k07_drafts_refused.main.body.getD i (.Pass ⟨0, 0, 0, 0⟩)
abbrev s_check_setting : Stmt := top 8
theorem sc_check_setting : FnScope ["threading", "ties", "shaft", "tie"] ["threading", "ties"] (defScope s_check_setting) := ⟨rfl, rfl, rfl, by decide +kernel, rfl, by decide +kernel, by decide +kernel⟩
abbrev s_check_count : Stmt := top 9
theorem sc_check_count : FnScope ["count"] ["count"] (defScope s_check_count) := ⟨rfl, rfl, rfl, by decide +kernel, rfl, by decide +kernel, by decide +kernel⟩
abbrev s_check_shaft : Stmt := top 10
theorem sc_check_shaft : FnScope ["shaft"] ["shaft"] (defScope s_check_shaft) := ⟨rfl, rfl, rfl, by decide +kernel, rfl, by decide +kernel, by decide +kernel⟩
abbrev s_check_tie : Stmt := top 11
theorem sc_check_tie : FnScope ["tie", "k"] ["tie"] (defScope s_check_tie) := ⟨rfl, rfl, rfl, by decide +kernel, rfl, by decide +kernel, by decide +kernel⟩
abbrev s_check_treading : Stmt := top 12
theorem sc_check_treading : FnScope ["treading", "treadles", "treadle"] ["treading", "treadles"] (defScope s_check_treading) := ⟨rfl, rfl, rfl, by decide +kernel, rfl, by decide +kernel, by decide +kernel⟩
abbrev s_law_numbers : Stmt := top 14
theorem sc_law_numbers : FnScope ["script", "many", "mixed", "found", "k"] ["script", "many"] (defScope s_law_numbers) := ⟨rfl, rfl, rfl, by decide +kernel, rfl, by decide +kernel, by decide +kernel⟩
abbrev s_law_subset : Stmt := top 15
theorem sc_law_subset : FnScope ["number", "found", "shaft"] ["number"] (defScope s_law_subset) := ⟨rfl, rfl, rfl, by decide +kernel, rfl, by decide +kernel, by decide +kernel⟩
abbrev s_law_draft_by : Stmt := top 16
theorem sc_law_draft_by : FnScope ["numbers", "ends", "treadles", "picks", "high", "threading", "ties", "at", "treading"] ["numbers"] (defScope s_law_draft_by) := ⟨rfl, rfl, rfl, by decide +kernel, rfl, by decide +kernel, by decide +kernel⟩
abbrev s_law_numbers_same : Stmt := top 17
theorem sc_law_numbers_same : FnScope ["found", "due", "k"] ["found", "due"] (defScope s_law_numbers_same) := ⟨rfl, rfl, rfl, by decide +kernel, rfl, by decide +kernel, by decide +kernel⟩
abbrev s_law_draft_same : Stmt := top 18
theorem sc_law_draft_same : FnScope ["draft", "threading", "ties", "treading", "k"] ["draft", "threading", "ties", "treading"] (defScope s_law_draft_same) := ⟨rfl, rfl, rfl, by decide +kernel, rfl, by decide +kernel, by decide +kernel⟩
abbrev s_law_odd : Stmt := top 19
theorem sc_law_odd : FnScope ["number"] ["number"] (defScope s_law_odd) := ⟨rfl, rfl, rfl, by decide +kernel, rfl, by decide +kernel, by decide +kernel⟩
abbrev s_law_of_length : Stmt := top 20
theorem sc_law_of_length : FnScope ["part", "length", "made"] ["part", "length"] (defScope s_law_of_length) := ⟨rfl, rfl, rfl, by decide +kernel, rfl, by decide +kernel, by decide +kernel⟩
abbrev s_law_tie_changed : Stmt := top 21
theorem sc_law_tie_changed : FnScope ["tie", "way", "number", "at"] ["tie", "way", "number"] (defScope s_law_tie_changed) := ⟨rfl, rfl, rfl, by decide +kernel, rfl, by decide +kernel, by decide +kernel⟩
abbrev s_law_changed : Stmt := top 22
theorem sc_law_changed : FnScope ["lists", "way", "number", "threading", "ties", "treading", "length", "at"] ["lists", "way", "number"] (defScope s_law_changed) := ⟨rfl, rfl, rfl, by decide +kernel, rfl, by decide +kernel, by decide +kernel⟩
abbrev s_law_fits : Stmt := top 23
theorem sc_law_fits : FnScope ["lists", "part", "shaft", "tie", "k", "treadle"] ["lists"] (defScope s_law_fits) := ⟨rfl, rfl, rfl, by decide +kernel, rfl, by decide +kernel, by decide +kernel⟩
abbrev s_law_caught : Stmt := top 24
theorem sc_law_caught : FnScope ["lists", "caught", "draft", "e"] ["lists"] (defScope s_law_caught) := ⟨rfl, rfl, rfl, by decide +kernel, rfl, by decide +kernel, by decide +kernel⟩
abbrev s_law_no_draft : Stmt := top 25
theorem sc_law_no_draft : FnScope ["caught"] ["caught"] (defScope s_law_no_draft) := ⟨rfl, rfl, rfl, by decide +kernel, rfl, by decide +kernel, by decide +kernel⟩
abbrev s_law : Stmt := top 26
theorem sc_law : FnScope ["script", "numbers", "built", "lists", "handed", "caught", "draft"] ["script"] (defScope s_law) := ⟨rfl, rfl, rfl, by decide +kernel, rfl, by decide +kernel, by decide +kernel⟩
abbrev s_NoDraft_called : Stmt := (clsBody (top 3)).getD 0 (.Pass ⟨0, 0, 0, 0⟩)
theorem sc_NoDraft_called : FnScope ["self"] ["self"] (defScope s_NoDraft_called) := ⟨rfl, rfl, rfl, by decide +kernel, rfl, by decide +kernel, by decide +kernel⟩
abbrev s_Draft___init__ : Stmt := (clsBody (top 7)).getD 0 (.Pass ⟨0, 0, 0, 0⟩)
theorem sc_Draft___init__ : FnScope ["self", "threading", "ties", "treading"] ["self", "threading", "ties", "treading"] (defScope s_Draft___init__) := ⟨rfl, rfl, rfl, by decide +kernel, rfl, by decide +kernel, by decide +kernel⟩
structure Adr where
  e_Draft : Addr
  f_Draft___init__ : Addr
  d_Draft___init__ : FuncData
  f_check_setting : Addr
  d_check_setting : FuncData
  f_check_count : Addr
  d_check_count : FuncData
  f_check_shaft : Addr
  d_check_shaft : FuncData
  f_check_tie : Addr
  d_check_tie : FuncData
  f_check_treading : Addr
  d_check_treading : FuncData
  f_law_numbers : Addr
  d_law_numbers : FuncData
  f_law_subset : Addr
  d_law_subset : FuncData
  f_law_draft_by : Addr
  d_law_draft_by : FuncData
  f_law_numbers_same : Addr
  d_law_numbers_same : FuncData
  f_law_draft_same : Addr
  d_law_draft_same : FuncData
  f_law_odd : Addr
  d_law_odd : FuncData
  f_law_of_length : Addr
  d_law_of_length : FuncData
  f_law_tie_changed : Addr
  d_law_tie_changed : FuncData
  f_law_changed : Addr
  d_law_changed : FuncData
  f_law_fits : Addr
  d_law_fits : FuncData
  f_law_caught : Addr
  d_law_caught : FuncData
  f_law_no_draft : Addr
  d_law_no_draft : FuncData
  f_law : Addr
  d_law : FuncData
  e_WeaveError : Addr
  e_NoCloth : Addr
  e_NoDraft : Addr
  f_NoDraft_called : Addr
  d_NoDraft_called : FuncData
structure Txt (K : PySem.W.Frag) (mg : Str → Option Value) (t : Adr) : Prop where
  check_setting : Df K mg "check_setting" s_check_setting ["threading", "ties"] t.f_check_setting t.d_check_setting
  check_count : Df K mg "check_count" s_check_count ["count"] t.f_check_count t.d_check_count
  check_shaft : Df K mg "check_shaft" s_check_shaft ["shaft"] t.f_check_shaft t.d_check_shaft
  check_tie : Df K mg "check_tie" s_check_tie ["tie"] t.f_check_tie t.d_check_tie
  check_treading : Df K mg "check_treading" s_check_treading ["treading", "treadles"] t.f_check_treading t.d_check_treading
  law_numbers : Df K mg "_law_numbers" s_law_numbers ["script", "many"] t.f_law_numbers t.d_law_numbers
  law_subset : Df K mg "_law_subset" s_law_subset ["number"] t.f_law_subset t.d_law_subset
  law_draft_by : Df K mg "_law_draft_by" s_law_draft_by ["numbers"] t.f_law_draft_by t.d_law_draft_by
  law_numbers_same : Df K mg "_law_numbers_same" s_law_numbers_same ["found", "due"] t.f_law_numbers_same t.d_law_numbers_same
  law_draft_same : Df K mg "_law_draft_same" s_law_draft_same ["draft", "threading", "ties", "treading"] t.f_law_draft_same t.d_law_draft_same
  law_odd : Df K mg "_law_odd" s_law_odd ["number"] t.f_law_odd t.d_law_odd
  law_of_length : Df K mg "_law_of_length" s_law_of_length ["part", "length"] t.f_law_of_length t.d_law_of_length
  law_tie_changed : Df K mg "_law_tie_changed" s_law_tie_changed ["tie", "way", "number"] t.f_law_tie_changed t.d_law_tie_changed
  law_changed : Df K mg "_law_changed" s_law_changed ["lists", "way", "number"] t.f_law_changed t.d_law_changed
  law_fits : Df K mg "_law_fits" s_law_fits ["lists"] t.f_law_fits t.d_law_fits
  law_caught : Df K mg "_law_caught" s_law_caught ["lists"] t.f_law_caught t.d_law_caught
  law_no_draft : Df K mg "_law_no_draft" s_law_no_draft ["caught"] t.f_law_no_draft t.d_law_no_draft
  law : Df K mg "law" s_law ["script"] t.f_law t.d_law
  b_ValueError : mg "ValueError" = none
  b_bool : mg "bool" = none
  b_int : mg "int" = none
  b_isinstance : mg "isinstance" = none
  b_len : mg "len" = none
  b_list : mg "list" = none
  b_range : mg "range" = none
  c_MOST_STRANDS : ∃ tk, mg "MOST_STRANDS" = some (.int 40 tk)
  c_MOST_SHAFTS : ∃ tk, mg "MOST_SHAFTS" = some (.int 40 tk)
  k_WeaveError : mg "WeaveError" = some (.ref t.e_WeaveError)
  x_WeaveError : Exn K t.e_WeaveError
  k_NoCloth : mg "NoCloth" = some (.ref t.e_NoCloth)
  i_NoCloth : PySem.W.isClsIn K t.e_NoCloth = true
  j_NoCloth : PySem.W.typeIn K (.ref t.e_NoCloth) = some (.type "type")
  k_NoDraft : mg "NoDraft" = some (.ref t.e_NoDraft)
  x_NoDraft : Exn K t.e_NoDraft
  m_NoDraft : Mf K "called" "NoDraft.called" s_NoDraft_called ["self"] t.e_NoDraft t.f_NoDraft_called t.d_NoDraft_called
  r_NoDraft_WeaveError : PySem.W.mroIn K t.e_NoDraft (.ref t.e_WeaveError) = some true
  r_NoDraft_NoCloth : PySem.W.mroIn K t.e_NoDraft (.ref t.e_NoCloth) = some false
  r_NoDraft_NoDraft : PySem.W.mroIn K t.e_NoDraft (.ref t.e_NoDraft) = some true
  k_Draft : mg "Draft" = some (.ref t.e_Draft)
  o_Draft : Own K t.e_Draft t.f_Draft___init__
  na_Draft_threading : NoAttr K t.e_Draft "threading"
  na_Draft_ties : NoAttr K t.e_Draft "ties"
  na_Draft_treading : NoAttr K t.e_Draft "treading"
  m_Draft___init__ : Mf K "__init__" "Draft.__init__" s_Draft___init__ ["self", "threading", "ties", "treading"] t.e_Draft t.f_Draft___init__ t.d_Draft___init__
theorem txt_mk {K : PySem.W.Frag} {h : Heap} {mg : Str → Option Value} {f_check_setting : Addr} {od_check_setting an_check_setting : Option Addr} {sl_check_setting : Array (Option Value)} {oc_check_setting kV_check_setting dc_check_setting pm_check_setting cd_check_setting ct_check_setting : Value}
    {f_check_count : Addr} {od_check_count an_check_count : Option Addr} {sl_check_count : Array (Option Value)} {oc_check_count kV_check_count dc_check_count pm_check_count cd_check_count ct_check_count : Value}
    {f_check_shaft : Addr} {od_check_shaft an_check_shaft : Option Addr} {sl_check_shaft : Array (Option Value)} {oc_check_shaft kV_check_shaft dc_check_shaft pm_check_shaft cd_check_shaft ct_check_shaft : Value}
    {f_check_tie : Addr} {od_check_tie an_check_tie : Option Addr} {sl_check_tie : Array (Option Value)} {oc_check_tie kV_check_tie dc_check_tie pm_check_tie cd_check_tie ct_check_tie : Value}
    {f_check_treading : Addr} {od_check_treading an_check_treading : Option Addr} {sl_check_treading : Array (Option Value)} {oc_check_treading kV_check_treading dc_check_treading pm_check_treading cd_check_treading ct_check_treading : Value}
    {f_law_numbers : Addr} {od_law_numbers an_law_numbers : Option Addr} {sl_law_numbers : Array (Option Value)} {oc_law_numbers kV_law_numbers dc_law_numbers pm_law_numbers cd_law_numbers ct_law_numbers : Value}
    {f_law_subset : Addr} {od_law_subset an_law_subset : Option Addr} {sl_law_subset : Array (Option Value)} {oc_law_subset kV_law_subset dc_law_subset pm_law_subset cd_law_subset ct_law_subset : Value}
    {f_law_draft_by : Addr} {od_law_draft_by an_law_draft_by : Option Addr} {sl_law_draft_by : Array (Option Value)} {oc_law_draft_by kV_law_draft_by dc_law_draft_by pm_law_draft_by cd_law_draft_by ct_law_draft_by : Value}
    {f_law_numbers_same : Addr} {od_law_numbers_same an_law_numbers_same : Option Addr} {sl_law_numbers_same : Array (Option Value)} {oc_law_numbers_same kV_law_numbers_same dc_law_numbers_same pm_law_numbers_same cd_law_numbers_same ct_law_numbers_same : Value}
    {f_law_draft_same : Addr} {od_law_draft_same an_law_draft_same : Option Addr} {sl_law_draft_same : Array (Option Value)} {oc_law_draft_same kV_law_draft_same dc_law_draft_same pm_law_draft_same cd_law_draft_same ct_law_draft_same : Value}
    {f_law_odd : Addr} {od_law_odd an_law_odd : Option Addr} {sl_law_odd : Array (Option Value)} {oc_law_odd kV_law_odd dc_law_odd pm_law_odd cd_law_odd ct_law_odd : Value}
    {f_law_of_length : Addr} {od_law_of_length an_law_of_length : Option Addr} {sl_law_of_length : Array (Option Value)} {oc_law_of_length kV_law_of_length dc_law_of_length pm_law_of_length cd_law_of_length ct_law_of_length : Value}
    {f_law_tie_changed : Addr} {od_law_tie_changed an_law_tie_changed : Option Addr} {sl_law_tie_changed : Array (Option Value)} {oc_law_tie_changed kV_law_tie_changed dc_law_tie_changed pm_law_tie_changed cd_law_tie_changed ct_law_tie_changed : Value}
    {f_law_changed : Addr} {od_law_changed an_law_changed : Option Addr} {sl_law_changed : Array (Option Value)} {oc_law_changed kV_law_changed dc_law_changed pm_law_changed cd_law_changed ct_law_changed : Value}
    {f_law_fits : Addr} {od_law_fits an_law_fits : Option Addr} {sl_law_fits : Array (Option Value)} {oc_law_fits kV_law_fits dc_law_fits pm_law_fits cd_law_fits ct_law_fits : Value}
    {f_law_caught : Addr} {od_law_caught an_law_caught : Option Addr} {sl_law_caught : Array (Option Value)} {oc_law_caught kV_law_caught dc_law_caught pm_law_caught cd_law_caught ct_law_caught : Value}
    {f_law_no_draft : Addr} {od_law_no_draft an_law_no_draft : Option Addr} {sl_law_no_draft : Array (Option Value)} {oc_law_no_draft kV_law_no_draft dc_law_no_draft pm_law_no_draft cd_law_no_draft ct_law_no_draft : Value}
    {f_law : Addr} {od_law an_law : Option Addr} {sl_law : Array (Option Value)} {oc_law kV_law dc_law pm_law cd_law ct_law : Value}
    {q_MOST_STRANDS : Tok}
    {q_MOST_SHAFTS : Tok}
    {e_WeaveError : Addr}
    {e_NoCloth : Addr}
    {e_NoDraft : Addr}
    {f_NoDraft_called : Addr} {od_NoDraft_called an_NoDraft_called : Option Addr} {sl_NoDraft_called : Array (Option Value)} {oc_NoDraft_called kV_NoDraft_called dc_NoDraft_called pm_NoDraft_called cd_NoDraft_called ct_NoDraft_called : Value}
    {e_Draft : Addr}
    {f_Draft___init__ : Addr} {od_Draft___init__ an_Draft___init__ : Option Addr} {sl_Draft___init__ : Array (Option Value)} {oc_Draft___init__ kV_Draft___init__ dc_Draft___init__ pm_Draft___init__ cd_Draft___init__ ct_Draft___init__ : Value}
    (X : K.In h) (G : h.Ns mainGlobals mg)
    (a_check_setting : PySem.W.nsIn K mainGlobals "check_setting" = some (some (.ref f_check_setting)))
    (l_check_setting : K.lookup f_check_setting = some ⟨oc_check_setting, od_check_setting, .func (PySem.W.fnOf "check_setting" "check_setting" (defArgs s_check_setting) (defBody s_check_setting) (defScope s_check_setting) .none kV_check_setting dc_check_setting pm_check_setting an_check_setting cd_check_setting ct_check_setting), sl_check_setting⟩)
    (c_check_setting : PySem.W.codeIn K cd_check_setting "check_setting" = true)
    (k_check_setting : PySem.W.keepIn K (.ref f_check_setting) = true)
    (a_check_count : PySem.W.nsIn K mainGlobals "check_count" = some (some (.ref f_check_count)))
    (l_check_count : K.lookup f_check_count = some ⟨oc_check_count, od_check_count, .func (PySem.W.fnOf "check_count" "check_count" (defArgs s_check_count) (defBody s_check_count) (defScope s_check_count) .none kV_check_count dc_check_count pm_check_count an_check_count cd_check_count ct_check_count), sl_check_count⟩)
    (c_check_count : PySem.W.codeIn K cd_check_count "check_count" = true)
    (k_check_count : PySem.W.keepIn K (.ref f_check_count) = true)
    (a_check_shaft : PySem.W.nsIn K mainGlobals "check_shaft" = some (some (.ref f_check_shaft)))
    (l_check_shaft : K.lookup f_check_shaft = some ⟨oc_check_shaft, od_check_shaft, .func (PySem.W.fnOf "check_shaft" "check_shaft" (defArgs s_check_shaft) (defBody s_check_shaft) (defScope s_check_shaft) .none kV_check_shaft dc_check_shaft pm_check_shaft an_check_shaft cd_check_shaft ct_check_shaft), sl_check_shaft⟩)
    (c_check_shaft : PySem.W.codeIn K cd_check_shaft "check_shaft" = true)
    (k_check_shaft : PySem.W.keepIn K (.ref f_check_shaft) = true)
    (a_check_tie : PySem.W.nsIn K mainGlobals "check_tie" = some (some (.ref f_check_tie)))
    (l_check_tie : K.lookup f_check_tie = some ⟨oc_check_tie, od_check_tie, .func (PySem.W.fnOf "check_tie" "check_tie" (defArgs s_check_tie) (defBody s_check_tie) (defScope s_check_tie) .none kV_check_tie dc_check_tie pm_check_tie an_check_tie cd_check_tie ct_check_tie), sl_check_tie⟩)
    (c_check_tie : PySem.W.codeIn K cd_check_tie "check_tie" = true)
    (k_check_tie : PySem.W.keepIn K (.ref f_check_tie) = true)
    (a_check_treading : PySem.W.nsIn K mainGlobals "check_treading" = some (some (.ref f_check_treading)))
    (l_check_treading : K.lookup f_check_treading = some ⟨oc_check_treading, od_check_treading, .func (PySem.W.fnOf "check_treading" "check_treading" (defArgs s_check_treading) (defBody s_check_treading) (defScope s_check_treading) .none kV_check_treading dc_check_treading pm_check_treading an_check_treading cd_check_treading ct_check_treading), sl_check_treading⟩)
    (c_check_treading : PySem.W.codeIn K cd_check_treading "check_treading" = true)
    (k_check_treading : PySem.W.keepIn K (.ref f_check_treading) = true)
    (a_law_numbers : PySem.W.nsIn K mainGlobals "_law_numbers" = some (some (.ref f_law_numbers)))
    (l_law_numbers : K.lookup f_law_numbers = some ⟨oc_law_numbers, od_law_numbers, .func (PySem.W.fnOf "_law_numbers" "_law_numbers" (defArgs s_law_numbers) (defBody s_law_numbers) (defScope s_law_numbers) .none kV_law_numbers dc_law_numbers pm_law_numbers an_law_numbers cd_law_numbers ct_law_numbers), sl_law_numbers⟩)
    (c_law_numbers : PySem.W.codeIn K cd_law_numbers "_law_numbers" = true)
    (k_law_numbers : PySem.W.keepIn K (.ref f_law_numbers) = true)
    (a_law_subset : PySem.W.nsIn K mainGlobals "_law_subset" = some (some (.ref f_law_subset)))
    (l_law_subset : K.lookup f_law_subset = some ⟨oc_law_subset, od_law_subset, .func (PySem.W.fnOf "_law_subset" "_law_subset" (defArgs s_law_subset) (defBody s_law_subset) (defScope s_law_subset) .none kV_law_subset dc_law_subset pm_law_subset an_law_subset cd_law_subset ct_law_subset), sl_law_subset⟩)
    (c_law_subset : PySem.W.codeIn K cd_law_subset "_law_subset" = true)
    (k_law_subset : PySem.W.keepIn K (.ref f_law_subset) = true)
    (a_law_draft_by : PySem.W.nsIn K mainGlobals "_law_draft_by" = some (some (.ref f_law_draft_by)))
    (l_law_draft_by : K.lookup f_law_draft_by = some ⟨oc_law_draft_by, od_law_draft_by, .func (PySem.W.fnOf "_law_draft_by" "_law_draft_by" (defArgs s_law_draft_by) (defBody s_law_draft_by) (defScope s_law_draft_by) .none kV_law_draft_by dc_law_draft_by pm_law_draft_by an_law_draft_by cd_law_draft_by ct_law_draft_by), sl_law_draft_by⟩)
    (c_law_draft_by : PySem.W.codeIn K cd_law_draft_by "_law_draft_by" = true)
    (k_law_draft_by : PySem.W.keepIn K (.ref f_law_draft_by) = true)
    (a_law_numbers_same : PySem.W.nsIn K mainGlobals "_law_numbers_same" = some (some (.ref f_law_numbers_same)))
    (l_law_numbers_same : K.lookup f_law_numbers_same = some ⟨oc_law_numbers_same, od_law_numbers_same, .func (PySem.W.fnOf "_law_numbers_same" "_law_numbers_same" (defArgs s_law_numbers_same) (defBody s_law_numbers_same) (defScope s_law_numbers_same) .none kV_law_numbers_same dc_law_numbers_same pm_law_numbers_same an_law_numbers_same cd_law_numbers_same ct_law_numbers_same), sl_law_numbers_same⟩)
    (c_law_numbers_same : PySem.W.codeIn K cd_law_numbers_same "_law_numbers_same" = true)
    (k_law_numbers_same : PySem.W.keepIn K (.ref f_law_numbers_same) = true)
    (a_law_draft_same : PySem.W.nsIn K mainGlobals "_law_draft_same" = some (some (.ref f_law_draft_same)))
    (l_law_draft_same : K.lookup f_law_draft_same = some ⟨oc_law_draft_same, od_law_draft_same, .func (PySem.W.fnOf "_law_draft_same" "_law_draft_same" (defArgs s_law_draft_same) (defBody s_law_draft_same) (defScope s_law_draft_same) .none kV_law_draft_same dc_law_draft_same pm_law_draft_same an_law_draft_same cd_law_draft_same ct_law_draft_same), sl_law_draft_same⟩)
    (c_law_draft_same : PySem.W.codeIn K cd_law_draft_same "_law_draft_same" = true)
    (k_law_draft_same : PySem.W.keepIn K (.ref f_law_draft_same) = true)
    (a_law_odd : PySem.W.nsIn K mainGlobals "_law_odd" = some (some (.ref f_law_odd)))
    (l_law_odd : K.lookup f_law_odd = some ⟨oc_law_odd, od_law_odd, .func (PySem.W.fnOf "_law_odd" "_law_odd" (defArgs s_law_odd) (defBody s_law_odd) (defScope s_law_odd) .none kV_law_odd dc_law_odd pm_law_odd an_law_odd cd_law_odd ct_law_odd), sl_law_odd⟩)
    (c_law_odd : PySem.W.codeIn K cd_law_odd "_law_odd" = true)
    (k_law_odd : PySem.W.keepIn K (.ref f_law_odd) = true)
    (a_law_of_length : PySem.W.nsIn K mainGlobals "_law_of_length" = some (some (.ref f_law_of_length)))
    (l_law_of_length : K.lookup f_law_of_length = some ⟨oc_law_of_length, od_law_of_length, .func (PySem.W.fnOf "_law_of_length" "_law_of_length" (defArgs s_law_of_length) (defBody s_law_of_length) (defScope s_law_of_length) .none kV_law_of_length dc_law_of_length pm_law_of_length an_law_of_length cd_law_of_length ct_law_of_length), sl_law_of_length⟩)
    (c_law_of_length : PySem.W.codeIn K cd_law_of_length "_law_of_length" = true)
    (k_law_of_length : PySem.W.keepIn K (.ref f_law_of_length) = true)
    (a_law_tie_changed : PySem.W.nsIn K mainGlobals "_law_tie_changed" = some (some (.ref f_law_tie_changed)))
    (l_law_tie_changed : K.lookup f_law_tie_changed = some ⟨oc_law_tie_changed, od_law_tie_changed, .func (PySem.W.fnOf "_law_tie_changed" "_law_tie_changed" (defArgs s_law_tie_changed) (defBody s_law_tie_changed) (defScope s_law_tie_changed) .none kV_law_tie_changed dc_law_tie_changed pm_law_tie_changed an_law_tie_changed cd_law_tie_changed ct_law_tie_changed), sl_law_tie_changed⟩)
    (c_law_tie_changed : PySem.W.codeIn K cd_law_tie_changed "_law_tie_changed" = true)
    (k_law_tie_changed : PySem.W.keepIn K (.ref f_law_tie_changed) = true)
    (a_law_changed : PySem.W.nsIn K mainGlobals "_law_changed" = some (some (.ref f_law_changed)))
    (l_law_changed : K.lookup f_law_changed = some ⟨oc_law_changed, od_law_changed, .func (PySem.W.fnOf "_law_changed" "_law_changed" (defArgs s_law_changed) (defBody s_law_changed) (defScope s_law_changed) .none kV_law_changed dc_law_changed pm_law_changed an_law_changed cd_law_changed ct_law_changed), sl_law_changed⟩)
    (c_law_changed : PySem.W.codeIn K cd_law_changed "_law_changed" = true)
    (k_law_changed : PySem.W.keepIn K (.ref f_law_changed) = true)
    (a_law_fits : PySem.W.nsIn K mainGlobals "_law_fits" = some (some (.ref f_law_fits)))
    (l_law_fits : K.lookup f_law_fits = some ⟨oc_law_fits, od_law_fits, .func (PySem.W.fnOf "_law_fits" "_law_fits" (defArgs s_law_fits) (defBody s_law_fits) (defScope s_law_fits) .none kV_law_fits dc_law_fits pm_law_fits an_law_fits cd_law_fits ct_law_fits), sl_law_fits⟩)
    (c_law_fits : PySem.W.codeIn K cd_law_fits "_law_fits" = true)
    (k_law_fits : PySem.W.keepIn K (.ref f_law_fits) = true)
    (a_law_caught : PySem.W.nsIn K mainGlobals "_law_caught" = some (some (.ref f_law_caught)))
    (l_law_caught : K.lookup f_law_caught = some ⟨oc_law_caught, od_law_caught, .func (PySem.W.fnOf "_law_caught" "_law_caught" (defArgs s_law_caught) (defBody s_law_caught) (defScope s_law_caught) .none kV_law_caught dc_law_caught pm_law_caught an_law_caught cd_law_caught ct_law_caught), sl_law_caught⟩)
    (c_law_caught : PySem.W.codeIn K cd_law_caught "_law_caught" = true)
    (k_law_caught : PySem.W.keepIn K (.ref f_law_caught) = true)
    (a_law_no_draft : PySem.W.nsIn K mainGlobals "_law_no_draft" = some (some (.ref f_law_no_draft)))
    (l_law_no_draft : K.lookup f_law_no_draft = some ⟨oc_law_no_draft, od_law_no_draft, .func (PySem.W.fnOf "_law_no_draft" "_law_no_draft" (defArgs s_law_no_draft) (defBody s_law_no_draft) (defScope s_law_no_draft) .none kV_law_no_draft dc_law_no_draft pm_law_no_draft an_law_no_draft cd_law_no_draft ct_law_no_draft), sl_law_no_draft⟩)
    (c_law_no_draft : PySem.W.codeIn K cd_law_no_draft "_law_no_draft" = true)
    (k_law_no_draft : PySem.W.keepIn K (.ref f_law_no_draft) = true)
    (a_law : PySem.W.nsIn K mainGlobals "law" = some (some (.ref f_law)))
    (l_law : K.lookup f_law = some ⟨oc_law, od_law, .func (PySem.W.fnOf "law" "law" (defArgs s_law) (defBody s_law) (defScope s_law) .none kV_law dc_law pm_law an_law cd_law ct_law), sl_law⟩)
    (c_law : PySem.W.codeIn K cd_law "law" = true)
    (k_law : PySem.W.keepIn K (.ref f_law) = true)
    (z_ValueError : PySem.W.nsIn K mainGlobals "ValueError" = some none)
    (z_bool : PySem.W.nsIn K mainGlobals "bool" = some none)
    (z_int : PySem.W.nsIn K mainGlobals "int" = some none)
    (z_isinstance : PySem.W.nsIn K mainGlobals "isinstance" = some none)
    (z_len : PySem.W.nsIn K mainGlobals "len" = some none)
    (z_list : PySem.W.nsIn K mainGlobals "list" = some none)
    (z_range : PySem.W.nsIn K mainGlobals "range" = some none)
    (x_MOST_STRANDS : PySem.W.nsIn K mainGlobals "MOST_STRANDS" = some (some (.int 40 q_MOST_STRANDS)))
    (x_MOST_SHAFTS : PySem.W.nsIn K mainGlobals "MOST_SHAFTS" = some (some (.int 40 q_MOST_SHAFTS)))
    (n_WeaveError : PySem.W.nsIn K mainGlobals "WeaveError" = some (some (.ref e_WeaveError)))
    (n_NoCloth : PySem.W.nsIn K mainGlobals "NoCloth" = some (some (.ref e_NoCloth)))
    (n_NoDraft : PySem.W.nsIn K mainGlobals "NoDraft" = some (some (.ref e_NoDraft)))
    (y1_WeaveError : PySem.W.excIn K e_WeaveError vE vN = true)
    (y2_WeaveError : PySem.W.findIn K (.ref e_WeaveError) "__getattribute__" = some (some (.builtin "BaseException.__getattribute__")))
    (y3_WeaveError : PySem.W.findIn K (.ref e_WeaveError) "__getattr__" = some none)
    (y4_WeaveError : PySem.W.findIn K (.ref e_WeaveError) "__class__" = some (some (.builtin "object.__class__")))
    (y5_WeaveError : PySem.W.specialIn K (.builtin "object.__class__") "__get__" = some (some (.builtin "getset_descriptor.__get__")))
    (y6_WeaveError : PySem.W.takesIn K (.builtin "object.__class__") = some true)
    (y7_WeaveError : PySem.W.mroIn K e_WeaveError (.type "object") = some true)
    (y8_WeaveError : PySem.W.mroIn K e_WeaveError (.type "BaseException") = some true)
    (y9_WeaveError : PySem.W.isClsIn K e_WeaveError = true)
    (y10_WeaveError : PySem.W.typeIn K (.ref e_WeaveError) = some (.type "type"))
    (y11_WeaveError : PySem.W.mroIn K e_WeaveError (.type "ValueError") = some true)
    (y9_NoCloth : PySem.W.isClsIn K e_NoCloth = true)
    (y10_NoCloth : PySem.W.typeIn K (.ref e_NoCloth) = some (.type "type"))
    (y1_NoDraft : PySem.W.excIn K e_NoDraft vE vN = true)
    (y2_NoDraft : PySem.W.findIn K (.ref e_NoDraft) "__getattribute__" = some (some (.builtin "BaseException.__getattribute__")))
    (y3_NoDraft : PySem.W.findIn K (.ref e_NoDraft) "__getattr__" = some none)
    (y4_NoDraft : PySem.W.findIn K (.ref e_NoDraft) "__class__" = some (some (.builtin "object.__class__")))
    (y7_NoDraft : PySem.W.mroIn K e_NoDraft (.type "object") = some true)
    (y8_NoDraft : PySem.W.mroIn K e_NoDraft (.type "BaseException") = some true)
    (y9_NoDraft : PySem.W.isClsIn K e_NoDraft = true)
    (y10_NoDraft : PySem.W.typeIn K (.ref e_NoDraft) = some (.type "type"))
    (y11_NoDraft : PySem.W.mroIn K e_NoDraft (.type "ValueError") = some true)
    (r_NoDraft_WeaveError : PySem.W.mroIn K e_NoDraft (.ref e_WeaveError) = some true)
    (r_NoDraft_NoCloth : PySem.W.mroIn K e_NoDraft (.ref e_NoCloth) = some false)
    (r_NoDraft_NoDraft : PySem.W.mroIn K e_NoDraft (.ref e_NoDraft) = some true)
    (fm_NoDraft : PySem.W.findIn K (.ref e_NoDraft) "called" = some (some (.ref f_NoDraft_called)))
    (gm_NoDraft : PySem.W.isFn K (.ref f_NoDraft_called) = true)
    (lm_NoDraft : K.lookup f_NoDraft_called = some ⟨oc_NoDraft_called, od_NoDraft_called, .func (PySem.W.fnOf "called" "NoDraft.called" (defArgs s_NoDraft_called) (defBody s_NoDraft_called) (defScope s_NoDraft_called) .none kV_NoDraft_called dc_NoDraft_called pm_NoDraft_called an_NoDraft_called cd_NoDraft_called ct_NoDraft_called), sl_NoDraft_called⟩)
    (cm_NoDraft : PySem.W.codeIn K cd_NoDraft_called "NoDraft.called" = true)
    (km_NoDraft : PySem.W.keepIn K (.ref f_NoDraft_called) = true)
    (n_Draft : PySem.W.nsIn K mainGlobals "Draft" = some (some (.ref e_Draft)))
    (fm_Draft___init__ : PySem.W.findIn K (.ref e_Draft) "__init__" = some (some (.ref f_Draft___init__)))
    (gm_Draft___init__ : PySem.W.isFn K (.ref f_Draft___init__) = true)
    (lm_Draft___init__ : K.lookup f_Draft___init__ = some ⟨oc_Draft___init__, od_Draft___init__, .func (PySem.W.fnOf "__init__" "Draft.__init__" (defArgs s_Draft___init__) (defBody s_Draft___init__) (defScope s_Draft___init__) .none kV_Draft___init__ dc_Draft___init__ pm_Draft___init__ an_Draft___init__ cd_Draft___init__ ct_Draft___init__), sl_Draft___init__⟩)
    (cm_Draft___init__ : PySem.W.codeIn K cd_Draft___init__ "Draft.__init__" = true)
    (km_Draft___init__ : PySem.W.keepIn K (.ref f_Draft___init__) = true)
    (o1_Draft : PySem.W.plainGet K e_Draft Str.empty = true)
    (o2_Draft : PySem.W.hasDictIn K e_Draft = true)
    (o3_Draft : PySem.W.plainOver K e_Draft = true)
    (o4_Draft : PySem.W.findIn K (.ref e_Draft) "__setattr__" = some (some (.builtin "object.__setattr__")))
    (o5_Draft : PySem.W.makesIn K e_Draft = true)
    (o8_Draft : PySem.W.keepIn K (.ref e_Draft) = true)
    (na_Draft_threading : PySem.W.findIn K (.ref e_Draft) "threading" = some none)
    (na_Draft_ties : PySem.W.findIn K (.ref e_Draft) "ties" = some none)
    (na_Draft_treading : PySem.W.findIn K (.ref e_Draft) "treading" = some none) :
    Txt K mg ⟨e_Draft, f_Draft___init__, PySem.W.fnOf "__init__" "Draft.__init__" (defArgs s_Draft___init__) (defBody s_Draft___init__) (defScope s_Draft___init__) .none kV_Draft___init__ dc_Draft___init__ pm_Draft___init__ an_Draft___init__ cd_Draft___init__ ct_Draft___init__, f_check_setting, PySem.W.fnOf "check_setting" "check_setting" (defArgs s_check_setting) (defBody s_check_setting) (defScope s_check_setting) .none kV_check_setting dc_check_setting pm_check_setting an_check_setting cd_check_setting ct_check_setting, f_check_count, PySem.W.fnOf "check_count" "check_count" (defArgs s_check_count) (defBody s_check_count) (defScope s_check_count) .none kV_check_count dc_check_count pm_check_count an_check_count cd_check_count ct_check_count, f_check_shaft, PySem.W.fnOf "check_shaft" "check_shaft" (defArgs s_check_shaft) (defBody s_check_shaft) (defScope s_check_shaft) .none kV_check_shaft dc_check_shaft pm_check_shaft an_check_shaft cd_check_shaft ct_check_shaft, f_check_tie, PySem.W.fnOf "check_tie" "check_tie" (defArgs s_check_tie) (defBody s_check_tie) (defScope s_check_tie) .none kV_check_tie dc_check_tie pm_check_tie an_check_tie cd_check_tie ct_check_tie, f_check_treading, PySem.W.fnOf "check_treading" "check_treading" (defArgs s_check_treading) (defBody s_check_treading) (defScope s_check_treading) .none kV_check_treading dc_check_treading pm_check_treading an_check_treading cd_check_treading ct_check_treading, f_law_numbers, PySem.W.fnOf "_law_numbers" "_law_numbers" (defArgs s_law_numbers) (defBody s_law_numbers) (defScope s_law_numbers) .none kV_law_numbers dc_law_numbers pm_law_numbers an_law_numbers cd_law_numbers ct_law_numbers, f_law_subset, PySem.W.fnOf "_law_subset" "_law_subset" (defArgs s_law_subset) (defBody s_law_subset) (defScope s_law_subset) .none kV_law_subset dc_law_subset pm_law_subset an_law_subset cd_law_subset ct_law_subset, f_law_draft_by, PySem.W.fnOf "_law_draft_by" "_law_draft_by" (defArgs s_law_draft_by) (defBody s_law_draft_by) (defScope s_law_draft_by) .none kV_law_draft_by dc_law_draft_by pm_law_draft_by an_law_draft_by cd_law_draft_by ct_law_draft_by, f_law_numbers_same, PySem.W.fnOf "_law_numbers_same" "_law_numbers_same" (defArgs s_law_numbers_same) (defBody s_law_numbers_same) (defScope s_law_numbers_same) .none kV_law_numbers_same dc_law_numbers_same pm_law_numbers_same an_law_numbers_same cd_law_numbers_same ct_law_numbers_same, f_law_draft_same, PySem.W.fnOf "_law_draft_same" "_law_draft_same" (defArgs s_law_draft_same) (defBody s_law_draft_same) (defScope s_law_draft_same) .none kV_law_draft_same dc_law_draft_same pm_law_draft_same an_law_draft_same cd_law_draft_same ct_law_draft_same, f_law_odd, PySem.W.fnOf "_law_odd" "_law_odd" (defArgs s_law_odd) (defBody s_law_odd) (defScope s_law_odd) .none kV_law_odd dc_law_odd pm_law_odd an_law_odd cd_law_odd ct_law_odd, f_law_of_length, PySem.W.fnOf "_law_of_length" "_law_of_length" (defArgs s_law_of_length) (defBody s_law_of_length) (defScope s_law_of_length) .none kV_law_of_length dc_law_of_length pm_law_of_length an_law_of_length cd_law_of_length ct_law_of_length, f_law_tie_changed, PySem.W.fnOf "_law_tie_changed" "_law_tie_changed" (defArgs s_law_tie_changed) (defBody s_law_tie_changed) (defScope s_law_tie_changed) .none kV_law_tie_changed dc_law_tie_changed pm_law_tie_changed an_law_tie_changed cd_law_tie_changed ct_law_tie_changed, f_law_changed, PySem.W.fnOf "_law_changed" "_law_changed" (defArgs s_law_changed) (defBody s_law_changed) (defScope s_law_changed) .none kV_law_changed dc_law_changed pm_law_changed an_law_changed cd_law_changed ct_law_changed, f_law_fits, PySem.W.fnOf "_law_fits" "_law_fits" (defArgs s_law_fits) (defBody s_law_fits) (defScope s_law_fits) .none kV_law_fits dc_law_fits pm_law_fits an_law_fits cd_law_fits ct_law_fits, f_law_caught, PySem.W.fnOf "_law_caught" "_law_caught" (defArgs s_law_caught) (defBody s_law_caught) (defScope s_law_caught) .none kV_law_caught dc_law_caught pm_law_caught an_law_caught cd_law_caught ct_law_caught, f_law_no_draft, PySem.W.fnOf "_law_no_draft" "_law_no_draft" (defArgs s_law_no_draft) (defBody s_law_no_draft) (defScope s_law_no_draft) .none kV_law_no_draft dc_law_no_draft pm_law_no_draft an_law_no_draft cd_law_no_draft ct_law_no_draft, f_law, PySem.W.fnOf "law" "law" (defArgs s_law) (defBody s_law) (defScope s_law) .none kV_law dc_law pm_law an_law cd_law ct_law, e_WeaveError, e_NoCloth, e_NoDraft, f_NoDraft_called, PySem.W.fnOf "called" "NoDraft.called" (defArgs s_NoDraft_called) (defBody s_NoDraft_called) (defScope s_NoDraft_called) .none kV_NoDraft_called dc_NoDraft_called pm_NoDraft_called an_NoDraft_called cd_NoDraft_called ct_NoDraft_called⟩ :=
  ⟨⟨fun_mk (st := s_check_setting) l_check_setting c_check_setting k_check_setting, PySem.W.mg_of X G a_check_setting, (fun_mk (st := s_check_setting) l_check_setting c_check_setting k_check_setting).binds (ps := ["threading", "ties"]) fun _ _ _ _ _ _ us hl => match us, hl with | [_, _], _ => rfl⟩,
   ⟨fun_mk (st := s_check_count) l_check_count c_check_count k_check_count, PySem.W.mg_of X G a_check_count, (fun_mk (st := s_check_count) l_check_count c_check_count k_check_count).binds (ps := ["count"]) fun _ _ _ _ _ _ us hl => match us, hl with | [_], _ => rfl⟩,
   ⟨fun_mk (st := s_check_shaft) l_check_shaft c_check_shaft k_check_shaft, PySem.W.mg_of X G a_check_shaft, (fun_mk (st := s_check_shaft) l_check_shaft c_check_shaft k_check_shaft).binds (ps := ["shaft"]) fun _ _ _ _ _ _ us hl => match us, hl with | [_], _ => rfl⟩,
   ⟨fun_mk (st := s_check_tie) l_check_tie c_check_tie k_check_tie, PySem.W.mg_of X G a_check_tie, (fun_mk (st := s_check_tie) l_check_tie c_check_tie k_check_tie).binds (ps := ["tie"]) fun _ _ _ _ _ _ us hl => match us, hl with | [_], _ => rfl⟩,
   ⟨fun_mk (st := s_check_treading) l_check_treading c_check_treading k_check_treading, PySem.W.mg_of X G a_check_treading, (fun_mk (st := s_check_treading) l_check_treading c_check_treading k_check_treading).binds (ps := ["treading", "treadles"]) fun _ _ _ _ _ _ us hl => match us, hl with | [_, _], _ => rfl⟩,
   ⟨fun_mk (st := s_law_numbers) l_law_numbers c_law_numbers k_law_numbers, PySem.W.mg_of X G a_law_numbers, (fun_mk (st := s_law_numbers) l_law_numbers c_law_numbers k_law_numbers).binds (ps := ["script", "many"]) fun _ _ _ _ _ _ us hl => match us, hl with | [_, _], _ => rfl⟩,
   ⟨fun_mk (st := s_law_subset) l_law_subset c_law_subset k_law_subset, PySem.W.mg_of X G a_law_subset, (fun_mk (st := s_law_subset) l_law_subset c_law_subset k_law_subset).binds (ps := ["number"]) fun _ _ _ _ _ _ us hl => match us, hl with | [_], _ => rfl⟩,
   ⟨fun_mk (st := s_law_draft_by) l_law_draft_by c_law_draft_by k_law_draft_by, PySem.W.mg_of X G a_law_draft_by, (fun_mk (st := s_law_draft_by) l_law_draft_by c_law_draft_by k_law_draft_by).binds (ps := ["numbers"]) fun _ _ _ _ _ _ us hl => match us, hl with | [_], _ => rfl⟩,
   ⟨fun_mk (st := s_law_numbers_same) l_law_numbers_same c_law_numbers_same k_law_numbers_same, PySem.W.mg_of X G a_law_numbers_same, (fun_mk (st := s_law_numbers_same) l_law_numbers_same c_law_numbers_same k_law_numbers_same).binds (ps := ["found", "due"]) fun _ _ _ _ _ _ us hl => match us, hl with | [_, _], _ => rfl⟩,
   ⟨fun_mk (st := s_law_draft_same) l_law_draft_same c_law_draft_same k_law_draft_same, PySem.W.mg_of X G a_law_draft_same, (fun_mk (st := s_law_draft_same) l_law_draft_same c_law_draft_same k_law_draft_same).binds (ps := ["draft", "threading", "ties", "treading"]) fun _ _ _ _ _ _ us hl => match us, hl with | [_, _, _, _], _ => rfl⟩,
   ⟨fun_mk (st := s_law_odd) l_law_odd c_law_odd k_law_odd, PySem.W.mg_of X G a_law_odd, (fun_mk (st := s_law_odd) l_law_odd c_law_odd k_law_odd).binds (ps := ["number"]) fun _ _ _ _ _ _ us hl => match us, hl with | [_], _ => rfl⟩,
   ⟨fun_mk (st := s_law_of_length) l_law_of_length c_law_of_length k_law_of_length, PySem.W.mg_of X G a_law_of_length, (fun_mk (st := s_law_of_length) l_law_of_length c_law_of_length k_law_of_length).binds (ps := ["part", "length"]) fun _ _ _ _ _ _ us hl => match us, hl with | [_, _], _ => rfl⟩,
   ⟨fun_mk (st := s_law_tie_changed) l_law_tie_changed c_law_tie_changed k_law_tie_changed, PySem.W.mg_of X G a_law_tie_changed, (fun_mk (st := s_law_tie_changed) l_law_tie_changed c_law_tie_changed k_law_tie_changed).binds (ps := ["tie", "way", "number"]) fun _ _ _ _ _ _ us hl => match us, hl with | [_, _, _], _ => rfl⟩,
   ⟨fun_mk (st := s_law_changed) l_law_changed c_law_changed k_law_changed, PySem.W.mg_of X G a_law_changed, (fun_mk (st := s_law_changed) l_law_changed c_law_changed k_law_changed).binds (ps := ["lists", "way", "number"]) fun _ _ _ _ _ _ us hl => match us, hl with | [_, _, _], _ => rfl⟩,
   ⟨fun_mk (st := s_law_fits) l_law_fits c_law_fits k_law_fits, PySem.W.mg_of X G a_law_fits, (fun_mk (st := s_law_fits) l_law_fits c_law_fits k_law_fits).binds (ps := ["lists"]) fun _ _ _ _ _ _ us hl => match us, hl with | [_], _ => rfl⟩,
   ⟨fun_mk (st := s_law_caught) l_law_caught c_law_caught k_law_caught, PySem.W.mg_of X G a_law_caught, (fun_mk (st := s_law_caught) l_law_caught c_law_caught k_law_caught).binds (ps := ["lists"]) fun _ _ _ _ _ _ us hl => match us, hl with | [_], _ => rfl⟩,
   ⟨fun_mk (st := s_law_no_draft) l_law_no_draft c_law_no_draft k_law_no_draft, PySem.W.mg_of X G a_law_no_draft, (fun_mk (st := s_law_no_draft) l_law_no_draft c_law_no_draft k_law_no_draft).binds (ps := ["caught"]) fun _ _ _ _ _ _ us hl => match us, hl with | [_], _ => rfl⟩,
   ⟨fun_mk (st := s_law) l_law c_law k_law, PySem.W.mg_of X G a_law, (fun_mk (st := s_law) l_law c_law k_law).binds (ps := ["script"]) fun _ _ _ _ _ _ us hl => match us, hl with | [_], _ => rfl⟩,
   PySem.W.mg_none_of X G z_ValueError,
   PySem.W.mg_none_of X G z_bool,
   PySem.W.mg_none_of X G z_int,
   PySem.W.mg_none_of X G z_isinstance,
   PySem.W.mg_none_of X G z_len,
   PySem.W.mg_none_of X G z_list,
   PySem.W.mg_none_of X G z_range,
   ⟨_, PySem.W.mg_of X G x_MOST_STRANDS⟩,
   ⟨_, PySem.W.mg_of X G x_MOST_SHAFTS⟩,
   PySem.W.mg_of X G n_WeaveError,
   exn_mk y1_WeaveError y2_WeaveError y3_WeaveError y4_WeaveError y5_WeaveError y6_WeaveError y7_WeaveError y8_WeaveError y9_WeaveError y10_WeaveError y11_WeaveError,
   PySem.W.mg_of X G n_NoCloth,
   y9_NoCloth,
   y10_NoCloth,
   PySem.W.mg_of X G n_NoDraft,
   exn_mk y1_NoDraft y2_NoDraft y3_NoDraft y4_NoDraft y5_WeaveError y6_WeaveError y7_NoDraft y8_NoDraft y9_NoDraft y10_NoDraft y11_NoDraft,
   ⟨fun_mk (st := s_NoDraft_called) lm_NoDraft cm_NoDraft km_NoDraft, ⟨fm_NoDraft, gm_NoDraft, km_NoDraft⟩, (fun_mk (st := s_NoDraft_called) lm_NoDraft cm_NoDraft km_NoDraft).binds (ps := ["self"]) fun _ _ _ _ _ _ us hl => match us, hl with | [_], _ => rfl⟩,
   r_NoDraft_WeaveError,
   r_NoDraft_NoCloth,
   r_NoDraft_NoDraft,
   PySem.W.mg_of X G n_Draft,
   own_mk o1_Draft o2_Draft o3_Draft o4_Draft o5_Draft fm_Draft___init__ gm_Draft___init__ o8_Draft,
   na_Draft_threading,
   na_Draft_ties,
   na_Draft_treading,
   ⟨fun_mk (st := s_Draft___init__) lm_Draft___init__ cm_Draft___init__ km_Draft___init__, ⟨fm_Draft___init__, gm_Draft___init__, km_Draft___init__⟩, (fun_mk (st := s_Draft___init__) lm_Draft___init__ cm_Draft___init__ km_Draft___init__).binds (ps := ["self", "threading", "ties", "treading"]) fun _ _ _ _ _ _ us hl => match us, hl with | [_, _, _, _], _ => rfl⟩⟩
section
variable {P : Program} {w : World} {K : PySem.W.Frag} {mg : Str → Option Value} {base : Heap} {t : Adr}
def sp_called (z : Str) : Sp := fun vs H Q _ => ∃ v, vs = [v] ∧ Q (.str z) H
theorem ok_NoDraft_called (T : Txt K mg t) : FnOk P w K mg base CX0 1 t.f_NoDraft_called t.d_NoDraft_called ["self"] (sp_called "NoDraft") :=
  T.m_NoDraft.F.ok sc_NoDraft_called (fun vs H Q E h => by obtain ⟨v, rfl, _⟩ := h; rfl) fun cdv A outer s H vs Q E hr h => by
    obtain ⟨v, rfl, k⟩ := h
    exact ⟨_, pss_one (ps_ret pe_str), k⟩
end
section
variable {P : Program} {w : World} {K : PySem.W.Frag} {mg : Str → Option Value} {base : Heap} {t : Adr}
theorem z0 (i : Nat) : (0 + (i : Int)).toNat = i := by omega
theorem kit_same (K : PySem.W.Frag) (n : String) : PySem.W.kitOne K (.type n) (.type n) = some true := if_pos (beq_self_eq_true _)
/-- a list of lists of numbers -/
structure NL (H : Hp) (y : Addr) (rs : List Addr) (tss : List (List Int)) : Prop where
  h : H y = some (.lst (rs.map V.ref))
  l : rs.length = tss.length
  r : ∀ (i : Nat) (a : Addr) (ks : List Int), rs[i]? = some a → tss[i]? = some ks → H a = some (.lst (vI ks))
theorem NL.same {H H' : Hp} {y : Addr} {rs : List Addr} {tss : List (List Int)} (N : NL H y rs tss) (s : Same H H') : NL H' y rs tss := ⟨s _ _ N.h, N.l, fun i a ks h1 h2 => s _ _ (N.r i a ks h1 h2)⟩
theorem NL.at {H : Hp} {y : Addr} {rs : List Addr} {tss : List (List Int)} (N : NL H y rs tss) {i : Nat} {a : V} (h : (rs.map V.ref)[i]? = some a) : ∃ r ks, a = .ref r ∧ rs[i]? = some r ∧ tss[i]? = some ks ∧ H r = some (.lst (vI ks)) := by
  rw [List.getElem?_map] at h
  cases e : rs[i]? with
  | none => rw [e] at h; cases h
  | some r =>
    rw [e] at h
    cases h
    have hi : i < tss.length := by rw [← N.l]; exact (List.getElem?_eq_some_iff.mp e).1
    exact ⟨r, tss[i], rfl, rfl, List.getElem?_eq_getElem hi, N.r i r _ e (List.getElem?_eq_getElem hi)⟩
theorem rs_short {ks : List Int} (R : Rs ks) : ks.length ≤ 1000 := by
  have step : ∀ (i : Nat) (a : Int), ks[i]? = some a → (i : Int) ≤ a := by
    intro i
    induction i with
    | zero => exact fun a h => (R.2 a (List.mem_of_getElem? h)).1
    | succ i ih =>
      intro a h
      have hi : i < ks.length := by have := (List.getElem?_eq_some_iff.mp h).1; omega
      have := ih ks[i] (List.getElem?_eq_getElem hi)
      have := R.1 i ks[i] a (List.getElem?_eq_getElem hi) h
      omega
  by_cases h : ks.length = 0
  · omega
  · have hi : ks.length - 1 < ks.length := by omega
    have h1 := step (ks.length - 1) _ (List.getElem?_eq_getElem hi)
    have h2 := R.2 _ (List.getElem_mem hi)
    omega
def CtOk (c : Nat) : Prop := 1 ≤ c ∧ c ≤ 40
def SetOk (th : List Int) (tss : List (List Int)) : Prop := CtOk th.length ∧ CtOk tss.length ∧ (∀ v ∈ th, 0 ≤ v ∧ v < 40) ∧ ∀ ks ∈ tss, Rs ks
def TrOk (tr : List Int) (n : Nat) : Prop := CtOk tr.length ∧ ∀ v ∈ tr, 0 ≤ v ∧ v < (n : Int)
def Bd3 (th : List Int) (tss : List (List Int)) (tr : List Int) : Prop := th.length ≤ 1000 ∧ tss.length ≤ 1000 ∧ tr.length ≤ 1000 ∧ ∀ ks ∈ tss, ks.length ≤ 2000
theorem Ft.set {th : List Int} {tss : List (List Int)} {tr : List Int} (F : Ft th tss tr) : SetOk th tss := ⟨⟨F.m1, F.m40⟩, ⟨F.t1, F.t40⟩, F.hth, F.hti⟩
theorem Ft.trd {th : List Int} {tss : List (List Int)} {tr : List Int} (F : Ft th tss tr) : TrOk tr tss.length := ⟨⟨F.n1, F.n40⟩, F.htr⟩
theorem ft_of {th : List Int} {tss : List (List Int)} {tr : List Int} (h : SetOk th tss) (g : TrOk tr tss.length) : Ft th tss tr := ⟨h.1.1, h.1.2, h.2.1.1, h.2.1.2, g.1.1, g.1.2, h.2.2.1, h.2.2.2, g.2⟩
def sp_xcount (t : Adr) : Sp := fun vs H Q E => ∃ c : Nat, vs = [.int (c : Int)] ∧ (CtOk c → Q .non H) ∧ (¬ CtOk c → E (.ref t.e_NoDraft) none H)
theorem okx_check_count (T : Txt K mg t) : FnOk P w K mg base (CX1 P w) 1 t.f_check_count t.d_check_count ["count"] (sp_xcount t) := by
  refine T.check_count.F.okX sc_check_count (fun vs H Q E h => ?_) (fun cdv A outer s H vs Q E hr h => ?_)
  · obtain ⟨c, rfl, _⟩ := h
    rfl
  · obtain ⟨c, rfl, k1, k2⟩ := h
    refine ⟨_, (pss_one (ps_if (PW.pt (pw_or (pt_cmpR op_lt (pv 0) pe_int (nomark _)) (pw_or1 (pt_cmpR op_gt (pv 0) (pe_glob (v := .int 40) rfl T.c_MOST_STRANDS.choose_spec ⟨_, rfl⟩) (nomark _)))))
        (pss_one (ps_raise body1 rfl (fun _ _ z => z) PySem.F.excBase_ValueError has_ve PySem.F.excBase_ValueError T.x_NoDraft.q rfl T.k_NoDraft (pa_cons pe_str pa_nil)))
        pss_nil)), ?_⟩
    refine ⟨_, rfl, _, _, rfl, rfl, _, rfl, ?_⟩
    refine ite2D (fun h => iteT ⟨by decide, k2 fun z => ?_⟩) (fun g1 => ?_)
    · have := z.1; omega
    refine ⟨_, rfl, _, _, rfl, rfl, _, rfl, ?_⟩
    refine ite2D (fun h => ⟨by decide, k2 fun z => ?_⟩) (fun g2 => k1 ⟨by omega, by omega⟩)
    have := z.2
    omega
def sp_xshaft (t : Adr) : Sp := fun vs H Q E => ∃ v : Int, vs = [.int v] ∧ (0 ≤ v ∧ v < 40 → Q .non H) ∧ (¬ (0 ≤ v ∧ v < 40) → E (.ref t.e_NoDraft) none H)
theorem okx_check_shaft (T : Txt K mg t) : FnOk P w K mg base (CX1 P w) 1 t.f_check_shaft t.d_check_shaft ["shaft"] (sp_xshaft t) := by
  refine T.check_shaft.F.okX sc_check_shaft (fun vs H Q E h => ?_) (fun cdv A outer s H vs Q E hr h => ?_)
  · obtain ⟨v, rfl, _⟩ := h
    rfl
  · obtain ⟨v, rfl, k1, k2⟩ := h
    refine ⟨_, (pss_one (ps_if (PW.pt (pw_or (pt_cmpR op_lt (pv 0) pe_int (nomark _)) (pw_or1 (pt_cmpR op_ge (pv 0) (pe_glob (v := .int 40) rfl T.c_MOST_SHAFTS.choose_spec ⟨_, rfl⟩) (nomark _)))))
        (pss_one (ps_raise body1 rfl (fun _ _ z => z) PySem.F.excBase_ValueError has_ve PySem.F.excBase_ValueError T.x_NoDraft.q rfl T.k_NoDraft (pa_cons pe_str pa_nil)))
        pss_nil)), ?_⟩
    refine ⟨_, rfl, _, _, rfl, rfl, _, rfl, ?_⟩
    refine ite2D (fun h => iteT ⟨by decide, k2 fun z => ?_⟩) (fun g1 => ?_)
    · omega
    refine ⟨_, rfl, _, _, rfl, rfl, _, rfl, ?_⟩
    refine ite2D (fun h => ⟨by decide, k2 fun z => ?_⟩) (fun g2 => k1 ⟨by omega, by omega⟩)
    omega
/-- rising so far -/
def RsI (ks : List Int) (i : Nat) : Prop := (∀ (j : Nat) (a : Int), j < i → ks[j]? = some a → 0 ≤ a ∧ a < 40) ∧ ∀ (j : Nat) (a b : Int), j + 1 < i → ks[j]? = some a → ks[j + 1]? = some b → a < b
theorem RsI.all {ks : List Int} (h : RsI ks ks.length) : Rs ks := ⟨fun i a b ha hb => h.2 i a b (List.getElem?_eq_some_iff.mp hb).1 ha hb, fun k hk => by
  obtain ⟨j, hj, e⟩ := List.getElem_of_mem hk
  exact h.1 j k hj (by rw [← e]; exact List.getElem?_eq_getElem hj)⟩
theorem RsI.step {ks : List Int} {i : Nat} (hi : i < ks.length) (h : RsI ks i) (h1 : 0 ≤ ks[i] ∧ ks[i] < 40) (h2 : ∀ j a, j + 1 = i → ks[j]? = some a → a < ks[i]) : RsI ks (i + 1) := by
  refine ⟨fun j a hj ha => ?_, fun j a b hj ha hb => ?_⟩
  · by_cases e : j < i
    · exact h.1 j a e ha
    · have : j = i := by omega
      subst this
      rw [List.getElem?_eq_getElem hi] at ha
      cases ha
      exact h1
  · by_cases e : j + 1 < i
    · exact h.2 j a b e ha hb
    · have : j + 1 = i := by omega
      subst this
      rw [List.getElem?_eq_getElem hi] at hb
      cases hb
      exact h2 j a rfl ha
def sp_xtie (t : Adr) : Sp := fun vs H Q E => ∃ (a : Addr) (ks : List Int), vs = [.ref a] ∧ H a = some (.lst (vI ks)) ∧ ks.length ≤ 2000 ∧ (Rs ks → Q .non H) ∧ (¬ Rs ks → E (.ref t.e_NoDraft) none H)
theorem okx_check_tie (T : Txt K mg t) : FnOk P w K mg base (CX1 P w) 2 t.f_check_tie t.d_check_tie ["tie"] (sp_xtie t) := by
  have G_check_shaft : FnOk P w K mg base (CX1 P w) 1 t.f_check_shaft t.d_check_shaft _ _ := okx_check_shaft T
  refine T.check_tie.F.okX sc_check_tie (fun vs H Q E h => ?_) (fun cdv A outer s H vs Q E hr h => ?_)
  · obtain ⟨a, ks, rfl, _⟩ := h
    rfl
  · obtain ⟨a, ks, rfl, ha, hl, k1, k2⟩ := h
    refine ⟨_, (pss_one (ps_fr fun hfr => (ps_for (ownX body1 hfr) rfl (pi_range1 rfl T.b_range (pa_cons (pe_callB (call_len_seqK (K := K)) rfl T.b_len bt_len (pa_cons (pv 0) pa_nil)) pa_nil)) (pg_name (i := 1) sc_check_tie.nd rfl (Or.inl rfl))
        (pss_cons (ps_expr (pe_call (G_check_shaft.mono (by decide)) hr rfl T.check_shaft.m T.check_shaft.F.kp T.check_shaft.b .nil pass1 (pa_cons (pe_ix (ix_listK (K := K)) (pv 0) (pv 1) (fun _ _ => rfl)) pa_nil)))
        (pss_one (ps_if (PW.pt (pw_and (pt_cmpR op_gt (pv 1) pe_int (nomark _)) (pw_and1 (pt_cmpR op_le (pe_ix (ix_listK (K := K)) (pv 0) (pv 1) (fun _ _ => rfl)) (pe_ix (ix_listK (K := K)) (pv 0) (pe_op op_sub (pv 1) pe_int) (fun _ _ => rfl)) (nomark _)))))
          (pss_one (ps_raise body1 rfl (fun _ _ z => z) PySem.F.excBase_ValueError has_ve PySem.F.excBase_ValueError T.x_NoDraft.q rfl T.k_NoDraft (pa_cons pe_str pa_nil)))
          pss_nil)))))), ?_⟩
    refine ⟨_, rfl, _, _, rfl, .inl (SqL.of ha), _, rfl, (by omega), (by rw [vI_len]; omega), ?_⟩
    rw [Int.toNat_natCast, vI_len]
    refine for_range (lo := 0) (n := ks.length) (fun i σ H2 => ∃ v, σ = [some (.ref a), v] ∧ H2 = H ∧ RsI ks i) ⟨none, rfl, rfl, fun j a h => absurd h (by omega), fun j a b h => absurd h (by omega)⟩ ?_ ?_
    · rintro i σ H2 hi ⟨v, rfl, rfl, R⟩
      have e1 : atI (vI ks) (0 + (i : Int)) = some (.int ks[i]) := atI_of (by omega) (by rw [z0]; exact vI_get (List.getElem?_eq_getElem hi))
      refine ⟨_, rfl, _, rfl, _, _, _, _, rfl, rfl, SqL.of ha, e1, ks[i], rfl, fun hg => ?_, fun hb => k2 fun z => hb (z.2 _ (List.getElem_mem hi))⟩
      refine ⟨_, rfl, _, _, rfl, rfl, _, rfl, ?_⟩
      by_cases h0 : i = 0
      · subst h0
        refine iteDn (by omega) ?_
        exact iteF ⟨_, rfl, rfl, R.step hi hg fun j a hj => absurd hj (by omega)⟩
      · have hi1 : i - 1 < ks.length := by omega
        have e2 : atI (vI ks) (0 + (i : Int) - 1) = some (.int ks[i - 1]) := atI_of (by omega) (by rw [show (0 + (i : Int) - 1).toNat = i - 1 by omega]; exact vI_get (List.getElem?_eq_getElem hi1))
        refine iteDp (by omega) ?_
        refine ⟨_, rfl, _, rfl, _, _, _, _, rfl, rfl, SqL.of ha, e1, _, rfl, _, rfl, _, _, rfl, rfl, _, _, _, _, rfl, rfl, SqL.of ha, e2, _, _, rfl, rfl, _, rfl, ?_⟩
        refine ite2D (fun hle => ?_) (fun hgt => ?_)
        · refine ⟨by decide, k2 fun z => ?_⟩
          have := z.1 (i - 1) ks[i - 1] ks[i] (List.getElem?_eq_getElem hi1) (by rw [show i - 1 + 1 = i by omega]; exact List.getElem?_eq_getElem hi)
          omega
        · refine ⟨_, rfl, rfl, R.step hi hg fun j a hj hja => ?_⟩
          have : j = i - 1 := by omega
          subst this
          rw [List.getElem?_eq_getElem hi1] at hja
          cases hja
          omega
    · rintro σ H2 ⟨v, rfl, rfl, R⟩
      exact k1 R.all
def sp_xsetting (t : Adr) : Sp := fun vs H Q E => ∃ (x y : Addr) (rs : List Addr) (th : List Int) (tss : List (List Int)), vs = [.ref x, .ref y] ∧ H x = some (.lst (vI th)) ∧ NL H y rs tss ∧ th.length ≤ 1000 ∧ tss.length ≤ 1000 ∧ (∀ ks ∈ tss, ks.length ≤ 2000) ∧ (SetOk th tss → Q .non H) ∧ (¬ SetOk th tss → E (.ref t.e_NoDraft) none H)
theorem okx_check_setting (T : Txt K mg t) : FnOk P w K mg base (CX1 P w) 3 t.f_check_setting t.d_check_setting ["threading", "ties"] (sp_xsetting t) := by
  have G_check_count : FnOk P w K mg base (CX1 P w) 1 t.f_check_count t.d_check_count _ _ := okx_check_count T
  have G_check_shaft : FnOk P w K mg base (CX1 P w) 1 t.f_check_shaft t.d_check_shaft _ _ := okx_check_shaft T
  have G_check_tie : FnOk P w K mg base (CX1 P w) 2 t.f_check_tie t.d_check_tie _ _ := okx_check_tie T
  refine T.check_setting.F.okX sc_check_setting (fun vs H Q E h => ?_) (fun cdv A outer s H vs Q E hr h => ?_)
  · obtain ⟨x, y, rs, th, tss, rfl, _⟩ := h
    rfl
  · obtain ⟨x, y, rs, th, tss, rfl, hx, N, bl1, bl2, bl3, k1, k2⟩ := h
    refine ⟨_, (pss_cons (ps_expr (pe_call (G_check_count.mono (by decide)) hr rfl T.check_count.m T.check_count.F.kp T.check_count.b .nil pass1 (pa_cons (pe_callB (call_len_seqK (K := K)) rfl T.b_len bt_len (pa_cons (pv 0) pa_nil)) pa_nil)))
      (pss_cons (ps_expr (pe_call (G_check_count.mono (by decide)) hr rfl T.check_count.m T.check_count.F.kp T.check_count.b .nil pass1 (pa_cons (pe_callB (call_len_seqK (K := K)) rfl T.b_len bt_len (pa_cons (pv 1) pa_nil)) pa_nil)))
      (pss_cons (ps_fr fun hfr => (ps_for (ownX body1 hfr) rfl (pi_listK (K := K) (pv 0)) (pg_name (i := 2) sc_check_setting.nd rfl (Or.inl rfl))
        (pss_one (ps_expr (pe_call (G_check_shaft.mono (by decide)) hr rfl T.check_shaft.m T.check_shaft.F.kp T.check_shaft.b .nil pass1 (pa_cons (pv 2) pa_nil))))))
      (pss_one (ps_fr fun hfr => (ps_for (ownX body1 hfr) rfl (pi_listK (K := K) (pv 1)) (pg_name (i := 3) sc_check_setting.nd rfl (Or.inl rfl))
        (pss_one (ps_expr (pe_call (G_check_tie.mono (by decide)) hr rfl T.check_tie.m T.check_tie.F.kp T.check_tie.b .nil pass1 (pa_cons (pv 3) pa_nil)))))))))), ?_⟩
    refine ⟨_, rfl, _, _, rfl, .inl (SqL.of hx), th.length, (by rw [vI_len] <;> rfl), fun g1 => ?_, fun b => k2 fun z => b z.1⟩
    refine ⟨_, rfl, _, _, rfl, .inl (SqL.of N.h), tss.length, (by rw [List.length_map, N.l] <;> rfl), fun g2 => ?_, fun b => k2 fun z => b z.2.1⟩
    refine ⟨_, rfl, _, rfl, ⟨_, SqL.of hx⟩, for_list (K := K) (a := x) (xs := vI th) (fun i σ H2 => ∃ v1 v2, σ = [some (.ref x), some (.ref y), v1, v2] ∧ H2 = H ∧ ∀ v ∈ th.take i, 0 ≤ v ∧ v < 40) ⟨none, none, rfl, rfl, fun v h => (by simp at h)⟩ (fun i σ H2 _ ⟨_, _, _, e, _⟩ => e ▸ SqL.of hx) ?_ ?_⟩
    · rintro i xv σ H2 hxv ⟨v1, v2, rfl, rfl, hall⟩
      obtain ⟨z, hz, rfl⟩ := vI_got hxv
      refine ⟨_, rfl, z, rfl, fun g => ?_, fun b => k2 fun w => b (w.2.2.1 z (List.mem_of_getElem? hz))⟩
      refine ⟨_, _, rfl, rfl, fun v hv => ?_⟩
      rw [List.take_add_one, hz] at hv
      rcases List.mem_append.mp hv with h | h
      · exact hall v h
      · have e : v = z := by simpa using h
        rw [e]; exact g
    · rintro σ H2 ⟨v1, v2, rfl, rfl, hall⟩
      rw [vI_len, List.take_length] at hall
      refine ⟨_, rfl, _, rfl, ⟨_, SqL.of N.h⟩, for_list (K := K) (a := y) (xs := rs.map V.ref) (fun i σ H3 => ∃ v1 v2, σ = [some (.ref x), some (.ref y), v1, v2] ∧ H3 = H2 ∧ ∀ ks ∈ tss.take i, Rs ks) ⟨v1, v2, rfl, rfl, fun ks h => (by simp at h)⟩ (fun i σ H3 _ ⟨_, _, _, e, _⟩ => e ▸ SqL.of N.h) ?_ ?_⟩
      · rintro i xv σ H3 hxv ⟨v1, v2, rfl, rfl, hall2⟩
        obtain ⟨r, ks, rfl, _, hks, hr'⟩ := N.at hxv
        have hm := List.mem_of_getElem? hks
        refine ⟨_, rfl, r, ks, rfl, hr', bl3 ks hm, fun g => ?_, fun b => k2 fun w => b (w.2.2.2 ks hm)⟩
        refine ⟨_, _, rfl, rfl, fun v hv => ?_⟩
        rw [List.take_add_one, hks] at hv
        rcases List.mem_append.mp hv with h | h
        · exact hall2 v h
        · have e : v = ks := by simpa using h
          rw [e]; exact g
      · rintro σ H3 ⟨v1, v2, rfl, rfl, hall2⟩
        rw [List.length_map, N.l, List.take_length] at hall2
        exact k1 ⟨g1, g2, hall, hall2⟩
def sp_xtreading (t : Adr) : Sp := fun vs H Q E => ∃ (z : Addr) (tr : List Int) (n : Nat), vs = [.ref z, .int (n : Int)] ∧ H z = some (.lst (vI tr)) ∧ tr.length ≤ 1000 ∧ (TrOk tr n → Q .non H) ∧ (¬ TrOk tr n → E (.ref t.e_NoDraft) none H)
theorem okx_check_treading (T : Txt K mg t) : FnOk P w K mg base (CX1 P w) 2 t.f_check_treading t.d_check_treading ["treading", "treadles"] (sp_xtreading t) := by
  have G_check_count : FnOk P w K mg base (CX1 P w) 1 t.f_check_count t.d_check_count _ _ := okx_check_count T
  refine T.check_treading.F.okX sc_check_treading (fun vs H Q E h => ?_) (fun cdv A outer s H vs Q E hr h => ?_)
  · obtain ⟨z, tr, n, rfl, _⟩ := h
    rfl
  · obtain ⟨z, tr, n, rfl, hz, bl, k1, k2⟩ := h
    refine ⟨_, (pss_cons (ps_expr (pe_call (G_check_count.mono (by decide)) hr rfl T.check_count.m T.check_count.F.kp T.check_count.b .nil pass1 (pa_cons (pe_callB (call_len_seqK (K := K)) rfl T.b_len bt_len (pa_cons (pv 0) pa_nil)) pa_nil)))
      (pss_one (ps_fr fun hfr => (ps_for (ownX body1 hfr) rfl (pi_listK (K := K) (pv 0)) (pg_name (i := 2) sc_check_treading.nd rfl (Or.inl rfl))
        (pss_one (ps_if (PW.pt (pw_or (pt_cmpR op_lt (pv 2) pe_int (nomark _)) (pw_or1 (pt_cmpR op_ge (pv 2) (pv 1) (nomark _)))))
          (pss_one (ps_raise body1 rfl (fun _ _ z => z) PySem.F.excBase_ValueError has_ve PySem.F.excBase_ValueError T.x_NoDraft.q rfl T.k_NoDraft (pa_cons pe_str pa_nil)))
          pss_nil)))))), ?_⟩
    refine ⟨_, rfl, _, _, rfl, .inl (SqL.of hz), tr.length, (by rw [vI_len] <;> rfl), fun g1 => ?_, fun b => k2 fun w => b w.1⟩
    refine ⟨_, rfl, _, rfl, ⟨_, SqL.of hz⟩, for_list (K := K) (a := z) (xs := vI tr) (fun i σ H2 => ∃ v1, σ = [some (.ref z), some (.int (n : Int)), v1] ∧ H2 = H ∧ ∀ v ∈ tr.take i, 0 ≤ v ∧ v < (n : Int)) ⟨none, rfl, rfl, fun v h => (by simp at h)⟩ (fun i σ H2 _ ⟨_, _, e, _⟩ => e ▸ SqL.of hz) ?_ ?_⟩
    · rintro i xv σ H2 hxv ⟨v1, rfl, rfl, hall⟩
      obtain ⟨v, hv, rfl⟩ := vI_got hxv
      have hm := List.mem_of_getElem? hv
      refine ⟨_, rfl, _, _, rfl, rfl, _, rfl, ?_⟩
      refine ite2D (fun h => iteT ⟨by decide, k2 fun w => ?_⟩) (fun g3 => ?_)
      · have := w.2 v hm; omega
      refine ⟨_, rfl, _, rfl, _, _, rfl, rfl, _, rfl, ?_⟩
      refine ite2D (fun h => ⟨by decide, k2 fun w => ?_⟩) (fun g4 => ?_)
      · have := w.2 v hm; omega
      refine ⟨_, rfl, rfl, fun y hy => ?_⟩
      rw [List.take_add_one, hv] at hy
      rcases List.mem_append.mp hy with h | h
      · exact hall y h
      · have e : y = v := by simpa using h
        rw [e]; omega
    · rintro σ H2 ⟨v1, rfl, rfl, hall⟩
      rw [vI_len, List.take_length] at hall
      exact k1 ⟨g1, hall⟩
end
end Mine

set_option Elab.async false
set_option linter.all false
set_option maxRecDepth 100000
set_option maxHeartbeats 4000000
namespace Mine
open PySem L2
section
variable {P : Program} {w : World} {K : PySem.W.Frag} {mg : Str → Option Value} {base : Heap} {t : Adr}
def SameB (r : Addr) (H H' : Hp) : Prop := ∀ b o, b ≠ r → H b = some o → H' b = some o
def df (a b c : Addr) : List (Str × V) := [("threading", .ref a), ("ties", .ref b), ("treading", .ref c)]
theorem df_th (a b c : Addr) : (df a b c).lookup ("threading" : Str) = some (V.ref a) := rfl
theorem df_ti (a b c : Addr) : (df a b c).lookup ("ties" : Str) = some (V.ref b) := rfl
theorem df_tr (a b c : Addr) : (df a b c).lookup ("treading" : Str) = some (V.ref c) := rfl
theorem NL.other {H H' : Hp} {r C dx y : Addr} {fs : List (Str × V)} {rs : List Addr} {tss : List (List Int)} (N : NL H y rs tss) (b : SameB r H H') (hr : H r = some (.ins C dx fs)) : NL H' y rs tss :=
  ⟨b _ _ (fun e => by have := N.h; rw [e, hr] at this; cases this) N.h, N.l, fun i a ks h1 h2 => b _ _ (fun e => by have := N.r i a ks h1 h2; rw [e, hr] at this; cases this) (N.r i a ks h1 h2)⟩
/-- a draft, with lists of its own -/
structure IsD (t : Adr) (H : Hp) (d dx a b c : Addr) (qs : List Addr) (th : List Int) (tss : List (List Int)) (tr : List Int) : Prop where
  o : H d = some (.ins t.e_Draft dx (df a b c))
  ha : H a = some (.lst (vI th))
  hb : NL H b qs tss
  hc : H c = some (.lst (vI tr))
def sp_xdinit (t : Adr) : Sp := fun vs H Q E => ∃ (r dx x y z : Addr) (rs : List Addr) (th : List Int) (tss : List (List Int)) (tr : List Int), vs = [.ref r, .ref x, .ref y, .ref z] ∧ H r = some (.ins t.e_Draft dx []) ∧ H x = some (.lst (vI th)) ∧ NL H y rs tss ∧ H z = some (.lst (vI tr)) ∧ Bd3 th tss tr ∧
  (Ft th tss tr → ∀ a b c qs H', SameB r H H' → H a = none → H b = none → H c = none → (∀ q ∈ qs, H q = none) → IsD t H' r dx a b c qs th tss tr → Q .non H') ∧ (¬ Ft th tss tr → E (.ref t.e_NoDraft) none H)
theorem okx_Draft___init__ (T : Txt K mg t) : FnOk P w K mg base (CX1 P w) 4 t.f_Draft___init__ t.d_Draft___init__ ["self", "threading", "ties", "treading"] (sp_xdinit t) := by
  have G_check_setting : FnOk P w K mg base (CX1 P w) 3 t.f_check_setting t.d_check_setting _ _ := okx_check_setting T
  have G_check_treading : FnOk P w K mg base (CX1 P w) 2 t.f_check_treading t.d_check_treading _ _ := okx_check_treading T
  refine T.m_Draft___init__.F.okX sc_Draft___init__ (fun vs H Q E h => ?_) (fun cdv A outer s H vs Q E hr h => ?_)
  · obtain ⟨r, dx, x, y, z, rs, th, tss, tr, rfl, _⟩ := h
    rfl
  · obtain ⟨r, dx, x, y, z, rs, th, tss, tr, rfl, hr1, hx, N, hz, B, kq, kb⟩ := h
    have hsz : sizeLine = 16777216 := sizeLine_eq
    refine ⟨_, (pss_cons (ps_expr (pe_call (G_check_setting.mono (by decide)) hr rfl T.check_setting.m T.check_setting.F.kp T.check_setting.b .nil pass1 (pa_cons (pv 1) (pa_cons (pv 2) pa_nil))))
      (pss_cons (ps_expr (pe_call (G_check_treading.mono (by decide)) hr rfl T.check_treading.m T.check_treading.F.kp T.check_treading.b .nil pass1 (pa_cons (pv 3) (pa_cons (pe_callB (call_len_seqK (K := K)) rfl T.b_len bt_len (pa_cons (pv 2) pa_nil)) pa_nil))))
      (pss_cons (ps_fldK (K := K) (pv 0) (pe_callTy (call_list_ofK (K := K)) rfl T.b_list bt_list (pa_cons (pv 1) pa_nil)))
      (pss_cons (PS.nox (ps_fldK (K := K) (pv 0) (pe_comp (CompOk.mk (caps := []) (Nc := ["tie"]) rfl (by decide +kernel) (by decide +kernel) (comp_fr (sc0 := defScope s_Draft___init__) rfl (by decide +kernel)) rfl rfl rfl (by decide +kernel) (fun _ _ h => by simp at h)) rfl (pi_listK (K := K) (pv 2)) (fun _ _ _ _ _ => .nil) (fun _ _ _ _ _ => (pe_callTy (call_list_ofK (K := K)) rfl T.b_list bt_list (pa_cons (pv 0) pa_nil))))))
      (pss_one (ps_fldK (K := K) (pv 0) (pe_callTy (call_list_ofK (K := K)) rfl T.b_list bt_list (pa_cons (pv 3) pa_nil)))))))), ?_⟩
    refine ⟨_, rfl, _, rfl, x, y, rs, th, tss, rfl, hx, N, B.1, B.2.1, B.2.2.2, fun g1 => ?_, fun b1 => kb fun z => b1 z.set⟩
    refine ⟨_, rfl, _, rfl, _, _, rfl, .inl (SqL.of N.h), z, tr, tss.length, (by rw [List.length_map, N.l] <;> rfl), hz, B.2.2.1, fun g2 => ?_, fun b2 => kb fun z => b2 z.trd⟩
    have F : Ft th tss tr := ft_of g1 g2
    have k := kq F
    -- threading
    refine ⟨_, rfl, _, _, rfl, .inl (SqL.of hx), fun a na => ?_⟩
    have s1 : Same H (upd H a (.lst (vI th))) := .upd na
    have nra : a ≠ r := fun e => by rw [e, hr1] at na; cases na
    refine ⟨_, rfl, _, _, _, _, rfl, s1 _ _ hr1, T.o_Draft.c, T.na_Draft_threading, (by decide), ?_⟩
    generalize hH2 : upd (upd H a (.lst (vI th))) r (.ins t.e_Draft dx (putF "threading" (.ref a) [])) = H2
    have b2 : SameB r H H2 := fun b o nb e => by rw [← hH2, upd_ne nb]; exact s1 _ _ e
    have hr2 : H2 r = some (.ins t.e_Draft dx [("threading", .ref a)]) := by rw [← hH2]; exact upd_same
    have ha2 : H2 a = some (.lst (vI th)) := by rw [← hH2, upd_ne nra]; exact upd_same
    have fre : ∀ q, H2 q = none → H q = none := fun q hq => by
      have nq : q ≠ r := fun e => by rw [e, hr2] at hq; cases hq
      cases e : H q with
      | none => rfl
      | some o => rw [b2 q o nq e] at hq; cases hq
    clear hH2
    have N2 := N.other b2 hr1
    -- ties
    refine ⟨_, rfl, _, rfl, ⟨_, SqL.of N2.h⟩, comp_list (K := K) (a := y) (xs := rs.map V.ref) (fun i ys H3 => Same H2 H3 ∧ ∃ qs : List Addr, ys = qs.map V.ref ∧ qs.length = i ∧ (∀ q ∈ qs, H2 q = none) ∧ ∀ (j : Nat) (q : Addr) (ks : List Int), qs[j]? = some q → tss[j]? = some ks → H3 q = some (.lst (vI ks)))
      ⟨.refl _, [], rfl, rfl, fun q hq => (by cases hq), fun j q ks h => (by simp at h)⟩ ?_ ?_ ?_ ?_⟩
    · rintro i ys H3 hi ⟨s3, qs, rfl, hq, _⟩
      exact ⟨SqL.of (s3 _ _ N2.h), by rw [List.length_map]; omega⟩
    · rw [List.length_map, N.l]; have := F.t40; omega
    · rintro i xv ys H3 hi hxv ⟨s3, qs, rfl, hq, nq, hqs⟩
      obtain ⟨r', ks', rfl, _, hks, hr'⟩ := N2.at hxv
      refine CTurn.no ?_
      refine ⟨_, rfl, _, _, rfl, .inl (SqL.of (s3 _ _ hr')), fun l nl => ?_⟩
      refine CN.of hi ⟨s3.new nl, qs ++ [l], by rw [List.map_append]; rfl, by rw [List.length_append, hq]; rfl, fun q h => ?_, fun j q ks h1 h2 => ?_⟩
      · rcases List.mem_append.mp h with h | h
        · exact nq q h
        · rw [List.mem_singleton.mp h]; exact s3.free nl
      · by_cases hj : j < qs.length
        · rw [List.getElem?_append_left hj] at h1
          exact (Same.upd nl) _ _ (hqs j q ks h1 h2)
        · rw [List.getElem?_append_right (by omega)] at h1
          have e0 : j = i := by
            have := (List.getElem?_eq_some_iff.mp h1).1
            simp at this
            omega
          rw [show j - qs.length = 0 by omega] at h1
          have e1 : l = q := by simpa using h1
          rw [e0, hks] at h2
          cases h2
          rw [← e1]
          exact upd_same
    · rintro ys H3 b ⟨s3, qs, rfl, hq, nq, hqs⟩ nb
      rw [List.length_map, N.l] at hq
      have s4 : Same H2 (upd H3 b (.lst (qs.map V.ref))) := s3.new nb
      have nbr : b ≠ r := fun e => by rw [e, s3 _ _ hr2] at nb; cases nb
      refine ⟨_, rfl, _, _, _, _, rfl, s4 _ _ hr2, T.o_Draft.c, T.na_Draft_ties, (by show 1 < 1000; decide), ?_⟩
      generalize hH5 : upd (upd H3 b (.lst (qs.map V.ref))) r (.ins t.e_Draft dx (putF "ties" (.ref b) [("threading", .ref a)])) = H5
      have b5 : SameB r H2 H5 := fun b' o nb e => by rw [← hH5, upd_ne nb]; exact s4 _ _ e
      have hr5 : H5 r = some (.ins t.e_Draft dx [("threading", .ref a), ("ties", .ref b)]) := by rw [← hH5]; exact upd_same
      have hb5 : H5 b = some (.lst (qs.map V.ref)) := by rw [← hH5, upd_ne nbr]; exact upd_same
      have hq5 : ∀ (j : Nat) (q : Addr) (ks : List Int), qs[j]? = some q → tss[j]? = some ks → H5 q = some (.lst (vI ks)) := fun j q ks h1 h2 => by
        have nqr : q ≠ r := fun e => by have := nq q (List.mem_of_getElem? h1); rw [e, hr2] at this; cases this
        rw [← hH5, upd_ne nqr]
        exact (Same.upd nb) _ _ (hqs j q ks h1 h2)
      clear hH5
      have nzr : z ≠ r := fun e => by rw [e, hr1] at hz; cases hz
      have hz5 : H5 z = some (.lst (vI tr)) := b5 _ _ nzr (b2 _ _ nzr hz)
      -- treading
      refine ⟨_, rfl, _, _, rfl, .inl (SqL.of hz5), fun c nc => ?_⟩
      have s6 : Same H5 (upd H5 c (.lst (vI tr))) := .upd nc
      have ncr : c ≠ r := fun e => by rw [e, hr5] at nc; cases nc
      refine ⟨_, rfl, _, _, _, _, rfl, s6 _ _ hr5, T.o_Draft.c, T.na_Draft_treading, (by show 2 < 1000; decide), ?_⟩
      have f5 : ∀ q, H5 q = none → H q = none := fun q h => fre q (by
        have nqr : q ≠ r := fun e => by rw [e, hr5] at h; cases h
        cases e : H2 q with
        | none => rfl
        | some o => rw [b5 q o nqr e] at h; cases h)
      refine k a b c qs _ (fun b' o nb' e => by rw [upd_ne nb']; exact s6 _ _ (b5 _ _ nb' (b2 _ _ nb' e))) na (fre b (s3.free nb)) (f5 c nc) (fun q h => fre q (nq q h)) ⟨upd_same, ?_, ⟨?_, hq, fun j q ks h1 h2 => ?_⟩, ?_⟩
      · rw [upd_ne nra]; exact s6 _ _ (b5 _ _ nra ha2)
      · rw [upd_ne nbr]; exact s6 _ _ hb5
      · have nqr : q ≠ r := fun e => by have := nq q (List.mem_of_getElem? h1); rw [e, hr2] at this; cases this
        rw [upd_ne nqr]; exact s6 _ _ (hq5 j q ks h1 h2)
      · rw [upd_ne ncr]; exact upd_same
end
end Mine

set_option Elab.async false
set_option linter.all false
set_option maxRecDepth 100000
set_option maxHeartbeats 4000000
namespace Mine
open PySem L2
section
variable {P : Program} {w : World} {K : PySem.W.Frag} {mg : Str → Option Value} {base : Heap} {t : Adr}
theorem rep_vI (m : Nat) (z : Int) : (List.replicate m [V.int z]).flatten = vI (List.replicate m z) := by
  induction m with
  | zero => rfl
  | succ m ih => rw [List.replicate_succ, List.flatten_cons, ih, List.replicate_succ]; rfl
theorem set_nonneg {ks : List Int} {j : Nat} {z : Int} (h : ∀ k ∈ ks, 0 ≤ k) (hz : 0 ≤ z) : ∀ k ∈ ks.set j z, 0 ≤ k := fun k hk => by
  rcases List.mem_or_eq_of_mem_set hk with h1 | h1
  · exact h k h1
  · subst h1; exact hz
def sp_numbers (K : PySem.W.Frag) : Sp := fun vs H Q _ => ∃ (a : Addr) (ns : List Int) (m : Nat), vs = [.ref a, .int (m : Int)] ∧ SqL K H a (vI ns) ∧ ns.length ≤ 63 ∧ 63 ≤ m ∧ m ≤ 1000 ∧
  ∀ (l : Addr) (ks : List Int) (H' : Hp), Same H H' → H l = none → H' l = some (.lst (vI ks)) → ks.length = m → (∀ k ∈ ks, 0 ≤ k) → Q (.ref l) H'
theorem ok_law_numbers (T : Txt K mg t) : FnOk P w K mg base CX0 1 t.f_law_numbers t.d_law_numbers ["script", "many"] (sp_numbers K) := by
  refine T.law_numbers.F.ok sc_law_numbers (fun vs H Q E h => ?_) (fun cdv A outer s H vs Q E hr h => ?_)
  · obtain ⟨a, ns, m, rfl, _⟩ := h
    rfl
  · obtain ⟨a, ns, m, rfl, hS, hl, hm, hm2, k⟩ := h
    have hsz : sizeLine = 16777216 := sizeLine_eq
    refine ⟨_, (pss_cons (ps_set (i := 2) sc_law_numbers.nd rfl (Or.inl rfl) pe_int)
      (pss_cons (ps_set (i := 3) sc_law_numbers.nd rfl (Or.inl rfl) (pe_op op_rep (pe_lst (pa_cons pe_int pa_nil)) (pv 1)))
      (pss_cons (ps_for PassesOwn.never rfl (pi_range1 rfl T.b_range (pa_cons (pe_callB (call_len_seqK (K := K)) rfl T.b_len bt_len (pa_cons (pv 0) pa_nil)) pa_nil)) (pg_name (i := 4) sc_law_numbers.nd rfl (Or.inl rfl))
        (pss_cons (ps_asg (pe_op op_mod (pe_op op_add (pe_op op_mul (pe_ix (ix_listK (K := K)) (pv 3) (pe_op op_mod (pv 4) (pv 1)) (fun _ _ => rfl)) pe_int) (pe_ix (ix_listK (K := K)) (pv 0) (pv 4) (fun _ _ => rfl))) (pe_op op_pow pe_int pe_int)) (pg_sub (pv 3) (pe_op op_mod (pv 4) (pv 1)) set_list))
        (pss_one (ps_set (i := 2) sc_law_numbers.nd rfl (Or.inl rfl) (pe_op op_mod (pe_op op_add (pe_op op_mul (pv 2) pe_int) (pe_ix (ix_listK (K := K)) (pv 0) (pv 4) (fun _ _ => rfl))) pe_int)))))
      (pss_cons (ps_for PassesOwn.never rfl (pi_range2 rfl T.b_range (pa_cons (pe_callB (call_len_seqK (K := K)) rfl T.b_len bt_len (pa_cons (pv 0) pa_nil)) (pa_cons (pv 1) pa_nil))) (pg_name (i := 4) sc_law_numbers.nd rfl (Or.inl rfl))
        (pss_cons (ps_set (i := 2) sc_law_numbers.nd rfl (Or.inl rfl) (pe_op op_mod (pe_op op_add (pe_op op_mul (pv 2) pe_int) (pv 4)) pe_int))
        (pss_one (ps_asg (pe_op op_fdiv (pv 2) pe_int) (pg_sub (pv 3) (pv 4) set_list)))))
      (pss_one (ps_ret (pv 3))))))), ?_⟩
    -- found = [0] * many
    refine ⟨(by show 1 ≤ sizeLine; decide), fun p hp => ?_⟩
    refine ⟨_, rfl, _, _, _, rfl, rfl, upd_same, (by omega), (by omega), (by show 1 * ((m : Int).toNat) ≤ sizeLine; omega), fun q hq => ?_⟩
    rw [Int.toNat_natCast, rep_vI]
    have s1 : Same H (upd H p (.lst [.int 0])) := .upd hp
    have nq : H q = none := s1.free hq
    have s2 : Same H (upd (upd H p (.lst [.int 0])) q (.lst (vI (List.replicate m 0)))) := s1.new hq
    -- for k in range(len(script))
    refine ⟨_, rfl, _, _, rfl, .inl (s2.seq hS), _, rfl, (by omega), (by rw [vI_len]; omega), ?_⟩
    rw [Int.toNat_natCast, vI_len]
    refine for_range (lo := 0) (n := ns.length) (fun i σ H2 => ∃ (mx : Int) (ks : List Int) (v : Option V), σ = [some (.ref a), some (.int (m : Int)), some (.int mx), some (.ref q), v] ∧ Same H H2 ∧ H2 q = some (.lst (vI ks)) ∧ ks.length = m ∧ (∀ k ∈ ks, 0 ≤ k) ∧ 0 ≤ mx)
      ⟨7, _, none, rfl, s2, upd_same, by rw [List.length_replicate], fun k hk => by rw [List.eq_of_mem_replicate hk]; exact Int.le_refl _, by decide⟩ ?_ ?_
    · rintro i σ H2 hi ⟨mx, ks, v, rfl, s3, hq2, hkl, hkn, hmx⟩
      have hix : (0 + (i : Int)) % (m : Int) = ((i % m : Nat) : Int) := by rw [Int.zero_add]; omega
      have hlt : i % m < ks.length := by rw [hkl]; exact Nat.mod_lt _ (by omega)
      have e1 : (vI ks)[((0 + (i : Int)) % (m : Int)).toNat]? = some (.int ks[i % m]) := by
        rw [hix, Int.toNat_natCast]
        exact vI_get (List.getElem?_eq_getElem hlt)
      have e2 : (vI ns)[(0 + (i : Int)).toNat]? = some (.int ns[i]) := by
        rw [Int.zero_add, Int.toNat_natCast]
        exact vI_get (List.getElem?_eq_getElem hi)
      have n1 : 0 ≤ (0 + (i : Int)) % (m : Int) := by rw [hix]; omega
      refine ⟨_, rfl, _, rfl, _, rfl, _, _, rfl, rfl, (by show (0 : Int) < m; omega), ?_⟩
      refine ⟨_, _, _, _, rfl, rfl, SqL.of hq2, atI_of n1 e1, ?_⟩
      refine ⟨_, _, rfl, rfl, .inr ⟨by decide, by decide⟩, ?_⟩
      refine ⟨_, rfl, _, rfl, _, _, _, _, rfl, rfl, s3.seq hS, atI_of (by omega) e2, ?_⟩
      refine ⟨_, _, rfl, rfl, ?_⟩
      refine ⟨_, _, rfl, rfl, ⟨by decide, by decide, by decide⟩, ?_⟩
      refine ⟨_, _, rfl, rfl, (by show (0 : Int) < 10 ^ 60; decide), ?_⟩
      refine ⟨_, rfl, _, rfl, _, rfl, _, _, rfl, rfl, (by show (0 : Int) < m; omega), ?_⟩
      refine ⟨_, _, _, _, rfl, rfl, hq2, ixN_of n1 (by rw [vI_len, hkl]; rw [hix]; omega), ?_⟩
      rw [vI_set]
      -- mixed
      refine ⟨_, rfl, _, _, rfl, rfl, .inr ⟨by decide, by decide⟩, ?_⟩
      have s4 : Same H (upd H2 q (.lst (vI (ks.set ((0 + (i : Int)) % (m : Int)).toNat ((ks[i % m] * 31 + ns[i]) % 10 ^ (60 : Int).toNat))))) := s3.over nq
      refine ⟨_, rfl, _, rfl, _, _, _, _, rfl, rfl, s4.seq hS, atI_of (by omega) e2, ?_⟩
      refine ⟨_, _, rfl, rfl, ?_⟩
      refine ⟨_, _, rfl, rfl, (by show (0 : Int) < 2147483647; decide), ?_⟩
      exact ⟨_, _, _, rfl, s4, upd_same, by rw [List.length_set]; exact hkl, set_nonneg hkn (Int.emod_nonneg _ (by decide)), Int.emod_nonneg _ (by decide)⟩
    · rintro σ H2 ⟨mx, ks, v, rfl, s3, hq2, hkl, hkn, hmx⟩
      refine ⟨_, rfl, _, _, rfl, .inl (s3.seq hS), _, rfl, _, _, rfl, ⟨by omega, by rw [vI_len]; omega, by omega, by omega⟩, ?_⟩
      rw [vI_len]
      refine for_range (lo := (ns.length : Int)) (n := ((m : Int) - (ns.length : Int)).toNat) (fun i σ H2 => ∃ (mx : Int) (ks : List Int) (v : Option V), σ = [some (.ref a), some (.int (m : Int)), some (.int mx), some (.ref q), v] ∧ Same H H2 ∧ H2 q = some (.lst (vI ks)) ∧ ks.length = m ∧ (∀ k ∈ ks, 0 ≤ k) ∧ 0 ≤ mx)
        ⟨mx, ks, v, rfl, s3, hq2, hkl, hkn, hmx⟩ ?_ ?_
      · rintro i σ H3 hi ⟨mx, ks, v, rfl, s3, hq2, hkl, hkn, hmx⟩
        refine ⟨_, rfl, _, _, rfl, rfl, .inr ⟨by decide, by decide⟩, ?_⟩
        refine ⟨_, rfl, _, _, rfl, rfl, ?_⟩
        refine ⟨_, _, rfl, rfl, (by show (0 : Int) < 2147483647; decide), ?_⟩
        have hnn : 0 ≤ (mx * 16807 + ((ns.length : Int) + (i : Int))) % 2147483647 := Int.emod_nonneg _ (by decide)
        refine ⟨_, rfl, _, _, rfl, rfl, ⟨by decide, by decide⟩, ?_⟩
        refine ⟨_, rfl, _, rfl, _, _, _, _, rfl, rfl, hq2, ixN_of (by omega) (by rw [vI_len, hkl]; omega), ?_⟩
        rw [vI_set]
        exact ⟨_, _, _, rfl, s3.over nq, upd_same, by rw [List.length_set]; exact hkl, set_nonneg hkn (Int.ediv_nonneg hnn (by decide)), hnn⟩
      · rintro σ H3 ⟨mx, ks, v, rfl, s3, hq2, hkl, hkn, hmx⟩
        exact ⟨_, rfl, k q ks H3 s3 nq hq2 hkl hkn⟩

theorem below {ks : List Int} {i : Nat} (h : ∀ k ∈ ks, k < (i : Int)) : ∀ k ∈ ks ++ [0 + (i : Int)], k < ((i + 1 : Nat) : Int) := fun k hk => by
  rcases List.mem_append.mp hk with h1 | h1
  · have := h k h1; omega
  · rw [List.mem_singleton.mp h1]; omega
theorem all_add {zs : List Int} {z : Int} {p : Int → Prop} (h : ∀ v ∈ zs, p v) (hz : p z) : ∀ v ∈ zs ++ [z], p v := fun v hv => by
  rcases List.mem_append.mp hv with h1 | h1
  · exact h v h1
  · rw [List.mem_singleton.mp h1]; exact hz
def sp_subset : Sp := fun vs H Q _ => ∃ (n : Int), vs = [.int n] ∧ 0 ≤ n ∧ ∀ (l : Addr) (ks : List Int) (H' : Hp), Same H H' → H l = none → H' l = some (.lst (vI ks)) → Rs ks → Q (.ref l) H'
theorem ok_law_subset (T : Txt K mg t) : FnOk P w K mg base CX0 1 t.f_law_subset t.d_law_subset ["number"] sp_subset := by
  refine T.law_subset.F.ok sc_law_subset (fun vs H Q E h => ?_) (fun cdv A outer s H vs Q E hr h => ?_)
  · obtain ⟨n, rfl, _⟩ := h
    rfl
  · obtain ⟨n, rfl, hn, k⟩ := h
    refine ⟨_, (pss_cons (ps_if (PW.pt (pw_and (pt_cmpR op_lt (pv 0) (pe_op op_pow pe_int pe_int) (nomark _)) (pw_and1 (pt_cmpR op_eq (pe_op op_mod (pv 0) pe_int) pe_int (nomark _)))))
        (pss_one (ps_ret (pe_lst pa_nil)))
        pss_nil)
      (pss_cons (ps_if (pt_cmpR op_lt (pv 0) (pe_op op_pow pe_int pe_int) (nomark _))
        (pss_one (ps_set (i := 0) sc_law_subset.nd rfl (Or.inl rfl) (pe_op op_add (pe_op op_mul (pe_op op_mul (pv 0) (pv 0)) pe_int) (pv 0))))
        pss_nil)
      (pss_cons (ps_set (i := 1) sc_law_subset.nd rfl (Or.inl rfl) (pe_lst pa_nil))
      (pss_cons (ps_for PassesOwn.never rfl (pi_range1 rfl T.b_range (pa_cons pe_int pa_nil)) (pg_name (i := 2) sc_law_subset.nd rfl (Or.inl rfl))
        (pss_cons (ps_if (pt_cmpR op_eq (pe_op op_mod (pv 0) pe_int) pe_int (nomark _))
          (pss_one (ps_expr (pe_bmK (K := K) PySem.F.plainAttrs_list PySem.F.slot_list_append PySem.F.type_list_append mt_append (pv 1) (pa_cons (pv 2) pa_nil))))
          pss_nil)
        (pss_one (ps_set (i := 0) sc_law_subset.nd rfl (Or.inl rfl) (pe_op op_fdiv (pv 0) pe_int)))))
      (pss_one (ps_ret (pv 1))))))), ?_⟩
    have e6 : (10 : Int) ^ (6 : Int).toNat = 1000000 := by decide
    refine ⟨_, rfl, _, _, rfl, rfl, ⟨by decide, by decide, by decide⟩, _, _, rfl, rfl, _, rfl, ?_⟩
    rw [e6]
    refine ite2D (fun h6 => ?_) (fun h6 => ?_)
    · refine ⟨_, rfl, _, _, rfl, rfl, (by show (0 : Int) < 8; decide), rfl, _, rfl, ?_⟩
      refine ite2D (fun _ => ?_) (fun _ => ?_)
      · exact ⟨Nat.zero_le _, fun p hp => k p [] _ (.upd hp) hp upd_same rs_nil⟩
      · refine ⟨_, rfl, _, _, rfl, rfl, ⟨by decide, by decide, by decide⟩, _, _, rfl, rfl, _, rfl, ?_⟩
        rw [e6]
        refine iteDp h6 ?_
        refine ⟨_, rfl, _, rfl, _, _, rfl, rfl, .inl ⟨by omega, by omega⟩, ?_⟩
        refine ⟨_, _, rfl, rfl, .inr ⟨by decide, by decide⟩, ?_⟩
        refine ⟨_, rfl, _, _, rfl, rfl, ?_⟩
        refine ⟨Nat.zero_le _, fun p hp => ?_⟩
        refine ⟨_, rfl, by decide, by decide, ?_⟩
        refine for_range (lo := 0) (n := 40) (fun i σ H2 => ∃ (z : Int) (ks : List Int) (v : Option V), σ = [some (.int z), some (.ref p), v] ∧ Same H H2 ∧ H2 p = some (.lst (vI ks)) ∧ ks.length ≤ i ∧ Rs ks ∧ ∀ k ∈ ks, k < (i : Int))
          ⟨_, [], none, rfl, .upd hp, upd_same, Nat.le_refl _, rs_nil, fun k h => (by cases h)⟩ ?_ ?_
        · rintro i σ H2 hi ⟨z, ks, v, rfl, s2, hp2, hkl, R, lt⟩
          refine ⟨_, rfl, _, _, rfl, rfl, (by show (0 : Int) < 2; decide), rfl, _, rfl, ?_⟩
          refine ite2D (fun _ => ?_) (fun _ => ?_)
          · refine ⟨_, rfl, .inl ⟨rfl, _, SqL.of hp2⟩, _, rfl, _, _, _, rfl, rfl, hp2, (by rw [vI_len]; exact small1000 (by omega)), ?_⟩
            rw [vI_app]
            refine ⟨_, rfl, _, _, rfl, rfl, ⟨by decide, by decide⟩, ?_⟩
            exact ⟨_, _, _, rfl, s2.over hp, upd_same, by rw [List.length_append, List.length_singleton]; omega, rs_add R (fun k h => by have := lt k h; omega) (by omega) (by omega), below lt⟩
          · refine ⟨_, rfl, _, _, rfl, rfl, ⟨by decide, by decide⟩, ?_⟩
            exact ⟨_, _, _, rfl, s2, hp2, by omega, R, fun k h => by have := lt k h; omega⟩
        · rintro σ H2 ⟨z, ks, v, rfl, s2, hp2, hkl, R, lt⟩
          exact ⟨_, rfl, k p ks H2 s2 hp hp2 R⟩
    · refine iteF ?_
      refine ⟨_, rfl, _, _, rfl, rfl, ⟨by decide, by decide, by decide⟩, _, _, rfl, rfl, _, rfl, ?_⟩
      rw [e6]
      refine iteDn h6 ?_
      refine ⟨Nat.zero_le _, fun p hp => ?_⟩
      refine ⟨_, rfl, by decide, by decide, ?_⟩
      refine for_range (lo := 0) (n := 40) (fun i σ H2 => ∃ (z : Int) (ks : List Int) (v : Option V), σ = [some (.int z), some (.ref p), v] ∧ Same H H2 ∧ H2 p = some (.lst (vI ks)) ∧ ks.length ≤ i ∧ Rs ks ∧ ∀ k ∈ ks, k < (i : Int))
        ⟨_, [], none, rfl, .upd hp, upd_same, Nat.le_refl _, rs_nil, fun k h => (by cases h)⟩ ?_ ?_
      · rintro i σ H2 hi ⟨z, ks, v, rfl, s2, hp2, hkl, R, lt⟩
        refine ⟨_, rfl, _, _, rfl, rfl, (by show (0 : Int) < 2; decide), rfl, _, rfl, ?_⟩
        refine ite2D (fun _ => ?_) (fun _ => ?_)
        · refine ⟨_, rfl, .inl ⟨rfl, _, SqL.of hp2⟩, _, rfl, _, _, _, rfl, rfl, hp2, (by rw [vI_len]; exact small1000 (by omega)), ?_⟩
          rw [vI_app]
          refine ⟨_, rfl, _, _, rfl, rfl, ⟨by decide, by decide⟩, ?_⟩
          exact ⟨_, _, _, rfl, s2.over hp, upd_same, by rw [List.length_append, List.length_singleton]; omega, rs_add R (fun k h => by have := lt k h; omega) (by omega) (by omega), below lt⟩
        · refine ⟨_, rfl, _, _, rfl, rfl, ⟨by decide, by decide⟩, ?_⟩
          exact ⟨_, _, _, rfl, s2, hp2, by omega, R, fun k h => by have := lt k h; omega⟩
      · rintro σ H2 ⟨z, ks, v, rfl, s2, hp2, hkl, R, lt⟩
        exact ⟨_, rfl, k p ks H2 s2 hp hp2 R⟩
/-- a cut of a list of ints, both bounds within -/
theorem cut_vI {ks : List Int} {i j : Int} (h0 : 0 ≤ i) (h1 : i ≤ j) (h2 : j ≤ ks.length) : cutV (vI ks) (some i) (some j) = vI ((ks.drop i.toNat).take (j.toNat - i.toNat)) := by
  unfold cutV
  have e1 : HT.sIx (vI ks).length 0 (some i) = i.toNat := by
    show (if i < 0 then _ else _) = _
    rw [if_neg (by omega), vI_len]; omega
  have e2 : HT.sIx (vI ks).length (vI ks).length (some j) = j.toNat := by
    show (if j < 0 then _ else _) = _
    rw [if_neg (by omega), vI_len]; omega
  rw [e1, e2]
  unfold vI
  rw [← List.map_drop, ← List.map_take]
theorem cut_mem {ks : List Int} {a b : Nat} {x : Int} (h : x ∈ (ks.drop a).take b) : x ∈ ks := List.mem_of_mem_drop (List.mem_of_mem_take h)
def sp_draft (K : PySem.W.Frag) : Sp := fun vs H Q _ => ∃ (a : Addr) (ks : List Int), vs = [.ref a] ∧ SqL K H a (vI ks) ∧ 123 ≤ ks.length ∧ ks.length ≤ 1000 ∧ (∀ k ∈ ks, 0 ≤ k) ∧
  ∀ (p : Addr) (H' : Hp) (x y z : Addr) (rs : List Addr) (th : List Int) (tss : List (List Int)) (tr : List Int), Same H H' → H' p = some (.tup [.ref x, .ref y, .ref z]) → H' x = some (.lst (vI th)) → NL H' y rs tss → H' z = some (.lst (vI tr)) → Ft th tss tr → Q (.ref p) H'
theorem ok_law_draft_by (T : Txt K mg t) : FnOk P w K mg base CX0 2 t.f_law_draft_by t.d_law_draft_by ["numbers"] (sp_draft K) := by
  have G_law_subset : FnOk P w K mg base CX0 1 t.f_law_subset t.d_law_subset _ _ := ok_law_subset T
  refine T.law_draft_by.F.ok sc_law_draft_by (fun vs H Q E h => ?_) (fun cdv A outer s H vs Q E hr h => ?_)
  · obtain ⟨a, ks, rfl, _⟩ := h
    rfl
  · obtain ⟨a, ks, rfl, hS, hl1, hl2, hnn, k⟩ := h
    have hsz : sizeLine = 16777216 := sizeLine_eq
    have g : ∀ (i : Int), 0 ≤ i → i < 3 → atI (vI ks) i = some (.int (ks.getD i.toNat 0)) := fun i h0 h3 => atI_of h0 (by
      have : i.toNat < ks.length := by omega
      rw [vI_get (List.getElem?_eq_getElem this)]
      simp [List.getD, this])
    have p3 : ∀ z : Int, 0 ≤ z % 3 := fun z => Int.emod_nonneg z (by decide)
    have r40 : ∀ z : Int, 0 ≤ z % 40 ∧ z % 40 < 40 := fun z => ⟨Int.emod_nonneg z (by decide), Int.emod_lt_of_pos z (by decide)⟩
    refine ⟨_, (pss_cons (ps_set (i := 1) sc_law_draft_by.nd rfl (Or.inl rfl) (pe_op op_add pe_int (pe_op op_mod (pe_ix (ix_listK (K := K)) (pv 0) pe_int (fun _ _ => rfl)) pe_int)))
      (pss_cons (ps_set (i := 2) sc_law_draft_by.nd rfl (Or.inr rfl) (pe_op op_add pe_int (pe_op op_mod (pe_ix (ix_listK (K := K)) (pv 0) pe_int (fun _ _ => rfl)) pe_int)))
      (pss_cons (ps_set (i := 3) sc_law_draft_by.nd rfl (Or.inl rfl) (pe_op op_add pe_int (pe_op op_mod (pe_ix (ix_listK (K := K)) (pv 0) pe_int (fun _ _ => rfl)) pe_int)))
      (pss_cons (ps_set (i := 4) sc_law_draft_by.nd rfl (Or.inr rfl) (pe_op op_add pe_int (pe_op op_mod (pe_op op_fdiv (pe_ix (ix_listK (K := K)) (pv 0) pe_int (fun _ _ => rfl)) pe_int) pe_int)))
      (pss_cons (ps_if (pt_cmpR op_eq (pe_op op_mod (pe_op op_fdiv (pe_ix (ix_listK (K := K)) (pv 0) pe_int (fun _ _ => rfl)) pe_int) pe_int) pe_int (nomark _))
        (pss_one (ps_set (i := 4) sc_law_draft_by.nd rfl (Or.inr rfl) pe_int))
        pss_nil)
      (pss_cons (ps_setC (i := 5) (CompOk.mk (caps := [4]) (Nc := ["number", "high"]) rfl (by decide +kernel) (by decide +kernel) (comp_fr (sc0 := defScope s_law_draft_by) rfl (by decide +kernel)) rfl rfl rfl (by decide +kernel) (fun k j h => match k, h with | 0, h => by obtain rfl := Option.some.inj h; exact ⟨_, rfl, rfl, rfl⟩ | _ + 1, h => by simp at h)) rfl sc_law_draft_by.nd rfl rfl (pi_listK (K := K) (pe_slice (sl_listK (K := K)) (pv 0) (po_some pe_int) (po_some (pe_op op_add pe_int (pv 1))))) (fun _ _ _ _ _ => .nil) (fun _ _ _ _ _ => (pe_op op_mod (pv 0) (pv 1))) rfl)
      (pss_cons (ps_setC (i := 6) (CompOk.mk (caps := []) (Nc := ["number"]) rfl (by decide +kernel) (by decide +kernel) (comp_fr (sc0 := defScope s_law_draft_by) rfl (by decide +kernel)) rfl rfl rfl (by decide +kernel) (fun _ _ h => by simp at h)) rfl sc_law_draft_by.nd rfl rfl (pi_listK (K := K) (pe_slice (sl_listK (K := K)) (pv 0) (po_some (pe_op op_add pe_int (pv 1))) (po_some (pe_op op_add (pe_op op_add pe_int (pv 1)) (pv 2))))) (fun _ _ _ _ _ => .nil) (fun _ _ _ _ _ => (pe_call (G_law_subset.mono (by decide)) hr rfl T.law_subset.m T.law_subset.F.kp T.law_subset.b .nil pass0 (pa_cons (pv 0) pa_nil))) rfl)
      (pss_cons (ps_set (i := 7) sc_law_draft_by.nd rfl (Or.inl rfl) (pe_op op_add (pe_op op_add pe_int (pv 1)) (pv 2)))
      (pss_cons (ps_setC (i := 8) (CompOk.mk (caps := [2]) (Nc := ["number", "treadles"]) rfl (by decide +kernel) (by decide +kernel) (comp_fr (sc0 := defScope s_law_draft_by) rfl (by decide +kernel)) rfl rfl rfl (by decide +kernel) (fun k j h => match k, h with | 0, h => by obtain rfl := Option.some.inj h; exact ⟨_, rfl, rfl, rfl⟩ | _ + 1, h => by simp at h)) rfl sc_law_draft_by.nd rfl rfl (pi_listK (K := K) (pe_slice (sl_listK (K := K)) (pv 0) (po_some (pv 7)) (po_some (pe_op op_add (pv 7) (pv 3))))) (fun _ _ _ _ _ => .nil) (fun _ _ _ _ _ => (pe_op op_mod (pv 0) (pv 1))) rfl)
      (pss_one (ps_ret (pe_tup (pa_cons (pv 5) (pa_cons (pv 6) (pa_cons (pv 8) pa_nil))))))))))))))), ?_⟩
    -- ends, treadles, picks, high
    refine ⟨_, rfl, _, _, _, _, rfl, rfl, hS, g 0 (by decide) (by decide), _, _, rfl, rfl, (by show (0 : Int) < 40; decide), _, _, rfl, rfl, ?_⟩
    refine ⟨_, rfl, _, _, _, _, rfl, rfl, hS, g 1 (by decide) (by decide), _, _, rfl, rfl, (by show (0 : Int) < 40; decide), _, _, rfl, rfl, ?_⟩
    refine ⟨_, rfl, _, _, _, _, rfl, rfl, hS, g 2 (by decide) (by decide), _, _, rfl, rfl, (by show (0 : Int) < 40; decide), _, _, rfl, rfl, ?_⟩
    refine ⟨_, rfl, _, _, _, _, rfl, rfl, hS, g 0 (by decide) (by decide), _, _, rfl, rfl, ⟨by decide, by decide⟩, _, _, rfl, rfl, (by show (0 : Int) < 40; decide), _, _, rfl, rfl, ?_⟩
    refine ⟨_, rfl, _, _, _, _, rfl, rfl, hS, g 1 (by decide) (by decide), _, _, rfl, rfl, ⟨by decide, by decide⟩, _, _, rfl, rfl, (by show (0 : Int) < 3; decide), rfl, _, rfl, ?_⟩
    obtain ⟨en, hen⟩ : ∃ z : Int, z = 1 + ks.getD (0 : Int).toNat 0 % 40 := ⟨_, rfl⟩
    obtain ⟨tl, htl⟩ : ∃ z : Int, z = 1 + ks.getD (1 : Int).toNat 0 % 40 := ⟨_, rfl⟩
    obtain ⟨pk, hpk⟩ : ∃ z : Int, z = 1 + ks.getD (2 : Int).toNat 0 % 40 := ⟨_, rfl⟩
    obtain ⟨hg, hhg⟩ : ∃ z : Int, z = 1 + ks.getD (0 : Int).toNat 0 / 40 % 40 := ⟨_, rfl⟩
    dsimp only
    rw [← hen, ← htl, ← hpk, ← hhg]
    have b1 := r40 (ks.getD (0 : Int).toNat 0)
    have b2 := r40 (ks.getD (1 : Int).toNat 0)
    have b3 := r40 (ks.getD (2 : Int).toNat 0)
    have b4 := r40 (ks.getD (0 : Int).toNat 0 / 40)
    have en1 : 1 ≤ en ∧ en ≤ 40 := by omega
    have tl1 : 1 ≤ tl ∧ tl ≤ 40 := by omega
    have pk1 : 1 ≤ pk ∧ pk ≤ 40 := by omega
    have hg1 : 0 < hg := by omega
    refine ite2D (fun _ => ?_) (fun _ => ?_)
    all_goals
      -- threading
      refine ⟨_, rfl, _, rfl, _, rfl, _, _, rfl, rfl, _, rfl, _, _, rfl, hS, fun p1 hp1 => ?_⟩
      rw [cut_vI (by decide) (by omega) (by omega)]
      have s1 : Same H (upd H p1 (.lst (vI ((ks.drop (3 : Int).toNat).take ((3 + en).toNat - (3 : Int).toNat))))) := .upd hp1
      have l1 : ((ks.drop (3 : Int).toNat).take ((3 + en).toNat - (3 : Int).toNat)).length = en.toNat := by rw [List.length_take, List.length_drop]; omega
      refine ⟨_, rfl, ⟨_, SqL.of upd_same⟩, ?_⟩
      refine comp_list (K := K) (a := p1) (xs := vI ((ks.drop (3 : Int).toNat).take ((3 + en).toNat - (3 : Int).toNat))) (fun i ys H2 => Same H H2 ∧ H2 p1 = some (.lst (vI ((ks.drop (3 : Int).toNat).take ((3 + en).toNat - (3 : Int).toNat)))) ∧ ∃ zs : List Int, ys = vI zs ∧ zs.length = i ∧ ∀ v ∈ zs, 0 ≤ v ∧ v < 40)
        ⟨s1, upd_same, [], rfl, rfl, fun v h => (by cases h)⟩ ?_ ?_ ?_ ?_
      · rintro i ys H2 hi ⟨s2, h2, zs, rfl, hz, hv⟩
        exact ⟨SqL.of h2, by rw [vI_len]; omega⟩
      · rw [vI_len, l1]; omega
      · rintro i x ys H2 hi hx ⟨s2, h2, zs, rfl, hz, hv⟩
        obtain ⟨z, _, rfl⟩ := vI_got hx
        refine CTurn.no ⟨_, rfl, _, rfl, _, _, rfl, rfl, (by first | (show (0 : Int) < 40; decide) | exact hg1), CN.of hi ⟨s2, h2, zs ++ [_], vI_app _ _, by rw [List.length_append, hz]; rfl, all_add hv (by first | exact ⟨Int.emod_nonneg _ (by decide), Int.emod_lt_of_pos _ (by decide)⟩ | exact ⟨Int.emod_nonneg _ (by omega), Int.lt_of_lt_of_le (Int.emod_lt_of_pos _ hg1) (by omega)⟩)⟩⟩
      · rintro ys H2 q1 ⟨s2, _, th, rfl, hth, hthv⟩ hq1
        rw [vI_len, l1] at hth
        have s3 : Same H (upd H2 q1 (.lst (vI th))) := s2.new hq1
        -- ties
        refine ⟨_, rfl, _, rfl, _, _, rfl, rfl, _, rfl, _, rfl, _, _, rfl, rfl, _, rfl, _, _, rfl, rfl, _, rfl, _, _, rfl, s3.seq hS, fun p2 hp2 => ?_⟩
        rw [cut_vI (by omega) (by omega) (by omega)]
        obtain ⟨c2, hc2⟩ : ∃ c, c = (ks.drop (3 + en).toNat).take ((3 + en + tl).toNat - (3 + en).toNat) := ⟨_, rfl⟩
        rw [← hc2]
        have l2 : c2.length = tl.toNat := by rw [hc2, List.length_take, List.length_drop]; omega
        have n2 : ∀ x ∈ c2, 0 ≤ x := fun x hx => hnn x (cut_mem (hc2 ▸ hx))
        have s4 : Same (upd H2 q1 (.lst (vI th))) (upd (upd H2 q1 (.lst (vI th))) p2 (.lst (vI c2))) := .upd hp2
        refine ⟨_, rfl, ⟨_, SqL.of upd_same⟩, ?_⟩
        refine comp_list (K := K) (a := p2) (xs := vI c2) (fun i ys H3 => Same (upd (upd H2 q1 (.lst (vI th))) p2 (.lst (vI c2))) H3 ∧ ∃ (rs : List Addr) (tss : List (List Int)), ys = rs.map V.ref ∧ rs.length = i ∧ tss.length = i ∧ (∀ ks ∈ tss, Rs ks) ∧ ∀ (j : Nat) (a : Addr) (ks : List Int), rs[j]? = some a → tss[j]? = some ks → H3 a = some (.lst (vI ks)))
          ⟨.refl _, [], [], rfl, rfl, rfl, fun ks h => (by cases h), fun j a ks h => (by simp at h)⟩ ?_ ?_ ?_ ?_
        · rintro i ys H3 hi ⟨s5, rs, tss, rfl, hz, _⟩
          exact ⟨SqL.of (s5 _ _ upd_same), by rw [List.length_map]; omega⟩
        · rw [vI_len, l2]; omega
        · rintro i x ys H3 hi hx ⟨s5, rs, tss, rfl, hz, htl', hRs, hr3⟩
          obtain ⟨z, hz2, rfl⟩ := vI_got hx
          refine CTurn.no ⟨_, rfl, z, rfl, n2 z (List.mem_of_getElem? hz2), fun l ks' H4 s6 nl hl4 R' => CN.of hi ⟨s5.trans s6, rs ++ [l], tss ++ [ks'], (by rw [List.map_append]; rfl), by rw [List.length_append, hz]; rfl, by rw [List.length_append, htl']; rfl, fun ks hk => ?_, fun j a ks h1 h2 => ?_⟩⟩
          · rcases List.mem_append.mp hk with h | h
            · exact hRs ks h
            · rw [List.mem_singleton.mp h]; exact R'
          · by_cases hj : j < i
            · rw [List.getElem?_append_left (by omega)] at h1 h2
              exact s6 _ _ (hr3 j a ks h1 h2)
            · rw [List.getElem?_append_right (by omega)] at h1 h2
              have e0 : j = i := by
                have := (List.getElem?_eq_some_iff.mp h1).1
                simp at this
                omega
              rw [show j - rs.length = 0 by omega] at h1
              rw [show j - tss.length = 0 by omega] at h2
              have e1 : l = a := by simpa using h1
              have e2 : ks' = ks := by simpa using h2
              rw [← e1, ← e2]
              exact hl4
        · rintro ys H3 q2 ⟨s5, rs, tss, rfl, hrl, htsl, hRs, hr3⟩ hq2
          rw [vI_len, l2] at hrl htsl
          have s6 : Same (upd H2 q1 (.lst (vI th))) (upd H3 q2 (.lst (rs.map V.ref))) := (s4.trans s5).new hq2
          -- at, treading
          refine ⟨_, rfl, _, _, rfl, rfl, _, rfl, _, _, rfl, rfl, ?_⟩
          refine ⟨_, rfl, _, rfl, _, rfl, _, rfl, _, rfl, _, _, rfl, rfl, _, rfl, _, _, rfl, (s3.trans s6).seq hS, fun p3 hp3 => ?_⟩
          rw [cut_vI (by omega) (by omega) (by omega)]
          obtain ⟨c3, hc3⟩ : ∃ c, c = (ks.drop (3 + en + tl).toNat).take ((3 + en + tl + pk).toNat - (3 + en + tl).toNat) := ⟨_, rfl⟩
          rw [← hc3]
          have l3 : c3.length = pk.toNat := by rw [hc3, List.length_take, List.length_drop]; omega
          refine ⟨_, rfl, ⟨_, SqL.of upd_same⟩, ?_⟩
          refine comp_list (K := K) (a := p3) (xs := vI c3) (fun i ys H4 => Same (upd (upd H3 q2 (.lst (rs.map V.ref))) p3 (.lst (vI c3))) H4 ∧ ∃ zs : List Int, ys = vI zs ∧ zs.length = i ∧ ∀ x ∈ zs, 0 ≤ x ∧ x < tl)
            ⟨.refl _, [], rfl, rfl, fun _ h => absurd h (by simp)⟩ ?_ ?_ ?_ ?_
          · rintro i ys H4 hi ⟨s7, zs, rfl, hz, _⟩
            exact ⟨SqL.of (s7 _ _ upd_same), by rw [vI_len]; omega⟩
          · rw [vI_len, l3]; omega
          · rintro i x ys H4 hi hx ⟨s7, zs, rfl, hz, hb⟩
            obtain ⟨z, _, rfl⟩ := vI_got hx
            refine CTurn.no ⟨_, rfl, _, rfl, _, _, rfl, rfl, (by show (0 : Int) < tl; omega), CN.of hi ⟨s7, zs ++ [_], vI_app _ _, by rw [List.length_append, hz]; rfl, fun x hx' => ?_⟩⟩
            rcases List.mem_append.mp hx' with h | h
            · exact hb x h
            · rw [List.mem_singleton.mp h]
              exact ⟨Int.emod_nonneg _ (by omega), Int.emod_lt_of_pos _ (by omega)⟩
          · rintro ys H4 q3 ⟨s7, tr, rfl, htr, hb⟩ hq3
            rw [vI_len, l3] at htr
            refine ⟨_, rfl, _, rfl, _, rfl, (by show 3 ≤ sizeLine; decide), fun p hp => ?_⟩
            have s8 : Same (upd H3 q2 (.lst (rs.map V.ref))) (upd (upd H4 q3 (.lst (vI tr))) p (.tup [.ref q1, .ref q2, .ref q3])) := (((Same.upd hp3).trans s7).new hq3).new hp
            refine k p _ q1 q2 q3 rs th tss tr ((s3.trans s6).trans s8) upd_same (s8 _ _ (s6 _ _ upd_same)) ⟨s8 _ _ upd_same, by rw [hrl, htsl], fun j a ks h1 h2 => s8 _ _ ((Same.upd hq2) _ _ (hr3 j a ks h1 h2))⟩ ((Same.upd hp) _ _ upd_same)
              ⟨by omega, by omega, by omega, by omega, by omega, by omega, hthv, hRs, fun x hx => ?_⟩
            have := hb x hx
            rw [htsl]
            omega
end
end Mine

set_option Elab.async false
set_option linter.all false
set_option maxRecDepth 100000
set_option maxHeartbeats 4000000
namespace Mine
open PySem L2
section
variable {P : Program} {w : World} {K : PySem.W.Frag} {mg : Str → Option Value} {base : Heap} {t : Adr}
def sp_nsame : Sp := fun vs H Q _ => ∃ (a b : Addr) (ks : List Int), vs = [.ref a, .ref b] ∧ H a = some (.lst (vI ks)) ∧ H b = some (.lst (vI ks)) ∧ ks.length ≤ 1000 ∧ Q (.bl true) H
theorem ok_law_numbers_same (T : Txt K mg t) : FnOk P w K mg base CX0 1 t.f_law_numbers_same t.d_law_numbers_same ["found", "due"] sp_nsame := by
  refine T.law_numbers_same.F.ok sc_law_numbers_same (fun vs H Q E h => ?_) (fun cdv A outer s H vs Q E hr h => ?_)
  · obtain ⟨a, b, ks, rfl, _⟩ := h
    rfl
  · obtain ⟨a, b, ks, rfl, ha, hb, hl, k⟩ := h
    refine ⟨_, (pss_cons (ps_if (PW.pt (pw_or (pt_not (pt_val (pe_callB (call_isiK (K := K)) rfl T.b_isinstance bt_isinstance (pa_cons (pv 0) (pa_cons (pe_bltn (v := .ty "list") rfl T.b_list bt_list rfl) pa_nil))))) (pw_or1 (pt_cmpR op_ne (pe_callB (call_len_seqK (K := K)) rfl T.b_len bt_len (pa_cons (pv 0) pa_nil)) (pe_callB (call_len_seqK (K := K)) rfl T.b_len bt_len (pa_cons (pv 1) pa_nil)) (nomark _)))))
        (pss_one (ps_ret pe_bl))
        pss_nil)
      (pss_cons (ps_for PassesOwn.never rfl (pi_range1 rfl T.b_range (pa_cons (pe_callB (call_len_seqK (K := K)) rfl T.b_len bt_len (pa_cons (pv 1) pa_nil)) pa_nil)) (pg_name (i := 2) sc_law_numbers_same.nd rfl (Or.inl rfl))
        (pss_one (ps_if (PW.pt (pw_or (pt_not (pt_val (pe_callB (call_isiK (K := K)) rfl T.b_isinstance bt_isinstance (pa_cons (pe_ix (ix_listK (K := K)) (pv 0) (pv 2) (fun _ _ => rfl)) (pa_cons (pe_bltn (v := .ty "int") rfl T.b_int bt_int rfl) pa_nil))))) (pw_or (pt_val (pe_callB (call_isiK (K := K)) rfl T.b_isinstance bt_isinstance (pa_cons (pe_ix (ix_listK (K := K)) (pv 0) (pv 2) (fun _ _ => rfl)) (pa_cons (pe_bltn (v := .ty "bool") rfl T.b_bool bt_bool rfl) pa_nil)))) (pw_or1 (pt_cmpR op_ne (pe_ix (ix_listK (K := K)) (pv 0) (pv 2) (fun _ _ => rfl)) (pe_ix (ix_listK (K := K)) (pv 1) (pv 2) (fun _ _ => rfl)) (nomark _))))))
          (pss_one (ps_ret pe_bl))
          pss_nil)))
      (pss_one (ps_ret pe_bl)))), ?_⟩
    refine ⟨_, rfl, _, _, true, .lst ha, .inl ⟨_, rfl, kit_same K _⟩, _, rfl, ?_⟩
    refine iteF ?_
    refine ⟨_, rfl, _, _, rfl, .inl (SqL.of ha), _, rfl, _, _, rfl, .inl (SqL.of hb), rfl, _, rfl, ?_⟩
    refine iteNS rfl ?_
    refine ⟨_, rfl, _, _, rfl, .inl (SqL.of hb), _, rfl, (by omega), (by rw [vI_len]; omega), ?_⟩
    rw [Int.toNat_natCast, vI_len]
    refine for_range (lo := 0) (n := ks.length) (fun i σ H2 => ∃ v, σ = [some (.ref a), some (.ref b), v] ∧ H2 = H) ⟨none, rfl, rfl⟩ ?_ ?_
    · rintro i σ H2 hi ⟨v, rfl, rfl⟩
      have e : atI (vI ks) (0 + (i : Int)) = some (.int ks[i]) := atI_of (by omega) (by rw [z0]; exact vI_get (List.getElem?_eq_getElem hi))
      refine ⟨_, rfl, _, rfl, _, _, _, _, rfl, rfl, SqL.of ha, e, _, _, true, .int _, .inl ⟨_, rfl, kit_same K _⟩, _, rfl, ?_⟩
      refine iteF ?_
      refine ⟨_, rfl, _, rfl, _, _, _, _, rfl, rfl, SqL.of ha, e, _, _, false, .int _, .inl ⟨_, rfl, kit_ib K⟩, _, rfl, ?_⟩
      refine iteF ?_
      refine ⟨_, rfl, _, rfl, _, _, _, _, rfl, rfl, SqL.of ha, e, _, rfl, _, rfl, _, _, _, _, rfl, rfl, SqL.of hb, e, rfl, _, rfl, ?_⟩
      refine iteNS rfl ?_
      exact ⟨_, rfl, rfl⟩
    · rintro σ H2 ⟨v, rfl, rfl⟩
      exact k
def sp_dsame (t : Adr) : Sp := fun vs H Q _ => ∃ (d dx a b c x y z : Addr) (qs rs : List Addr) (th : List Int) (tss : List (List Int)) (tr : List Int), vs = [.ref d, .ref x, .ref y, .ref z] ∧ IsD t H d dx a b c qs th tss tr ∧ H x = some (.lst (vI th)) ∧ NL H y rs tss ∧ H z = some (.lst (vI tr)) ∧ Ft th tss tr ∧ Q (.bl true) H
theorem ok_law_draft_same (T : Txt K mg t) : FnOk P w K mg base CX0 2 t.f_law_draft_same t.d_law_draft_same ["draft", "threading", "ties", "treading"] (sp_dsame t) := by
  have G_law_numbers_same : FnOk P w K mg base CX0 1 t.f_law_numbers_same t.d_law_numbers_same _ _ := ok_law_numbers_same T
  refine T.law_draft_same.F.ok sc_law_draft_same (fun vs H Q E h => ?_) (fun cdv A outer s H vs Q E hr h => ?_)
  · obtain ⟨d, dx, a, b, c, x, y, z, qs, rs, th, tss, tr, rfl, _⟩ := h
    rfl
  · obtain ⟨d, dx, a, b, c, x, y, z, qs, rs, th, tss, tr, rfl, D, hx, N, hz, F, k⟩ := h
    have m40 := F.m40
    have n40 := F.n40
    have t40 := F.t40
    refine ⟨_, (pss_cons (ps_if (PW.pt (pw_or (pt_not (pt_val (pe_call (G_law_numbers_same.mono (by decide)) hr rfl T.law_numbers_same.m T.law_numbers_same.F.kp T.law_numbers_same.b .nil pass0 (pa_cons (pe_fldK (K := K) (pv 0) rfl) (pa_cons (pv 1) pa_nil))))) (pw_or1 (pt_not (pt_val (pe_call (G_law_numbers_same.mono (by decide)) hr rfl T.law_numbers_same.m T.law_numbers_same.F.kp T.law_numbers_same.b .nil pass0 (pa_cons (pe_fldK (K := K) (pv 0) rfl) (pa_cons (pv 3) pa_nil))))))))
        (pss_one (ps_ret pe_bl))
        pss_nil)
      (pss_cons (ps_if (PW.pt (pw_or (pt_not (pt_val (pe_callB (call_isiK (K := K)) rfl T.b_isinstance bt_isinstance (pa_cons (pe_fldK (K := K) (pv 0) rfl) (pa_cons (pe_bltn (v := .ty "list") rfl T.b_list bt_list rfl) pa_nil))))) (pw_or1 (pt_cmpR op_ne (pe_callB (call_len_seqK (K := K)) rfl T.b_len bt_len (pa_cons (pe_fldK (K := K) (pv 0) rfl) pa_nil)) (pe_callB (call_len_seqK (K := K)) rfl T.b_len bt_len (pa_cons (pv 2) pa_nil)) (nomark _)))))
        (pss_one (ps_ret pe_bl))
        pss_nil)
      (pss_cons (ps_for PassesOwn.never rfl (pi_range1 rfl T.b_range (pa_cons (pe_callB (call_len_seqK (K := K)) rfl T.b_len bt_len (pa_cons (pv 2) pa_nil)) pa_nil)) (pg_name (i := 4) sc_law_draft_same.nd rfl (Or.inl rfl))
        (pss_one (ps_if (pt_not (pt_val (pe_call (G_law_numbers_same.mono (by decide)) hr rfl T.law_numbers_same.m T.law_numbers_same.F.kp T.law_numbers_same.b .nil pass0 (pa_cons (pe_ix (ix_listK (K := K)) (pe_fldK (K := K) (pv 0) rfl) (pv 4) (fun _ _ => rfl)) (pa_cons (pe_ix (ix_listK (K := K)) (pv 2) (pv 4) (fun _ _ => rfl)) pa_nil)))))
          (pss_one (ps_ret pe_bl))
          pss_nil)))
      (pss_one (ps_ret pe_bl))))), ?_⟩
    refine ⟨_, rfl, _, _, _, _, _, rfl, D.o, T.o_Draft.c, T.na_Draft_threading, df_th a b c, _, rfl, a, x, th, rfl, D.ha, hx, by omega, _, rfl, ?_⟩
    refine iteF ?_
    refine ⟨_, rfl, _, _, _, _, _, rfl, D.o, T.o_Draft.c, T.na_Draft_treading, df_tr a b c, _, rfl, c, z, tr, rfl, D.hc, hz, by omega, _, rfl, ?_⟩
    refine iteF ?_
    refine ⟨_, rfl, _, _, _, _, _, rfl, D.o, T.o_Draft.c, T.na_Draft_ties, df_ti a b c, _, _, true, .lst D.hb.h, .inl ⟨_, rfl, kit_same K _⟩, _, rfl, ?_⟩
    refine iteF ?_
    refine ⟨_, rfl, _, _, _, _, _, rfl, D.o, T.o_Draft.c, T.na_Draft_ties, df_ti a b c, _, _, rfl, .inl (SqL.of D.hb.h), _, rfl, _, _, rfl, .inl (SqL.of N.h), rfl, _, rfl, ?_⟩
    refine iteNS (by rw [List.length_map, List.length_map, D.hb.l, N.l]) ?_
    refine ⟨_, rfl, _, _, rfl, .inl (SqL.of N.h), _, rfl, (by omega), (by rw [List.length_map, N.l]; omega), ?_⟩
    rw [Int.toNat_natCast, List.length_map, N.l]
    refine for_range (lo := 0) (n := tss.length) (fun i σ H2 => ∃ v, σ = [some (.ref d), some (.ref x), some (.ref y), some (.ref z), v] ∧ H2 = H) ⟨none, rfl, rfl⟩ ?_ ?_
    · rintro i σ H2 hi ⟨v, rfl, rfl⟩
      have hiq : i < qs.length := by rw [D.hb.l]; exact hi
      have hir : i < rs.length := by rw [N.l]; exact hi
      have e1 : atI (qs.map V.ref) (0 + (i : Int)) = some (.ref qs[i]) := atI_of (by omega) (by rw [z0, List.getElem?_map, List.getElem?_eq_getElem hiq]; rfl)
      have e2 : atI (rs.map V.ref) (0 + (i : Int)) = some (.ref rs[i]) := atI_of (by omega) (by rw [z0, List.getElem?_map, List.getElem?_eq_getElem hir]; rfl)
      have r1 := D.hb.r i _ _ (List.getElem?_eq_getElem hiq) (List.getElem?_eq_getElem hi)
      have r2 := N.r i _ _ (List.getElem?_eq_getElem hir) (List.getElem?_eq_getElem hi)
      have sh := rs_short (F.hti _ (List.getElem_mem hi))
      refine ⟨_, rfl, _, _, _, _, _, rfl, D.o, T.o_Draft.c, T.na_Draft_ties, df_ti a b c, _, rfl, _, _, _, _, rfl, rfl, SqL.of D.hb.h, e1, _, rfl, _, rfl, _, _, _, _, rfl, rfl, SqL.of N.h, e2, qs[i], rs[i], tss[i], rfl, r1, r2, sh, _, rfl, ?_⟩
      refine iteF ?_
      exact ⟨_, rfl, rfl⟩
    · rintro σ H2 ⟨v, rfl, rfl⟩
      exact k
theorem six_at {a b c d e f z : Int} (h0 : 0 ≤ z) (h6 : z < 6) : ∃ r : Int, atI [V.int a, V.int b, V.int c, V.int d, V.int e, V.int f] z = some (.int r) := by
  have : z = 0 ∨ z = 1 ∨ z = 2 ∨ z = 3 ∨ z = 4 ∨ z = 5 := by omega
  rcases this with h | h | h | h | h | h <;> subst h <;> exact ⟨_, rfl⟩
theorem four_at {a b c d z : Int} (h0 : 0 ≤ z) (h6 : z < 4) : ∃ r : Int, atI [V.int a, V.int b, V.int c, V.int d] z = some (.int r) := by
  have : z = 0 ∨ z = 1 ∨ z = 2 ∨ z = 3 := by omega
  rcases this with h | h | h | h <;> subst h <;> exact ⟨_, rfl⟩
theorem nat_of_mod (z : Int) {m : Nat} (hm : 1 ≤ m) : ∃ x : Nat, z % (m : Int) = (x : Int) ∧ x < m := by
  have h1 := Int.emod_nonneg z (show (m : Int) ≠ 0 by omega)
  have h2 := Int.emod_lt_of_pos z (show 0 < (m : Int) by omega)
  exact ⟨(z % (m : Int)).toNat, by omega, by omega⟩
def sp_oddn : Sp := fun vs H Q _ => ∃ (n : Int), vs = [.int n] ∧ ∀ (z : Int) (H' : Hp), Same H H' → Q (.int z) H'
theorem ok_law_odd (T : Txt K mg t) : FnOk P w K mg base CX0 1 t.f_law_odd t.d_law_odd ["number"] sp_oddn := by
  refine T.law_odd.F.ok sc_law_odd (fun vs H Q E h => ?_) (fun cdv A outer s H vs Q E hr h => ?_)
  · obtain ⟨n, rfl, _⟩ := h
    rfl
  · obtain ⟨n, rfl, k⟩ := h
    refine ⟨_, (pss_one (ps_ret (pe_ix (ix_listK (K := K)) (pe_lst (pa_cons (pe_un un_neg pe_int) (pa_cons pe_int (pa_cons pe_int (pa_cons (pe_un un_neg pe_int) (pa_cons (pe_op op_add (pe_op op_mod (pv 0) (pe_op op_pow pe_int pe_int)) pe_int) (pa_cons (pe_op op_sub (pe_un un_neg pe_int) (pe_op op_mod (pv 0) (pe_op op_pow pe_int pe_int))) pa_nil))))))) (pe_op op_mod (pv 0) pe_int) (fun _ _ => rfl)))), ?_⟩
    refine ⟨_, rfl, _, rfl, ?_⟩
    refine ⟨_, rfl, _, _, rfl, rfl, ⟨by decide, by decide, by decide⟩, _, _, rfl, rfl, (by show (0 : Int) < 10 ^ 59; decide), _, _, rfl, rfl, ?_⟩
    refine ⟨_, rfl, _, rfl, _, _, rfl, rfl, ⟨by decide, by decide, by decide⟩, _, _, rfl, rfl, (by show (0 : Int) < 10 ^ 59; decide), _, _, rfl, rfl, ?_⟩
    refine ⟨(by show 6 ≤ sizeLine; decide), fun l nl => ?_⟩
    obtain ⟨r, er⟩ := six_at (a := -1) (b := 40) (c := 41) (d := -40) (e := n % (10 : Int) ^ (59 : Int).toNat + 40) (f := -1 - n % (10 : Int) ^ (59 : Int).toNat) (z := n % 6) (Int.emod_nonneg _ (by decide)) (Int.emod_lt_of_pos _ (by decide))
    exact ⟨_, rfl, _, _, rfl, rfl, (by show (0 : Int) < 6; decide), _, _, _, _, rfl, rfl, SqL.of upd_same, er, k r _ (.upd nl)⟩
theorem cutV_mem {xs : List V} {lo hi : Option Int} {v : V} (h : v ∈ cutV xs lo hi) : v ∈ xs := by
  unfold cutV at h
  exact List.mem_of_mem_drop (List.mem_of_mem_take h)
theorem cutV_len (xs : List V) (lo hi : Option Int) : (cutV xs lo hi).length ≤ xs.length := by
  unfold cutV
  rw [List.length_take, List.length_drop]
  omega
def sp_oflen (K : PySem.W.Frag) : Sp := fun vs H Q _ => ∃ (a : Addr) (xs : List V) (n : Nat), vs = [.ref a, .int (n : Int)] ∧ SqL K H a xs ∧ xs.length ≤ 100 ∧ n ≤ 41 ∧
  ∀ (l : Addr) (ys : List V) (H' : Hp), Same H H' → H l = none → H' l = some (.lst ys) → (∀ v ∈ ys, v ∈ xs) → ys.length ≤ 100 → Q (.ref l) H'
theorem ok_law_of_length (T : Txt K mg t) : FnOk P w K mg base CX0 1 t.f_law_of_length t.d_law_of_length ["part", "length"] (sp_oflen K) := by
  refine T.law_of_length.F.ok sc_law_of_length (fun vs H Q E h => ?_) (fun cdv A outer s H vs Q E hr h => ?_)
  · obtain ⟨a, xs, n, rfl, _⟩ := h
    rfl
  · obtain ⟨a, xs, n, rfl, hS, xl, n41, k⟩ := h
    have hsz : sizeLine = 16777216 := sizeLine_eq
    refine ⟨_, (pss_cons (ps_set (i := 2) sc_law_of_length.nd rfl (Or.inl rfl) (pe_callTy (call_list_ofK (K := K)) rfl T.b_list bt_list (pa_cons (pv 0) pa_nil)))
      (pss_cons (ps_while PassesOwn.never (PW.pt (pw_and (pt_cmpR (op_neE (K := K) (hr.units0)) (pv 2) (pe_lst pa_nil) (nomark _)) (pw_and1 (pt_cmpR op_lt (pe_callB (call_len_seqK (K := K)) rfl T.b_len bt_len (pa_cons (pv 2) pa_nil)) (pv 1) (nomark _)))))
        (pss_one (ps_expr (pe_bmK (K := K) PySem.F.plainAttrs_list PySem.F.slot_list_append PySem.F.type_list_append mt_append (pv 2) (pa_cons (pe_ix (ix_listK (K := K)) (pv 2) (pe_op op_mod (pe_callB (call_len_seqK (K := K)) rfl T.b_len bt_len (pa_cons (pv 2) pa_nil)) (pe_callB (call_len_seqK (K := K)) rfl T.b_len bt_len (pa_cons (pv 0) pa_nil))) (fun _ _ => rfl)) pa_nil)))))
      (pss_one (ps_ret (pe_slice (sl_listK (K := K)) (pv 2) po_none (po_some (pv 1))))))), ?_⟩
    refine ⟨_, rfl, _, _, rfl, .inl hS, fun l nl => ?_⟩
    have s1 : Same H (upd H l (.lst xs)) := .upd nl
    refine ⟨fun m σ H2 => ∃ ys, σ = [some (.ref a), some (.int (n : Int)), some (.ref l)] ∧ Same H H2 ∧ H2 l = some (.lst ys) ∧ (∀ v ∈ ys, v ∈ xs) ∧ xs.length ≤ ys.length ∧ ys.length ≤ 100 ∧ (xs = [] → ys = []) ∧ m = 100 - ys.length,
      ⟨_, xs, rfl, s1, upd_same, fun _ h => h, Nat.le_refl _, xl, fun h => h, rfl⟩, ?_⟩
    rintro m σ H2 ⟨ys, rfl, s2, hl2, hm, hl3, hl4, he, rfl⟩
    have fin : ∀ H3, Same H2 H3 → ∀ p : Addr, H3 p = none → Q (.ref p) (upd H3 p (.lst (cutV ys none (some (n : Int))))) := fun H3 s3 p hp =>
      k p _ _ ((s2.trans s3).new hp) ((s2.trans s3).free hp) upd_same (fun v hv => hm v (cutV_mem hv)) (Nat.le_trans (cutV_len ..) hl4)
    refine ⟨_, rfl, Nat.zero_le _, fun q hq => ?_⟩
    have s3 : Same H2 (upd H2 q (.lst [])) := .upd hq
    have hq3 : (upd H2 q (.lst [])) q = some (.lst []) := upd_same
    generalize upd H2 q (.lst []) = H3 at s3 hq3 ⊢
    have hl5 := s3 _ _ hl2
    refine ⟨_, _, _, rfl, rfl, SqL.of hl5, SqL.of hq3, _, rfl, ?_⟩
    by_cases hy : ys = []
    · subst hy
      refine iteF (iteF ?_)
      exact ⟨_, rfl, _, rfl, _, rfl, _, _, rfl, SqL.of hl5, fun p hp => fin H3 s3 p hp⟩
    · have e0 : (!ys.isEmpty) = true := by
        cases ys with
        | nil => exact absurd rfl hy
        | cons a b => rfl
      have x1 : 1 ≤ xs.length := by
        cases xs with
        | nil => exact absurd (he rfl) hy
        | cons a b => simp
      rw [e0]
      refine iteT ?_
      refine ⟨_, rfl, _, _, rfl, .inl (SqL.of hl5), _, rfl, _, _, rfl, rfl, _, rfl, ?_⟩
      refine ite2D (fun h => ?_) (fun h => ?_)
      · refine ⟨_, fun _ _ z => z, ?_⟩
        have hj : ys.length % xs.length < ys.length := Nat.lt_of_lt_of_le (Nat.mod_lt _ (by omega)) hl3
        have ej : ((ys.length : Nat) : Int) % ((xs.length : Nat) : Int) = ((ys.length % xs.length : Nat) : Int) := by rw [Int.natCast_emod]
        refine ⟨_, rfl, .inl ⟨rfl, _, SqL.of hl5⟩, _, rfl, _, rfl, _, _, rfl, .inl (SqL.of hl5), _, rfl, _, _, rfl, .inl ((s2.trans s3).seq hS), _, _, rfl, rfl, (by show (0 : Int) < ((xs.length : Nat) : Int); omega), ?_⟩
        refine ⟨_, _, _, _, rfl, rfl, SqL.of hl5, (by rw [ej]; exact atI_of (by omega) (by rw [Int.toNat_natCast]; exact List.getElem?_eq_getElem hj)), ?_⟩
        refine ⟨_, _, _, rfl, rfl, hl5, (by omega), ?_⟩
        refine ⟨100 - (ys ++ [ys[ys.length % xs.length]]).length, ?_, _, rfl, (s2.trans s3).over nl, upd_same, fun v hv => ?_, ?_, ?_, fun z => ?_, rfl⟩
        · rw [List.length_append, List.length_singleton]; omega
        · rcases List.mem_append.mp hv with h | h
          · exact hm v h
          · rw [List.mem_singleton.mp h]; exact hm _ (List.getElem_mem hj)
        · rw [List.length_append, List.length_singleton]; omega
        · rw [List.length_append, List.length_singleton]; omega
        · rw [z] at x1; simp at x1
      · exact ⟨_, rfl, _, rfl, _, rfl, _, _, rfl, SqL.of hl5, fun p hp => fin H3 s3 p hp⟩
end
end Mine

set_option Elab.async false
set_option linter.all false
set_option maxRecDepth 100000
set_option maxHeartbeats 4000000
namespace Mine
open PySem L2
section
variable {P : Program} {w : World} {K : PySem.W.Frag} {mg : Str → Option Value} {base : Heap} {t : Adr}
theorem cutI_to {ks : List Int} {r : Nat} (h : r ≤ ks.length) : cutV (vI ks) none (some (r : Int)) = vI (ks.take r) := by
  unfold cutV
  rw [HT.sIx_none, HT.sIx_nat, List.drop_zero, vI_len, Nat.min_eq_left h, Nat.sub_zero]
  unfold vI
  rw [List.map_take]
theorem cutI_from {ks : List Int} {r : Nat} (h : r ≤ ks.length) : cutV (vI ks) (some (r : Int)) none = vI (ks.drop r) := by
  unfold cutV
  have e1 : HT.sIx (vI ks).length 0 (some (r : Int)) = r := by rw [HT.sIx_nat, vI_len, Nat.min_eq_left h]
  have e2 : HT.sIx (vI ks).length (vI ks).length none = (vI ks).length := rfl
  rw [e1, e2, List.take_of_length_le (by rw [List.length_drop]; omega)]
  unfold vI
  rw [List.map_drop]
theorem vI_two (a b : List Int) : vI a ++ vI b = vI (a ++ b) := by unfold vI; rw [List.map_append]
theorem by_rest0 {G R : Prop} (main : (Unit → R) → G) (rest : R) : G := main fun _ => rest
theorem by_rest1 {G : Prop} {R : Nat → Prop} (C : Nat → Prop) (main : (∀ m, C m → R m) → G) (rest : ∀ m, C m → R m) : G := main rest
theorem by_restHp {G : Prop} {R : Hp → Prop} (C : Hp → Prop) (main : (∀ H, C H → R H) → G) (rest : ∀ H, C H → R H) : G := main rest
def sp_tiech (K : PySem.W.Frag) : Sp := fun vs H Q _ => ∃ (a : Addr) (ks : List Int) (way n : Int), vs = [.ref a, .int way, .int n] ∧ H a = some (.lst (vI ks)) ∧ ks.length ≤ 2000 ∧
  ∀ (l : Addr) (zs : List Int) (H' : Hp), Same H H' → H l = none → H' l = some (.lst (vI zs)) → zs.length ≤ ks.length + 2 → Q (.ref l) H'
theorem ok_law_tie_changed (T : Txt K mg t) : FnOk P w K mg base CX0 2 t.f_law_tie_changed t.d_law_tie_changed ["tie", "way", "number"] (sp_tiech K) := by
  have G_law_odd : FnOk P w K mg base CX0 1 t.f_law_odd t.d_law_odd _ _ := ok_law_odd T
  refine T.law_tie_changed.F.ok sc_law_tie_changed (fun vs H Q E h => ?_) (fun cdv A outer s H vs Q E hr h => ?_)
  · obtain ⟨a, ks, way, n, rfl, _⟩ := h
    rfl
  · obtain ⟨a, ks, way, n, rfl, ha, hl, k⟩ := h
    have hsz : sizeLine = 16777216 := sizeLine_eq
    obtain ⟨r, er, hr1⟩ := nat_of_mod n (m := ks.length + 1) (by omega)
    have er : n % ((ks.length : Int) + 1) = (r : Int) := by rw [← er]; rfl
    refine ⟨_, (pss_cons (ps_set (i := 3) sc_law_tie_changed.nd rfl (Or.inl rfl) (pe_op op_mod (pv 2) (pe_op op_add (pe_callB (call_len_seqK (K := K)) rfl T.b_len bt_len (pa_cons (pv 0) pa_nil)) pe_int)))
      (pss_cons (ps_if (pt_cmpR op_eq (pv 1) pe_int (nomark _))
        (pss_one (ps_ret (pe_op op_cat (pe_op op_cat (pe_slice (sl_listK (K := K)) (pv 0) po_none (po_some (pv 3))) (pe_lst (pa_cons (pe_call (G_law_odd.mono (by decide)) hr rfl T.law_odd.m T.law_odd.F.kp T.law_odd.b .nil pass0 (pa_cons (pe_op op_fdiv (pv 2) pe_int) pa_nil)) pa_nil))) (pe_slice (sl_listK (K := K)) (pv 0) (po_some (pv 3)) po_none))))
        pss_nil)
      (pss_cons (ps_if (pt_cmpR (op_eqE (K := K) (hr.units0)) (pv 0) (pe_lst pa_nil) (nomark _))
        (pss_one (ps_ret (pe_lst (pa_cons pe_int (pa_cons pe_int pa_nil)))))
        pss_nil)
      (pss_cons (ps_set (i := 3) sc_law_tie_changed.nd rfl (Or.inl rfl) (pe_op op_mod (pv 2) (pe_callB (call_len_seqK (K := K)) rfl T.b_len bt_len (pa_cons (pv 0) pa_nil))))
      (pss_cons (ps_if (PW.pt (pw_or (pt_cmpR op_eq (pv 1) pe_int (nomark _)) (pw_or1 (pt_cmpR op_eq (pe_callB (call_len_seqK (K := K)) rfl T.b_len bt_len (pa_cons (pv 0) pa_nil)) pe_int (nomark _)))))
        (pss_one (ps_ret (pe_op op_cat (pe_op op_cat (pe_slice (sl_listK (K := K)) (pv 0) po_none (po_some (pv 3))) (pe_lst (pa_cons (pe_ix (ix_listK (K := K)) (pv 0) (pv 3) (fun _ _ => rfl)) pa_nil))) (pe_slice (sl_listK (K := K)) (pv 0) (po_some (pv 3)) po_none))))
        pss_nil)
      (pss_cons (ps_if (pt_cmpR op_eq (pv 3) pe_int (nomark _))
        (pss_one (ps_set (i := 3) sc_law_tie_changed.nd rfl (Or.inl rfl) pe_int))
        pss_nil)
      (pss_one (ps_ret (pe_op op_cat (pe_op op_cat (pe_slice (sl_listK (K := K)) (pv 0) po_none (po_some (pe_op op_sub (pv 3) pe_int))) (pe_lst (pa_cons (pe_ix (ix_listK (K := K)) (pv 0) (pv 3) (fun _ _ => rfl)) (pa_cons (pe_ix (ix_listK (K := K)) (pv 0) (pe_op op_sub (pv 3) pe_int) (fun _ _ => rfl)) pa_nil)))) (pe_slice (sl_listK (K := K)) (pv 0) (po_some (pe_op op_add (pv 3) pe_int)) po_none)))))))))), ?_⟩
    refine ⟨_, rfl, _, rfl, _, _, rfl, .inl (SqL.of ha), _, _, rfl, rfl, _, _, rfl, rfl, (by rw [vI_len]; show (0 : Int) < (ks.length : Int) + 1; omega), ?_⟩
    rw [vI_len]
    dsimp only
    rw [er]
    refine ⟨_, rfl, rfl, _, rfl, ?_⟩
    refine ite2D (fun _ => ?_) (fun _ => ?_)
    · refine ⟨_, rfl, _, rfl, _, rfl, _, _, rfl, SqL.of ha, fun l1 n1 => ?_⟩
      rw [cutI_to (by omega)]
      have s1 : Same H (upd H l1 (.lst (vI (ks.take r)))) := .upd n1
      have h1 : (upd H l1 (.lst (vI (ks.take r)))) l1 = some (.lst (vI (ks.take r))) := upd_same
      generalize upd H l1 (.lst (vI (ks.take r))) = H1 at s1 h1 ⊢
      refine ⟨_, rfl, _, _, rfl, rfl, ⟨by decide, by decide⟩, _, rfl, fun z H2 s2 => ?_⟩
      refine ⟨(by show 1 ≤ sizeLine; decide), fun l2 n2 => ?_⟩
      have s3 : Same H2 (upd H2 l2 (.lst [.int z])) := .upd n2
      have h3 : (upd H2 l2 (.lst [.int z])) l2 = some (.lst (vI [z])) := upd_same
      generalize upd H2 l2 (.lst [.int z]) = H3 at s3 h3 ⊢
      refine ⟨_, _, _, _, rfl, rfl, (s2.trans s3) _ _ h1, h3, (by rw [vI_len, vI_len, List.length_take]; show _ + 1 ≤ sizeLine; omega), fun l3 n3 => ?_⟩
      rw [vI_two]
      have s4 : Same H3 (upd H3 l3 (.lst (vI (ks.take r ++ [z])))) := .upd n3
      have h4 : (upd H3 l3 (.lst (vI (ks.take r ++ [z])))) l3 = some (.lst (vI (ks.take r ++ [z]))) := upd_same
      generalize upd H3 l3 (.lst (vI (ks.take r ++ [z]))) = H4 at s4 h4 ⊢
      have u4 := s1.trans (s2.trans (s3.trans s4))
      refine ⟨_, rfl, _, rfl, _, rfl, _, _, rfl, SqL.of (u4 _ _ ha), fun l4 n4 => ?_⟩
      rw [cutI_from (by omega)]
      have s5 : Same H4 (upd H4 l4 (.lst (vI (ks.drop r)))) := .upd n4
      have h5 : (upd H4 l4 (.lst (vI (ks.drop r)))) l4 = some (.lst (vI (ks.drop r))) := upd_same
      generalize upd H4 l4 (.lst (vI (ks.drop r))) = H5 at s5 h5 ⊢
      refine ⟨_, _, _, _, rfl, rfl, s5 _ _ h4, h5, (by rw [vI_len, vI_len, List.length_append, List.length_take, List.length_drop, List.length_singleton]; omega), fun l6 n6 => ?_⟩
      rw [vI_two]
      exact k l6 _ _ ((u4.trans s5).new n6) ((u4.trans s5).free n6) upd_same (by rw [List.length_append, List.length_append, List.length_take, List.length_drop, List.length_singleton]; omega)
    refine ⟨_, rfl, Nat.zero_le _, fun q hq => ?_⟩
    have s0 : Same H (upd H q (.lst [])) := .upd hq
    have hq0 : (upd H q (.lst [])) q = some (.lst []) := upd_same
    generalize upd H q (.lst []) = H0 at s0 hq0 ⊢
    have ha0 := s0 _ _ ha
    refine ⟨_, _, _, rfl, rfl, SqL.of ha0, SqL.of hq0, _, rfl, ?_⟩
    by_cases hk : ks = []
    · subst hk
      refine iteT ?_
      exact ⟨(by show 2 ≤ sizeLine; decide), fun l nl => k l [5, 3] _ (s0.new nl) (s0.free nl) upd_same (by decide)⟩
    have k1 : 1 ≤ ks.length := by
      cases ks with
      | nil => exact absurd rfl hk
      | cons a b => simp
    have e0 : (vI ks).isEmpty = false := by
      cases ks with
      | nil => exact absurd rfl hk
      | cons a b => rfl
    rw [e0]
    refine iteF ?_
    obtain ⟨q2, eq2, hq2⟩ := nat_of_mod n (m := ks.length) k1
    refine ⟨_, rfl, _, rfl, _, _, rfl, .inl (SqL.of ha0), _, _, rfl, rfl, (by rw [vI_len]; omega), ?_⟩
    rw [vI_len]
    dsimp only
    rw [eq2]
    have at2 : ∀ j : Nat, ∀ hj : j < ks.length, atI (vI ks) (j : Int) = some (.int ks[j]) := fun j hj => atI_of (by omega) (by rw [Int.toNat_natCast]; exact vI_get (List.getElem?_eq_getElem hj))
    apply by_rest0
    · intro first
      refine ⟨_, rfl, rfl, _, rfl, ?_⟩
      refine ite2D (fun _ => iteT (first ())) (fun _ => ?_)
      refine ⟨_, rfl, _, _, rfl, .inl (SqL.of ha0), rfl, _, rfl, ?_⟩
      refine ite2D (fun _ => first ()) (fun hne => ?_)
      have k2 : 2 ≤ ks.length := by
        have : ks.length ≠ 1 := fun z => hne (by rw [vI_len, z]; rfl)
        omega
      apply by_rest1 (fun m => 1 ≤ m ∧ m < ks.length)
      · intro rest
        refine ⟨_, rfl, rfl, _, rfl, ?_⟩
        refine ite2D (fun _ => ?_) (fun hz => ?_)
        rotate_left
        · have q3 : 1 ≤ q2 := Nat.pos_of_ne_zero fun z => hz (by rw [z]; rfl)
          obtain ⟨j, ej⟩ : ∃ j, j = q2 := ⟨_, rfl⟩
          rw [← ej] at q3 hq2 ⊢
          exact rest j ⟨q3, hq2⟩
        · exact rest 1 ⟨Nat.le_refl _, by omega⟩
      rintro j ⟨j1, j2⟩
      refine ⟨_, rfl, _, rfl, _, _, rfl, rfl, _, rfl, _, _, rfl, SqL.of ha0, fun l1 n1 => ?_⟩
      rw [show (j : Int) - 1 = ((j - 1 : Nat) : Int) by omega, cutI_to (by omega)]
      have s1 : Same H0 (upd H0 l1 (.lst (vI (ks.take (j - 1))))) := .upd n1
      have h1 : (upd H0 l1 (.lst (vI (ks.take (j - 1))))) l1 = some (.lst (vI (ks.take (j - 1)))) := upd_same
      generalize upd H0 l1 (.lst (vI (ks.take (j - 1)))) = H1 at s1 h1 ⊢
      have ha1 := s1 _ _ ha0
      have hj0 : j - 1 < ks.length := by omega
      refine ⟨_, rfl, _, rfl, _, _, _, _, rfl, rfl, SqL.of ha1, at2 j j2, _, rfl, _, rfl, _, _, rfl, rfl, _, _, _, _, rfl, rfl, SqL.of ha1, (by rw [show (j : Int) - 1 = ((j - 1 : Nat) : Int) by omega]; exact at2 (j - 1) hj0), (by show 2 ≤ sizeLine; decide), fun l2 n2 => ?_⟩
      have s3 : Same H1 (upd H1 l2 (.lst [.int ks[j], .int ks[j - 1]])) := .upd n2
      have h3 : (upd H1 l2 (.lst [.int ks[j], .int ks[j - 1]])) l2 = some (.lst (vI [ks[j], ks[j - 1]])) := upd_same
      generalize upd H1 l2 (.lst [.int ks[j], .int ks[j - 1]]) = H3 at s3 h3 ⊢
      refine ⟨_, _, _, _, rfl, rfl, s3 _ _ h1, h3, (by rw [vI_len, vI_len, List.length_take]; show _ + 2 ≤ sizeLine; omega), fun l3 n3 => ?_⟩
      rw [vI_two]
      have s4 : Same H3 (upd H3 l3 (.lst (vI (ks.take (j - 1) ++ [ks[j], ks[j - 1]])))) := .upd n3
      have h4 : (upd H3 l3 (.lst (vI (ks.take (j - 1) ++ [ks[j], ks[j - 1]])))) l3 = some (.lst (vI (ks.take (j - 1) ++ [ks[j], ks[j - 1]]))) := upd_same
      generalize upd H3 l3 (.lst (vI (ks.take (j - 1) ++ [ks[j], ks[j - 1]]))) = H4 at s4 h4 ⊢
      have u4 := s0.trans (s1.trans (s3.trans s4))
      refine ⟨_, rfl, _, rfl, _, _, rfl, rfl, _, rfl, _, _, rfl, SqL.of (u4 _ _ ha), fun l4 n4 => ?_⟩
      rw [show (j : Int) + 1 = ((j + 1 : Nat) : Int) by omega, cutI_from (by omega)]
      have s5 : Same H4 (upd H4 l4 (.lst (vI (ks.drop (j + 1))))) := .upd n4
      have h5 : (upd H4 l4 (.lst (vI (ks.drop (j + 1))))) l4 = some (.lst (vI (ks.drop (j + 1)))) := upd_same
      generalize upd H4 l4 (.lst (vI (ks.drop (j + 1)))) = H5 at s5 h5 ⊢
      refine ⟨_, _, _, _, rfl, rfl, s5 _ _ h4, h5, (by rw [vI_len, vI_len, List.length_append, List.length_take, List.length_drop]; show _ + 2 + _ ≤ sizeLine; omega), fun l6 n6 => ?_⟩
      rw [vI_two]
      exact k l6 _ _ ((u4.trans s5).new n6) ((u4.trans s5).free n6) upd_same (by rw [List.length_append, List.length_append, List.length_take, List.length_drop]; show _ + 2 + _ ≤ _; omega)
    · refine ⟨_, rfl, _, rfl, _, rfl, _, _, rfl, SqL.of ha0, fun l1 n1 => ?_⟩
      rw [cutI_to (by omega)]
      have s1 : Same H0 (upd H0 l1 (.lst (vI (ks.take q2)))) := .upd n1
      have h1 : (upd H0 l1 (.lst (vI (ks.take q2)))) l1 = some (.lst (vI (ks.take q2))) := upd_same
      generalize upd H0 l1 (.lst (vI (ks.take q2))) = H1 at s1 h1 ⊢
      have ha1 := s1 _ _ ha0
      refine ⟨_, rfl, _, rfl, _, _, _, _, rfl, rfl, SqL.of ha1, at2 q2 hq2, (by show 1 ≤ sizeLine; decide), fun l2 n2 => ?_⟩
      have s3 : Same H1 (upd H1 l2 (.lst [.int ks[q2]])) := .upd n2
      have h3 : (upd H1 l2 (.lst [.int ks[q2]])) l2 = some (.lst (vI [ks[q2]])) := upd_same
      generalize upd H1 l2 (.lst [.int ks[q2]]) = H3 at s3 h3 ⊢
      refine ⟨_, _, _, _, rfl, rfl, s3 _ _ h1, h3, (by rw [vI_len, vI_len, List.length_take]; show _ + 1 ≤ sizeLine; omega), fun l3 n3 => ?_⟩
      rw [vI_two]
      have s4 : Same H3 (upd H3 l3 (.lst (vI (ks.take q2 ++ [ks[q2]])))) := .upd n3
      have h4 : (upd H3 l3 (.lst (vI (ks.take q2 ++ [ks[q2]])))) l3 = some (.lst (vI (ks.take q2 ++ [ks[q2]]))) := upd_same
      generalize upd H3 l3 (.lst (vI (ks.take q2 ++ [ks[q2]]))) = H4 at s4 h4 ⊢
      have u4 := s0.trans (s1.trans (s3.trans s4))
      refine ⟨_, rfl, _, rfl, _, rfl, _, _, rfl, SqL.of (u4 _ _ ha), fun l4 n4 => ?_⟩
      rw [cutI_from (by omega)]
      have s5 : Same H4 (upd H4 l4 (.lst (vI (ks.drop q2)))) := .upd n4
      have h5 : (upd H4 l4 (.lst (vI (ks.drop q2)))) l4 = some (.lst (vI (ks.drop q2))) := upd_same
      generalize upd H4 l4 (.lst (vI (ks.drop q2))) = H5 at s5 h5 ⊢
      refine ⟨_, _, _, _, rfl, rfl, s5 _ _ h4, h5, (by rw [vI_len, vI_len, List.length_append, List.length_take, List.length_drop, List.length_singleton]; omega), fun l6 n6 => ?_⟩
      rw [vI_two]
      exact k l6 _ _ ((u4.trans s5).new n6) ((u4.trans s5).free n6) upd_same (by rw [List.length_append, List.length_append, List.length_take, List.length_drop, List.length_singleton]; omega)
end
end Mine

set_option Elab.async false
set_option linter.all false
set_option maxRecDepth 100000
set_option maxHeartbeats 4000000
namespace Mine
open PySem L2
section
variable {P : Program} {w : World} {K : PySem.W.Frag} {mg : Str → Option Value} {base : Heap} {t : Adr}
/-- the three lists of a draft in a list, each at a place of its own that is new -/
structure LS (H0 H : Hp) (p x y z : Addr) (rs : List Addr) (th : List Int) (tss : List (List Int)) (tr : List Int) (B : Nat) : Prop where
  hp : H p = some (.lst [.ref x, .ref y, .ref z])
  hx : H x = some (.lst (vI th))
  ny : NL H y rs tss
  hz : H z = some (.lst (vI tr))
  fp : H0 p = none
  fx : H0 x = none
  fy : H0 y = none
  fz : H0 z = none
  pn : p ≠ x ∧ p ≠ y ∧ p ≠ z
  xn : x ≠ y ∧ x ≠ z ∧ y ≠ z
  r : ∀ q ∈ rs, q ≠ p ∧ q ≠ x ∧ q ≠ y ∧ q ≠ z
  b : th.length ≤ 100 ∧ tss.length ≤ 100 ∧ tr.length ≤ 100 ∧ ∀ ks ∈ tss, ks.length ≤ B
section
variable {H0 H H3 : Hp} {p x y z l : Addr} {rs : List Addr} {th : List Int} {tss : List (List Int)} {tr : List Int} {B : Nat}
theorem LS.same (L : LS H0 H p x y z rs th tss tr B) (s : Same H H3) : LS H0 H3 p x y z rs th tss tr B := ⟨s _ _ L.hp, s _ _ L.hx, L.ny.same s, s _ _ L.hz, L.fp, L.fx, L.fy, L.fz, L.pn, L.xn, L.r, L.b⟩
theorem LS.mono (L : LS H0 H p x y z rs th tss tr B) {B' : Nat} (h : B ≤ B') : LS H0 H p x y z rs th tss tr B' := ⟨L.hp, L.hx, L.ny, L.hz, L.fp, L.fx, L.fy, L.fz, L.pn, L.xn, L.r, L.b.1, L.b.2.1, L.b.2.2.1, fun ks h1 => Nat.le_trans (L.b.2.2.2 ks h1) h⟩
theorem LS.rsome (L : LS H0 H p x y z rs th tss tr B) {q : Addr} (h : q ∈ rs) : ∃ o, H q = some o := by
  obtain ⟨i, hi, e⟩ := List.getElem_of_mem h
  have hi2 : i < tss.length := by rw [← L.ny.l]; exact hi
  exact ⟨_, L.ny.r i q _ (by rw [← e]; exact List.getElem?_eq_getElem hi) (List.getElem?_eq_getElem hi2)⟩
/-- a new one is none of the old ones -/
theorem LS.new (L : LS H0 H p x y z rs th tss tr B) (nl : H l = none) : l ≠ p ∧ l ≠ x ∧ l ≠ y ∧ l ≠ z ∧ ∀ q ∈ rs, q ≠ l := by
  refine ⟨fun e => ?_, fun e => ?_, fun e => ?_, fun e => ?_, fun q hq e => ?_⟩
  · rw [e, L.hp] at nl; cases nl
  · rw [e, L.hx] at nl; cases nl
  · rw [e, L.ny.h] at nl; cases nl
  · rw [e, L.hz] at nl; cases nl
  · obtain ⟨o, h⟩ := L.rsome hq
    rw [e, nl] at h; cases h
theorem LS.put0 (L : LS H0 H p x y z rs th tss tr B) (s : Same H H3) (nl : H l = none) (n0 : H0 l = none) {th' : List Int} (hl : H3 l = some (.lst (vI th'))) (hb : th'.length ≤ 100) : LS H0 (upd H3 p (.lst [.ref l, .ref y, .ref z])) p l y z rs th' tss tr B := by
  obtain ⟨l1, l2, l3, l4, l5⟩ := L.new nl
  have L3 := L.same s
  exact ⟨upd_same, by rw [upd_ne l1]; exact hl, ⟨by rw [upd_ne L.pn.2.1.symm]; exact L3.ny.h, L.ny.l, fun i a ks h1 h2 => by rw [upd_ne (L.r a (List.mem_of_getElem? h1)).1]; exact L3.ny.r i a ks h1 h2⟩, by rw [upd_ne L.pn.2.2.symm]; exact L3.hz,
    L.fp, n0, L.fy, L.fz, ⟨l1.symm, L.pn.2⟩, ⟨l3, l4, L.xn.2.2⟩, fun q hq => ⟨(L.r q hq).1, l5 q hq, (L.r q hq).2.2⟩, hb, L.b.2⟩
theorem LS.put2 (L : LS H0 H p x y z rs th tss tr B) (s : Same H H3) (nl : H l = none) (n0 : H0 l = none) {tr' : List Int} (hl : H3 l = some (.lst (vI tr'))) (hb : tr'.length ≤ 100) : LS H0 (upd H3 p (.lst [.ref x, .ref y, .ref l])) p x y l rs th tss tr' B := by
  obtain ⟨l1, l2, l3, l4, l5⟩ := L.new nl
  have L3 := L.same s
  exact ⟨upd_same, by rw [upd_ne L.pn.1.symm]; exact L3.hx, ⟨by rw [upd_ne L.pn.2.1.symm]; exact L3.ny.h, L.ny.l, fun i a ks h1 h2 => by rw [upd_ne (L.r a (List.mem_of_getElem? h1)).1]; exact L3.ny.r i a ks h1 h2⟩, by rw [upd_ne l1]; exact hl,
    L.fp, L.fx, L.fy, n0, ⟨L.pn.1, L.pn.2.1, l1.symm⟩, ⟨L.xn.1, l2.symm, l3.symm⟩, fun q hq => ⟨(L.r q hq).1, (L.r q hq).2.1, (L.r q hq).2.2.1, l5 q hq⟩, L.b.1, L.b.2.1, hb, L.b.2.2.2⟩
theorem LS.put1 (L : LS H0 H p x y z rs th tss tr B) (s : Same H H3) (nl : H l = none) (n0 : H0 l = none) {ys : List V} (hl : H3 l = some (.lst ys)) (hs : ∀ v ∈ ys, v ∈ rs.map V.ref) (hb : ys.length ≤ 100) : ∃ rs' tss', LS H0 (upd H3 p (.lst [.ref x, .ref l, .ref z])) p x l z rs' th tss' tr B := by
  obtain ⟨l1, l2, l3, l4, l5⟩ := L.new nl
  have L3 := L.same s
  have key : ∀ ys : List V, (∀ v ∈ ys, v ∈ rs.map V.ref) → ∃ (rs' : List Addr) (tss' : List (List Int)), ys = rs'.map V.ref ∧ rs'.length = tss'.length ∧ (∀ q ∈ rs', q ∈ rs) ∧ (∀ ks ∈ tss', ks ∈ tss) ∧ ∀ (i : Nat) (a : Addr) (ks : List Int), rs'[i]? = some a → tss'[i]? = some ks → H3 a = some (.lst (vI ks)) := by
    intro ys
    induction ys with
    | nil => intro _; exact ⟨[], [], rfl, rfl, fun q h => (by cases h), fun q h => (by cases h), fun i a ks h => by simp at h⟩
    | cons v ys ih =>
      intro hs
      obtain ⟨rs', tss', e1, e2, e3, e4, e5⟩ := ih fun w hw => hs w (List.mem_cons_of_mem _ hw)
      obtain ⟨i, hi, ei⟩ := List.getElem_of_mem (hs v List.mem_cons_self)
      obtain ⟨r, ks, er, hr, hk, hH⟩ := L3.ny.at (i := i) (a := v) (by rw [← ei]; exact List.getElem?_eq_getElem hi)
      subst er
      refine ⟨r :: rs', ks :: tss', by rw [e1]; rfl, by simp [e2], fun q hq => ?_, fun q hq => ?_, fun j a ks' h1 h2 => ?_⟩
      · rcases List.mem_cons.mp hq with h | h
        · rw [h]; exact List.mem_of_getElem? hr
        · exact e3 q h
      · rcases List.mem_cons.mp hq with h | h
        · rw [h]; exact List.mem_of_getElem? hk
        · exact e4 q h
      · cases j with
        | zero =>
          simp only [List.getElem?_cons_zero] at h1 h2
          cases h1
          cases h2
          exact hH
        | succ j =>
          rw [List.getElem?_cons_succ] at h1 h2
          exact e5 j a ks' h1 h2
  obtain ⟨rs', tss', e1, e2, e3, e4, e5⟩ := key ys hs
  subst e1
  rw [List.length_map] at hb
  exact ⟨rs', tss', upd_same, by rw [upd_ne L.pn.1.symm]; exact L3.hx, ⟨by rw [upd_ne l1]; exact hl, e2, fun i a ks h1 h2 => by rw [upd_ne (L.r a (e3 a (List.mem_of_getElem? h1))).1]; exact e5 i a ks h1 h2⟩, by rw [upd_ne L.pn.2.2.symm]; exact L3.hz,
    L.fp, L.fx, n0, L.fz, ⟨L.pn.1, l1.symm, L.pn.2.2⟩, ⟨l2.symm, L.xn.2.1, l4⟩, fun q hq => ⟨(L.r q (e3 q hq)).1, (L.r q (e3 q hq)).2.1, l5 q (e3 q hq), (L.r q (e3 q hq)).2.2.2⟩, L.b.1, by omega, L.b.2.2.1, fun ks h => L.b.2.2.2 ks (e4 ks h)⟩
theorem LS.setx (L : LS H0 H p x y z rs th tss tr B) {th' : List Int} (hb : th'.length ≤ 100) : LS H0 (upd H x (.lst (vI th'))) p x y z rs th' tss tr B :=
  ⟨by rw [upd_ne L.pn.1]; exact L.hp, upd_same, ⟨by rw [upd_ne L.xn.1.symm]; exact L.ny.h, L.ny.l, fun i a ks h1 h2 => by rw [upd_ne (L.r a (List.mem_of_getElem? h1)).2.1]; exact L.ny.r i a ks h1 h2⟩, by rw [upd_ne L.xn.2.1.symm]; exact L.hz,
    L.fp, L.fx, L.fy, L.fz, L.pn, L.xn, L.r, hb, L.b.2⟩
theorem LS.setz (L : LS H0 H p x y z rs th tss tr B) {tr' : List Int} (hb : tr'.length ≤ 100) : LS H0 (upd H z (.lst (vI tr'))) p x y z rs th tss tr' B :=
  ⟨by rw [upd_ne L.pn.2.2]; exact L.hp, by rw [upd_ne L.xn.2.1]; exact L.hx, ⟨by rw [upd_ne L.xn.2.2]; exact L.ny.h, L.ny.l, fun i a ks h1 h2 => by rw [upd_ne (L.r a (List.mem_of_getElem? h1)).2.2.2]; exact L.ny.r i a ks h1 h2⟩, upd_same,
    L.fp, L.fx, L.fy, L.fz, L.pn, L.xn, L.r, L.b.1, L.b.2.1, hb, L.b.2.2.2⟩
theorem LS.sety (L : LS H0 H p x y z rs th tss tr B) (s : Same H H3) (nl : H l = none) {zs : List Int} (hl : H3 l = some (.lst (vI zs))) (hz : zs.length ≤ B + 2) {j : Nat} (hj : j < tss.length) : LS H0 (upd H3 y (.lst ((rs.map V.ref).set j (.ref l)))) p x y z (rs.set j l) th (tss.set j zs) tr (B + 2) := by
  obtain ⟨l1, l2, l3, l4, l5⟩ := L.new nl
  have L3 := L.same s
  have mem : ∀ q ∈ rs.set j l, q ∈ rs ∨ q = l := fun q hq => List.mem_or_eq_of_mem_set hq
  refine ⟨by rw [upd_ne L.pn.2.1]; exact L3.hp, by rw [upd_ne L.xn.1]; exact L3.hx, ⟨?_, by rw [List.length_set, List.length_set, L.ny.l], fun i a ks h1 h2 => ?_⟩, by rw [upd_ne L.xn.2.2.symm]; exact L3.hz, L.fp, L.fx, L.fy, L.fz, L.pn, L.xn, fun q hq => ?_, L.b.1, by rw [List.length_set]; exact L.b.2.1, L.b.2.2.1, fun ks hk => ?_⟩
  · rw [upd_same, List.map_set]
  · have ny : a ≠ y := by
      rcases mem a (List.mem_of_getElem? h1) with h | h
      · exact (L.r a h).2.2.1
      · rw [h]; exact l3
    rw [upd_ne ny]
    rw [List.getElem?_set] at h1 h2
    by_cases e : j = i
    · rw [if_pos e, if_pos (by rw [L.ny.l]; exact e ▸ hj)] at h1
      rw [if_pos e, if_pos (e ▸ hj)] at h2
      cases h1
      cases h2
      exact hl
    · rw [if_neg e] at h1 h2
      exact L3.ny.r i a ks h1 h2
  · rcases mem q hq with h | h
    · exact L.r q h
    · rw [h]; exact ⟨l1, l2, l3, l4⟩
  · rcases List.mem_or_eq_of_mem_set hk with h | h
    · exact Nat.le_trans (L.b.2.2.2 ks h) (by omega)
    · rw [h]; exact hz
end
theorem vI_sub {th : List Int} : ∀ ys : List V, (∀ v ∈ ys, v ∈ vI th) → ∃ th' : List Int, ys = vI th' ∧ th'.length = ys.length
  | [], _ => ⟨[], rfl, rfl⟩
  | v :: ys, h => by
    obtain ⟨th', e, el⟩ := vI_sub ys fun w hw => h w (List.mem_cons_of_mem _ hw)
    have hv := h v List.mem_cons_self
    unfold vI at hv
    obtain ⟨z, _, ez⟩ := List.mem_map.mp hv
    exact ⟨z :: th', by rw [e, ← ez]; rfl, by simp [el]⟩
theorem three_at {z : Int} (h0 : 0 ≤ z) (h3 : z < 3) : ∃ n : Nat, atI [V.int 0, V.int 40, V.int 41] z = some (.int (n : Int)) ∧ n ≤ 41 := by
  have : z = 0 ∨ z = 1 ∨ z = 2 := by omega
  rcases this with h | h | h <;> subst h
  · exact ⟨0, rfl, by omega⟩
  · exact ⟨40, rfl, by omega⟩
  · exact ⟨41, rfl, by omega⟩
def sp_changed (K : PySem.W.Frag) : Sp := fun vs H Q _ => ∃ (H0 : Hp) (p x y z : Addr) (rs : List Addr) (th : List Int) (tss : List (List Int)) (tr : List Int) (B : Nat) (way n : Int), vs = [.ref p, .int way, .int n] ∧ 0 ≤ way ∧ Same H0 H ∧ LS H0 H p x y z rs th tss tr B ∧ B ≤ 1500 ∧
  ∀ (H' : Hp) (x' y' z' : Addr) (rs' : List Addr) (th' : List Int) (tss' : List (List Int)) (tr' : List Int), Same H0 H' → LS H0 H' p x' y' z' rs' th' tss' tr' (B + 2) → Q .non H'
theorem ok_law_changed (T : Txt K mg t) : FnOk P w K mg base CX0 3 t.f_law_changed t.d_law_changed ["lists", "way", "number"] (sp_changed K) := by
  have G_law_odd : FnOk P w K mg base CX0 1 t.f_law_odd t.d_law_odd _ _ := ok_law_odd T
  have G_law_of_length : FnOk P w K mg base CX0 1 t.f_law_of_length t.d_law_of_length _ _ := ok_law_of_length T
  have G_law_tie_changed : FnOk P w K mg base CX0 2 t.f_law_tie_changed t.d_law_tie_changed _ _ := ok_law_tie_changed T
  refine T.law_changed.F.ok sc_law_changed (fun vs H Q E h => ?_) (fun cdv A outer s H vs Q E hr h => ?_)
  · obtain ⟨H0, p, x, y, z, rs, th, tss, tr, B, way, n, rfl, _⟩ := h
    rfl
  · obtain ⟨H0, p, x, y, z, rs, th, tss, tr, B, way, n, rfl, w0, s0, L, hB, k⟩ := h
    have hsz : sizeLine = 16777216 := sizeLine_eq
    have a0 : atI [V.ref x, V.ref y, V.ref z] 0 = some (.ref x) := atI_of (by decide) rfl
    have a1 : atI [V.ref x, V.ref y, V.ref z] 1 = some (.ref y) := atI_of (by decide) rfl
    have a2 : atI [V.ref x, V.ref y, V.ref z] 2 = some (.ref z) := atI_of (by decide) rfl
    refine ⟨_, (pss_cons (ps_set (i := 3) sc_law_changed.nd rfl (Or.inl rfl) (pe_ix (ix_listK (K := K)) (pv 0) pe_int (fun _ _ => rfl)))
      (pss_cons (ps_set (i := 4) sc_law_changed.nd rfl (Or.inl rfl) (pe_ix (ix_listK (K := K)) (pv 0) pe_int (fun _ _ => rfl)))
      (pss_cons (ps_set (i := 5) sc_law_changed.nd rfl (Or.inl rfl) (pe_ix (ix_listK (K := K)) (pv 0) pe_int (fun _ _ => rfl)))
      (pss_one (ps_if (pt_cmpR op_lt (pv 1) pe_int (nomark _))
        (pss_cons (ps_set (i := 6) sc_law_changed.nd rfl (Or.inl rfl) (pe_ix (ix_listK (K := K)) (pe_lst (pa_cons pe_int (pa_cons pe_int (pa_cons pe_int pa_nil)))) (pe_op op_mod (pv 2) pe_int) (fun _ _ => rfl)))
        (pss_one (ps_asg (pe_call (G_law_of_length.mono (by decide)) hr rfl T.law_of_length.m T.law_of_length.F.kp T.law_of_length.b .nil pass0 (pa_cons (pe_ix (ix_listK (K := K)) (pv 0) (pv 1) (fun _ _ => rfl)) (pa_cons (pv 6) pa_nil))) (pg_sub (pv 0) (pv 1) set_list))))
        (pss_one (ps_if (PW.pt (pw_and (pt_cmpR op_eq (pv 1) pe_int (nomark _)) (pw_and1 (pt_cmpR (op_neE (K := K) (hr.units0)) (pv 3) (pe_lst pa_nil) (nomark _)))))
          (pss_one (ps_asg (pe_call (G_law_odd.mono (by decide)) hr rfl T.law_odd.m T.law_odd.F.kp T.law_odd.b .nil pass0 (pa_cons (pe_op op_fdiv (pv 2) pe_int) pa_nil)) (pg_sub (pv 3) (pe_op op_mod (pe_op op_fdiv (pv 2) pe_int) (pe_callB (call_len_seqK (K := K)) rfl T.b_len bt_len (pa_cons (pv 3) pa_nil))) set_list)))
          (pss_one (ps_if (PW.pt (pw_and (pt_cmpR op_lt (pv 1) pe_int (nomark _)) (pw_and1 (pt_cmpR (op_neE (K := K) (hr.units0)) (pv 4) (pe_lst pa_nil) (nomark _)))))
            (pss_cons (ps_set (i := 7) sc_law_changed.nd rfl (Or.inl rfl) (pe_op op_mod (pe_op op_fdiv (pv 2) pe_int) (pe_callB (call_len_seqK (K := K)) rfl T.b_len bt_len (pa_cons (pv 4) pa_nil))))
            (pss_one (ps_asg (pe_call (G_law_tie_changed.mono (by decide)) hr rfl T.law_tie_changed.m T.law_tie_changed.F.kp T.law_tie_changed.b .nil pass0 (pa_cons (pe_ix (ix_listK (K := K)) (pv 4) (pv 7) (fun _ _ => rfl)) (pa_cons (pv 1) (pa_cons (pe_op op_fdiv (pv 2) pe_int) pa_nil)))) (pg_sub (pv 4) (pv 7) set_list))))
            (pss_one (ps_if (PW.pt (pw_and (pt_cmpR op_eq (pv 1) pe_int (nomark _)) (pw_and1 (pt_cmpR (op_neE (K := K) (hr.units0)) (pv 5) (pe_lst pa_nil) (nomark _)))))
              (pss_one (ps_asg (pe_ix (ix_listK (K := K)) (pe_lst (pa_cons (pe_callB (call_len_seqK (K := K)) rfl T.b_len bt_len (pa_cons (pv 4) pa_nil)) (pa_cons (pe_un un_neg pe_int) (pa_cons (pe_un un_neg (pe_callB (call_len_seqK (K := K)) rfl T.b_len bt_len (pa_cons (pv 4) pa_nil))) (pa_cons (pe_call (G_law_odd.mono (by decide)) hr rfl T.law_odd.m T.law_odd.F.kp T.law_odd.b .nil pass0 (pa_cons (pv 2) pa_nil)) pa_nil))))) (pe_op op_mod (pe_op op_fdiv (pv 2) pe_int) pe_int) (fun _ _ => rfl)) (pg_sub (pv 5) (pe_op op_mod (pe_op op_fdiv (pv 2) pe_int) (pe_callB (call_len_seqK (K := K)) rfl T.b_len bt_len (pa_cons (pv 5) pa_nil))) set_list)))
              pss_nil))))))))))), ?_⟩
    refine ⟨_, rfl, _, _, _, _, rfl, rfl, SqL.of L.hp, a0, ?_⟩
    refine ⟨_, rfl, _, _, _, _, rfl, rfl, SqL.of L.hp, a1, ?_⟩
    refine ⟨_, rfl, _, _, _, _, rfl, rfl, SqL.of L.hp, a2, ?_⟩
    refine ⟨_, rfl, _, _, rfl, rfl, _, rfl, ?_⟩
    refine ite2D (fun w3 => ?_) (fun w3 => ?_)
    · obtain ⟨m, em, hm⟩ := three_at (z := n % 3) (Int.emod_nonneg _ (by decide)) (Int.emod_lt_of_pos _ (by decide))
      refine ⟨(by show 3 ≤ sizeLine; decide), fun lq nq => ?_⟩
      have s1 : Same H (upd H lq (.lst [.int 0, .int 40, .int 41])) := .upd nq
      refine ⟨_, rfl, _, _, rfl, rfl, (by show (0 : Int) < 3; decide), _, _, _, _, rfl, rfl, SqL.of upd_same, em, ?_⟩
      generalize upd H lq (.lst [.int 0, .int 40, .int 41]) = H1 at s1 ⊢
      have L1 := L.same s1
      have u1 := s0.trans s1
      have cs : way = 0 ∨ way = 1 ∨ way = 2 := by omega
      rcases cs with e | e | e
      · subst e
        refine ⟨_, rfl, _, rfl, _, _, _, _, rfl, rfl, SqL.of L1.hp, a0, _, rfl, x, vI th, m, rfl, SqL.of L1.hx, by rw [vI_len]; exact L.b.1, hm, fun l ys H3 s3 nl hl hsub hlen => ?_⟩
        refine ⟨_, rfl, _, rfl, _, _, _, _, rfl, rfl, s3 _ _ L1.hp, ixN_of (by decide) (by show (0 : Int) < 3; decide), ?_⟩
        obtain ⟨th', ey, el⟩ := vI_sub ys hsub
        rw [ey] at hl
        exact k _ l y z rs th' tss tr ((u1.trans s3).over L.fp) ((L1.put0 s3 nl (u1.free nl) hl (by omega)).mono (by omega))
      · subst e
        refine ⟨_, rfl, _, rfl, _, _, _, _, rfl, rfl, SqL.of L1.hp, a1, _, rfl, y, rs.map V.ref, m, rfl, SqL.of L1.ny.h, by rw [List.length_map, L.ny.l]; exact L.b.2.1, hm, fun l ys H3 s3 nl hl hsub hlen => ?_⟩
        refine ⟨_, rfl, _, rfl, _, _, _, _, rfl, rfl, s3 _ _ L1.hp, ixN_of (by decide) (by show (1 : Int) < 3; decide), ?_⟩
        obtain ⟨rs', tss', L'⟩ := L1.put1 s3 nl (u1.free nl) hl hsub hlen
        exact k _ x l z rs' th tss' tr ((u1.trans s3).over L.fp) (L'.mono (by omega))
      · subst e
        refine ⟨_, rfl, _, rfl, _, _, _, _, rfl, rfl, SqL.of L1.hp, a2, _, rfl, z, vI tr, m, rfl, SqL.of L1.hz, by rw [vI_len]; exact L.b.2.2.1, hm, fun l ys H3 s3 nl hl hsub hlen => ?_⟩
        refine ⟨_, rfl, _, rfl, _, _, _, _, rfl, rfl, s3 _ _ L1.hp, ixN_of (by decide) (by show (2 : Int) < 3; decide), ?_⟩
        obtain ⟨tr', ey, el⟩ := vI_sub ys hsub
        rw [ey] at hl
        exact k _ x y l rs th tss tr' ((u1.trans s3).over L.fp) ((L1.put2 s3 nl (u1.free nl) hl (by omega)).mono (by omega))
    have fin : ∀ H2, Same H H2 → Q .non H2 := fun H2 s2 => k H2 x y z rs th tss tr (s0.trans s2) ((L.same s2).mono (by omega))
    apply by_restHp (fun H2 => Same H H2)
    · intro rest
      refine ⟨_, rfl, rfl, _, rfl, ?_⟩
      refine ite2D (fun _ => ?_) (fun _ => iteF ?_)
      rotate_left
      · obtain ⟨H', e'⟩ : ∃ H', H' = H := ⟨_, rfl⟩
        rw [← e']
        exact rest H' (by rw [e']; exact .refl _)
      refine ⟨_, rfl, Nat.zero_le _, fun q hq => ?_⟩
      have s1 : Same H (upd H q (.lst [])) := .upd hq
      have hq1 : (upd H q (.lst [])) q = some (.lst []) := upd_same
      generalize upd H q (.lst []) = H1 at s1 hq1 ⊢
      have L1 := L.same s1
      refine ⟨_, _, _, rfl, rfl, SqL.of L1.hx, SqL.of hq1, _, rfl, ?_⟩
      by_cases hth : th = []
      · subst hth
        refine iteF ?_
        exact rest H1 s1
      have e0 : (!(vI th).isEmpty) = true := by
        cases th with
        | nil => exact absurd rfl hth
        | cons a b => rfl
      have t1 : 1 ≤ th.length := by
        cases th with
        | nil => exact absurd rfl hth
        | cons a b => simp
      rw [e0]
      refine iteT ?_
      obtain ⟨j, ej, hj⟩ := nat_of_mod (n / 41) (m := th.length) t1
      refine ⟨_, rfl, _, _, rfl, rfl, ⟨by decide, by decide⟩, _, rfl, fun z' H2 s2 => ?_⟩
      have L2 := L1.same s2
      refine ⟨_, rfl, _, rfl, _, _, rfl, rfl, ⟨by decide, by decide⟩, _, rfl, _, _, rfl, .inl (SqL.of L2.hx), _, _, rfl, rfl, (by rw [vI_len]; omega), ?_⟩
      rw [vI_len]
      dsimp only
      rw [ej]
      refine ⟨_, _, _, _, rfl, rfl, L2.hx, ixN_of (by omega) (by rw [vI_len]; omega), ?_⟩
      rw [vI_set]
      exact k _ x y z rs _ tss tr (((s0.trans s1).trans s2).over L.fx) ((L2.setx (by rw [List.length_set]; exact L.b.1)).mono (by omega))
    intro H1 s1
    have L1 := L.same s1
    have u1 := s0.trans s1
    apply by_restHp (fun H2 => Same H1 H2)
    · intro rest
      refine ⟨_, rfl, _, _, rfl, rfl, _, rfl, ?_⟩
      refine ite2D (fun _ => ?_) (fun _ => iteF ?_)
      rotate_left
      · obtain ⟨H', e'⟩ : ∃ H', H' = H1 := ⟨_, rfl⟩
        rw [← e']
        exact rest H' (by rw [e']; exact .refl _)
      refine ⟨_, rfl, Nat.zero_le _, fun q hq => ?_⟩
      have s2 : Same H1 (upd H1 q (.lst [])) := .upd hq
      have hq2 : (upd H1 q (.lst [])) q = some (.lst []) := upd_same
      generalize upd H1 q (.lst []) = H2 at s2 hq2 ⊢
      have L2 := L1.same s2
      have rl : (rs.map V.ref).length = tss.length := by rw [List.length_map, L.ny.l]
      refine ⟨_, _, _, rfl, rfl, SqL.of L2.ny.h, SqL.of hq2, _, rfl, ?_⟩
      by_cases hrs : rs = []
      · have e0 : (!(rs.map V.ref).isEmpty) = false := by rw [hrs]; rfl
        rw [e0]
        refine iteF ?_
        exact rest H2 s2
      have e0 : (!(rs.map V.ref).isEmpty) = true := by
        cases rs with
        | nil => exact absurd rfl hrs
        | cons a b => rfl
      have t1 : 1 ≤ tss.length := by
        rw [← L.ny.l]
        cases rs with
        | nil => exact absurd rfl hrs
        | cons a b => simp
      rw [e0]
      refine iteT ?_
      obtain ⟨j, ej, hj⟩ := nat_of_mod (n / 41) (m := tss.length) t1
      refine ⟨_, rfl, _, _, rfl, rfl, ⟨by decide, by decide⟩, _, rfl, _, _, rfl, .inl (SqL.of L2.ny.h), _, _, rfl, rfl, (by rw [rl]; omega), ?_⟩
      rw [rl]
      dsimp only
      rw [ej]
      have hjr : j < rs.length := by rw [L.ny.l]; exact hj
      have hH := L2.ny.r j rs[j] tss[j] (List.getElem?_eq_getElem hjr) (List.getElem?_eq_getElem hj)
      refine ⟨_, rfl, _, rfl, _, _, _, _, rfl, rfl, SqL.of L2.ny.h, atI_of (by omega) (by rw [Int.toNat_natCast, List.getElem?_map, List.getElem?_eq_getElem hjr]; rfl), _, rfl, _, rfl, _, _, rfl, rfl, ⟨by decide, by decide⟩, ?_⟩
      have bj := L.b.2.2.2 _ (List.getElem_mem hj)
      refine ⟨rs[j], tss[j], way, _, rfl, hH, by omega, fun l zs H3 s3 nl hl hzl => ?_⟩
      refine ⟨_, rfl, _, rfl, _, _, _, _, rfl, rfl, s3 _ _ L2.ny.h, ixN_of (by omega) (by rw [rl]; omega), ?_⟩
      exact k _ x y z _ th _ tr (((u1.trans s2).trans s3).over L.fy) (by rw [Int.toNat_natCast]; exact L2.sety s3 nl hl (by omega) hj)
    intro H2 s2
    have L2 := L1.same s2
    have u2 := u1.trans s2
    refine ⟨_, rfl, rfl, _, rfl, ?_⟩
    refine ite2D (fun _ => ?_) (fun _ => iteF (fin H2 (s1.trans s2)))
    refine ⟨_, rfl, Nat.zero_le _, fun q hq => ?_⟩
    have s3 : Same H2 (upd H2 q (.lst [])) := .upd hq
    have hq3 : (upd H2 q (.lst [])) q = some (.lst []) := upd_same
    generalize upd H2 q (.lst []) = H3 at s3 hq3 ⊢
    have L3 := L2.same s3
    refine ⟨_, _, _, rfl, rfl, SqL.of L3.hz, SqL.of hq3, _, rfl, ?_⟩
    by_cases htr : tr = []
    · subst htr
      exact iteF (fin H3 (s1.trans (s2.trans s3)))
    have e0 : (!(vI tr).isEmpty) = true := by
      cases tr with
      | nil => exact absurd rfl htr
      | cons a b => rfl
    have t1 : 1 ≤ tr.length := by
      cases tr with
      | nil => exact absurd rfl htr
      | cons a b => simp
    rw [e0]
    refine iteT ?_
    obtain ⟨j, ej, hj⟩ := nat_of_mod (n / 41) (m := tr.length) t1
    refine ⟨_, rfl, _, _, rfl, .inl (SqL.of L3.ny.h), _, rfl, _, rfl, _, _, rfl, .inl (SqL.of L3.ny.h), _, rfl, _, rfl, _, rfl, fun z' H4 s4 => ?_⟩
    refine ⟨(by show 4 ≤ sizeLine; decide), fun l nl => ?_⟩
    obtain ⟨r, er⟩ := four_at (a := ((rs.map V.ref).length : Int)) (b := -1) (c := -((rs.map V.ref).length : Int)) (d := z') (z := n / 1681 % 4) (Int.emod_nonneg _ (by decide)) (Int.emod_lt_of_pos _ (by decide))
    have s5 : Same H4 (upd H4 l (.lst [.int ((rs.map V.ref).length : Int), .int (-1), .int (-((rs.map V.ref).length : Int)), .int z'])) := .upd nl
    refine ⟨_, rfl, _, _, rfl, rfl, ⟨by decide, by decide⟩, _, _, rfl, rfl, (by show (0 : Int) < 4; decide), _, _, _, _, rfl, rfl, SqL.of upd_same, er, ?_⟩
    generalize upd H4 l (.lst [.int ((rs.map V.ref).length : Int), .int (-1), .int (-((rs.map V.ref).length : Int)), .int z']) = H5 at s5 ⊢
    have L5 := (L3.same s4).same s5
    refine ⟨_, rfl, _, rfl, _, _, rfl, rfl, ⟨by decide, by decide⟩, _, rfl, _, _, rfl, .inl (SqL.of L5.hz), _, _, rfl, rfl, (by rw [vI_len]; omega), ?_⟩
    rw [vI_len]
    dsimp only
    rw [ej]
    refine ⟨_, _, _, _, rfl, rfl, L5.hz, ixN_of (by omega) (by rw [vI_len]; omega), ?_⟩
    rw [vI_set]
    exact k _ x y z rs th tss _ ((((u2.trans s3).trans s4).trans s5).over L.fz) ((L5.setz (by rw [List.length_set]; exact L.b.2.2.1)).mono (by omega))
end
end Mine

set_option Elab.async false
set_option linter.all false
set_option maxRecDepth 100000
set_option maxHeartbeats 4000000
namespace Mine
open PySem L2
section
variable {P : Program} {w : World} {K : PySem.W.Frag} {mg : Str → Option Value} {base : Heap} {t : Adr}
def sp_fits (K : PySem.W.Frag) : Sp := fun vs H Q _ => ∃ (p x y z : Addr) (rs : List Addr) (th : List Int) (tss : List (List Int)) (tr : List Int), vs = [.ref p] ∧ H p = some (.lst [.ref x, .ref y, .ref z]) ∧ H x = some (.lst (vI th)) ∧ NL H y rs tss ∧ H z = some (.lst (vI tr)) ∧ Bd3 th tss tr ∧ (Ft th tss tr → Q (.bl true) H) ∧ (¬ Ft th tss tr → Q (.bl false) H)
theorem ok_law_fits (T : Txt K mg t) : FnOk P w K mg base CX0 1 t.f_law_fits t.d_law_fits ["lists"] (sp_fits K) := by
  refine T.law_fits.F.ok sc_law_fits (fun vs H Q E h => ?_) (fun cdv A outer s H vs Q E hr h => ?_)
  · obtain ⟨p, x, y, z, rs, th, tss, tr, rfl, _⟩ := h
    rfl
  · obtain ⟨p, x, y, z, rs, th, tss, tr, rfl, hp, hx, N, hz, B, k1, k2⟩ := h
    have hsz : sizeLine = 16777216 := sizeLine_eq
    have rl : (rs.map V.ref).length = tss.length := by rw [List.length_map, N.l]
    have a0 : atI [V.ref x, V.ref y, V.ref z] 0 = some (.ref x) := atI_of (by decide) rfl
    have a1 : atI [V.ref x, V.ref y, V.ref z] 1 = some (.ref y) := atI_of (by decide) rfl
    have a2 : atI [V.ref x, V.ref y, V.ref z] 2 = some (.ref z) := atI_of (by decide) rfl
    refine ⟨_, (pss_cons (ps_for PassesOwn.never rfl (pi_listK (K := K) (pv 0)) (pg_name (i := 1) sc_law_fits.nd rfl (Or.inl rfl))
        (pss_one (ps_if (PW.pt (pw_or (pt_cmpR op_eq (pe_callB (call_len_seqK (K := K)) rfl T.b_len bt_len (pa_cons (pv 1) pa_nil)) pe_int (nomark _)) (pw_or1 (pt_cmpR op_gt (pe_callB (call_len_seqK (K := K)) rfl T.b_len bt_len (pa_cons (pv 1) pa_nil)) pe_int (nomark _)))))
          (pss_one (ps_ret pe_bl))
          pss_nil)))
      (pss_cons (ps_for PassesOwn.never rfl (pi_listK (K := K) (pe_ix (ix_listK (K := K)) (pv 0) pe_int (fun _ _ => rfl))) (pg_name (i := 2) sc_law_fits.nd rfl (Or.inl rfl))
        (pss_one (ps_if (PW.pt (pw_or (pt_cmpR op_lt (pv 2) pe_int (nomark _)) (pw_or1 (pt_cmpR op_gt (pv 2) pe_int (nomark _)))))
          (pss_one (ps_ret pe_bl))
          pss_nil)))
      (pss_cons (ps_for PassesOwn.never rfl (pi_listK (K := K) (pe_ix (ix_listK (K := K)) (pv 0) pe_int (fun _ _ => rfl))) (pg_name (i := 3) sc_law_fits.nd rfl (Or.inl rfl))
        (pss_one (ps_for PassesOwn.never rfl (pi_range1 rfl T.b_range (pa_cons (pe_callB (call_len_seqK (K := K)) rfl T.b_len bt_len (pa_cons (pv 3) pa_nil)) pa_nil)) (pg_name (i := 4) sc_law_fits.nd rfl (Or.inl rfl))
          (pss_cons (ps_if (PW.pt (pw_or (pt_cmpR op_lt (pe_ix (ix_listK (K := K)) (pv 3) (pv 4) (fun _ _ => rfl)) pe_int (nomark _)) (pw_or1 (pt_cmpR op_gt (pe_ix (ix_listK (K := K)) (pv 3) (pv 4) (fun _ _ => rfl)) pe_int (nomark _)))))
            (pss_one (ps_ret pe_bl))
            pss_nil)
          (pss_one (ps_if (PW.pt (pw_and (pt_cmpR op_gt (pv 4) pe_int (nomark _)) (pw_and1 (pt_cmpR op_ge (pe_ix (ix_listK (K := K)) (pv 3) (pe_op op_sub (pv 4) pe_int) (fun _ _ => rfl)) (pe_ix (ix_listK (K := K)) (pv 3) (pv 4) (fun _ _ => rfl)) (nomark _)))))
            (pss_one (ps_ret pe_bl))
            pss_nil))))))
      (pss_cons (ps_for PassesOwn.never rfl (pi_listK (K := K) (pe_ix (ix_listK (K := K)) (pv 0) pe_int (fun _ _ => rfl))) (pg_name (i := 5) sc_law_fits.nd rfl (Or.inl rfl))
        (pss_one (ps_if (PW.pt (pw_or (pt_cmpR op_lt (pv 5) pe_int (nomark _)) (pw_or1 (pt_cmpR op_ge (pv 5) (pe_callB (call_len_seqK (K := K)) rfl T.b_len bt_len (pa_cons (pe_ix (ix_listK (K := K)) (pv 0) pe_int (fun _ _ => rfl)) pa_nil)) (nomark _)))))
          (pss_one (ps_ret pe_bl))
          pss_nil)))
      (pss_one (ps_ret pe_bl)))))), ?_⟩
    refine ⟨_, rfl, _, rfl, ⟨_, SqL.of hp⟩, for_list (K := K) (a := p) (xs := [.ref x, .ref y, .ref z]) (fun i σ H2 => ∃ v1, σ = [some (.ref p), v1, none, none, none, none] ∧ H2 = H ∧ (1 ≤ i → CtOk th.length) ∧ (2 ≤ i → CtOk tss.length) ∧ (3 ≤ i → CtOk tr.length))
      ⟨none, rfl, rfl, fun h => absurd h (by omega), fun h => absurd h (by omega), fun h => absurd h (by omega)⟩ (fun i σ H2 _ ⟨_, _, e, _⟩ => e ▸ SqL.of hp) ?_ ?_⟩
    · rintro i xv σ H2 hxv ⟨v1, rfl, rfl, g1, g2, g3⟩
      have one : ∃ (q : Addr) (ws : List V), xv = .ref q ∧ H2 q = some (.lst ws) ∧ (¬ CtOk ws.length → ¬ Ft th tss tr) ∧ (CtOk ws.length → (1 ≤ i + 1 → CtOk th.length) ∧ (2 ≤ i + 1 → CtOk tss.length) ∧ (3 ≤ i + 1 → CtOk tr.length)) := by
        match i, hxv with
        | 0, hxv => cases hxv; exact ⟨x, _, rfl, hx, fun b F => b (by rw [vI_len]; exact F.set.1), fun g => ⟨fun _ => by rw [vI_len] at g; exact g, fun h => absurd h (by omega), fun h => absurd h (by omega)⟩⟩
        | 1, hxv => cases hxv; exact ⟨y, _, rfl, N.h, fun b F => b (by rw [rl]; exact F.set.2.1), fun g => ⟨fun _ => g1 (by omega), fun _ => by rw [rl] at g; exact g, fun h => absurd h (by omega)⟩⟩
        | 2, hxv => cases hxv; exact ⟨z, _, rfl, hz, fun b F => b (by rw [vI_len]; exact F.trd.1), fun g => ⟨fun _ => g1 (by omega), fun _ => g2 (by omega), fun _ => by rw [vI_len] at g; exact g⟩⟩
        | _ + 3, hxv => simp at hxv
      obtain ⟨q, ws, rfl, hq, hbad, hgood⟩ := one
      refine ⟨_, rfl, _, _, rfl, .inl (SqL.of hq), rfl, _, rfl, ?_⟩
      refine ite2D (fun h => iteT (k2 (hbad fun c => ?_))) (fun h1 => ?_)
      · have h : ((ws.length : Nat) : Int) = 0 := by injection h
        have := c.1
        omega
      refine ⟨_, rfl, _, _, rfl, .inl (SqL.of hq), _, _, rfl, rfl, _, rfl, ?_⟩
      refine ite2D (fun h => k2 (hbad fun c => ?_)) (fun h2 => ?_)
      · have := c.2
        omega
      have w0 : ws.length ≠ 0 := fun z => h1 (by rw [z]; rfl)
      exact ⟨_, rfl, rfl, hgood ⟨by omega, by omega⟩⟩
    rintro σ H2 ⟨v1, rfl, rfl, g1, g2, g3⟩
    have c1 := g1 (by show 1 ≤ 3; decide)
    have c2 := g2 (by show 2 ≤ 3; decide)
    have c3 := g3 (by show 3 ≤ 3; decide)
    -- the threading
    refine ⟨_, rfl, _, _, _, _, rfl, rfl, SqL.of hp, a0, _, rfl, ⟨_, SqL.of hx⟩, for_list (K := K) (a := x) (xs := vI th) (fun i σ H3 => ∃ v2, σ = [some (.ref p), v1, v2, none, none, none] ∧ H3 = H2 ∧ ∀ v ∈ th.take i, 0 ≤ v ∧ v < 40) ⟨none, rfl, rfl, fun v h => (by simp at h)⟩ (fun i σ H3 _ ⟨_, _, e, _⟩ => e ▸ SqL.of hx) ?_ ?_⟩
    · rintro i xv σ H3 hxv ⟨v2, rfl, rfl, hall⟩
      obtain ⟨v, hv, rfl⟩ := vI_got hxv
      have hm := List.mem_of_getElem? hv
      refine ⟨_, rfl, _, _, rfl, rfl, _, rfl, ?_⟩
      refine ite2D (fun h => iteT (k2 fun F => ?_)) (fun h1 => ?_)
      · have := F.hth v hm; omega
      refine ⟨_, rfl, _, _, rfl, rfl, _, rfl, ?_⟩
      refine ite2D (fun h => k2 fun F => ?_) (fun h2 => ?_)
      · have := F.hth v hm; omega
      refine ⟨_, rfl, rfl, fun w hw => ?_⟩
      rw [List.take_add_one, hv] at hw
      rcases List.mem_append.mp hw with h | h
      · exact hall w h
      · have e : w = v := by simpa using h
        rw [e]; omega
    rintro σ H3 ⟨v2, rfl, rfl, hth⟩
    rw [vI_len, List.take_length] at hth
    -- the ties
    refine ⟨_, rfl, _, _, _, _, rfl, rfl, SqL.of hp, a1, _, rfl, ⟨_, SqL.of N.h⟩, for_list (K := K) (a := y) (xs := rs.map V.ref) (fun i σ H4 => ∃ v3 v4, σ = [some (.ref p), v1, v2, v3, v4, none] ∧ H4 = H3 ∧ ∀ ks ∈ tss.take i, Rs ks) ⟨none, none, rfl, rfl, fun v h => (by simp at h)⟩ (fun i σ H4 _ ⟨_, _, _, e, _⟩ => e ▸ SqL.of N.h) ?_ ?_⟩
    · rintro i xv σ H4 hxv ⟨v3, v4, rfl, rfl, hall⟩
      obtain ⟨r, ks, rfl, _, hks, hr'⟩ := N.at hxv
      have hm := List.mem_of_getElem? hks
      have bl := B.2.2.2 ks hm
      refine ⟨_, rfl, _, _, rfl, .inl (SqL.of hr'), _, rfl, (by omega), (by rw [vI_len]; omega), ?_⟩
      rw [Int.toNat_natCast, vI_len]
      refine for_range (lo := 0) (n := ks.length) (fun j σ H5 => ∃ v4, σ = [some (.ref p), v1, v2, some (.ref r), v4, none] ∧ H5 = H4 ∧ RsI ks j) ⟨_, rfl, rfl, fun j a h => absurd h (by omega), fun j a b h => absurd h (by omega)⟩ ?_ ?_
      · rintro j σ H5 hj ⟨v4, rfl, rfl, R⟩
        have e1 : atI (vI ks) (0 + (j : Int)) = some (.int ks[j]) := atI_of (by omega) (by rw [z0]; exact vI_get (List.getElem?_eq_getElem hj))
        have hbad : ¬ (0 ≤ ks[j] ∧ ks[j] < 40) → ¬ Ft th tss tr := fun b F => b ((F.hti ks hm).2 _ (List.getElem_mem hj))
        refine ⟨_, rfl, _, rfl, _, _, _, _, rfl, rfl, SqL.of hr', e1, _, _, rfl, rfl, _, rfl, ?_⟩
        refine ite2D (fun h => iteT (k2 (hbad (by omega)))) (fun h1 => ?_)
        refine ⟨_, rfl, _, rfl, _, _, _, _, rfl, rfl, SqL.of hr', e1, _, _, rfl, rfl, _, rfl, ?_⟩
        refine ite2D (fun h => k2 (hbad (by omega))) (fun h2 => ?_)
        refine ⟨_, rfl, _, _, rfl, rfl, _, rfl, ?_⟩
        by_cases h0 : j = 0
        · subst h0
          refine iteDn (by omega) ?_
          exact iteF ⟨_, rfl, rfl, R.step hj ⟨by omega, by omega⟩ fun i a hi => absurd hi (by omega)⟩
        · have hj1 : j - 1 < ks.length := by omega
          have e2 : atI (vI ks) (0 + (j : Int) - 1) = some (.int ks[j - 1]) := atI_of (by omega) (by rw [show (0 + (j : Int) - 1).toNat = j - 1 by omega]; exact vI_get (List.getElem?_eq_getElem hj1))
          refine iteDp (by omega) ?_
          refine ⟨_, rfl, _, rfl, _, _, rfl, rfl, _, _, _, _, rfl, rfl, SqL.of hr', e2, _, rfl, _, rfl, _, _, _, _, rfl, rfl, SqL.of hr', e1, _, _, rfl, rfl, _, rfl, ?_⟩
          refine ite2D (fun hge => ?_) (fun hlt => ?_)
          · refine k2 fun F => ?_
            have := (F.hti ks hm).1 (j - 1) ks[j - 1] ks[j] (List.getElem?_eq_getElem hj1) (by rw [show j - 1 + 1 = j by omega]; exact List.getElem?_eq_getElem hj)
            omega
          · refine ⟨_, rfl, rfl, R.step hj ⟨by omega, by omega⟩ fun i a hi hja => ?_⟩
            have : i = j - 1 := by omega
            subst this
            rw [List.getElem?_eq_getElem hj1] at hja
            cases hja
            omega
      · rintro σ H5 ⟨v4, rfl, rfl, R⟩
        refine ⟨_, _, rfl, rfl, fun w hw => ?_⟩
        rw [List.take_add_one, hks] at hw
        rcases List.mem_append.mp hw with h | h
        · exact hall w h
        · have e : w = ks := by simpa using h
          rw [e]; exact R.all
    rintro σ H4 ⟨v3, v4, rfl, rfl, hti⟩
    rw [rl, List.take_length] at hti
    -- the treading
    refine ⟨_, rfl, _, _, _, _, rfl, rfl, SqL.of hp, a2, _, rfl, ⟨_, SqL.of hz⟩, for_list (K := K) (a := z) (xs := vI tr) (fun i σ H5 => ∃ v5, σ = [some (.ref p), v1, v2, v3, v4, v5] ∧ H5 = H4 ∧ ∀ v ∈ tr.take i, 0 ≤ v ∧ v < (tss.length : Int)) ⟨none, rfl, rfl, fun v h => (by simp at h)⟩ (fun i σ H5 _ ⟨_, _, e, _⟩ => e ▸ SqL.of hz) ?_ ?_⟩
    · rintro i xv σ H5 hxv ⟨v5, rfl, rfl, hall⟩
      obtain ⟨v, hv, rfl⟩ := vI_got hxv
      have hm := List.mem_of_getElem? hv
      refine ⟨_, rfl, _, _, rfl, rfl, _, rfl, ?_⟩
      refine ite2D (fun h => iteT (k2 fun F => ?_)) (fun h1 => ?_)
      · have := F.htr v hm; omega
      refine ⟨_, rfl, _, rfl, _, _, _, _, rfl, rfl, SqL.of hp, a1, _, _, rfl, .inl (SqL.of N.h), _, _, rfl, rfl, _, rfl, ?_⟩
      rw [rl]
      refine ite2D (fun h => k2 fun F => ?_) (fun h2 => ?_)
      · have := F.htr v hm; omega
      refine ⟨_, rfl, rfl, fun w hw => ?_⟩
      rw [List.take_add_one, hv] at hw
      rcases List.mem_append.mp hw with h | h
      · exact hall w h
      · have e : w = v := by simpa using h
        rw [e]; omega
    rintro σ H5 ⟨v5, rfl, rfl, htr⟩
    rw [vI_len, List.take_length] at htr
    exact k1 (ft_of ⟨c1, c2, hth, hti⟩ ⟨c3, htr⟩)
def sp_caught (K : PySem.W.Frag) (t : Adr) : Sp := fun vs H Q _ => ∃ (p x y z : Addr) (rs : List Addr) (th : List Int) (tss : List (List Int)) (tr : List Int), vs = [.ref p] ∧ H p = some (.lst [.ref x, .ref y, .ref z]) ∧ H x = some (.lst (vI th)) ∧ NL H y rs tss ∧ H z = some (.lst (vI tr)) ∧ Bd3 th tss tr ∧
  (Ft th tss tr → ∀ H', Same H H' → Q .non H') ∧ (¬ Ft th tss tr → ∀ ea H', Same H H' → H' ea = some (exH t.e_NoDraft ea) → Q (.ref ea) H')
theorem ok_law_caught (T : Txt K mg t) : FnOk P w K mg base CX0 6 t.f_law_caught t.d_law_caught ["lists"] (sp_caught K t) := by
  have G_Draft___init__ : FnOk P w K mg base (CX1 P w) 4 t.f_Draft___init__ t.d_Draft___init__ _ _ := okx_Draft___init__ T
  refine T.law_caught.F.ok sc_law_caught (fun vs H Q E h => ?_) (fun cdv A outer s H vs Q E hr h => ?_)
  · obtain ⟨p, x, y, z, rs, th, tss, tr, rfl, _⟩ := h
    rfl
  · obtain ⟨p, x, y, z, rs, th, tss, tr, rfl, hp, hx, N, hz, B, k1, k2⟩ := h
    have a0 : atI [V.ref x, V.ref y, V.ref z] 0 = some (.ref x) := atI_of (by decide) rfl
    have a1 : atI [V.ref x, V.ref y, V.ref z] 1 = some (.ref y) := atI_of (by decide) rfl
    have a2 : atI [V.ref x, V.ref y, V.ref z] 2 = some (.ref z) := atI_of (by decide) rfl
    refine ⟨_, (pss_cons (ps_set (i := 1) sc_law_caught.nd rfl (Or.inl rfl) pe_non)
      (pss_cons (ps_try (j := 3) ⟨rfl, rfl, rfl⟩ rfl (psxs_one (psx_set (i := 2) sc_law_caught.nd rfl (Or.inl rfl) (pex_make T.o_Draft.m (G_Draft___init__.mono (by decide)) hr rfl T.k_Draft T.m_Draft___init__.b .nil (pa_cons (pe_ix (ix_listK (K := K)) (pv 0) pe_int (fun _ _ => rfl)) (pa_cons (pe_ix (ix_listK (K := K)) (pv 0) pe_int (fun _ _ => rfl)) (pa_cons (pe_ix (ix_listK (K := K)) (pv 0) pe_int (fun _ _ => rfl)) pa_nil)))))) sc_law_caught.nd rfl rfl rfl T.k_NoDraft T.x_NoDraft.q has_base (fun _ => (pss_one (ps_set (i := 1) sc_law_caught.nd rfl (Or.inl rfl) (pv 3)))))
      (pss_one (ps_ret (pv 1))))), ?_⟩
    refine ⟨_, rfl, _, _, _, _, rfl, rfl, SqL.of hp, a0, _, rfl, _, _, _, _, rfl, rfl, SqL.of hp, a1, _, rfl, _, _, _, _, rfl, rfl, SqL.of hp, a2, fun d dx nd ndx ndd => ?_⟩
    have sd : Same H (upd (upd H dx (.own d)) d (.ins t.e_Draft dx [])) := (Same.upd ndx).over nd
    refine ⟨d, dx, x, y, z, rs, th, tss, tr, rfl, upd_same, sd _ _ hx, N.same sd, sd _ _ hz, B, fun F a' b' c' qs' H7 b7 na' nb' nc' nq' D => ⟨rfl, ?_⟩, fun nF => ?_⟩
    · have s7 : Same H H7 := fun b o e => b7 b o (fun z => by rw [z, nd] at e; cases e) (sd _ _ e)
      exact ⟨_, rfl, k1 F _ s7⟩
    · refine ⟨_, rfl, T.x_NoDraft.sub T.r_NoDraft_NoDraft, fun ea ne => ?_⟩
      refine ⟨_, rfl, ?_⟩
      exact ⟨_, rfl, k2 nF ea _ (sd.new ne) upd_same⟩
theorem kit_refS {K : PySem.W.Frag} {C D : Addr} {b : Bool} (hC : PySem.W.mroIn K C (.ref C) = some true) (i : PySem.W.isClsIn K D = true) (j : PySem.W.typeIn K (.ref D) = some (.type "type")) (r : PySem.W.mroIn K C (.ref D) = some b) : PySem.W.kitOne K (.ref C) (.ref D) = some b := by
  unfold PySem.W.kitOne
  by_cases q : (Value.ref C == Value.ref D) = true
  · rw [if_pos q]
    have e : C = D := Value.ref.inj (beq_iff_eq.mp q)
    subst e
    rw [hC] at r
    exact r
  · rw [if_neg q]
    unfold PySem.W.kitCls
    have i' : (PySem.W.clsIn K D).isSome = true := i
    have h : ((PySem.W.clsIn K D).isSome && PySem.W.typeIn K (.ref D) == some (.type "type")) = true := by rw [i', j]; rfl
    show (if _ then _ else _) = _
    rw [if_pos h]
    exact r
def sp_nodraft (t : Adr) : Sp := fun vs H Q _ => ∃ ea, vs = [.ref ea] ∧ H ea = some (exH t.e_NoDraft ea) ∧ Q (.bl true) H
theorem ok_law_no_draft (T : Txt K mg t) : FnOk P w K mg base CX0 2 t.f_law_no_draft t.d_law_no_draft ["caught"] (sp_nodraft t) := by
  have G_NoDraft_called : FnOk P w K mg base CX0 1 t.f_NoDraft_called t.d_NoDraft_called _ _ := ok_NoDraft_called T
  refine T.law_no_draft.F.ok sc_law_no_draft (fun vs H Q E h => ?_) (fun cdv A outer s H vs Q E hr h => ?_)
  · obtain ⟨ea, rfl, _⟩ := h
    rfl
  · obtain ⟨ea, rfl, he, k⟩ := h
    refine ⟨_, (pss_cons (ps_if (PW.pt (pw_or (pt_not (pt_val (pe_callB (call_isx (K := K)) rfl T.b_isinstance bt_isinstance (pa_cons (pv 0) (pa_cons (pe_glob (v := .ref t.e_WeaveError) rfl T.k_WeaveError rfl) pa_nil))))) (pw_or1 (pt_not (pt_val (pe_callB (call_isx (K := K)) rfl T.b_isinstance bt_isinstance (pa_cons (pv 0) (pa_cons (pe_bltn (v := .ty "ValueError") rfl T.b_ValueError bt_ValueError rfl) pa_nil))))))))
        (pss_one (ps_ret pe_bl))
        pss_nil)
      (pss_one (ps_ret (pe_and (pe_cmpR op_eq (pe_methE (pv 0) T.x_NoDraft.c T.m_NoDraft.m (G_NoDraft_called.mono (by decide)) hr T.m_NoDraft.b pass0) pe_str (nomark _)) (pe_one (pe_not (pe_callB (call_isx (K := K)) rfl T.b_isinstance bt_isinstance (pa_cons (pv 0) (pa_cons (pe_glob (v := .ref t.e_NoCloth) rfl T.k_NoCloth rfl) pa_nil))))))))), ?_⟩
    refine ⟨_, rfl, ea, t.e_NoDraft, true, he, T.x_NoDraft.c, .inr ⟨t.e_WeaveError, rfl, kit_ref T.r_NoDraft_NoDraft T.x_WeaveError T.r_NoDraft_WeaveError⟩, _, rfl, ?_⟩
    refine iteF ?_
    refine ⟨_, rfl, ea, t.e_NoDraft, true, he, T.x_NoDraft.c, .inl ⟨_, rfl, kit_ve T.x_NoDraft⟩, _, rfl, ?_⟩
    refine iteF ?_
    refine ⟨_, rfl, ea, rfl, he, _, rfl, rfl, _, rfl, ?_⟩
    refine iteDp rfl ?_
    exact ⟨_, rfl, ea, t.e_NoDraft, false, he, T.x_NoDraft.c, .inr ⟨t.e_NoCloth, rfl, kit_refS T.r_NoDraft_NoDraft T.i_NoCloth T.j_NoCloth T.r_NoDraft_NoCloth⟩, _, rfl, k⟩
end
end Mine

set_option Elab.async false
set_option linter.all false
set_option maxRecDepth 100000
set_option maxHeartbeats 4000000
namespace Mine
open PySem L2
section
variable {P : Program} {w : World} {K : PySem.W.Frag} {mg : Str → Option Value} {base : Heap} {t : Adr}
/-- the copies of a list of lists of numbers -/
def Cps (H0 H : Hp) (qs : List Addr) (tss : List (List Int)) (i : Nat) : Prop := qs.length = i ∧ (∀ q ∈ qs, H0 q = none) ∧ ∀ (j : Nat) (q : Addr) (ks : List Int), qs[j]? = some q → tss[j]? = some ks → H q = some (.lst (vI ks))
theorem Cps.nil (H0 H : Hp) (tss : List (List Int)) : Cps H0 H [] tss 0 := ⟨rfl, fun q hq => (by cases hq), fun j q ks h => (by simp at h)⟩
theorem Cps.add {H0 H : Hp} {qs : List Addr} {tss : List (List Int)} {i : Nat} (C : Cps H0 H qs tss i) {l : Addr} {ks' : List Int} (nl : H l = none) (n0 : H0 l = none) (hk : tss[i]? = some ks') : Cps H0 (upd H l (.lst (vI ks'))) (qs ++ [l]) tss (i + 1) := by
  obtain ⟨hq, nq, hqs⟩ := C
  refine ⟨by rw [List.length_append, hq]; rfl, fun q h => ?_, fun j q ks h1 h2 => ?_⟩
  · rcases List.mem_append.mp h with h | h
    · exact nq q h
    · rw [List.mem_singleton.mp h]; exact n0
  · by_cases hj : j < qs.length
    · rw [List.getElem?_append_left hj] at h1
      exact (Same.upd nl) _ _ (hqs j q ks h1 h2)
    · rw [List.getElem?_append_right (by omega)] at h1
      have e0 : j = i := by
        have := (List.getElem?_eq_some_iff.mp h1).1
        simp at this
        omega
      rw [show j - qs.length = 0 by omega] at h1
      have e1 : l = q := by simpa using h1
      rw [e0, hk] at h2
      cases h2
      rw [← e1]
      exact upd_same
theorem sam_ints {K : PySem.W.Frag} {H : Hp} {n : Nat} {a b : Addr} {ks : List Int} (ha : H a = some (.lst (vI ks))) (hb : H b = some (.lst (vI ks))) : SamV K H (n + 1) (.ref a) (.ref b) :=
  .lst (SqL.of ha) (SqL.of hb) rfl fun i x y hx hy => by
    rw [hx] at hy
    cases hy
    obtain ⟨z, _, rfl⟩ := vI_got hx
    exact .flat rfl
theorem sam_nl {K : PySem.W.Frag} {H : Hp} {n : Nat} {a b : Addr} {rs qs : List Addr} {tss : List (List Int)} (ha : NL H a rs tss) (hb : NL H b qs tss) : SamV K H (n + 1 + 1) (.ref a) (.ref b) :=
  .lst (SqL.of ha.h) (SqL.of hb.h) (by rw [List.length_map, List.length_map, ha.l, hb.l]) fun i x y hx hy => by
    obtain ⟨r, ks, rfl, _, h1, h2⟩ := ha.at hx
    obtain ⟨q, ks2, rfl, _, h3, h4⟩ := hb.at hy
    rw [h1] at h3
    cases h3
    exact sam_ints h2 h4
def sp_law (K : PySem.W.Frag) : Sp := fun vs H Q _ => ∃ (a : Addr) (ns : List Int), vs = [.ref a] ∧ SqL K H a (vI ns) ∧ ns.length ≤ 63 ∧ ∀ H', Q (.bl true) H'
theorem sp_law_holds {K : PySem.W.Frag} {H : Hp} {a : Addr} {ns : List Int} (hl : ns.length ≤ 63) (hS : SqL K H a (ns.map V.int)) : sp_law K [.ref a] H (fun v _ => v = .bl true) fun _ _ _ => False := ⟨a, ns, rfl, hS, hl, fun _ => rfl⟩
theorem by_restLS {G : Prop} {R : Hp → Prop} (C : Hp → Prop) (main : (∀ H, C H → R H) → G) (rest : ∀ H, C H → R H) : G := main rest
theorem ok_law (T : Txt K mg t) : FnOk P w K mg base CX0 7 t.f_law t.d_law ["script"] (sp_law K) := by
  have G_law_numbers : FnOk P w K mg base CX0 1 t.f_law_numbers t.d_law_numbers _ _ := ok_law_numbers T
  have G_law_draft_by : FnOk P w K mg base CX0 2 t.f_law_draft_by t.d_law_draft_by _ _ := ok_law_draft_by T
  have G_law_changed : FnOk P w K mg base CX0 3 t.f_law_changed t.d_law_changed _ _ := ok_law_changed T
  have G_law_caught : FnOk P w K mg base CX0 6 t.f_law_caught t.d_law_caught _ _ := ok_law_caught T
  have G_law_fits : FnOk P w K mg base CX0 1 t.f_law_fits t.d_law_fits _ _ := ok_law_fits T
  have G_law_no_draft : FnOk P w K mg base CX0 2 t.f_law_no_draft t.d_law_no_draft _ _ := ok_law_no_draft T
  have G_Draft___init__ : FnOk P w K mg base (CX1 P w) 4 t.f_Draft___init__ t.d_Draft___init__ _ _ := okx_Draft___init__ T
  have G_law_draft_same : FnOk P w K mg base CX0 2 t.f_law_draft_same t.d_law_draft_same _ _ := ok_law_draft_same T
  refine T.law.F.ok sc_law (fun vs H Q E h => ?_) (fun cdv A outer s H vs Q E hr h => ?_)
  · obtain ⟨a, ns, rfl, _⟩ := h
    rfl
  · obtain ⟨a, ns, rfl, hS, hl, k⟩ := h
    have hsz : sizeLine = 16777216 := sizeLine_eq
    refine ⟨_, (pss_cons (ps_set (i := 1) sc_law.nd rfl (Or.inl rfl) (pe_call (G_law_numbers.mono (by decide)) hr rfl T.law_numbers.m T.law_numbers.F.kp T.law_numbers.b .nil pass0 (pa_cons (pv 0) (pa_cons pe_int pa_nil))))
      (pss_cons (ps_set (i := 2) sc_law.nd rfl (Or.inl rfl) (pe_call (G_law_draft_by.mono (by decide)) hr rfl T.law_draft_by.m T.law_draft_by.F.kp T.law_draft_by.b .nil pass0 (pa_cons (pe_slice (sl_listK (K := K)) (pv 1) (po_some pe_int) po_none) pa_nil)))
      (pss_cons (ps_set (i := 3) sc_law.nd rfl (Or.inl rfl) (pe_lst (pa_cons (pe_callTy (call_list_ofK (K := K)) rfl T.b_list bt_list (pa_cons (pe_ix (ix_tupK (K := K)) (pv 2) pe_int (fun _ _ => rfl)) pa_nil)) (pa_cons (pe_comp (CompOk.mk (caps := []) (Nc := ["tie"]) rfl (by decide +kernel) (by decide +kernel) (comp_fr (sc0 := defScope s_law) rfl (by decide +kernel)) rfl rfl rfl (by decide +kernel) (fun _ _ h => by simp at h)) rfl (pi_listK (K := K) (pe_ix (ix_tupK (K := K)) (pv 2) pe_int (fun _ _ => rfl))) (fun _ _ _ _ _ => .nil) (fun _ _ _ _ _ => (pe_callTy (call_list_ofK (K := K)) rfl T.b_list bt_list (pa_cons (pv 0) pa_nil)))) (pa_cons (pe_callTy (call_list_ofK (K := K)) rfl T.b_list bt_list (pa_cons (pe_ix (ix_tupK (K := K)) (pv 2) pe_int (fun _ _ => rfl)) pa_nil)) pa_nil)))))
      (pss_cons (ps_expr (pe_call (G_law_changed.mono (by decide)) hr rfl T.law_changed.m T.law_changed.F.kp T.law_changed.b .nil pass0 (pa_cons (pv 3) (pa_cons (pe_op op_mod (pe_ix (ix_listK (K := K)) (pv 1) pe_int (fun _ _ => rfl)) pe_int) (pa_cons (pe_op op_mod (pe_op op_mul (pe_ix (ix_listK (K := K)) (pv 1) pe_int (fun _ _ => rfl)) pe_int) (pe_op op_pow pe_int pe_int)) pa_nil)))))
      (pss_cons (ps_if (pt_cmpR op_eq (pe_op op_mod (pe_ix (ix_listK (K := K)) (pv 1) pe_int (fun _ _ => rfl)) pe_int) pe_int (nomark _))
        (pss_one (ps_expr (pe_call (G_law_changed.mono (by decide)) hr rfl T.law_changed.m T.law_changed.F.kp T.law_changed.b .nil pass0 (pa_cons (pv 3) (pa_cons (pe_op op_mod (pe_op op_fdiv (pe_ix (ix_listK (K := K)) (pv 1) pe_int (fun _ _ => rfl)) pe_int) pe_int) (pa_cons (pe_op op_mod (pe_op op_mul (pe_ix (ix_listK (K := K)) (pv 1) pe_int (fun _ _ => rfl)) pe_int) (pe_op op_pow pe_int pe_int)) pa_nil))))))
        pss_nil)
      (pss_cons (ps_set (i := 4) sc_law.nd rfl (Or.inl rfl) (pe_lst (pa_cons (pe_callTy (call_list_ofK (K := K)) rfl T.b_list bt_list (pa_cons (pe_ix (ix_listK (K := K)) (pv 3) pe_int (fun _ _ => rfl)) pa_nil)) (pa_cons (pe_comp (CompOk.mk (caps := []) (Nc := ["tie"]) rfl (by decide +kernel) (by decide +kernel) (comp_fr (sc0 := defScope s_law) rfl (by decide +kernel)) rfl rfl rfl (by decide +kernel) (fun _ _ h => by simp at h)) rfl (pi_listK (K := K) (pe_ix (ix_listK (K := K)) (pv 3) pe_int (fun _ _ => rfl))) (fun _ _ _ _ _ => .nil) (fun _ _ _ _ _ => (pe_callTy (call_list_ofK (K := K)) rfl T.b_list bt_list (pa_cons (pv 0) pa_nil)))) (pa_cons (pe_callTy (call_list_ofK (K := K)) rfl T.b_list bt_list (pa_cons (pe_ix (ix_listK (K := K)) (pv 3) pe_int (fun _ _ => rfl)) pa_nil)) pa_nil)))))
      (pss_cons (ps_set (i := 5) sc_law.nd rfl (Or.inl rfl) (pe_call (G_law_caught.mono (by decide)) hr rfl T.law_caught.m T.law_caught.F.kp T.law_caught.b .nil pass0 (pa_cons (pv 4) pa_nil)))
      (pss_cons (ps_if (pt_cmpR (op_neS (K := K) (hr.units100)) (pv 4) (pv 3) (nomark _))
        (pss_one (ps_ret pe_bl))
        pss_nil)
      (pss_cons (ps_if (pt_val (pe_call (G_law_fits.mono (by decide)) hr rfl T.law_fits.m T.law_fits.F.kp T.law_fits.b .nil pass0 (pa_cons (pv 3) pa_nil)))
        (pss_cons (ps_if (pt_cmpR op_notN (pv 5) pe_non (nomark _))
          (pss_one (ps_ret pe_bl))
          pss_nil)
        (pss_cons (ps_set (i := 6) sc_law.nd rfl (Or.inl rfl) (pe_make T.o_Draft.m (G_Draft___init__.mono (by decide)) hr rfl T.k_Draft T.m_Draft___init__.b .nil passF (pa_cons (pe_ix (ix_listK (K := K)) (pv 3) pe_int (fun _ _ => rfl)) (pa_cons (pe_ix (ix_listK (K := K)) (pv 3) pe_int (fun _ _ => rfl)) (pa_cons (pe_ix (ix_listK (K := K)) (pv 3) pe_int (fun _ _ => rfl)) pa_nil)))))
        (pss_one (ps_ret (pe_call (G_law_draft_same.mono (by decide)) hr rfl T.law_draft_same.m T.law_draft_same.F.kp T.law_draft_same.b .nil pass0 (pa_cons (pv 6) (pa_cons (pe_ix (ix_listK (K := K)) (pv 4) pe_int (fun _ _ => rfl)) (pa_cons (pe_ix (ix_listK (K := K)) (pv 4) pe_int (fun _ _ => rfl)) (pa_cons (pe_ix (ix_listK (K := K)) (pv 4) pe_int (fun _ _ => rfl)) pa_nil)))))))))
        pss_nil)
      (pss_cons (ps_if (pt_not (pt_val (pe_call (G_law_no_draft.mono (by decide)) hr rfl T.law_no_draft.m T.law_no_draft.F.kp T.law_no_draft.b .nil pass0 (pa_cons (pv 5) pa_nil))))
        (pss_one (ps_ret pe_bl))
        pss_nil)
      (pss_cons (ps_set (i := 6) sc_law.nd rfl (Or.inl rfl) (pe_make T.o_Draft.m (G_Draft___init__.mono (by decide)) hr rfl T.k_Draft T.m_Draft___init__.b .nil passF (pa_cons (pe_ix (ix_tupK (K := K)) (pv 2) pe_int (fun _ _ => rfl)) (pa_cons (pe_ix (ix_tupK (K := K)) (pv 2) pe_int (fun _ _ => rfl)) (pa_cons (pe_ix (ix_tupK (K := K)) (pv 2) pe_int (fun _ _ => rfl)) pa_nil)))))
      (pss_one (ps_ret (pe_call (G_law_draft_same.mono (by decide)) hr rfl T.law_draft_same.m T.law_draft_same.F.kp T.law_draft_same.b .nil pass0 (pa_cons (pv 6) (pa_cons (pe_ix (ix_tupK (K := K)) (pv 2) pe_int (fun _ _ => rfl)) (pa_cons (pe_ix (ix_tupK (K := K)) (pv 2) pe_int (fun _ _ => rfl)) (pa_cons (pe_ix (ix_tupK (K := K)) (pv 2) pe_int (fun _ _ => rfl)) pa_nil)))))))))))))))))), ?_⟩
    refine ⟨_, rfl, a, ns, 127, rfl, hS, hl, by decide, by decide, fun ln ks H1 s1 nl hln hkl hkn => ?_⟩
    have nat : ∀ j : Nat, ∀ hj : j < ks.length, atI (vI ks) (j : Int) = some (.int ks[j]) := fun j hj => atI_of (by omega) (by rw [Int.toNat_natCast]; exact vI_get (List.getElem?_eq_getElem hj))
    refine ⟨_, rfl, _, rfl, _, _, rfl, SqL.of hln, fun l4 n4 => ?_⟩
    rw [show (4 : Int) = ((4 : Nat) : Int) from rfl, cutI_from (by omega)]
    have s2 : Same H1 (upd H1 l4 (.lst (vI (ks.drop 4)))) := .upd n4
    have hl4 : (upd H1 l4 (.lst (vI (ks.drop 4)))) l4 = some (.lst (vI (ks.drop 4))) := upd_same
    generalize upd H1 l4 (.lst (vI (ks.drop 4))) = H2 at s2 hl4 ⊢
    refine ⟨l4, ks.drop 4, rfl, SqL.of hl4, by rw [List.length_drop]; omega, by rw [List.length_drop]; omega, fun k hk => hkn k (List.mem_of_mem_drop hk), fun pb H3 x0 y0 z0' rs0 th0 tss0 tr0 s3 hpb hx0 N0 hz0 F0 => ?_⟩
    have u3 := s2.trans s3
    have hln3 := u3 _ _ hln
    have m40 := F0.m40
    have t40 := F0.t40
    have n40 := F0.n40
    have b0 : atI [V.ref x0, V.ref y0, V.ref z0'] 0 = some (.ref x0) := atI_of (by decide) rfl
    have b1 : atI [V.ref x0, V.ref y0, V.ref z0'] 1 = some (.ref y0) := atI_of (by decide) rfl
    have b2 : atI [V.ref x0, V.ref y0, V.ref z0'] 2 = some (.ref z0') := atI_of (by decide) rfl
    -- lists
    refine ⟨_, rfl, _, _, _, _, rfl, rfl, SqT.of hpb, b0, _, _, rfl, .inl (SqL.of hx0), fun lx nlx => ?_⟩
    have s4 : Same H3 (upd H3 lx (.lst (vI th0))) := .upd nlx
    have hlx4 : (upd H3 lx (.lst (vI th0))) lx = some (.lst (vI th0)) := upd_same
    generalize upd H3 lx (.lst (vI th0)) = H4 at s4 hlx4 ⊢
    have N4 := N0.same s4
    refine ⟨_, rfl, _, _, _, _, rfl, rfl, SqT.of (s4 _ _ hpb), b1, _, rfl, ⟨_, SqL.of N4.h⟩, comp_list (K := K) (a := y0) (xs := rs0.map V.ref) (fun i ys H5 => Same H4 H5 ∧ ∃ qs : List Addr, ys = qs.map V.ref ∧ Cps H4 H5 qs tss0 i) ⟨.refl _, [], rfl, Cps.nil _ _ _⟩ ?_ ?_ ?_ ?_⟩
    · rintro i ys H5 hi ⟨s5, qs, rfl, C⟩
      exact ⟨SqL.of (s5 _ _ N4.h), by rw [List.length_map, C.1]; exact Nat.le_refl _⟩
    · rw [List.length_map, N0.l]; omega
    · rintro i xv ys H5 hi hxv ⟨s5, qs, rfl, C⟩
      obtain ⟨r', ks', rfl, _, hks, hr'⟩ := N4.at hxv
      refine CTurn.no ?_
      refine ⟨_, rfl, _, _, rfl, .inl (SqL.of (s5 _ _ hr')), fun l nl => ?_⟩
      exact CN.of hi ⟨s5.new nl, qs ++ [l], by rw [List.map_append]; rfl, C.add nl (s5.free nl) hks⟩
    rintro ys H5 ly ⟨s5, qs0, rfl, C5⟩ nly
    rw [List.length_map, N0.l] at C5
    have s6' : Same H5 (upd H5 ly (.lst (qs0.map V.ref))) := .upd nly
    have hly6 : (upd H5 ly (.lst (qs0.map V.ref))) ly = some (.lst (qs0.map V.ref)) := upd_same
    generalize upd H5 ly (.lst (qs0.map V.ref)) = H6 at s6' hly6 ⊢
    have s6 := s5.trans s6'
    have N6 : NL H6 ly qs0 tss0 := ⟨hly6, C5.1, fun j q ks h1 h2 => s6' _ _ (C5.2.2 j q ks h1 h2)⟩
    have u6 := s4.trans s6
    refine ⟨_, rfl, _, _, _, _, rfl, rfl, SqT.of (u6 _ _ hpb), b2, _, _, rfl, .inl (SqL.of (u6 _ _ hz0)), fun lz nlz => ?_⟩
    have s7 : Same H6 (upd H6 lz (.lst (vI tr0))) := .upd nlz
    have hlz7 : (upd H6 lz (.lst (vI tr0))) lz = some (.lst (vI tr0)) := upd_same
    generalize upd H6 lz (.lst (vI tr0)) = H7 at s7 hlz7 ⊢
    refine ⟨(by show 3 ≤ sizeLine; decide), fun p np => ?_⟩
    have s8 : Same H7 (upd H7 p (.lst [.ref lx, .ref ly, .ref lz])) := .upd np
    have hp8 : (upd H7 p (.lst [.ref lx, .ref ly, .ref lz])) p = some (.lst [.ref lx, .ref ly, .ref lz]) := upd_same
    generalize upd H7 p (.lst [.ref lx, .ref ly, .ref lz]) = H8 at s8 hp8 ⊢
    have s78 := s7.trans s8
    have u8 : Same H3 H8 := u6.trans s78
    have dif : ∀ {a b : Addr} {Ha : Hp} {o : HO}, Ha a = some o → Ha b = none → a ≠ b := fun h1 h2 e => by rw [e, h2] at h1; cases h1
    have L8 : LS H3 H8 p lx ly lz qs0 th0 tss0 tr0 1000 := by
      refine ⟨hp8, s78 _ _ (s6 _ _ hlx4), N6.same s78, s8 _ _ hlz7, (u6.trans s7).free np, nlx, s4.free (s5.free nly), u6.free nlz, ⟨?_, ?_, ?_⟩, ⟨?_, ?_, ?_⟩, fun q hq => ?_, by omega, by omega, by omega, fun ks hk => rs_short (F0.hti ks hk)⟩
      · exact (dif ((s6.trans s7) _ _ hlx4) np).symm
      · exact (dif (s7 _ _ hly6) np).symm
      · exact (dif hlz7 np).symm
      · exact dif (s5 _ _ hlx4) nly
      · exact dif (s6 _ _ hlx4) nlz
      · exact dif hly6 nlz
      · obtain ⟨i, hi, ei⟩ := List.getElem_of_mem hq
        have hi2 : i < tss0.length := by rw [← C5.1]; exact hi
        have h5 := C5.2.2 i q _ (by rw [← ei]; exact List.getElem?_eq_getElem hi) (List.getElem?_eq_getElem hi2)
        refine ⟨dif ((s6'.trans s7) _ _ h5) np, ?_, dif h5 nly, dif (s6' _ _ h5) nlz⟩
        exact (dif hlx4 (C5.2.1 q hq)).symm
    have h0 : 0 < ks.length := by omega
    have h1 : 1 < ks.length := by omega
    have h2 : 2 < ks.length := by omega
    have h3 : 3 < ks.length := by omega
    have gn8 : SqL K H8 ln (vI ks) := SqL.of (u8 _ _ hln3)
    refine ⟨_, rfl, _, rfl, _, _, _, _, rfl, rfl, gn8, nat 0 h0, _, _, rfl, rfl, (by show (0 : Int) < 9; decide), _, rfl, _, _, _, _, rfl, rfl, gn8, nat 1 h1, _, _, rfl, rfl, .inr ⟨by decide, by decide⟩, _, _, rfl, rfl, ⟨by decide, by decide, by decide⟩, _, _, rfl, rfl, (by show (0 : Int) < 10 ^ 60; decide), ?_⟩
    refine ⟨H3, p, lx, ly, lz, qs0, th0, tss0, tr0, 1000, _, _, rfl, Int.emod_nonneg _ (by decide), u8, L8, by decide, fun H9 x1 y1 z1 rs1 th1 tss1 tr1 u9 L9 => ?_⟩
    apply by_restLS (fun H10 => Same H3 H10 ∧ ∃ x y z rs th tss tr, LS H3 H10 p x y z rs th tss tr 1004)
    · intro rest
      have gn9 : SqL K H9 ln (vI ks) := SqL.of (u9 _ _ hln3)
      refine ⟨_, rfl, _, _, _, _, rfl, rfl, gn9, nat 2 h2, _, _, rfl, rfl, (by show (0 : Int) < 3; decide), rfl, _, rfl, ?_⟩
      refine ite2D (fun _ => ?_) (fun _ => ?_)
      · refine ⟨_, rfl, _, rfl, _, _, _, _, rfl, rfl, gn9, nat 2 h2, _, _, rfl, rfl, ⟨by decide, by decide⟩, _, _, rfl, rfl, (by show (0 : Int) < 9; decide), _, rfl, _, _, _, _, rfl, rfl, gn9, nat 3 h3, _, _, rfl, rfl, .inr ⟨by decide, by decide⟩, _, _, rfl, rfl, ⟨by decide, by decide, by decide⟩, _, _, rfl, rfl, (by show (0 : Int) < 10 ^ 60; decide), ?_⟩
        refine ⟨H3, p, x1, y1, z1, rs1, th1, tss1, tr1, 1002, _, _, rfl, Int.emod_nonneg _ (by decide), u9, L9, by decide, fun H10 x2 y2 z2 rs2 th2 tss2 tr2 u10 L10 => ?_⟩
        exact rest H10 ⟨u10, x2, y2, z2, rs2, th2, tss2, tr2, L10⟩
      · exact rest H9 ⟨u9, x1, y1, z1, rs1, th1, tss1, tr1, L9.mono (by decide)⟩
    clear L9 u9 L8
    rintro H10 ⟨u10, x, y, z, rs, th, tss, tr, L⟩
    have B : Bd3 th tss tr := ⟨Nat.le_trans L.b.1 (by decide), Nat.le_trans L.b.2.1 (by decide), Nat.le_trans L.b.2.2.1 (by decide), fun ks h => Nat.le_trans (L.b.2.2.2 ks h) (by decide)⟩
    have lb1 := L.b.1
    have lb2 := L.b.2.1
    have a0 : atI [V.ref x, V.ref y, V.ref z] 0 = some (.ref x) := atI_of (by decide) rfl
    have a1 : atI [V.ref x, V.ref y, V.ref z] 1 = some (.ref y) := atI_of (by decide) rfl
    have a2 : atI [V.ref x, V.ref y, V.ref z] 2 = some (.ref z) := atI_of (by decide) rfl
    -- handed
    refine ⟨_, rfl, _, _, _, _, rfl, rfl, SqL.of L.hp, a0, _, _, rfl, .inl (SqL.of L.hx), fun hx' nhx => ?_⟩
    have s11 : Same H10 (upd H10 hx' (.lst (vI th))) := .upd nhx
    have hhx11 : (upd H10 hx' (.lst (vI th))) hx' = some (.lst (vI th)) := upd_same
    generalize upd H10 hx' (.lst (vI th)) = H11 at s11 hhx11 ⊢
    have L11 := L.same s11
    refine ⟨_, rfl, _, _, _, _, rfl, rfl, SqL.of L11.hp, a1, _, rfl, ⟨_, SqL.of L11.ny.h⟩, comp_list (K := K) (a := y) (xs := rs.map V.ref) (fun i ys H5 => Same H11 H5 ∧ ∃ qs : List Addr, ys = qs.map V.ref ∧ Cps H11 H5 qs tss i) ⟨.refl _, [], rfl, Cps.nil _ _ _⟩ ?_ ?_ ?_ ?_⟩
    · rintro i ys H5 hi ⟨s5, qs, rfl, C⟩
      exact ⟨SqL.of (s5 _ _ L11.ny.h), by rw [List.length_map, C.1]; exact Nat.le_refl _⟩
    · rw [List.length_map, L.ny.l]; omega
    · rintro i xv ys H5 hi hxv ⟨s5, qs, rfl, C⟩
      obtain ⟨r', ks', rfl, _, hks, hr'⟩ := L11.ny.at hxv
      refine CTurn.no ?_
      refine ⟨_, rfl, _, _, rfl, .inl (SqL.of (s5 _ _ hr')), fun l nl => ?_⟩
      exact CN.of hi ⟨s5.new nl, qs ++ [l], by rw [List.map_append]; rfl, C.add nl (s5.free nl) hks⟩
    rintro ys H12 hy' ⟨s12, qs, rfl, C12⟩ nhy
    rw [List.length_map, L.ny.l] at C12
    have s13' : Same H12 (upd H12 hy' (.lst (qs.map V.ref))) := .upd nhy
    have hhy13 : (upd H12 hy' (.lst (qs.map V.ref))) hy' = some (.lst (qs.map V.ref)) := upd_same
    generalize upd H12 hy' (.lst (qs.map V.ref)) = H13 at s13' hhy13 ⊢
    have s13 := s12.trans s13'
    have M13 : NL H13 hy' qs tss := ⟨hhy13, C12.1, fun j q ks h1 h2 => s13' _ _ (C12.2.2 j q ks h1 h2)⟩
    have L13 := L11.same s13
    refine ⟨_, rfl, _, _, _, _, rfl, rfl, SqL.of L13.hp, a2, _, _, rfl, .inl (SqL.of L13.hz), fun hz' nhz => ?_⟩
    have s14 : Same H13 (upd H13 hz' (.lst (vI tr))) := .upd nhz
    have hhz14 : (upd H13 hz' (.lst (vI tr))) hz' = some (.lst (vI tr)) := upd_same
    generalize upd H13 hz' (.lst (vI tr)) = H14 at s14 hhz14 ⊢
    refine ⟨(by show 3 ≤ sizeLine; decide), fun h' nh' => ?_⟩
    have s15 : Same H14 (upd H14 h' (.lst [.ref hx', .ref hy', .ref hz'])) := .upd nh'
    have hh15 : (upd H14 h' (.lst [.ref hx', .ref hy', .ref hz'])) h' = some (.lst [.ref hx', .ref hy', .ref hz']) := upd_same
    generalize upd H14 h' (.lst [.ref hx', .ref hy', .ref hz']) = H15 at s15 hh15 ⊢
    have s45 := s14.trans s15
    have L15 := L13.same s45
    have hhx15 := (s13.trans s45) _ _ hhx11
    have M15 := M13.same s45
    have hhz15 := s15 _ _ hhz14
    have u15 : Same H3 H15 := (u10.trans s11).trans (s13.trans s45)
    have hmix : ∀ H', Same H15 H' → SamS K H' h' p := fun H' s' => by
      refine ⟨[.ref hx', .ref hy', .ref hz'], [.ref x, .ref y, .ref z], SqL.of (s' _ _ hh15), SqL.of (s' _ _ L15.hp), rfl, fun i v w h1 h2 => ?_⟩
      match i, h1, h2 with
      | 0, h1, h2 => cases h1; cases h2; exact sam_ints (s' _ _ hhx15) (s' _ _ L15.hx)
      | 1, h1, h2 => cases h1; cases h2; exact sam_nl (M15.same s') (L15.ny.same s')
      | 2, h1, h2 => cases h1; cases h2; exact sam_ints (s' _ _ hhz15) (s' _ _ L15.hz)
      | _ + 3, h1, h2 => simp at h1
    have c0 : atI [V.ref hx', V.ref hy', V.ref hz'] 0 = some (.ref hx') := atI_of (by decide) rfl
    have c1 : atI [V.ref hx', V.ref hy', V.ref hz'] 1 = some (.ref hy') := atI_of (by decide) rfl
    have c2 : atI [V.ref hx', V.ref hy', V.ref hz'] 2 = some (.ref hz') := atI_of (by decide) rfl
    refine ⟨_, rfl, h', hx', hy', hz', qs, th, tss, tr, rfl, hh15, hhx15, M15, hhz15, B, fun F H16 s16 => ?_, fun nF ea H16 s16 he => ?_⟩
    · refine ⟨_, rfl, _, rfl, h', p, rfl, rfl, hmix H16 s16, _, rfl, ?_⟩
      refine iteF ?_
      have L16 := L15.same s16
      refine ⟨_, rfl, p, x, y, z, rs, th, tss, tr, rfl, L16.hp, L16.hx, L16.ny, L16.hz, B, fun _ => ?_, fun b => absurd F b⟩
      refine ⟨_, rfl, ?_⟩
      refine iteT ?_
      refine ⟨_, rfl, rfl, _, rfl, ?_⟩
      refine iteNS rfl ?_
      refine ⟨_, rfl, _, _, _, _, rfl, rfl, SqL.of L16.hp, a0, _, rfl, _, _, _, _, rfl, rfl, SqL.of L16.hp, a1, _, rfl, _, _, _, _, rfl, rfl, SqL.of L16.hp, a2, fun d dx nd ndx ndd => ?_⟩
      have sd : Same H16 (upd (upd H16 dx (.own d)) d (.ins t.e_Draft dx [])) := (Same.upd ndx).over nd
      refine ⟨d, dx, x, y, z, rs, th, tss, tr, rfl, upd_same, sd _ _ L16.hx, L16.ny.same sd, sd _ _ L16.hz, B, fun _ a' b' c' qs' H17 b17 na' nb' nc' nq' D => ⟨rfl, ?_⟩, fun b => absurd F b⟩
      have s17 : Same H16 H17 := fun b o e => b17 b o (fun z => by rw [z, nd] at e; cases e) (sd _ _ e)
      have v17 := s16.trans s17
      exact ⟨_, rfl, _, rfl, _, _, _, _, rfl, rfl, SqL.of (v17 _ _ hh15), c0, _, rfl, _, _, _, _, rfl, rfl, SqL.of (v17 _ _ hh15), c1, _, rfl, _, _, _, _, rfl, rfl, SqL.of (v17 _ _ hh15), c2,
        d, dx, a', b', c', hx', hy', hz', qs', qs, th, tss, tr, rfl, D, v17 _ _ hhx15, M15.same v17, v17 _ _ hhz15, F, k _⟩
    · refine ⟨_, rfl, _, rfl, h', p, rfl, rfl, hmix H16 s16, _, rfl, ?_⟩
      refine iteF ?_
      have L16 := L15.same s16
      refine ⟨_, rfl, p, x, y, z, rs, th, tss, tr, rfl, L16.hp, L16.hx, L16.ny, L16.hz, B, fun F => absurd F nF, fun _ => ?_⟩
      refine ⟨_, rfl, ?_⟩
      refine iteF ?_
      refine ⟨_, rfl, ea, rfl, he, _, rfl, ?_⟩
      refine iteF ?_
      have v16 := u15.trans s16
      have hpb16 := v16 _ _ hpb
      refine ⟨_, rfl, _, _, _, _, rfl, rfl, SqT.of hpb16, b0, _, rfl, _, _, _, _, rfl, rfl, SqT.of hpb16, b1, _, rfl, _, _, _, _, rfl, rfl, SqT.of hpb16, b2, fun d dx nd ndx ndd => ?_⟩
      have sd : Same H16 (upd (upd H16 dx (.own d)) d (.ins t.e_Draft dx [])) := (Same.upd ndx).over nd
      have B0 : Bd3 th0 tss0 tr0 := ⟨by omega, by omega, by omega, fun ks h => Nat.le_trans (rs_short (F0.hti ks h)) (by decide)⟩
      have w16 := v16.trans sd
      refine ⟨d, dx, x0, y0, z0', rs0, th0, tss0, tr0, rfl, upd_same, w16 _ _ hx0, N0.same w16, w16 _ _ hz0, B0, fun _ a' b' c' qs' H17 b17 na' nb' nc' nq' D => ⟨rfl, ?_⟩, fun b => absurd F0 b⟩
      have s17 : Same H16 H17 := fun b o e => b17 b o (fun z => by rw [z, nd] at e; cases e) (sd _ _ e)
      have v17 := v16.trans s17
      have hpb17 := v17 _ _ hpb
      exact ⟨_, rfl, _, rfl, _, _, _, _, rfl, rfl, SqT.of hpb17, b0, _, rfl, _, _, _, _, rfl, rfl, SqT.of hpb17, b1, _, rfl, _, _, _, _, rfl, rfl, SqT.of hpb17, b2,
        d, dx, a', b', c', x0, y0, z0', qs', rs0, th0, tss0, tr0, rfl, D, v17 _ _ hx0, N0.same v17, v17 _ _ hz0, F0, k _⟩
end
theorem law_mk {P : Program} {w : World} {K : PySem.W.Frag} {h : Heap} {mg : Str → Option Value} {fa : Addr} {f_check_setting : Addr} {od_check_setting an_check_setting : Option Addr} {sl_check_setting : Array (Option Value)} {oc_check_setting kV_check_setting dc_check_setting pm_check_setting cd_check_setting ct_check_setting : Value}
    {f_check_count : Addr} {od_check_count an_check_count : Option Addr} {sl_check_count : Array (Option Value)} {oc_check_count kV_check_count dc_check_count pm_check_count cd_check_count ct_check_count : Value}
    {f_check_shaft : Addr} {od_check_shaft an_check_shaft : Option Addr} {sl_check_shaft : Array (Option Value)} {oc_check_shaft kV_check_shaft dc_check_shaft pm_check_shaft cd_check_shaft ct_check_shaft : Value}
    {f_check_tie : Addr} {od_check_tie an_check_tie : Option Addr} {sl_check_tie : Array (Option Value)} {oc_check_tie kV_check_tie dc_check_tie pm_check_tie cd_check_tie ct_check_tie : Value}
    {f_check_treading : Addr} {od_check_treading an_check_treading : Option Addr} {sl_check_treading : Array (Option Value)} {oc_check_treading kV_check_treading dc_check_treading pm_check_treading cd_check_treading ct_check_treading : Value}
    {f_law_numbers : Addr} {od_law_numbers an_law_numbers : Option Addr} {sl_law_numbers : Array (Option Value)} {oc_law_numbers kV_law_numbers dc_law_numbers pm_law_numbers cd_law_numbers ct_law_numbers : Value}
    {f_law_subset : Addr} {od_law_subset an_law_subset : Option Addr} {sl_law_subset : Array (Option Value)} {oc_law_subset kV_law_subset dc_law_subset pm_law_subset cd_law_subset ct_law_subset : Value}
    {f_law_draft_by : Addr} {od_law_draft_by an_law_draft_by : Option Addr} {sl_law_draft_by : Array (Option Value)} {oc_law_draft_by kV_law_draft_by dc_law_draft_by pm_law_draft_by cd_law_draft_by ct_law_draft_by : Value}
    {f_law_numbers_same : Addr} {od_law_numbers_same an_law_numbers_same : Option Addr} {sl_law_numbers_same : Array (Option Value)} {oc_law_numbers_same kV_law_numbers_same dc_law_numbers_same pm_law_numbers_same cd_law_numbers_same ct_law_numbers_same : Value}
    {f_law_draft_same : Addr} {od_law_draft_same an_law_draft_same : Option Addr} {sl_law_draft_same : Array (Option Value)} {oc_law_draft_same kV_law_draft_same dc_law_draft_same pm_law_draft_same cd_law_draft_same ct_law_draft_same : Value}
    {f_law_odd : Addr} {od_law_odd an_law_odd : Option Addr} {sl_law_odd : Array (Option Value)} {oc_law_odd kV_law_odd dc_law_odd pm_law_odd cd_law_odd ct_law_odd : Value}
    {f_law_of_length : Addr} {od_law_of_length an_law_of_length : Option Addr} {sl_law_of_length : Array (Option Value)} {oc_law_of_length kV_law_of_length dc_law_of_length pm_law_of_length cd_law_of_length ct_law_of_length : Value}
    {f_law_tie_changed : Addr} {od_law_tie_changed an_law_tie_changed : Option Addr} {sl_law_tie_changed : Array (Option Value)} {oc_law_tie_changed kV_law_tie_changed dc_law_tie_changed pm_law_tie_changed cd_law_tie_changed ct_law_tie_changed : Value}
    {f_law_changed : Addr} {od_law_changed an_law_changed : Option Addr} {sl_law_changed : Array (Option Value)} {oc_law_changed kV_law_changed dc_law_changed pm_law_changed cd_law_changed ct_law_changed : Value}
    {f_law_fits : Addr} {od_law_fits an_law_fits : Option Addr} {sl_law_fits : Array (Option Value)} {oc_law_fits kV_law_fits dc_law_fits pm_law_fits cd_law_fits ct_law_fits : Value}
    {f_law_caught : Addr} {od_law_caught an_law_caught : Option Addr} {sl_law_caught : Array (Option Value)} {oc_law_caught kV_law_caught dc_law_caught pm_law_caught cd_law_caught ct_law_caught : Value}
    {f_law_no_draft : Addr} {od_law_no_draft an_law_no_draft : Option Addr} {sl_law_no_draft : Array (Option Value)} {oc_law_no_draft kV_law_no_draft dc_law_no_draft pm_law_no_draft cd_law_no_draft ct_law_no_draft : Value}
    {f_law : Addr} {od_law an_law : Option Addr} {sl_law : Array (Option Value)} {oc_law kV_law dc_law pm_law cd_law ct_law : Value}
    {q_MOST_STRANDS : Tok}
    {q_MOST_SHAFTS : Tok}
    {e_WeaveError : Addr}
    {e_NoCloth : Addr}
    {e_NoDraft : Addr}
    {f_NoDraft_called : Addr} {od_NoDraft_called an_NoDraft_called : Option Addr} {sl_NoDraft_called : Array (Option Value)} {oc_NoDraft_called kV_NoDraft_called dc_NoDraft_called pm_NoDraft_called cd_NoDraft_called ct_NoDraft_called : Value}
    {e_Draft : Addr}
    {f_Draft___init__ : Addr} {od_Draft___init__ an_Draft___init__ : Option Addr} {sl_Draft___init__ : Array (Option Value)} {oc_Draft___init__ kV_Draft___init__ dc_Draft___init__ pm_Draft___init__ cd_Draft___init__ ct_Draft___init__ : Value}
    (X : K.In h) (G : h.Ns mainGlobals mg) (hfa : mg "law" = some (.ref fa))
    (a_check_setting : PySem.W.nsIn K mainGlobals "check_setting" = some (some (.ref f_check_setting)))
    (l_check_setting : K.lookup f_check_setting = some ⟨oc_check_setting, od_check_setting, .func (PySem.W.fnOf "check_setting" "check_setting" (defArgs s_check_setting) (defBody s_check_setting) (defScope s_check_setting) .none kV_check_setting dc_check_setting pm_check_setting an_check_setting cd_check_setting ct_check_setting), sl_check_setting⟩)
    (c_check_setting : PySem.W.codeIn K cd_check_setting "check_setting" = true)
    (k_check_setting : PySem.W.keepIn K (.ref f_check_setting) = true)
    (a_check_count : PySem.W.nsIn K mainGlobals "check_count" = some (some (.ref f_check_count)))
    (l_check_count : K.lookup f_check_count = some ⟨oc_check_count, od_check_count, .func (PySem.W.fnOf "check_count" "check_count" (defArgs s_check_count) (defBody s_check_count) (defScope s_check_count) .none kV_check_count dc_check_count pm_check_count an_check_count cd_check_count ct_check_count), sl_check_count⟩)
    (c_check_count : PySem.W.codeIn K cd_check_count "check_count" = true)
    (k_check_count : PySem.W.keepIn K (.ref f_check_count) = true)
    (a_check_shaft : PySem.W.nsIn K mainGlobals "check_shaft" = some (some (.ref f_check_shaft)))
    (l_check_shaft : K.lookup f_check_shaft = some ⟨oc_check_shaft, od_check_shaft, .func (PySem.W.fnOf "check_shaft" "check_shaft" (defArgs s_check_shaft) (defBody s_check_shaft) (defScope s_check_shaft) .none kV_check_shaft dc_check_shaft pm_check_shaft an_check_shaft cd_check_shaft ct_check_shaft), sl_check_shaft⟩)
    (c_check_shaft : PySem.W.codeIn K cd_check_shaft "check_shaft" = true)
    (k_check_shaft : PySem.W.keepIn K (.ref f_check_shaft) = true)
    (a_check_tie : PySem.W.nsIn K mainGlobals "check_tie" = some (some (.ref f_check_tie)))
    (l_check_tie : K.lookup f_check_tie = some ⟨oc_check_tie, od_check_tie, .func (PySem.W.fnOf "check_tie" "check_tie" (defArgs s_check_tie) (defBody s_check_tie) (defScope s_check_tie) .none kV_check_tie dc_check_tie pm_check_tie an_check_tie cd_check_tie ct_check_tie), sl_check_tie⟩)
    (c_check_tie : PySem.W.codeIn K cd_check_tie "check_tie" = true)
    (k_check_tie : PySem.W.keepIn K (.ref f_check_tie) = true)
    (a_check_treading : PySem.W.nsIn K mainGlobals "check_treading" = some (some (.ref f_check_treading)))
    (l_check_treading : K.lookup f_check_treading = some ⟨oc_check_treading, od_check_treading, .func (PySem.W.fnOf "check_treading" "check_treading" (defArgs s_check_treading) (defBody s_check_treading) (defScope s_check_treading) .none kV_check_treading dc_check_treading pm_check_treading an_check_treading cd_check_treading ct_check_treading), sl_check_treading⟩)
    (c_check_treading : PySem.W.codeIn K cd_check_treading "check_treading" = true)
    (k_check_treading : PySem.W.keepIn K (.ref f_check_treading) = true)
    (a_law_numbers : PySem.W.nsIn K mainGlobals "_law_numbers" = some (some (.ref f_law_numbers)))
    (l_law_numbers : K.lookup f_law_numbers = some ⟨oc_law_numbers, od_law_numbers, .func (PySem.W.fnOf "_law_numbers" "_law_numbers" (defArgs s_law_numbers) (defBody s_law_numbers) (defScope s_law_numbers) .none kV_law_numbers dc_law_numbers pm_law_numbers an_law_numbers cd_law_numbers ct_law_numbers), sl_law_numbers⟩)
    (c_law_numbers : PySem.W.codeIn K cd_law_numbers "_law_numbers" = true)
    (k_law_numbers : PySem.W.keepIn K (.ref f_law_numbers) = true)
    (a_law_subset : PySem.W.nsIn K mainGlobals "_law_subset" = some (some (.ref f_law_subset)))
    (l_law_subset : K.lookup f_law_subset = some ⟨oc_law_subset, od_law_subset, .func (PySem.W.fnOf "_law_subset" "_law_subset" (defArgs s_law_subset) (defBody s_law_subset) (defScope s_law_subset) .none kV_law_subset dc_law_subset pm_law_subset an_law_subset cd_law_subset ct_law_subset), sl_law_subset⟩)
    (c_law_subset : PySem.W.codeIn K cd_law_subset "_law_subset" = true)
    (k_law_subset : PySem.W.keepIn K (.ref f_law_subset) = true)
    (a_law_draft_by : PySem.W.nsIn K mainGlobals "_law_draft_by" = some (some (.ref f_law_draft_by)))
    (l_law_draft_by : K.lookup f_law_draft_by = some ⟨oc_law_draft_by, od_law_draft_by, .func (PySem.W.fnOf "_law_draft_by" "_law_draft_by" (defArgs s_law_draft_by) (defBody s_law_draft_by) (defScope s_law_draft_by) .none kV_law_draft_by dc_law_draft_by pm_law_draft_by an_law_draft_by cd_law_draft_by ct_law_draft_by), sl_law_draft_by⟩)
    (c_law_draft_by : PySem.W.codeIn K cd_law_draft_by "_law_draft_by" = true)
    (k_law_draft_by : PySem.W.keepIn K (.ref f_law_draft_by) = true)
    (a_law_numbers_same : PySem.W.nsIn K mainGlobals "_law_numbers_same" = some (some (.ref f_law_numbers_same)))
    (l_law_numbers_same : K.lookup f_law_numbers_same = some ⟨oc_law_numbers_same, od_law_numbers_same, .func (PySem.W.fnOf "_law_numbers_same" "_law_numbers_same" (defArgs s_law_numbers_same) (defBody s_law_numbers_same) (defScope s_law_numbers_same) .none kV_law_numbers_same dc_law_numbers_same pm_law_numbers_same an_law_numbers_same cd_law_numbers_same ct_law_numbers_same), sl_law_numbers_same⟩)
    (c_law_numbers_same : PySem.W.codeIn K cd_law_numbers_same "_law_numbers_same" = true)
    (k_law_numbers_same : PySem.W.keepIn K (.ref f_law_numbers_same) = true)
    (a_law_draft_same : PySem.W.nsIn K mainGlobals "_law_draft_same" = some (some (.ref f_law_draft_same)))
    (l_law_draft_same : K.lookup f_law_draft_same = some ⟨oc_law_draft_same, od_law_draft_same, .func (PySem.W.fnOf "_law_draft_same" "_law_draft_same" (defArgs s_law_draft_same) (defBody s_law_draft_same) (defScope s_law_draft_same) .none kV_law_draft_same dc_law_draft_same pm_law_draft_same an_law_draft_same cd_law_draft_same ct_law_draft_same), sl_law_draft_same⟩)
    (c_law_draft_same : PySem.W.codeIn K cd_law_draft_same "_law_draft_same" = true)
    (k_law_draft_same : PySem.W.keepIn K (.ref f_law_draft_same) = true)
    (a_law_odd : PySem.W.nsIn K mainGlobals "_law_odd" = some (some (.ref f_law_odd)))
    (l_law_odd : K.lookup f_law_odd = some ⟨oc_law_odd, od_law_odd, .func (PySem.W.fnOf "_law_odd" "_law_odd" (defArgs s_law_odd) (defBody s_law_odd) (defScope s_law_odd) .none kV_law_odd dc_law_odd pm_law_odd an_law_odd cd_law_odd ct_law_odd), sl_law_odd⟩)
    (c_law_odd : PySem.W.codeIn K cd_law_odd "_law_odd" = true)
    (k_law_odd : PySem.W.keepIn K (.ref f_law_odd) = true)
    (a_law_of_length : PySem.W.nsIn K mainGlobals "_law_of_length" = some (some (.ref f_law_of_length)))
    (l_law_of_length : K.lookup f_law_of_length = some ⟨oc_law_of_length, od_law_of_length, .func (PySem.W.fnOf "_law_of_length" "_law_of_length" (defArgs s_law_of_length) (defBody s_law_of_length) (defScope s_law_of_length) .none kV_law_of_length dc_law_of_length pm_law_of_length an_law_of_length cd_law_of_length ct_law_of_length), sl_law_of_length⟩)
    (c_law_of_length : PySem.W.codeIn K cd_law_of_length "_law_of_length" = true)
    (k_law_of_length : PySem.W.keepIn K (.ref f_law_of_length) = true)
    (a_law_tie_changed : PySem.W.nsIn K mainGlobals "_law_tie_changed" = some (some (.ref f_law_tie_changed)))
    (l_law_tie_changed : K.lookup f_law_tie_changed = some ⟨oc_law_tie_changed, od_law_tie_changed, .func (PySem.W.fnOf "_law_tie_changed" "_law_tie_changed" (defArgs s_law_tie_changed) (defBody s_law_tie_changed) (defScope s_law_tie_changed) .none kV_law_tie_changed dc_law_tie_changed pm_law_tie_changed an_law_tie_changed cd_law_tie_changed ct_law_tie_changed), sl_law_tie_changed⟩)
    (c_law_tie_changed : PySem.W.codeIn K cd_law_tie_changed "_law_tie_changed" = true)
    (k_law_tie_changed : PySem.W.keepIn K (.ref f_law_tie_changed) = true)
    (a_law_changed : PySem.W.nsIn K mainGlobals "_law_changed" = some (some (.ref f_law_changed)))
    (l_law_changed : K.lookup f_law_changed = some ⟨oc_law_changed, od_law_changed, .func (PySem.W.fnOf "_law_changed" "_law_changed" (defArgs s_law_changed) (defBody s_law_changed) (defScope s_law_changed) .none kV_law_changed dc_law_changed pm_law_changed an_law_changed cd_law_changed ct_law_changed), sl_law_changed⟩)
    (c_law_changed : PySem.W.codeIn K cd_law_changed "_law_changed" = true)
    (k_law_changed : PySem.W.keepIn K (.ref f_law_changed) = true)
    (a_law_fits : PySem.W.nsIn K mainGlobals "_law_fits" = some (some (.ref f_law_fits)))
    (l_law_fits : K.lookup f_law_fits = some ⟨oc_law_fits, od_law_fits, .func (PySem.W.fnOf "_law_fits" "_law_fits" (defArgs s_law_fits) (defBody s_law_fits) (defScope s_law_fits) .none kV_law_fits dc_law_fits pm_law_fits an_law_fits cd_law_fits ct_law_fits), sl_law_fits⟩)
    (c_law_fits : PySem.W.codeIn K cd_law_fits "_law_fits" = true)
    (k_law_fits : PySem.W.keepIn K (.ref f_law_fits) = true)
    (a_law_caught : PySem.W.nsIn K mainGlobals "_law_caught" = some (some (.ref f_law_caught)))
    (l_law_caught : K.lookup f_law_caught = some ⟨oc_law_caught, od_law_caught, .func (PySem.W.fnOf "_law_caught" "_law_caught" (defArgs s_law_caught) (defBody s_law_caught) (defScope s_law_caught) .none kV_law_caught dc_law_caught pm_law_caught an_law_caught cd_law_caught ct_law_caught), sl_law_caught⟩)
    (c_law_caught : PySem.W.codeIn K cd_law_caught "_law_caught" = true)
    (k_law_caught : PySem.W.keepIn K (.ref f_law_caught) = true)
    (a_law_no_draft : PySem.W.nsIn K mainGlobals "_law_no_draft" = some (some (.ref f_law_no_draft)))
    (l_law_no_draft : K.lookup f_law_no_draft = some ⟨oc_law_no_draft, od_law_no_draft, .func (PySem.W.fnOf "_law_no_draft" "_law_no_draft" (defArgs s_law_no_draft) (defBody s_law_no_draft) (defScope s_law_no_draft) .none kV_law_no_draft dc_law_no_draft pm_law_no_draft an_law_no_draft cd_law_no_draft ct_law_no_draft), sl_law_no_draft⟩)
    (c_law_no_draft : PySem.W.codeIn K cd_law_no_draft "_law_no_draft" = true)
    (k_law_no_draft : PySem.W.keepIn K (.ref f_law_no_draft) = true)
    (a_law : PySem.W.nsIn K mainGlobals "law" = some (some (.ref f_law)))
    (l_law : K.lookup f_law = some ⟨oc_law, od_law, .func (PySem.W.fnOf "law" "law" (defArgs s_law) (defBody s_law) (defScope s_law) .none kV_law dc_law pm_law an_law cd_law ct_law), sl_law⟩)
    (c_law : PySem.W.codeIn K cd_law "law" = true)
    (k_law : PySem.W.keepIn K (.ref f_law) = true)
    (z_ValueError : PySem.W.nsIn K mainGlobals "ValueError" = some none)
    (z_bool : PySem.W.nsIn K mainGlobals "bool" = some none)
    (z_int : PySem.W.nsIn K mainGlobals "int" = some none)
    (z_isinstance : PySem.W.nsIn K mainGlobals "isinstance" = some none)
    (z_len : PySem.W.nsIn K mainGlobals "len" = some none)
    (z_list : PySem.W.nsIn K mainGlobals "list" = some none)
    (z_range : PySem.W.nsIn K mainGlobals "range" = some none)
    (x_MOST_STRANDS : PySem.W.nsIn K mainGlobals "MOST_STRANDS" = some (some (.int 40 q_MOST_STRANDS)))
    (x_MOST_SHAFTS : PySem.W.nsIn K mainGlobals "MOST_SHAFTS" = some (some (.int 40 q_MOST_SHAFTS)))
    (n_WeaveError : PySem.W.nsIn K mainGlobals "WeaveError" = some (some (.ref e_WeaveError)))
    (n_NoCloth : PySem.W.nsIn K mainGlobals "NoCloth" = some (some (.ref e_NoCloth)))
    (n_NoDraft : PySem.W.nsIn K mainGlobals "NoDraft" = some (some (.ref e_NoDraft)))
    (y1_WeaveError : PySem.W.excIn K e_WeaveError vE vN = true)
    (y2_WeaveError : PySem.W.findIn K (.ref e_WeaveError) "__getattribute__" = some (some (.builtin "BaseException.__getattribute__")))
    (y3_WeaveError : PySem.W.findIn K (.ref e_WeaveError) "__getattr__" = some none)
    (y4_WeaveError : PySem.W.findIn K (.ref e_WeaveError) "__class__" = some (some (.builtin "object.__class__")))
    (y5_WeaveError : PySem.W.specialIn K (.builtin "object.__class__") "__get__" = some (some (.builtin "getset_descriptor.__get__")))
    (y6_WeaveError : PySem.W.takesIn K (.builtin "object.__class__") = some true)
    (y7_WeaveError : PySem.W.mroIn K e_WeaveError (.type "object") = some true)
    (y8_WeaveError : PySem.W.mroIn K e_WeaveError (.type "BaseException") = some true)
    (y9_WeaveError : PySem.W.isClsIn K e_WeaveError = true)
    (y10_WeaveError : PySem.W.typeIn K (.ref e_WeaveError) = some (.type "type"))
    (y11_WeaveError : PySem.W.mroIn K e_WeaveError (.type "ValueError") = some true)
    (y9_NoCloth : PySem.W.isClsIn K e_NoCloth = true)
    (y10_NoCloth : PySem.W.typeIn K (.ref e_NoCloth) = some (.type "type"))
    (y1_NoDraft : PySem.W.excIn K e_NoDraft vE vN = true)
    (y2_NoDraft : PySem.W.findIn K (.ref e_NoDraft) "__getattribute__" = some (some (.builtin "BaseException.__getattribute__")))
    (y3_NoDraft : PySem.W.findIn K (.ref e_NoDraft) "__getattr__" = some none)
    (y4_NoDraft : PySem.W.findIn K (.ref e_NoDraft) "__class__" = some (some (.builtin "object.__class__")))
    (y7_NoDraft : PySem.W.mroIn K e_NoDraft (.type "object") = some true)
    (y8_NoDraft : PySem.W.mroIn K e_NoDraft (.type "BaseException") = some true)
    (y9_NoDraft : PySem.W.isClsIn K e_NoDraft = true)
    (y10_NoDraft : PySem.W.typeIn K (.ref e_NoDraft) = some (.type "type"))
    (y11_NoDraft : PySem.W.mroIn K e_NoDraft (.type "ValueError") = some true)
    (r_NoDraft_WeaveError : PySem.W.mroIn K e_NoDraft (.ref e_WeaveError) = some true)
    (r_NoDraft_NoCloth : PySem.W.mroIn K e_NoDraft (.ref e_NoCloth) = some false)
    (r_NoDraft_NoDraft : PySem.W.mroIn K e_NoDraft (.ref e_NoDraft) = some true)
    (fm_NoDraft : PySem.W.findIn K (.ref e_NoDraft) "called" = some (some (.ref f_NoDraft_called)))
    (gm_NoDraft : PySem.W.isFn K (.ref f_NoDraft_called) = true)
    (lm_NoDraft : K.lookup f_NoDraft_called = some ⟨oc_NoDraft_called, od_NoDraft_called, .func (PySem.W.fnOf "called" "NoDraft.called" (defArgs s_NoDraft_called) (defBody s_NoDraft_called) (defScope s_NoDraft_called) .none kV_NoDraft_called dc_NoDraft_called pm_NoDraft_called an_NoDraft_called cd_NoDraft_called ct_NoDraft_called), sl_NoDraft_called⟩)
    (cm_NoDraft : PySem.W.codeIn K cd_NoDraft_called "NoDraft.called" = true)
    (km_NoDraft : PySem.W.keepIn K (.ref f_NoDraft_called) = true)
    (n_Draft : PySem.W.nsIn K mainGlobals "Draft" = some (some (.ref e_Draft)))
    (fm_Draft___init__ : PySem.W.findIn K (.ref e_Draft) "__init__" = some (some (.ref f_Draft___init__)))
    (gm_Draft___init__ : PySem.W.isFn K (.ref f_Draft___init__) = true)
    (lm_Draft___init__ : K.lookup f_Draft___init__ = some ⟨oc_Draft___init__, od_Draft___init__, .func (PySem.W.fnOf "__init__" "Draft.__init__" (defArgs s_Draft___init__) (defBody s_Draft___init__) (defScope s_Draft___init__) .none kV_Draft___init__ dc_Draft___init__ pm_Draft___init__ an_Draft___init__ cd_Draft___init__ ct_Draft___init__), sl_Draft___init__⟩)
    (cm_Draft___init__ : PySem.W.codeIn K cd_Draft___init__ "Draft.__init__" = true)
    (km_Draft___init__ : PySem.W.keepIn K (.ref f_Draft___init__) = true)
    (o1_Draft : PySem.W.plainGet K e_Draft Str.empty = true)
    (o2_Draft : PySem.W.hasDictIn K e_Draft = true)
    (o3_Draft : PySem.W.plainOver K e_Draft = true)
    (o4_Draft : PySem.W.findIn K (.ref e_Draft) "__setattr__" = some (some (.builtin "object.__setattr__")))
    (o5_Draft : PySem.W.makesIn K e_Draft = true)
    (o8_Draft : PySem.W.keepIn K (.ref e_Draft) = true)
    (na_Draft_threading : PySem.W.findIn K (.ref e_Draft) "threading" = some none)
    (na_Draft_ties : PySem.W.findIn K (.ref e_Draft) "ties" = some none)
    (na_Draft_treading : PySem.W.findIn K (.ref e_Draft) "treading" = some none) :
    ∃ fd : FuncData, (∀ (s : Shared) (v : Value), BindsTo s fd ⟨[v], []⟩ [("script", v)]) ∧ ∀ base : Heap, K.In base → base.Ns mainGlobals mg → FnOk P w K mg base CX0 7 fa fd ["script"] (sp_law K) := by
  have e := hfa.symm.trans (PySem.W.mg_of X G a_law)
  cases e
  have T := txt_mk X G a_check_setting l_check_setting c_check_setting k_check_setting a_check_count l_check_count c_check_count k_check_count a_check_shaft l_check_shaft c_check_shaft k_check_shaft a_check_tie l_check_tie c_check_tie k_check_tie a_check_treading l_check_treading c_check_treading k_check_treading a_law_numbers l_law_numbers c_law_numbers k_law_numbers a_law_subset l_law_subset c_law_subset k_law_subset a_law_draft_by l_law_draft_by c_law_draft_by k_law_draft_by a_law_numbers_same l_law_numbers_same c_law_numbers_same k_law_numbers_same a_law_draft_same l_law_draft_same c_law_draft_same k_law_draft_same a_law_odd l_law_odd c_law_odd k_law_odd a_law_of_length l_law_of_length c_law_of_length k_law_of_length a_law_tie_changed l_law_tie_changed c_law_tie_changed k_law_tie_changed a_law_changed l_law_changed c_law_changed k_law_changed a_law_fits l_law_fits c_law_fits k_law_fits a_law_caught l_law_caught c_law_caught k_law_caught a_law_no_draft l_law_no_draft c_law_no_draft k_law_no_draft a_law l_law c_law k_law z_ValueError z_bool z_int z_isinstance z_len z_list z_range x_MOST_STRANDS x_MOST_SHAFTS n_WeaveError n_NoCloth n_NoDraft y1_WeaveError y2_WeaveError y3_WeaveError y4_WeaveError y5_WeaveError y6_WeaveError y7_WeaveError y8_WeaveError y9_WeaveError y10_WeaveError y11_WeaveError y9_NoCloth y10_NoCloth y1_NoDraft y2_NoDraft y3_NoDraft y4_NoDraft y7_NoDraft y8_NoDraft y9_NoDraft y10_NoDraft y11_NoDraft r_NoDraft_WeaveError r_NoDraft_NoCloth r_NoDraft_NoDraft fm_NoDraft gm_NoDraft lm_NoDraft cm_NoDraft km_NoDraft n_Draft fm_Draft___init__ gm_Draft___init__ lm_Draft___init__ cm_Draft___init__ km_Draft___init__ o1_Draft o2_Draft o3_Draft o4_Draft o5_Draft o8_Draft na_Draft_threading na_Draft_ties na_Draft_treading
  exact ⟨_, fun s v => .of_eq rfl, fun base _ _ => ok_law T⟩
end Mine
open PySem PySem.W PyProof.Rows
set_option maxRecDepth 100000 in
set_option maxHeartbeats 0 in
theorem PySem.Challenge.cw_heddle_k07_drafts_refused_holds : PySem.Challenge.rw_heddle_k07_drafts_refused.Holds := by
  w_on; o_law; k_head; (case hw => w_witness2)
  k_fill
  refine L2.walk_ofK (l := PySem.Challenge.rw_heddle_k07_drafts_refused) (n := 63) (k := 7) (x := "script") (CX := L2.CX0) (sp := Mine.sp_law) rfl (by decide) rfl ⟨rfl, by decide, by decide⟩ (fun w h Y => PySem.W.kIn_of Y) ?F ?S ?C
  case F =>
    intro w mg fa h KX G hmg
    refine' Mine.law_mk KX G hmg ?a_check_setting ?l_check_setting ?c_check_setting ?k_check_setting ?a_check_count ?l_check_count ?c_check_count ?k_check_count ?a_check_shaft ?l_check_shaft ?c_check_shaft ?k_check_shaft ?a_check_tie ?l_check_tie ?c_check_tie ?k_check_tie ?a_check_treading ?l_check_treading ?c_check_treading ?k_check_treading ?a_law_numbers ?l_law_numbers ?c_law_numbers ?k_law_numbers ?a_law_subset ?l_law_subset ?c_law_subset ?k_law_subset ?a_law_draft_by ?l_law_draft_by ?c_law_draft_by ?k_law_draft_by ?a_law_numbers_same ?l_law_numbers_same ?c_law_numbers_same ?k_law_numbers_same ?a_law_draft_same ?l_law_draft_same ?c_law_draft_same ?k_law_draft_same ?a_law_odd ?l_law_odd ?c_law_odd ?k_law_odd ?a_law_of_length ?l_law_of_length ?c_law_of_length ?k_law_of_length ?a_law_tie_changed ?l_law_tie_changed ?c_law_tie_changed ?k_law_tie_changed ?a_law_changed ?l_law_changed ?c_law_changed ?k_law_changed ?a_law_fits ?l_law_fits ?c_law_fits ?k_law_fits ?a_law_caught ?l_law_caught ?c_law_caught ?k_law_caught ?a_law_no_draft ?l_law_no_draft ?c_law_no_draft ?k_law_no_draft ?a_law ?l_law ?c_law ?k_law ?z_ValueError ?z_bool ?z_int ?z_isinstance ?z_len ?z_list ?z_range ?x_MOST_STRANDS ?x_MOST_SHAFTS ?n_WeaveError ?n_NoCloth ?n_NoDraft ?y1_WeaveError ?y2_WeaveError ?y3_WeaveError ?y4_WeaveError ?y5_WeaveError ?y6_WeaveError ?y7_WeaveError ?y8_WeaveError ?y9_WeaveError ?y10_WeaveError ?y11_WeaveError ?y9_NoCloth ?y10_NoCloth ?y1_NoDraft ?y2_NoDraft ?y3_NoDraft ?y4_NoDraft ?y7_NoDraft ?y8_NoDraft ?y9_NoDraft ?y10_NoDraft ?y11_NoDraft ?r_NoDraft_WeaveError ?r_NoDraft_NoCloth ?r_NoDraft_NoDraft ?fm_NoDraft ?gm_NoDraft ?lm_NoDraft ?cm_NoDraft ?km_NoDraft ?n_Draft ?fm_Draft___init__ ?gm_Draft___init__ ?lm_Draft___init__ ?cm_Draft___init__ ?km_Draft___init__ ?o1_Draft ?o2_Draft ?o3_Draft ?o4_Draft ?o5_Draft ?o8_Draft ?na_Draft_threading ?na_Draft_ties ?na_Draft_treading
    (case a_check_setting => k_is)
    (case l_check_setting => k_is)
    (case c_check_setting => k_is)
    (case k_check_setting => k_is)
    (case a_check_count => k_is)
    (case l_check_count => k_is)
    (case c_check_count => k_is)
    (case k_check_count => k_is)
    (case a_check_shaft => k_is)
    (case l_check_shaft => k_is)
    (case c_check_shaft => k_is)
    (case k_check_shaft => k_is)
    (case a_check_tie => k_is)
    (case l_check_tie => k_is)
    (case c_check_tie => k_is)
    (case k_check_tie => k_is)
    (case a_check_treading => k_is)
    (case l_check_treading => k_is)
    (case c_check_treading => k_is)
    (case k_check_treading => k_is)
    (case a_law_numbers => k_is)
    (case l_law_numbers => k_is)
    (case c_law_numbers => k_is)
    (case k_law_numbers => k_is)
    (case a_law_subset => k_is)
    (case l_law_subset => k_is)
    (case c_law_subset => k_is)
    (case k_law_subset => k_is)
    (case a_law_draft_by => k_is)
    (case l_law_draft_by => k_is)
    (case c_law_draft_by => k_is)
    (case k_law_draft_by => k_is)
    (case a_law_numbers_same => k_is)
    (case l_law_numbers_same => k_is)
    (case c_law_numbers_same => k_is)
    (case k_law_numbers_same => k_is)
    (case a_law_draft_same => k_is)
    (case l_law_draft_same => k_is)
    (case c_law_draft_same => k_is)
    (case k_law_draft_same => k_is)
    (case a_law_odd => k_is)
    (case l_law_odd => k_is)
    (case c_law_odd => k_is)
    (case k_law_odd => k_is)
    (case a_law_of_length => k_is)
    (case l_law_of_length => k_is)
    (case c_law_of_length => k_is)
    (case k_law_of_length => k_is)
    (case a_law_tie_changed => k_is)
    (case l_law_tie_changed => k_is)
    (case c_law_tie_changed => k_is)
    (case k_law_tie_changed => k_is)
    (case a_law_changed => k_is)
    (case l_law_changed => k_is)
    (case c_law_changed => k_is)
    (case k_law_changed => k_is)
    (case a_law_fits => k_is)
    (case l_law_fits => k_is)
    (case c_law_fits => k_is)
    (case k_law_fits => k_is)
    (case a_law_caught => k_is)
    (case l_law_caught => k_is)
    (case c_law_caught => k_is)
    (case k_law_caught => k_is)
    (case a_law_no_draft => k_is)
    (case l_law_no_draft => k_is)
    (case c_law_no_draft => k_is)
    (case k_law_no_draft => k_is)
    (case a_law => k_is)
    (case l_law => k_is)
    (case c_law => k_is)
    (case k_law => k_is)
    (case z_ValueError => k_is)
    (case z_bool => k_is)
    (case z_int => k_is)
    (case z_isinstance => k_is)
    (case z_len => k_is)
    (case z_list => k_is)
    (case z_range => k_is)
    (case x_MOST_STRANDS => k_is)
    (case x_MOST_SHAFTS => k_is)
    (case n_WeaveError => k_is)
    (case n_NoCloth => k_is)
    (case n_NoDraft => k_is)
    (case y1_WeaveError => k_exc)
    (case y2_WeaveError => k_is)
    (case y3_WeaveError => k_is)
    (case y4_WeaveError => k_is)
    (case y5_WeaveError => k_is)
    (case y6_WeaveError => k_is)
    (case y7_WeaveError => k_is)
    (case y8_WeaveError => k_is)
    (case y9_WeaveError => k_is)
    (case y10_WeaveError => k_is)
    (case y11_WeaveError => k_is)
    (case y9_NoCloth => k_is)
    (case y10_NoCloth => k_is)
    (case y1_NoDraft => k_exc)
    (case y2_NoDraft => k_is)
    (case y3_NoDraft => k_is)
    (case y4_NoDraft => k_is)
    (case y7_NoDraft => k_is)
    (case y8_NoDraft => k_is)
    (case y9_NoDraft => k_is)
    (case y10_NoDraft => k_is)
    (case y11_NoDraft => k_is)
    (case r_NoDraft_WeaveError => k_is)
    (case r_NoDraft_NoCloth => k_is)
    (case r_NoDraft_NoDraft => k_is)
    (case fm_NoDraft => k_is)
    (case gm_NoDraft => k_is)
    (case lm_NoDraft => k_is)
    (case cm_NoDraft => k_is)
    (case km_NoDraft => k_is)
    (case n_Draft => k_is)
    (case fm_Draft___init__ => k_is)
    (case gm_Draft___init__ => k_is)
    (case lm_Draft___init__ => k_is)
    (case cm_Draft___init__ => k_is)
    (case km_Draft___init__ => k_is)
    (case o1_Draft => k_is)
    (case o2_Draft => k_is)
    (case o3_Draft => k_is)
    (case o4_Draft => k_is)
    (case o5_Draft => k_is)
    (case o8_Draft => k_is)
    (case na_Draft_threading => k_is)
    (case na_Draft_ties => k_is)
    (case na_Draft_treading => k_is)
  case S => exact fun K H a ns hl hO hS => Mine.sp_law_holds hl hS
  case C => exact fun _ _ _ _ z => z

