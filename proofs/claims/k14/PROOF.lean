import PyProof.Rows.All
import Wide.All
import OpenK.AllK
import Wide.FinOn
import Lean
import PyProof.EqAt
import PyProof.EqKinds
import PyProof.TupleCall
import PyProof.StrBlockL
import PyProof.EnumMake
import PyProof.CollectIter
import PyProof.JoinWalk
import PyProof.StrOps
import PyProof.StrLawsIdx
import PyProof.StrLawsIn
import PyProof.ListRange
import PyProof.Rows.Range3
import PyProof.Rows.SumAny
import KE.KIntText
import KE.LcSums
import PyProof.LongRange
import PyProof.StrOps2
import PyProof.FitsBits
import PyProof.NeKinds
import PyProof.Rows.ZipGen
import PyProof.Draws
import PyProof.Rows.SeqMore
import PyProof.Rows.SortRev
import PyProof.Rows.SortWalk
import PyProof.Rows.CallKwBuiltin
import PyProof.Rows.MinMaxN
import PyProof.Rows.SetFrom
import PyProof.CollectWalk
import PyProof.DictWalks
import PySem.Challenge.RW_heddle_k14_settings_refused
set_option Elab.async false
set_option linter.all false
set_option maxRecDepth 100000
/-! THE HAND LAYER, for ints, bools, texts, own classes, LISTS and tuples (index, slices, in, append, pop ..), calls, loops. Paste it whole ahead of your own text; what your proof does not reach may be deleted. -/
namespace L2
open PySem PySem.Spec PyProof.Rows

/-- a key: an int or a str -/
abbrev Key := Sum Int Str
def keyIs : Key → Value → Bool
  | .inl k, v => Value.isInt k v
  | .inr x, v => Value.isStrOf x v
def keyH (w : World) : Key → Int
  | .inl k => hashInt k
  | .inr x => hashStr w x
theorem keyIs_shape : ∀ {k : Key} {v : Value}, keyIs k v = true → (∃ i t, k = Sum.inl i ∧ v = Value.int i t) ∨ (∃ x t, k = Sum.inr x ∧ v = Value.str x t)
  | .inl i, v, h => by
    obtain ⟨t, e⟩ := Value.isInt_shape (k := i) (v := v) h
    exact .inl ⟨i, t, rfl, e⟩
  | .inr x, v, h => by
    obtain ⟨t, e⟩ := Value.isStrOf_shape (x := x) (v := v) h
    exact .inr ⟨x, t, rfl, e⟩
theorem key_ll (a b : Int) : decide ((Sum.inl a : Key) = Sum.inl b) = (a == b) := by
  by_cases e : a = b
  · subst e; simp
  · have h : ¬ (Sum.inl a : Key) = Sum.inl b := fun q => e (Sum.inl.inj q)
    rw [decide_eq_false h]
    exact (beq_eq_false_iff_ne.mpr e).symm
theorem key_rr (a b : Str) : decide ((Sum.inr a : Key) = Sum.inr b) = decide (a = b) := by
  by_cases e : a = b
  · subst e; simp
  · have h : ¬ (Sum.inr a : Key) = Sum.inr b := fun q => e (Sum.inr.inj q)
    rw [decide_eq_false h, decide_eq_false e]
theorem key_lr (a : Int) (b : Str) : decide ((Sum.inl a : Key) = Sum.inr b) = false := decide_eq_false (fun q => nomatch q)
theorem key_rl (a : Str) (b : Int) : decide ((Sum.inr a : Key) = Sum.inl b) = false := decide_eq_false (fun q => nomatch q)

def mixKind (prog : Program) (w : World) : PySem.KeyKind prog w Key where
  is := keyIs
  hash := keyH w
  inj := fun v a b ha hb => by
    rcases keyIs_shape ha with ⟨i, t, rfl, rfl⟩ | ⟨x, t, rfl, rfl⟩
    · rcases keyIs_shape hb with ⟨j, u, rfl, e⟩ | ⟨y, u, rfl, e⟩
      · injection e with e1 _; rw [e1]
      · exact nomatch e
    · rcases keyIs_shape hb with ⟨j, u, rfl, e⟩ | ⟨y, u, rfl, e⟩
      · exact nomatch e
      · injection e with e1 _; rw [e1]
  byValue := fun k v h => by
    rcases keyIs_shape h with ⟨i, t, rfl, rfl⟩ | ⟨x, t, rfl, rfl⟩ <;> rfl
  pyHash := fun hv h => by
    rcases keyIs_shape hv with ⟨i, t, rfl, rfl⟩ | ⟨x, t, rfl, rfl⟩
    · exact wpAny_pyHash_int h
    · exact wpAny_pyHash_str h
  eqBool := fun hu hv h => by
    rcases keyIs_shape hu with ⟨i, t, rfl, rfl⟩ | ⟨x, t, rfl, rfl⟩
    · rcases keyIs_shape hv with ⟨j, u, rfl, rfl⟩ | ⟨y, u, rfl, rfl⟩
      · rw [key_ll] at h; exact wpAny_eqBool_int h
      · rw [key_lr] at h; exact SeqAt.EqAt.int_str i t y u _ _ _ _ h
    · rcases keyIs_shape hv with ⟨j, u, rfl, rfl⟩ | ⟨y, u, rfl, rfl⟩
      · rw [key_rl] at h; exact SeqAt.EqAt.str_int x t j u _ _ _ _ h
      · rw [key_rr] at h; exact wpAny_eqBool_str h
  «strs» := fun k x t v h => by
    rcases keyIs_shape h with ⟨i, u, rfl, e⟩ | ⟨y, u, rfl, e⟩
    · exact nomatch e
    · injection e with e1 _
      subst e1
      cases v <;> rfl

end L2

namespace L2
open PySem PySem.Spec PyProof.Rows

/-- a value, without the heap -/
inductive V where
  | non | bl (b : Bool) | int (i : Int) | str (x : Str) | byt (b : Array UInt8) | flt (b : UInt64) | ref (a : Addr) | ty (n : String)
  deriving DecidableEq

def RelV : V → Value → Prop
  | .non, u => u = Value.none
  | .bl b, u => u = Value.bool b
  | .int i, u => ∃ t, u = Value.int i t
  | .str x, u => ∃ t, u = Value.str x t
  | .byt b, u => ∃ t, u = Value.bytes b t
  | .flt b, u => ∃ t, u = Value.float b t
  | .ref a, u => u = Value.ref a
  | .ty n, u => u = Value.type n

abbrev Vals : List V → List Value → Prop := Paired RelV
theorem Vals.length {xs : List V} {us : List Value} (r : Vals xs us) : xs.length = us.length := Paired.length r
theorem Vals.get : ∀ {xs : List V} {us : List Value} {i : Nat} {x : V}, Vals xs us → xs[i]? = some x → ∃ u, us[i]? = some u ∧ RelV x u
  | _, _, _, _, .nil, e => by simp at e
  | _, _, 0, _, .cons r _, e => by simp at e; subst e; exact ⟨_, rfl, r⟩
  | _, _, i + 1, x, .cons _ t, e => by
    obtain ⟨u, h1, h2⟩ := Vals.get (i := i) (x := x) t (by simpa using e)
    exact ⟨u, by simpa using h1, h2⟩
theorem Vals.set {x : V} {u : Value} (r : RelV x u) : ∀ {xs : List V} {us : List Value} (i : Nat), Vals xs us → Vals (xs.set i x) (us.set i u)
  | _, _, _, .nil => .nil
  | _, _, 0, .cons _ t => .cons r t
  | _, _, i + 1, .cons q t => .cons q (Vals.set r i t)
theorem Vals.append : ∀ {xs ys : List V} {us ws : List Value}, Vals xs us → Vals ys ws → Vals (xs ++ ys) (us ++ ws)
  | _, _, _, _, .nil, s => s
  | _, _, _, _, .cons r t, s => .cons r (Vals.append t s)
theorem Vals.take : ∀ {xs : List V} {us : List Value} (n : Nat), Vals xs us → Vals (xs.take n) (us.take n)
  | _, _, 0, _ => .nil
  | _, _, _ + 1, .nil => .nil
  | _, _, n + 1, .cons r t => .cons r (Vals.take n t)
theorem Vals.drop : ∀ {xs : List V} {us : List Value} (n : Nat), Vals xs us → Vals (xs.drop n) (us.drop n)
  | _, _, 0, r => r
  | _, _, _ + 1, .nil => .nil
  | _, _, n + 1, .cons _ t => Vals.drop n t
def RelO : Option V → Option Value → Prop
  | some v, some u => RelV v u
  | none, none => True
  | _, _ => False
def KV {κ : Type} : List (κ × V) → List (κ × Value) → Prop := Paired fun (p : κ × V) (q : κ × Value) => p.1 = q.1 ∧ RelV p.2 q.2

/-- a key of a dict (00_mix): an int or a text -/
def kV : Key → V
  | .inl i => .int i
  | .inr x => .str x

/-- what stands at a tracked address -/
inductive HO where
  /-- a list -/
  | lst (xs : List V)
  /-- a tuple (never changes) -/
  | tup (xs : List V)
  /-- a dict whose keys are ints and texts; one whose keys are tuples of ints and texts (the empty one is both) -/
  | dK (kvs : List (Key × V)) | dT (kvs : List (List Key × V))
  /-- a set of ints: its members, its size -/
  | set (S : Int → Bool) (n : Nat)
  /-- an instance of the class at C, its dict at dx, its attributes -/
  | ins (C dx : Addr) (fs : List (Str × V))
  /-- the dict of the instance at x -/
  | own (x : Addr)
  /-- the dict of an exception -/
  | xd (fs : List (Str × V))
  /-- a bound method, f of x -/
  | met (f x : Addr)
  /-- a range object lo, lo + 1, .. below hi -/
  | rng (lo hi : Int)
  /-- a thing that is known to the object (the script; a dict while a loop walks it): read, never written while it is so -/
  | frz (o : Obj) (u : HO)
  /-- a code object's table -/
  | tbl (ps : Array Value)
  /-- any other thing, by what is true of its one object (a def of one's own: SetO a S n := HO.ext fun h => ..) -/
  | ext (φ : Heap → Prop)

abbrev Hp := Addr → Option HO
def upd (H : Hp) (a : Addr) (o : HO) : Hp := fun b => if b = a then some o else H b
theorem upd_same {H : Hp} {a : Addr} {o : HO} : upd H a o a = some o := by unfold upd; rw [if_pos rfl]
theorem upd_ne {H : Hp} {a b : Addr} {o : HO} (h : b ≠ a) : upd H a o b = H b := by unfold upd; rw [if_neg h]
theorem ne_of_none {H : Hp} {a b : Addr} {o : HO} (h : H a = some o) (h' : H b = none) : a ≠ b := by
  intro e; subst e; rw [h] at h'; cases h'

section
variable (P : Program) (w : World)
def ObjOk (H : Hp) (h : Heap) (a : Addr) : HO → Prop
  | .lst xs => xs.length ≤ sizeLine ∧ ∃ (its : List Value) (n : Nat), Vals xs its ∧ h.get? a = some { cls := .type "list", data := .seq its.toArray n }
  | .tup xs => xs.length ≤ sizeLine ∧ ∃ its : List Value, Vals xs its ∧ IsTup h a its.toArray
  | .dK kvs => kvs.length ≤ sizeLine ∧ (a == sysModules) = false ∧ ∃ vs, KV kvs vs ∧ h.DictOf (mixKind P w) a vs
  | .dT kvs => kvs.length ≤ sizeLine ∧ (a == sysModules) = false ∧ ∃ xs : List (List Key × Addr × Value),
      Paired (fun (p : List Key × V) (q : List Key × Addr × Value) => p.1 = q.1 ∧ H q.2.1 = some (.tup (p.1.map kV)) ∧ RelV p.2 q.2.2) kvs xs ∧
      ∃ o es ep, h.get? a = some o ∧ o.ExactDict ∧ o.data = .dict es ep ∧ es.toList = xs.map (entryOfKey (tupleKind (mixKind P w))) ∧ (xs.map (·.1)).Nodup
  | .set S n => h.SetOf (intKind P w) a S n
  | .ins C dx fs => H dx = some (.own a) ∧ fs.length ≤ 1000 ∧ dx ≠ a ∧ h.get? a = some (PySem.W.instObj C dx) ∧
      ∃ mA, h.Ns1 dx mA ∧ (∀ f, RelO (fs.lookup f) (mA f)) ∧ PySem.Within mA (fs.map (·.1))
  | .own _ => ∃ o, h.get? a = some o
  | .xd fs => ∃ mA, h.Ns1 a mA ∧ ∀ f, RelO (fs.lookup f) (mA f)
  | .rng lo hi => ∃ t u v, h.get? a = some { cls := .type "range", data := .fields #[.int lo t, .int hi u, .int 1 v] }
  | .frz o u => h.get? a = some o ∧ ObjOk H h a u
  | .tbl ps => h.get? a = some { cls := .none, data := .fields ps }
  | .met f x => h.get? a = some (PySem.W.methodObj (.ref f) (.ref x))
  | .ext φ => φ h ∧ (∃ o, h.get? a = some o) ∧ ∀ h1 h2 : Heap, φ h1 → (∀ o, h1.get? a = some o → h2.get? a = some o) → φ h2
/-- the abstract heap is held -/
def HOk (H : Hp) (h : Heap) : Prop := ∀ a o, H a = some o → ObjOk P w H h a o
end

section
variable {P : Program} {w : World} {H H' : Hp} {h h' : Heap} {a : Addr} {o : HO}
theorem ObjOk.lt (x : ObjOk P w H h a o) : a < h.objs.size := by
  cases o with
  | lst xs => obtain ⟨_, _, _, _, e⟩ := x; exact Heap.lt_size e
  | tup xs => obtain ⟨_, _, _, p⟩ := x; exact p.lt
  | dK kvs => obtain ⟨_, _, _, _, o, _, _, e, _⟩ := x; exact Heap.lt_size e
  | dT kvs => obtain ⟨_, _, _, _, o, _, _, e, _⟩ := x; exact Heap.lt_size e
  | set S n => obtain ⟨o, _, _, _, e, _⟩ := x; exact Heap.lt_size e
  | ins C dx fs => obtain ⟨_, _, _, e, _⟩ := x; exact Heap.lt_size e
  | own y => obtain ⟨_, e⟩ := x; exact Heap.lt_size e
  | xd fs => obtain ⟨_, ⟨_, _, _, e, _⟩, _⟩ := x; exact Heap.lt_size e
  | rng lo hi => obtain ⟨_, _, _, e⟩ := x; exact Heap.lt_size e
  | frz ob u => obtain ⟨e, _⟩ := x; exact Heap.lt_size e
  | tbl ps => exact Heap.lt_size (show h.get? a = some _ from x)
  | met f y => exact Heap.lt_size (show h.get? a = some _ from x)
  | ext φ => obtain ⟨_, ⟨_, e⟩, _⟩ := x; exact Heap.lt_size e
theorem Paired.mapP {α β : Type} {F G : α → β → Prop} : ∀ {l₁ : List α} {l₂ : List β}, Paired F l₁ l₂ → (∀ a b, F a b → G a b) → Paired G l₁ l₂
  | _, _, .nil, _ => .nil
  | _, _, .cons r t, f => .cons (f _ _ r) (Paired.mapP t f)
/-- what an object's description leans on: its own object, its own dict, the tuples -/
theorem ObjOk.stay (x : ObjOk P w H h a o) (k : ∀ b u, (b = a ∨ H b = some (.own a)) → h.get? b = some u → h'.get? b = some u)
    (ho : ∀ b, H b = some (.own a) → H' b = some (.own a)) (ht : ∀ b xs, H b = some (.tup xs) → H' b = some (.tup xs)) : ObjOk P w H' h' a o := by
  induction o with
  | lst xs => obtain ⟨z, its, n, r, e⟩ := x; exact ⟨z, its, n, r, k _ _ (.inl rfl) e⟩
  | tup xs => obtain ⟨z, its, r, ob, e, c⟩ := x; exact ⟨z, its, r, ob, k _ _ (.inl rfl) e, c⟩
  | dK kvs => obtain ⟨z, y, vs, r, ob, es, ep, e, c⟩ := x; exact ⟨z, y, vs, r, ob, es, ep, k _ _ (.inl rfl) e, c⟩
  | dT kvs =>
    obtain ⟨z, y, xs, r, ob, es, ep, e, c⟩ := x
    exact ⟨z, y, xs, Paired.mapP r fun p q z => ⟨z.1, ht _ _ z.2.1, z.2.2⟩, ob, es, ep, k _ _ (.inl rfl) e, c⟩
  | set S n => obtain ⟨ob, es, ep, t, e, c⟩ := x; exact ⟨ob, es, ep, t, k _ _ (.inl rfl) e, c⟩
  | ins C dx fs =>
    obtain ⟨d, z, ne, e, mA, ⟨od, es, ep, e2, c⟩, r⟩ := x
    exact ⟨ho _ d, z, ne, k _ _ (.inl rfl) e, mA, ⟨od, es, ep, k _ _ (.inr d) e2, c⟩, r⟩
  | own y => obtain ⟨ob, e⟩ := x; exact ⟨ob, k _ _ (.inl rfl) e⟩
  | xd fs => obtain ⟨mA, ⟨od, es, ep, e, c⟩, r⟩ := x; exact ⟨mA, ⟨od, es, ep, k _ _ (.inl rfl) e, c⟩, r⟩
  | rng lo hi => obtain ⟨t, u, v, e⟩ := x; exact ⟨t, u, v, k _ _ (.inl rfl) e⟩
  | frz ob u ih => obtain ⟨e, q⟩ := x; exact ⟨k _ _ (.inl rfl) e, ih q⟩
  | tbl ps =>
    have e : h.get? a = some { cls := .none, data := .fields ps } := x
    show h'.get? a = some { cls := .none, data := .fields ps }
    exact k a _ (.inl rfl) e
  | met f y =>
    have e : h.get? a = some (PySem.W.methodObj (.ref f) (.ref y)) := x
    show h'.get? a = some (PySem.W.methodObj (.ref f) (.ref y))
    exact k a _ (.inl rfl) e
  | ext φ => obtain ⟨p, ⟨o, e⟩, st⟩ := x; exact ⟨st _ _ p fun o q => k _ _ (.inl rfl) q, ⟨o, k _ _ (.inl rfl) e⟩, st⟩
theorem HOk.lt (x : HOk P w H h) (e : H a = some o) : a < h.objs.size := (x a o e).lt
theorem HOk.fresh (x : HOk P w H h) (e : h.objs.size ≤ a) : H a = none := by
  cases q : H a with
  | none => rfl
  | some u => exact absurd (Nat.lt_of_lt_of_le (x.lt q) e) (Nat.lt_irrefl _)
/-- every object of the heap is kept -/
theorem HOk.kept (x : HOk P w H h) (k : ∀ b u, h.get? b = some u → h'.get? b = some u) : HOk P w H h' := fun a o e =>
  (x a o e).stay (fun b u _ q => k b u q) (fun _ q => q) fun _ _ q => q
/-- a new object is laid and tracked -/
theorem HOk.laid (x : HOk P w H h) (k : ∀ b u, h.get? b = some u → h'.get? b = some u) (hp : h.objs.size ≤ a) (new : ObjOk P w (upd H a o) h' a o) : HOk P w (upd H a o) h' := fun b u e => by
  have hn := x.fresh hp
  by_cases hb : b = a
  · subst hb; rw [upd_same] at e; cases e; exact new
  · rw [upd_ne hb] at e
    exact (x b u e).stay (fun c v _ q => k c v q) (fun c q => by rw [upd_ne (ne_of_none q hn)]; exact q) fun c xs q => by rw [upd_ne (ne_of_none q hn)]; exact q
end

/-- what may be read as u: it is u, or a known u -/
def Rd (H : Hp) (a : Addr) (u : HO) : Prop := H a = some u ∨ ∃ o, H a = some (.frz o u)
theorem Rd.ok {P : Program} {w : World} {H : Hp} {h : Heap} {a : Addr} {u : HO} (r : Rd H a u) (x : HOk P w H h) : ObjOk P w H h a u := by
  rcases r with r | ⟨o, r⟩
  · exact x a u r
  · obtain ⟨_, q⟩ := x a _ r
    exact q
/-- what may be written -/
def Mut : Option HO → Prop
  | some (.lst _) => True
  | some (.dK _) => True
  | some (.dT _) => True
  | some (.set _ _) => True
  | some (.ins _ _ _) => True
  | some (.ext _) => True
  | _ => False
section
variable {P : Program} {w : World} {H : Hp} {h h' : Heap} {x e : Addr} {o' : HO}
/-- the object at e is changed: x itself, or the dict of the instance x -/
theorem HOk.write (ok : HOk P w H h) (mu : Mut (H x)) (he : e = x ∨ H e = some (.own x)) (k : ∀ b u, b ≠ e → h.get? b = some u → h'.get? b = some u) (heo : ∃ u, h'.get? e = some u)
    (new : ObjOk P w (upd H x o') h' x o') : HOk P w (upd H x o') h' := fun b u q => by
  have nown : ∀ c y, H c = some (.own y) → c ≠ x := fun c y r z => by subst z; rw [r] at mu; exact mu
  have ntup : ∀ c xs, H c = some (.tup xs) → c ≠ x := fun c xs r z => by subst z; rw [r] at mu; exact mu
  by_cases hb : b = x
  · subst hb; rw [upd_same] at q; cases q; exact new
  · rw [upd_ne hb] at q
    by_cases hbe : b = e
    · have q' : H b = some (.own x) := by
        rcases he with z | z
        · exact absurd (hbe.trans z) hb
        · rw [hbe]; exact z
      rw [q] at q'; cases q'
      obtain ⟨v, hv⟩ := heo
      exact ⟨v, by rw [hbe]; exact hv⟩
    · refine (ok b u q).stay (fun c v hc r => k c v ?_ r) (fun c r => by rw [upd_ne (nown c b r)]; exact r) fun c xs r => by rw [upd_ne (ntup c xs r)]; exact r
      rcases hc with rfl | hc
      · exact hbe
      · rintro rfl
        rcases he with z | z
        · exact nown c b hc z
        · rw [hc] at z; cases z; exact hb rfl
end

/-! ### kept unless tracked; of the frames at fs (the callers') the slots may change (an exception that passes writes there); of the records at ex (iterators) nothing is said -/
structure Un (fs ex : List Addr) (H H' : Hp) (h h' : Heap) : Prop where
  keep : ∀ b o, h.get? b = some o → H b = none → b ∉ fs → b ∉ ex → h'.get? b = some o
  slot : ∀ b o, h.get? b = some o → H b = none → b ∈ fs → b ∉ ex → ∃ sl, h'.get? b = some { o with slots := sl }
  free : ∀ b o, h.get? b = some o → H b = none → b ∉ ex → H' b = none
  there : ∀ b o, h.get? b = some o → b ∉ ex → ∃ o', h'.get? b = some o'
  tups : ∀ b xs, H b = some (.tup xs) → H' b = some (.tup xs)
  frzs : ∀ b o u, H b = some (.frz o u) → H' b = some (.frz o u)
  tbls : ∀ b ps, H b = some (.tbl ps) → ∃ more, H' b = some (.tbl (ps ++ more))
section
variable {fs fs' ex ex' : List Addr} {H H1 H2 : Hp} {h h1 h2 h' : Heap} {a x e : Addr} {o : HO}
theorem Un.any (u : Un fs ex H H1 h h1) {b : Addr} {ob : Obj} (q : h.get? b = some ob) (n : H b = none) (hx : b ∉ ex) : ∃ sl, h1.get? b = some { ob with slots := sl } := by
  by_cases hb : b ∈ fs
  · exact u.slot b ob q n hb hx
  · exact ⟨ob.slots, u.keep b ob q n hb hx⟩
theorem Un.kept (k : ∀ b u, h.get? b = some u → h'.get? b = some u) : Un fs ex H H h h' :=
  ⟨fun b ob q _ _ _ => k b ob q, fun b ob q _ _ _ => ⟨ob.slots, k b ob q⟩, fun _ _ _ n _ => n, fun b ob q _ => ⟨ob, k b ob q⟩, fun _ _ q => q, fun _ _ _ q => q, fun _ ps q => ⟨#[], by rw [q]; simp⟩⟩
theorem Un.refl : Un fs ex H H h h := Un.kept fun _ _ q => q
theorem Un.laid (k : ∀ b u, h.get? b = some u → h'.get? b = some u) (hp : h.objs.size ≤ a) (hn : H a = none) : Un fs ex H (upd H a o) h h' where
  keep := fun b u q _ _ _ => k b u q
  slot := fun b u q _ _ _ => ⟨u.slots, k b u q⟩
  free := fun b u q n _ => by rw [upd_ne (Nat.ne_of_lt (Nat.lt_of_lt_of_le (Heap.lt_size q) hp))]; exact n
  there := fun b u q _ => ⟨u, k b u q⟩
  tups := fun b xs q => by rw [upd_ne (ne_of_none q hn)]; exact q
  frzs := fun b u xs q => by rw [upd_ne (ne_of_none q hn)]; exact q
  tbls := fun b ps q => ⟨#[], by rw [upd_ne (ne_of_none q hn), q]; simp⟩
theorem Un.write (mu : Mut (H x)) (he : e = x ∨ H e = some (.own x)) (k : ∀ b u, b ≠ e → h.get? b = some u → h'.get? b = some u) (heo : ∃ u, h'.get? e = some u) : Un fs ex H (upd H x o) h h' := by
  have hx : ∀ b, H b = none → b ≠ x := fun b n z => by subst z; rw [n] at mu; exact mu
  have hb : ∀ b, H b = none → b ≠ e := fun b n z => by
    subst z
    rcases he with r | r
    · exact hx b n r
    · rw [n] at r; cases r
  have hm : ∀ b u, H b = some u → ¬ Mut (some u) → b ≠ x := fun b u q nm z => by subst z; rw [q] at mu; exact nm mu
  refine ⟨fun b u q n _ _ => k b u (hb b n) q, fun b u q n _ _ => ⟨u.slots, k b u (hb b n) q⟩, fun b u q n _ => by rw [upd_ne (hx b n)]; exact n, fun b u q _ => ?_,
    fun b xs q => by rw [upd_ne (hm b _ q fun z => z)]; exact q, fun b u xs q => by rw [upd_ne (hm b _ q fun z => z)]; exact q, fun b ps q => ⟨#[], by rw [upd_ne (hm b _ q fun z => z), q]; simp⟩⟩
  by_cases hbe : b = e
  · subst hbe; exact heo
  · exact ⟨u, k b u hbe q⟩
end

/-! ### the heap without what is tracked -/
def trk (h : Heap) (H : Hp) : List Addr := (List.range h.objs.size).filter fun a => (H a).isSome
def hidT (h : Heap) (H : Hp) : Heap := PySem.W.hideAll h (trk h H)
theorem hidT_size (h : Heap) (H : Hp) : (hidT h H).objs.size = h.objs.size := PySem.W.hideAll_size _ _
theorem hidT_get {h : Heap} {H : Hp} {b : Addr} {o : Obj} (e : h.get? b = some o) (n : H b = none) : (hidT h H).get? b = some o :=
  PySem.W.hideAll_get _ e fun hm => by
    have q : (H b).isSome = true := (List.mem_filter.mp hm).2
    rw [n] at q; simp at q
theorem of_hidT {h : Heap} {H : Hp} {b : Addr} {o : Obj} (e : (hidT h H).get? b = some o) : h.get? b = some o ∧ H b = none := by
  have e' : h.get? b = some o := PySem.W.of_hideAll (trk h H) e
  refine ⟨e', ?_⟩
  cases q : H b with
  | none => rfl
  | some x =>
    have hm : b ∈ trk h H := List.mem_filter.mpr ⟨List.mem_range.mpr (Heap.lt_size e'), by simp [q]⟩
    have z : (hidT h H).get? b = none := PySem.W.hideAll_none (trk h H) hm
    rw [z] at e; cases e

/-! ### OpenK's ledger, filled with every new object but one -/
def allNews (g h : Heap) (L : Addr) : List (Addr × Obj) := (List.range h.objs.size).filterMap fun a => if a = L ∨ (g.get? a).isSome = true then none else (h.get? a).map fun o => (a, o)
def rest (g h : Heap) (L d : Addr) : List (Addr × Obj) := (allNews g h L).filter fun p => decide (p.1 ≠ d)
end L2

namespace L2
open PySem PySem.Spec PyProof.Rows

/-- the module's facts, over the base: the heap at the law's entry without what is tracked there -/
structure Mod (K : PySem.W.Frag) (mg : Str → Option Value) (base : Heap) : Prop where
  kin : K.In base
  glob : base.Ns mainGlobals mg
  blt : ∃ mb, base.Ns builtinsNs mb ∧ ∀ x : Str, x ≠ "__name__" → mb x = bootBuiltins x
  nolimit : base.NoLimit

/-- the context: a def's body (or a comprehension's block) running. base: fixed through the whole law; s₀, H₀: the entry; outer: the frames whose slots others may change (a def's callers); stack: all frames that run;
   ex: iterators that were made ahead of the entry and are walked here (a comprehension's); fn: the names whose cells were made at the entry (a def: all; a comprehension's block: its own); calm: not within an except suite; pn: pins that every state bears; xe: what is wanted of an exception that leaves the code -/
structure Cx where
  prog : Program
  w : World
  K : PySem.W.Frag
  mg : Str → Option Value
  base : Heap
  A : Around
  N : List Str
  s₀ : Shared
  H₀ : Hp
  env : Env
  outer : List Env
  stack : List Env
  ex : List Addr
  fn : Str → Bool
  calm : Bool
  pn : List (Addr × Obj)
  xe : Value → Shared → Prop
/-- the callers' frames -/
def frs (l : List Env) : List Addr := l.filterMap (·.frame)
abbrev Cx.fs (X : Cx) : List Addr := frs X.outer

def Vis (sc : Scope) (x : Str) : Prop := sc.names.lookup x = some .local ∨ sc.names.lookup x = some .cell ∨ sc.names.lookup x = some .free
def Loc (sc : Scope) (x : Str) : Prop := sc.names.lookup x = some .local ∨ sc.names.lookup x = some .cell
def Look (env : Env) (h : Heap) (m : Str → Option Value) (x : Str) (u : Value) : Prop :=
  (env.kindOf x = some .local ∧ m x = some u) ∨ ((env.kindOf x = some .cell ∨ env.kindOf x = some .free) ∧ ∃ c, env.cells.lookup x = some c ∧ h.IsCell c (some u))

structure Cx.Ok (X : Cx) : Prop where
  mod : Mod X.K X.mg X.base
  kind : X.env.scope.kind = .function
  glob : X.env.globals = mainGlobals
  blt : X.env.builtins = builtinsNs
  above : X.s₀.heap.objs.size ≤ X.env.locals
  inj : ∀ x y c, X.env.cells.lookup x = some c → X.env.cells.lookup y = some c → x = y
  has : ∀ x, (X.env.kindOf x = some .cell ∨ X.env.kindOf x = some .free) → ∃ c, X.env.cells.lookup x = some c
  cab : ∀ x c, X.fn x = true → X.env.cells.lookup x = some c → X.s₀.heap.objs.size ≤ c
  hd : X.calm = true → X.A.handled = none
  frames : X.A.frames = some X.stack
  stk : X.stack = X.outer ∨ (X.stack = X.env :: X.outer ∧ X.env.frame = some X.env.locals)
  exf : ∀ b ∈ X.ex, b ≠ X.env.locals ∧ ∀ x c, X.env.cells.lookup x = some c → c ≠ b
  bs : ∀ b o, X.base.get? b = some o → X.s₀.heap.get? b = some o ∧ X.H₀ b = none
  bsz : X.base.objs.size ≤ X.s₀.heap.objs.size
  noex : ∀ b o, X.base.get? b = some o → b ∉ X.ex
  exfs : ∀ b ∈ X.ex, b ∉ X.fs
  funs : X.s₀.heap.FunFrames X.base X.outer
  frf : ∀ b ∈ X.fs, X.H₀ b = none

structure Inv (X : Cx) (pins : List (Addr × Obj)) (σ : List (Option V)) (H : Hp) (s : Shared) : Prop where
  ok : X.Ok
  os : s.os = X.s₀.os
  bare : AllBare s.gens
  base : Un X.fs X.ex X.H₀ H X.s₀.heap s.heap
  loc : ∃ m, s.heap.Ns X.env.locals m ∧ ∀ (i : Nat) (x : Str) (v : V), X.N[i]? = some x → σ[i]? = some (some v) → Vis X.env.scope x → ∃ u, RelV v u ∧ Look X.env s.heap m x u
  cell : ∀ x c, X.env.cells.lookup x = some c → ∃ v, s.heap.IsCell c v
  free : H X.env.locals = none
  freeC : ∀ x c, X.env.cells.lookup x = some c → H c = none
  pin : ∀ p ∈ X.pn ++ pins, s.heap.get? p.1 = some p.2 ∧ H p.1 = none ∧ p.1 ≠ X.env.locals ∧ p.1 ∉ X.fs ∧ ∀ v, p.2.data ≠ .cell v
  hok : HOk X.prog X.w H s.heap
  len : σ.length = X.N.length

section
variable {X : Cx} {pins : List (Addr × Obj)} {σ : List (Option V)} {H H' : Hp} {s : Shared} {h' : Heap}

theorem Cx.Ok.nofr (ok : X.Ok) {b : Addr} {o : Obj} (e : X.base.get? b = some o) : b ∉ X.fs := fun hb => by
  have := (ok.funs.mem hb).1
  rw [e] at this; cases this
theorem Inv.bs (I : Inv X pins σ H s) : ∀ b o, X.base.get? b = some o → s.heap.get? b = some o ∧ H b = none := fun b o e =>
  ⟨I.base.keep b o (I.ok.bs b o e).1 (I.ok.bs b o e).2 (I.ok.nofr e) (I.ok.noex b o e), I.base.free b o (I.ok.bs b o e).1 (I.ok.bs b o e).2 (I.ok.noex b o e)⟩
theorem Inv.bk (I : Inv X pins σ H s) : ∀ b o, X.base.get? b = some o → s.heap.get? b = some o := fun b o e => (I.bs b o e).1
theorem Inv.mod (I : Inv X pins σ H s) : Mod X.K X.mg X.base := I.ok.mod
theorem Inv.kIn (I : Inv X pins σ H s) : X.K.In s.heap := I.ok.mod.kin.keeps I.bk
theorem Inv.lt (I : Inv X pins σ H s) : X.env.locals < s.heap.objs.size := let ⟨_, hn, _⟩ := I.loc; hn.lt
theorem Inv.sz (I : Inv X pins σ H s) : X.s₀.heap.objs.size ≤ s.heap.objs.size := Nat.le_trans I.ok.above (Nat.le_of_lt I.lt)
theorem Inv.nofs (I : Inv X pins σ H s) {a : Addr} (h : s.heap.objs.size ≤ a) : a ∉ X.fs := fun hb => by
  obtain ⟨_, o, ho, _⟩ := I.ok.funs.mem hb
  exact absurd (Nat.lt_of_lt_of_le (Heap.lt_size ho) (Nat.le_trans I.sz h)) (Nat.lt_irrefl _)
theorem Inv.cne (I : Inv X pins σ H s) : ∀ x c, X.env.cells.lookup x = some c → c ≠ X.env.locals := fun x c e z => by
  obtain ⟨v, o, ho, hd⟩ := I.cell x c e
  obtain ⟨m, ⟨o', es, ep, ho', hd', _⟩, _⟩ := I.loc
  rw [z, ho'] at ho; cases ho; rw [hd'] at hd; cases hd
theorem Inv.funs (I : Inv X pins σ H s) : s.heap.FunFrames X.base X.outer := by
  have all : ∀ (l : List Env), (∀ b ∈ frs l, b ∈ X.fs) → X.s₀.heap.FunFrames X.base l → s.heap.FunFrames X.base l := by
    intro l
    induction l with
    | nil => intro _ _; trivial
    | cons env r ih =>
      intro hs hl
      obtain ⟨hk, ⟨L, o, hf, hn, ho, hd⟩, hr⟩ := hl
      have hL : L ∈ X.fs := hs L (by unfold frs; rw [List.filterMap_cons, hf]; exact List.mem_cons_self)
      obtain ⟨sl, e⟩ := I.base.slot L o ho (I.ok.frf L hL) hL fun z => I.ok.exfs L z hL
      exact ⟨hk, ⟨L, _, hf, hn, e, hd⟩, ih (fun b hb => hs b (by unfold frs; rw [List.filterMap_cons, hf]; exact List.mem_cons_of_mem _ hb)) hr⟩
  exact all X.outer (fun _ hb => hb) I.ok.funs

/-- the frames that run, for a call -/
theorem Inv.stack (I : Inv X pins σ H s) : s.heap.FunFrames X.base X.stack := by
  rcases I.ok.stk with e | ⟨e, hf⟩
  · rw [e]; exact I.funs
  · rw [e]
    obtain ⟨m, hn, _⟩ := I.loc
    refine .cons (by rw [I.ok.kind]; decide) hf hn ?_ I.funs
    exact Heap.get?_none_of_le (Nat.le_trans I.ok.bsz I.ok.above)
theorem Inv.stkSub (I : Inv X pins σ H s) : ∀ b ∈ frs X.stack, b ∈ X.env.locals :: X.fs := fun b hb => by
  rcases I.ok.stk with e | ⟨e, hf⟩
  · rw [e] at hb; exact List.mem_cons_of_mem _ hb
  · rw [e] at hb
    unfold frs at hb
    rw [List.filterMap_cons, hf] at hb
    exact hb
theorem Inv.stkFree (I : Inv X pins σ H s) : ∀ b ∈ frs X.stack, H b = none := fun b hb => by
  rcases List.mem_cons.mp (I.stkSub b hb) with e | hb
  · rw [e]; exact I.free
  · obtain ⟨_, o, ho, _⟩ := I.ok.funs.mem hb
    exact I.base.free b o ho (I.ok.frf b hb) fun z => I.ok.exfs b z hb

/-- THE STEP: the untracked objects but the frame and the records at ch are kept (the callers' frames up to slots), the frame's map is kept, the new abstract heap is held -/
theorem Inv.step {g' : Array GenState} {t' : Nat} {d' : Drawn} {ch : List Addr} (I : Inv X pins σ H s)
    (hch : ∀ b ∈ ch, (b ∈ X.ex ∨ X.s₀.heap.objs.size ≤ b) ∧ b ≠ X.env.locals ∧ (∀ x c, X.env.cells.lookup x = some c → c ≠ b) ∧ ∀ p ∈ X.pn ++ pins, p.1 ≠ b)
    (keep : ∀ b o, b ≠ X.env.locals → b ∉ X.fs → b ∉ ch → s.heap.get? b = some o → H b = none → h'.get? b = some o)
    (slot : ∀ b o, b ≠ X.env.locals → b ∈ X.fs → b ∉ ch → s.heap.get? b = some o → H b = none → ∃ sl, h'.get? b = some { o with slots := sl }) (free : ∀ b o, b ∉ ch → s.heap.get? b = some o → H b = none → H' b = none)
    (there : ∀ b o, b ∉ ch → s.heap.get? b = some o → ∃ o', h'.get? b = some o')
    (tups : ∀ b xs, H b = some (.tup xs) → H' b = some (.tup xs)) (frzs : ∀ b o u, H b = some (.frz o u) → H' b = some (.frz o u)) (tbls : ∀ b ps, H b = some (.tbl ps) → ∃ more, H' b = some (.tbl (ps ++ more)))
    (ns : ∀ m, s.heap.Ns X.env.locals m → h'.Ns X.env.locals m) (hok : HOk X.prog X.w H' h') (hg : AllBare g') :
    Inv X pins σ H' { s with heap := h', gens := g', drawn := d', toks := t' } := by
  have neL : ∀ b o, X.s₀.heap.get? b = some o → b ≠ X.env.locals := fun b o e => Nat.ne_of_lt (Nat.lt_of_lt_of_le (Heap.lt_size e) I.ok.above)
  have neC : ∀ b o, X.s₀.heap.get? b = some o → b ∉ X.ex → b ∉ ch := fun b o e hx hb => by
    rcases (hch b hb).1 with z | z
    · exact hx z
    · exact absurd (Nat.lt_of_lt_of_le (Heap.lt_size e) z) (Nat.lt_irrefl _)
  have cellK : ∀ x c, X.env.cells.lookup x = some c → ∀ v, s.heap.IsCell c v → h'.IsCell c v := fun x c e v ⟨o, ho, hd⟩ => by
    have nch : c ∉ ch := fun z => (hch c z).2.2.1 x c e rfl
    by_cases hc : c ∈ X.fs
    · obtain ⟨sl, q⟩ := slot c o (I.cne x c e) hc nch ho (I.freeC x c e)
      exact ⟨_, q, hd⟩
    · exact ⟨o, keep c o (I.cne x c e) hc nch ho (I.freeC x c e), hd⟩
  refine ⟨I.ok, I.os, hg, ⟨fun b o e n hb hx => ?_, fun b o e n hb hx => ?_, fun b o e n hx => ?_, fun b o e hx => ?_, fun b xs e => tups b xs (I.base.tups b xs e), fun b o xs e => frzs b o xs (I.base.frzs b o xs e), fun b ps e => ?_⟩, ?_, fun x c e => ?_, ?_, fun x c e => ?_, fun p hp => ?_, hok, I.len⟩
  · exact keep b o (neL b o e) hb (neC b o e hx) (I.base.keep b o e n hb hx) (I.base.free b o e n hx)
  · obtain ⟨sl, e1⟩ := I.base.slot b o e n hb hx
    obtain ⟨sl', e2⟩ := slot b _ (neL b o e) hb (neC b o e hx) e1 (I.base.free b o e n hx)
    exact ⟨sl', e2⟩
  · obtain ⟨o', e1⟩ := I.base.there b o e hx
    exact free b o' (neC b o e hx) e1 (I.base.free b o e n hx)
  · obtain ⟨o', e1⟩ := I.base.there b o e hx
    exact there b o' (neC b o e hx) e1
  · obtain ⟨m1, e1⟩ := I.base.tbls b ps e
    obtain ⟨m2, e2⟩ := tbls b _ e1
    exact ⟨m1 ++ m2, by rw [e2, Array.append_assoc]⟩
  · obtain ⟨m, hn, hl⟩ := I.loc
    refine ⟨m, ns m hn, fun i x v e1 e2 e3 => ?_⟩
    obtain ⟨u, r, l⟩ := hl i x v e1 e2 e3
    refine ⟨u, r, ?_⟩
    rcases l with l | ⟨k, c, e, z⟩
    · exact .inl l
    · exact .inr ⟨k, c, e, cellK x c e _ z⟩
  · obtain ⟨v, z⟩ := I.cell x c e
    exact ⟨v, cellK x c e v z⟩
  · obtain ⟨m, ⟨o, _, _, ho, _⟩, _⟩ := I.loc
    exact free _ o (fun z => (hch _ z).2.1 rfl) ho I.free
  · obtain ⟨v, o, ho, hd⟩ := I.cell x c e
    exact free c o (fun z => (hch c z).2.2.1 x c e rfl) ho (I.freeC x c e)
  · obtain ⟨e, n, ne, nf, d⟩ := I.pin p hp
    have nch : p.1 ∉ ch := fun z => (hch p.1 z).2.2.2 p hp rfl
    exact ⟨keep p.1 p.2 ne nf nch e n, free p.1 p.2 nch e n, ne, nf, d⟩
/-- .. where the frame's own object is kept too -/
theorem Inv.un {t' : Nat} (I : Inv X pins σ H s) (u : Un X.fs [] H H' s.heap h') (hok : HOk X.prog X.w H' h') : Inv X pins σ H' { s with heap := h', toks := t' } := by
  obtain ⟨m, ⟨o, es, ep, ho, r⟩, _⟩ := id I.loc
  obtain ⟨sl, hL⟩ := u.any ho I.free (by simp)
  exact I.step (g' := s.gens) (d' := s.drawn) (ch := []) (fun _ z => nomatch z) (fun b o _ hb _ e n => u.keep b o e n hb (by simp)) (fun b o _ hb _ e n => u.slot b o e n hb (by simp)) (fun b o _ e n => u.free b o e n (by simp)) (fun b o _ e => u.there b o e (by simp)) u.tups u.frzs u.tbls (fun m' hm => by
    obtain ⟨o', es', ep', ho', r'⟩ := hm
    rw [ho] at ho'; cases ho'
    exact ⟨_, es', ep', hL, r'⟩) hok I.bare
/-- behind a call (or a comprehension's block): the slots of this frame may have changed too, the records at ch may have turned -/
theorem Inv.call {g' : Array GenState} {t' : Nat} {d' : Drawn} {ch : List Addr} (I : Inv X pins σ H s) (u : Un (frs X.stack) ch H H' s.heap h') (hok : HOk X.prog X.w H' h') (hg : AllBare g')
    (hch : ∀ b ∈ ch, (b ∈ X.ex ∨ X.s₀.heap.objs.size ≤ b) ∧ b ≠ X.env.locals ∧ (∀ x c, X.env.cells.lookup x = some c → c ≠ b) ∧ ∀ p ∈ X.pn ++ pins, p.1 ≠ b) :
    Inv X pins σ H' { s with heap := h', gens := g', drawn := d', toks := t' } := by
  obtain ⟨m, ⟨o, es, ep, ho, r⟩, _⟩ := id I.loc
  obtain ⟨sl, hL⟩ := u.any ho I.free fun z => (hch _ z).2.1 rfl
  exact I.step (ch := ch) hch (fun b o hL hb hc e n => u.keep b o e n (fun z => (List.mem_cons.mp (I.stkSub b z)).elim hL hb) hc) (fun b o _ _ hc e n => u.any e n hc) (fun b o hc e n => u.free b o e n hc) (fun b o hc e => u.there b o e hc) u.tups u.frzs u.tbls (fun m' hm => by
    obtain ⟨o', es', ep', ho', r'⟩ := hm
    rw [ho] at ho'; cases ho'
    exact ⟨_, es', ep', hL, r'⟩) hok hg
/-- an untracked record of ours (an iterator) has turned -/
theorem Inv.turned {t' : Nat} {it : Addr} (I : Inv X pins σ H s) (k : ∀ b o, b ≠ it → s.heap.get? b = some o → h'.get? b = some o) (hn : H it = none) (hL : it ≠ X.env.locals)
    (h1 : it ∈ X.ex ∨ X.s₀.heap.objs.size ≤ it) (h2 : ∀ x c, X.env.cells.lookup x = some c → c ≠ it) (h3 : ∀ p ∈ X.pn ++ pins, p.1 ≠ it) : Inv X pins σ H { s with heap := h', toks := t' } := by
  have nit : ∀ b u, H b = some u → b ≠ it := fun b u e z => by rw [z, hn] at e; cases e
  refine I.step (g' := s.gens) (d' := s.drawn) (ch := [it]) (fun b hb => ?_) (fun b o _ _ hc e _ => k b o (fun z => hc (by simp [z])) e) (fun b o _ _ hc e _ => ⟨o.slots, k b o (fun z => hc (by simp [z])) e⟩) (fun _ _ _ _ n => n)
    (fun b o hc e => ⟨o, k b o (fun z => hc (by simp [z])) e⟩) (fun _ _ e => e) (fun _ _ _ e => e) (fun b ps e => ⟨#[], by rw [e]; simp⟩) (fun m hm => ?_) (fun b u e => ?_) I.bare
  · have e : b = it := by simpa using hb
    subst e
    exact ⟨h1, hL, h2, h3⟩
  · obtain ⟨o, es, ep, ho, r⟩ := hm
    exact ⟨o, es, ep, k _ o (Ne.symm hL) ho, r⟩
  · refine (I.hok b u e).stay (fun c v hc q => k c v ?_ q) (fun _ q => q) fun _ _ q => q
    rcases hc with z | z
    · rw [z]; exact nit b u e
    · exact nit c _ z
theorem Inv.tok (I : Inv X pins σ H s) (t : Nat) : Inv X pins σ H { s with toks := t } := I.un (h' := s.heap) (t' := t) Un.refl I.hok
/-- all objects kept -/
theorem Inv.kept {t' : Nat} (I : Inv X pins σ H s) (k : ∀ b u, s.heap.get? b = some u → h'.get? b = some u) : Inv X pins σ H { s with heap := h', toks := t' } := I.un (Un.kept k) (I.hok.kept k)
/-- a new object laid and tracked -/
theorem Inv.laid {a : Addr} {o : HO} {t' : Nat} (I : Inv X pins σ H s) (k : ∀ b u, s.heap.get? b = some u → h'.get? b = some u) (hp : s.heap.objs.size ≤ a) (new : ObjOk X.prog X.w (upd H a o) h' a o) :
    Inv X pins σ (upd H a o) { s with heap := h', toks := t' } := I.un (Un.laid k hp (I.hok.fresh hp)) (I.hok.laid k hp new)
/-- an object written -/
theorem Inv.write {x e : Addr} {o : HO} {t' : Nat} (I : Inv X pins σ H s) (mu : Mut (H x)) (he : e = x ∨ H e = some (.own x)) (k : ∀ b u, b ≠ e → s.heap.get? b = some u → h'.get? b = some u) (heo : ∃ u, h'.get? e = some u)
    (new : ObjOk X.prog X.w (upd H x o) h' x o) : Inv X pins σ (upd H x o) { s with heap := h', toks := t' } := I.un (Un.write mu he k heo) (I.hok.write mu he k heo new)
theorem Inv.pins_of {pins' : List (Addr × Obj)} (I : Inv X pins σ H s) (h : ∀ p ∈ pins', s.heap.get? p.1 = some p.2 ∧ H p.1 = none ∧ p.1 ≠ X.env.locals ∧ p.1 ∉ X.fs ∧ ∀ v, p.2.data ≠ .cell v) : Inv X pins' σ H s :=
  ⟨I.ok, I.os, I.bare, I.base, I.loc, I.cell, I.free, I.freeC, fun p hp => (List.mem_append.mp hp).elim (fun z => I.pin p (List.mem_append_left _ z)) (h p), I.hok, I.len⟩

theorem nodup_ix {N : List Str} (hN : N.Nodup) {i j : Nat} {x : Str} (a : N[i]? = some x) (b : N[j]? = some x) : i = j := by
  obtain ⟨h1, e1⟩ := List.getElem?_eq_some_iff.mp a
  obtain ⟨h2, e2⟩ := List.getElem?_eq_some_iff.mp b
  exact (List.getElem_inj hN).mp (e1.trans e2.symm)

/-- a name is stored; what changed -/
theorem store_ok2 {M : Model} {A : Around} {E : Value → Shared → Prop} {i : Nat} {x : Str} {v : V} {u : Value} {Q : Unit → Shared → Prop} (I : Inv X pins σ H s) (hN : X.N.Nodup) (hi : X.N[i]? = some x) (hx : Loc X.env.scope x) (r : RelV v u)
    (h : ∀ s', Inv X pins (σ.set i (some v)) H s' → (∃ a, Heap.SameBut a s.heap s'.heap ∧ (a = X.env.locals ∨ X.env.cells.lookup x = some a)) → Q () s') (hf : X.fn x = true ∨ X.env.scope.names.lookup x = some .local := by first | exact .inl rfl | exact .inr rfl | assumption) : wpAny M A (storeName X.env x u) Q E s := by
  obtain ⟨m, hn, hl⟩ := id I.loc
  have hcls : (X.env.scope.kind == .class || (X.env.scope.kind == .module && X.env.locals != X.env.globals)) = false := by rw [I.ok.kind]; rfl
  have hiσ : i < σ.length := by rw [I.len]; exact (List.getElem?_eq_some_iff.mp hi).1
  have cne := I.cne
  have tracked : ∀ {a : Addr} {h' : Heap}, (∃ o, s.heap.get? a = some o ∧ H a = none) → Heap.SameBut a s.heap h' → HOk X.prog X.w H h' := fun {a h'} ha hs b ob e => by
    obtain ⟨_, _, hfree⟩ := ha
    refine (I.hok b ob e).stay (fun c w' hc q => (hs.2 c ?_).trans q) (fun _ q => q) fun _ _ q => q
    rintro rfl
    rcases hc with rfl | hc
    · rw [hfree] at e; cases e
    · rw [hfree] at hc; cases hc
  rcases hx with hk | hk
  · refine wpAny_storeName_local hk hn (fun h' hn' hs => ?_) hcls
    obtain ⟨oL, _, _, hoL, _⟩ := id hn
    refine h _ ⟨I.ok, I.os, I.bare, ⟨fun b o e n hb hx => ?_, fun b o e n hb hx => ?_, I.base.free, fun b o e hx => ?_, I.base.tups, I.base.frzs, I.base.tbls⟩, ⟨_, hn', fun j y v' e1 e2 e3 => ?_⟩, fun y c e => ?_, I.free, I.freeC, fun p hp => ?_, tracked ⟨oL, hoL, I.free⟩ hs, by simpa using I.len⟩ ⟨_, hs, .inl rfl⟩
    · exact (hs.2 b (Nat.ne_of_lt (Nat.lt_of_lt_of_le (Heap.lt_size e) I.ok.above))).trans (I.base.keep b o e n hb hx)
    · obtain ⟨sl, e1⟩ := I.base.slot b o e n hb hx
      exact ⟨sl, (hs.2 b (Nat.ne_of_lt (Nat.lt_of_lt_of_le (Heap.lt_size e) I.ok.above))).trans e1⟩
    · obtain ⟨o', e1⟩ := I.base.there b o e hx
      exact ⟨o', (hs.2 b (Nat.ne_of_lt (Nat.lt_of_lt_of_le (Heap.lt_size e) I.ok.above))).trans e1⟩
    · by_cases hj : j = i
      · subst hj
        rw [hi] at e1; cases e1
        rw [List.getElem?_set_self hiσ] at e2
        cases e2
        exact ⟨u, r, .inl ⟨hk, by simp⟩⟩
      · rw [List.getElem?_set_ne (Ne.symm hj)] at e2
        obtain ⟨u', r', q⟩ := hl j y v' e1 e2 e3
        refine ⟨u', r', ?_⟩
        rcases q with ⟨k, e⟩ | ⟨k, c, e, z⟩
        · refine .inl ⟨k, ?_⟩
          have : y ≠ x := fun e => hj (nodup_ix hN e1 (e ▸ hi))
          simp [this, e]
        · exact .inr ⟨k, c, e, z.sameBut hs (cne y c e)⟩
    · obtain ⟨w', z⟩ := I.cell y c e
      exact ⟨w', z.sameBut hs (cne y c e)⟩
    · obtain ⟨e, n, ne, nf, d⟩ := I.pin p hp
      exact ⟨(hs.2 p.1 ne).trans e, n, ne, nf, d⟩
  · have hfn : X.fn x = true := by
      rcases hf with z | z
      · exact z
      · rw [z] at hk; cases hk
    obtain ⟨c, hc⟩ := I.ok.has x (.inl hk)
    obtain ⟨w', z⟩ := I.cell x c hc
    refine wpAny_storeName_cell I.ok.kind hk hc z (fun h' hc' hs => ?_)
    obtain ⟨oc, hoc, hocd⟩ := id z
    refine h { s with heap := h' } ⟨I.ok, I.os, I.bare, ⟨fun b o e n hb hx => ?_, fun b o e n hb hx => ?_, I.base.free, fun b o e hx => ?_, I.base.tups, I.base.frzs, I.base.tbls⟩, ⟨m, hn.sameBut hs (Ne.symm (cne x c hc)), fun j y v' e1 e2 e3 => ?_⟩, fun y c' e => ?_, I.free, I.freeC, fun p hp => ?_, tracked ⟨oc, hoc, I.freeC x c hc⟩ hs, by simpa using I.len⟩ ⟨c, hs, .inr hc⟩
    · exact (hs.2 b (Nat.ne_of_lt (Nat.lt_of_lt_of_le (Heap.lt_size e) (I.ok.cab x c hfn hc)))).trans (I.base.keep b o e n hb hx)
    · obtain ⟨sl, e1⟩ := I.base.slot b o e n hb hx
      exact ⟨sl, (hs.2 b (Nat.ne_of_lt (Nat.lt_of_lt_of_le (Heap.lt_size e) (I.ok.cab x c hfn hc)))).trans e1⟩
    · obtain ⟨o', e1⟩ := I.base.there b o e hx
      exact ⟨o', (hs.2 b (Nat.ne_of_lt (Nat.lt_of_lt_of_le (Heap.lt_size e) (I.ok.cab x c hfn hc)))).trans e1⟩
    · by_cases hj : j = i
      · subst hj
        rw [hi] at e1; cases e1
        rw [List.getElem?_set_self hiσ] at e2
        cases e2
        exact ⟨u, r, .inr ⟨.inl hk, c, hc, hc'⟩⟩
      · rw [List.getElem?_set_ne (Ne.symm hj)] at e2
        obtain ⟨u', r', q⟩ := hl j y v' e1 e2 e3
        refine ⟨u', r', ?_⟩
        rcases q with q | ⟨k, c', e, z'⟩
        · exact .inl q
        · refine .inr ⟨k, c', e, z'.sameBut hs ?_⟩
          rintro rfl
          exact hj (nodup_ix hN e1 (I.ok.inj _ _ _ e hc ▸ hi))
    · by_cases hcc : c' = c
      · subst hcc; exact ⟨_, hc'⟩
      · obtain ⟨w2, z2⟩ := I.cell y c' e
        exact ⟨w2, z2.sameBut hs hcc⟩
    · obtain ⟨e, n, ne, nf, d⟩ := I.pin p hp
      refine ⟨(hs.2 p.1 ?_).trans e, n, ne, nf, d⟩
      intro q
      rw [q, hoc] at e
      have q' : oc = p.2 := Option.some.inj e
      exact d w' (by rw [← q']; exact hocd)
theorem store_ok {M : Model} {A : Around} {E : Value → Shared → Prop} {i : Nat} {x : Str} {v : V} {u : Value} {Q : Unit → Shared → Prop} (I : Inv X pins σ H s) (hN : X.N.Nodup) (hi : X.N[i]? = some x) (hx : Loc X.env.scope x) (r : RelV v u)
    (h : ∀ s', Inv X pins (σ.set i (some v)) H s' → Q () s') (hf : X.fn x = true ∨ X.env.scope.names.lookup x = some .local := by first | exact .inl rfl | exact .inr rfl | assumption) : wpAny M A (storeName X.env x u) Q E s :=
  store_ok2 I hN hi hx r (fun s' I' _ => h s' I') hf
/-- behind a call or a block, the state as it is -/
theorem Inv.call' {s' : Shared} {ch : List Addr} (I : Inv X pins σ H s) (ho : s'.os = s.os) (u : Un (frs X.stack) ch H H' s.heap s'.heap) (hok : HOk X.prog X.w H' s'.heap) (hg : AllBare s'.gens)
    (hch : ∀ b ∈ ch, (b ∈ X.ex ∨ X.s₀.heap.objs.size ≤ b) ∧ b ≠ X.env.locals ∧ (∀ x c, X.env.cells.lookup x = some c → c ≠ b) ∧ ∀ p ∈ X.pn ++ pins, p.1 ≠ b) : Inv X pins σ H' s' := by
  obtain ⟨h', g', d', t', o'⟩ := s'
  have e : o' = s.os := ho
  subst e
  exact I.call (g' := g') (t' := t') (d' := d') u hok hg hch
end

/-! ### the judgements -/
/-- an exception: its class, its own dict's address (where it has one), the abstract heap behind it -/
abbrev XK := Value → Option Addr → Hp → Prop
abbrev St := List (Option V)
abbrev VK := V → Hp → Prop
/-- an expression's reading; a test's; an argument list's -/
abbrev TE := St → Hp → VK → Prop
abbrev TT := St → Hp → (Bool → Hp → Prop) → Prop
abbrev TA := St → Hp → (List V → Hp → Prop) → Prop
/-- what is wanted behind a statement -/
structure Ends where
  nx : St → Hp → Prop
  rt : VK
  bk : St → Hp → Prop := fun _ _ => False
  ct : St → Hp → Prop := fun _ _ => False
abbrev TS := Ends → St → Hp → Prop

def EP (X : Cx) (pins : List (Addr × Obj)) (σ : St) (Q : VK) (u : Value) (s' : Shared) : Prop := ∃ v H', Inv X pins σ H' s' ∧ RelV v u ∧ Q v H'
def TP (X : Cx) (pins : List (Addr × Obj)) (σ : St) (Q : Bool → Hp → Prop) (b : Bool) (s' : Shared) : Prop := ∃ H', Inv X pins σ H' s' ∧ Q b H'
def AP (X : Cx) (pins : List (Addr × Obj)) (σ : St) (Q : List V → Hp → Prop) (us : List Value) (s' : Shared) : Prop := ∃ vs H', Inv X pins σ H' s' ∧ Vals vs us ∧ Q vs H'
def SP (X : Cx) (pins : List (Addr × Obj)) (D : Ends) (f : Flow) (s' : Shared) : Prop :=
  match f with
  | .next => ∃ σ' H', Inv X pins σ' H' s' ∧ D.nx σ' H'
  | .brk => ∃ σ' H', Inv X pins σ' H' s' ∧ D.bk σ' H'
  | .cont => ∃ σ' H', Inv X pins σ' H' s' ∧ D.ct σ' H'
  | .ret u => ∃ v σ' H', Inv X pins σ' H' s' ∧ RelV v u ∧ D.rt v H'

def PE (X : Cx) (e : Expr) (t : TE) : Prop :=
  ∀ (pins : List (Addr × Obj)) (s : Shared) (σ : St) (H : Hp) (Q : VK), Inv X pins σ H s → t σ H Q → wpAny (model X.prog X.w) X.A (eval e X.env) (EP X pins σ Q) X.xe s
def PT (X : Cx) (e : Expr) (t : TT) : Prop :=
  ∀ (pins : List (Addr × Obj)) (s : Shared) (σ : St) (H : Hp) (Q : Bool → Hp → Prop), Inv X pins σ H s → t σ H Q → wpAny (model X.prog X.w) X.A (isTrue e X.env (eval e X.env)) (TP X pins σ Q) X.xe s
/-- a test whatever its 'whole' is (and, or) -/
def PW (X : Cx) (e : Expr) (t : TT) : Prop :=
  ∀ (whole : Sem Value) (pins : List (Addr × Obj)) (s : Shared) (σ : St) (H : Hp) (Q : Bool → Hp → Prop), Inv X pins σ H s → t σ H Q → wpAny (model X.prog X.w) X.A (isTrue e X.env whole) (TP X pins σ Q) X.xe s
theorem PW.pt {X : Cx} {e : Expr} {t : TT} (h : PW X e t) : PT X e t := h _
/-- an argument list (no star), from the left -/
def PA (X : Cx) (es : List Expr) (t : TA) : Prop :=
  ∀ (pos : Pos) (pins : List (Addr × Obj)) (s : Shared) (σ : St) (H : Hp) (Q : List V → Hp → Prop), Inv X pins σ H s → t σ H Q → wpAny (model X.prog X.w) X.A (spliced (backTo pos (starEach es X.env))) (AP X pins σ Q) X.xe s
def PS (X : Cx) (st : Stmt) (t : TS) : Prop :=
  ∀ (pins : List (Addr × Obj)) (s : Shared) (σ : St) (H : Hp) (D : Ends), Inv X pins σ H s → t D σ H → wpAny (model X.prog X.w) X.A (exec st X.env) (SP X pins D) X.xe s
def PSs (X : Cx) (st : List Stmt) (t : TS) : Prop :=
  ∀ (pins : List (Addr × Obj)) (s : Shared) (σ : St) (H : Hp) (D : Ends), Inv X pins σ H s → t D σ H → wpAny (model X.prog X.w) X.A (execs st X.env) (SP X pins D) X.xe s
/-- weaken the end -/
theorem thn {α : Type} {t : Sem α} {Q Q' : α → Shared → Prop} {M : Model} {A : Around} {E : Value → Shared → Prop} {s : Shared} (h : wpAny M A t Q E s) (hQ : ∀ a s, Q a s → Q' a s) : wpAny M A t Q' E s := wpAny_mono h hQ fun _ _ x => x
end L2

namespace L2
open PySem PySem.Spec PyProof.Rows
section
variable {X : Cx}

/-! ### names and constants -/
def tVar (i : Nat) : TE := fun σ H Q => ∃ v, σ[i]? = some (some v) ∧ Q v H
def tC (v : V) : TE := fun _ H Q => Q v H
theorem pe_var {i : Nat} {x : Str} {pos : Pos} (hN : X.N[i]? = some x) (hv : Vis X.env.scope x) (hd : (x == ("__debug__" : Str)) = false := by decide) (hcd : (x == ("__classdict__" : Str)) = false := by decide) : PE X (.Name x pos) (tVar i) := by
  intro pins s σ H Q I h
  obtain ⟨v, e, h⟩ := h
  obtain ⟨m, hn, hl⟩ := I.loc
  obtain ⟨u, r, l⟩ := hl i x v hN e hv
  have fin : EP X pins σ Q u s := ⟨v, H, I, r, h⟩
  rcases l with ⟨hk, hm⟩ | ⟨hk, c, hc, hcell⟩
  · exact wpAny_Name (wpAny_loadName_local I.ok.kind hk hn hm fin) hd
  · rcases hk with hk | hk
    · exact wpAny_Name (wpAny_loadName_cell I.ok.kind hk hc hcell fin) hd
    · exact wpAny_Name (wpAny_loadName_free I.ok.kind hk hc hcell fin hcd) hd
theorem pe_int {i j pos} : PE X (.Constant (.int i) j pos) (tC (.int i)) := fun _ _ _ H _ I h => wpAny_Constant_int ⟨.int i, H, I.tok _, ⟨_, rfl⟩, h⟩
theorem pe_bl {b j pos} : PE X (.Constant (.bool b) j pos) (tC (.bl b)) := fun _ _ _ H _ I h => Constant_bool ⟨.bl b, H, I, rfl, h⟩
theorem pe_non {j pos} : PE X (.Constant .none j pos) (tC .non) := fun _ _ _ H _ I h => Constant_none ⟨.non, H, I, rfl, h⟩
theorem pe_str {x j pos} : PE X (.Constant (.str x) j pos) (tC (.str x)) := fun _ _ _ H _ I h => Calls.Constant_str ⟨.str x, H, I.tok _, ⟨_, rfl⟩, h⟩

/-- a global name of the def -/
def Gl (X : Cx) (x : Str) : Prop := X.env.kindOf x = some .globalImplicit
theorem ld_glob {E : Value → Shared → Prop} {pins : List (Addr × Obj)} {s : Shared} {σ : St} {H : Hp} {x : Str} {u : Value} {pos : Pos} {Q : Value → Shared → Prop} (I : Inv X pins σ H s) (hg : Gl X x) (hm : X.mg x = some u) (h : Q u s)
    (hd : (x == ("__debug__" : Str)) = false := by decide) : wpAny (model X.prog X.w) X.A (eval (.Name x pos) X.env) Q E s :=
  Calls.Name_function_global I.ok.kind hg (Calls.loadGlobal_global (by rw [I.ok.glob]; exact I.mod.glob.keeps I.bk) hm h) hd
theorem ld_blt {E : Value → Shared → Prop} {pins : List (Addr × Obj)} {s : Shared} {σ : St} {H : Hp} {x : Str} {u : Value} {pos : Pos} {Q : Value → Shared → Prop} (I : Inv X pins σ H s) (hg : Gl X x) (hm : X.mg x = none) (hv : bootBuiltins x = some u) (h : Q u s)
    (hn : x ≠ "__name__" := by decide) (hd : (x == ("__debug__" : Str)) = false := by decide) : wpAny (model X.prog X.w) X.A (eval (.Name x pos) X.env) Q E s := by
  obtain ⟨mb, h1, h2⟩ := I.mod.blt
  exact Calls.Name_function_global I.ok.kind hg (Calls.loadGlobal_builtin (by rw [I.ok.glob]; exact I.mod.glob.keeps I.bk) hm (by rw [I.ok.blt]; exact h1.keeps I.bk) ((h2 x hn).trans hv) h) hd
/-- a module's constant, a class, a function, as a value -/
theorem pe_glob {x : Str} {v : V} {u : Value} {pos : Pos} (hg : Gl X x) (hm : X.mg x = some u) (r : RelV v u) (hd : (x == ("__debug__" : Str)) = false := by decide) : PE X (.Name x pos) (tC v) :=
  fun _ _ _ H _ I h => ld_glob I hg hm ⟨v, H, I, r, h⟩ hd
theorem pe_bltn {x : Str} {v : V} {u : Value} {pos : Pos} (hg : Gl X x) (hm : X.mg x = none) (hv : bootBuiltins x = some u) (r : RelV v u) (hn : x ≠ "__name__" := by decide) (hd : (x == ("__debug__" : Str)) = false := by decide) : PE X (.Name x pos) (tC v) :=
  fun _ _ _ H _ I h => ld_blt I hg hm hv ⟨v, H, I, r, h⟩ hn hd

/-! ### arithmetic -/
/-- two ints -/
def t2I (ta tb : TE) (k : Int → Int → Hp → Prop) : St → Hp → Prop := fun σ H => ta σ H fun x H1 => tb σ H1 fun y H2 => ∃ i j, x = .int i ∧ y = .int j ∧ k i j H2
def tAdd (ta tb : TE) : TE := fun σ H Q => t2I ta tb (fun i j H2 => Q (.int (i + j)) H2) σ H
def tSub (ta tb : TE) : TE := fun σ H Q => t2I ta tb (fun i j H2 => Q (.int (i - j)) H2) σ H
/-- the left factor below 2^64 -/
def tMul (ta tb : TE) : TE := fun σ H Q => t2I ta tb (fun i j H2 => (-(2 ^ 64) < i ∧ i < 2 ^ 64) ∧ Q (.int (i * j)) H2) σ H
variable {a b : Expr} {ta tb : TE} {pos : Pos}
/-! ### comparisons -/
def PC (X : Cx) (op : CmpOp) (a b : Expr) (t : TE) : Prop :=
  ∀ (pins : List (Addr × Obj)) (s : Shared) (σ : St) (H : Hp) (Q : VK), Inv X pins σ H s → t σ H Q →
    wpAny (model X.prog X.w) X.A (eval a X.env) (fun v s₁ => wpAny (model X.prog X.w) X.A (eval b X.env) (fun u s₂ => wpAny (model X.prog X.w) X.A (compareOp op v u) (EP X pins σ Q) X.xe s₂) X.xe s₁) X.xe s
def tCmp (p : Int → Int → Bool) (ta tb : TE) : TE := fun σ H Q => t2I ta tb (fun i j H2 => Q (.bl (p i j)) H2) σ H
abbrev tLt : TE → TE → TE := tCmp fun i j => decide (i < j)
abbrev tLe : TE → TE → TE := tCmp fun i j => decide (i ≤ j)
abbrev tGt : TE → TE → TE := tCmp fun i j => decide (j < i)
abbrev tGe : TE → TE → TE := tCmp fun i j => decide (j ≤ i)
abbrev tEqI : TE → TE → TE := tCmp fun i j => decide (i = j)
abbrev tNeI : TE → TE → TE := tCmp fun i j => !decide (i = j)
/-- is None -/
def tIsN (ta : TE) : TE := fun σ H Q => ta σ H fun x H1 => Q (.bl (decide (x = .non))) H1
def tNotN (ta : TE) : TE := fun σ H Q => ta σ H fun x H1 => Q (.bl (!decide (x = .non))) H1
/-- a comparison as a value, as a test -/
def tB (t : TE) : TT := fun σ H Q => t σ H fun x H1 => ∃ c, x = .bl c ∧ Q c H1
/-- an expression whose value is a bool, as a test -/
theorem pt_val {e : Expr} {t : TE} (h : PE X e t) (he : ∀ whole, isTrue e X.env whole = (do let v ← whole; standAt e.pos; holding [v] (truthy v)) := by intro _; rfl) : PT X e (tB t) := by
  intro pins s σ H Q I hw
  refine isTrue_plain (thn (h pins s σ H _ I hw) fun v s1 ⟨x, H1, I1, r1, q1⟩ => ?_) (he _)
  obtain ⟨d, rfl, q⟩ := q1
  cases r1
  exact wpAny_truthy_bool ⟨H1, I1, q⟩

/-! ### and, or, not -/
variable {tA tB' : TT} {rest : List Expr}
def tAnd (t u : TT) : TT := fun σ H Q => t σ H fun c H1 => if c = true then u σ H1 Q else Q false H1
def tOr (t u : TT) : TT := fun σ H Q => t σ H fun c H1 => if c = true then Q true H1 else u σ H1 Q
def tNot (t : TT) : TT := fun σ H Q => t σ H fun c H1 => Q (!c) H1
theorem pw_and1 (ha : PT X a tA) : PW X (.BoolOp .And [a] pos) tA := by
  intro wh pins s σ H Q I h
  refine isTrue_and (thn (ha pins s σ H Q I h) fun c s1 e => ?_)
  cases c with
  | true => exact isTrue_and_nil e
  | false => exact e
theorem pw_or1 (ha : PT X a tA) : PW X (.BoolOp .Or [a] pos) tA := by
  intro wh pins s σ H Q I h
  refine isTrue_or (thn (ha pins s σ H Q I h) fun c s1 e => ?_)
  cases c with
  | false => exact isTrue_or_nil e
  | true => exact e
theorem pw_and (ha : PT X a tA) (hb : PW X (.BoolOp .And (b :: rest) pos) tB') : PW X (.BoolOp .And (a :: b :: rest) pos) (tAnd tA tB') := by
  intro wh pins s σ H Q I h
  refine isTrue_and (thn (ha pins s σ H _ I h) fun c s1 ⟨H1, I1, q1⟩ => ?_)
  cases c with
  | true => exact hb wh pins s1 σ H1 Q I1 q1
  | false => exact ⟨H1, I1, q1⟩
theorem pw_or (ha : PT X a tA) (hb : PW X (.BoolOp .Or (b :: rest) pos) tB') : PW X (.BoolOp .Or (a :: b :: rest) pos) (tOr tA tB') := by
  intro wh pins s σ H Q I h
  refine isTrue_or (thn (ha pins s σ H _ I h) fun c s1 ⟨H1, I1, q1⟩ => ?_)
  cases c with
  | true => exact ⟨H1, I1, q1⟩
  | false => exact hb wh pins s1 σ H1 Q I1 q1
theorem pt_not (ha : PT X a tA) : PT X (.UnaryOp .Not a pos) (tNot tA) := by
  intro pins s σ H Q I h
  exact isTrue_not (ha pins s σ H (fun c H1 => Q (!c) H1) I h)
/-- .. as values (bools) -/
def tAndV (ta tb : TE) : TE := fun σ H Q => ta σ H fun x H1 => ∃ c, x = .bl c ∧ if c = true then tb σ H1 Q else Q (.bl false) H1
def tOrV (ta tb : TE) : TE := fun σ H Q => ta σ H fun x H1 => ∃ c, x = .bl c ∧ if c = true then Q (.bl true) H1 else tb σ H1 Q
def tNotV (ta : TE) : TE := fun σ H Q => ta σ H fun x H1 => ∃ c, x = .bl c ∧ Q (.bl (!c)) H1
theorem pe_one {op} {t : TE} (h : PE X a t) : PE X (.BoolOp op [a] pos) t := fun pins s σ H Q I hw => BoolOp_one (h pins s σ H Q I hw)
theorem pe_and (ha : PE X a ta) (hb : PE X (.BoolOp .And (b :: rest) pos) tb) : PE X (.BoolOp .And (a :: b :: rest) pos) (tAndV ta tb) := by
  intro pins s σ H Q I h
  refine BoolOp_and (thn (ha pins s σ H _ I h) fun v s1 ⟨x, H1, I1, r1, q1⟩ => ?_)
  obtain ⟨c, rfl, q1⟩ := q1
  cases r1
  refine wpAny_truthy_bool ?_
  cases c with
  | true => exact hb pins s1 σ H1 Q I1 q1
  | false => exact ⟨.bl false, H1, I1, rfl, q1⟩
/-- a if t else b -/
def tIf (t : TT) (ta tb : TE) : TE := fun σ H Q => t σ H fun c H1 => if c = true then ta σ H1 Q else tb σ H1 Q
theorem pe_ifExp {c : Expr} (hc : PT X c tA) (ha : PE X a ta) (hb : PE X b tb) : PE X (.IfExp c a b pos) (tIf tA ta tb) := by
  intro pins s σ H Q I h
  refine wpAny_IfExp (thn (hc pins s σ H _ I h) fun d s1 ⟨H1, I1, q1⟩ => ?_)
  cases d with
  | true => exact ha pins s1 σ H1 Q I1 q1
  | false => exact hb pins s1 σ H1 Q I1 q1
end
end L2

namespace L2
open PySem PySem.Spec PyProof.Rows

/-! ### a list, a tuple that is read: tracked, frozen, or an object of the module -/
def SqL (K : PySem.W.Frag) (H : Hp) (a : Addr) (xs : List V) : Prop :=
  Rd H a (.lst xs) ∨
    ∃ (o : Obj) (its : Array Value) (n : Nat), K.lookup a = some o ∧ o.cls = .type "list" ∧ o.dict = none ∧ o.data = .seq its n ∧ its.size ≤ sizeLine ∧ Vals xs its.toList
def SqT (K : PySem.W.Frag) (H : Hp) (a : Addr) (xs : List V) : Prop :=
  Rd H a (.tup xs) ∨
    ∃ (o : Obj) (its : Array Value) (n : Nat), K.lookup a = some o ∧ o.cls = .type "tuple" ∧ o.data = .seq its n ∧ its.size ≤ sizeLine ∧ Vals xs its.toList
def absV : Value → Option V
  | .none => some .non
  | .bool b => some (.bl b)
  | .int i _ => some (.int i)
  | .str x _ => some (.str x)
  | .bytes b _ => some (.byt b)
  | .float b _ => some (.flt b)
  | .ref a => some (.ref a)
  | .type n => some (.ty n)
  | _ => none
theorem RelV.abs {x : V} {u : Value} (r : RelV x u) : absV u = some x := by
  cases x with
  | non => cases r; rfl
  | bl _ => cases r; rfl
  | int _ => obtain ⟨t, rfl⟩ := r; rfl
  | str _ => obtain ⟨t, rfl⟩ := r; rfl
  | byt _ => obtain ⟨t, rfl⟩ := r; rfl
  | flt _ => obtain ⟨t, rfl⟩ := r; rfl
  | ref _ => cases r; rfl
  | ty _ => cases r; rfl
theorem RelV.inj {x y : V} {u : Value} (r : RelV x u) (q : RelV y u) : x = y := Option.some.inj (r.abs.symm.trans q.abs)
theorem Vals.inj : ∀ {xs ys : List V} {us : List Value}, Vals xs us → Vals ys us → xs = ys
  | _, _, _, .nil, .nil => rfl
  | _, _, _, .cons r t, .cons r' t' => by rw [r.inj r', Vals.inj t t']
section
variable {X : Cx} {pins : List (Addr × Obj)} {σ : St} {H : Hp} {s : Shared} {a : Addr} {xs ys : List V}
theorem SqL.of {K : PySem.W.Frag} (h : H a = some (.lst xs)) : SqL K H a xs := .inl (.inl h)
theorem SqT.of {K : PySem.W.Frag} (h : H a = some (.tup xs)) : SqT K H a xs := .inl (.inl h)
theorem Inv.list (I : Inv X pins σ H s) (h : SqL X.K H a xs) : ∃ its : List Value, Vals xs its ∧ PlainL s.heap a its.toArray ∧ xs.length ≤ sizeLine := by
  rcases h with h | ⟨o, its, n, hk, hc, hd, hs, hz, r⟩
  · obtain ⟨z, its, n, r, e⟩ := h.ok I.hok
    exact ⟨its, r, ⟨_, n, e, rfl, rfl, rfl⟩, z⟩
  · refine ⟨its.toList, r, ⟨o, n, I.kIn a o hk, hc, hd, by simpa using hs⟩, ?_⟩
    have e := r.length
    simp only [Array.length_toList] at e
    omega
theorem Inv.tuple (I : Inv X pins σ H s) (h : SqT X.K H a xs) : ∃ its : List Value, Vals xs its ∧ IsTup s.heap a its.toArray ∧ xs.length ≤ sizeLine := by
  rcases h with h | ⟨o, its, n, hk, hc, hs, hz, r⟩
  · obtain ⟨z, its, r, p⟩ := h.ok I.hok
    exact ⟨its, r, p, z⟩
  · refine ⟨its.toList, r, ⟨o, I.kIn a o hk, hc, n, by simpa using hs⟩, ?_⟩
    have e := r.length
    simp only [Array.length_toList] at e
    omega
theorem Inv.list_inj (I : Inv X pins σ H s) (h : SqL X.K H a xs) (h' : SqL X.K H a ys) : xs = ys := by
  obtain ⟨its, r, ⟨o, n, e, _, _, d⟩, _⟩ := I.list h
  obtain ⟨its', r', ⟨o', n', e', _, _, d'⟩, _⟩ := I.list h'
  rw [e] at e'; cases e'
  rw [d] at d'
  injection d' with d1 _
  have : its = its' := by simpa using congrArg Array.toList d1
  subst this
  exact r.inj r'
end

/-! ### another wish about exceptions -/
abbrev Cx.wish (X : Cx) (E : Value → Shared → Prop) : Cx := { X with xe := E }
/-- no exception leaves -/
abbrev Cx.nox (X : Cx) : Cx := X.wish fun _ _ => False
theorem Cx.Ok.wish {X : Cx} (ok : X.Ok) (E : Value → Shared → Prop) : (X.wish E).Ok :=
  ⟨ok.mod, ok.kind, ok.glob, ok.blt, ok.above, ok.inj, ok.has, ok.cab, ok.hd, ok.frames, ok.stk, ok.exf, ok.bs, ok.bsz, ok.noex, ok.exfs, ok.funs, ok.frf⟩
theorem Cx.Ok.unwish {X : Cx} {E : Value → Shared → Prop} (ok : (X.wish E).Ok) : X.Ok :=
  ⟨ok.mod, ok.kind, ok.glob, ok.blt, ok.above, ok.inj, ok.has, ok.cab, ok.hd, ok.frames, ok.stk, ok.exf, ok.bs, ok.bsz, ok.noex, ok.exfs, ok.funs, ok.frf⟩
section
variable {X : Cx} {pins : List (Addr × Obj)} {σ : St} {H : Hp} {s : Shared} {E : Value → Shared → Prop}
theorem Inv.wish (I : Inv X pins σ H s) (E : Value → Shared → Prop) : Inv (X.wish E) pins σ H s := ⟨I.ok.wish E, I.os, I.bare, I.base, I.loc, I.cell, I.free, I.freeC, I.pin, I.hok, I.len⟩
theorem Inv.unwish (I : Inv (X.wish E) pins σ H s) : Inv X pins σ H s := ⟨I.ok.unwish, I.os, I.bare, I.base, I.loc, I.cell, I.free, I.freeC, I.pin, I.hok, I.len⟩
theorem SP.unwish {D : Ends} {f : Flow} {s' : Shared} (h : SP (X.wish E) pins D f s') : SP X pins D f s' := by
  cases f with
  | next => obtain ⟨σ', H', I, q⟩ := h; exact ⟨σ', H', I.unwish, q⟩
  | brk => obtain ⟨σ', H', I, q⟩ := h; exact ⟨σ', H', I.unwish, q⟩
  | cont => obtain ⟨σ', H', I, q⟩ := h; exact ⟨σ', H', I.unwish, q⟩
  | ret u => obtain ⟨v, σ', H', I, r, q⟩ := h; exact ⟨v, σ', H', I.unwish, r, q⟩
theorem PSs.nox {st : List Stmt} {t : TS} (h : PSs X.nox st t) : PSs X st t := fun pins s σ H D I hw =>
  wpAny_mono (h pins s σ H D (I.wish _) hw) (fun _ _ q => q.unwish) fun _ _ z => False.elim z
end

/-! ### blocks and small statements -/
section
variable {X : Cx} {st : Stmt} {rest : List Stmt} {t u : TS} {e : Expr} {te : TE} {pos : Pos}
def tNext : TS := fun D σ H => D.nx σ H
def tSeq (t u : TS) : TS := fun D σ H => t { D with nx := u D } σ H
theorem pss_nil : PSs X [] tNext := fun _ _ σ H _ I h => wpAny_execs_nil ⟨σ, H, I, h⟩
theorem pss_cons (h1 : PS X st t) (h2 : PSs X rest u) : PSs X (st :: rest) (tSeq t u) := by
  intro pins s σ H D I h
  refine wpAny_execs_cons (thn (h1 pins s σ H { D with nx := u D } I h) fun f s1 q => ?_)
  cases f with
  | next =>
    obtain ⟨σ', H', I', q⟩ := q
    exact h2 pins s1 σ' H' D I' q
  | ret v => exact q
  | brk => exact q
  | cont => exact q
theorem pss_one (h1 : PS X st t) : PSs X [st] t := by
  intro pins s σ H D I h
  refine wpAny_execs_cons (thn (h1 pins s σ H D I h) fun f s1 q => ?_)
  cases f with
  | next => exact wpAny_execs_nil q
  | ret v => exact q
  | brk => exact q
  | cont => exact q
def tBreak : TS := fun D σ H => D.bk σ H
def tCont : TS := fun D σ H => D.ct σ H
/-- in a def's body nothing is shown -/
theorem Inv.quiet {pins : List (Addr × Obj)} {σ : St} {H : Hp} {s : Shared} (I : Inv X pins σ H s) : interactive X.env = false := by simp [interactive, I.ok.kind]
/-- an expression whose value is dropped -/
def tDrop (te : TE) : TS := fun D σ H => te σ H fun _ H1 => D.nx σ H1
theorem ps_expr (he : PE X e te) (hs : swapsWith e none pos.line X.env = pure false := by rfl) : PS X (.Expr e pos) (tDrop te) := by
  intro pins s σ H D I h
  exact wpAny_Expr_any (thn (he pins s σ H _ I h) fun v s1 ⟨x, H1, I1, r1, q1⟩ => ⟨σ, H1, I1, q1⟩) I.quiet hs
def tRet (te : TE) : TS := fun D σ H => te σ H D.rt
theorem ps_ret (he : PE X e te) : PS X (.Return (some e) pos) (tRet te) := by
  intro pins s σ H D I h
  exact wpAny_Return_some (thn (he pins s σ H _ I h) fun v s1 ⟨x, H1, I1, r1, q1⟩ => ⟨x, σ, H1, I1, r1, q1⟩)
def tRetN : TS := fun D _ H => D.rt .non H
def tIfS (c : TT) (t u : TS) : TS := fun D σ H => c σ H fun b H1 => if b = true then t D σ H1 else u D σ H1
theorem ps_if {c : Expr} {a b : List Stmt} {tc : TT} (hc : PT X c tc) (ha : PSs X a t) (hb : PSs X b u) : PS X (.If c a b pos) (tIfS tc t u) := by
  intro pins s σ H D I h
  refine wpAny_If (thn (hc pins s σ H _ I h) fun d s1 ⟨H1, I1, q1⟩ => ?_)
  cases d with
  | true => exact ha pins s1 σ H1 D I1 q1
  | false => exact hb pins s1 σ H1 D I1 q1
/-- code that the proof never comes to -/
def tNever : TS := fun _ _ _ => False
end

/-! ### targets -/
abbrev TG := V → St → Hp → (St → Hp → Prop) → Prop
abbrev TGs := List V → St → Hp → (St → Hp → Prop) → Prop
def PG (X : Cx) (target : Expr) (t : TG) : Prop :=
  ∀ (pins : List (Addr × Obj)) (s : Shared) (σ : St) (H : Hp) (v : V) (u : Value) (Q : St → Hp → Prop), Inv X pins σ H s → RelV v u → t v σ H Q →
    wpAny (model X.prog X.w) X.A (assign target X.env u) (fun _ s' => ∃ σ' H', Inv X pins σ' H' s' ∧ Q σ' H') X.xe s
/-- several targets, one after another -/
def PGs (X : Cx) (ts : List Expr) (t : TGs) : Prop :=
  ∀ (pins : List (Addr × Obj)) (s : Shared) (σ : St) (H : Hp) (vs : List V) (us : List Value) (Q : St → Hp → Prop), Inv X pins σ H s → Vals vs us → t vs σ H Q →
    wpAny (model X.prog X.w) X.A (assignInOrder ((assignEach ts X.env).map (·.2)) us) (fun _ s' => ∃ σ' H', Inv X pins σ' H' s' ∧ Q σ' H') X.xe s
/-- o[i] = v, by values -/
abbrev TSet := V → V → V → Hp → (Hp → Prop) → Prop
def PSet (X : Cx) (t : TSet) : Prop :=
  ∀ (pins : List (Addr × Obj)) (s : Shared) (σ : St) (H : Hp) (o i v : V) (ov iv u : Value) (Q : Hp → Prop), Inv X pins σ H s → RelV o ov → RelV i iv → RelV v u → t o i v H Q →
    wpAny (model X.prog X.w) X.A (setItem ov iv u) (fun _ s' => ∃ H', Inv X pins σ H' s' ∧ Q H') X.xe s
/-- a op= b, by values -/
abbrev TIp := V → V → Hp → VK → Prop
def PIp (X : Cx) (op : Operator) (t : TIp) : Prop :=
  ∀ (pins : List (Addr × Obj)) (s : Shared) (σ : St) (H : Hp) (x y : V) (v u : Value) (Q : VK), Inv X pins σ H s → RelV x v → RelV y u → t x y H Q →
    wpAny (model X.prog X.w) X.A (inplaceOp op v u) (EP X pins σ Q) X.xe s
section
variable {X : Cx} {pos : Pos}
def gName (i : Nat) : TG := fun v σ H Q => Q (σ.set i (some v)) H
theorem pg_name {i : Nat} {x : Str} (hN : X.N.Nodup) (hi : X.N[i]? = some x) (hx : Loc X.env.scope x) (hf : X.fn x = true ∨ X.env.scope.names.lookup x = some .local := by first | exact .inl rfl | exact .inr rfl | assumption) : PG X (.Name x pos) (gName i) := by
  intro pins s σ H v u Q I r h
  exact wpAny_assign_Name (store_ok I hN hi hx r (fun s' I' => ⟨_, H, I', h⟩) hf)
def gNil : TGs := fun vs σ H Q => vs = [] ∧ Q σ H
def gCons (t : TG) (u : TGs) : TGs := fun vs σ H Q => ∃ v r, vs = v :: r ∧ t v σ H fun σ' H' => u r σ' H' Q
/-- (a, b, ..) = a tuple of that length -/
def gTup (K : PySem.W.Frag) (n : Nat) (t : TGs) : TG := fun v σ H Q => ∃ a xs, v = .ref a ∧ SqT K H a xs ∧ xs.length = n ∧ t xs σ H Q
/-- o[i] = .. -/
def gSub (to ti : TE) (t : TSet) : TG := fun v σ H Q => to σ H fun o H1 => ti σ H1 fun i H2 => t o i v H2 fun H3 => Q σ H3
theorem pg_sub {o i : Expr} {to ti : TE} {t : TSet} (ho : PE X o to) (hi : PE X i ti) (hs : PSet X t)
    (ha : ∀ v, assign (.Subscript o i pos) X.env v = (do
      let ov ← holding [v] (eval o X.env)
      let iv ← holding [v, ov] (eval i X.env)
      standAt pos
      holding [v, ov, iv] (setItem ov iv v)
      release [v, ov, iv] []) := by intro _; rfl) : PG X (.Subscript o i pos) (gSub to ti t) := by
  intro pins s σ H v u Q I r h
  rw [ha]
  refine wpAny_bind (wpAny_holding (thn (ho pins s σ H _ I h) fun ov s1 ⟨x, H1, I1, r1, q1⟩ => ?_))
  refine wpAny_bind (wpAny_holding (thn (hi pins s1 σ H1 _ I1 q1) fun iv s2 ⟨y, H2, I2, r2, q2⟩ => ?_))
  refine wpAny_bind (wpAny_standAt (wpAny_bind (wpAny_holding (thn (hs pins s2 σ H2 x y v ov iv u _ I2 r1 r2 r q2) fun _ s3 ⟨H3, I3, q3⟩ => ?_))))
  exact wpAny_release ⟨σ, H3, I3, q3⟩
/-- target = value -/
def tAsg (te : TE) (g : TG) : TS := fun D σ H => te σ H fun x H1 => g x σ H1 D.nx
theorem ps_asg {tg e : Expr} {te : TE} {g : TG} (he : PE X e te) (hg : PG X tg g) (hs : swapsWithSole [tg] e pos.line X.env = pure false := by rfl) (hw : swappedStores [tg] e X.env = pure none := by rfl)
    (h1 : (assignEach [tg] X.env).map (·.2) = [assign tg X.env] := by rfl) : PS X (.Assign [tg] e pos) (tAsg te g) := by
  intro pins s σ H D I h
  refine wpAny_Assign_stores (thn (he pins s σ H _ I h) fun v s1 ⟨x, H1, I1, r1, q1⟩ => ?_) hs hw
  rw [h1]
  exact thn (hg pins s1 σ H1 x v _ I1 r1 q1) fun _ s2 q => q
/-- name = value -/
theorem ps_set {i : Nat} {x : Str} {e : Expr} {te : TE} {pos' : Pos} (hN : X.N.Nodup) (hi : X.N[i]? = some x) (hx : Loc X.env.scope x) (he : PE X e te) (hs : swapsWith e (some (.Name x pos')) pos.line X.env = pure false := by rfl) (hf : X.fn x = true ∨ X.env.scope.names.lookup x = some .local := by first | exact .inl rfl | exact .inr rfl | assumption) :
    PS X (.Assign [.Name x pos'] e pos) (tAsg te (gName i)) := by
  intro pins s σ H D I h
  refine wpAny_Assign_Name (thn (he pins s σ H _ I h) fun v s1 ⟨y, H1, I1, r1, q1⟩ => ?_) hs
  exact store_ok I1 hN hi hx r1 (fun s2 I2 => ⟨_, H1, I2, q1⟩) hf
/-- a, b = x, y with plain local names: stored from the right; the pair itself is not tracked (the opening rows as in PyProof/Rows/TupAssign.lean:23) -/
def tPar (i j : Nat) (ta : TA) : TS := fun D σ H => ta σ H fun vs H1 => ∃ v w, vs = [v, w] ∧ D.nx ((σ.set i (some v)).set j (some w)) H1
/-- name op= e -/
def tAug (i : Nat) (te : TE) (ti : TIp) : TS := fun D σ H => ∃ x, σ[i]? = some (some x) ∧ te σ H fun y H1 => ti x y H1 fun z H2 => D.nx (σ.set i (some z)) H2
/-- o[i] op= e -/
def tAugS (to ti te : TE) (tget : V → V → Hp → VK → Prop) (tip : TIp) (tset : TSet) : TS := fun D σ H => to σ H fun o H1 => ti σ H1 fun i H2 => tget o i H2 fun x H3 => te σ H3 fun y H4 => tip x y H4 fun z H5 => tset o i z H5 fun H6 => D.nx σ H6
/-- o[i], by values -/
def PGet (X : Cx) (t : V → V → Hp → VK → Prop) : Prop :=
  ∀ (pins : List (Addr × Obj)) (s : Shared) (σ : St) (H : Hp) (o i : V) (ov iv : Value) (Q : VK), Inv X pins σ H s → RelV o ov → RelV i iv → t o i H Q →
    wpAny (model X.prog X.w) X.A (getItem ov iv) (EP X pins σ Q) X.xe s
/-- ints -/
def ipI (f : Int → Int → Int) : TIp := fun x y H Q => ∃ i j, x = .int i ∧ y = .int j ∧ Q (.int (f i j)) H
end

/-! ### while -/
section
variable {X : Cx} {pos : Pos}
/-- the invariant W with its measure -/
def tWhile (c : TT) (tb : TS) : TS := fun D σ H => ∃ W : Nat → St → Hp → Prop, (∃ m, W m σ H) ∧ ∀ m σ H, W m σ H →
  c σ H fun b H1 => if b = true then ∃ N : St → Hp → Prop, (∀ σ' H', N σ' H' → ∃ m', m' < m ∧ W m' σ' H') ∧ tb { D with nx := N, ct := N, bk := D.nx } σ H1 else D.nx σ H1
end

/-! ### what a loop or a comprehension walks -/
/-- at turn i: it yields x (the heap may grow), or it stops -/
structure It where
  go : Nat → Hp → Prop
  yld : Nat → Hp → V → Hp → Prop
  stop : Nat → Hp → Prop
/-- the iterator's own objects may turn: they are not the frame's, not pinned, younger than the entry (or a comprehension's own) -/
def FpOk (X : Cx) (pins : List (Addr × Obj)) (H : Hp) (b : Addr) : Prop :=
  H b = none ∧ b ≠ X.env.locals ∧ b ∉ X.fs ∧ (b ∈ X.ex ∨ X.s₀.heap.objs.size ≤ b) ∧ (∀ x c, X.env.cells.lookup x = some c → c ≠ b) ∧ ∀ p ∈ X.pn ++ pins, p.1 ≠ b
theorem Inv.fpOk {X : Cx} {pins : List (Addr × Obj)} {σ : St} {H H' : Hp} {s : Shared} {b : Addr} (I : Inv X pins σ H s) (hb : s.heap.objs.size ≤ b) (hn : H' b = none) : FpOk X pins H' b := by
  refine ⟨hn, Nat.ne_of_gt (Nat.lt_of_lt_of_le I.lt hb), I.nofs hb, .inr (Nat.le_trans I.sz hb), fun x c e z => ?_, fun p hp z => ?_⟩
  · obtain ⟨v, q⟩ := I.cell x c e
    exact absurd (Nat.lt_of_lt_of_le q.lt (by rw [z]; exact hb)) (Nat.lt_irrefl _)
  · exact absurd (Nat.lt_of_lt_of_le (Heap.lt_size (I.pin p hp).1) (by rw [z]; exact hb)) (Nat.lt_irrefl _)
structure Turn (P : Program) (w : World) (K : PySem.W.Frag) (tg : Expr) (J : It) (fp : List Addr) (it : Addr) (tn : Nat → Heap → Prop) : Prop where
  mem : it ∈ fp
  obj : ∀ i h, tn i h → ∀ b ∈ fp, ∃ o, h.get? b = some o ∧ ∀ v, o.data ≠ .cell v
  keep : ∀ i h h', tn i h → (∀ b ∈ fp, ∀ o, h.get? b = some o → h'.get? b = some o) → tn i h'
  item : ∀ (X : Cx), X.prog = P → X.w = w → X.K = K → X.calm = true → ∀ (i : Nat) (pins : List (Addr × Obj)) (s : Shared) (σ : St) (H : Hp) (E : Value → Shared → Prop), Inv X pins σ H s → (∀ b ∈ fp, FpOk X pins H b) → tn i s.heap → J.go i H →
    wpAny (model P w) X.A (pyNext (.ref it)) (fun r s1 => ∃ u, r = some u ∧
      wpAny (model P w) X.A (letOwnedTupleGo tg (.ref it) u) (fun _ s2 => ∃ x H', Inv X pins σ H' s2 ∧ RelV x u ∧ J.yld i H x H' ∧ tn (i + 1) s2.heap ∧ ∀ b ∈ fp, H' b = none) E s1) E s
  done : ∀ (X : Cx), X.prog = P → X.w = w → X.K = K → X.calm = true → ∀ (i : Nat) (pins : List (Addr × Obj)) (s : Shared) (σ : St) (H : Hp) (E : Value → Shared → Prop), Inv X pins σ H s → (∀ b ∈ fp, FpOk X pins H b) → tn i s.heap → J.stop i H →
    wpAny (model P w) X.A (pyNext (.ref it)) (fun r s1 => r = none ∧ Inv X pins σ H s1) E s
  self : ∀ (A : Around) (i : Nat) (s : Shared) (Q : Value → Shared → Prop) (E : Value → Shared → Prop), tn i s.heap → Q (.ref it) s → wpAny (model P w) A (pyIter (.ref it)) Q E s
abbrev TI := St → Hp → (It → Hp → Prop) → Prop
/-- an iterator has come -/
def PIE (X : Cx) (pins : List (Addr × Obj)) (σ : St) (tg : Expr) (R : It → Hp → Prop) (itv : Value) (s2 : Shared) : Prop :=
  ∃ (it : Addr) (fp : List Addr) (tn : Nat → Heap → Prop) (J : It) (H' : Hp), itv = .ref it ∧ Inv X pins σ H' s2 ∧ Turn X.prog X.w X.K tg J fp it tn ∧ tn 0 s2.heap ∧ (∀ b ∈ fp, FpOk X pins H' b) ∧ R J H'
def PI (X : Cx) (tg iter : Expr) (wi : TI) : Prop :=
  ∀ (pins : List (Addr × Obj)) (s : Shared) (σ : St) (H : Hp) (R : It → Hp → Prop), Inv X pins σ H s → wi σ H R →
    wpAny (model X.prog X.w) X.A (eval iter X.env) (fun v s1 => wpAny (model X.prog X.w) X.A (pyIter v) (PIE X pins σ tg R) X.xe s1) X.xe s

/-- the step ahead of the store is nothing for an iterator that keeps no tuple -/
theorem go_of {M : Model} {A : Around} {E : Value → Shared → Prop} {s : Shared} {tg : Expr} {it : Addr} {u : Value} {o : Obj} {n : String} {vs : Array Value} {Q : Unit → Shared → Prop} (ho : s.heap.get? it = some o) (hc : o.cls = .type n) (hd : o.data = .fields vs)
    (hn : ["enumerate", "zip", "dict_itemiterator", "dict_reverseitemiterator", "odict_iterator", "itertools.zip_longest", "itertools.pairwise"].contains n = false) (hQ : Q () s) : wpAny M A (letOwnedTupleGo tg (.ref it) u) Q E s := by
  unfold letOwnedTupleGo
  cases tg <;> first
    | exact wpAny_pure hQ
    | (cases u <;> first
        | exact wpAny_pure hQ
        | (refine wpAny_bind (wpAny_load ho ?_)
           rw [hc, hd]
           show wpAny M A (if (["enumerate", "zip", "dict_itemiterator", "dict_reverseitemiterator", "odict_iterator", "itertools.zip_longest", "itertools.pairwise"].contains n && vs[0]? == some (rawInt _)) = true then _ else _) Q E s
           rw [if_neg (by intro h; rw [hn, Bool.false_and] at h; cases h)]
           exact wpAny_pure hQ))

/-- the list at a, as it stands at each turn (a loop may append to it) -/
def Itl (K : PySem.W.Frag) (a : Addr) : It :=
  ⟨fun i H => ∃ xs x, SqL K H a xs ∧ xs[i]? = some x, fun i H x H' => H' = H ∧ ∀ xs, SqL K H a xs → xs[i]? = some x, fun i H => ∃ xs, SqL K H a xs ∧ xs.length ≤ i⟩
def Itt (K : PySem.W.Frag) (a : Addr) : It :=
  ⟨fun i H => ∃ xs x, SqT K H a xs ∧ xs[i]? = some x, fun i H x H' => H' = H ∧ ∀ xs, SqT K H a xs → xs[i]? = some x, fun i H => ∃ xs, SqT K H a xs ∧ xs.length ≤ i⟩
/-- lo, lo + 1, .. (n of them) -/
def Itr (lo : Int) (n : Nat) : It := ⟨fun i _ => i < n, fun i H x H' => H' = H ∧ x = .int (lo + i), fun i _ => n ≤ i⟩
theorem turn_list {P : Program} {w : World} {K : PySem.W.Frag} {tg : Expr} (a it : Addr) : Turn P w K tg (Itl K a) [it] it (fun i h => h.IsListIter it a i) where
  mem := by simp
  obj := fun i h st b hb => by
    have e : b = it := by simpa using hb
    subst e
    obtain ⟨o, e, c, d⟩ := st
    exact ⟨o, e, fun v z => by rw [d] at z; cases z⟩
  keep := fun i h h' st k => st.at fun o e => k it (by simp) o e
  item := by
    intro X hP hw hK hc i pins s σ H E I hf st hg
    subst hP hw hK
    obtain ⟨xs, x, hq, hx⟩ := hg
    obtain ⟨its, rv, p, hz⟩ := I.list hq
    obtain ⟨u, hu, ru⟩ := rv.get hx
    obtain ⟨f0, f1, f2, f3, f4, f5⟩ := hf it (by simp)
    refine wpAny_pyNext_list_item st p.isList (x := u) (by simpa using hu) fun h' st' sb => ?_
    have I1 : Inv X pins σ H { s with heap := h' } := I.turned (t' := s.toks) (fun b o hb e => (sb.2 b hb).trans e) f0 f1 f3 f4 f5
    obtain ⟨o, e, c, d⟩ := id st'
    exact ⟨u, rfl, go_of (s := { s with heap := h' }) e c d (by decide) ⟨x, H, I1, ru, ⟨rfl, fun ys hy => by rw [I.list_inj hy hq]; exact hx⟩, st', fun b hb => (hf b hb).1⟩⟩
  done := by
    intro X hP hw hK hc i pins s σ H E I hf st hg
    subst hP hw hK
    obtain ⟨xs, hq, hx⟩ := hg
    obtain ⟨its, rv, p, hz⟩ := I.list hq
    obtain ⟨f0, f1, f2, f3, f4, f5⟩ := hf it (by simp)
    have hl := rv.length
    exact wpAny_pyNext_list_end (I.ok.hd hc) st p.isList (by simp; omega) fun h' eb => ⟨rfl, I.turned (t' := s.toks) (fun b o hb e => eb b o hb e) f0 f1 f3 f4 f5⟩
  self := fun _ _ _ _ _ st h => wpAny_pyIter_listiter st h
theorem turn_range {P : Program} {w : World} {K : PySem.W.Frag} {tg : Expr} (it : Addr) (lo : Int) (n : Nat) : Turn P w K tg (Itr lo n) [it] it (fun i h => IsRangeIter h it (lo + (i : Nat) * 1) ((n : Int) - (i : Nat)) 1) where
  mem := by simp
  obj := fun i h st b hb => by
    have e : b = it := by simpa using hb
    subst e
    exact ⟨_, st, fun v z => by
      have z' : Data.fields _ = Data.cell v := z
      cases z'⟩
  keep := fun i h h' st k => k it (by simp) _ st
  item := by
    intro X hP hw hK hc i pins s σ H E I hf st hg
    subst hP hw hK
    obtain ⟨f0, f1, f2, f3, f4, f5⟩ := hf it (by simp)
    have W := Walks.range (prog := X.prog) (w := X.w) (I.ok.hd hc) it lo 1 n
    refine W.item i s _ _ hg st fun v h' tk hv st' kk => ?_
    obtain ⟨t, rfl⟩ := hv
    have I1 : Inv X pins σ H { s with heap := h', toks := tk } := I.turned (fun b o hb e => kk b o (by simpa using hb) e) f0 f1 f3 f4 f5
    refine ⟨_, rfl, go_of (s := { s with heap := h', toks := tk }) (n := "range_iterator") st' rfl rfl (by decide) ⟨.int (lo + i), H, I1, ⟨t, ?_⟩, ⟨rfl, rfl⟩, st', fun b hb => (hf b hb).1⟩⟩
    rw [Int.mul_one]
  done := by
    intro X hP hw hK hc i pins s σ H E I hf st hg
    subst hP hw hK
    obtain ⟨f0, f1, f2, f3, f4, f5⟩ := hf it (by simp)
    exact wpAny_pyNext_range_end (I.ok.hd hc) st (by have : n ≤ i := hg; omega) fun h' eb => ⟨rfl, I.turned (t' := s.toks) (fun b o hb e => eb b o hb e) f0 f1 f3 f4 f5⟩
  self := fun _ _ _ _ _ st h => wpAny_pyIter_rangeiter st h
end L2

namespace L2
open PySem PySem.Spec PyProof.Rows
section
variable {X : Cx} {tg : Expr}
def iList (K : PySem.W.Frag) (tl : TE) : TI := fun σ H R => tl σ H fun x H1 => ∃ a, x = .ref a ∧ (∃ xs, SqL K H1 a xs) ∧ R (Itl K a) H1
def iTup (K : PySem.W.Frag) (tl : TE) : TI := fun σ H R => tl σ H fun x H1 => ∃ a, x = .ref a ∧ (∃ xs, SqT K H1 a xs) ∧ R (Itt K a) H1
theorem pi_list {l : Expr} {tl : TE} (hl : PE X l tl) : PI X tg l (iList X.K tl) := by
  intro pins s σ H R I h
  refine thn (hl pins s σ H _ I h) fun v s1 ⟨x, H1, I1, r1, q1⟩ => ?_
  obtain ⟨a, e, ⟨xs, hq⟩, q⟩ := q1
  subst e
  cases r1
  obtain ⟨its, rv, p, hz⟩ := I1.list hq
  refine wpAny_pyIter_list p.isList ?_
  refine ⟨s1.heap.objs.size, [s1.heap.objs.size], _, _, H1, rfl, I1.kept (t' := s1.toks) fun b o e => Heap.get?_push_of_some _ e, turn_list a _, ⟨_, Heap.get?_push_size _ rfl, rfl, rfl⟩, fun b hb => ?_, q⟩
  have e : b = s1.heap.objs.size := by simpa using hb
  subst e
  exact I1.fpOk (Nat.le_refl _) (I1.hok.fresh (Nat.le_refl _))
/-- a range object just made, walked -/
theorem range_it {pins : List (Addr × Obj)} {σ : St} {H : Hp} {s : Shared} {R : It → Hp → Prop} {E : Value → Shared → Prop} {lo hi : Int} {t u v : Tok} {tk : Nat} (I : Inv X pins σ H s) (h1 : -(2 ^ 62) ≤ lo) (h2 : lo < 2 ^ 62) (h3 : -(2 ^ 62) ≤ hi) (h4 : hi < 2 ^ 62)
    (q : R (Itr lo (hi - lo).toNat) H) : wpAny (model X.prog X.w) X.A (pyIter (.ref s.heap.objs.size)) (PIE X pins σ tg R) E { s with heap := s.heap.push { cls := .type "range", data := .fields #[.int lo t, .int hi u, .int 1 v] }, toks := tk } := by
  refine wpAny_pyIter_range (IsRange.new ..) (small_one h1 h2 h3 h4) ?_
  have I1 : Inv X pins σ H { s with heap := s.heap.push { cls := .type "range", data := .fields #[.int lo t, .int hi u, .int 1 v] }, toks := tk } := I.kept fun b o e => Heap.get?_push_of_some _ e
  refine ⟨(s.heap.push { cls := .type "range", data := .fields #[.int lo t, .int hi u, .int 1 v] }).objs.size, [(s.heap.push { cls := .type "range", data := .fields #[.int lo t, .int hi u, .int 1 v] }).objs.size], _, _, H, rfl,
    I1.kept (t' := tk) fun b o e => Heap.get?_push_of_some _ e, turn_range _ lo (hi - lo).toNat, ?_, fun b hb => ?_, q⟩
  · have e1 : lo + ((0 : Nat) : Int) * 1 = lo := by simp
    have e2 : (((hi - lo).toNat : Nat) : Int) - ((0 : Nat) : Int) = Builtin.Range.rangeSize lo hi 1 := by rw [rangeSize_one]; split <;> omega
    show IsRangeIter _ _ (lo + ((0 : Nat) : Int) * 1) ((((hi - lo).toNat : Nat) : Int) - ((0 : Nat) : Int)) 1
    rw [e1, e2]
    exact Heap.get?_push_size _ rfl
  · have e : b = (s.heap.push { cls := .type "range", data := .fields #[.int lo t, .int hi u, .int 1 v] }).objs.size := by simpa using hb
    subst e
    exact I1.fpOk (Nat.le_refl _) (I1.hok.fresh (Nat.le_refl _))
def iRng1 (ta : TA) : TI := fun σ H R => ta σ H fun vs H1 => ∃ j : Int, vs = [.int j] ∧ -(2 ^ 62) ≤ j ∧ j < 2 ^ 62 ∧ R (Itr 0 j.toNat) H1
def iRng2 (ta : TA) : TI := fun σ H R => ta σ H fun vs H1 => ∃ i j : Int, vs = [.int i, .int j] ∧ (-(2 ^ 62) ≤ i ∧ i < 2 ^ 62 ∧ -(2 ^ 62) ≤ j ∧ j < 2 ^ 62) ∧ R (Itr i (j - i).toNat) H1
theorem pi_range1 {a : Expr} {ta : TA} {p pos : Pos} (hg : Gl X "range") (hm : X.mg "range" = none) (ha : PA X [a] ta) (hs : starEach [a] X.env = [(false, eval a X.env)] := by rfl) : PI X tg (.Call (.Name "range" p) [a] [] pos) (iRng1 ta) := by
  intro pins s σ H R I h
  refine Call_ (ld_blt I hg hm boot_range (PyProof.Rows.callWith_type1 (thn (ha pos pins s σ H _ I h) fun us s1 ⟨vs, H1, I1, r1, q1⟩ => ?_) hs rfl))
  obtain ⟨j, e, q1, q2, q⟩ := q1
  subst e
  cases r1 with
  | cons r rr =>
    cases rr
    obtain ⟨t, rfl⟩ := r
    exact call_range_1 (range_it I1 (by omega) (by omega) q1 q2 (by simpa using q))
theorem pi_range2 {a b : Expr} {ta : TA} {p pos : Pos} (hg : Gl X "range") (hm : X.mg "range" = none) (ha : PA X [a, b] ta) (hs : starEach [a, b] X.env = [(false, eval a X.env), (false, eval b X.env)] := by rfl) (hs2 : starEach [b] X.env = [(false, eval b X.env)] := by rfl) :
    PI X tg (.Call (.Name "range" p) [a, b] [] pos) (iRng2 ta) := by
  intro pins s σ H R I h
  refine Call_ (ld_blt I hg hm boot_range (PyProof.Rows.callWith_type1 (thn (ha pos pins s σ H _ I h) fun us s1 ⟨vs, H1, I1, r1, q1⟩ => ?_) (by rw [hs, hs2]) (by rw [hs2]; rfl)))
  obtain ⟨i, j, e, ⟨q1, q2, q3, q4⟩, q⟩ := q1
  subst e
  cases r1 with
  | cons r rr =>
    cases rr with
    | cons r' rr =>
      cases rr
      obtain ⟨t, rfl⟩ := r
      obtain ⟨t', rfl⟩ := r'
      exact call_range_2 (range_it I1 q1 q2 q3 q4 q)

/-! ### for -/
/-- W: the invariant by the turn and a measure; N: what the body is to reach -/
def tFor (wi : TI) (g : TG) (tb : TS) : TS := fun D σ H => wi σ H fun J H1 => ∃ W : Nat → Nat → St → Hp → Prop, (∃ m, W 0 m σ H1) ∧ ∀ i m σ H, W i m σ H →
  (J.stop i H ∧ D.nx σ H) ∨ (J.go i H ∧ ∃ N : St → Hp → Prop, (∀ σ' H', N σ' H' → ∃ m', m' < m ∧ W (i + 1) m' σ' H') ∧ ∀ x H', J.yld i H x H' → g x σ H' fun σ2 H2 => tb { D with nx := N, ct := N, bk := D.nx } σ2 H2)
/-- the records at fp as they stand -/
def pinsAt (fp : List Addr) (h : Heap) : List (Addr × Obj) := fp.filterMap fun b => (h.get? b).map fun o => (b, o)
theorem mem_pinsAt {fp : List Addr} {h : Heap} {b : Addr} {o : Obj} (hb : b ∈ fp) (e : h.get? b = some o) : (b, o) ∈ pinsAt fp h := List.mem_filterMap.mpr ⟨b, hb, by rw [e]; rfl⟩
theorem of_pinsAt {fp : List Addr} {h : Heap} {p : Addr × Obj} (hp : p ∈ pinsAt fp h) : p.1 ∈ fp ∧ h.get? p.1 = some p.2 := by
  obtain ⟨b, hb, e⟩ := List.mem_filterMap.mp hp
  cases q : h.get? b with
  | none => rw [q] at e; cases e
  | some o =>
    rw [q] at e
    have e' : (b, o) = p := Option.some.inj e
    subst e'
    exact ⟨hb, q⟩
theorem Inv.pinned {pins : List (Addr × Obj)} {σ : St} {H : Hp} {s : Shared} {fp : List Addr} (I : Inv X pins σ H s) (hf : ∀ b ∈ fp, FpOk X pins H b) (ho : ∀ b ∈ fp, ∃ o, s.heap.get? b = some o ∧ ∀ v, o.data ≠ .cell v) : Inv X (pins ++ pinsAt fp s.heap) σ H s :=
  I.pins_of fun p hp => (List.mem_append.mp hp).elim (fun z => I.pin p (List.mem_append_right _ z)) fun z => by
    obtain ⟨hb, e⟩ := of_pinsAt z
    obtain ⟨f0, f1, f2, _⟩ := hf p.1 hb
    obtain ⟨o, e', d⟩ := ho p.1 hb
    rw [e] at e'; cases e'
    exact ⟨e, f0, f1, f2, d⟩
theorem Inv.unpinned {pins pl : List (Addr × Obj)} {σ : St} {H : Hp} {s : Shared} (I : Inv X (pins ++ pl) σ H s) : Inv X pins σ H s := I.pins_of fun p hp => I.pin p (List.mem_append_right _ (List.mem_append_left _ hp))
theorem ps_for {iter : Expr} {body : List Stmt} {wi : TI} {g : TG} {tb : TS} {pos : Pos} (hp : PassesOwn (model X.prog X.w) X.A X.env X.xe) (hc : X.calm = true) (hi : PI X tg iter wi) (hg : PG X tg g) (hb : PSs X body tb)
    (hs : ∀ x, foldedSetIterable iter X.env x = pure x := by intro _; rfl) : PS X (.For tg iter body [] pos) (tFor wi g tb) := by
  intro pins s σ H D I h
  refine wpAny_For (thn (hi pins s σ H _ I h) fun v s1 h1 => thn h1 fun itv s2 h2 => ?_) hs
  obtain ⟨it, fp, tn, J, H2, e, I2, T, st2, f2, W, ⟨m0, w0⟩, turn⟩ := h2
  subst e
  -- what stays true of the iterator's objects through the loop
  have stat : ∀ {H' : Hp}, (∀ b ∈ fp, H' b = none) → ∀ b ∈ fp, FpOk X pins H' b := fun hn b hb => ⟨hn b hb, (f2 b hb).2⟩
  refine codeAny_forLoop_any (fun n s' => ∃ i σ' H', Inv X pins σ' H' s' ∧ tn i s'.heap ∧ (∀ b ∈ fp, H' b = none) ∧ W i n σ' H') ?_ m0 ⟨0, σ, H2, I2, st2, fun b hb => (f2 b hb).1, w0⟩
  rintro n s3 ⟨i, σ3, H3, I3, st3, fr3, w3⟩
  rcases turn i n σ3 H3 w3 with ⟨stop, qn⟩ | ⟨go, N, hN, step⟩
  · refine wpAny_passesOwn hp (thn (T.done X rfl rfl rfl hc i pins s3 σ3 H3 X.xe I3 (stat fr3) st3 stop) fun r s4 ⟨hr, I4⟩ => ?_)
    subst hr
    exact wpAny_execs_nil ⟨σ3, H3, I4, qn⟩
  · refine wpAny_passesOwn hp (thn (T.item X rfl rfl rfl hc i pins s3 σ3 H3 X.xe I3 (stat fr3) st3 go) fun r s4 ⟨u, hr, h4⟩ => ?_)
    subst hr
    refine wpAny_passesOwn hp (thn h4 fun _ s5 ⟨x, H5, I5, r5, y5, st5, fr5⟩ => ?_)
    have I5' := I5.pinned (stat fr5) (T.obj _ _ st5)
    refine wpAny_passesOwn hp (thn (hg _ s5 σ3 H5 x u _ I5' r5 (step x H5 y5)) fun _ s6 ⟨σ6, H6, I6, q6⟩ => ?_)
    refine wpAny_passesOwn hp (thn (hb _ s6 σ6 H6 _ I6 q6) fun f s7 q7 => ?_)
    have again : ∀ {σ7 : St} {H7 : Hp}, Inv X (pins ++ pinsAt fp s5.heap) σ7 H7 s7 → N σ7 H7 → ∃ m, m < n ∧ ∃ i σ' H', Inv X pins σ' H' s7 ∧ tn i s7.heap ∧ (∀ b ∈ fp, H' b = none) ∧ W i m σ' H' := fun {σ7 H7} I7 n7 => by
      obtain ⟨m', hm, w7⟩ := hN σ7 H7 n7
      refine ⟨m', hm, i + 1, σ7, H7, I7.unpinned, T.keep _ _ _ st5 fun b hb o e => (I7.pin (b, o) (List.mem_append_right _ (List.mem_append_right _ (mem_pinsAt hb e)))).1, fun b hb => ?_, w7⟩
      obtain ⟨o, e, d⟩ := T.obj _ _ st5 b hb
      exact (I7.pin (b, o) (List.mem_append_right _ (List.mem_append_right _ (mem_pinsAt hb e)))).2.1
    cases f with
    | next => obtain ⟨σ7, H7, I7, n7⟩ := q7; exact again I7 n7
    | cont => obtain ⟨σ7, H7, I7, n7⟩ := q7; exact again I7 n7
    | brk => obtain ⟨σ7, H7, I7, q7⟩ := q7; exact ⟨σ7, H7, I7.unpinned, q7⟩
    | ret v => obtain ⟨x7, σ7, H7, I7, r7, q7⟩ := q7; exact ⟨x7, σ7, H7, I7.unpinned, r7, q7⟩
end

/-! ### the forms one uses -/
/-- over a list that the body leaves as it is -/
theorem for_list {K : PySem.W.Frag} {a : Addr} {xs : List V} {g : TG} {tb : TS} {D : Ends} {σ : St} {H : Hp} (Pv : Nat → St → Hp → Prop) (h0 : Pv 0 σ H) (hl : ∀ i σ H, i ≤ xs.length → Pv i σ H → SqL K H a xs)
    (hs : ∀ i x σ H, xs[i]? = some x → Pv i σ H → g x σ H fun σ2 H2 => tb { D with nx := Pv (i + 1), ct := Pv (i + 1), bk := D.nx } σ2 H2) (hd : ∀ σ H, Pv xs.length σ H → D.nx σ H) :
    ∃ W : Nat → Nat → St → Hp → Prop, (∃ m, W 0 m σ H) ∧ ∀ i m σ H, W i m σ H →
      ((Itl K a).stop i H ∧ D.nx σ H) ∨ ((Itl K a).go i H ∧ ∃ N : St → Hp → Prop, (∀ σ' H', N σ' H' → ∃ m', m' < m ∧ W (i + 1) m' σ' H') ∧ ∀ x H', (Itl K a).yld i H x H' → g x σ H' fun σ2 H2 => tb { D with nx := N, ct := N, bk := D.nx } σ2 H2) := by
  refine ⟨fun i m σ H => m = xs.length - i ∧ i ≤ xs.length ∧ Pv i σ H, ⟨xs.length, by simp, Nat.zero_le _, h0⟩, ?_⟩
  rintro i m σ H ⟨rfl, hi, p⟩
  have q := hl i σ H hi p
  by_cases hlt : i < xs.length
  · refine .inr ⟨⟨xs, xs[i], q, by simp [hlt]⟩, Pv (i + 1), fun σ' H' p' => ⟨xs.length - (i + 1), by omega, rfl, hlt, p'⟩, fun x H' y => ?_⟩
    obtain ⟨e, y⟩ := y
    subst e
    exact hs i x σ _ (y xs q) p
  · have e : i = xs.length := by omega
    subst e
    exact .inl ⟨⟨xs, q, Nat.le_refl _⟩, hd σ H p⟩
theorem for_range {lo : Int} {n : Nat} {g : TG} {tb : TS} {D : Ends} {σ : St} {H : Hp} (Pv : Nat → St → Hp → Prop) (h0 : Pv 0 σ H)
    (hs : ∀ i σ H, i < n → Pv i σ H → g (.int (lo + i)) σ H fun σ2 H2 => tb { D with nx := Pv (i + 1), ct := Pv (i + 1), bk := D.nx } σ2 H2) (hd : ∀ σ H, Pv n σ H → D.nx σ H) :
    ∃ W : Nat → Nat → St → Hp → Prop, (∃ m, W 0 m σ H) ∧ ∀ i m σ H, W i m σ H →
      ((Itr lo n).stop i H ∧ D.nx σ H) ∨ ((Itr lo n).go i H ∧ ∃ N : St → Hp → Prop, (∀ σ' H', N σ' H' → ∃ m', m' < m ∧ W (i + 1) m' σ' H') ∧ ∀ x H', (Itr lo n).yld i H x H' → g x σ H' fun σ2 H2 => tb { D with nx := N, ct := N, bk := D.nx } σ2 H2) := by
  refine ⟨fun i m σ H => m = n - i ∧ i ≤ n ∧ Pv i σ H, ⟨n, by simp, Nat.zero_le _, h0⟩, ?_⟩
  rintro i m σ H ⟨rfl, hi, p⟩
  by_cases hlt : i < n
  · refine .inr ⟨hlt, Pv (i + 1), fun σ' H' p' => ⟨n - (i + 1), by omega, rfl, hlt, p'⟩, fun x H' y => ?_⟩
    obtain ⟨e, y⟩ := y
    subst e y
    exact hs i σ _ hlt p
  · have e : i = n := by omega
    subst e
    exact .inl ⟨Nat.le_refl _, hd σ H p⟩
end L2

namespace L2
open PySem PySem.Spec PyProof.Rows

abbrev R2 := V → V → Hp → VK → Prop
/-- a two-place operation on values: f is binaryOp op, inplaceOp op or compareOp op -/
def OpR (X : Cx) (f : Value → Value → Sem Value) (r : R2) : Prop :=
  ∀ (pins : List (Addr × Obj)) (s : Shared) (σ : St) (H : Hp) (x y : V) (v u : Value) (Q : VK), Inv X pins σ H s → RelV x v → RelV y u → r x y H Q →
    wpAny (model X.prog X.w) X.A (f v u) (EP X pins σ Q) X.xe s
/-- a one-place operation -/
def UnR (X : Cx) (f : Value → Sem Value) (r : V → Hp → VK → Prop) : Prop :=
  ∀ (pins : List (Addr × Obj)) (s : Shared) (σ : St) (H : Hp) (x : V) (v : Value) (Q : VK), Inv X pins σ H s → RelV x v → r x H Q →
    wpAny (model X.prog X.w) X.A (f v) (EP X pins σ Q) X.xe s
/-- a call of a value that is known (a builtin, a type) with values -/
def CallR (X : Cx) (f : Value) (r : List V → Hp → VK → Prop) : Prop :=
  ∀ (pins : List (Addr × Obj)) (s : Shared) (σ : St) (H : Hp) (xs : List V) (us : List Value) (Q : VK), Inv X pins σ H s → Vals xs us → r xs H Q →
    wpAny (model X.prog X.w) X.A (call f us) (EP X pins σ Q) X.xe s
/-- a value's truth -/
def TruR (X : Cx) (r : V → Hp → (Bool → Hp → Prop) → Prop) : Prop :=
  ∀ (pins : List (Addr × Obj)) (s : Shared) (σ : St) (H : Hp) (x : V) (v : Value) (Q : Bool → Hp → Prop), Inv X pins σ H s → RelV x v → r x H Q →
    wpAny (model X.prog X.w) X.A (truthy v) (TP X pins σ Q) X.xe s

def tOp (r : R2) (ta tb : TE) : TE := fun σ H Q => ta σ H fun x H1 => tb σ H1 fun y H2 => r x y H2 Q
def tUn (r : V → Hp → VK → Prop) (ta : TE) : TE := fun σ H Q => ta σ H fun x H1 => r x H1 Q
/-- ints in, under C, and a value out -/
def rI (C : Int → Int → Prop) (g : Int → Int → V) : R2 := fun x y H Q => ∃ i j, x = .int i ∧ y = .int j ∧ C i j ∧ Q (g i j) H
def rI0 (g : Int → Int → V) : R2 := fun x y H Q => ∃ i j, x = .int i ∧ y = .int j ∧ Q (g i j) H
def rU (g : Int → V) : V → Hp → VK → Prop := fun x H Q => ∃ i, x = .int i ∧ Q (g i) H

section
variable {X : Cx} {a b c : Expr} {ta tb tc : TE} {pos : Pos}

theorem binT (ha : PE X a ta) (hb : PE X b tb) {pins : List (Addr × Obj)} {s : Shared} {σ : St} {H : Hp} {R : V → V → Hp → Prop} (I : Inv X pins σ H s)
    (h : ta σ H fun x H1 => tb σ H1 fun y H2 => R x y H2) {Q : Value → Shared → Prop} {f : Value → Value → Sem Value}
    (hf : ∀ v u s2 x y H2, Inv X pins σ H2 s2 → RelV x v → RelV y u → R x y H2 → wpAny (model X.prog X.w) X.A (f v u) Q X.xe s2) :
    wpAny (model X.prog X.w) X.A (eval a X.env) (fun v s₁ => wpAny (model X.prog X.w) X.A (eval b X.env) (fun u s₂ => wpAny (model X.prog X.w) X.A (f v u) Q X.xe s₂) X.xe s₁) X.xe s := by
  refine thn (ha pins s σ H _ I h) fun v s1 ⟨x, H1, I1, r1, q1⟩ => ?_
  refine thn (hb pins s1 σ H1 _ I1 q1) fun u s2 ⟨y, H2, I2, r2, q2⟩ => ?_
  exact hf v u s2 x y H2 I2 r1 r2 q2

theorem pe_op {op : Operator} {r : R2} (ho : OpR X (binaryOp op) r) (ha : PE X a ta) (hb : PE X b tb) : PE X (.BinOp a op b pos) (tOp r ta tb) := by
  intro pins s σ H Q I h
  exact wpAny_BinOp (binT ha hb I h fun v u s2 x y H2 I2 rx ry q => ho pins s2 σ H2 x y v u Q I2 rx ry q)
theorem pe_un {op : UnaryOp} {r : V → Hp → VK → Prop} (ho : UnR X (unaryOp op) r) (ha : PE X a ta) : PE X (.UnaryOp op a pos) (tUn r ta) := by
  intro pins s σ H Q I h
  exact UnaryOp_ (thn (ha pins s σ H _ I h) fun v s1 ⟨x, H1, I1, r1, q1⟩ => ho pins s1 σ H1 x v Q I1 r1 q1)
/-! ### ints -/
theorem opI {f : Value → Value → Sem Value} {C : Int → Int → Prop} {g : Int → Int → Int}
    (rule : ∀ (i j : Int) (t u : Tok) (s : Shared) (Q : Value → Shared → Prop) (E : Value → Shared → Prop), C i j → Q (.int (g i j) s.toks) { s with toks := s.toks + 1 } → wpAny (model X.prog X.w) X.A (f (.int i t) (.int j u)) Q E s) :
    OpR X f (rI C fun i j => .int (g i j)) := by
  intro pins s σ H x y v u Q I rx ry h
  obtain ⟨i, j, rfl, rfl, hc, q⟩ := h
  obtain ⟨t, rfl⟩ := rx
  obtain ⟨t', rfl⟩ := ry
  exact rule i j t t' s _ _ hc ⟨.int (g i j), H, I.tok _, ⟨_, rfl⟩, q⟩
theorem opI0 {f : Value → Value → Sem Value} {g : Int → Int → Int}
    (rule : ∀ (i j : Int) (t u : Tok) (s : Shared) (Q : Value → Shared → Prop) (E : Value → Shared → Prop), Q (.int (g i j) s.toks) { s with toks := s.toks + 1 } → wpAny (model X.prog X.w) X.A (f (.int i t) (.int j u)) Q E s) :
    OpR X f (rI0 fun i j => .int (g i j)) := by
  intro pins s σ H x y v u Q I rx ry h
  obtain ⟨i, j, rfl, rfl, q⟩ := h
  obtain ⟨t, rfl⟩ := rx
  obtain ⟨t', rfl⟩ := ry
  exact rule i j t t' s _ _ ⟨.int (g i j), H, I.tok _, ⟨_, rfl⟩, q⟩
theorem opB0 {f : Value → Value → Sem Value} {g : Int → Int → Bool}
    (rule : ∀ (i j : Int) (t u : Tok) (s : Shared) (Q : Value → Shared → Prop) (E : Value → Shared → Prop), Q (.bool (g i j)) s → wpAny (model X.prog X.w) X.A (f (.int i t) (.int j u)) Q E s) :
    OpR X f (rI0 fun i j => .bl (g i j)) := by
  intro pins s σ H x y v u Q I rx ry h
  obtain ⟨i, j, rfl, rfl, q⟩ := h
  obtain ⟨t, rfl⟩ := rx
  obtain ⟨t', rfl⟩ := ry
  exact rule i j t t' s _ _ ⟨.bl (g i j), H, I, rfl, q⟩

def CDiv (i j : Int) : Prop := 0 < j ∧ j < 1073741824
def CDivN (i j : Int) : Prop := j ≠ 0 ∧ j.natAbs < 1073741824
def CPow (i j : Int) : Prop := 0 ≤ j ∧ j ≤ 1000000 ∧ i.natAbs < 2 ^ 64
def CMul (i j : Int) : Prop := (-(2 ^ 64) < i ∧ i < 2 ^ 64) ∨ (-(2 ^ 64) < j ∧ j < 2 ^ 64)
theorem CMul.ok {i j : Int} (h : CMul i j) : IntMulOk i j := by
  rcases h with ⟨h1, h2⟩ | ⟨h1, h2⟩
  · exact .of_left (intBits_le_64 h1 h2)
  · exact .of_right (intBits_le_64 h1 h2)
theorem op_add : OpR X (binaryOp .Add) (rI0 fun i j => .int (i + j)) := opI0 fun _ _ _ _ _ _ _ q => add_int q
theorem op_sub : OpR X (binaryOp .Sub) (rI0 fun i j => .int (i - j)) := opI0 fun _ _ _ _ _ _ _ q => sub_int q
theorem op_mul : OpR X (binaryOp .Mult) (rI CMul fun i j => .int (i * j)) := opI fun _ _ _ _ _ _ _ hc q => mul_int q hc.ok
/-- // by a positive divisor -/
theorem op_fdiv : OpR X (binaryOp .FloorDiv) (rI CDiv fun i j => .int (i / j)) := opI fun i j _ _ _ _ _ hc q => by
  have h1 : (0 : Int) < j := hc.1
  have h2 : j < 1073741824 := hc.2
  exact floordiv_int (by omega) (by rw [Int.fdiv_eq_ediv_of_nonneg i (by omega)]; exact q) (.inl (PyProof.noPylong_small (by omega)))
/-- % by a positive divisor of any size -/
theorem op_mod : OpR X (binaryOp .Mod) (rI (fun _ j => 0 < j) fun i j => .int (i % j)) := opI fun i j _ _ _ _ _ hc q => by
  have h1 : (0 : Int) < j := hc
  exact mod_int' (by omega) (by rw [Int.fmod_eq_emod_of_nonneg i (by omega)]; exact q)
theorem op_pow : OpR X (binaryOp .Pow) (rI CPow fun i j => .int (i ^ j.toNat)) := opI fun _ _ _ _ _ _ _ hc q => pow_int_small hc.1 hc.2.1 hc.2.2 q
theorem unI {f : Value → Sem Value} {g : Int → Int}
    (rule : ∀ (i : Int) (t : Tok) (s : Shared) (Q : Value → Shared → Prop) (E : Value → Shared → Prop), Q (.int (g i) s.toks) { s with toks := s.toks + 1 } → wpAny (model X.prog X.w) X.A (f (.int i t)) Q E s) :
    UnR X f (rU fun i => .int (g i)) := by
  intro pins s σ H x v Q I rx h
  obtain ⟨i, rfl, q⟩ := h
  obtain ⟨t, rfl⟩ := rx
  exact rule i t s _ _ ⟨.int (g i), H, I.tok _, ⟨_, rfl⟩, q⟩
theorem un_neg : UnR X (unaryOp .USub) (rU fun i => .int (-i)) := unI fun _ _ _ _ _ q => neg_int q
/-! ### bools among ints: n += (a < b) -/
end

/-! ### comparisons -/
/-- the scalars that == tells apart as data does -/
def scal : V → V → Bool
  | .non, .non => true | .non, .int _ => true | .int _, .non => true | .non, .bl _ => true | .bl _, .non => true | .non, .str _ => true | .str _, .non => true
  | .int _, .int _ => true | .bl _, .bl _ => true | .str _, .str _ => true | .byt _, .byt _ => true
  | .int _, .str _ => true | .str _, .int _ => true | .bl _, .str _ => true | .str _, .bl _ => true
  | _, _ => false
def rEq : R2 := fun x y H Q => scal x y = true ∧ Q (.bl (decide (x = y))) H
def rNe : R2 := fun x y H Q => scal x y = true ∧ Q (.bl (!decide (x = y))) H

theorem dec_int {i j : Int} : decide (V.int i = V.int j) = (i == j) := by
  rw [Bool.eq_iff_iff]
  simp
theorem dec_bl {i j : Bool} : decide (V.bl i = V.bl j) = (i == j) := by
  rw [Bool.eq_iff_iff]
  simp
theorem dec_str {i j : Str} : decide (V.str i = V.str j) = (i == j) := by
  rw [Bool.eq_iff_iff]
  simp
theorem dec_byt {i j : Array UInt8} : decide (V.byt i = V.byt j) = (i.toList == j.toList) := by
  rw [Bool.eq_iff_iff]
  cases i
  cases j
  simp

section
variable {X : Cx} {a b c : Expr} {ta tb tc : TE} {pos : Pos}
theorem fin_bl {pins : List (Addr × Obj)} {σ : St} {H : Hp} {s : Shared} {Q : VK} {k k' : Bool} (I : Inv X pins σ H s) (q : Q (.bl k) H) (e : k = k') : EP X pins σ Q (.bool k') s := by
  subst e
  exact ⟨.bl k, H, I, rfl, q⟩
theorem op_eq : OpR X (compareOp .Eq) rEq := by
  intro pins s σ H x y v u Q I rx ry h
  obtain ⟨hs, q⟩ := h
  cases x with
  | non =>
    cases rx
    cases y with
    | non => cases ry; exact PySem.EqNone.eq_none_none (fin_bl I q (by simp))
    | bl j => cases ry; exact PySem.EqNone.eq_none_bool (fin_bl I q (by simp))
    | int j => obtain ⟨t', rfl⟩ := ry; exact PySem.EqNone.eq_none_int (fin_bl I q (by simp))
    | str j => obtain ⟨t', rfl⟩ := ry; exact PySem.EqNone.eq_none_str (fin_bl I q (by simp))
    | _ => exact absurd (show false = true from hs) Bool.false_ne_true
  | bl i =>
    cases rx
    cases y with
    | non => cases ry; exact PySem.EqNone.eq_bool_none (fin_bl I q (by simp))
    | bl j => cases ry; exact eq_bool (fin_bl I q dec_bl)
    | str j => obtain ⟨t', rfl⟩ := ry; exact PySem.EqMixed.eq_bool_str (fin_bl I q (by simp))
    | _ => exact absurd (show false = true from hs) Bool.false_ne_true
  | int i =>
    obtain ⟨t, rfl⟩ := rx
    cases y with
    | non => cases ry; exact PySem.EqNone.eq_int_none (fin_bl I q (by simp))
    | int j => obtain ⟨t', rfl⟩ := ry; exact eq_int (fin_bl I q dec_int)
    | str j => obtain ⟨t', rfl⟩ := ry; exact PySem.EqMixed.eq_int_str (fin_bl I q (by simp))
    | _ => exact absurd (show false = true from hs) Bool.false_ne_true
  | str i =>
    obtain ⟨t, rfl⟩ := rx
    cases y with
    | non => cases ry; exact PySem.EqNone.eq_str_none (fin_bl I q (by simp))
    | bl j => cases ry; exact PySem.EqMixed.eq_str_bool (fin_bl I q (by simp))
    | int j => obtain ⟨t', rfl⟩ := ry; exact PySem.EqMixed.eq_str_int (fin_bl I q (by simp))
    | str j => obtain ⟨t', rfl⟩ := ry; exact eq_str (fin_bl I q dec_str)
    | _ => exact absurd (show false = true from hs) Bool.false_ne_true
  | byt i =>
    obtain ⟨t, rfl⟩ := rx
    cases y with
    | byt j => obtain ⟨t', rfl⟩ := ry; exact PySem.W.eq_bytes (fin_bl I q dec_byt)
    | _ => exact absurd (show false = true from hs) Bool.false_ne_true
  | _ => cases y <;> exact absurd (show false = true from hs) Bool.false_ne_true
theorem op_ne : OpR X (compareOp .NotEq) rNe := by
  intro pins s σ H x y v u Q I rx ry h
  obtain ⟨hs, q⟩ := h
  cases x with
  | non =>
    cases rx
    cases y with
    | non => cases ry; exact PySem.EqNone.ne_none_none (fin_bl I q (by simp))
    | bl j => cases ry; exact PySem.EqNone.ne_none_bool (fin_bl I q (by simp))
    | int j => obtain ⟨t', rfl⟩ := ry; exact PySem.EqNone.ne_none_int (fin_bl I q (by simp))
    | str j => obtain ⟨t', rfl⟩ := ry; exact PySem.EqNone.ne_none_str (fin_bl I q (by simp))
    | _ => exact absurd (show false = true from hs) Bool.false_ne_true
  | bl i =>
    cases rx
    cases y with
    | non => cases ry; exact PySem.EqNone.ne_bool_none (fin_bl I q (by simp))
    | bl j => cases ry; exact ne_bool (fin_bl I q (congrArg not dec_bl))
    | str j => obtain ⟨t', rfl⟩ := ry; exact PySem.EqMixed.ne_bool_str (fin_bl I q (by simp))
    | _ => exact absurd (show false = true from hs) Bool.false_ne_true
  | int i =>
    obtain ⟨t, rfl⟩ := rx
    cases y with
    | non => cases ry; exact PySem.EqNone.ne_int_none (fin_bl I q (by simp))
    | int j => obtain ⟨t', rfl⟩ := ry; exact ne_int (fin_bl I q (congrArg not dec_int))
    | str j => obtain ⟨t', rfl⟩ := ry; exact PySem.EqMixed.ne_int_str (fin_bl I q (by simp))
    | _ => exact absurd (show false = true from hs) Bool.false_ne_true
  | str i =>
    obtain ⟨t, rfl⟩ := rx
    cases y with
    | non => cases ry; exact PySem.EqNone.ne_str_none (fin_bl I q (by simp))
    | bl j => cases ry; exact PySem.EqMixed.ne_str_bool (fin_bl I q (by simp))
    | int j => obtain ⟨t', rfl⟩ := ry; exact PySem.EqMixed.ne_str_int (fin_bl I q (by simp))
    | str j => obtain ⟨t', rfl⟩ := ry; exact ne_str (fin_bl I q (congrArg not dec_str))
    | _ => exact absurd (show false = true from hs) Bool.false_ne_true
  | byt i =>
    obtain ⟨t, rfl⟩ := rx
    cases y with
    | byt j => obtain ⟨t', rfl⟩ := ry; exact PySem.W.ne_bytes (fin_bl I q (congrArg not dec_byt))
    | _ => exact absurd (show false = true from hs) Bool.false_ne_true
  | _ => cases y <;> exact absurd (show false = true from hs) Bool.false_ne_true

theorem op_lt : OpR X (compareOp .Lt) (rI0 fun i j => .bl (decide (i < j))) := opB0 fun _ _ _ _ _ _ _ q => lt_int q
theorem op_le : OpR X (compareOp .LtE) (rI0 fun i j => .bl (decide (i ≤ j))) := opB0 fun _ _ _ _ _ _ _ q => le_int q
theorem op_gt : OpR X (compareOp .Gt) (rI0 fun i j => .bl (decide (j < i))) := opB0 fun _ _ _ _ _ _ _ q => gt_int q
theorem op_ge : OpR X (compareOp .GtE) (rI0 fun i j => .bl (decide (j ≤ i))) := opB0 fun _ _ _ _ _ _ _ q => ge_int q
/-- is, is not of two objects that are tracked lists or instances -/
def isObj : HO → Bool
  | .lst _ => true
  | .ins _ _ _ => true
  | _ => false
theorem nomark (b : Expr) {op : CmpOp} (h : op ≠ .In := by decide) (h2 : op ≠ .NotIn := by decide) : behindInMarks op b = false := by
  have e1 : (op == CmpOp.In) = false := by cases op <;> first | rfl | exact absurd rfl h
  have e2 : (op == CmpOp.NotIn) = false := by cases op <;> first | rfl | exact absurd rfl h2
  cases b <;> simp [behindInMarks, e1, e2]
/-- a comparison as a value; hm: nomark b, or (for in, not in) by with_unfolding_all rfl -/
theorem pe_cmpR {op : CmpOp} {r : R2} (ho : OpR X (compareOp op) r) (ha : PE X a ta) (hb : PE X b tb) (hm : behindInMarks op b = false) : PE X (.Compare a [op] [b] pos) (tOp r ta tb) := by
  intro pins s σ H Q I h
  exact wpAny_Compare1 (binT ha hb I h fun v u s2 x y H2 I2 rx ry q => ho pins s2 σ H2 x y v u Q I2 rx ry q) hm
/-- a reading of a value as a test -/
def tTest (t : TE) : TT := fun σ H Q => t σ H fun x H' => ∃ k, x = .bl k ∧ Q k H'
theorem pt_cmpR {op : CmpOp} {r : R2} (ho : OpR X (compareOp op) r) (ha : PE X a ta) (hb : PE X b tb) (hm : behindInMarks op b = false) : PT X (.Compare a [op] [b] pos) (tTest (tOp r ta tb)) := by
  intro pins s σ H Q I h
  refine wpAny_isTrue_Compare1 (thn (ha pins s σ H _ I h) fun v s1 ⟨x, H1, I1, r1, q1⟩ => thn (hb pins s1 σ H1 _ I1 q1) fun u s2 ⟨y, H2, I2, r2, q2⟩ =>
    thn (ho pins s2 σ H2 x y v u _ I2 r1 r2 q2) fun c s3 ⟨z, H3, I3, r3, k, e, q3⟩ => ?_) hm
  subst e
  cases r3
  exact wpAny_truthy_bool ⟨H3, I3, q3⟩
/-- a op1 b op2 c -/
def tChain (r r' : R2) (ta tb tc : TE) : TE := fun σ H Q => ta σ H fun x H1 => tb σ H1 fun y H2 => r x y H2 fun z H3 => ∃ k, z = .bl k ∧
  (if k = true then tc σ H3 fun w' H4 => r' y w' H4 Q else Q (.bl false) H3)
/-! ### truth -/
/-- a value's truth by the abstract heap -/
def TruV (K : PySem.W.Frag) (x : V) (H : Hp) (k : Bool) : Prop :=
  match x with
  | .non => k = false
  | .bl b => k = b
  | .int i => k = (i != 0)
  | .str y => y.length ≤ sizeLine ∧ k = ((y.length : Int) != 0)
  | .byt y => y.size ≤ sizeLine ∧ k = ((y.size : Int) != 0)
  | .ref p => (∃ xs, SqL K H p xs ∧ k = !xs.isEmpty) ∨ (∃ xs, SqT K H p xs ∧ k = !xs.isEmpty) ∨ ∃ kvs, H p = some (.dK kvs) ∧ k = !kvs.isEmpty
  | _ => False
theorem line63 : (sizeLine : Nat) < 2 ^ 63 := by rw [sizeLine_eq]; decide
/-! ### strs and bytes -/
def PlainIxT (b : Expr) : Prop := ∀ o i, subscripted b false o i = operate [o, i] (getItem o i)
/-! ### scalar builtins, by CallR -/
theorem vals1 {x : V} {us : List Value} (r : Vals [x] us) : ∃ u, us = [u] ∧ RelV x u := by
  cases r with
  | cons r1 r2 => cases r2; exact ⟨_, rfl, r1⟩
theorem call_int1 : CallR X (.type "int") (fun xs H Q => (∃ i, xs = [.int i] ∧ Q (.int i) H) ∨ ∃ k, xs = [.bl k] ∧ Q (.int (if k then 1 else 0)) H) := by
  intro pins s σ H xs us Q I r h
  rcases h with ⟨i, rfl, q⟩ | ⟨k, rfl, q⟩
  · obtain ⟨u, rfl, t, rfl⟩ := vals1 r
    exact call_int_int ⟨.int i, H, I, ⟨_, rfl⟩, q⟩
  · obtain ⟨u, rfl, r1⟩ := vals1 r
    cases r1
    exact call_int_bool ⟨.int (if k then 1 else 0), H, I.tok _, ⟨_, rfl⟩, q⟩
/-- len of a str, a bytes, a list, a tuple -/
def LenV (K : PySem.W.Frag) (x : V) (H : Hp) (n : Nat) : Prop :=
  match x with
  | .str y => y.length ≤ sizeLine ∧ n = y.length
  | .byt y => y.size ≤ sizeLine ∧ n = y.size
  | .ref p => (∃ xs, SqL K H p xs ∧ n = xs.length) ∨ ∃ xs, SqT K H p xs ∧ n = xs.length
  | _ => False
end
end L2

namespace L2
open PySem PySem.Spec PyProof.Rows

/-! ### an instance, its attributes a map -/
structure ObjM (h : Heap) (x dx C : Addr) (mA : Str → Option Value) : Prop where
  obj : h.get? x = some (PySem.W.instObj C dx)
  ns : h.Ns1 dx mA
  ne : dx ≠ x

theorem lookIn_ns {h : Heap} {dx : Addr} {mA : Str → Option Value} (n : h.Ns1 dx mA) : ∃ od, h.get? dx = some od ∧ ∀ name, PySem.W.lookIn name od = some (mA name) := by
  obtain ⟨o, es, ep, ho, hd, hk, _, hm⟩ := n
  refine ⟨o, ho, fun name => ?_⟩
  have e := hm name
  unfold nsFind findBy at e
  rw [← Array.find?_toList] at e
  unfold PySem.W.lookIn
  rw [hd]
  dsimp only
  split
  · rename_i y q
    rw [q] at e
    exact congrArg some e
  · rename_i q
    rw [q] at e
    have a : es.toList.any (·.refKey) = false := by
      rw [List.any_eq_false]
      intro y hy
      obtain ⟨z, t, hkey⟩ := hk y (Array.mem_toList_iff.mp hy)
      simp [DictEntry.refKey, hkey]
    have a' : ¬ es.toList.any (·.refKey) = true := by rw [a]; exact Bool.false_ne_true
    rw [if_neg a']
    exact congrArg some e

theorem ObjM.look {h : Heap} {x dx C : Addr} {mA : Str → Option Value} (I : ObjM h x dx C mA) : ∃ od, PySem.W.InstAt h x (PySem.W.instObj C dx) C (some od) ∧ ∀ name, PySem.W.lookIn name od = some (mA name) :=
  let ⟨od, ho, hl⟩ := lookIn_ns I.ns
  ⟨od, ⟨I.obj, rfl, rfl, ho⟩, hl⟩

section
variable {prog : Program} {w : World} {A : Around} {E : Value → Shared → Prop} {s : Shared} {K : PySem.W.Frag} {x dx C f : Addr} {mA : Str → Option Value} {name : Str} {v : Value}

theorem get_map {expr : Bool} {Q : Value → Shared → Prop} (X : K.In s.heap) (I : ObjM s.heap x dx C mA) (hg : PySem.W.plainGet K C name = true) (hh : PySem.W.hasDictIn K C = true)
    (ha : PySem.W.findIn K (.ref C) name = some none) (hv : mA name = some v) (hv' : PySem.W.handedIn v = true) (h : Q v { s with toks := s.toks + 1 }) :
    wpAny (model prog w) A (getAttr (.ref x) name expr) Q E s := by
  obtain ⟨od, J, hl⟩ := I.look
  exact PySem.W.get_value X J (PySem.W.plainGet_of hg).1 (PySem.W.findObj_own hh ha rfl (by rw [hl, hv])) hv' h

theorem get_meth {pl : Sem Bool} {Q : Value × List Value → Shared → Prop} (X : K.In s.heap) (I : ObjM s.heap x dx C mA) (hg : PySem.W.plainGet K C name = true)
    (hf : PySem.W.findIn K (.ref C) name = some (some (.ref f))) (ht : PySem.W.isFn K (.ref f) = true) (hv : mA name = none) (h : Q (.ref f, [.ref x]) s) :
    wpAny (model prog w) A (getMethod (.ref x) name pl) Q E s := by
  obtain ⟨od, J, hl⟩ := I.look
  exact PySem.W.method_fn X J (PySem.W.plainGet_of hg).1 (PySem.W.plainGet_of hg).2 hf (beq_iff_eq.mp ht) (by show (PySem.W.lookIn name od).map (·.isSome) = some false; rw [hl, hv]; rfl) h

theorem set_map {ns : List Str} {Q : Unit → Shared → Prop} (X : K.In s.heap) (I : ObjM s.heap x dx C mA)
    (hs : PySem.W.findIn K (.ref C) "__setattr__" = some (some (.builtin "object.__setattr__"))) (hp : PySem.W.plainOver K C = true) (ht : PySem.W.takerIn K C name = some none) (hh : PySem.W.hasDictIn K C = true)
    (hw : PySem.Within mA ns) (hsz : ns.length ≤ sizeLine)
    (h : ∀ h', ObjM h' x dx C (fun y => if y = name then some v else mA y) → Heap.SameBut dx s.heap h' → Q () { s with heap := h', toks := s.toks + 2 }) :
    wpAny (model prog w) A (setAttr (.ref x) name v) Q E s := by
  obtain ⟨od, J, hl⟩ := I.look
  refine PySem.W.set_plain X J hs (PySem.W.osa_open (s := { s with toks := s.toks + 1 }) (r := none) X J hp ht fun b => ?_)
  obtain ⟨cd, hc, hd'⟩ := PySem.W.any_some hh
  have hx : s.heap.get? x = some ⟨.ref C, some dx, .plain, #[]⟩ := I.obj
  refine wpAny_bind (wpAny_pure (wpAny_bind (wpAny_bind (wpAny_loadPart hx (wpAny_bind (PySem.W.Looks.here (s := { s with toks := s.toks + 1 }) (PySem.W.looks_clsIn X hc) ?_))))))
  rw [hd']
  refine wpAny_pure (a := some dx) (wpAny_bind (wpAny_pure (wpAny_bind ?_)))
  refine wpAny_nsSet1 (s := { s with toks := s.toks + 1 }) I.ns fun h' hn2 hs2 => ?_
  obtain ⟨oD, esD, epD, hoD, hdD, hcD⟩ := hn2.count (PySem.Within.cons name v hw)
  refine wpAny_bind (wpAny_lookBehind hoD (by rw [hdD]; exact pastItsLine_dict (Nat.le_trans hcD (by rw [List.length_cons]; omega))) ?_)
  exact wpAny_pure (h _ ⟨(hs2.2 _ (Ne.symm I.ne)).trans I.obj, hn2, I.ne⟩ hs2)

/-- C(..): the dict at the heap's end, the instance behind it; then its __init__ -/
theorem make_map {R : Result → Shared → Prop} {vs : List Value} {kw : List (Str × Value)} (X : K.In s.heap) (hm : PySem.W.makesIn K C = true)
    (hi : PySem.W.findIn K (.ref C) "__init__" = some (some (.ref f))) (hf : PySem.W.typeIn K (.ref f) = some (.type "function"))
    (h : codeAny (model prog w) (A.under (.builtin "type.__call__" ⟨.ref C :: vs, kw⟩)) (.call (.ref f) ⟨.ref (s.heap.objs.size + 1) :: vs, kw⟩) (PySem.W.InitBack (s.heap.objs.size + 1) R)
      { s with heap := (s.heap.push PySem.W.emptyDict).push (PySem.W.instObj C s.heap.objs.size) }) :
    codeAny (model prog w) A (.call (.ref C) ⟨vs, kw⟩) R s := by
  obtain ⟨hh, g, d, t, os⟩ := s
  exact PySem.W.make_core (PySem.W.makes_of X hm) (PySem.W.looks_findIn X hi) (fun self => PySem.W.bind_fn X self hf) (.inl rfl) h
end

/-! ### the attributes as a list of pairs -/
def putF (f : Str) (v : V) : List (Str × V) → List (Str × V)
  | [] => [(f, v)]
  | (g, x) :: r => if g = f then (g, v) :: r else (g, x) :: putF f v r
theorem lookup_putF (f g : Str) (v : V) : ∀ fs : List (Str × V), (putF f v fs).lookup g = if g = f then some v else fs.lookup g
  | [] => by
    show List.lookup g [(f, v)] = _
    by_cases h : g = f
    · have hb : (g == f) = true := beq_iff_eq.mpr h
      simp only [List.lookup, hb, if_pos h]
    · have hb : (g == f) = false := beq_eq_false_iff_ne.mpr h
      simp only [List.lookup, hb, if_neg h]
  | (k, x) :: r => by
    have ih := lookup_putF f g v r
    rw [show putF f v ((k, x) :: r) = (if k = f then (k, v) :: r else (k, x) :: putF f v r) from rfl]
    by_cases hk : k = f
    · rw [if_pos hk]
      by_cases h : g = k
      · have hb : (g == k) = true := beq_iff_eq.mpr h
        simp only [List.lookup, hb, if_pos (h.trans hk)]
      · have hb : (g == k) = false := beq_eq_false_iff_ne.mpr h
        simp only [List.lookup, hb, if_neg (fun e : g = f => h (e.trans hk.symm))]
    · rw [if_neg hk]
      by_cases h : g = k
      · have hb : (g == k) = true := beq_iff_eq.mpr h
        simp only [List.lookup, hb, if_neg (fun e : g = f => hk (h.symm.trans e))]
      · have hb : (g == k) = false := beq_eq_false_iff_ne.mpr h
        simp only [List.lookup, hb]
        exact ih
theorem keys_putF (f : Str) (v : V) : ∀ fs : List (Str × V), f ∈ (putF f v fs).map (·.1) ∧ ∀ g, g ∈ fs.map (·.1) → g ∈ (putF f v fs).map (·.1)
  | [] => ⟨by simp [putF], fun g h => by simp at h⟩
  | (k, x) :: r => by
    obtain ⟨i1, i2⟩ := keys_putF f v r
    rw [show putF f v ((k, x) :: r) = (if k = f then (k, v) :: r else (k, x) :: putF f v r) from rfl]
    by_cases hk : k = f
    · rw [if_pos hk]
      subst hk
      exact ⟨by simp, fun g h => by simpa using h⟩
    · rw [if_neg hk]
      refine ⟨?_, fun g h => ?_⟩
      · rw [List.map_cons]
        exact List.mem_cons_of_mem _ i1
      · rw [List.map_cons] at h ⊢
        rcases List.mem_cons.mp h with e | e
        · exact List.mem_cons.mpr (.inl e)
        · exact List.mem_cons_of_mem _ (i2 g e)
theorem length_putF (f : Str) (v : V) : ∀ fs : List (Str × V), (putF f v fs).length ≤ fs.length + 1
  | [] => by simp [putF]
  | (k, x) :: r => by
    have ih := length_putF f v r
    rw [show putF f v ((k, x) :: r) = (if k = f then (k, v) :: r else (k, x) :: putF f v r) from rfl]
    by_cases hk : k = f
    · rw [if_pos hk, List.length_cons, List.length_cons]; omega
    · rw [if_neg hk, List.length_cons, List.length_cons]; omega

theorem RelO.some_of {v : V} {o : Option Value} (r : RelO (some v) o) : ∃ u, o = some u ∧ RelV v u := by
  cases o with
  | none => exact (show False from r).elim
  | some u => exact ⟨u, rfl, r⟩
theorem RelO.none_of {o : Option Value} (r : RelO none o) : o = none := by
  cases o with
  | none => rfl
  | some u => exact (show False from r).elim
theorem handed_of {v : V} {u : Value} (r : RelV v u) : PySem.W.handedIn u = true := by
  cases v with
  | non => cases (show u = Value.none from r); rfl
  | bl b => cases (show u = Value.bool b from r); rfl
  | int i => obtain ⟨t, e⟩ := (show ∃ t, u = Value.int i t from r); cases e; rfl
  | str x => obtain ⟨t, e⟩ := (show ∃ t, u = Value.str x t from r); cases e; rfl
  | byt b => obtain ⟨t, e⟩ := (show ∃ t, u = Value.bytes b t from r); cases e; rfl
  | flt b => obtain ⟨t, e⟩ := (show ∃ t, u = Value.float b t from r); cases e; rfl
  | ref a => cases (show u = Value.ref a from r); rfl
  | ty n => cases (show u = Value.type n from r); rfl

section
variable {P : Program} {w : World} {H H' : Hp} {h h' : Heap} {a C dx : Addr} {fs fs' : List (Str × V)}
theorem ins_get (hok : HOk P w H h) (e : H a = some (.ins C dx fs)) : ∃ mA, ObjM h a dx C mA ∧ (∀ f, RelO (fs.lookup f) (mA f)) ∧ PySem.Within mA (fs.map (·.1)) ∧ fs.length ≤ 1000 ∧ H dx = some (.own a) := by
  obtain ⟨d, z, ne, ob, mA, n, r, q⟩ := (show ObjOk P w H h a (.ins C dx fs) from hok a _ e)
  exact ⟨mA, ⟨ob, n, ne⟩, r, q, z, d⟩
end

/-! ### what of the text a class must have -/
structure Cls (K : PySem.W.Frag) (C : Addr) : Prop where
  pg : PySem.W.plainGet K C Str.empty = true
  hd : PySem.W.hasDictIn K C = true
  po : PySem.W.plainOver K C = true
  sa : PySem.W.findIn K (.ref C) "__setattr__" = some (some (.builtin "object.__setattr__"))
theorem Cls.get {K : PySem.W.Frag} {C : Addr} (c : Cls K C) (f : Str) : PySem.W.plainGet K C f = true := c.pg
/-- no class of it has the name -/
def NoAttr (K : PySem.W.Frag) (C : Addr) (f : Str) : Prop := PySem.W.findIn K (.ref C) f = some none
theorem NoAttr.taker {K : PySem.W.Frag} {C : Addr} {f : Str} (n : NoAttr K C f) : PySem.W.takerIn K C f = some none := by
  unfold PySem.W.takerIn
  rw [show PySem.W.findIn K (.ref C) f = some none from n]
  rfl
/-- a constant of the class -/
structure Con (K : PySem.W.Frag) (C : Addr) (f : Str) (v : V) (u : Value) : Prop where
  at_ : PySem.W.findIn K (.ref C) f = some (some u)
  rel : RelV v u
  get : PySem.W.specialIn K u "__get__" = some none
  cp : PySem.W.copiedNames.contains f = false
/-- a method: a plain def of the class or of one above it -/
structure Meth (K : PySem.W.Frag) (C : Addr) (m : Str) (f : Addr) : Prop where
  at_ : PySem.W.findIn K (.ref C) m = some (some (.ref f))
  fn : PySem.W.isFn K (.ref f) = true
  kp : PySem.W.keepIn K (.ref f) = true

section
variable {X : Cx} {pins : List (Addr × Obj)} {σ : St} {H : Hp} {s : Shared} {a C dx : Addr} {fs : List (Str × V)} {f : Str} {v : V} {A : Around} {E : Value → Shared → Prop}

theorem getattr_ok {b : Bool} {Q : Value → Shared → Prop} (I : Inv X pins σ H s) (e : H a = some (.ins C dx fs)) (c : Cls X.K C) (n : NoAttr X.K C f) (l : fs.lookup f = some v)
    (h : ∀ u s', Inv X pins σ H s' → RelV v u → Q u s') : wpAny (model X.prog X.w) A (getAttr (.ref a) f b) Q E s := by
  obtain ⟨mA, O, r, _, _, _⟩ := ins_get I.hok e
  obtain ⟨u, hu, ru⟩ := RelO.some_of (v := v) (o := mA f) (by rw [← l]; exact r f)
  exact get_map I.kIn O (c.get f) c.hd n hu (handed_of ru) (h u _ (I.tok _) ru)

theorem getmeth_ok {m : Str} {g : Addr} {pl : Sem Bool} {Q : Value × List Value → Shared → Prop} (I : Inv X pins σ H s) (e : H a = some (.ins C dx fs)) (c : Cls X.K C) (k : Meth X.K C m g) (l : fs.lookup m = none)
    (h : Q (.ref g, [.ref a]) s) : wpAny (model X.prog X.w) A (getMethod (.ref a) m pl) Q E s := by
  obtain ⟨mA, O, r, _, _, _⟩ := ins_get I.hok e
  have hn : mA m = none := RelO.none_of (by rw [← l]; exact r m)
  exact get_meth I.kIn O (c.get m) k.at_ k.fn hn h

theorem setattr_ok {y : V} {u : Value} {Q : Unit → Shared → Prop} (I : Inv X pins σ H s) (e : H a = some (.ins C dx fs)) (c : Cls X.K C) (n : NoAttr X.K C f) (hl : fs.length < 1000) (ry : RelV y u)
    (h : ∀ s', Inv X pins σ (upd H a (.ins C dx (putF f y fs))) s' → Q () s') : wpAny (model X.prog X.w) A (setAttr (.ref a) f u) Q E s := by
  obtain ⟨mA, O, r, wi, _, ho⟩ := ins_get I.hok e
  have hz : (fs.map (·.1)).length ≤ sizeLine := by rw [List.length_map, sizeLine_eq]; omega
  refine set_map I.kIn O c.sa c.po n.taker c.hd wi hz fun h' O' sb => h _ ?_
  have hd : ∃ o, h'.get? dx = some o := let ⟨o, _, _, e', _⟩ := O'.ns; ⟨o, e'⟩
  refine I.write (x := a) (e := dx) (by rw [e]; exact True.intro) (.inr ho) (fun b q hb z => (sb.2 b hb).trans z) hd ?_
  refine ⟨by rw [upd_ne O.ne]; exact ho, ?_, O.ne, O'.obj, _, O'.ns, fun g => ?_, fun g hg => ?_⟩
  · have := length_putF f y fs; omega
  · show RelO ((putF f y fs).lookup g) (if g = f then some u else mA g)
    rw [lookup_putF]
    by_cases q : g = f
    · rw [if_pos q, if_pos q]; exact ry
    · rw [if_neg q, if_neg q]; exact r g
  · by_cases q : g = f
    · rw [q]; exact (keys_putF f y fs).1
    · refine (keys_putF f y fs).2 g (wi g fun z => hg ?_)
      show (if g = f then some u else mA g) = none
      rw [if_neg q]; exact z

/-- a new instance, tracked, without attributes -/
theorem Inv.made (I : Inv X pins σ H s) : Inv X pins σ (upd (upd H s.heap.objs.size (.own (s.heap.objs.size + 1))) (s.heap.objs.size + 1) (.ins C s.heap.objs.size []))
    { s with heap := (s.heap.push PySem.W.emptyDict).push (PySem.W.instObj C s.heap.objs.size) } := by
  have e1 : (s.heap.push PySem.W.emptyDict).get? s.heap.objs.size = some PySem.W.emptyDict := Heap.get?_push_size s.heap rfl
  have e2 : ((s.heap.push PySem.W.emptyDict).push (PySem.W.instObj C s.heap.objs.size)).get? (s.heap.objs.size + 1) = some (PySem.W.instObj C s.heap.objs.size) := by
    have := Heap.get?_push_size (s.heap.push PySem.W.emptyDict) (o := PySem.W.instObj C s.heap.objs.size) rfl
    rwa [Heap.size_push] at this
  have e3 : (s.heap.push PySem.W.emptyDict).Ns s.heap.objs.size (fun _ => none) := ⟨PySem.W.emptyDict, #[], _, e1, rfl, (fun e he => absurd he (by simp)), fun _ => rfl⟩
  have I1 := I.laid (a := s.heap.objs.size) (o := .own (s.heap.objs.size + 1)) (h' := s.heap.push PySem.W.emptyDict) (t' := s.toks) (fun b u q => Heap.get?_push_of_some _ q) (Nat.le_refl _) ⟨_, e1⟩
  refine I1.laid (a := s.heap.objs.size + 1) (o := .ins C s.heap.objs.size []) (t' := s.toks) (fun b u q => Heap.get?_push_of_some _ q) (Nat.le_of_eq (Heap.size_push _ _)) ?_
  have ne : s.heap.objs.size ≠ s.heap.objs.size + 1 := Nat.ne_of_lt (Nat.lt_succ_self _)
  refine ⟨by rw [upd_ne ne, upd_same], Nat.zero_le _, ne, e2, fun _ => none, (Heap.Ns1.of_empty e3).at fun o q => Heap.get?_push_of_some _ q, fun _ => True.intro, fun y hy => absurd rfl hy⟩

/-- e.f where nothing but the object is asked: through attributeBase (super) and the last hold -/
theorem attr_of {prog : Program} {w : World} {env : Env} {e : Expr} {f : Str} {pos : Pos} {s : Shared} {Q : Value → Shared → Prop} (hb : attributeBase e f env (eval e env) = eval e env)
    (h : wpAny (model prog w) A (eval e env) (fun o s₁ => wpAny (model prog w) A (getAttr o f true) Q E s₁) E s) : wpAny (model prog w) A (eval (.Attribute e f pos) env) Q E s :=
  Attribute_any_ h (by rw [arm_eval_Attribute, hb])
end

/-! ### readings and rules -/
/-- e.f, an attribute of the instance -/
def tFld (K : PySem.W.Frag) (ta : TE) (f : Str) : TE := fun σ H Q => ta σ H fun x H1 => ∃ a C dx fs v, x = .ref a ∧ H1 a = some (.ins C dx fs) ∧ Cls K C ∧ NoAttr K C f ∧ fs.lookup f = some v ∧ Q v H1
/-- e.f, a constant of the class -/
def tCon (K : PySem.W.Frag) (ta : TE) (f : Str) : TE := fun σ H Q => ta σ H fun x H1 => ∃ a C dx fs v u, x = .ref a ∧ H1 a = some (.ins C dx fs) ∧ Cls K C ∧ Con K C f v u ∧ fs.lookup f = none ∧ Q v H1
/-- e.f = value -/
def sFld (K : PySem.W.Frag) (ta tv : TE) (f : Str) : TS := fun D σ H => tv σ H fun y H1 => ta σ H1 fun x H2 => ∃ a C dx fs, x = .ref a ∧ H2 a = some (.ins C dx fs) ∧ Cls K C ∧ NoAttr K C f ∧ fs.length < 1000 ∧
  D.nx σ (upd H2 a (.ins C dx (putF f y fs)))
/-- an augmented operator on two values -/
def InOp (X : Cx) (op : Operator) (rd : V → V → Hp → VK → Prop) : Prop :=
  ∀ (pins : List (Addr × Obj)) (s : Shared) (σ : St) (H : Hp) (x y : V) (u v : Value) (Q : VK), Inv X pins σ H s → RelV x u → RelV y v → rd x y H Q → wpAny (model X.prog X.w) X.A (inplaceOp op u v) (EP X pins σ Q) X.xe s
/-- e.f op= value -/
def sFldAug (K : PySem.W.Frag) (ta tv : TE) (rd : V → V → Hp → VK → Prop) (f : Str) : TS := fun D σ H => ta σ H fun x H1 => ∃ a C dx fs v, x = .ref a ∧ H1 a = some (.ins C dx fs) ∧ Cls K C ∧ NoAttr K C f ∧ fs.lookup f = some v ∧
  tv σ H1 fun y H2 => rd v y H2 fun z H3 => ∃ dx' fs', H3 a = some (.ins C dx' fs') ∧ fs'.length < 1000 ∧ D.nx σ (upd H3 a (.ins C dx' (putF f z fs')))

section
variable {X : Cx} {o e value : Expr} {f : Str} {pos pos' tpos : Pos} {ta tv : TE}
theorem pe_fld (he : PE X e ta) (hb : attributeBase e f X.env (eval e X.env) = eval e X.env) : PE X (.Attribute e f pos) (tFld X.K ta f) := by
  intro pins s σ H Q I h
  refine attr_of hb (thn (he pins s σ H _ I h) fun u s1 ⟨x, H1, I1, rx, a, C, dx, fs, v, ex, ea, c, n, l, q⟩ => ?_)
  subst ex
  obtain rfl : u = Value.ref a := rx
  exact getattr_ok I1 ea c n l fun u' s2 I2 ru => ⟨v, H1, I2, ru, q⟩
theorem ps_fld (ha : PE X o ta) (hv : PE X value tv) (hs : swapsWith value (some (.Attribute o f pos')) pos.line X.env = pure false) : PS X (.Assign [.Attribute o f pos'] value pos) (sFld X.K ta tv f) := by
  intro pins s σ H D I h
  refine plainObj_wpAny_Assign_Attribute (thn (hv pins s σ H _ I h) fun u s1 ⟨y, H1, I1, ry, q⟩ => thn (ha pins s1 σ H1 _ I1 q) fun ov s2 ⟨x, H2, I2, rx, a, C, dx, fs, ex, ea, c, n, l, q2⟩ => ?_) hs
  subst ex
  obtain rfl : ov = Value.ref a := rx
  exact setattr_ok I2 ea c n l ry fun s3 I3 => ⟨σ, _, I3, q2⟩
def rAdd : V → V → Hp → VK → Prop := fun x y H Q => ∃ i j, x = .int i ∧ y = .int j ∧ Q (.int (i + j)) H
def rSub : V → V → Hp → VK → Prop := fun x y H Q => ∃ i j, x = .int i ∧ y = .int j ∧ Q (.int (i - j)) H
end

/-! ### isinstance -/
section
variable {X : Cx} {pins : List (Addr × Obj)} {σ : St} {H : Hp} {s : Shared} {A : Around} {E : Value → Shared → Prop} {Q : Value → Shared → Prop} {c : Value} {b : Bool}
/-- the type of a value, as the fragment's deciders take it; for an instance its class -/
inductive TyOf (K : PySem.W.Frag) (H : Hp) : V → Value → Prop where
  | non : TyOf K H .non (.type "NoneType")
  | bl (x : Bool) : TyOf K H (.bl x) (.type "bool")
  | int (i : Int) : TyOf K H (.int i) (.type "int")
  | str (x : Str) : TyOf K H (.str x) (.type "str")
  | flt (x : UInt64) : TyOf K H (.flt x) (.type "float")
  | lst {a : Addr} {xs : List V} (e : H a = some (.lst xs)) : TyOf K H (.ref a) (.type "list")
  | frz {a : Addr} {o : Obj} {xs : List V} (e : H a = some (.frz o (.lst xs))) : TyOf K H (.ref a) (.type "list")
  | tup {a : Addr} {xs : List V} (e : H a = some (.tup xs)) : TyOf K H (.ref a) (.type "tuple")
  | dK {a : Addr} {kvs : List (Key × V)} (e : H a = some (.dK kvs)) : TyOf K H (.ref a) (.type "dict")
  | dT {a : Addr} {kvs : List (List Key × V)} (e : H a = some (.dT kvs)) : TyOf K H (.ref a) (.type "dict")
  | ins {a C dx : Addr} {fs : List (Str × V)} (e : H a = some (.ins C dx fs)) (cl : Cls K C) (ha : PySem.W.findIn K (.ref C) "__class__" = some (some (.builtin "object.__class__")))
      (hn : PySem.W.specialIn K (.builtin "object.__class__") "__get__" = some (some (.builtin "getset_descriptor.__get__"))) (htk : PySem.W.takesIn K (.builtin "object.__class__") = some true)
      (hm : PySem.W.mroIn K C (.type "object") = some true) : TyOf K H (.ref a) (.ref C)
end
end L2

namespace L2
open PySem PySem.Spec PyProof.Rows

/-! ### room -/
structure Room (k : Nat) (A : Around) : Prop where
  hd : A.handled = none
  dp : A.depth + 3 * k + 5 < recursionLimit
  un : A.units + 16 * k + 200 < cLine
theorem Room.mono {j k : Nat} {A : Around} (r : Room k A) (h : j ≤ k) : Room j A := ⟨r.hd, by have := r.dp; omega, by have := r.un; omega⟩
theorem Room.deeper {k : Nat} {A : Around} (r : Room (k + 1) A) (env : Env) : Room k (A.deeper env) :=
  ⟨r.hd, by have := r.dp; show A.depth + 1 + 3 * k + 5 < _; omega, by have := r.un; show A.units + 3 + 16 * k + 200 < _; omega⟩
theorem make_depth {A : Around} {C : Addr} {us : List Value} {kw : List (Str × Value)} : (A.under (.builtin "type.__call__" ⟨.ref C :: us, kw⟩)).depth = A.depth + 1 := by
  first | rfl | simp [Around.under, Code.weight, Code.isCreation, Code.isGuard, Code.isCaller, Code.frames, Code.isFrame, guardIds]
theorem make_units {A : Around} {C : Addr} {us : List Value} {kw : List (Str × Value)} : (A.under (.builtin "type.__call__" ⟨.ref C :: us, kw⟩)).units = A.units + 1 := by
  first | rfl | simp [Around.under, Code.cUnits, Code.frames, Code.isFrame]
theorem Room.make {k : Nat} {A : Around} (r : Room (k + 1) A) (C : Addr) (us : List Value) (kw : List (Str × Value)) : Room k (A.under (.builtin "type.__call__" ⟨.ref C :: us, kw⟩)) :=
  ⟨r.hd, by have := r.dp; rw [make_depth]; omega, by have := r.un; rw [make_units]; omega⟩
theorem Room.depth {k : Nat} {A : Around} (r : Room k A) : A.depth < recursionLimit := by have := r.dp; omega
theorem Room.units0 {k : Nat} {A : Around} (r : Room k A) : A.units < cLine := by have := r.un; omega

/-! ### argument lists and displays -/
def tNil : TA := fun _ H Q => Q [] H
def tCons (ta : TE) (tr : TA) : TA := fun σ H Q => ta σ H fun x H1 => tr σ H1 fun xs H2 => Q (x :: xs) H2
section
variable {X : Cx} {e : Expr} {es : List Expr} {te : TE} {t : TA} {pos : Pos}
theorem pa_nil : PA X [] tNil := fun _ _ _ _ H Q I h => Calls.spliced_nil ⟨[], H, I, .nil, h⟩
theorem pa_cons (ha : PE X e te) (hr : PA X es t) (hs : starEach (e :: es) X.env = (false, eval e X.env) :: starEach es X.env := by rfl) : PA X (e :: es) (tCons te t) := by
  intro pos pins s σ H Q I h
  rw [hs]
  show wpAny _ _ (spliced ((false, eval e X.env) :: backTo pos (starEach es X.env))) _ _ s
  refine Calls.spliced_cons (thn (ha pins s σ H _ I h) fun u s1 ⟨x, H1, I1, r1, q1⟩ => ?_)
  exact thn (hr pos pins s1 σ H1 _ I1 q1) fun us s2 ⟨xs, H2, I2, r2, q2⟩ => ⟨x :: xs, H2, I2, .cons r1 r2, q2⟩

/-- a tuple, a list of written items -/
def tTup (t : TA) : TE := fun σ H Q => t σ H fun xs H1 => xs.length ≤ sizeLine ∧ ∀ p, H1 p = none → Q (.ref p) (upd H1 p (.tup xs))
def tLst (t : TA) : TE := fun σ H Q => t σ H fun xs H1 => xs.length ≤ sizeLine ∧ ∀ p, H1 p = none → Q (.ref p) (upd H1 p (.lst xs))
theorem pe_tup {x1} (h : PA X es t) : PE X (.Tuple es x1 pos) (tTup t) := by
  intro pins s σ H Q I hq
  refine wpAny_Tuple_spliced (thn (h pos pins s σ H _ I hq) fun us s1 ⟨xs, H1, I1, r, z, q⟩ => ⟨by rw [← r.length]; exact z, ?_⟩)
  have hf : H1 s1.heap.objs.size = none := I1.hok.fresh (Nat.le_refl _)
  refine ⟨.ref s1.heap.objs.size, upd H1 s1.heap.objs.size (.tup xs), I1.laid (t' := s1.toks) (fun b u e => Heap.get?_push_of_some _ e) (Nat.le_refl _) ?_, rfl, q _ hf⟩
  exact ⟨z, us, r, ⟨_, Heap.get?_push_size _ rfl, rfl, _, rfl⟩⟩
theorem pe_lst (h : PA X es t) : PE X (.List es pos) (tLst t) := by
  intro pins s σ H Q I hq
  refine wpAny_List_spliced (thn (h pos pins s σ H _ I hq) fun us s1 ⟨xs, H1, I1, r, z, q⟩ => ⟨by rw [← r.length]; exact z, ?_⟩)
  have hf : H1 s1.heap.objs.size = none := I1.hok.fresh (Nat.le_refl _)
  refine ⟨.ref s1.heap.objs.size, upd H1 s1.heap.objs.size (.lst xs), I1.laid (t' := s1.toks) (fun b u e => Heap.get?_push_of_some _ e) (Nat.le_refl _) ?_, rfl, q _ hf⟩
  exact ⟨z, us, 0, r, Heap.get?_push_size _ rfl⟩
end

/-! ### what a def promises -/
/-- a def's promise: the bound arguments in the parameters' order, the heap, the wanted end, the wanted exception -/
abbrev Sp := List V → Hp → VK → XK → Prop
/-- how an exception lies behind a call (file 08 gives it): the callers' frames, abstract heap and state ahead of the call, the wish, the exception, the state -/
abbrev CXT := List Env → Hp → Shared → XK → Value → Shared → Prop

/-- the state at a call -/
structure Env0 (P : Program) (w : World) (K : PySem.W.Frag) (mg : Str → Option Value) (base : Heap) (A : Around) (outer : List Env) (s : Shared) (H : Hp) : Prop where
  frames : A.frames = some outer
  mod : Mod K mg base
  bs : ∀ b o, base.get? b = some o → s.heap.get? b = some o ∧ H b = none
  bsz : base.objs.size ≤ s.heap.objs.size
  funs : s.heap.FunFrames base outer
  frf : ∀ b ∈ frs outer, H b = none
  hok : HOk P w H s.heap
  bare : AllBare s.gens
/-- a call's end -/
def CE (outer : List Env) (P : Program) (w : World) (H : Hp) (s : Shared) (Q : VK) (u : Value) (s' : Shared) : Prop :=
  ∃ v H', s'.os = s.os ∧ AllBare s'.gens ∧ Un (frs outer) [] H H' s.heap s'.heap ∧ HOk P w H' s'.heap ∧ RelV v u ∧ Q v H'
def CR (CX : CXT) (outer : List Env) (P : Program) (w : World) (H : Hp) (s : Shared) (Q : VK) (E : XK) (r : Result) (s' : Shared) : Prop :=
  match r with
  | .ok (.ret u) => CE outer P w H s Q u s'
  | .ok _ => False
  | .error e => CX outer H s E e s'
structure FnOk (P : Program) (w : World) (K : PySem.W.Frag) (mg : Str → Option Value) (base : Heap) (CX : CXT) (k : Nat) (f : Addr) (fd : FuncData) (ps : List Str) (sp : Sp) : Prop where
  len : ∀ vs H Q E, sp vs H Q E → vs.length = ps.length
  run : ∀ (A : Around) (outer : List Env) (s : Shared) (H : Hp) (args : Args) (us : List Value) (vs : List V) (Q : VK) (E : XK), Room k A → Env0 P w K mg base A outer s H → BindsTo s fd args (ps.zip us) → Vals vs us → sp vs H Q E →
    codeAny (model P w) A (.call (.ref f) args) (CR CX outer P w H s Q E) s
theorem FnOk.mono {P : Program} {w : World} {K : PySem.W.Frag} {mg : Str → Option Value} {base : Heap} {CX : CXT} {j k : Nat} {f : Addr} {fd : FuncData} {ps : List Str} {sp : Sp} (F : FnOk P w K mg base CX j f fd ps sp) (h : j ≤ k) :
    FnOk P w K mg base CX k f fd ps sp := ⟨F.len, fun A outer s H args us vs Q E hr => F.run A outer s H args us vs Q E (hr.mono h)⟩
theorem Env0.make {P : Program} {w : World} {K : PySem.W.Frag} {mg : Str → Option Value} {base : Heap} {A : Around} {outer : List Env} {s : Shared} {H : Hp} (e : Env0 P w K mg base A outer s H) (C : Addr) (us : List Value) (kw : List (Str × Value)) :
    Env0 P w K mg base (A.under (.builtin "type.__call__" ⟨.ref C :: us, kw⟩)) outer s H := ⟨by first | exact e.frames | (simpa [Around.under, Code.envs, Code.isFrame, pushEnvs] using e.frames), e.mod, e.bs, e.bsz, e.funs, e.frf, e.hok, e.bare⟩
section
variable {X : Cx} {pins : List (Addr × Obj)} {σ : St} {H : Hp} {s s' : Shared}
/-- from a body: what a callee wants -/
theorem Inv.env0 (I : Inv X pins σ H s) : Env0 X.prog X.w X.K X.mg X.base X.A X.stack s H :=
  ⟨I.ok.frames, I.ok.mod, I.bs, Nat.le_trans I.ok.bsz I.sz, I.stack, I.stkFree, I.hok, I.bare⟩
/-- behind a call -/
theorem Inv.after {Q : VK} {u : Value} (I : Inv X pins σ H s) (h : CE X.stack X.prog X.w H s Q u s') : EP X pins σ Q u s' := by
  obtain ⟨v, H', os, bare, un, hok, r, q⟩ := h
  obtain ⟨hh, g, d, t, os'⟩ := s'
  obtain rfl : os' = s.os := os
  exact ⟨v, H', I.call (h' := hh) (g' := g) (d' := d) (t' := t) (ch := []) un hok bare (fun b z => absurd z (by simp)), r, q⟩
end

/-! ### calls -/
/-- f(..): the written arguments, then the defaults dvs; E: what is wanted of an exception -/
def tCall (sp : Sp) (dvs : List V) (E : XK) (t : TA) : TE := fun σ H Q => t σ H fun vs H1 => sp (vs ++ dvs) H1 Q E
/-- o.m(..) of an instance of the class at C -/
def tMeth (C : Addr) (m : Str) (sp : Sp) (dvs : List V) (E : XK) (ta : TE) (t : TA) : TE := fun σ H Q => ta σ H fun x H1 => ∃ a dx fs, x = .ref a ∧ H1 a = some (.ins C dx fs) ∧ fs.lookup m = none ∧
  t σ H1 fun vs H2 => sp (x :: (vs ++ dvs)) H2 Q E
/-- C(..): a new instance and its dict, then __init__ -/
def tMake (C : Addr) (sp : Sp) (dvs : List V) (E : XK) (t : TA) : TE := fun σ H Q => t σ H fun vs H1 => ∀ x dx, H1 x = none → H1 dx = none → dx ≠ x →
  sp (.ref x :: (vs ++ dvs)) (upd (upd H1 dx (.own x)) x (.ins C dx [])) (fun v H2 => v = .non ∧ Q (.ref x) H2) E

/-- how the parameters are bound: us the positional arguments, kw the keywords' values by name, ds the defaults that fill up -/
def Binds (K : PySem.W.Frag) (fd : FuncData) (ps : List Str) (ds : List Value) : Prop :=
  ∀ (s : Shared) (us : List Value), K.In s.heap → (us ++ ds).length = ps.length → BindsTo s fd ⟨us, []⟩ (ps.zip (us ++ ds))
/-- every parameter is given -/
theorem Binds.all {K : PySem.W.Frag} {fd : FuncData} {ps : List Str} (h : ∀ us : List Value, us.length = ps.length → bindArgs fd ⟨us, []⟩ = pure (ps.zip us)) : Binds K fd ps [] := fun s us _ hl => by
  rw [List.append_nil] at hl ⊢
  exact .of_eq (h us hl)

/-- an exception of a callee reaches what this body wants of exceptions -/
def Passes (CX : CXT) (X : Cx) (E : XK) : Prop := ∀ (pins : List (Addr × Obj)) (σ : St) (H : Hp) (s : Shared) (e : Value) (s' : Shared), Inv X pins σ H s → CX X.stack H s E e s' → X.xe e s'

section
variable {X : Cx} {CX : CXT} {k : Nat} {f C : Addr} {fd : FuncData} {ps : List Str} {sp : Sp} {dvs : List V} {ds : List Value} {E : XK} {x m : Str} {p pos apos : Pos} {e o : Expr} {es : List Expr} {ta : TE} {t : TA}

/-- the callee runs -/
theorem run_fn {pins : List (Addr × Obj)} {σ : St} {H : Hp} {s : Shared} {Q : VK} {us : List Value} {vs : List V} (F : FnOk X.prog X.w X.K X.mg X.base CX k f fd ps sp) (hr : Room k X.A) (hb : Binds X.K fd ps ds) (hd : Vals dvs ds) (hx : Passes CX X E)
    (I : Inv X pins σ H s) (r : Vals vs us) (h : sp (vs ++ dvs) H Q E) : wpAny (model X.prog X.w) X.A (call (.ref f) us) (EP X pins σ Q) X.xe s := by
  have r2 : Vals (vs ++ dvs) (us ++ ds) := r.append hd
  have hl : (us ++ ds).length = ps.length := by rw [← r2.length]; exact F.len _ _ _ _ h
  refine wpAny_call (codeAny_mono (F.run X.A X.stack s H ⟨us, []⟩ (us ++ ds) (vs ++ dvs) Q E hr I.env0 (hb s us I.kIn hl) r2 h) fun r s' hq => ?_)
  cases r with
  | error e => exact hx pins σ H s e s' I hq
  | ok fl =>
    cases fl with
    | ret u => exact I.after hq
    | next => exact False.elim hq
    | brk => exact False.elim hq
    | cont => exact False.elim hq

theorem pe_call (F : FnOk X.prog X.w X.K X.mg X.base CX k f fd ps sp) (hr : Room k X.A) (hg : Gl X x) (hm : X.mg x = some (.ref f)) (hk : PySem.W.keepIn X.K (.ref f) = true) (hb : Binds X.K fd ps ds) (hd : Vals dvs ds) (hx : Passes CX X E)
    (ha : PA X (e :: es) t) (hdb : (x == ("__debug__" : Str)) = false := by decide) (he : starEach (e :: es) X.env = (false, eval e X.env) :: starEach es X.env := by rfl) (hpl : (backTo pos (starEach es X.env)).any (·.1) = false := by rfl) :
    PE X (.Call (.Name x p) (e :: es) [] pos) (tCall sp dvs E t) := by
  intro pins s σ H Q I h
  refine wpAny_Call_Name_kw (ld_glob I hg hm ?_ hdb)
  refine PySem.W.callWith_K (h₀ := X.base) I.ok.mod.kin hk (thn (ha pos pins s σ H _ I h) fun us s1 ⟨vs, H1, I1, r, q⟩ => ⟨I1.kIn, ?_⟩) he hpl
  exact run_fn F hr hb hd hx I1 r q
/-- o.m() -/
theorem pe_meth0 {pl : Sem Bool} (he : PE X o ta) (c : Cls X.K C) (hm : Meth X.K C m f) (F : FnOk X.prog X.w X.K X.mg X.base CX k f fd ps sp) (hr : Room k X.A) (hb : Binds X.K fd ps ds) (hd : Vals dvs ds) (hx : Passes CX X E)
    (ht : eval (.Call (.Attribute o m apos) [] [] pos) X.env = (do
      let ov ← eval o X.env
      standAt apos.atName
      let (f, first) ← holding [ov] (getMethod ov m pl)
      callWith pos f first (backTo pos (starEach [] X.env)) (backToKw pos (keywordEach [] X.env))) := by rfl) :
    PE X (.Call (.Attribute o m apos) [] [] pos) (tMeth C m sp dvs E ta tNil) := by
  intro pins s σ H Q I h
  refine PySem.W.methodCall_KW (pl := pl) (thn (he pins s σ H _ I h) fun u s1 ⟨x, H1, I1, rx, a, dx, fs, ex, ea, l, q⟩ => ?_) ht
  subst ex
  obtain rfl : u = Value.ref a := rx
  refine getmeth_ok I1 ea c hm l ?_
  exact PySem.W.callWith_K0 (first := [.ref a]) I1.kIn hm.kp (run_fn (us := [.ref a]) (vs := [.ref a]) F hr hb hd hx I1 (.cons rfl .nil) q)

/-- what a class must have to be made -/
structure Mk (K : PySem.W.Frag) (C f : Addr) : Prop where
  makes : PySem.W.makesIn K C = true
  init : PySem.W.findIn K (.ref C) "__init__" = some (some (.ref f))
  fn : PySem.W.isFn K (.ref f) = true
  kp : PySem.W.keepIn K (.ref C) = true

theorem run_make {pins : List (Addr × Obj)} {σ : St} {H : Hp} {s : Shared} {Q : VK} {us : List Value} {vs : List V} (M : Mk X.K C f) (F : FnOk X.prog X.w X.K X.mg X.base CX k f fd ps sp) (hr : Room (k + 1) X.A) (hb : Binds X.K fd ps ds) (hd : Vals dvs ds)
    (hx : Passes CX X E) (I : Inv X pins σ H s) (r : Vals vs us)
    (h : ∀ x dx, H x = none → H dx = none → dx ≠ x → sp (.ref x :: (vs ++ dvs)) (upd (upd H dx (.own x)) x (.ins C dx [])) (fun v H2 => v = .non ∧ Q (.ref x) H2) E) :
    wpAny (model X.prog X.w) X.A (call (.ref C) us) (EP X pins σ Q) X.xe s := by
  have hq := h (s.heap.objs.size + 1) s.heap.objs.size (I.hok.fresh (Nat.le_succ _)) (I.hok.fresh (Nat.le_refl _)) (Nat.ne_of_lt (Nat.lt_succ_self _))
  have I2 := Inv.made (C := C) I
  have r2 : Vals (V.ref (s.heap.objs.size + 1) :: (vs ++ dvs)) (Value.ref (s.heap.objs.size + 1) :: (us ++ ds)) := .cons rfl (r.append hd)
  have hl : (Value.ref (s.heap.objs.size + 1) :: us ++ ds).length = ps.length := by
    have e := r2.length
    rw [F.len _ _ _ _ hq] at e
    exact e.symm
  refine wpAny_call (make_map (f := f) I.kIn M.makes M.init (beq_iff_eq.mp M.fn) (codeAny_mono (F.run _ X.stack _ _ ⟨Value.ref (s.heap.objs.size + 1) :: us, []⟩ (Value.ref (s.heap.objs.size + 1) :: (us ++ ds)) _ _ E (hr.make C us [])
    (I2.env0.make C us []) (hb _ (Value.ref (s.heap.objs.size + 1) :: us) I2.kIn hl) r2 hq) fun r s' hq' => ?_))
  cases r with
  | error e => exact hx pins σ _ _ e s' I2 hq'
  | ok fl =>
    cases fl with
    | ret u =>
      obtain ⟨v, H', I3, rv, ev, q3⟩ := I2.after hq'
      subst ev
      exact ⟨rv, ⟨V.ref (s.heap.objs.size + 1), H', I3, rfl, q3⟩⟩
    | next => exact False.elim hq'
    | brk => exact False.elim hq'
    | cont => exact False.elim hq'
theorem pe_make (M : Mk X.K C f) (F : FnOk X.prog X.w X.K X.mg X.base CX k f fd ps sp) (hr : Room (k + 1) X.A) (hg : Gl X x) (hm : X.mg x = some (.ref C)) (hb : Binds X.K fd ps ds) (hd : Vals dvs ds) (hx : Passes CX X E)
    (ha : PA X (e :: es) t) (hdb : (x == ("__debug__" : Str)) = false := by decide) (he : starEach (e :: es) X.env = (false, eval e X.env) :: starEach es X.env := by rfl) (hpl : (backTo pos (starEach es X.env)).any (·.1) = false := by rfl) :
    PE X (.Call (.Name x p) (e :: es) [] pos) (tMake C sp dvs E t) := by
  intro pins s σ H Q I h
  refine wpAny_Call_Name_kw (ld_glob I hg hm ?_ hdb)
  refine PySem.W.callWith_K (h₀ := X.base) I.ok.mod.kin M.kp (thn (ha pos pins s σ H _ I h) fun us s1 ⟨vs, H1, I1, r, q⟩ => ⟨I1.kIn, ?_⟩) he hpl
  exact run_make M F hr hb hd hx I1 r q
end

/-! ### keywords -/
/-- the values of the keywords, from the left -/
def PK (X : Cx) (kws : List Keyword) (t : TA) : Prop :=
  ∀ (pos : Pos) (pins : List (Addr × Obj)) (s : Shared) (σ : St) (H : Hp) (Q : List V → Hp → Prop), Inv X pins σ H s → t σ H Q → wpAny (model X.prog X.w) X.A (evalAll ((backToKw pos (keywordEach kws X.env)).map (·.2))) (AP X pins σ Q) X.xe s
section
variable {X : Cx} {CX : CXT} {k : Nat} {f C : Addr} {fd : FuncData} {ps ks : List Str} {sp : Sp} {E : XK} {x m : Str} {p pos apos kpos : Pos} {e o : Expr} {es : List Expr} {kws : List Keyword} {te ta : TE} {t tk : TA} {nm : Option Str}
/-- how a call with keywords binds: g puts the positional values us and the keywords' values ws (names ks) in the parameters' order, defaults among them -/
structure KBinds (K : PySem.W.Frag) (fd : FuncData) (ps ks : List Str) (g : List Value → List Value → List Value) (gV : List V → List V → List V) : Prop where
  to : ∀ (s : Shared) (us ws : List Value), K.In s.heap → (g us ws).length = ps.length → BindsTo s fd ⟨us, ks.zip ws⟩ (ps.zip (g us ws))
  rel : ∀ {vs : List V} {us : List Value} {zs : List V} {ws : List Value}, Vals vs us → Vals zs ws → Vals (gV vs zs) (g us ws)
def tCallK (sp : Sp) (gV : List V → List V → List V) (E : XK) (t tk : TA) : TE := fun σ H Q => t σ H fun vs H1 => tk σ H1 fun zs H2 => sp (gV vs zs) H2 Q E
variable {g : List Value → List Value → List Value} {gV : List V → List V → List V}
end

/-! ### a def's body keeps its promise -/
/-- names: the parameters first -/
structure FnScope (N P : List Str) (sc : Scope) : Prop where
  kind : sc.kind = .function
  co : sc.isCoroutine = false
  gen : sc.isGenerator = false
  nd : N.Nodup
  pre : N.take P.length = P
  par : ∀ x ∈ P, sc.names.lookup x = some .local ∨ sc.names.lookup x = some .cell
  nofree : ∀ y ∈ sc.names, y.2 ≠ .free

theorem bindL_out {kindOf : Str → Option NameKind} {x : Str} : ∀ {binds : List (Str × Value)} {m : Str → Option Value}, (∀ v, (x, v) ∉ binds) → bindL kindOf binds m x = m x
  | [], _, _ => rfl
  | (n, v) :: r, m, h => by
    unfold bindL
    rw [bindL_out fun w hw => h w (List.mem_cons_of_mem _ hw)]
    split
    · have : x ≠ n := by rintro rfl; exact h v List.mem_cons_self
      simp [this]
    · rfl
theorem bindC_out {kindOf : Str → Option NameKind} {x : Str} : ∀ {binds : List (Str × Value)} {m : Str → Option Value}, (∀ v, (x, v) ∉ binds) → bindC kindOf binds m x = m x
  | [], _, _ => rfl
  | (n, v) :: r, m, h => by
    unfold bindC
    rw [bindC_out fun w hw => h w (List.mem_cons_of_mem _ hw)]
    split
    · rfl
    · have : x ≠ n := by rintro rfl; exact h v List.mem_cons_self
      simp [this]
theorem bindL_get {kindOf : Str → Option NameKind} {x : Str} {v : Value} : ∀ {P : List Str} {vs : List Value} {i : Nat} {m : Str → Option Value}, P.Nodup → P[i]? = some x → vs[i]? = some v → kindOf x = some .local →
    bindL kindOf (P.zip vs) m x = some v
  | [], _, _, _, _, h, _, _ => by simp at h
  | _ :: _, [], _, _, _, _, h, _ => by simp at h
  | p :: P, w :: vs, 0, m, nd, h1, h2, hk => by
    simp at h1 h2; subst h1; subst h2
    show bindL kindOf ((p, w) :: P.zip vs) m p = _
    unfold bindL
    rw [bindL_out fun v hv => (List.nodup_cons.mp nd).1 (List.of_mem_zip hv).1, if_pos hk]
    simp
  | p :: P, w :: vs, i + 1, m, nd, h1, h2, hk => by
    show bindL kindOf ((p, w) :: P.zip vs) m x = _
    unfold bindL
    exact bindL_get (i := i) (List.nodup_cons.mp nd).2 (by simpa using h1) (by simpa using h2) hk
theorem bindC_get {kindOf : Str → Option NameKind} {x : Str} {v : Value} : ∀ {P : List Str} {vs : List Value} {i : Nat} {m : Str → Option Value}, P.Nodup → P[i]? = some x → vs[i]? = some v → kindOf x ≠ some .local →
    bindC kindOf (P.zip vs) m x = some v
  | [], _, _, _, _, h, _, _ => by simp at h
  | _ :: _, [], _, _, _, _, h, _ => by simp at h
  | p :: P, w :: vs, 0, m, nd, h1, h2, hk => by
    simp at h1 h2; subst h1; subst h2
    show bindC kindOf ((p, w) :: P.zip vs) m p = _
    unfold bindC
    rw [bindC_out fun v hv => (List.nodup_cons.mp nd).1 (List.of_mem_zip hv).1, if_neg hk]
    simp
  | p :: P, w :: vs, i + 1, m, nd, h1, h2, hk => by
    show bindC kindOf ((p, w) :: P.zip vs) m x = _
    unfold bindC
    exact bindC_get (i := i) (List.nodup_cons.mp nd).2 (by simpa using h1) (by simpa using h2) hk

/-- the names' values at the entry -/
def start (N : List Str) (vs : List V) : St := vs.map some ++ List.replicate (N.length - vs.length) none

/-- the context of a def's body, at its entry; an exception leaves the frame, then lies as CX says -/
def cxOf (CX : CXT) (P : Program) (w : World) (K : PySem.W.Frag) (mg : Str → Option Value) (base : Heap) (N : List Str) (qual : Str) (scope : Scope) (f : Addr) (cd : Value) (A : Around) (outer : List Env) (s : Shared) (H : Hp) (E : XK) : Cx where
  prog := P
  w := w
  K := K
  mg := mg
  base := base
  A := A.deeper (envOfC qual scope s.heap.objs.size f cd)
  N := N
  s₀ := s
  H₀ := H
  env := envOfC qual scope s.heap.objs.size f cd
  outer := outer
  stack := envOfC qual scope s.heap.objs.size f cd :: outer
  ex := []
  calm := true
  fn := fun _ => true
  pn := []
  xe := fun e s' => wpAny (model P w) (A.deeper (envOfC qual scope s.heap.objs.size f cd)) (leaving (envOfC qual scope s.heap.objs.size f cd) e) (fun _ s'' => CX outer H s E e s'') (fun e' s'' => CX outer H s E e' s'') s'

theorem cell_has {sc : Scope} {n : Nat} {x : Str} (h : sc.names.lookup x = some .cell) : ∃ c, (cellsFrom n sc.names []).lookup x = some c := by
  have q := PySem.W.cellsFrom_some sc.names n [] (.inl h)
  exact Option.isSome_iff_exists.mp q

theorem inv_start {CX : CXT} {P : Program} {w : World} {K : PySem.W.Frag} {mg : Str → Option Value} {base : Heap} {N ps : List Str} {qual : Str} {scope : Scope} {f : Addr} {cd : Value} {A : Around} {outer : List Env} {s s1 : Shared} {H : Hp} {E : XK} {us : List Value} {vs : List V}
    (S : FnScope N ps scope) (hd : A.handled = none) (e0 : Env0 P w K mg base A outer s H) (hl : vs.length = ps.length) (r : Vals vs us)
    (x : InCallC s s.heap.objs.size (bindL (envOfC qual scope s.heap.objs.size f cd).kindOf (ps.zip us) fun _ => none) (cellsFrom (s.heap.objs.size + 1) scope.names []) (bindC (envOfC qual scope s.heap.objs.size f cd).kindOf (ps.zip us) fun _ => none) s1) :
    Inv (cxOf CX P w K mg base N qual scope f cd A outer s H E) [] (start N vs) H s1 := by
  have hpl : ps.length ≤ N.length := by have := congrArg List.length S.pre; rw [List.length_take] at this; omega
  obtain ⟨h1, tk, rfl, hk⟩ := x.done
  have noA : ∀ b : Addr, b ∉ (cxOf CX P w K mg base N qual scope f cd A outer s H E).ex := fun b z => absurd (show b ∈ ([] : List Addr) from z) (by simp)
  refine ⟨⟨e0.mod, S.kind, rfl, rfl, Nat.le_refl _, fun y z c h1 h2 => ?_, fun y hy => ?_, fun y c _ h => ?_, fun _ => hd, Around.frames_deeper e0.frames, .inr ⟨rfl, rfl⟩, fun b z => absurd z (noA b), e0.bs, e0.bsz, fun b _ _ => noA b, fun b z => absurd z (noA b), e0.funs, e0.frf⟩,
    rfl, e0.bare, Un.kept hk, ⟨_, x.toInCall.ns, fun i y v h1 h2 h3 => ?_⟩, fun y c h => ⟨_, x.cell y c h⟩, e0.hok.fresh (Nat.le_refl _), fun y c h => ?_, fun p hp => absurd (show p ∈ ([] : List (Addr × Obj)) from hp) (by simp), e0.hok.kept hk, ?_⟩
  · exact name_of_addr x.apart (PySem.mem_of_lookup h1) (PySem.mem_of_lookup h2)
  · have hy : scope.names.lookup y = some .cell ∨ scope.names.lookup y = some .free := hy
    rcases hy with hy | hy
    · exact cell_has hy
    · exact absurd rfl (S.nofree _ (PySem.mem_of_lookup hy))
  · exact Nat.le_of_lt (x.above y c (PySem.mem_of_lookup h))
  · have hi : i < vs.length := by
      unfold start at h2
      by_cases hi : i < vs.length
      · exact hi
      · rw [List.getElem?_append_right (by simpa using hi)] at h2
        rw [List.getElem?_replicate] at h2
        split at h2 <;> cases h2
    have ha : vs[i]? = some v := by
      unfold start at h2
      rw [List.getElem?_append_left (by simpa using hi), List.getElem?_map] at h2
      cases e : vs[i]? with
      | none => rw [e] at h2; cases h2
      | some a => rw [e] at h2; cases h2; rfl
    obtain ⟨u, hu, rv⟩ := r.get ha
    have hp : ps[i]? = some y := by
      rw [← S.pre, List.getElem?_take_of_lt (by omega)]; exact h1
    have ndP : ps.Nodup := by rw [← S.pre]; exact S.nd.sublist (List.take_sublist _ _)
    refine ⟨u, rv, ?_⟩
    rcases S.par y (List.mem_of_getElem? hp) with k | k
    · exact .inl ⟨k, bindL_get ndP hp hu k⟩
    · obtain ⟨c, e⟩ := cell_has (n := s.heap.objs.size + 1) k
      refine .inr ⟨.inl k, c, e, ?_⟩
      have q := x.cell y c e
      rw [bindC_get ndP hp hu (by show scope.names.lookup y ≠ _; rw [k]; decide)] at q
      exact q
  · exact e0.hok.fresh (Nat.le_of_lt (x.above y c (PySem.mem_of_lookup h)))
  · unfold start
    show _ = N.length
    rw [List.length_append, List.length_map, List.length_replicate]
    omega

/-- THE RULE: a def (or a method) of the text, by its body. The body's reading t is chosen for each entry; it is run at the parameters' values -/
theorem fn_of {CX : CXT} {P : Program} {w : World} {K : PySem.W.Frag} {mg : Str → Option Value} {base : Heap} {k : Nat} {f : Addr} {name qual : Str} {params : Arguments} {body : List Stmt} {scope : Scope} {dV kV doc pm cdv ct oc : Value} {an od : Option Addr}
    {osl : Array (Option Value)} {N ps : List Str} {sp : Sp} (lk : K.lookup f = some ⟨oc, od, .func (PySem.W.fnOf name qual params body scope dV kV doc pm an cdv ct), osl⟩) (hcd : PySem.W.codeIn K cdv qual = true) (S : FnScope N ps scope)
    (len : ∀ vs H Q E, sp vs H Q E → vs.length = ps.length)
    (hbody : ∀ (A : Around) (outer : List Env) (s : Shared) (H : Hp) (vs : List V) (Q : VK) (E : XK), Room k (A.deeper (envOfC qual scope s.heap.objs.size f cdv)) → sp vs H Q E →
      ∃ t, PSs (cxOf CX P w K mg base N qual scope f cdv A outer s H E) body t ∧ t { nx := fun _ H' => Q .non H', rt := Q } (start N vs) H) :
    FnOk P w K mg base CX (k + 1) f (PySem.W.fnOf name qual params body scope dV kV doc pm an cdv ct) ps sp := by
  refine ⟨len, fun A outer s H args us vs Q E hr e0 hb r hsp => ?_⟩
  have hl := len _ _ _ _ hsp
  have KX : K.In s.heap := e0.mod.kin.keeps fun b o e => (e0.bs b o e).1
  have lim : s.heap.NoLimit := e0.mod.nolimit.keeps fun b o e => (e0.bs b o e).1
  have hkind : ∀ y ∈ ps.zip us, scope.names.lookup y.1 = some .local ∨ (scope.names.lookup y.1 = some .cell ∧ ((cellsFrom (s.heap.objs.size + 1) scope.names []).lookup y.1).isSome = true) := fun ⟨n, v⟩ hy => by
    rcases S.par n (List.of_mem_zip hy).1 with q | q
    · exact .inl q
    · exact .inr ⟨q, PySem.W.cellsFrom_some _ _ _ (.inl q)⟩
  refine codeAny_call_function hr.depth (KX _ _ lk) rfl S.co S.gen rfl (PySem.W.codeRec_of KX hcd) (hb _ _ _ _ ?_)
  refine wpAny_newFunctionEnv_cells S.kind hkind fun env he s1 x => ?_
  subst he
  refine ⟨lim.keeps x.toInCall.keep, codeAny_func ?_⟩
  obtain ⟨t, ht, hq⟩ := hbody A outer s H vs Q E (hr.deeper _) hsp
  have I : Inv (cxOf CX P w K mg base N qual scope f cdv A outer s H E) [] (start N vs) H s1 := inv_start S hr.hd e0 hl r x
  refine wpAny_mono (ht [] s1 (start N vs) H _ I hq) (fun fl s' hs => ?_) fun e s' hs => hs
  have fin : ∀ {σ' : St} {H' : Hp} {v : V} {u : Value}, Inv (cxOf CX P w K mg base N qual scope f cdv A outer s H E) [] σ' H' s' → RelV v u → Q v H' → CE outer P w H s Q u s' :=
    fun {σ' H' v u} J rv q => ⟨v, H', J.os, J.bare, J.base, J.hok, rv, q⟩
  cases fl with
  | ret u =>
    obtain ⟨v, σ', H', J, rv, q⟩ := hs
    exact fin J rv q
  | next =>
    obtain ⟨σ', H', J, q⟩ := hs
    exact fin (v := V.non) (u := Value.none) J rfl q
  | brk =>
    obtain ⟨_, _, _, q⟩ := hs
    exact False.elim q
  | cont =>
    obtain ⟨_, _, _, q⟩ := hs
    exact False.elim q
end L2

namespace L2
open PySem PySem.Spec PyProof.Rows
section
variable {X : Cx} {x : Str} {p pos : Pos} {e : Expr} {es : List Expr} {t : TA} {id T : String} {r : List V → Hp → VK → Prop}

def tCB (r : List V → Hp → VK → Prop) (t : TA) : TE := fun σ H Q => t σ H fun vs H1 => r vs H1 Q
/-- f(e, ..), f a built-in function -/
theorem pe_callB (hc : CallR X (.builtin id) r) (hg : Gl X x) (hm : X.mg x = none) (hv : bootBuiltins x = some (.builtin id)) (ha : PA X (e :: es) t) (hn : x ≠ "__name__" := by decide) (hdb : (x == ("__debug__" : Str)) = false := by decide)
    (he : starEach (e :: es) X.env = (false, eval e X.env) :: starEach es X.env := by rfl) (hpl : (backTo pos (starEach es X.env)).any (·.1) = false := by rfl) : PE X (.Call (.Name x p) (e :: es) [] pos) (tCB r t) := by
  intro pins s σ H Q I h
  refine wpAny_Call_Name_kw (ld_blt I hg hm hv ?_ hn hdb)
  exact PyProof.Rows.callWith_builtin1 (thn (ha pos pins s σ H _ I h) fun us s1 ⟨vs, H1, I1, r1, q1⟩ => hc pins s1 σ H1 vs us Q I1 r1 q1) he hpl
/-- T(e, ..), T a built-in type -/
theorem pe_callTy (hc : CallR X (.type T) r) (hg : Gl X x) (hm : X.mg x = none) (hv : bootBuiltins x = some (.type T)) (ha : PA X (e :: es) t) (hn : x ≠ "__name__" := by decide) (hdb : (x == ("__debug__" : Str)) = false := by decide)
    (he : starEach (e :: es) X.env = (false, eval e X.env) :: starEach es X.env := by rfl) (hpl : (backTo pos (starEach es X.env)).any (·.1) = false := by rfl) : PE X (.Call (.Name x p) (e :: es) [] pos) (tCB r t) := by
  intro pins s σ H Q I h
  refine wpAny_Call_Name_kw (ld_blt I hg hm hv ?_ hn hdb)
  exact PyProof.Rows.callWith_type1 (thn (ha pos pins s σ H _ I h) fun us s1 ⟨vs, H1, I1, r1, q1⟩ => hc pins s1 σ H1 vs us Q I1 r1 q1) he hpl
end
end L2

namespace HT
open PySem PyProof.Rows

/-- t < u of tuples of ints -/
def lexLt : List Int → List Int → Bool
  | [], [] => false
  | [], _ :: _ => true
  | _ :: _, [] => false
  | x :: xs, y :: ys => if x = y then lexLt xs ys else decide (x < y)
section
open PySem.SeqAt
open PySem.AutoSeq1 (wpAny_loadPart')
open PySem.MeetsSeq PySem.MeetsSeq2 PySem.MeetsSeq3

end

section
variable {prog : Program} {w : World} {A : Around} {E : Value → Shared → Prop} {s : Shared}

/-! ### t[a:b], not the whole -/
/-- a slice's bound as a place among n (d where it is left out) -/
def sIx (n d : Nat) : Option Int → Nat
  | none => d
  | some v => if v < 0 then (v + (n : Int)).toNat else min v.toNat n
theorem sIx_none (n d : Nat) : sIx n d none = d := rfl
theorem sIx_nat (n d k : Nat) : sIx n d (some (k : Int)) = min k n := by
  show (if (k : Int) < 0 then ((k : Int) + (n : Int)).toNat else min (k : Int).toNat n) = min k n
  rw [if_neg (by omega), Int.toNat_natCast]
end
end HT

namespace L2
open PySem PySem.Spec PyProof.Rows

/-! ### the parts of a slice -/
abbrev TO := St → Hp → (Option Int → Hp → Prop) → Prop
/-- a slice's part (left out, or an int) -/
def PO (X : Cx) (e : Option Expr) (t : TO) : Prop :=
  ∀ (pins : List (Addr × Obj)) (s : Shared) (σ : St) (H : Hp) (Q : Option Int → Hp → Prop), Inv X pins σ H s → t σ H Q →
    wpAny (model X.prog X.w) X.A (evalPart e X.env) (fun u s' => ∃ o H', Inv X pins σ H' s' ∧ IsPart u o ∧ Q o H') X.xe s
def tNoPart : TO := fun _ H Q => Q none H
def tPart (t : TE) : TO := fun σ H Q => t σ H fun x H1 => ∃ i, x = .int i ∧ Q (some i) H1

theorem intsAre_of {ns : List Int} : ∀ {us : List Value}, Vals (ns.map V.int) us → IntsAre us ns := by
  induction ns with
  | nil => intro us r; rw [List.map_nil] at r; cases r; exact .nil
  | cons n ns ih =>
    intro us r
    rw [List.map_cons] at r
    cases r with
    | cons r1 r2 =>
      obtain ⟨t, e⟩ := r1
      subst e
      exact .cons n t (ih r2)

section
variable {X : Cx} {e : Expr} {te : TE} {lo hi : Option Expr} {tl th : TO} {pos p2 : Pos}

theorem po_none : PO X none tNoPart := by
  intro pins s σ H Q I h
  rw [evalPart_none]
  exact wpAny_pure ⟨none, H, I, .none, h⟩
theorem po_some (h : PE X e te) : PO X (some e) (tPart te) := by
  intro pins s σ H Q I hw
  rw [evalPart_some]
  refine thn (h pins s σ H _ I hw) fun u s1 ⟨x, H1, I1, r1, q1⟩ => ?_
  obtain ⟨i, rfl, q⟩ := q1
  obtain ⟨t, rfl⟩ := r1
  exact ⟨some i, H1, I1, .int i t, q⟩

/-- what a slice of a value is, by values: the slice object stands at sl -/
def SlR (X : Cx) (r : V → Option Int → Option Int → Hp → VK → Prop) : Prop :=
  ∀ (pins : List (Addr × Obj)) (s : Shared) (σ : St) (H : Hp) (x : V) (v vl vu : Value) (lo hi : Option Int) (sl : Addr) (Q : VK), Inv X pins σ H s → RelV x v → s.heap.IsSliceOf sl vl vu .none → IsPart vl lo → IsPart vu hi → r x lo hi H Q →
    ∃ T id, typeLookup (.type T) "__getitem__" = pure (some (.builtin id)) ∧ s.TypeIs v T ∧ wpAny (model X.prog X.w) X.A (getItem v (.ref sl)) (EP X pins σ Q) X.xe s
def tSl (r : V → Option Int → Option Int → Hp → VK → Prop) (te : TE) (tl th : TO) : TE := fun σ H Q => te σ H fun x H1 => tl σ H1 fun l H2 => th σ H2 fun u H3 => r x l u H3 Q
/-- a[lo:hi], any a -/
theorem pe_slice {r : V → Option Int → Option Int → Hp → VK → Prop} (hr : SlR X r) (he : PE X e te) (hl : PO X lo tl) (hu : PO X hi th) : PE X (.Subscript e (.Slice lo hi none p2) pos) (tSl r te tl th) := by
  intro pins s σ H Q I h
  refine Subscript_ (thn (he pins s σ H _ I h) fun v s1 ⟨x, H1, I1, r1, q1⟩ => ?_)
  refine wpAny_Slice (thn (hl pins s1 σ H1 _ I1 q1) fun vl s2 ⟨l, H2, I2, pl, q2⟩ => thn (hu pins s2 σ H2 _ I2 q2) fun vu s3 ⟨u, H3, I3, pu, q3⟩ => ?_)
  rw [evalPart_none]
  refine wpAny_pure ?_
  have I4 : Inv X pins σ H3 { s3 with heap := s3.heap.push { cls := .type "slice", data := .fields #[vl, vu, .none] } } := I3.kept (t' := s3.toks) fun b ob q => Heap.get?_push_of_some _ q
  obtain ⟨T, id, hT, ht, hg⟩ := hr pins { s3 with heap := s3.heap.push { cls := .type "slice", data := .fields #[vl, vu, .none] } } σ H3 x v vl vu l u s3.heap.objs.size Q I4 r1 (Heap.IsSliceOf.new ..) pl pu q3
  show wpAny (model X.prog X.w) X.A (subscriptTail e (.Slice lo hi none p2) v (.ref s3.heap.objs.size)) (EP X pins σ Q) X.xe { s3 with heap := s3.heap.push { cls := .type "slice", data := .fields #[vl, vu, .none] } }
  exact tail_any (ops := [.ref s3.heap.objs.size, v]) ht hT hg (by with_unfolding_all rfl)

/-- the items of xs[lo:hi] -/
def cutV (xs : List V) (lo hi : Option Int) : List V := (xs.drop (HT.sIx xs.length 0 lo)).take (HT.sIx xs.length xs.length hi - HT.sIx xs.length 0 lo)
theorem cutV_length (xs : List V) (lo hi : Option Int) : (cutV xs lo hi).length ≤ xs.length := by
  unfold cutV
  rw [List.length_take, List.length_drop]
  omega
/-- t[lo:hi], not the whole of it (the whole would be t itself) -/
def rSlT (K : PySem.W.Frag) : V → Option Int → Option Int → Hp → VK → Prop := fun x lo hi H Q => ∃ a xs, x = .ref a ∧ SqT K H a xs ∧
  ¬ (HT.sIx xs.length 0 lo = 0 ∧ HT.sIx xs.length xs.length hi = xs.length) ∧ ∀ p, H p = none → Q (.ref p) (upd H p (.tup (cutV xs lo hi)))
/-! ### t < u, t + u -/
def rLtT (K : PySem.W.Frag) : R2 := fun x y H Q => ∃ a b ns ms, x = .ref a ∧ y = .ref b ∧ SqT K H a (ns.map V.int) ∧ SqT K H b (ms.map V.int) ∧ Q (.bl (HT.lexLt ns ms)) H
/-- t + u, t not empty: u empty gives t itself -/
def rCatT (K : PySem.W.Frag) : R2 := fun x y H Q => ∃ a b xs ys, x = .ref a ∧ y = .ref b ∧ SqT K H a xs ∧ SqT K H b ys ∧ xs ≠ [] ∧ xs.length + ys.length ≤ sizeLine ∧
  (ys = [] → Q (.ref a) H) ∧ (ys ≠ [] → ∀ p, H p = none → Q (.ref p) (upd H p (.tup (xs ++ ys))))
end
end L2

namespace L2
open PySem PySem.Spec PyProof.Rows

/-! ### places -/
/-- the place that an index of any sign means -/
def ixN (n : Nat) (i : Int) : Option Nat := if 0 ≤ i then (if i < n then some i.toNat else none) else if -(n : Int) ≤ i then some (i + n).toNat else none
def atI {α : Type} (xs : List α) (i : Int) : Option α := (ixN xs.length i).bind fun j => xs[j]?
theorem ixN_seq {n : Nat} {i : Int} {j : Nat} (h : ixN n i = some j) : seqIndex? i n = some j ∧ j < n ∧ -(n : Int) ≤ i ∧ i < n := by
  unfold ixN at h
  by_cases h0 : 0 ≤ i
  · rw [if_pos h0] at h
    by_cases h1 : i < n
    · rw [if_pos h1] at h
      have e : i.toNat = j := Option.some.inj h
      exact ⟨by rw [seqIndex_of h0 h1, e], by omega, by omega, h1⟩
    · rw [if_neg h1] at h; cases h
  · rw [if_neg h0] at h
    by_cases h1 : -(n : Int) ≤ i
    · rw [if_pos h1] at h
      have e : (i + n).toNat = j := Option.some.inj h
      exact ⟨by rw [seqIndex_neg (by omega) h1, e], by omega, h1, by omega⟩
    · rw [if_neg h1] at h; cases h
theorem atI_get {α : Type} {xs : List α} {i : Int} {v : α} (h : atI xs i = some v) : ∃ j, seqIndex? i xs.length = some j ∧ xs[j]? = some v ∧ j < xs.length ∧ -(xs.length : Int) ≤ i ∧ i < xs.length := by
  unfold atI at h
  cases e : ixN xs.length i with
  | none => rw [e] at h; cases h
  | some j =>
    rw [e] at h
    obtain ⟨h1, h2, h3, h4⟩ := ixN_seq e
    exact ⟨j, h1, h, h2, h3, h4⟩
theorem atI_nat {α : Type} {xs : List α} {j : Nat} {v : α} (h : xs[j]? = some v) : atI xs (j : Int) = some v := by
  have hj : j < xs.length := (List.getElem?_eq_some_iff.mp h).1
  have e : ixN xs.length (j : Int) = some j := by
    unfold ixN
    rw [if_pos (by omega), if_pos (by omega)]; simp
  unfold atI; rw [e]; exact h
/-! ### what may be subscripted -/
/-- what stands as an index of a plain subscript -/
def PlainIx (b : Expr) : Prop := ∀ o i, subscripted b false o i = operate [o, i] (getItem o i)
/-- a subscript by values -/
def IxR (X : Cx) (r : R2) : Prop :=
  ∀ (value slice : Expr) (pins : List (Addr × Obj)) (s : Shared) (σ : St) (H : Hp) (x y : V) (v u : Value) (Q : VK), Inv X pins σ H s → RelV x v → RelV y u → r x y H Q →
    subscripted slice false v u = operate [v, u] (getItem v u) → wpAny (model X.prog X.w) X.A (subscriptTail value slice v u) (EP X pins σ Q) X.xe s
/-- a call of a builtin's method by values: the receiver, the arguments -/
def MtR (X : Cx) (id : String) (r : V → List V → Hp → VK → Prop) : Prop :=
  ∀ (pins : List (Addr × Obj)) (s : Shared) (σ : St) (H : Hp) (x : V) (xs : List V) (v : Value) (us : List Value) (Q : VK), Inv X pins σ H s → RelV x v → Vals xs us → r x xs H Q →
    wpAny (model X.prog X.w) X.A (call (.builtin id) (v :: us)) (EP X pins σ Q) X.xe s
section
variable {X : Cx} {a b : Expr} {ta tb : TE} {pos : Pos}
/-- a[b] -/
theorem pe_ix {r : R2} (hr : IxR X r) (ha : PE X a ta) (hb : PE X b tb) (hs : PlainIx b) : PE X (.Subscript a b pos) (tOp r ta tb) := by
  intro pins s σ H Q I h
  exact Subscript_ (binT ha hb I h fun v u s2 x y H2 I2 rx ry q => hr a b pins s2 σ H2 x y v u Q I2 rx ry q (hs _ _))

def rIxL (K : PySem.W.Frag) : R2 := fun x y H Q => ∃ p xs i v, x = .ref p ∧ y = .int i ∧ SqL K H p xs ∧ atI xs i = some v ∧ Q v H
def rIxT (K : PySem.W.Frag) : R2 := fun x y H Q => ∃ p xs i v, x = .ref p ∧ y = .int i ∧ SqT K H p xs ∧ atI xs i = some v ∧ Q v H
def rIxS : R2 := fun x y H Q => ∃ z i c, x = .str z ∧ y = .int i ∧ z.length ≤ sizeLine ∧ atI z.cps.toList i = some c ∧ Q (.str ⟨#[c]⟩) H
theorem ix_list : IxR X (rIxL X.K) := by
  intro value slice pins s σ H x y v u Q I rx ry h hs
  obtain ⟨p, xs, i, z, rfl, rfl, hq, he, q⟩ := h
  cases rx
  obtain ⟨t, rfl⟩ := ry
  obtain ⟨its, r, pl, hz⟩ := I.list hq
  obtain ⟨j, h1, h2, h3, h4, h5⟩ := atI_get he
  obtain ⟨w, ew, rw'⟩ := r.get h2
  have hl := r.length
  have hn := line63
  have fin : EP X pins σ Q w s := ⟨z, H, I, rw', q⟩
  by_cases h0 : 0 ≤ i
  · have hj : i.toNat = j := by
      rw [seqIndex_of h0 h5] at h1
      exact Option.some.inj h1
    exact item_listR pl.isList h0 (by omega) (by rw [hj]; simpa using ew) fin hs
  · have hj : (i + (its.toArray.size : Int)).toNat = j := by
      rw [seqIndex_neg (by omega) h4] at h1
      rw [List.size_toArray, ← hl]
      exact Option.some.inj h1
    exact subscriptTail_builtinR (x := w) pl.isList.typeIs slot_list_getitem.lookup
      (wpAny_getItem_list_neg (Q := fun r s' => r = w ∧ EP X pins σ Q r s') pl.isList (by omega) (by rw [List.size_toArray] <;> omega) (by omega) (by rw [hj]; simpa using ew) ⟨rfl, fin⟩) hs
theorem ix_tup : IxR X (rIxT X.K) := by
  intro value slice pins s σ H x y v u Q I rx ry h hs
  obtain ⟨p, xs, i, z, rfl, rfl, hq, he, q⟩ := h
  cases rx
  obtain ⟨t, rfl⟩ := ry
  obtain ⟨its, r, pl, hz⟩ := I.tuple hq
  obtain ⟨j, h1, h2, h3, h4, h5⟩ := atI_get he
  obtain ⟨w, ew, rw'⟩ := r.get h2
  have hl := r.length
  have hn := line63
  have fin : EP X pins σ Q w s := ⟨z, H, I, rw', q⟩
  exact subscriptTail_builtinR (x := w) pl.typeIs slot_tuple_getitem.lookup
    (getItem_tuple (j := j) (Q := fun r s' => r = w ∧ EP X pins σ Q r s') pl (by omega) (by omega) (by rw [List.size_toArray, ← hl]; exact h1) (by simpa using ew) ⟨rfl, fin⟩) hs
/-- list, tuple or str -/
def rIx (K : PySem.W.Frag) : R2 := fun x y H Q => rIxL K x y H Q ∨ rIxT K x y H Q ∨ rIxS x y H Q
/-! ### xs[i] = v, any sign -/
/-- the list's object behind a store -/
theorem mapSeq_set (its : List Value) (n j : Nat) (u : Value) : Obj.mapSeq (·.setIfInBounds j u) { cls := .type "list", data := .seq its.toArray n } = { cls := .type "list", data := .seq (its.set j u).toArray n } := by
  simp [Obj.mapSeq]
theorem Inv.lst {pins : List (Addr × Obj)} {σ : St} {H : Hp} {s : Shared} {p : Addr} {xs : List V} (I : Inv X pins σ H s) (h : H p = some (.lst xs)) :
    ∃ (its : List Value) (n : Nat), Vals xs its ∧ s.heap.get? p = some { cls := .type "list", data := .seq its.toArray n } ∧ xs.length ≤ sizeLine := by
  obtain ⟨z, its, n, r, e⟩ := I.hok p _ h
  exact ⟨its, n, r, e, z⟩
/-- the list at p is written by an update of its object -/
theorem Inv.lstUpd {pins : List (Addr × Obj)} {σ : St} {H : Hp} {s : Shared} {p : Addr} {xs ys : List V} {its its' : List Value} {n n' : Nat} {f : Obj → Obj} (I : Inv X pins σ H s) (h : H p = some (.lst xs))
    (ho : s.heap.get? p = some { cls := .type "list", data := .seq its.toArray n }) (hf : f { cls := .type "list", data := .seq its.toArray n } = { cls := .type "list", data := .seq its'.toArray n' }) (r : Vals ys its') (hz : ys.length ≤ sizeLine) (t : Nat) :
    Inv X pins σ (upd H p (.lst ys)) { s with heap := s.heap.update p f, toks := t } := by
  have e : (s.heap.update p f).get? p = some { cls := .type "list", data := .seq its'.toArray n' } := by
    rw [Heap.get?_update_self f ho (by rw [hf] <;> rfl), hf]
  refine I.write (x := p) (e := p) (by rw [h]; trivial) (.inl rfl) (fun b u hb q => (Heap.get?_update_other _ _ (Ne.symm hb)).trans q) ⟨_, e⟩ ?_
  exact ⟨hz, its', n', r, e⟩
def rSetL : V → V → V → Hp → (Hp → Prop) → Prop := fun o i v H Q => ∃ p xs k j, o = .ref p ∧ i = .int k ∧ H p = some (.lst xs) ∧ ixN xs.length k = some j ∧ Q (upd H p (.lst (xs.set j v)))
theorem set_list : PSet X rSetL := by
  intro pins s σ H o i v ov iv u Q I ro ri rv h
  obtain ⟨p, xs, k, j, rfl, rfl, hp, hj, q⟩ := h
  cases ro
  obtain ⟨t, rfl⟩ := ri
  obtain ⟨its, n, r, ho, hz⟩ := I.lst hp
  obtain ⟨h1, h2, h3, h4⟩ := ixN_seq hj
  have hl := r.length
  have hn := line63
  have I' : Inv X pins σ (upd H p (.lst (xs.set j v))) { s with heap := s.heap.update p (Obj.mapSeq (·.setIfInBounds j u)) } :=
    I.lstUpd hp ho (mapSeq_set its n j u) (r.set rv j) (by rw [List.length_set]; exact hz) s.toks
  by_cases h0 : 0 ≤ k
  · have hk : k.toNat = j := by
      rw [seqIndex_of h0 h4] at h1
      exact Option.some.inj h1
    exact PySem.W.ki_setAt ho h0 (by omega) (by rw [List.size_toArray, ← hl]; exact h4) (by rw [hk]; exact ⟨_, I', q⟩)
  · have hk : (k + (its.toArray.size : Int)).toNat = j := by
      rw [seqIndex_neg (by omega) h3] at h1
      rw [List.size_toArray, ← hl]
      exact Option.some.inj h1
    exact PySem.W.ki_setBack ho (by omega) (by rw [List.size_toArray, ← hl]; exact h3) (by omega) (by rw [hk]; exact ⟨_, I', q⟩)

/-! ### slices -/
theorem slice_bounds (lo hi : Option Int) (n : Nat) : (sliceBounds lo hi none n).1 = ((HT.sIx n 0 lo : Nat) : Int) ∧ (sliceBounds lo hi none n).2.1 = ((HT.sIx n n hi : Nat) : Int) ∧ (sliceBounds lo hi none n).2.2 = 1 := by
  refine ⟨?_, ?_, rfl⟩
  · cases lo with
    | none => simp [sliceBounds, HT.sIx]
    | some i =>
      simp only [sliceBounds, HT.sIx, Option.getD_none, show (1 : Int) > 0 by decide, if_true]
      by_cases h : i < 0
      · simp only [h, if_true] <;> omega
      · simp only [h, if_false] <;> omega
  · cases hi with
    | none => simp [sliceBounds, HT.sIx]
    | some i =>
      simp only [sliceBounds, HT.sIx, Option.getD_none, show (1 : Int) > 0 by decide, if_true]
      by_cases h : i < 0
      · simp only [h, if_true] <;> omega
      · simp only [h, if_false] <;> omega
theorem slicePick_cut (its : List Value) (lo hi : Option Int) : slicePick its.toArray lo hi none = ((its.drop (HT.sIx its.length 0 lo)).take (HT.sIx its.length its.length hi - HT.sIx its.length 0 lo)).toArray := by
  obtain ⟨h1, h2, h3⟩ := slice_bounds lo hi its.toArray.size
  unfold slicePick
  rw [h1, h2, h3]
  simp only [sliceRange_one, pick_run, List.size_toArray] <;> rfl
/-- xs[lo:hi] of a list: a new list -/
def rSlL (K : PySem.W.Frag) : V → Option Int → Option Int → Hp → VK → Prop := fun x lo hi H Q => ∃ a xs, x = .ref a ∧ SqL K H a xs ∧ ∀ p, H p = none → Q (.ref p) (upd H p (.lst (cutV xs lo hi)))
theorem sl_list : SlR X (rSlL X.K) := by
  intro pins s σ H x v vl vu lo hi sl Q I rx hs pl pu h
  obtain ⟨a, xs, rfl, hx, q⟩ := h
  cases rx
  obtain ⟨its, r, ht, hz⟩ := I.list hx
  have hlen := r.length
  refine ⟨"list", _, slot_list_getitem.lookup, ht.isList.typeIs, ?_⟩
  refine wpAny_getItem_list_slice ht.isList hs pl pu .none (by simp) ?_ (by rw [List.size_toArray] <;> omega)
  rw [slicePick_cut, ← hlen]
  refine ⟨.ref s.heap.objs.size, _, I.laid (t' := s.toks) (o := .lst (cutV xs lo hi)) (fun b ob q => Heap.get?_push_of_some _ q) (Nat.le_refl _) ?_, rfl, q _ (I.hok.fresh (Nat.le_refl _))⟩
  exact ⟨Nat.le_trans (cutV_length xs lo hi) hz, _, 0, (r.drop (HT.sIx xs.length 0 lo)).take (HT.sIx xs.length xs.length hi - HT.sIx xs.length 0 lo), Heap.get?_push_size _ rfl⟩

/-! ### in, not in: flat items -/
def flatV : V → Bool
  | .non => true
  | .bl _ => true
  | .int _ => true
  | .str _ => true
  | _ => false
/-- == of flat values -/
def eqV : V → V → Bool
  | .non, .non => true
  | .bl a, .bl b => a == b
  | .bl a, .int b => (if a then 1 else 0) == b
  | .int a, .bl b => a == (if b then 1 else 0)
  | .int a, .int b => a == b
  | .str a, .str b => a == b
  | _, _ => false
theorem eqAt_V {A : Around} {s : Shared} {y x : V} {u v : Value} (ry : RelV y u) (rx : RelV x v) (fy : flatV y = true) (fx : flatV x = true) : SeqAt.EqAt A s u v (eqV y x) := by
  cases y with
  | non =>
    cases ry
    cases x with
    | non => cases rx; exact SeqAt.EqAt.same _
    | bl b => cases rx; exact SeqAt.EqAt.none_bool b
    | int b => obtain ⟨t, rfl⟩ := rx; exact SeqAt.EqAt.none_int b t
    | str b => obtain ⟨t, rfl⟩ := rx; exact SeqAt.EqAt.none_str b t
    | _ => exact absurd (show false = true from fx) Bool.false_ne_true
  | bl a =>
    cases ry
    cases x with
    | non => cases rx; exact SeqAt.EqAt.bool_none a
    | bl b => cases rx; exact SeqAt.EqAt.bool_bool a b
    | int b => obtain ⟨t, rfl⟩ := rx; exact SeqAt.EqAt.bool_int a b t
    | str b => obtain ⟨t, rfl⟩ := rx; exact SeqAt.EqAt.bool_str a b t
    | _ => exact absurd (show false = true from fx) Bool.false_ne_true
  | int a =>
    obtain ⟨t', rfl⟩ := ry
    cases x with
    | non => cases rx; exact SeqAt.EqAt.int_none a t'
    | bl b => cases rx; exact SeqAt.EqAt.int_bool a t' b
    | int b => obtain ⟨t, rfl⟩ := rx; exact SeqAt.EqAt.int_int a t' b t
    | str b => obtain ⟨t, rfl⟩ := rx; exact SeqAt.EqAt.int_str a t' b t
    | _ => exact absurd (show false = true from fx) Bool.false_ne_true
  | str a =>
    obtain ⟨t', rfl⟩ := ry
    cases x with
    | non => cases rx; exact SeqAt.EqAt.str_none a t'
    | bl b => cases rx; exact SeqAt.EqAt.str_bool a t' b
    | int b => obtain ⟨t, rfl⟩ := rx; exact SeqAt.EqAt.str_int a t' b t
    | str b => obtain ⟨t, rfl⟩ := rx; exact SeqAt.EqAt.str_str a t' b t
    | _ => exact absurd (show false = true from fx) Bool.false_ne_true
  | _ => exact absurd (show false = true from fy) Bool.false_ne_true
/-- the items' answers, read off the values (a value's own answer does not lean on its token) -/
def eqU (x : V) (u : Value) : Bool := match u with
  | .none => eqV .non x
  | .bool b => eqV (.bl b) x
  | .int i _ => eqV (.int i) x
  | .str z _ => eqV (.str z) x
  | _ => false
theorem eqU_of {x y : V} {u : Value} (r : RelV y u) (f : flatV y = true) : eqU x u = eqV y x := by
  cases y with
  | non => cases r; rfl
  | bl b => cases r; rfl
  | int i => obtain ⟨t, rfl⟩ := r; rfl
  | str z => obtain ⟨t, rfl⟩ := r; rfl
  | _ => exact absurd (show false = true from f) Bool.false_ne_true
theorem any_eqU {x : V} : ∀ {xs : List V} {us : List Value}, Vals xs us → xs.all flatV = true → us.any (eqU x) = xs.any fun y => eqV y x
  | _, _, .nil, _ => rfl
  | y :: xs, u :: us, .cons r t, f => by
    rw [List.all_cons, Bool.and_eq_true] at f
    rw [List.any_cons, List.any_cons, eqU_of r f.1, any_eqU t f.2]
theorem mem_eqAt {A : Around} {s : Shared} {x : V} {v : Value} (rx : RelV x v) (fx : flatV x = true) : ∀ {xs : List V} {us : List Value}, Vals xs us → xs.all flatV = true → ∀ u ∈ us, SeqAt.EqAt A s u v (eqU x u)
  | _, _, .nil, _ => fun u hu => by cases hu
  | y :: xs, u :: us, .cons r t, f => fun u' hu => by
    rw [List.all_cons, Bool.and_eq_true] at f
    rcases List.mem_cons.mp hu with rfl | hu
    · rw [eqU_of r f.1]; exact eqAt_V r rx f.1 fx
    · exact mem_eqAt rx fx t f.2 u' hu
def inV (x : V) (xs : List V) : Bool := xs.any fun y => eqV y x
/-- x in a list or tuple of flat items -/
def rIn (K : PySem.W.Frag) (neg : Bool) : R2 := fun x y H Q => ∃ p xs, y = .ref p ∧ (SqL K H p xs ∨ SqT K H p xs) ∧ flatV x = true ∧ xs.all flatV = true ∧ Q (.bl (if neg then !inV x xs else inV x xs)) H
theorem op_in_seq : OpR X (compareOp .In) (rIn X.K false) := by
  intro pins s σ H x y v u Q I rx ry h
  obtain ⟨p, xs, rfl, hq, fx, fs, q⟩ := h
  cases ry
  rcases hq with hq | hq
  · obtain ⟨its, r, pl, hz⟩ := I.list hq
    refine SeqAt.in_listAt (eqU x) pl.isList (fun w hw => mem_eqAt rx fx r fs w (by simpa using hw)) ⟨.bl _, H, I, rfl, ?_⟩
    rw [show its.toArray.any (eqU x) = its.any (eqU x) by simp, any_eqU r fs]
    exact q
  · obtain ⟨its, r, pl, hz⟩ := I.tuple hq
    refine SeqAt.in_tupleAt (eqU x) pl (fun w hw => mem_eqAt rx fx r fs w (by simpa using hw)) ⟨.bl _, H, I, rfl, ?_⟩
    rw [show its.toArray.any (eqU x) = its.any (eqU x) by simp, any_eqU r fs]
    exact q
/-! ### len, list(x), tuple(x) of any list or tuple that is read -/
theorem call_len_seq : CallR X (.builtin "len") (fun xs H Q => ∃ p ys, xs = [.ref p] ∧ (SqL X.K H p ys ∨ SqT X.K H p ys) ∧ Q (.int ys.length) H) := by
  intro pins s σ H xs us Q I r h
  obtain ⟨p, ys, rfl, hq, q⟩ := h
  obtain ⟨u, rfl, rx⟩ := vals1 r
  cases rx
  have hn := line63
  rcases hq with hq | hq
  · obtain ⟨its, r', pl, hz⟩ := I.list hq
    have hlen := r'.length
    exact Calls.call_len_list pl.isList (by simp only [List.size_toArray] <;> omega) ⟨.int ys.length, H, I.tok _, ⟨s.toks + 1, by rw [List.size_toArray, hlen]⟩, q⟩
  · obtain ⟨its, r', pl, hz⟩ := I.tuple hq
    have hlen := r'.length
    exact len_tuple pl (by simp only [List.size_toArray] <;> omega) ⟨.int ys.length, H, I.tok _, ⟨s.toks + 1, by rw [List.size_toArray, hlen]⟩, q⟩
theorem call_list_of : CallR X (.type "list") (fun xs H Q => ∃ p ys, xs = [.ref p] ∧ (SqL X.K H p ys ∨ SqT X.K H p ys) ∧ ∀ l, H l = none → Q (.ref l) (upd H l (.lst ys))) := by
  intro pins s σ H xs us Q I r h
  obtain ⟨p, ys, rfl, hq, q⟩ := h
  obtain ⟨u, rfl, rx⟩ := vals1 r
  cases rx
  have fin : ∀ (its : List Value), Vals ys its → ys.length ≤ sizeLine → ∀ (h' : Heap) (c' : Nat), (∀ b o', s.heap.get? b = some o' → h'.get? b = some o') →
      h'.get? s.heap.objs.size = some { cls := .type "list", dict := none, data := .seq its.toArray c', slots := #[] } → EP X pins σ Q (.ref s.heap.objs.size) { s with heap := h' } := fun its r' hz h' c' kp e =>
    ⟨.ref s.heap.objs.size, _, I.laid (t' := s.toks) kp (Nat.le_refl _) (show ObjOk X.prog X.w _ h' _ (.lst ys) from ⟨hz, its, c', r', e⟩), rfl, q _ (I.hok.fresh (Nat.le_refl _))⟩
  rcases hq with hq | hq
  · obtain ⟨its, r', pl, hz⟩ := I.list hq
    have hlen := r'.length
    obtain ⟨o, ho, hc, n, hd⟩ := pl.isList
    exact call_list_seq p (.inl rfl) ho hc hd (fun h' c' kp e => fin its r' hz h' c' kp e) (by simp only [List.size_toArray] <;> omega)
  · obtain ⟨its, r', pl, hz⟩ := I.tuple hq
    have hlen := r'.length
    obtain ⟨o, ho, hc, n, hd⟩ := pl
    exact call_list_seq p (.inr rfl) ho hc hd (fun h' c' kp e => fin its r' hz h' c' kp e) (by simp only [List.size_toArray] <;> omega)
/-! ### the call of a builtin's method: o.m(..) -/
/-- the value is of that builtin type -/
def tyV (K : PySem.W.Frag) (T : String) (x : V) (H : Hp) : Prop := match x with
  | .str _ => T = "str"
  | .int _ => T = "int"
  | .ref p => (T = "list" ∧ ∃ xs, SqL K H p xs) ∨ (T = "tuple" ∧ ∃ o, K.lookup p = some o ∧ o.cls = .type "tuple" ∧ o.dict = none) ∨
      (T = "dict" ∧ ((∃ kvs, H p = some (.dK kvs)) ∨ ∃ kvs, H p = some (.dT kvs))) ∨ (T = "set" ∧ ∃ S n, H p = some (.set S n))
  | _ => False
theorem tyV_is {pins : List (Addr × Obj)} {σ : St} {H : Hp} {s : Shared} {T : String} {x : V} {v : Value} (I : Inv X pins σ H s) (r : RelV x v) (ty : tyV X.K T x H) :
    s.TypeIs v T ∧ ∀ a, v = .ref a → ∃ ob, s.heap.get? a = some ob ∧ ob.dict = none := by
  cases x with
  | str z =>
    obtain ⟨t, rfl⟩ := r
    cases (show T = "str" from ty)
    exact ⟨typeIs_str s z t, fun _ e => nomatch e⟩
  | int i =>
    obtain ⟨t, rfl⟩ := r
    cases (show T = "int" from ty)
    exact ⟨typeIs_int s i t, fun _ e => nomatch e⟩
  | ref p =>
    cases r
    rcases ty with ⟨rfl, xs, hq⟩ | ⟨rfl, o, hk, hc, hd⟩ | ⟨rfl, hk⟩ | ⟨rfl, S, n, hk⟩
    · obtain ⟨its, _, pl, _⟩ := I.list hq
      refine ⟨pl.isList.typeIs, fun a e => ?_⟩
      cases e
      obtain ⟨o, n, e, c, hd, _⟩ := pl
      exact ⟨o, e, hd⟩
    · refine ⟨⟨o, I.kIn p o hk, hc⟩, fun a e => ?_⟩
      cases e
      exact ⟨o, I.kIn _ o hk, hd⟩
    · have z : ∃ o, s.heap.get? p = some o ∧ o.ExactDict := by
        rcases hk with ⟨kvs, hk⟩ | ⟨kvs, hk⟩
        · obtain ⟨_, _, _, _, o, _, _, e, ex, _⟩ := I.hok p _ hk
          exact ⟨o, e, ex⟩
        · obtain ⟨_, _, _, _, o, _, _, e, ex, _⟩ := I.hok p _ hk
          exact ⟨o, e, ex⟩
      obtain ⟨o, e, ex⟩ := z
      refine ⟨⟨o, e, ex.1⟩, fun a e2 => ?_⟩
      cases e2
      exact ⟨o, e, ex.2.1⟩
    · obtain ⟨o, _, _, _, e, ex, _⟩ := I.hok p _ hk
      refine ⟨⟨o, e, ex.1⟩, fun a e2 => ?_⟩
      cases e2
      exact ⟨o, e, ex.2.1⟩
  | _ => exact False.elim ty
def tBM0 (K : PySem.W.Frag) (T : String) (r : V → List V → Hp → VK → Prop) (to : TE) : TE := fun σ H Q => to σ H fun x H1 => tyV K T x H1 ∧ r x [] H1 Q
def tBM (K : PySem.W.Frag) (T : String) (r : V → List V → Hp → VK → Prop) (to : TE) (t : TA) : TE := fun σ H Q => to σ H fun x H1 => tyV K T x H1 ∧ t σ H1 fun xs H2 => r x xs H2 Q
variable {o e : Expr} {es : List Expr} {to : TE} {t : TA} {name : Str} {apos cpos : Pos} {T id : String} {r : V → List V → Hp → VK → Prop}
theorem pe_bm (pa : PlainAttrs T) (slot : Slot T name id) (hty : typeOf (.builtin id) = pure (.type "method_descriptor")) (hm : MtR X id r) (ho : PE X o to) (ha : PA X (e :: es) t)
    (hbase : attributeBase o name X.env (eval o X.env) = eval o X.env := by rfl)
    (hfew : ((backTo cpos (starEach (e :: es) X.env)).all (fun x => !x.1) && (backToKw cpos (keywordEach [] X.env)).all (fun x => x.1.isSome)
      && decide ((e :: es).length + ([] : List Keyword).length + (if ([] : List Keyword).isEmpty then 0 else 1) < 30)) = true := by rfl)
    (hline : (apos.endLine == cpos.line) = true := by rfl) (hs : starEach (e :: es) X.env = (false, eval e X.env) :: starEach es X.env := by rfl) (hplain : (backTo cpos (starEach es X.env)).any (·.1) = false := by rfl) :
    PE X (.Call (.Attribute o name apos) (e :: es) [] cpos) (tBM X.K T r to t) := by
  intro pins s σ H Q I h
  refine wpAny_Call_method_late hbase hfew hline rfl (thn (ho pins s σ H _ I h) fun v s1 ⟨x, H1, I1, r1, ty, q1⟩ => ?_)
  obtain ⟨h1, h2⟩ := tyV_is I1 r1 ty
  refine ⟨T, id, pa, slot, hty, h1, h2, ?_⟩
  have hA := ha cpos pins s1 σ H1 _ I1 q1
  rw [hs] at hA ⊢
  refine Calls.callWith_builtin (by show (false || (backTo cpos (starEach es X.env)).any (·.1)) = false; rw [hplain] <;> rfl) (Calls.evalArgs_plain ?_)
  exact thn hA fun us s2 ⟨vs, H2, I2, r2, q2⟩ => hm pins s2 σ H2 x vs v us Q I2 r1 r2 q2
/- xs.append(e), list.index on a module's tuple .. are MtR facts of 06m -/
end
end L2

namespace L2
open PySem PySem.Spec PyProof.Rows

def MtM (X : Cx) (id : String) (r : V → List V → Hp → VK → Prop) : Prop :=
  ∀ (pins : List (Addr × Obj)) (s : Shared) (σ : St) (H : Hp) (x : V) (xs : List V) (v : Value) (us : List Value) (Q : VK), Inv X pins σ H s → RelV x v → Vals xs us → r x xs H Q →
    wpAny (model X.prog X.w) X.A (call (.builtin id) (v :: us)) (EP X pins σ Q) X.xe s

/-! ### lists of values -/
theorem Vals.one : ∀ {x : V} {us : List Value}, Vals [x] us → ∃ u, us = [u] ∧ RelV x u
  | _, _, .cons r .nil => ⟨_, rfl, r⟩
theorem Vals.two : ∀ {x y : V} {us : List Value}, Vals [x, y] us → ∃ u v, us = [u, v] ∧ RelV x u ∧ RelV y v
  | _, _, _, .cons r (.cons q .nil) => ⟨_, _, rfl, r, q⟩
section
variable {X : Cx} {pins : List (Addr × Obj)} {σ : St} {H : Hp} {s : Shared} {l b : Addr} {xs ys zs : List V}

/-! ### the two steps: a tracked list is rewritten, a new list is laid -/
theorem Inv.lset {its its' : List Value} {n : Nat} {f : Array Value → Array Value} {t' : Nat} (I : Inv X pins σ H s) (hH : H l = some (.lst xs))
    (e : s.heap.get? l = some { cls := .type "list", data := .seq its.toArray n }) (hf : f its.toArray = its'.toArray) (hv : Vals ys its') (hz : ys.length ≤ sizeLine) :
    Inv X pins σ (upd H l (.lst ys)) { s with heap := s.heap.update l (Obj.mapSeq f), toks := t' } := by
  have q := PySem.IsL.update e f
  rw [hf] at q
  refine I.write (x := l) (e := l) (by rw [hH]; exact trivial) (.inl rfl) (fun b' u hb hu => (Heap.get?_update_other s.heap (Obj.mapSeq f) (Ne.symm hb)).trans hu) ⟨_, q⟩ ?_
  exact ⟨hz, its', _, hv, q⟩
theorem Inv.lnew {its : List Value} {t' : Nat} (I : Inv X pins σ H s) (hv : Vals ys its) (hz : ys.length ≤ sizeLine) :
    Inv X pins σ (upd H s.heap.objs.size (.lst ys)) { s with heap := s.heap.push { cls := .type "list", data := .seq its.toArray }, toks := t' } :=
  I.laid (fun _ _ q => Heap.get?_push_of_some _ q) (Nat.le_refl _) ⟨hz, its, 0, hv, Heap.get?_push_size _ rfl⟩
theorem Inv.fresh (I : Inv X pins σ H s) : H s.heap.objs.size = none := I.hok.fresh (Nat.le_refl _)
theorem Inv.lstM (I : Inv X pins σ H s) (hH : H l = some (.lst xs)) : xs.length ≤ sizeLine ∧ ∃ (its : List Value) (n : Nat), Vals xs its ∧ xs.length = its.length ∧ s.heap.get? l = some { cls := .type "list", data := .seq its.toArray n } := by
  obtain ⟨z, its, n, r, e⟩ := I.hok l _ hH
  exact ⟨z, its, n, r, r.length, e⟩

theorem notLongL {n : Nat} (h : n ≤ sizeLine) : Builtin.List.listTooLong n = false := by
  unfold Builtin.List.listTooLong
  exact decide_eq_false (by omega)
end

section
variable {X : Cx}

/-! ### methods -/
def rAppend : V → List V → Hp → VK → Prop := fun x vs H Q => ∃ l xs y, x = .ref l ∧ vs = [y] ∧ H l = some (.lst xs) ∧ xs.length < sizeLine ∧ Q .non (upd H l (.lst (xs ++ [y])))
theorem mt_append : MtM X "list.append" rAppend := by
  intro pins s σ H x vs v us Q I rx rv h
  obtain ⟨l, xs, y, rfl, rfl, hH, hz, q⟩ := h
  cases rx
  obtain ⟨u, rfl, ru⟩ := rv.one
  obtain ⟨z, its, n, r, hl, e⟩ := I.lstM hH
  refine call_meets F.slot_list_append ⟨_, e, rfl⟩ F.entry_list_append (F.args_list_append_2 _ _) (PySem.list_append l its.toArray n u (by rw [List.size_toArray]; omega)) ⟨e, ?_⟩
  refine ⟨.non, _, I.lset (its' := its ++ [u]) hH e (by simp) (r.append (.cons ru .nil)) ?_, rfl, q⟩
  rw [List.length_append, List.length_singleton]
  omega

def rExtend : V → List V → Hp → VK → Prop := fun x vs H Q => ∃ l b xs zs, x = .ref l ∧ vs = [.ref b] ∧ H l = some (.lst xs) ∧ H b = some (.lst zs) ∧ xs.length + zs.length ≤ sizeLine ∧ Q .non (upd H l (.lst (xs ++ zs)))
theorem mt_extend : MtM X "list.extend" rExtend := by
  intro pins s σ H x vs v us Q I rx rv h
  obtain ⟨l, b, xs, zs, rfl, rfl, hH, hB, hz, q⟩ := h
  cases rx
  obtain ⟨u, rfl, ru⟩ := rv.one
  cases ru
  obtain ⟨z, its, n, r, hl, e⟩ := I.lstM hH
  obtain ⟨z2, its2, n2, r2, hl2, e2⟩ := I.lstM hB
  have hsz : its.toArray.size + its2.toArray.size ≤ sizeLine := by rw [List.size_toArray, List.size_toArray]; omega
  have hlong : ¬ (!its.toArray.isEmpty && Builtin.List.listTooLong (its.toArray.size + its2.toArray.size)) = true := by
    rw [notLongL hsz, Bool.and_false]
    exact Bool.false_ne_true
  refine call_meets F.slot_list_extend ⟨_, e, rfl⟩ F.entry_list_extend (F.args_list_extend_2 _ _)
    (AutoSeq1.list_extend_list_list_0 l its.toArray n b its2.toArray n2 hlong (by rw [List.size_toArray]; omega) (by omega)) ⟨e, e2, ?_⟩
  refine ⟨.non, _, I.lset (its' := its ++ its2) hH e (by simp) (r.append r2) ?_, rfl, q⟩
  rw [List.length_append]
  omega

def rPop : V → List V → Hp → VK → Prop := fun x vs H Q => ∃ l xs y, x = .ref l ∧ vs = [] ∧ H l = some (.lst xs) ∧ xs[xs.length - 1]? = some y ∧ Q y (upd H l (.lst xs.dropLast))
def rPopAt : V → List V → Hp → VK → Prop := fun x vs H Q => ∃ l xs i k y, x = .ref l ∧ vs = [.int i] ∧ H l = some (.lst xs) ∧ -(2 ^ 63) ≤ i ∧ i < 2 ^ 63 ∧ seqIndex? i xs.length = some k ∧ xs[k]? = some y ∧ Q y (upd H l (.lst (xs.eraseIdx k)))
def rReverse : V → List V → Hp → VK → Prop := fun x vs H Q => ∃ l xs, x = .ref l ∧ vs = [] ∧ H l = some (.lst xs) ∧ Q .non (upd H l (.lst xs.reverse))
def rClear : V → List V → Hp → VK → Prop := fun x vs H Q => ∃ l xs, x = .ref l ∧ vs = [] ∧ H l = some (.lst xs) ∧ Q .non (upd H l (.lst []))
/-! ### list + list, list += list, list * int -/
def rCat : R2 := fun x y H Q => ∃ l b xs zs, x = .ref l ∧ y = .ref b ∧ H l = some (.lst xs) ∧ H b = some (.lst zs) ∧ xs.length + zs.length ≤ sizeLine ∧ ∀ p, H p = none → Q (.ref p) (upd H p (.lst (xs ++ zs)))
theorem op_cat : OpR X (binaryOp .Add) rCat := by
  intro pins s σ H x y v u Q I rx ry h
  obtain ⟨l, b, xs, zs, rfl, rfl, hH, hB, hz, q⟩ := h
  cases rx
  cases ry
  obtain ⟨z, its, n, r, hl, e⟩ := I.lstM hH
  obtain ⟨z2, its2, n2, r2, hl2, e2⟩ := I.lstM hB
  refine PySem.P.add_list e e2 ?_ (by rw [List.size_toArray, List.size_toArray]; omega)
  have ea : its.toArray ++ its2.toArray = (its ++ its2).toArray := by simp
  rw [ea]
  exact ⟨.ref _, _, I.lnew (t' := s.toks) (r.append r2) (by rw [List.length_append]; omega), rfl, q _ I.fresh⟩
/-- a list times an int (a negative one is nothing) -/
def rRep : R2 := fun x y H Q => ∃ l k xs, x = .ref l ∧ y = .int k ∧ H l = some (.lst xs) ∧ -(2 ^ 63) ≤ k ∧ k < 2 ^ 63 ∧ xs.length * k.toNat ≤ sizeLine ∧
  ∀ p, H p = none → Q (.ref p) (upd H p (.lst (List.replicate k.toNat xs).flatten))
theorem len_rep {α : Type} (xs : List α) (k : Nat) : (List.replicate k xs).flatten.length = k * xs.length := by
  induction k with
  | zero => simp
  | succ k ih => rw [List.replicate_succ, List.flatten_cons, List.length_append, ih, Nat.succ_mul, Nat.add_comm]
/-! ### del xs[i] -/
end

/-! ### xs[a:b] = ys -/
section
variable {prog : Program} {w : World} {A : Around} {E : Value → Shared → Prop} {s : Shared}
end

section
variable {X : Cx}
end
end L2

namespace Att
open PySem PySem.W PySem.Calls PyProof.Rows

/-! ### the script -/
theorem ints_of_wellAll {P : Params} {h : Heap} : ∀ (ns : List Int) (vs : List Value), WellAll P h vs (ns.map WData.int) → IntsAre vs ns := by
  intro ns
  induction ns with
  | nil =>
    intro vs w
    rw [List.map_nil] at w
    cases w
    exact .nil
  | cons n ns ih =>
    intro vs w
    rw [List.map_cons] at w
    cases w with
    | cons a b =>
      cases a
      exact .cons _ _ (ih _ b)

theorem script_of {l : OpenLaw} {n : Nat} (hn : l.most = some n) {P : Params} {h : Heap} {args : List WData} {vals : List Value}
    (hpre : l.row.toRowW.claim.pre args = true) (hwl : WellAll P h vals args) :
    ∃ a vs ns, vals = [Value.ref a] ∧ args = [WData.list (ns.map WData.int)] ∧ h.get? a = some { cls := .type "list", data := .seq vs.toArray } ∧ IntsAre vs ns ∧ ns.length ≤ n := by
  have hsh : WShape.hasAll [] args [.list .int] = true := (pre_splitW hpre).1
  have hc : l.pre.holds [] { args := args } = true := (pre_splitW hpre).2
  obtain ⟨d, r, rfl, h1, h2⟩ := hasAllW_cons hsh
  obtain rfl := hasAllW_nil h2
  obtain ⟨xs, rfl, h3⟩ := hasW_list h1
  obtain ⟨ns, rfl⟩ := items_int h3
  have hlen : ns.length ≤ n := by
    unfold OpenLaw.pre at hc
    have h4 : (WTm.not (.lt (.lit (.int (n : Int))) (.len (.arg 0)))).holds [] { args := [.list (ns.map .int)] } = true := by
      have h4 := (holds_andW hc).1
      rw [hn] at h4
      exact h4
    have h5 := condW_of h4 (w_not (w_lt w_lit (w_len_list (w_arg rfl))))
    rw [List.length_map] at h5
    refine Nat.le_of_not_lt fun q => ?_
    have q' : (n : Int) < ((ns.length : Nat) : Int) := by omega
    first
      | (rw [decide_eq_true q'] at h5; exact absurd h5 (by decide))
      | (simp at h5; omega)
  cases hwl with
  | cons w1 w2 =>
    cases w2
    cases w1 with
    | list ho hall => exact ⟨_, _, ns, rfl, rfl, ho, ints_of_wellAll ns _ hall, hlen⟩

theorem post_true (l : OpenLaw) (args : List WData) : l.row.toRowW.claim.post args (.bool true) args = true :=
  postW_of (r := l.row.toRowW) (X := (true == true))
    (show WShape.has [] (.bool true) .bool = true by first | rfl | decide | simp [WShape.has, WShape.arms, WShape.armsAll])
    (show (WTm.eq .res (.lit (.bool true))).value [] { args := args, res := some (.bool true), after := args } = some (.bool (true == true)) from w_eq_bool (w_res rfl) w_lit) rfl

/-! ### the attachment: holds_open's last premise (the goal 'hc' behind k_head) from a wpAny of the law's body -/
/-- the same from a codeAny of the CALL (for a layer whose function contracts speak of calls) -/
theorem attach_call {l : OpenLaw} {n : Nat} {q : Program} {loose : List Str} {XP : (Str → Option Value) → Heap → Prop} {YP : World → Heap → Prop} {d : DefRec}
    (hn : l.most = some n) (hdf : d.params.defaults = [])
    (call : ∀ (w : World) (s₀ s₁ : Shared) (mg mb : Str → Option Value) (fa : Addr) (o : Obj) (pm cd doc : Value) (a : Addr) (vs : List Value) (ns : List Int),
      Ground q loose [] XP w s₀ mg mb s₁.heap → YP w s₁.heap →
      s₁.heap.get? fa = some o → o.data = .func (docDef d.name d.params d.body d.scope pm cd doc) → s₁.heap.CodeRec cd d.name → mg d.name = some (.ref fa) →
      s₁.heap.get? a = some { cls := .type "list", data := .seq vs.toArray } → IntsAre vs ns → ns.length ≤ n → s₁.gens = #[] →
      codeAny (model l.prog w) callerA (.call (.ref fa) ⟨[.ref a], []⟩) (fun r s' => r = .ok (.ret (.bool true)) ∧ OldK s₁.heap s'.heap ∧ s'.os = s₁.os ∧ AllBare s'.gens) s₁) :
    WalkO q loose XP YP l.row.toRowW d [] (fun f vs => PySem.call f vs) := by
  intro w s₀ s₁ mg mb G Y fa o pm cd doc dV kV ho hd hcd hD hmg hg args vals as hpre hlay hrd hwl hlo
  obtain rfl : dV = .none := Dflts.none hD hdf
  obtain rfl : kV = .none := Dflts.noKw hD
  obtain ⟨a, vs, ns, rfl, rfl, hobj, hints, hlen⟩ := script_of hn hpre hwl
  refine enter_call (codeAny_mono (call w s₀ s₁ mg mb fa o pm cd doc a vs ns G Y ho (fd_plain hd) hcd hmg hobj hints hlen hg) fun r s' hq => ?_)
  obtain ⟨rfl, h2, h3, h4⟩ := hq
  exact ⟨.inl ⟨.bool true, .bool true, [], rfl, fun _ => rfl, .bool true, post_true l _, fun _ => ⟨List.Pairwise.nil, fun _ hm => (nomatch hm)⟩⟩, h2, h3, h4⟩

/-! ### rules over ANY heap (no ledger) from facts about the written part K: the library's own take a ledger (News) for what they write -/
section
variable {prog : Program} {w : World} {A : Around} {E : Value → Shared → Prop} {s : Shared} {K : Frag}

/-! the whole heap as the ledger: makes every rule that writes through a ledger a rule over any heap -/
def noObjs (h : Heap) : Heap := { h with objs := #[] }
def ledger (h : Heap) (L d : Addr) : List (Addr × Obj) := (List.range h.objs.size).filterMap fun a => if a = L ∨ a = d then none else (h.get? a).map fun o => (a, o)
end
end Att

namespace L2
open PySem PySem.Spec PyProof.Rows

theorem vals_ints : ∀ {vs : List Value} {ns : List Int}, IntsAre vs ns → Vals (ns.map V.int) vs
  | _, _, .nil => .nil
  | _, _, .cons n t h => .cons ⟨t, rfl⟩ (vals_ints h)

/-- nothing is tracked but the script, known to the object (or it is an object of the module) -/
def Only (H : Hp) : Prop := ∀ b, H b = none ∨ ∃ o xs, H b = some (.frz o (.lst xs))

/-- THE HEAD: the law's promise, at the heap behind the top. F, the promise of the law's def, may use that base is part of the heap (so K.In base, base.Ns mainGlobals mg stand in Mod) -/
theorem law_call {P : Program} {w : World} {K : PySem.W.Frag} {mg mb : Str → Option Value} {CX : CXT} {k : Nat} {fa a : Addr} {fd : FuncData} {x : Str} {sp : Sp} {s₁ : Shared} {vs : List Value} {ns : List Int}
    (KX : K.In s₁.heap) (hns : s₁.heap.Ns mainGlobals mg) (hb : s₁.heap.Ns builtinsNs mb) (hbb : ∀ x : Str, x ≠ "__name__" → mb x = bootBuiltins x) (hlim : s₁.heap.NoLimit) (hg : s₁.gens = #[])
    (ha : s₁.heap.get? a = some { cls := .type "list", data := .seq vs.toArray }) (hi : IntsAre vs ns) (hl : ns.length ≤ sizeLine) (hr : Room k callerA)
    (F : ∀ base : Heap, K.In base → base.Ns mainGlobals mg → FnOk P w K mg base CX k fa fd [x] sp) (hbind : ∀ (s : Shared) (u : Value), BindsTo s fd ⟨[u], []⟩ [(x, u)])
    (hsp : ∀ H : Hp, Only H → SqL K H a (ns.map V.int) → sp [.ref a] H (fun v _ => v = .bl true) fun _ _ _ => False)
    (hCX : ∀ H e s', CX [] H s₁ (fun _ _ _ => False) e s' → False) :
    codeAny (model P w) callerA (.call (.ref fa) ⟨[.ref a], []⟩) (fun r s' => r = .ok (.ret (.bool true)) ∧ OldK s₁.heap s'.heap ∧ s'.os = s₁.os ∧ AllBare s'.gens) s₁ := by
  have rv := vals_ints hi
  have lenV := hi.length
  -- from an abstract heap in which nothing but the script may be tracked
  have core : ∀ H : Hp, Only H → SqL K H a (ns.map V.int) → HOk P w H s₁.heap → (∀ b, H b ≠ none → b = a) → (H a ≠ none → K.lookup a = none) →
      codeAny (model P w) callerA (.call (.ref fa) ⟨[.ref a], []⟩) (fun r s' => r = .ok (.ret (.bool true)) ∧ OldK s₁.heap s'.heap ∧ s'.os = s₁.os ∧ AllBare s'.gens) s₁ := by
    intro H hO hS hok hA hK
    have base_of : ∀ {b : Addr} {o : Obj}, s₁.heap.get? b = some o → H b = none → (hidT s₁.heap H).get? b = some o := fun e n => hidT_get e n
    have noA : ∀ {b : Addr} {o : Obj} {es : Array DictEntry} {ep : Nat}, s₁.heap.get? b = some o → o.data = .dict es ep → H b = none := fun {b o es ep} e d => by
      cases q : H b with
      | none => rfl
      | some u =>
        have e' : b = a := hA b (by rw [q]; simp)
        subst e'
        rw [ha] at e; cases e
        have d' : Data.seq vs.toArray _ = Data.dict es ep := d
        cases d'
    have nsK : ∀ {b : Addr} {m : Str → Option Value}, s₁.heap.Ns b m → (hidT s₁.heap H).Ns b m := fun {b m} ⟨o, es, ep, e, d, r⟩ => ⟨o, es, ep, base_of e (noA e d), d, r⟩
    have hKb : K.In (hidT s₁.heap H) := fun b o e => base_of (KX b o e) (by
      cases q : H b with
      | none => rfl
      | some u =>
        have e' : b = a := hA b (by rw [q]; simp)
        subst e'
        rw [hK (by rw [q]; simp)] at e; cases e)
    have hM : Mod K mg (hidT s₁.heap H) := ⟨hKb, nsK hns, ⟨mb, nsK hb, hbb⟩, let ⟨mc, h1, h2⟩ := hlim; ⟨mc, nsK h1, h2⟩⟩
    have e0 : Env0 P w K mg (hidT s₁.heap H) callerA [] s₁ H := ⟨rfl, hM, fun b o e => of_hidT e, Nat.le_of_eq (hidT_size _ _), trivial, fun b hb => absurd (show b ∈ ([] : List Addr) from hb) (by simp), hok, .of_eq hg⟩
    refine codeAny_mono ((F _ hKb (nsK hns)).run callerA [] s₁ H ⟨[.ref a], []⟩ [.ref a] [.ref a] _ _ hr e0 (hbind s₁ (.ref a)) (.cons rfl .nil) (hsp H hO hS)) fun r s' h => ?_
    cases r with
    | error e => exact (hCX H e s' h).elim
    | ok fl =>
      cases fl with
      | next => exact False.elim h
      | brk => exact False.elim h
      | cont => exact False.elim h
      | ret u =>
        obtain ⟨v, H', os, bare, un, hok', r', q⟩ := h
        have q' : v = .bl true := q
        subst q'
        obtain rfl : u = Value.bool true := r'
        refine ⟨rfl, OldK.of_keep fun b o e => ?_, os, bare⟩
        cases q : H b with
        | none => exact un.keep b o e q (by intro z; exact absurd (show b ∈ ([] : List Addr) from z) (by simp)) (by simp)
        | some u =>
          rcases hO b with z | ⟨ob, xs, z⟩
          · rw [q] at z; cases z
          · have z2 := un.frzs b ob _ z
            obtain ⟨e1, _⟩ := hok b _ z
            obtain ⟨e2, _⟩ := hok' b _ z2
            rw [e] at e1; cases e1
            exact e2
  cases hk : K.lookup a with
  | some o =>
    -- the script is one of the module's own objects
    have e := KX a o hk
    rw [ha] at e
    cases e
    refine core (fun _ => none) (fun _ => .inl rfl) (.inr ⟨_, vs.toArray, _, hk, rfl, rfl, rfl, by rw [List.size_toArray, lenV]; exact hl, by simpa using rv⟩) (fun b u z => by have z' : (none : Option HO) = some u := z; cases z') (fun b z => absurd rfl z) fun z => absurd rfl z
  | none =>
    refine core (fun b => if b = a then some (.frz { cls := .type "list", data := .seq vs.toArray } (.lst (ns.map V.int))) else none) (fun b => ?_) (.inl (.inr ⟨{ cls := .type "list", data := .seq vs.toArray }, if_pos rfl⟩)) (fun b u z => ?_) (fun b z => ?_) fun _ => hk
    · by_cases hb : b = a
      · exact .inr ⟨_, _, if_pos hb⟩
      · exact .inl (if_neg hb)
    · by_cases hb : b = a
      · have z' := (if_pos hb).symm.trans z
        cases z'
        subst hb
        exact ⟨ha, by rw [List.length_map]; exact hl, vs, _, rv, ha⟩
      · have z' := (if_neg hb).symm.trans z
        cases z'
    · by_cases hb : b = a
      · exact hb
      · exact absurd (if_neg hb) z
end L2

namespace L2
open PySem PySem.Spec PyProof.Rows

abbrev KOf {K : PySem.W.Frag} {h : Heap} (_ : K.In h) : PySem.W.Frag := K

/-- the goal that k_head leaves (case hc), from the law's promise. F gives the function object fd (K's own) once, then the promise over every base -/
theorem walk_of {l : PySem.W.OpenLaw} {n k : Nat} {q : Program} {loose : List Str} {XP : (Str → Option Value) → Heap → Prop} {YP : World → Heap → Prop} {d : DefRec} {K : Params → PySem.W.Frag} {CX : World → CXT} {sp : World → Sp} {x : Str}
    (hn : l.most = some n) (hn2 : n ≤ sizeLine) (hdf : d.params.defaults = []) (hr : Room k callerA)
    (hY : ∀ (w : World) (h : Heap), YP w h → (K w.params).In h)
    (F : ∀ (w : World) (mg : Str → Option Value) (fa : Addr) (h : Heap), (K w.params).In h → h.Ns mainGlobals mg → mg d.name = some (.ref fa) →
      ∃ fd : FuncData, (∀ (s : Shared) (u : Value), BindsTo s fd ⟨[u], []⟩ [(x, u)]) ∧
        ∀ base : Heap, (K w.params).In base → base.Ns mainGlobals mg → FnOk l.prog w (K w.params) mg base (CX w) k fa fd [x] (sp w))
    (hsp : ∀ (w : World) (H : Hp) (a : Addr) (ns : List Int), ns.length ≤ n → Only H → SqL (K w.params) H a (ns.map V.int) → sp w [.ref a] H (fun v _ => v = .bl true) fun _ _ _ => False)
    (hCX : ∀ (w : World) (H : Hp) (s : Shared) (e : Value) (s' : Shared), CX w [] H s (fun _ _ _ => False) e s' → False) :
    PySem.W.WalkO q loose XP YP l.row.toRowW d [] (fun f vs => PySem.call f vs) := by
  refine Att.attach_call hn hdf fun w s₀ s₁ mg mb fa o pm cd doc a vs ns G Y ho hd hcd hmg hobj hints hlen hg => ?_
  have KX := hY w _ Y
  obtain ⟨fd, hb, hF⟩ := F w mg fa _ KX G.T.g hmg
  exact law_call KX G.T.g G.T.b G.T.builtins G.T.nolimit hg hobj hints (Nat.le_trans hlen hn2) hr hF hb (fun H hO hS => hsp w H a ns hlen hO hS) fun H e s' => hCX w H s₁ e s'
/-- the same where the promise hangs on the written part alone: (sp := My.sp_law), no hole under a binder -/
theorem walk_ofK {l : PySem.W.OpenLaw} {n k : Nat} {q : Program} {loose : List Str} {XP : (Str → Option Value) → Heap → Prop} {YP : World → Heap → Prop} {d : DefRec} {K : Params → PySem.W.Frag} {CX : CXT} {sp : PySem.W.Frag → Sp} {x : Str}
    (hn : l.most = some n) (hn2 : n ≤ sizeLine) (hdf : d.params.defaults = []) (hr : Room k callerA)
    (hY : ∀ (w : World) (h : Heap), YP w h → (K w.params).In h)
    (F : ∀ (w : World) (mg : Str → Option Value) (fa : Addr) (h : Heap), (K w.params).In h → h.Ns mainGlobals mg → mg d.name = some (.ref fa) →
      ∃ fd : FuncData, (∀ (s : Shared) (u : Value), BindsTo s fd ⟨[u], []⟩ [(x, u)]) ∧
        ∀ base : Heap, (K w.params).In base → base.Ns mainGlobals mg → FnOk l.prog w (K w.params) mg base CX k fa fd [x] (sp (K w.params)))
    (hsp : ∀ (K : PySem.W.Frag) (H : Hp) (a : Addr) (ns : List Int), ns.length ≤ n → Only H → SqL K H a (ns.map V.int) → sp K [.ref a] H (fun v _ => v = .bl true) fun _ _ _ => False)
    (hCX : ∀ (H : Hp) (s : Shared) (e : Value) (s' : Shared), CX [] H s (fun _ _ _ => False) e s' → False) :
    PySem.W.WalkO q loose XP YP l.row.toRowW d [] (fun f vs => PySem.call f vs) :=
  walk_of (K := K) (CX := fun _ => CX) (sp := fun w => sp (K w.params)) hn hn2 hdf hr hY F (fun w H a ns h1 h2 h3 => hsp (K w.params) H a ns h1 h2 h3) fun _ H s e s' => hCX H s e s'
end L2

/- THE LAST THEOREM (shape; LID, My.* are yours):
   My.Adr: a structure of the addresses that your layer names (classes, functions); My.Txt K t: a structure (Prop) of the equations over K;
   My.txt_mk : {K} {implicit addresses ..} (e1 : nsIn K mainGlobals "law" = some (some (.ref f))) (e2 : K.lookup f = some ⟨oc, od, .func (fnOf "law" "law" params body scope dV kV doc pm an cdv ct), sl⟩) (e3 : codeIn K cdv "law" = true) .. : ∃ t, My.Txt K t

set_option maxRecDepth 100000 in
set_option maxHeartbeats 0 in
theorem PySem.Challenge.cw_LID_holds : PySem.Challenge.rw_LID.Holds := by
  w_on; o_law; k_head; (case hw => w_witness2)
  k_fill
  refine L2.walk_of (l := PySem.Challenge.rw_LID) (n := 63) (k := 40) (x := "script") (CX := fun w => ..) (sp := fun _ => My.sp_law) rfl (by decide) rfl ⟨rfl, by decide, by decide⟩ (fun w h Y => PySem.W.kIn_of Y) ?F ?S ?C
  case F =>
    intro w mg fa h KX G hmg
    have T : ∃ t, My.Txt (L2.KOf KX) t := by
      dsimp only [L2.KOf]                          -- K must stand as «<heap const> w.params» for k_is
      refine' My.txt_mk ?e1 ?e2 ?e3 ..
      (case e1 => PySem.W.k_is)                    -- in the order: a name -> its address -> its object -> its parts
      (case e2 => PySem.W.k_is)
      ..
    obtain ⟨t, T⟩ := T
    have e0 := hmg.symm.trans (PySem.W.mg_of KX G T.law)
    cases e0                                       -- fa is the law's own address
    exact ⟨_, fun s u => .of_eq rfl, fun base kb nb => My.law_fn T kb nb⟩     -- if «.of_eq rfl» comes too early: refine' ⟨_, ?b, fun base kb nb => My.law_fn T kb nb⟩; exact fun s u => .of_eq rfl
  case S => exact fun w H a ns hl hO hS => ..
  case C => exact ..
(the tactic k_is has no namespace: write k_is) -/

/-! SHORT WORDS over the layer: a def of the text, its body, what a loop and a test want. -/
namespace L2
open PySem PySem.Spec PyProof.Rows

/-! ### the text by places -/
/-- the j-th statement of a class's body -/
def inClass (s : Stmt) (j : Nat) : Stmt := match s with
  | .ClassDef _ _ _ body _ _ _ _ _ _ _ => body.getD j (.Pass ⟨0, 0, 0, 0⟩)
  | _ => .Pass ⟨0, 0, 0, 0⟩
def defArgs (s : Stmt) : Arguments := match s with
  | .FunctionDef _ a _ _ _ _ _ _ _ _ => a
  | _ => { posonlyargs := [], args := [], vararg := none, kwonlyargs := [], kw_defaults := [], kwarg := none, defaults := [] }
def defBody (s : Stmt) : List Stmt := match s with
  | .FunctionDef _ _ b _ _ _ _ _ _ _ => b
  | _ => []
def defScope (s : Stmt) : Scope := match s with
  | .FunctionDef _ _ _ _ _ _ sc _ _ _ => sc
  | _ => { kind := .function, names := [], isGenerator := false, isCoroutine := false }

/-! ### no exception leaves a def -/
abbrev CX0 : CXT := fun _ _ _ _ _ _ => False
abbrev E0 : XK := fun _ _ _ => False
theorem pass0 {X : Cx} : Passes CX0 X E0 := fun _ _ _ _ _ _ _ h => h.elim

/-! ### a def (or method) of the text as it stands behind the top -/
structure Fun (K : PySem.W.Frag) (x qual : Str) (st : Stmt) (f : Addr) (fd : FuncData) : Prop where
  ex : ∃ (oc : Value) (od : Option Addr) (kV doc pm : Value) (an : Option Addr) (cdv ct : Value) (osl : Array (Option Value)),
    fd = PySem.W.fnOf x qual (defArgs st) (defBody st) (defScope st) .none kV doc pm an cdv ct ∧ K.lookup f = some ⟨oc, od, .func fd, osl⟩ ∧ PySem.W.codeIn K cdv qual = true
  kp : PySem.W.keepIn K (.ref f) = true
section
variable {P : Program} {w : World} {K : PySem.W.Frag} {mg : Str → Option Value} {base : Heap}
/-- THE RULE for a def: its body as a term of rules, and the reading of that term -/
theorem Fun.ok {x qual : Str} {st : Stmt} {f : Addr} {fd : FuncData} {N ps : List Str} {k : Nat} {sp : Sp} (F : Fun K x qual st f fd) (S : FnScope N ps (defScope st)) (len : ∀ vs H Q E, sp vs H Q E → vs.length = ps.length)
    (hbody : ∀ (cdv : Value) (A : Around) (outer : List Env) (s : Shared) (H : Hp) (vs : List V) (Q : VK) (E : XK), Room k (A.deeper (envOfC qual (defScope st) s.heap.objs.size f cdv)) → sp vs H Q E →
      ∃ t, PSs (cxOf CX0 P w K mg base N qual (defScope st) f cdv A outer s H E).nox (defBody st) t ∧ t { nx := fun _ H' => Q .non H', rt := Q } (start N vs) H) : FnOk P w K mg base CX0 (k + 1) f fd ps sp := by
  obtain ⟨oc, od, kV, doc, pm, an, cdv, ct, osl, rfl, lk, hcd⟩ := F.ex
  refine fn_of lk hcd S len fun A outer s H vs Q E hr hsp => ?_
  obtain ⟨t, h, q⟩ := hbody cdv A outer s H vs Q E hr hsp
  exact ⟨t, h.nox, q⟩
/-- how its arguments bind (no defaults): h is «fun _ _ _ _ _ _ us hl => match us, hl with | [_, _], _ => rfl», one _ a parameter -/
theorem Fun.binds {x qual : Str} {st : Stmt} {f : Addr} {fd : FuncData} {ps : List Str} (F : Fun K x qual st f fd)
    (h : ∀ (kV doc pm : Value) (an : Option Addr) (cdv ct : Value) (us : List Value), us.length = ps.length → bindArgs (PySem.W.fnOf x qual (defArgs st) (defBody st) (defScope st) .none kV doc pm an cdv ct) ⟨us, []⟩ = pure (ps.zip us)) : Binds K fd ps [] := by
  obtain ⟨oc, od, kV, doc, pm, an, cdv, ct, osl, rfl, lk, hcd⟩ := F.ex
  exact .all (h kV doc pm an cdv ct)
theorem fun_mk {x qual : Str} {st : Stmt} {f : Addr} {oc : Value} {od an : Option Addr} {osl : Array (Option Value)} {kV doc pm cdv ct : Value} (l : K.lookup f = some ⟨oc, od, .func (PySem.W.fnOf x qual (defArgs st) (defBody st) (defScope st) .none kV doc pm an cdv ct), osl⟩)
    (c : PySem.W.codeIn K cdv qual = true) (k : PySem.W.keepIn K (.ref f) = true) : Fun K x qual st f (PySem.W.fnOf x qual (defArgs st) (defBody st) (defScope st) .none kV doc pm an cdv ct) := ⟨⟨oc, od, kV, doc, pm, an, cdv, ct, osl, rfl, l, c⟩, k⟩
end
theorem small1000 {n : Nat} (h : n ≤ 1000) : n < sizeLine := Nat.lt_of_le_of_lt h (by decide)

/-! ### expressions in short: the name that stands in the i-th slot -/
section
variable {X : Cx}
theorem pv (i : Nat) {x : Str} {pos : Pos} (hN : X.N[i]? = some x := by rfl) (hv : Vis X.env.scope x := by first | exact Or.inl rfl | exact Or.inr (Or.inl rfl) | exact Or.inr (Or.inr rfl)) (hd : (x == ("__debug__" : Str)) = false := by decide)
    (hcd : (x == ("__classdict__" : Str)) = false := by decide) : PE X (.Name x pos) (tVar i) := pe_var hN hv hd hcd
end

/-! ### tests -/
theorem iteF {A B : Prop} (h : B) : if false = true then A else B := by
  rw [if_neg Bool.false_ne_true]
  exact h
theorem iteT {A B : Prop} (h : A) : if true = true then A else B := by
  rw [if_pos rfl]
  exact h
theorem iteNS {c A B : Prop} [Decidable c] (hc : c) (h : B) : if (!decide c) = true then A else B := by
  rw [decide_eq_true hc]
  exact iteF h

/-! ### heaps -/
/-- all that was tracked is as it was -/
def Same (H H' : Hp) : Prop := ∀ b o, H b = some o → H' b = some o
theorem Same.refl (H : Hp) : Same H H := fun _ _ h => h
theorem Same.trans {H H1 H2 : Hp} (a : Same H H1) (b : Same H1 H2) : Same H H2 := fun c o h => b c o (a c o h)
theorem Same.free {H H' : Hp} (e : Same H H') {l : Addr} (h : H' l = Option.none) : H l = Option.none := by
  cases q : H l with
  | none => rfl
  | some o =>
    rw [e l o q] at h
    cases h
theorem Same.seq {K : PySem.W.Frag} {H H' : Hp} {a : Addr} {xs : List V} (e : Same H H') (h : SqL K H a xs) : SqL K H' a xs := by
  rcases h with (h | ⟨o, h⟩) | h
  · exact .inl (.inl (e _ _ h))
  · exact .inl (.inr ⟨o, e _ _ h⟩)
  · exact .inr h

end L2

set_option Elab.async false
set_option linter.all false
set_option maxRecDepth 100000
namespace L2
open PySem PySem.Spec PyProof.Rows

/-! ### list comprehensions: one clause, a name as its target, at most one test; no exception leaves it -/
theorem closure_is {scope : Scope} {env : Env} (h : ∀ y ∈ scope.names, y.2 = .free → ∃ c, env.cells.lookup y.1 = some c) :
    ∃ cl, closureFor scope env = pure cl ∧ (∀ x c, cl.lookup x = some c → env.cells.lookup x = some c ∧ (x, NameKind.free) ∈ scope.names) ∧
      ∀ x, (x, NameKind.free) ∈ scope.names → cl.lookup x = env.cells.lookup x := by
  have key : ∀ (l : List (Str × NameKind)) (cs : List (Str × Addr)), (∀ y ∈ l, y.2 = .free → ∃ c, env.cells.lookup y.1 = some c) →
      ∃ cl, (forIn l cs (fun (x : Str × NameKind) (cs : List (Str × Addr)) => do
          if x.2 == .free then
            let c ← cellOf env x.1
            pure (ForInStep.yield ((x.1, c) :: cs))
          else pure (ForInStep.yield cs)) : Sem (List (Str × Addr))) = pure cl ∧
        (∀ x c, cl.lookup x = some c → (env.cells.lookup x = some c ∧ (x, NameKind.free) ∈ l) ∨ cs.lookup x = some c) ∧
        ∀ x, ((x, NameKind.free) ∈ l → cl.lookup x = env.cells.lookup x) ∧ ((cs.lookup x = env.cells.lookup x) → cl.lookup x = env.cells.lookup x) := by
    intro l
    induction l with
    | nil => intro cs _; exact ⟨cs, rfl, fun x c e => .inr e, fun x => ⟨fun z => absurd z (by simp), fun z => z⟩⟩
    | cons y r ih =>
      intro cs hl
      obtain ⟨n, k⟩ := y
      by_cases hk : k = .free
      · subst hk
        obtain ⟨c, hc⟩ := hl (n, .free) List.mem_cons_self rfl
        obtain ⟨cl, e1, e2, e3⟩ := ih ((n, c) :: cs) fun y hy => hl y (List.mem_cons_of_mem _ hy)
        refine ⟨cl, ?_, fun x d e => ?_, fun x => ⟨fun z => ?_, fun z => ?_⟩⟩
        · rw [List.forIn_cons]
          simp only [beq_self_eq_true, if_true, cellOf, hc]
          exact e1
        · rcases e2 x d e with ⟨z1, z2⟩ | z
          · exact .inl ⟨z1, List.mem_cons_of_mem _ z2⟩
          · rw [List.lookup_cons] at z
            by_cases hx : x == n
            · rw [hx] at z
              have hx' : x = n := by simpa using hx
              subst hx'
              refine .inl ⟨?_, List.mem_cons_self⟩
              rw [hc]; exact z
            · have hx' : (x == n) = false := by simpa using hx
              rw [hx'] at z
              exact .inr z
        · rcases List.mem_cons.mp z with z | z
          · injection z with z1 _
            subst z1
            refine (e3 x).2 ?_
            rw [List.lookup_cons, hc]
            simp
          · exact (e3 x).1 z
        · by_cases hx : x = n
          · subst hx
            refine (e3 x).2 ?_
            rw [List.lookup_cons, hc]
            simp
          · refine (e3 x).2 ?_
            rw [List.lookup_cons]
            have hx' : (x == n) = false := by simpa using hx
            rw [hx']
            exact z
      · obtain ⟨cl, e1, e2, e3⟩ := ih cs fun y hy => hl y (List.mem_cons_of_mem _ hy)
        have hb : (k == NameKind.free) = false := by simpa using hk
        refine ⟨cl, ?_, fun x d e => ?_, fun x => ⟨fun z => ?_, (e3 x).2⟩⟩
        · rw [List.forIn_cons]
          simp only [hb, Bool.false_eq_true, if_false]
          exact e1
        · rcases e2 x d e with ⟨z1, z2⟩ | z
          · exact .inl ⟨z1, List.mem_cons_of_mem _ z2⟩
          · exact .inr z
        · rcases List.mem_cons.mp z with z | z
          · injection z with _ z2
            exact absurd z2.symm hk
          · exact (e3 x).1 z
  obtain ⟨cl, e1, e2, e3⟩ := key scope.names [] h
  refine ⟨cl, ?_, fun x c e => ?_, fun x z => (e3 x).1 z⟩
  · unfold closureFor
    have := e1
    simpa using this
  · rcases e2 x c e with z | z
    · exact z
    · simp at z

theorem lookup_relabel {env : Env} (hk : env.scope.kind = .function) : ∀ {names : List (Str × NameKind)} {x : Str} {k : NameKind}, names.lookup x = some k → k ≠ .free →
    (names.map fun (n, k) => if (k == NameKind.free && env.scope.kind == .function && env.kindOf n == some .cell) then (n, NameKind.cell) else (n, k)).lookup x = some k
  | [], _, _, h, _ => by simp at h
  | (n, k') :: r, x, k, h, hf => by
    have ih := @lookup_relabel env hk r x k
    show List.lookup x ((if (k' == NameKind.free && env.scope.kind == .function && env.kindOf n == some .cell) = true then (n, NameKind.cell) else (n, k')) :: _) = _
    cases hx : x == n with
    | true =>
      simp only [List.lookup_cons, hx] at h
      cases h
      have : (k' == NameKind.free) = false := by simpa using hf
      simp [List.lookup_cons, hx, this]
    | false =>
      simp only [List.lookup_cons, hx] at h
      by_cases hc : (k' == NameKind.free && env.scope.kind == .function && env.kindOf n == some .cell) = true
      · rw [if_pos hc]; simp only [List.lookup_cons, hx]; exact ih h hf
      · rw [if_neg hc]; simp only [List.lookup_cons, hx]; exact ih h hf
theorem lookup_relabel_free {env : Env} (hk : env.scope.kind = .function) : ∀ {names : List (Str × NameKind)} {x : Str}, names.lookup x = some .free → env.kindOf x = some .cell →
    (names.map fun (n, k) => if (k == NameKind.free && env.scope.kind == .function && env.kindOf n == some .cell) then (n, NameKind.cell) else (n, k)).lookup x = some .cell
  | [], _, h, _ => by simp at h
  | (n, k') :: r, x, h, hc => by
    have ih := @lookup_relabel_free env hk r x
    show List.lookup x ((if (k' == NameKind.free && env.scope.kind == .function && env.kindOf n == some .cell) = true then (n, NameKind.cell) else (n, k')) :: _) = _
    cases hx : x == n with
    | true =>
      simp only [List.lookup_cons, hx] at h
      cases h
      have hxn : x = n := by simpa using hx
      subst hxn
      simp [List.lookup_cons, hk, hc]
    | false =>
      simp only [List.lookup_cons, hx] at h
      by_cases hd : (k' == NameKind.free && env.scope.kind == .function && env.kindOf n == some .cell) = true
      · rw [if_pos hd]; simp only [List.lookup_cons, hx]; exact ih h hc
      · rw [if_neg hd]; simp only [List.lookup_cons, hx]; exact ih h hc

/-- the context of a comprehension's block; Nc: its own name, then the names it takes from around it -/
def cxComp (X : Cx) (Nc : List Str) (scope : Scope) (cl : List (Str × Addr)) (C : Addr) (fp : List Addr) (s : Shared) (H : Hp) : Cx where
  prog := X.prog
  w := X.w
  K := X.K
  mg := X.mg
  base := X.base
  A := X.A
  N := Nc
  s₀ := s
  H₀ := H
  env := compEnvC scope cl C X.env
  outer := X.stack
  stack := X.stack
  ex := fp
  fn := fun _ => false
  calm := X.calm
  pn := []
  xe := fun _ _ => False

/-- the slots of the names that are taken from around: their values -/
def capV (σ : St) (caps : List Nat) : St := caps.map fun j => (σ[j]?).join

structure CompOk (X : Cx) (x : Str) (Nc : List Str) (caps : List Nat) (scope : Scope) : Prop where
  kind : scope.kind = .function
  cell : ∀ y ∈ scope.names, y.2 ≠ .cell
  names : ∀ y ∈ scope.names, y.2 = .local → scope.names.lookup y.1 = some .local
  fr : ∀ y ∈ scope.names, y.2 = .free → X.env.scope.names.lookup y.1 = some .cell ∧ scope.names.lookup y.1 = some .free
  loc : scope.names.lookup x = some .local
  len : Nc.length = caps.length + 1
  hd : Nc[0]? = some x
  nd : Nc.Nodup
  cap : ∀ k j, caps[k]? = some j → ∃ y, Nc[k + 1]? = some y ∧ X.N[j]? = some y ∧ scope.names.lookup y = some .free

theorem compLoop_any {prog : Program} {w : World} {A : Around} {R : Result → Shared → Prop} {s : Shared} {elt target iter : Expr} {ifs : List Expr} {scope : Scope} {pos : Pos} {it acc : Value} {env : Env} (I : Nat → Shared → Prop)
    (turn : ∀ n s, I n s → wpAny (model prog w) A (pyNext it) (fun r s₁ => match r with
      | none => R (.ok .next) s₁
      | some v => wpAny (model prog w) A (letOwnedTupleGo target it v) (fun _ s1' => wpAny (model prog w) A (assign target env v) (fun _ s₂ =>
          wpAny (model prog w) A (forIn ifs true fun c r => if r = true then do let ok ← isTrue c env (eval c env); pure (ForInStep.yield ok) else pure (ForInStep.yield r)) (fun ok s₃ =>
            if ok = true then wpAny (model prog w) A (eval elt env) (fun x s₄ =>
              wpAny (model prog w) A (call (.builtin "list.append") [acc, x]) (fun _ s₅ => ∃ m, m < n ∧ I m s₅) (notedBy (model prog w) A env fun e s' => R (.error e) s') s₄) (notedBy (model prog w) A env fun e s' => R (.error e) s') s₃
            else ∃ m, m < n ∧ I m s₃) (notedBy (model prog w) A env fun e s' => R (.error e) s') s₂) (notedBy (model prog w) A env fun e s' => R (.error e) s') s1') (notedBy (model prog w) A env fun e s' => R (.error e) s') s₁) (notedBy (model prog w) A env fun e s' => R (.error e) s') s)
    (n : Nat) (h : I n s) :
    codeAny (model prog w) A (.compLoop (.ListComp elt [⟨target, iter, ifs, 0⟩] scope pos) 0 it acc env) R s := by
  refine codeAny_loop rfl I (fun n s hI => ?_) n h
  show wpAny _ A ((compTurn (.ListComp elt [⟨target, iter, ifs, 0⟩] scope pos) 0 it acc env).onRaise (fun x => do noteFrame x env; theTreesLotGoes x)) _ _ s
  refine wpAny_noted ?_
  rw [compTurn_list]
  refine wpAny_bind (wpAny_standAt (wpAny_bind (wpAny_mono (turn n s hI) (fun r s₁ h₁ => ?_) fun _ _ h' => h')))
  cases r with
  | none => exact wpAny_pure h₁
  | some v =>
    refine wpAny_bind (wpAny_mono h₁ (fun _ s1' h₁ => ?_) fun _ _ h' => h')
    refine wpAny_bind (wpAny_mono h₁ (fun _ s₂ h₂ => wpAny_bind (wpAny_mono h₂ (fun ok s₃ h₃ => ?_) fun _ _ h' => h')) fun _ _ h' => h')
    cases ok with
    | false => exact wpAny_pure ⟨rfl, h₃⟩
    | true =>
      exact wpAny_bind (wpAny_bind (wpAny_mono h₃ (fun x s₄ h₄ => wpAny_bind (wpAny_mono h₄ (fun _ s₅ h₅ => wpAny_pure (wpAny_pure ⟨rfl, h₅⟩)) fun _ _ h' => h')) fun _ _ h' => h'))

/-- the test, where there is one -/
def tNoTest : TT := fun _ H Q => Q true H
inductive PIf (X : Cx) : List Expr → TT → Prop where
  | nil : PIf X [] tNoTest
  | one {c : Expr} {t : TT} (h : PT X c t) : PIf X [c] t
theorem PIf.run {X : Cx} {ifs : List Expr} {t : TT} (h : PIf X ifs t) {pins : List (Addr × Obj)} {s : Shared} {σ : St} {H : Hp} {Q : Bool → Hp → Prop} (I : Inv X pins σ H s) (ht : t σ H Q) :
    wpAny (model X.prog X.w) X.A (forIn ifs true fun c r => if r = true then do let ok ← isTrue c X.env (eval c X.env); pure (ForInStep.yield ok) else pure (ForInStep.yield r)) (TP X pins σ Q) X.xe s := by
  cases h with
  | nil => exact wpAny_tests_nil ⟨H, I, ht⟩
  | one h => exact wpAny_tests_one (h pins s σ H Q I ht)

/-- the reading: W by the turn, a measure, what is made so far -/
def tCompW (caps : List Nat) (tc : TT) (te : TE) (J : It) (σ : St) (H : Hp) (Q : VK) : Prop :=
  ∃ W : Nat → Nat → List V → Hp → Prop, (∃ m, W 0 m [] H) ∧ ∀ i m ys H, W i m ys H →
    (J.stop i H ∧ ys.length ≤ sizeLine ∧ ∀ p, H p = none → Q (.ref p) (upd H p (.lst ys))) ∨
    (J.go i H ∧ ys.length < sizeLine ∧ ∀ x H', J.yld i H x H' → tc (some x :: capV σ caps) H' fun b H2 =>
      if b = true then te (some x :: capV σ caps) H2 fun y H3 => ∃ m', m' < m ∧ W (i + 1) m' (ys ++ [y]) H3 else ∃ m', m' < m ∧ W (i + 1) m' ys H2)
def tComp (wi : TI) (caps : List Nat) (tc : TT) (te : TE) : TE := fun σ H Q => wi σ H fun J H1 => tCompW caps tc te J σ H1 Q

section
variable {X : Cx} {pins : List (Addr × Obj)} {σ : St} {H : Hp} {s : Shared}

theorem Un.track {fs ex : List Addr} {H H' : Hp} {h h' : Heap} {a : Addr} {o : HO} (u : Un fs ex H H' h h') (ha : h.objs.size ≤ a) (hn : H' a = none) : Un fs ex H (upd H' a o) h h' where
  keep := u.keep
  slot := u.slot
  free := fun b ob q n hx => by rw [upd_ne (Nat.ne_of_lt (Nat.lt_of_lt_of_le (Heap.lt_size q) ha))]; exact u.free b ob q n hx
  there := u.there
  tups := fun b xs q => by rw [upd_ne (ne_of_none (u.tups b xs q) hn)]; exact u.tups b xs q
  frzs := fun b ob xs q => by rw [upd_ne (ne_of_none (u.frzs b ob xs q) hn)]; exact u.frzs b ob xs q
  tbls := fun b ps q => by
    obtain ⟨m, e⟩ := u.tbls b ps q
    exact ⟨m, by rw [upd_ne (ne_of_none e hn)]; exact e⟩
theorem HOk.track {P : Program} {w : World} {H : Hp} {h : Heap} {a : Addr} {o : HO} (x : HOk P w H h) (hn : H a = none) (new : ObjOk P w (upd H a o) h a o) : HOk P w (upd H a o) h := fun b u e => by
  by_cases hb : b = a
  · subst hb; rw [upd_same] at e; cases e; exact new
  · rw [upd_ne hb] at e
    exact (x b u e).stay (fun c v _ q => q) (fun c q => by rw [upd_ne (ne_of_none q hn)]; exact q) fun c xs q => by rw [upd_ne (ne_of_none q hn)]; exact q

/-- the block's context is good -/
theorem comp_ok {x : Str} {Nc : List Str} {caps : List Nat} {scope : Scope} {cl : List (Str × Addr)} {C : Addr} {fp : List Addr} (I : Inv X pins σ H s) (O : CompOk X x Nc caps scope)
    (hcl : ∀ x c, cl.lookup x = some c → X.env.cells.lookup x = some c ∧ (x, NameKind.free) ∈ scope.names) (hcl2 : ∀ x, (x, NameKind.free) ∈ scope.names → cl.lookup x = X.env.cells.lookup x)
    (hC : s.heap.objs.size ≤ C) (hfp : ∀ b ∈ fp, FpOk X pins H b) (hfo : ∀ b ∈ fp, b < s.heap.objs.size) : (cxComp X Nc scope cl C fp s H).Ok where
  mod := I.ok.mod
  kind := O.kind
  glob := I.ok.glob
  blt := I.ok.blt
  above := hC
  inj := fun a b c e1 e2 => I.ok.inj a b c (hcl a c e1).1 (hcl b c e2).1
  has := fun y hy => by
    have mem : (y, NameKind.free) ∈ scope.names := by
      have hy' : ((relabel scope X.env).names.lookup y = some .cell) ∨ ((relabel scope X.env).names.lookup y = some .free) := hy
      have hm : ∃ k, (y, k) ∈ (relabel scope X.env).names ∧ (k = .cell ∨ k = .free) := by
        rcases hy' with h | h
        · exact ⟨_, PySem.mem_of_lookup h, .inl rfl⟩
        · exact ⟨_, PySem.mem_of_lookup h, .inr rfl⟩
      obtain ⟨k, hm, hk⟩ := hm
      obtain ⟨⟨n, k'⟩, hm', e⟩ := List.mem_map.mp hm
      dsimp only at e
      by_cases hc : (k' == NameKind.free && X.env.scope.kind == .function && X.env.kindOf n == some .cell) = true
      · rw [if_pos hc] at e
        injection e with e1 _
        subst e1
        have : k' = .free := by
          have := (Bool.and_eq_true _ _ ▸ (Bool.and_eq_true _ _ ▸ hc).1).1
          simpa using this
        subst this
        exact hm'
      · rw [if_neg hc] at e
        injection e with e1 e2
        subst e1 e2
        rcases hk with hk | hk
        · subst hk; exact absurd rfl (O.cell _ hm')
        · subst hk; exact hm'
    obtain ⟨c, e⟩ := I.ok.has y (.inl (O.fr _ mem rfl).1)
    exact ⟨c, (hcl2 y mem).trans e⟩
  cab := fun _ _ z => nomatch z
  hd := I.ok.hd
  frames := I.ok.frames
  stk := .inl rfl
  exf := fun b hb => ⟨Nat.ne_of_lt (Nat.lt_of_lt_of_le (hfo b hb) hC), fun y c e => (hfp b hb).2.2.2.2.1 y c (hcl y c e).1⟩
  bs := I.bs
  bsz := Nat.le_trans I.ok.bsz I.sz
  noex := fun b o e hb => by
    rcases (hfp b hb).2.2.2.1 with z | z
    · exact I.ok.noex b o e z
    · exact absurd (Nat.lt_of_lt_of_le (Heap.lt_size e) (Nat.le_trans I.ok.bsz z)) (Nat.lt_irrefl _)
  exfs := fun b hb z => by
    rcases List.mem_cons.mp (I.stkSub b z) with e | e
    · exact (hfp b hb).2.1 e
    · exact (hfp b hb).2.2.1 e
  funs := I.stack
  frf := I.stkFree
end
end L2

set_option Elab.async false
set_option linter.all false
set_option maxRecDepth 100000
namespace L2
open PySem PySem.Spec PyProof.Rows
section
variable {X : Cx} {pins : List (Addr × Obj)} {σ : St} {H : Hp} {s : Shared}

theorem capV_len (σ : St) (caps : List Nat) : (capV σ caps).length = caps.length := by unfold capV; rw [List.length_map]
theorem capV_get {σ : St} {caps : List Nat} {k : Nat} {v : V} (e : (capV σ caps)[k]? = some (some v)) : ∃ j, caps[k]? = some j ∧ σ[j]? = some (some v) := by
  unfold capV at e
  rw [List.getElem?_map] at e
  cases hk : caps[k]? with
  | none => rw [hk] at e; cases e
  | some j =>
    rw [hk] at e
    have e' : (σ[j]?).join = some v := Option.some.inj e
    refine ⟨j, rfl, ?_⟩
    cases hj : σ[j]? with
    | none => rw [hj] at e'; cases e'
    | some o => rw [hj] at e'; rw [show o = some v from e']

theorem Un.but {fs ex : List Addr} {H H' : Hp} {h h1 h2 : Heap} {C : Addr} (u : Un fs ex H H' h h1) (hs : Heap.SameBut C h1 h2) (hC : h.objs.size ≤ C) : Un fs ex H H' h h2 where
  keep := fun b o q n hb hx => (hs.2 b (Nat.ne_of_lt (Nat.lt_of_lt_of_le (Heap.lt_size q) hC))).trans (u.keep b o q n hb hx)
  slot := fun b o q n hb hx => by
    obtain ⟨sl, e⟩ := u.slot b o q n hb hx
    exact ⟨sl, (hs.2 b (Nat.ne_of_lt (Nat.lt_of_lt_of_le (Heap.lt_size q) hC))).trans e⟩
  free := u.free
  there := fun b o q hx => by
    obtain ⟨o', e⟩ := u.there b o q hx
    exact ⟨o', (hs.2 b (Nat.ne_of_lt (Nat.lt_of_lt_of_le (Heap.lt_size q) hC))).trans e⟩
  tups := u.tups
  frzs := u.frzs
  tbls := u.tbls
/-- the block's state at its start -/
theorem comp_start {x : Str} {Nc : List Str} {caps : List Nat} {scope : Scope} {cl : List (Str × Addr)} {C : Addr} {fp : List Addr} {h' : Heap} {tk : Nat} {m0 : Str → Option Value} (I : Inv X pins σ H s) (O : CompOk X x Nc caps scope)
    (hcl : ∀ x c, cl.lookup x = some c → X.env.cells.lookup x = some c ∧ (x, NameKind.free) ∈ scope.names) (hcl2 : ∀ x, (x, NameKind.free) ∈ scope.names → cl.lookup x = X.env.cells.lookup x)
    (hC : s.heap.objs.size ≤ C) (hfp : ∀ b ∈ fp, FpOk X pins H b) (hfo : ∀ b ∈ fp, b < s.heap.objs.size)
    (old : ∀ b o, s.heap.get? b = some o → h'.get? b = some o) (hns : h'.Ns C m0) :
    Inv (cxComp X Nc scope cl C fp s H) [] (none :: capV σ caps) H { s with heap := h', toks := tk } where
  ok := comp_ok I O hcl hcl2 hC hfp hfo
  os := rfl
  bare := I.bare
  base := Un.kept old
  loc := by
    refine ⟨m0, hns, fun i y v hN hσ hv => ?_⟩
    cases i with
    | zero => simp at hσ
    | succ k =>
      rw [List.getElem?_cons_succ] at hσ
      obtain ⟨j, hj, hs⟩ := capV_get hσ
      obtain ⟨z, hz1, hz2, hz3⟩ := O.cap k j hj
      have hN' : Nc[k + 1]? = some y := hN
      rw [hz1] at hN'
      cases hN'
      have mem : (y, NameKind.free) ∈ scope.names := PySem.mem_of_lookup hz3
      have hk := (O.fr _ mem rfl).1
      obtain ⟨m, hn, hl⟩ := I.loc
      obtain ⟨u, r, l⟩ := hl j y v hz2 hs (.inr (.inl hk))
      refine ⟨u, r, ?_⟩
      rcases l with ⟨k', _⟩ | ⟨_, c, hc, z⟩
      · have k'' : X.env.scope.names.lookup y = some .local := k'
        rw [hk] at k''; cases k''
      · obtain ⟨o, ho, hd⟩ := z
        exact .inr ⟨.inl (lookup_relabel_free I.ok.kind hz3 hk), c, (hcl2 y mem).trans hc, o, old _ _ ho, hd⟩
  cell := fun y c e => by
    obtain ⟨v, o, ho, hd⟩ := I.cell y c (hcl y c e).1
    exact ⟨v, o, old _ _ ho, hd⟩
  free := I.hok.fresh hC
  freeC := fun y c e => I.freeC y c (hcl y c e).1
  pin := fun p hp => absurd (show p ∈ ([] : List (Addr × Obj)) from hp) (by simp)
  hok := I.hok.kept old
  len := by
    show (none :: capV σ caps).length = Nc.length
    rw [List.length_cons, capV_len, O.len]

/-- a list that only the block knows, as it stands -/
abbrev rawL (us : List Value) (n : Nat) : Obj := { cls := .type "list", data := .seq us.toArray n }

theorem comp_fr {X : Cx} {sc0 scope : Scope} (h : X.env.scope = sc0) (hd : ∀ y ∈ scope.names, y.2 = .free → sc0.names.lookup y.1 = some .cell ∧ scope.names.lookup y.1 = some .free) :
    ∀ y ∈ scope.names, y.2 = .free → X.env.scope.names.lookup y.1 = some .cell ∧ scope.names.lookup y.1 = some .free := by
  rw [h]
  exact hd

/-- THE BLOCK: the list is made, the variables live, the turns go; RR is what is wanted at the block's end -/
theorem comp_block {x : Str} {px : Pos} {Nc : List Str} {caps : List Nat} {scope : Scope} {cl : List (Str × Addr)} {iter elt : Expr} {ifs : List Expr} {pos : Pos} {tc : TT} {te : TE} {Q : VK} {it : Addr} {fp : List Addr} {tn : Nat → Heap → Prop} {J : It}
    {RR : Value → Addr → Result → Shared → Prop} {E : Value → Shared → Prop}
    (O : CompOk X x Nc caps scope) (hc : X.calm = true)
    (hcl : ∀ x c, cl.lookup x = some c → X.env.cells.lookup x = some c ∧ (x, NameKind.free) ∈ scope.names) (hcl2 : ∀ x, (x, NameKind.free) ∈ scope.names → cl.lookup x = X.env.cells.lookup x)
    (hte : ∀ C fp s H, PE (cxComp X Nc scope cl C fp s H) elt te) (htc : ∀ C fp s H, PIf (cxComp X Nc scope cl C fp s H) ifs tc)
    (I : Inv X pins σ H s) (T : Turn X.prog X.w X.K (.Name x px) J fp it tn) (st : tn 0 s.heap) (hfp : ∀ b ∈ fp, FpOk X pins H b) (h : tCompW caps tc te J σ H Q)
    (hRR : ∀ (D C : Addr) (s' : Shared) (m : Str → Option Value), s'.heap.Ns C m → (∀ h', Heap.SameBut C s'.heap h' → ∃ H', Inv X pins σ H' { s' with heap := h' } ∧ H' C = none ∧ Q (.ref D) H') →
      s.heap.objs.size ≤ C → RR (.ref D) C (.ok .next) s') :
    wpAny (model X.prog X.w) X.A (newList []) (fun acc s₃ => wpAny (model X.prog X.w) X.A (newFunctionEnv scope X.env.globals cl [] X.env.qual none .none (some X.env)) (fun cenv s₄ =>
      codeAny (model X.prog X.w) X.A (.compStart (.ListComp elt [⟨.Name x px, iter, ifs, 0⟩] scope pos) 0 (.ref it) acc { cenv with scope := relabel scope X.env }) (RR acc cenv.locals) s₄) E s₃) E s := by
  refine wpAny_newObj_type (wpAny_newFunctionEnv O.cell (by intro y hy; simp at hy) (fun h₁ hns₁ hsb₁ => ?_) O.kind)
  dsimp only at hns₁ hsb₁ ⊢
  generalize hH2 : s.heap.push { cls := .type "list", dict := none, data := .seq ([] : List Value).toArray } = H2 at hns₁ hsb₁ ⊢
  have hC : H2.objs.size = s.heap.objs.size + 1 := by rw [← hH2, Heap.size_push]
  have hCle : s.heap.objs.size ≤ H2.objs.size := by rw [hC]; exact Nat.le_succ _
  have hDC : s.heap.objs.size ≠ H2.objs.size := by rw [hC]; exact Nat.ne_of_lt (Nat.lt_succ_self _)
  have below : ∀ b, b < s.heap.objs.size → b ≠ H2.objs.size ∧ b ≠ s.heap.objs.size := fun b hb => ⟨by rw [hC]; exact Nat.ne_of_lt (Nat.lt_succ_of_lt hb), Nat.ne_of_lt hb⟩
  have old : ∀ b o, s.heap.get? b = some o → h₁.get? b = some o := fun b o e => hsb₁.extBut b o (below b (Heap.lt_size e)).1 (Heap.get?_push_of_some _ (hH2 ▸ Heap.get?_push_of_some _ e))
  have hacc : h₁.get? s.heap.objs.size = some (rawL [] 0) := hsb₁.extBut _ _ hDC (Heap.get?_push_of_some _ (hH2 ▸ Heap.get?_push_size _ rfl))
  have hfo : ∀ b ∈ fp, b < s.heap.objs.size := fun b hb => by
    obtain ⟨o, e, _⟩ := T.obj _ _ st b hb
    exact Heap.lt_size e
  have st1 : tn 0 h₁ := T.keep _ _ _ st fun b _ o e => old b o e
  generalize hDD : s.heap.objs.size = D at *
  generalize hCC : H2.objs.size = C at *
  have DleC : D ≤ C := hCle
  let Y : Cx := cxComp X Nc scope cl C fp s H
  have I0 : Inv Y [] (none :: capV σ caps) H { s with heap := h₁, toks := s.toks + ([] : List (Str × Value)).length } := comp_start I O hcl hcl2 (by rw [hDD]; exact hCle) hfp (fun b hb => by rw [hDD]; exact hfo b hb) old hns₁
  have Dfree : H D = none := by rw [← hDD]; exact I.hok.fresh (Nat.le_refl _)
  have DneC : D ≠ C := hDC
  -- what stays true of D, of the iterator's objects
  have Dfs : D ∉ Y.fs := fun z => by
    have := I.stack.mem (show D ∈ frs X.stack from z)
    obtain ⟨_, o, e, _⟩ := this
    have := Heap.lt_size e
    rw [hDD] at this
    exact Nat.lt_irrefl _ this
  have Dcell : ∀ y c, Y.env.cells.lookup y = some c → c ≠ D := fun y c e z => by
    obtain ⟨v, q⟩ := I.cell y c (hcl y c e).1
    have := q.lt
    rw [z, hDD] at this
    exact Nat.lt_irrefl _ this
  have Dfp : ∀ b ∈ fp, b ≠ D := fun b hb => Nat.ne_of_lt (hfo b hb)
  have fpY : ∀ {H' : Hp}, (∀ b ∈ fp, H' b = none) → ∀ b ∈ fp, FpOk Y [] H' b := fun hn b hb =>
    ⟨hn b hb, Nat.ne_of_lt (Nat.lt_of_lt_of_le (hfo b hb) DleC), fun z => I0.ok.exfs b hb z, .inl hb, fun y c e => (I0.ok.exf b hb).2 y c e, fun p hp => absurd (show p ∈ ([] : List (Addr × Obj)) from hp) (by simp)⟩
  obtain ⟨W, ⟨m0, w0⟩, turn⟩ := h
  have loop : ∀ s₃ : Shared, s₃ = { s with heap := h₁, toks := s.toks + ([] : List (Str × Value)).length } →
      codeAny (model X.prog X.w) X.A (.compLoop (.ListComp elt [⟨.Name x px, iter, ifs, 0⟩] scope pos) 0 (.ref it) (.ref D) (compEnvC scope cl C X.env)) (RR (.ref D) C) s₃ := by
    rintro s₃ rfl
    refine compLoop_any (fun n s' => ∃ (i : Nat) (o : Option V) (H' : Hp) (ys : List V) (us : List Value) (k : Nat), Inv Y [] (o :: capV σ caps) H' s' ∧ tn i s'.heap ∧ (∀ b ∈ fp, H' b = none) ∧ s'.heap.get? D = some (rawL us k) ∧ H' D = none ∧ Vals ys us ∧ W i n ys H')
      ?_ m0 ⟨0, none, H, [], [], 0, I0, st1, fun b hb => (hfp b hb).1, hacc, Dfree, .nil, w0⟩
    rintro n s3 ⟨i, o3, H3, ys, us, k, I3, st3, fr3, hD3, nD3, rv, w3⟩
    have fpP : ∀ {H' : Hp} {ob : Obj}, (∀ b ∈ fp, H' b = none) → ∀ b ∈ fp, FpOk Y [(D, ob)] H' b := fun hn b hb => by
      obtain ⟨g0, g1, g2, g3, g4, _⟩ := fpY hn b hb
      refine ⟨g0, g1, g2, g3, g4, fun p hp => ?_⟩
      have e : p = (D, _) := List.mem_singleton.mp (show p ∈ [(D, _)] from hp)
      rw [e]
      exact Ne.symm (Dfp b hb)
    have IP : Inv Y [(D, rawL us k)] (o3 :: capV σ caps) H3 s3 := I3.pins_of fun p hp => by
      have e : p = (D, rawL us k) := List.mem_singleton.mp hp
      subst e
      exact ⟨hD3, nD3, DneC, Dfs, fun v z => by cases z⟩
    have pinD : ∀ {σ' : St} {H' : Hp} {s' : Shared} {pl : List (Addr × Obj)}, Inv Y ([(D, rawL us k)] ++ pl) σ' H' s' → s'.heap.get? D = some (rawL us k) ∧ H' D = none := fun I' => by
      have z := I'.pin (D, rawL us k) (List.mem_append_right _ (List.mem_append_left _ List.mem_cons_self))
      exact ⟨z.1, z.2.1⟩
    rcases turn i n ys H3 w3 with ⟨stop, hlen, fin⟩ | ⟨go, hlen, step⟩
    · -- the end
      refine wpAny_mono (T.done Y rfl rfl rfl hc i _ s3 _ H3 (fun _ _ => False) IP (fpP fr3) st3 stop) (fun r s4 hr => ?_) fun _ _ z => z.elim
      obtain ⟨hr, I4⟩ := hr
      subst hr
      obtain ⟨gD, nD⟩ := pinD (pl := []) (by simpa using I4)
      obtain ⟨m, hn, _⟩ := I4.loc
      refine hRR D C s4 m hn (fun h' hs' => ⟨upd H3 D (.lst ys), ?_, (upd_ne (Ne.symm DneC)).trans I4.free, fin D nD⟩) hCle
      have nt : ∀ b ob, H3 b = some ob → b ≠ C := fun b ob e z => by
        have := I4.free
        rw [z] at e
        rw [show H3 C = none from this] at e
        cases e
      have u1 : Un (frs X.stack) fp H H3 s.heap h' := Un.but I4.base hs' (show s.heap.objs.size ≤ C by rw [hDD]; exact hCle)
      have ok1 : HOk X.prog X.w H3 h' := fun b ob e => (I4.hok b ob e).stay (fun c v hc q => (hs'.2 c (by
        rcases hc with z | z
        · rw [z]; exact nt b ob e
        · exact nt c _ z)).trans q) (fun _ q => q) fun _ _ q => q
      have gD' : h'.get? D = some (rawL us k) := (hs'.2 D DneC).trans gD
      exact I.call' (s' := { s4 with heap := h' }) (ch := fp) I4.os (u1.track (Nat.le_of_eq hDD) nD) (ok1.track nD ⟨hlen, us, k, rv, gD'⟩) I4.bare fun b hb => by
        obtain ⟨_, g1, _, g3, g4, g5⟩ := hfp b hb
        exact ⟨g3, g1, g4, g5⟩
    · -- a turn
      refine wpAny_mono (T.item Y rfl rfl rfl hc i _ s3 _ H3 (fun _ _ => False) IP (fpP fr3) st3 go) (fun r s4 hr => ?_) fun _ _ z => z.elim
      obtain ⟨u0, hr, h4⟩ := hr
      subst hr
      refine wpAny_mono h4 (fun _ s5 h5 => ?_) fun _ _ z => z.elim
      obtain ⟨x5, H5, I5, r5, y5, st5, fr5⟩ := h5
      have I5' := I5.pinned (fpP fr5) (T.obj _ _ st5)
      have tgt : PG Y (.Name x px) (gName 0) := pg_name (i := 0) O.nd O.hd (.inl (lookup_relabel I.ok.kind O.loc (by intro z; cases z))) (.inr (lookup_relabel I.ok.kind O.loc (by intro z; cases z)))
      refine wpAny_mono (tgt _ s5 _ H5 x5 u0 (fun σ2 H2 => σ2 = some x5 :: capV σ caps ∧ H2 = H5) I5' r5 ⟨rfl, rfl⟩) (fun _ s6 h6 => ?_) fun _ _ z => z.elim
      obtain ⟨_, _, I6, rfl, rfl⟩ := h6
      refine wpAny_mono ((htc C fp s H).run I6 (step x5 _ y5)) (fun b s7 h7 => ?_) fun _ _ z => z.elim
      obtain ⟨H7, I7, q7⟩ := h7
      have keepT : ∀ {σ' : St} {H' : Hp} {s' : Shared}, Inv Y ([(D, rawL us k)] ++ pinsAt fp s5.heap) σ' H' s' → tn (i + 1) s'.heap ∧ ∀ b ∈ fp, H' b = none := fun I' =>
        ⟨T.keep _ _ _ st5 fun b hb o e => (I'.pin (b, o) (List.mem_append_right _ (List.mem_append_right _ (mem_pinsAt hb e)))).1, fun b hb => by
          obtain ⟨o, e, d⟩ := T.obj _ _ st5 b hb
          exact (I'.pin (b, o) (List.mem_append_right _ (List.mem_append_right _ (mem_pinsAt hb e)))).2.1⟩
      cases b with
      | false =>
        rw [if_neg Bool.false_ne_true] at q7
        rw [if_neg Bool.false_ne_true]
        obtain ⟨m', hm, w7⟩ := q7
        obtain ⟨gD, nD⟩ := pinD I7
        obtain ⟨k1, k2⟩ := keepT I7
        exact ⟨m', hm, i + 1, some x5, H7, ys, us, k, I7.pins_of (fun p hp => nomatch hp), k1, k2, gD, nD, rv, w7⟩
      | true =>
        rw [if_pos rfl] at q7
        rw [if_pos rfl]
        refine wpAny_mono (hte C fp s H _ s7 _ H7 _ I7 q7) (fun u8 s8 h8 => ?_) fun _ _ z => z.elim
        obtain ⟨y8, H8, I8, r8, m', hm, w8⟩ := h8
        obtain ⟨gD, nD⟩ := pinD I8
        obtain ⟨k1, k2⟩ := keepT I8
        refine call_meets F.slot_list_append ⟨_, gD, rfl⟩ F.entry_list_append (F.args_list_append_2 _ _) (PySem.list_append D us.toArray k u8 (by rw [List.size_toArray, ← rv.length]; omega)) ⟨gD, ?_⟩
        have q := PySem.IsL.update gD (·.push u8)
        have e1 : us.toArray.push u8 = (us ++ [u8]).toArray := by simp
        rw [e1] at q
        have I8' : Inv Y [] (some x5 :: capV σ caps) H8 s8 := I8.pins_of (fun p hp => nomatch hp)
        have I9 : Inv Y [] (some x5 :: capV σ caps) H8 { s8 with heap := s8.heap.update D (Obj.mapSeq (·.push u8)), toks := s8.toks } :=
          I8'.turned (it := D) (fun b o hb e => (Heap.get?_update_other s8.heap (Obj.mapSeq (·.push u8)) (Ne.symm hb)).trans e) nD DneC (.inr (Nat.le_of_eq hDD)) Dcell (fun p hp => nomatch hp)
        refine ⟨m', hm, i + 1, some x5, H8, ys ++ [y8], us ++ [u8], _, I9, T.keep _ _ _ k1 fun b hb o e => (Heap.get?_update_other s8.heap (Obj.mapSeq (·.push u8)) (Ne.symm (Dfp b hb))).trans e, k2, q, nD, rv.append (.cons r8 .nil), w8⟩
  exact codeAny_compStart_list (loop _ rfl) (T.self X.A 0 _ _ _ st1 (loop _ rfl))

/-- [elt for x in iter if test] -/
theorem pe_comp {x : Str} {px pos : Pos} {Nc : List Str} {caps : List Nat} {scope : Scope} {iter elt : Expr} {ifs : List Expr} {wi : TI} {tc : TT} {te : TE} (O : CompOk X x Nc caps scope) (hc : X.calm = true) (hi : PI X (.Name x px) iter wi)
    (htc : ∀ cl C fp s H, PIf (cxComp X Nc scope cl C fp s H) ifs tc) (hte : ∀ cl C fp s H, PE (cxComp X Nc scope cl C fp s H) elt te) (hs : ∀ x, foldedSetIterable iter X.env x = pure x := by intro _; rfl) :
    PE X (.ListComp elt [⟨.Name x px, iter, ifs, 0⟩] scope pos) (tComp wi caps tc te) := by
  intro pins s σ H Q I h
  rw [eval_ListComp]
  obtain ⟨cl, e1, e2, e3⟩ := closure_is (scope := scope) (env := X.env) fun y hy hf => I.ok.has y.1 (.inl (O.fr y hy hf).1)
  refine wpAny_comprehension_free (use := none) rfl hs e1 O.kind O.names (thn (hi pins s σ H _ I h) fun v s1 h1 => thn h1 fun itv s2 h2 => ?_)
  obtain ⟨it, fp, tn, J, H2, e, I2, T, st2, f2, w2⟩ := h2
  subst e
  refine comp_block (RR := fun acc C => compPost (model X.prog X.w) X.A X.xe none (EP X pins σ Q) acc C) O hc e2 e3 (hte cl) (htc cl) I2 T st2 f2 w2 ?_
  intro D C s' m hn hq hC
  refine ⟨m, hn, fun h' hs' => ?_⟩
  obtain ⟨H', I', _, q⟩ := hq h' hs'
  exact ⟨.ref D, H', I', rfl, q⟩

/-- y = [elt for x in iter if test], where the value is stored ahead of the variables' going -/
theorem ps_setC {i : Nat} {y x : Str} {px py pos spos : Pos} {Nc : List Str} {caps : List Nat} {scope : Scope} {iter elt : Expr} {ifs : List Expr} {wi : TI} {tc : TT} {te : TE} (O : CompOk X x Nc caps scope) (hc : X.calm = true)
    (hN : X.N.Nodup) (hy : X.N[i]? = some y) (hx : X.env.scope.names.lookup y = some .local) (hi : PI X (.Name x px) iter wi)
    (htc : ∀ cl C fp s H, PIf (cxComp X Nc scope cl C fp s H) ifs tc) (hte : ∀ cl C fp s H, PE (cxComp X Nc scope cl C fp s H) elt te)
    (hsw : swapsWith (.ListComp elt [⟨.Name x px, iter, ifs, 0⟩] scope pos) (some (.Name y py)) spos.line X.env = pure true) (hs : ∀ x, foldedSetIterable iter X.env x = pure x := by intro _; rfl) :
    PS X (.Assign [.Name y py] (.ListComp elt [⟨.Name x px, iter, ifs, 0⟩] scope pos) spos) (tAsg (tComp wi caps tc te) (gName i)) := by
  intro pins s σ H Dn I h
  rw [exec_Assign_Name_used _ _ _ _ hsw]
  refine wpAny_bind (wpAny_standAt (wpAny_bind ?_))
  obtain ⟨cl, e1, e2, e3⟩ := closure_is (scope := scope) (env := X.env) fun y hy hf => I.ok.has y.1 (.inl (O.fr y hy hf).1)
  show wpAny _ X.A (do let _ ← comprehension (.ListComp elt [⟨.Name x px, iter, ifs, 0⟩] scope pos) scope X.env _ (newList []) false (eval iter X.env) (some (assign (.Name y py) X.env))) _ _ s
  refine wpAny_bind (wpAny_mono (wpAny_comprehension_free (use := some (assign (.Name y py) X.env)) (Q := fun _ s' => SP X pins Dn .next s') rfl hs e1 O.kind O.names
    (thn (hi pins s σ H _ I h) fun v s1 h1 => thn h1 fun itv s2 h2 => ?_)) (fun _ s' hq => wpAny_pure (wpAny_pure hq)) fun _ _ e => e)
  obtain ⟨it, fp, tn, J, H2, e, I2, T, st2, f2, w2⟩ := h2
  subst e
  refine comp_block (RR := fun acc C => compPost (model X.prog X.w) X.A X.xe (some (assign (.Name y py) X.env)) (fun _ s' => SP X pins Dn .next s') acc C) O hc e2 e3 (hte cl) (htc cl) I2 T st2 f2 w2 ?_
  intro D C s' m hn hq hC
  show wpAny _ X.A (assign (.Name y py) X.env (.ref D)) _ _ _
  obtain ⟨H', I', nC, q⟩ := hq s'.heap (.refl ..)
  have I'' : Inv X pins σ H' s' := I'
  have CL : C ≠ X.env.locals := Nat.ne_of_gt (Nat.lt_of_lt_of_le I2.lt hC)
  have Ccell : ∀ y c, X.env.cells.lookup y = some c → c ≠ C := fun y c e z => by
    obtain ⟨v, q⟩ := I2.cell y c e
    have := Nat.lt_of_lt_of_le q.lt hC
    rw [z] at this
    exact Nat.lt_irrefl _ this
  refine wpAny_assign_Name (store_ok2 I'' hN hy (.inl hx) (show RelV (.ref D) (.ref D) from rfl) (fun s3 I3 hsb => ?_) (.inr hx))
  obtain ⟨a, hsb, ha⟩ := hsb
  have aC : C ≠ a := by
    rcases ha with z | z
    · rw [z]; exact CL
    · exact Ne.symm (Ccell _ _ z)
  refine ⟨m, hn.sameBut hsb aC, fun h4 hs4 => ?_⟩
  refine ⟨_, H', I3.turned (it := C) (t' := s3.toks) (fun b o hb e => (hs4.2 b hb).trans e) nC CL (.inr (Nat.le_trans I2.sz hC)) Ccell (fun p hp z => ?_), q⟩
  · have := Nat.lt_of_lt_of_le (Heap.lt_size (I2.pin p hp).1) hC
    rw [z] at this
    exact Nat.lt_irrefl _ this
end
end L2

set_option Elab.async false
set_option linter.all false
set_option maxRecDepth 100000
namespace L2
open PySem PySem.Spec PyProof.Rows

/-! ### for c in text -/
def Its (x : Str) : It := ⟨fun i _ => i < x.cps.size, fun i H v H' => H' = H ∧ ∃ c, x.cps[i]? = some c ∧ v = .str ⟨#[c]⟩, fun i _ => x.cps.size ≤ i⟩
section
variable {X : Cx} {tg : Expr}
def iStr (tl : TE) : TI := fun σ H R => tl σ H fun x H1 => ∃ z, x = .str z ∧ R (Its z) H1
end
/-! ### the forms of a comprehension that one uses: what stands behind i items -/
/-- one item more is behind -/
def CN (n : Nat) (Pv : Nat → List V → Hp → Prop) (i : Nat) (ys : List V) (H : Hp) : Prop := ∃ m', m' < n - i ∧ m' = n - (i + 1) ∧ i + 1 ≤ n ∧ Pv (i + 1) ys H
theorem CN.of {n : Nat} {Pv : Nat → List V → Hp → Prop} {i : Nat} {ys : List V} {H : Hp} (h : i < n) (p : Pv (i + 1) ys H) : CN n Pv i ys H := ⟨n - (i + 1), by omega, rfl, h, p⟩
/-- a turn: the test, then the element -/
def CTurn (n : Nat) (Pv : Nat → List V → Hp → Prop) (tc : TT) (te : TE) (σ : St) (i : Nat) (ys : List V) (H : Hp) : Prop :=
  tc σ H fun b H2 => if b = true then te σ H2 fun y H3 => CN n Pv i (ys ++ [y]) H3 else CN n Pv i ys H2
theorem CTurn.no {n : Nat} {Pv : Nat → List V → Hp → Prop} {te : TE} {σ : St} {i : Nat} {ys : List V} {H : Hp} (h : te σ H fun y H3 => CN n Pv i (ys ++ [y]) H3) : CTurn n Pv tNoTest te σ i ys H := by
  unfold CTurn tNoTest
  exact iteT h
theorem comp_list {K : PySem.W.Frag} {a : Addr} {xs : List V} {caps : List Nat} {tc : TT} {te : TE} {σ : St} {H : Hp} {Q : VK} (Pv : Nat → List V → Hp → Prop) (h0 : Pv 0 [] H) (hl : ∀ i ys H, i ≤ xs.length → Pv i ys H → SqL K H a xs ∧ ys.length ≤ i)
    (hz : xs.length ≤ sizeLine) (hs : ∀ i x ys H, i < xs.length → xs[i]? = some x → Pv i ys H → CTurn xs.length Pv tc te (some x :: capV σ caps) i ys H)
    (hd : ∀ ys H p, Pv xs.length ys H → H p = none → Q (.ref p) (upd H p (.lst ys))) : tCompW caps tc te (Itl K a) σ H Q := by
  refine ⟨fun i m ys H => m = xs.length - i ∧ i ≤ xs.length ∧ Pv i ys H, ⟨xs.length, by simp, Nat.zero_le _, h0⟩, ?_⟩
  rintro i m ys H ⟨rfl, hi, p⟩
  obtain ⟨q, hy⟩ := hl i ys H hi p
  by_cases hlt : i < xs.length
  · refine .inr ⟨⟨xs, xs[i], q, by simp [hlt]⟩, by omega, fun x H' y => ?_⟩
    obtain ⟨e, y⟩ := y
    subst e
    exact hs i x ys _ hlt (y xs q) p
  · have e : i = xs.length := by omega
    subst e
    exact .inl ⟨⟨xs, q, Nat.le_refl _⟩, by omega, fun p' hp => hd ys H p' p hp⟩
theorem comp_range {lo : Int} {n : Nat} {caps : List Nat} {tc : TT} {te : TE} {σ : St} {H : Hp} {Q : VK} (Pv : Nat → List V → Hp → Prop) (h0 : Pv 0 [] H) (hl : ∀ i ys H, i ≤ n → Pv i ys H → ys.length ≤ i)
    (hz : n ≤ sizeLine) (hs : ∀ i ys H, i < n → Pv i ys H → CTurn n Pv tc te (some (.int (lo + i)) :: capV σ caps) i ys H)
    (hd : ∀ ys H p, Pv n ys H → H p = none → Q (.ref p) (upd H p (.lst ys))) : tCompW caps tc te (Itr lo n) σ H Q := by
  refine ⟨fun i m ys H => m = n - i ∧ i ≤ n ∧ Pv i ys H, ⟨n, by simp, Nat.zero_le _, h0⟩, ?_⟩
  rintro i m ys H ⟨rfl, hi, p⟩
  have hy := hl i ys H hi p
  by_cases hlt : i < n
  · refine .inr ⟨hlt, by omega, fun x H' y => ?_⟩
    obtain ⟨e, y⟩ := y
    subst e y
    exact hs i ys _ hlt p
  · have e : i = n := by omega
    subst e
    exact .inl ⟨Nat.le_refl _, by omega, fun p' hp => hd ys H p' p hp⟩
/-! ### sep.join(list of texts) -/
theorem strsAre_of {ys : List Str} : ∀ {us : List Value}, Vals (ys.map V.str) us → StrsAre us ys := by
  induction ys with
  | nil => intro us r; rw [List.map_nil] at r; cases r; exact .nil
  | cons n ns ih =>
    intro us r
    rw [List.map_cons] at r
    cases r with
    | cons r1 r2 =>
      obtain ⟨t, e⟩ := r1
      subst e
      exact .cons n t (ih r2)
def rJoin (K : PySem.W.Frag) : V → List V → Hp → VK → Prop := fun x vs H Q => ∃ z a ys, x = .str z ∧ vs = [.ref a] ∧ SqL K H a (ys.map V.str) ∧ (ys.map (·.length)).sum + ys.length * z.length ≤ 16777216 ∧ Q (.str (Txt.join z ys)) H
section
variable {X : Cx}
theorem mt_join : MtR X "str.join" (rJoin X.K) := by
  intro pins s σ H x vs v us Q I rx rv h
  obtain ⟨z, a, ys, rfl, rfl, hq, hz, q⟩ := h
  obtain ⟨t, rfl⟩ := rx
  obtain ⟨u, rfl, ru⟩ := rv.one
  cases ru
  obtain ⟨its, r, pl, hl⟩ := I.list hq
  exact join_list pl.isList (strsAre_of (by simpa using r)) hz fun t' k => ⟨.str _, H, I.tok _, ⟨_, rfl⟩, q⟩

/-! ### isinstance(x, C) -/
def rIsi (K : PySem.W.Frag) : List V → Hp → VK → Prop := fun vs H Q => ∃ x t b, TyOf K H x t ∧
  ((∃ n, vs = [x, .ty n] ∧ PySem.W.kitOne K t (.type n) = some b) ∨ (∃ a, vs = [x, .ref a] ∧ PySem.W.kitOne K t (.ref a) = some b)) ∧ Q (.bl b) H
/-! ### == of two lists of flat values -/
def eqL : List V → List V → Bool
  | [], [] => true
  | x :: xs, y :: ys => eqV x y && eqL xs ys
  | _, _ => false
theorem eqV_refl {x : V} (h : flatV x = true) : eqV x x = true := by
  cases x with
  | non => rfl
  | bl b => simp [eqV]
  | int i => simp [eqV]
  | str z => simp [eqV]
  | _ => exact absurd (show false = true from h) Bool.false_ne_true
theorem eqL_refl : ∀ {xs : List V}, xs.all flatV = true → eqL xs xs = true
  | [], _ => rfl
  | x :: xs, h => by
    rw [List.all_cons, Bool.and_eq_true] at h
    rw [eqL, eqV_refl h.1, eqL_refl h.2]
    rfl
theorem eqL_len : ∀ {xs ys : List V}, xs.length ≠ ys.length → eqL xs ys = false
  | [], [], h => absurd rfl h
  | [], _ :: _, _ => rfl
  | _ :: _, [], _ => rfl
  | x :: xs, y :: ys, h => by
    rw [eqL, eqL_len (xs := xs) (ys := ys) (fun z => h (by rw [List.length_cons, List.length_cons, z])), Bool.and_false]
theorem eqL_range : ∀ {xs ys : List V}, xs.length = ys.length → (List.range xs.length).all (fun j => eqV (xs.getD j .non) (ys.getD j .non)) = eqL xs ys
  | [], [], _ => rfl
  | [], _ :: _, h => by simp at h
  | _ :: _, [], h => by simp at h
  | x :: xs, y :: ys, h => by
    have h' : xs.length = ys.length := by simpa using h
    rw [List.length_cons, List.range_succ_eq_map, List.all_cons, List.all_map]
    rw [eqL, ← eqL_range h']
    rfl
def rEqL (K : PySem.W.Frag) : R2 := fun x y H Q => ∃ p q xs ys, x = .ref p ∧ y = .ref q ∧ SqL K H p xs ∧ SqL K H q ys ∧ xs.all flatV = true ∧ ys.all flatV = true ∧ Q (.bl (eqL xs ys)) H
theorem op_eqL (hu : X.A.units < cLine) : OpR X (compareOp .Eq) (rEqL X.K) := by
  intro pins s σ H x y v u Q I rx ry h
  obtain ⟨p, q, xs, ys, rfl, rfl, hx, hy, fx, fy, k⟩ := h
  cases rx
  cases ry
  obtain ⟨its, r, pl, hz⟩ := I.list hx
  obtain ⟨its2, r2, pl2, hz2⟩ := I.list hy
  have l1 := r.length
  have l2 := r2.length
  by_cases hl : xs.length = ys.length
  · refine SeqAt.eq_listAt (e := fun j => eqV (xs.getD j .non) (ys.getD j .non)) pl.isList pl2.isList (by simp only [List.size_toArray]; omega) hu (fun j h1 h2 => ?_) ?_
    · have j1 : j < xs.length := by simp only [List.size_toArray] at h1; omega
      have j2 : j < ys.length := by omega
      obtain ⟨w1, e1, q1⟩ := r.get (i := j) (x := xs[j]) (by simp [j1])
      obtain ⟨w2, e2, q2⟩ := r2.get (i := j) (x := ys[j]) (by simp [j2])
      have g1 : its.toArray[j] = w1 := by
        have : its.toArray[j]? = some w1 := by simpa using e1
        exact Option.some.inj ((Array.getElem?_eq_getElem h1).symm.trans this)
      have g2 : its2.toArray[j] = w2 := by
        have : its2.toArray[j]? = some w2 := by simpa using e2
        exact Option.some.inj ((Array.getElem?_eq_getElem h2).symm.trans this)
      rw [g1, g2]
      have d1 : xs.getD j .non = xs[j] := by simp [List.getD, j1]
      have d2 : ys.getD j .non = ys[j] := by simp [List.getD, j2]
      show SeqAt.EqAt _ _ _ _ (eqV (xs.getD j .non) (ys.getD j .non))
      rw [d1, d2]
      exact eqAt_V q1 q2 (List.all_eq_true.mp fx _ (List.getElem_mem j1)) (List.all_eq_true.mp fy _ (List.getElem_mem j2))
    · refine ⟨.bl (eqL xs ys), H, I, ?_, k⟩
      show Value.bool _ = Value.bool _
      rw [List.size_toArray, ← l1, eqL_range hl]
  · refine SeqAt.eq_list_lengthsAt pl.isList pl2.isList (by simp only [List.size_toArray, bne_iff_ne]; omega) hu ?_
    exact ⟨.bl (eqL xs ys), H, I, by rw [eqL_len hl]; rfl, k⟩
end
end L2

namespace L2
open PySem
/-- a text by its codes -/
def tx (l : List Nat) : Str := ⟨l.toArray⟩
theorem tx_len (l : List Nat) : (tx l).length = l.length := by simp [tx, Str.length]
theorem tx_one (c : Nat) : (⟨#[c]⟩ : Str) = tx [c] := rfl
theorem glue_fold : ∀ (ys : List (List Nat)) (acc : Array Nat), (ys.map tx).foldl (fun acc p => acc ++ (tx []).cps ++ p.cps) acc = acc ++ ys.flatten.toArray
  | [], acc => by simp
  | y :: ys, acc => by
    rw [List.map_cons, List.foldl_cons, glue_fold ys]
    simp [tx]
theorem tx_join : ∀ (ys : List (List Nat)), Txt.join (tx []) (ys.map tx) = tx ys.flatten
  | [] => by simp [Txt.join, Builtin.Str.glued, tx, Str.empty]
  | y :: ys => by
    show Str.mk _ = _
    simp only [List.map_cons, List.drop_one, List.tail_cons, List.headD_cons]
    rw [glue_fold]
    simp [tx]
theorem flat1 {α : Type} (f : α → Nat) : ∀ (l : List α), (l.map fun c => [f c]).flatten = l.map f
  | [] => rfl
  | a :: l => by rw [List.map_cons, List.flatten_cons, flat1 f l]; rfl
theorem sum1 {α : Type} (f : α → Nat) : ∀ (l : List α), (((l.map fun c => [f c]).map tx).map (·.length)).sum = l.length
  | [] => rfl
  | a :: l => by
    rw [List.map_cons, List.map_cons, List.map_cons, List.sum_cons, sum1 f l, tx_len, List.length_cons]
    show 1 + l.length = l.length + 1
    omega
end L2

set_option maxRecDepth 100000
set_option linter.all false
namespace PySem
open Sem (wp)
open Builtin Builtin.Str Builtin.Int
namespace RV
end RV
def revS (x : Str) (t : Tok) (i : Int) : Obj := { cls := .type "reversed", data := .fields #[.str x t, rawInt i] }
def Heap.IsRevS (h : Heap) (a : Addr) (x : Str) (t : Tok) (i : Int) : Prop := ∃ o, h.get? a = some o ∧ o.cls = .type "reversed" ∧ o.data = .fields #[.str x t, rawInt i]
section
variable {prog : Program} {w : World} {A : Around} {E : Value → Shared → Prop} {s : Shared}
end
end PySem

set_option Elab.async false
set_option linter.all false
set_option maxRecDepth 100000
namespace L2
open PySem PySem.Spec PyProof.Rows
/-! ### sep.join(reversed(text)) -/
def revO (p : Addr) (x : Str) : HO := .ext fun h => ∃ t, h.IsRevS p x t ((x.length : Int) - 1)
def anyO (p : Addr) : HO := .ext fun h => ∃ o, h.get? p = some o
section
variable {X : Cx}
end
end L2

set_option Elab.async false
set_option linter.all false
set_option maxRecDepth 100000
namespace L2
open PySem PySem.Spec PyProof.Rows
/-! ### tests that are known -/
theorem iteDn {c A B : Prop} [Decidable c] (h : ¬ c) (k : B) : if decide c = true then A else B := by rw [decide_eq_false h]; exact iteF k
theorem iteDp {c A B : Prop} [Decidable c] (h : c) (k : A) : if decide c = true then A else B := by rw [decide_eq_true h]; exact iteT k
theorem ite2D {c A B : Prop} [Decidable c] (h1 : c → A) (h2 : ¬ c → B) : if decide c = true then A else B := by
  by_cases h : c
  · exact iteDp h (h1 h)
  · exact iteDn h (h2 h)
/-! ### heaps -/
theorem Same.upd {H : Hp} {p : Addr} {o : HO} (h : H p = none) : Same H (L2.upd H p o) := fun b o' e => by rw [upd_ne (ne_of_none e h)]; exact e
theorem Same.new {H H1 : Hp} {p : Addr} {o : HO} (e : Same H H1) (h : H1 p = none) : Same H (L2.upd H1 p o) := e.trans (.upd h)
/-- a write at p, which was not there at H -/
theorem Same.over {H H1 : Hp} {p : Addr} {o : HO} (e : Same H H1) (h : H p = none) : Same H (L2.upd H1 p o) := fun b o' q => by rw [upd_ne (ne_of_none q h)]; exact e b o' q
/-! ### Python's own names -/
theorem bt_len : bootBuiltins "len" = some (.builtin "len") := by decide +kernel
theorem bt_isinstance : bootBuiltins "isinstance" = some (.builtin "isinstance") := by decide +kernel
theorem bt_sum : bootBuiltins "sum" = some (.builtin "sum") := by decide +kernel
theorem bt_sorted : bootBuiltins "sorted" = some (.builtin "sorted") := by decide +kernel
theorem bt_list : bootBuiltins "list" = some (.type "list") := by decide +kernel
theorem bt_int : bootBuiltins "int" = some (.type "int") := by decide +kernel
theorem bt_set : bootBuiltins "set" = some (.type "set") := by decide +kernel
/-! ### a def of the text, its name, its parameters -/
structure Df (K : PySem.W.Frag) (mg : Str → Option Value) (x : Str) (st : Stmt) (ps : List Str) (f : Addr) (fd : FuncData) : Prop where
  F : Fun K x x st f fd
  m : mg x = some (.ref f)
  b : Binds K fd ps []
/-! ### lists of texts, of ints -/
def vS (cl : List (List Nat)) : List V := cl.map fun t => V.str (tx t)
def vI (ns : List Int) : List V := ns.map V.int
theorem vS_len (cl : List (List Nat)) : (vS cl).length = cl.length := by unfold vS; rw [List.length_map]
theorem vI_len (ns : List Int) : (vI ns).length = ns.length := by unfold vI; rw [List.length_map]
theorem vI_get {ns : List Int} {i : Nat} {n : Int} (h : ns[i]? = some n) : (vI ns)[i]? = some (.int n) := by unfold vI; rw [List.getElem?_map, h]; rfl
theorem vI_got {ns : List Int} {i : Nat} {v : V} (h : (vI ns)[i]? = some v) : ∃ t, ns[i]? = some t ∧ v = .int t := by
  unfold vI at h
  rw [List.getElem?_map] at h
  cases e : ns[i]? with
  | none => rw [e] at h; cases h
  | some t => rw [e] at h; exact ⟨t, rfl, (Option.some.inj h).symm⟩
theorem vI_flat (ns : List Int) : (vI ns).all flatV = true := by unfold vI; rw [List.all_map]; exact List.all_eq_true.mpr fun _ _ => rfl
theorem vS_map (cl : List (List Nat)) : vS cl = (cl.map tx).map V.str := by unfold vS; rw [List.map_map]; rfl
theorem vI_set (ns : List Int) (j : Nat) (n : Int) : (vI ns).set j (.int n) = vI (ns.set j n) := by unfold vI; rw [List.map_set]
theorem vI_app (ns : List Int) (n : Int) : vI ns ++ [.int n] = vI (ns ++ [n]) := by unfold vI; rw [List.map_append]; rfl
theorem vS_app (cl : List (List Nat)) (t : List Nat) : vS cl ++ [.str (tx t)] = vS (cl ++ [t]) := by unfold vS; rw [List.map_append]; rfl
/-- the item at a place that is there -/
theorem atI_of {α : Type} {xs : List α} {i : Int} {v : α} (h0 : 0 ≤ i) (h : xs[i.toNat]? = some v) : atI xs i = some v := by
  have e : i = (i.toNat : Int) := by omega
  rw [e]
  exact atI_nat h
theorem ixN_of {n : Nat} {i : Int} (h0 : 0 ≤ i) (h : i < n) : ixN n i = some i.toNat := by unfold ixN; rw [if_pos h0, if_pos h]
end L2

set_option Elab.async false
set_option linter.all false
set_option maxRecDepth 100000
namespace L2
open PySem PySem.Spec PyProof.Rows
/-! ### the rules that name the written part, with its name given (within a comprehension's block the reading may not lean on the block) -/
section
variable {X : Cx} {K : PySem.W.Frag} {tg : Expr}
theorem ix_listK (hK : X.K = K := by rfl) : IxR X (rIxL K) := by subst hK; exact ix_list
theorem ix_tupK (hK : X.K = K := by rfl) : IxR X (rIxT K) := by subst hK; exact ix_tup
theorem op_in_seqK (hK : X.K = K := by rfl) : OpR X (compareOp .In) (rIn K false) := by subst hK; exact op_in_seq
theorem op_eqLK (hu : X.A.units < cLine) (hK : X.K = K := by rfl) : OpR X (compareOp .Eq) (rEqL K) := by subst hK; exact op_eqL hu
theorem call_len_seqK (hK : X.K = K := by rfl) : CallR X (.builtin "len") (fun xs H Q => ∃ p ys, xs = [.ref p] ∧ (SqL K H p ys ∨ SqT K H p ys) ∧ Q (.int ys.length) H) := by subst hK; exact call_len_seq
theorem call_list_ofK (hK : X.K = K := by rfl) : CallR X (.type "list") (fun xs H Q => ∃ p ys, xs = [.ref p] ∧ (SqL K H p ys ∨ SqT K H p ys) ∧ ∀ l, H l = none → Q (.ref l) (upd H l (.lst ys))) := by subst hK; exact call_list_of
theorem mt_joinK (hK : X.K = K := by rfl) : MtR X "str.join" (rJoin K) := by subst hK; exact mt_join
theorem sl_listK (hK : X.K = K := by rfl) : SlR X (rSlL K) := by subst hK; exact sl_list
theorem pi_listK {l : Expr} {tl : TE} (hl : PE X l tl) (hK : X.K = K := by rfl) : PI X tg l (iList K tl) := by subst hK; exact pi_list hl
variable {o e : Expr} {es : List Expr} {to : TE} {t : TA} {name : Str} {apos cpos : Pos} {T id : String} {r : V → List V → Hp → VK → Prop}
theorem pe_bmK (pa : PlainAttrs T) (slot : Slot T name id) (hty : typeOf (.builtin id) = pure (.type "method_descriptor")) (hm : MtR X id r) (ho : PE X o to) (ha : PA X (e :: es) t)
    (hbase : attributeBase o name X.env (eval o X.env) = eval o X.env := by rfl)
    (hfew : ((backTo cpos (starEach (e :: es) X.env)).all (fun x => !x.1) && (backToKw cpos (keywordEach [] X.env)).all (fun x => x.1.isSome)
      && decide ((e :: es).length + ([] : List Keyword).length + (if ([] : List Keyword).isEmpty then 0 else 1) < 30)) = true := by rfl)
    (hline : (apos.endLine == cpos.line) = true := by rfl) (hs : starEach (e :: es) X.env = (false, eval e X.env) :: starEach es X.env := by rfl) (hplain : (backTo cpos (starEach es X.env)).any (·.1) = false := by rfl) (hK : X.K = K := by rfl) :
    PE X (.Call (.Attribute o name apos) (e :: es) [] cpos) (tBM K T r to t) := by
  subst hK
  exact pe_bm pa slot hty hm ho ha hbase hfew hline hs hplain
end
end L2

set_option Elab.async false
set_option linter.all false
set_option maxRecDepth 100000
namespace L2
open PySem PySem.Spec PyProof.Rows

/-! ### an exception of an own class, on its way through the frames: its whole record is known but for where its trace stands -/
abbrev exO (C t : Addr) (tb : Value) : Obj := { cls := .ref C, data := .fields #[.ref t, tb, .none, .none, .bool false, .none] }
/-- B: all that stood at the raise but the frames; fl: what the newest entry of the trace says of the flight -/
structure Fx (B : Heap) (l : List Env) (e C t : Addr) (fl : Value) (h : Heap) : Prop where
  st : B.StaysIn h
  ne : B.get? e = none
  fr : h.FunFrames B l
  ob : ∃ (T : Addr) (oT : Obj) (ts : Array Value), h.get? e = some (exO C t (.ref T)) ∧ B.get? T = none ∧ T ≠ e ∧ h.get? T = some oT ∧ oT.data = .fields ts ∧ ts[3]? = some fl
theorem Fx.outer {B : Heap} {env : Env} {l : List Env} {e C t : Addr} {fl : Value} {h : Heap} (x : Fx B (env :: l) e C t fl h) : Fx B l e C t fl h := ⟨x.st, x.ne, x.fr.2.2, x.ob⟩
section
variable {M : Model} {A : Around} {E : Value → Shared → Prop} {s : Shared} {B : Heap} {env : Env} {l : List Env} {e C t L : Addr}
/-- the flight ends, or goes on elsewhere -/
theorem fx_land {fl : Value} {Q : Unit → Shared → Prop} (x : Fx B l e C t fl s.heap) (k : ∀ h', Fx B l e C t .none h' → s.heap.UpToSlots h' → Q () { s with heap := h' }) : wpAny M A (setFlight (.ref e) none) Q E s := by
  obtain ⟨st, ne, fr, T, oT, ts, hE, hBT, hTe, hT, hdT, h3⟩ := x
  have h3s : 3 < ts.size := (Array.getElem?_eq_some_iff.mp h3).1
  unfold setFlight
  refine wpAny_bind (wpAny_field hE rfl (x := .ref T) rfl ?_)
  rw [if_pos (show (Value.ref T != Value.none) = true by simp)]
  refine wpAny_setField hT hdT h3s (k _ ?_ ?_)
  all_goals
    have oth : ∀ b, b ≠ T → (s.heap.update T (Obj.mapFields (·.setIfInBounds 3 ((none : Option Addr).elim Value.none fun f => rawInt f)))).get? b = s.heap.get? b := fun b hb => Heap.get?_update_other _ _ (Ne.symm hb)
    have nrec : ∀ b o, s.heap.get? b = some o → (∀ vs, o.data ≠ .fields vs) → b ≠ T := fun b o hb hn q => by
      rw [q, hT] at hb
      cases hb
      exact hn ts hdT
  · refine ⟨fun b o hb => (oth b fun q => by rw [q, hBT] at hb; cases hb).trans (st b o hb), ne, fr.of_keeps fun b o hb hn => ⟨o, (oth b (nrec b o hb hn)).trans hb, rfl⟩, T, _, _, (oth e (Ne.symm hTe)).trans hE, hBT, hTe,
      Heap.get?_update_self _ hT (Obj.isFreed_of_fields (Obj.data_mapFields hdT _)), Obj.data_mapFields hdT _, ?_⟩
    simp [h3s]
  · exact fun b o hb hn => ⟨o.slots, (oth b (nrec b o hb hn)).trans hb⟩
/-- the frame enters itself into the trace -/
theorem fx_enter {tb : Value} {had : Bool} {Q : Unit → Shared → Prop} (hfr : A.frames = some (env :: l)) (hf : env.frame = some L) (st : B.StaysIn s.heap) (ne : B.get? e = none) (fr : s.heap.FunFrames B (env :: l))
    (hE : s.heap.get? e = some (exO C t tb)) (k : ∀ h', Fx B (env :: l) e C t (rawInt L) h' → s.heap.UpToSlots h' → Q () { s with heap := h' }) :
    wpAny M A (do let a ← frameOf env; let pl ← entryPlaceOf L had; let b ← EntryCells.newEntry tb a .none (rawInt L) .none pl; setField (.ref e) 1 b) Q E s := by
  have eF : e ∉ (env :: l).filterMap (·.frame) := fun hm => by
    obtain ⟨_, o, ho, hn⟩ := fr.mem hm
    rw [hE] at ho
    cases ho
    exact hn _ rfl
  refine wpAny_bind (wpAny_frameOf_fun hfr fr hf fun h1 so => wpAny_bind (wpAny_entryPlaceOf fun pl hpl => ?_))
  unfold EntryCells.newEntry newFields
  refine wpAny_bind (wpAny_newObj_type ?_ (hpl.sizeOk5 _ _ _ _ _))
  have E1 : h1.get? e = some (exO C t tb) := (so.2.1 e eF).trans hE
  have st1 : B.StaysIn h1 := fun b o hb => (so.2.1 b fun hm => by rw [(fr.mem hm).1] at hb; cases hb).trans (st b o hb)
  have TE : h1.objs.size ≠ e := Nat.ne_of_gt (Heap.lt_size E1)
  generalize hN : ({ cls := .type "traceback", dict := none, data := .fields ([tb, .ref L, .none, rawInt L, .none] ++ (if pl.isEmpty then List.replicate 6 Value.none else pl)).toArray } : Obj) = nT
  have E2 : (h1.push nT).get? e = some (exO C t tb) := Heap.get?_push_of_some nT E1
  refine wpAny_setField (s := { s with heap := h1.push nT }) E2 rfl (by show 1 < 6; decide) (k _ ?_ ?_)
  all_goals
    have kp : ∀ b o, b ≠ e → h1.get? b = some o → ((h1.push nT).update e (Obj.mapFields (·.setIfInBounds 1 (Value.ref h1.objs.size)))).get? b = some o := fun b o hb q =>
      (Heap.get?_update_other _ _ (Ne.symm hb)).trans (Heap.get?_push_of_some nT q)
    have nrec : ∀ b o, s.heap.get? b = some o → (∀ vs, o.data ≠ .fields vs) → b ≠ e := fun b o hb hn q => by
      rw [q, hE] at hb
      cases hb
      exact hn _ rfl
  · have freed : nT.isFreed = false := by rw [← hN]; rfl
    refine ⟨fun b o hb => kp b o (fun q => by rw [q, ne] at hb; cases hb) (st1 b o hb), ne, fr.of_keeps fun b o hb hn => ?_, h1.objs.size, nT, _, Heap.get?_update_self _ E2 rfl, st1.fresh, TE,
      (Heap.get?_update_other _ _ (Ne.symm TE)).trans (Heap.get?_push_size h1 freed), by rw [← hN], by simp⟩
    obtain ⟨sl, q⟩ := so.2.2 b o hb
    exact ⟨_, kp b _ (nrec b o hb hn) q, rfl⟩
  · intro b o hb hn
    obtain ⟨sl, q⟩ := so.2.2 b o hb
    exact ⟨sl, kp b _ (nrec b o hb hn) q⟩
/-- a new exception is looked at by its own frame -/
theorem fx_note0 {Q : Unit → Shared → Prop} (hfr : A.frames = some (env :: l)) (hf : env.frame = some L) (st : B.StaysIn s.heap) (ne : B.get? e = none) (fr : s.heap.FunFrames B (env :: l))
    (hE : s.heap.get? e = some (exO C t .none)) (k : ∀ h', Fx B (env :: l) e C t (rawInt L) h' → s.heap.UpToSlots h' → Q () { s with heap := h' }) : wpAny M A (noteFrame (.ref e) env) Q E s := by
  unfold noteFrame
  simp only [hf]
  refine wpAny_bind (wpAny_field hE rfl (x := .none) rfl ?_)
  rw [if_neg (by decide)]
  exact fx_enter hfr hf st ne fr hE k
/-- one that comes from a callee -/
theorem fx_note {Q : Unit → Shared → Prop} (hfr : A.frames = some (env :: l)) (hf : env.frame = some L) (x : Fx B (env :: l) e C t .none s.heap)
    (k : ∀ h', Fx B (env :: l) e C t (rawInt L) h' → s.heap.UpToSlots h' → Q () { s with heap := h' }) : wpAny M A (noteFrame (.ref e) env) Q E s := by
  obtain ⟨st, ne, fr, T, oT, ts, hE, hBT, hTe, hT, hdT, h3⟩ := x
  unfold noteFrame
  simp only [hf]
  refine wpAny_bind (wpAny_field hE rfl (x := .ref T) rfl ?_)
  rw [if_pos (show (Value.ref T != Value.none) = true by simp)]
  refine wpAny_bind (wpAny_field hT hdT h3 ?_)
  rw [if_neg (show ¬ ((Value.none == rawInt L) = true) by simp [rawInt])]
  refine wpAny_bind (wpAny_setField hT hdT (Array.getElem?_eq_some_iff.mp h3).1 ?_)
  have oth : ∀ b, b ≠ T → (s.heap.update T (Obj.mapFields (·.setIfInBounds 3 Value.none))).get? b = s.heap.get? b := fun b hb => Heap.get?_update_other _ _ (Ne.symm hb)
  have nrec : ∀ b o, s.heap.get? b = some o → (∀ vs, o.data ≠ .fields vs) → b ≠ T := fun b o hb hn q => by
    rw [q, hT] at hb
    cases hb
    exact hn ts hdT
  exact fx_enter (s := { s with heap := s.heap.update T (Obj.mapFields (·.setIfInBounds 3 Value.none)) }) hfr hf (fun b o hb => (oth b fun q => by rw [q, hBT] at hb; cases hb).trans (st b o hb)) ne
    (fr.of_keeps fun b o hb hn => ⟨o, (oth b (nrec b o hb hn)).trans hb, rfl⟩) ((oth e (Ne.symm hTe)).trans hE)
    fun h' y u => k h' y fun b o hb hn => u b o ((oth b (nrec b o hb hn)).trans hb) hn
end
end L2

set_option Elab.async false
set_option linter.all false
set_option maxRecDepth 100000
namespace L2
open PySem PySem.Spec PyProof.Rows

section
variable {M : Model} {A : Around} {E : Value → Shared → Prop} {s : Shared} {B : Heap} {env : Env} {l : List Env} {e C t L : Addr}
/-- the flight's mark is set -/
theorem fx_flight {fl : Value} {f : Option Addr} {Q : Unit → Shared → Prop} (x : Fx B l e C t fl s.heap) (k : ∀ h', Fx B l e C t (f.elim Value.none fun f => rawInt f) h' → s.heap.UpToSlots h' → Q () { s with heap := h' }) : wpAny M A (setFlight (.ref e) f) Q E s := by
  obtain ⟨st, ne, fr, T, oT, ts, hE, hBT, hTe, hT, hdT, h3⟩ := x
  have h3s : 3 < ts.size := (Array.getElem?_eq_some_iff.mp h3).1
  unfold setFlight
  refine wpAny_bind (wpAny_field hE rfl (x := .ref T) rfl ?_)
  rw [if_pos (show (Value.ref T != Value.none) = true by simp)]
  refine wpAny_setField hT hdT h3s (k _ ?_ ?_)
  all_goals
    have oth : ∀ b, b ≠ T → (s.heap.update T (Obj.mapFields (·.setIfInBounds 3 (f.elim Value.none fun f => rawInt f)))).get? b = s.heap.get? b := fun b hb => Heap.get?_update_other _ _ (Ne.symm hb)
    have nrec : ∀ b o, s.heap.get? b = some o → (∀ vs, o.data ≠ .fields vs) → b ≠ T := fun b o hb hn q => by
      rw [q, hT] at hb
      cases hb
      exact hn ts hdT
  · refine ⟨fun b o hb => (oth b fun q => by rw [q, hBT] at hb; cases hb).trans (st b o hb), ne, fr.of_keeps fun b o hb hn => ⟨o, (oth b (nrec b o hb hn)).trans hb, rfl⟩, T, _, _, (oth e (Ne.symm hTe)).trans hE, hBT, hTe,
      Heap.get?_update_self _ hT (Obj.isFreed_of_fields (Obj.data_mapFields hdT _)), Obj.data_mapFields hdT _, ?_⟩
    simp [h3s]
  · exact fun b o hb hn => ⟨o.slots, (oth b (nrec b o hb hn)).trans hb⟩
/-- the frame has looked at it already -/
theorem fx_noteN {Q : Unit → Shared → Prop} (hf : env.frame = some L) (x : Fx B l e C t (rawInt L) s.heap) (k : Q () s) : wpAny M A (noteFrame (.ref e) env) Q E s := by
  obtain ⟨st, ne, fr, T, oT, ts, hE, hBT, hTe, hT, hdT, h3⟩ := x
  unfold noteFrame
  simp only [hf]
  refine wpAny_bind (wpAny_field hE rfl (x := .ref T) rfl ?_)
  rw [if_pos (show (Value.ref T != Value.none) = true by simp)]
  refine wpAny_bind (wpAny_field hT hdT h3 ?_)
  rw [if_pos (show ((rawInt L == rawInt L) = true) by simp)]
  exact wpAny_pure k
end

/-! ### what an exception leaves behind: B (all but the frames) holds the abstract heap -/
structure Bk (P : Program) (w : World) (outer : List Env) (H : Hp) (h : Heap) (H' : Hp) (B h' : Heap) : Prop where
  ok : HOk P w H' B
  keep : ∀ b o, h.get? b = some o → H b = none → b ∉ frs outer → B.get? b = some o
  slot : ∀ b o, h.get? b = some o → b ∈ frs outer → ∃ sl, h'.get? b = some { o with slots := sl }
  free : ∀ b o, h.get? b = some o → H b = none → H' b = none
  there : ∀ b o, h.get? b = some o → b ∉ frs outer → ∃ o', B.get? b = some o'
  tups : ∀ b xs, H b = some (.tup xs) → H' b = some (.tup xs)
  frzs : ∀ b o u, H b = some (.frz o u) → H' b = some (.frz o u)
  tbls : ∀ b ps, H b = some (.tbl ps) → ∃ more, H' b = some (.tbl (ps ++ more))
theorem Bk.slots {P : Program} {w : World} {outer : List Env} {H H' : Hp} {h B h1 h2 : Heap} (k : Bk P w outer H h H' B h1) (fr : h1.FunFrames B outer) (u : h1.UpToSlots h2) : Bk P w outer H h H' B h2 :=
  ⟨k.ok, k.keep, fun b o q hb => by
    obtain ⟨sl, e⟩ := k.slot b o q hb
    obtain ⟨_, o2, e2, n2⟩ := fr.mem hb
    rw [e] at e2
    cases e2
    obtain ⟨sl2, e3⟩ := u b _ e n2
    exact ⟨sl2, e3⟩, k.free, k.there, k.tups, k.frzs, k.tbls⟩
/-- behind a call that raised -/
def CX1 (P : Program) (w : World) : CXT := fun outer H s E e s' => ∃ ea C t H' B, e = .ref ea ∧ Fx B outer ea C t .none s'.heap ∧ s'.os = s.os ∧ AllBare s'.gens ∧ Bk P w outer H s.heap H' B s'.heap ∧ E (.ref C) none H'
/-- how an exception lies in a body -/
inductive Fly (B : Heap) (l : List Env) (L ea C t : Addr) (h : Heap) : Prop where
  | new (st : B.StaysIn h) (ne : B.get? ea = none) (fr : h.FunFrames B l) (ob : h.get? ea = some (exO C t .none))
  | came (x : Fx B l ea C t .none h)
  | seen (x : Fx B l ea C t (rawInt L) h)
theorem Fly.fr {B : Heap} {l : List Env} {L ea C t : Addr} {h : Heap} (x : Fly B l L ea C t h) : h.FunFrames B l := by
  cases x with
  | new st ne fr ob => exact fr
  | came x => exact x.fr
  | seen x => exact x.fr
def FlX (X : Cx) (E : XK) : Value → Shared → Prop := fun e s' => ∃ ea C t H' B, e = .ref ea ∧ Fly B X.stack X.env.locals ea C t s'.heap ∧ s'.os = X.s₀.os ∧ AllBare s'.gens ∧ Bk X.prog X.w X.outer X.H₀ X.s₀.heap H' B s'.heap ∧ E (.ref C) none H'
/-- a body, not a comprehension's block -/
structure Body (X : Cx) : Prop where
  stack : X.stack = X.env :: X.outer
  frame : X.env.frame = some X.env.locals
  ex : X.ex = []

section
variable {X : Cx} {pins : List (Addr × Obj)} {σ : St} {H : Hp} {s s' : Shared} {E : XK} {e : Value}
theorem Inv.frsN (I : Inv X pins σ H s) {b : Addr} {o : Obj} (q : X.s₀.heap.get? b = some o) (hb : b ∉ X.fs) : b ∉ frs X.stack := fun hm => by
  rcases List.mem_cons.mp (I.stkSub b hm) with z | z
  · rw [z] at q
    exact absurd (Nat.lt_of_lt_of_le (Heap.lt_size q) I.ok.above) (Nat.lt_irrefl _)
  · exact hb z
/-- an exception of a callee -/
theorem passX (hB : Body X) (I : Inv X pins σ H s) (c : CX1 X.prog X.w X.stack H s E e s') : FlX X E e s' := by
  obtain ⟨ea, C, t, H', B, rfl, fx, os, bare, bk, q⟩ := c
  have nx : ∀ b : Addr, b ∉ X.ex := fun b z => by rw [hB.ex] at z; exact nomatch z
  have fsS : ∀ b, b ∈ X.fs → b ∈ frs X.stack := fun b hb => by
    rw [hB.stack]; unfold frs; rw [List.filterMap_cons, hB.frame]; exact List.mem_cons_of_mem _ hb
  refine ⟨ea, C, t, H', B, rfl, .came fx, os.trans I.os, bare, ⟨bk.ok, fun b o e n hb => ?_, fun b o e hb => ?_, fun b o e n => ?_, fun b o e hb => ?_, fun b xs e => bk.tups b xs (I.base.tups b xs e), fun b o u e => bk.frzs b o u (I.base.frzs b o u e), fun b ps e => ?_⟩, q⟩
  · exact bk.keep b o (I.base.keep b o e n hb (nx b)) (I.base.free b o e n (nx b)) (I.frsN e hb)
  · obtain ⟨sl, e1⟩ := I.base.slot b o e (I.ok.frf b hb) hb (nx b)
    obtain ⟨sl2, e2⟩ := bk.slot b _ e1 (fsS b hb)
    exact ⟨sl2, e2⟩
  · obtain ⟨o', e1⟩ := I.base.there b o e (nx b)
    exact bk.free b o' e1 (I.base.free b o e n (nx b))
  · obtain ⟨o', e1⟩ := I.base.there b o e (nx b)
    exact bk.there b o' e1 (I.frsN e hb)
  · obtain ⟨m1, e1⟩ := I.base.tbls b ps e
    obtain ⟨m2, e2⟩ := bk.tbls b _ e1
    exact ⟨m1 ++ m2, by rw [e2, Array.append_assoc]⟩
/-- an exception made here -/
theorem madeX {h' : Heap} {ea C : Addr} {vs : List Value} (hB : Body X) (I : Inv X pins σ H s) (hx : Heap.MadeExcOf s.heap h' ea (.ref C) vs) (q : E (.ref C) none H) : FlX X E (.ref ea) { s with heap := h' } := by
  obtain ⟨t, ht, _, _⟩ := hx.there
  have nx : ∀ b : Addr, b ∉ X.ex := fun b z => by rw [hB.ex] at z; exact nomatch z
  have nfr : ∀ b u, H b = some u → b ∉ frs X.stack := fun b u e hm => by rw [I.stkFree b hm] at e; cases e
  refine ⟨ea, C, t, H, PySem.W.hideAll s.heap (frs X.stack), rfl, .new (fun b o e => hx.keeps b o (PySem.W.of_hideAll _ e)) ?_ ?_ ht, I.os, I.bare, ⟨fun b u e => ?_, fun b o e n hb => ?_, fun b o e hb => ?_, fun b o e n => I.base.free b o e n (nx b), fun b o e hb => ?_, I.base.tups, I.base.frzs, I.base.tbls⟩, q⟩
  · cases z : (PySem.W.hideAll s.heap (frs X.stack)).get? ea with
    | none => rfl
    | some o =>
      have := PySem.W.of_hideAll _ z
      rw [hx.new] at this
      cases this
  · exact (PySem.W.funFrames_hide I.stack fun env he a ha => List.mem_filterMap.mpr ⟨env, he, ha⟩).of_keeps fun b o hb _ => ⟨o, hx.keeps b o hb, rfl⟩
  · refine (I.hok b u e).stay (fun c v hc z => PySem.W.hideAll_get _ z ?_) (fun _ z => z) fun _ _ z => z
    rcases hc with z | z
    · rw [z]; exact nfr b u e
    · exact nfr c _ z
  · exact PySem.W.hideAll_get _ (I.base.keep b o e n hb (nx b)) (I.frsN e hb)
  · obtain ⟨sl, e1⟩ := I.base.slot b o e (I.ok.frf b hb) hb (nx b)
    exact ⟨sl, hx.keeps _ _ e1⟩
  · obtain ⟨o', e1⟩ := I.base.there b o e (nx b)
    exact ⟨o', PySem.W.hideAll_get _ e1 (I.frsN e hb)⟩
/-- the frame looks at it -/
theorem noteX {M : Model} {Q : Unit → Shared → Prop} {E' : Value → Shared → Prop} {B : Heap} {ea C t : Addr} (hB : Body X) (hfr : X.A.frames = some X.stack) (x : Fly B X.stack X.env.locals ea C t s.heap)
    (k : ∀ h', Fx B X.stack ea C t (rawInt X.env.locals) h' → s.heap.UpToSlots h' → Q () { s with heap := h' }) : wpAny M X.A (noteFrame (.ref ea) X.env) Q E' s := by
  rw [hB.stack] at x hfr k
  cases x with
  | new st ne fr ob => exact fx_note0 hfr hB.frame st ne fr ob k
  | came x => exact fx_note hfr hB.frame x k
  | seen x => exact fx_noteN hB.frame x (k s.heap x (.refl _))
theorem frs_sub (hB : Body X) {B h : Heap} (x : h.FunFrames B X.stack) : h.FunFrames B X.outer := by
  rw [hB.stack] at x
  exact x.2.2
/-- it leaves the frame -/
theorem leaveX {M : Model} {E' : Value → Shared → Prop} (hB : Body X) (hfr : X.A.frames = some X.stack) (c : FlX X E e s) : wpAny M X.A (leaving X.env e) (fun _ s'' => CX1 X.prog X.w X.outer X.H₀ X.s₀ E e s'') E' s := by
  obtain ⟨ea, C, t, H', B, rfl, fx, os, bare, bk, q⟩ := c
  unfold leaving
  refine wpAny_bind (noteX hB hfr fx fun h1 x1 u1 => fx_land (s := { s with heap := h1 }) x1 fun h2 x2 u2 => ?_)
  have x3 := x2
  rw [hB.stack] at x3
  exact ⟨ea, C, t, H', B, rfl, x3.outer, os, bare, bk.slots (frs_sub hB fx.fr) (u1.trans u2), q⟩
/-- .. and may be passed on within it -/
theorem ownX (hB : Body X) (hfr : X.A.frames = some X.stack) : PassesOwn (model X.prog X.w) X.A X.env (FlX X E) := by
  rintro e s ⟨ea, C, t, H', B, rfl, fx, os, bare, bk, q⟩
  unfold notedBy
  refine noteX hB hfr fx fun h1 x1 u1 => ?_
  obtain ⟨T, oT, ts, hE, _⟩ := x1.ob
  unfold cameBackBy
  refine wpAny_bind (wpAny_field (s := { s with heap := h1 }) hE rfl (x := .ref T) rfl ?_)
  rw [if_neg (by simp)]
  refine fx_flight (s := { s with heap := h1 }) (f := X.env.frame) x1 fun h2 x2 u2 => ?_
  rw [hB.frame] at x2
  exact ⟨ea, C, t, H', B, rfl, .seen x2, os, bare, bk.slots (frs_sub hB fx.fr) (u1.trans u2), q⟩
end
end L2

set_option Elab.async false
set_option linter.all false
set_option maxRecDepth 100000
namespace L2
open PySem PySem.Spec PyProof.Rows

/-! ### own exception classes -/
def mroK (K : PySem.W.Frag) (C : Addr) : List Value := match K.lookup C with
  | some ⟨_, _, .cls cd, _⟩ => cd.mro
  | _ => []
theorem exc_obj {K : PySem.W.Frag} {h : Heap} {C : Addr} {bmB : List Value} {nid : String} (X : K.In h) (q : PySem.W.excIn K C bmB nid = true) :
    ∃ bm N nm qn bs hdct sn sub ab col dd k0 k1 k2 k3 k5 mN, mroK K C = .ref C :: bm ∧ h.get? C = some (excClassObj nm qn C N bs bm hdct sn sub ab col dd k0 k1 k2 k3 k5 nid) ∧ h.Ns N mN ∧ mN "__init__" = none ∧ OwnTail h bmB bm := by
  unfold PySem.W.excIn at q
  split at q
  next dd cd sl ho =>
    split at q
    next C' bm k0 k1 k2 k3 n k5 hm hs =>
      have hM : mroK K C = cd.mro := by unfold mroK; rw [ho]
      simp only [Bool.and_eq_true, beq_iff_eq, Bool.not_eq_true'] at q
      obtain ⟨⟨⟨⟨⟨q1, q2⟩, hdel⟩, ht⟩, hok⟩, hni⟩ := q
      subst q1 q2
      have hsl : sl = #[k0, k1, k2, k3, some (.builtin n), k5] := by rw [← hs]
      rw [hm] at hM
      cases cd
      dsimp only at hm hdel hok hni
      subst hm hdel hsl
      exact ⟨bm, _, _, _, _, _, _, _, _, _, dd, k0, k1, k2, k3, k5, _, hM, X _ _ ho, .of_isNs (PySem.W.isNs_of_in X hok), PySem.W.nsMap_none_of_in X hok hni, PySem.W.tail_of_in X ht⟩
    next => cases q
  next => cases q

/-! ### raise C(e, ..) -/
def tRaise (C : Addr) (E : XK) (t : TA) : TS := fun _ σ H => t σ H fun vs H1 => vs.length ≤ sizeLine ∧ E (.ref C) none H1
section
variable {X : Cx} {x : Str} {C : Addr} {bmB bmN : List Value} {B Bn nid nid' iid iid' : String} {E : XK} {e : Expr} {es : List Expr} {t : TA} {np cpos pos : Pos}
theorem ps_raise (hB : Body X) (hc : X.calm = true) (hw : ∀ e s', FlX X E e s' → X.xe e s') (Fn : ExcBaseFacts Bn nid iid bmN) (hn : bmB.contains (.type Bn) = true) (FB : ExcBaseFacts B nid' iid' bmB) (q : PySem.W.excIn X.K C bmB nid = true) (hg : Gl X x) (hm : X.mg x = some (.ref C)) (ha : PA X.nox (e :: es) t)
    (hd : (x == ("__debug__" : Str)) = false := by decide) (he : starEach (e :: es) X.env = (false, eval e X.env) :: starEach es X.env := by rfl) (hpl : (backTo cpos (starEach es X.env)).any (·.1) = false := by rfl) :
    PS X (.Raise (some (.Call (.Name x np) (e :: es) [] cpos)) none pos) (tRaise C E t) := by
  intro pins s σ H D I h
  obtain ⟨bm, N, nm, qn, bs, hdct, sn, sub, ab, col, dd, k0, k1, k2, k3, k5, mN, _, hC, hN, hni, T⟩ := exc_obj I.ok.mod.kin q
  refine wpAny_Raise_call_subU (N := N) (C := C) (k5 := k5) (k3 := k3) (k2 := k2) (k1 := k1) (k0 := k0) (dd := dd) (col := col) (ab := ab) (sub := sub) (sn := sn) (hdct := hdct) (bs := bs) (q := qn) (nm := nm) (newId := nid) Fn hn FB (mN := mN) (T.hasType FB.hasBase) (I.ok.hd hc) (by rw [he]; show (false || (backTo cpos (starEach es X.env)).any (·.1)) = false; rw [hpl]; rfl) hni (ld_glob I hg hm ⟨rfl, ?_⟩ hd)
  have h1 := ha cpos pins s σ H _ (I.wish _) h
  rw [he] at h1 ⊢
  refine Calls.evalArgs_plain (wpAny_mono h1 (fun us s2 z => ?_) fun _ _ z => z.elim)
  obtain ⟨vs, H1, I1, r, hl, hE⟩ := z
  have I2 : Inv X pins σ H1 s2 := I1.unwish
  exact ⟨rfl, by rw [← r.length]; exact hl, I2.bk _ _ hC, hN.keeps I2.bk, T.keeps I2.bk, fun h' ea hx => hw _ _ (madeX hB I2 hx hE)⟩
end

/-! ### a def whose exceptions matter -/
abbrev cx1 (P : Program) (w : World) (K : PySem.W.Frag) (mg : Str → Option Value) (base : Heap) (N : List Str) (qual : Str) (scope : Scope) (f : Addr) (cd : Value) (A : Around) (outer : List Env) (s : Shared) (H : Hp) (E : XK) : Cx :=
  (cxOf (CX1 P w) P w K mg base N qual scope f cd A outer s H E).wish (FlX (cxOf (CX1 P w) P w K mg base N qual scope f cd A outer s H E) E)
section
variable {P : Program} {w : World} {K : PySem.W.Frag} {mg : Str → Option Value} {base : Heap}
theorem body1 {N : List Str} {qual : Str} {scope : Scope} {f : Addr} {cd : Value} {A : Around} {outer : List Env} {s : Shared} {H : Hp} {E : XK} : Body (cx1 P w K mg base N qual scope f cd A outer s H E) := ⟨rfl, rfl, rfl⟩
theorem Fun.okX {x qual : Str} {st : Stmt} {f : Addr} {fd : FuncData} {N ps : List Str} {k : Nat} {sp : Sp} (F : Fun K x qual st f fd) (S : FnScope N ps (defScope st)) (len : ∀ vs H Q E, sp vs H Q E → vs.length = ps.length)
    (hbody : ∀ (cdv : Value) (A : Around) (outer : List Env) (s : Shared) (H : Hp) (vs : List V) (Q : VK) (E : XK), Room k (A.deeper (envOfC qual (defScope st) s.heap.objs.size f cdv)) → sp vs H Q E →
      ∃ t, PSs (cx1 P w K mg base N qual (defScope st) f cdv A outer s H E) (defBody st) t ∧ t { nx := fun _ H' => Q .non H', rt := Q } (start N vs) H) : FnOk P w K mg base (CX1 P w) (k + 1) f fd ps sp := by
  obtain ⟨oc, od, kV, doc, pm, an, cdv, ct, osl, rfl, lk, hcd⟩ := F.ex
  refine fn_of lk hcd S len fun A outer s H vs Q E hr hsp => ?_
  obtain ⟨t, h, q⟩ := hbody cdv A outer s H vs Q E hr hsp
  refine ⟨t, fun pins s1 σ H1 D I h1 => ?_, q⟩
  exact wpAny_mono (h pins s1 σ H1 D (I.wish _) h1) (fun _ _ z => z.unwish) fun e s' z => leaveX (X := cxOf (CX1 P w) P w K mg base N qual (defScope st) f cdv A outer s H E) ⟨rfl, rfl, rfl⟩ I.ok.frames z
/-- the exceptions of a callee of the same wish -/
theorem pass1 {N : List Str} {qual : Str} {scope : Scope} {f : Addr} {cd : Value} {A : Around} {outer : List Env} {s : Shared} {H : Hp} {E : XK} :
    Passes (CX1 P w) (cx1 P w K mg base N qual scope f cd A outer s H E) E := fun _ _ _ _ _ _ I c => passX ⟨rfl, rfl, rfl⟩ I.unwish c
end
theorem PS.nox {X : Cx} {st : Stmt} {t : TS} (h : PS X.nox st t) : PS X st t := fun pins s σ H D I hw =>
  wpAny_mono (h pins s σ H D (I.wish _) hw) (fun _ _ q => q.unwish) fun _ _ z => False.elim z

/-! ### an expression that may raise, tried -/
def PEX (X : Cx) (e : Expr) (t : XK → TE) : Prop := ∀ (pins : List (Addr × Obj)) (s : Shared) (σ : St) (H : Hp) (Q : VK) (E : XK), Inv X pins σ H s → t E σ H Q →
  wpAny (model X.prog X.w) X.A (eval e X.env) (EP X pins σ Q) (fun ex s' => ∃ H1 s1, Inv X pins σ H1 s1 ∧ CX1 X.prog X.w X.stack H1 s1 E ex s') s
section
variable {X : Cx} {k : Nat} {f C : Addr} {fd : FuncData} {ps : List Str} {sp : Sp} {dvs : List V} {ds : List Value} {x m : Str} {p pos apos : Pos} {e o : Expr} {es : List Expr} {ta : TE} {t : TA}
end
end L2

set_option Elab.async false
set_option linter.all false
set_option maxRecDepth 100000
namespace L2
open PySem PySem.Spec PyProof.Rows

/-! ### an exception that was caught, as a tracked thing -/
def exH (C a : Addr) : HO := .ext fun h => ∃ t tb, h.get? a = some (exO C t tb)
theorem ObjOk.get {P : Program} {w : World} {H : Hp} {h : Heap} {a : Addr} {o : HO} (x : ObjOk P w H h a o) : ∃ u, h.get? a = some u := by
  induction o with
  | lst xs => obtain ⟨_, _, _, _, e⟩ := x; exact ⟨_, e⟩
  | tup xs => obtain ⟨_, _, _, _, e, _⟩ := x; exact ⟨_, e⟩
  | dK kvs => obtain ⟨_, _, _, _, _, _, _, e, _⟩ := x; exact ⟨_, e⟩
  | dT kvs => obtain ⟨_, _, _, _, _, _, _, e, _⟩ := x; exact ⟨_, e⟩
  | set S n => obtain ⟨_, _, _, _, e, _⟩ := x; exact ⟨_, e⟩
  | ins C dx fs => obtain ⟨_, _, _, e, _⟩ := x; exact ⟨_, e⟩
  | own y => obtain ⟨_, e⟩ := x; exact ⟨_, e⟩
  | xd fs => obtain ⟨_, ⟨_, _, _, e, _⟩, _⟩ := x; exact ⟨_, e⟩
  | rng lo hi => obtain ⟨_, _, _, e⟩ := x; exact ⟨_, e⟩
  | frz ob u ih => obtain ⟨e, _⟩ := x; exact ⟨_, e⟩
  | tbl ps => exact ⟨_, x⟩
  | met f y => exact ⟨_, x⟩
  | ext φ => exact x.2.1
section
variable {X : Cx} {pins : List (Addr × Obj)} {σ : St} {H H' : Hp} {s s' : Shared} {B h2 : Heap} {ea C t : Addr} {fl : Value}
theorem Bk.none {P : Program} {w : World} {outer : List Env} {h h' : Heap} (k : Bk P w outer H h H' B h') (ne : B.get? ea = Option.none) : H' ea = Option.none := by
  cases q : H' ea with
  | none => rfl
  | some o =>
    obtain ⟨u, e⟩ := (k.ok ea o q).get
    rw [ne] at e
    cases e
theorem caughtI (I : Inv X pins σ H s) (os : s'.os = s.os) (bare : AllBare s'.gens) (bk : Bk X.prog X.w X.stack H s.heap H' B h2) (fx : Fx B X.stack ea C t fl h2) :
    Inv X pins σ (upd H' ea (exH C ea)) { s' with heap := h2 } := by
  have hn := bk.none fx.ne
  obtain ⟨T, oT, ts, hE, _⟩ := fx.ob
  have ne : ∀ b o, s.heap.get? b = some o → b ≠ ea := fun b o e z => by
    by_cases hb : b ∈ frs X.stack
    · obtain ⟨_, o2, e2, n2⟩ := fx.fr.mem hb
      rw [z, hE] at e2
      cases e2
      exact n2 _ rfl
    · obtain ⟨o', e1⟩ := bk.there b o e hb
      rw [z, fx.ne] at e1
      cases e1
  have nt : ∀ b u, H' b = some u → b ≠ ea := fun b u e z => by
    rw [z, hn] at e
    cases e
  obtain ⟨hh, g, d, tk, os'⟩ := s'
  obtain rfl : os' = s.os := os
  refine I.call (s := s) (h' := h2) (g' := g) (d' := d) (t' := tk) (ch := []) ⟨fun b o e n hb _ => fx.st _ _ (bk.keep b o e n hb), fun b o e n hb _ => bk.slot b o e hb, fun b o e n _ => ?_, fun b o e _ => ?_, fun b xs e => ?_, fun b o u e => ?_, fun b ps e => ?_⟩ (fun b u e => ?_) bare (fun b z => nomatch z)
  · rw [upd_ne (ne b o e)]
    exact bk.free b o e n
  · by_cases hb : b ∈ frs X.stack
    · obtain ⟨sl, e1⟩ := bk.slot b o e hb
      exact ⟨_, e1⟩
    · obtain ⟨o', e1⟩ := bk.there b o e hb
      exact ⟨o', fx.st _ _ e1⟩
  · have e1 := bk.tups b xs e
    rw [upd_ne (nt _ _ e1)]
    exact e1
  · have e1 := bk.frzs b o u e
    rw [upd_ne (nt _ _ e1)]
    exact e1
  · obtain ⟨m1, e1⟩ := bk.tbls b ps e
    exact ⟨m1, by rw [upd_ne (nt _ _ e1)]; exact e1⟩
  · by_cases hb : b = ea
    · subst hb
      rw [upd_same] at e
      cases e
      exact ⟨⟨t, _, hE⟩, ⟨_, hE⟩, fun h1 h3 ⟨t', tb', q⟩ k => ⟨t', tb', k _ q⟩⟩
    · rw [upd_ne hb] at e
      refine (bk.ok b u e).stay (fun c v _ q => fx.st _ _ q) (fun c q => ?_) fun c xs q => ?_
      · rw [upd_ne (nt _ _ q)]; exact q
      · rw [upd_ne (nt _ _ q)]; exact q

/-! ### the handler's context -/
abbrev Cx.hdl (X : Cx) (e : Addr) : Cx := { X with A := X.A.mark (some (.ref e)), calm := false, xe := fun _ _ => False }
theorem Inv.hdl (I : Inv X pins σ H s) (e : Addr) : Inv (X.hdl e) pins σ H s :=
  ⟨⟨I.ok.mod, I.ok.kind, I.ok.glob, I.ok.blt, I.ok.above, I.ok.inj, I.ok.has, I.ok.cab, (fun z => nomatch z), I.ok.frames, I.ok.stk, I.ok.exf, I.ok.bs, I.ok.bsz, I.ok.noex, I.ok.exfs, I.ok.funs, I.ok.frf⟩, I.os, I.bare, I.base, I.loc, I.cell, I.free, I.freeC, I.pin, I.hok, I.len⟩
theorem Inv.unhdl {e : Addr} (hd : X.calm = true → X.A.handled = none) (I : Inv (X.hdl e) pins σ H s) : Inv X pins σ H s :=
  ⟨⟨I.ok.mod, I.ok.kind, I.ok.glob, I.ok.blt, I.ok.above, I.ok.inj, I.ok.has, I.ok.cab, hd, I.ok.frames, I.ok.stk, I.ok.exf, I.ok.bs, I.ok.bsz, I.ok.noex, I.ok.exfs, I.ok.funs, I.ok.frf⟩, I.os, I.bare, I.base, I.loc, I.cell, I.free, I.freeC, I.pin, I.hok, I.len⟩
/-- the name of the exception goes -/
theorem Inv.forget {n : Str} {j : Nat} {m : Str → Option Value} {v : Option Value} {tk : Nat} {h' : Heap} (I : Inv X pins σ H s) (hN : X.N.Nodup) (hj : X.N[j]? = some n) (hn : s.heap.Ns X.env.locals m)
    (hm : ∀ (i : Nat) (x : Str) (v : V), X.N[i]? = some x → σ[i]? = some (some v) → Vis X.env.scope x → ∃ u, RelV v u ∧ Look X.env s.heap m x u) (hn' : h'.Ns X.env.locals (fun x => if x = n then v else m x)) (hs : Heap.SameBut X.env.locals s.heap h') :
    Inv X pins (σ.set j none) H { s with heap := h', toks := tk } := by
  obtain ⟨oL, _, _, hoL, _⟩ := id hn
  have neL : ∀ b o, X.s₀.heap.get? b = some o → b ≠ X.env.locals := fun b o e => Nat.ne_of_lt (Nat.lt_of_lt_of_le (Heap.lt_size e) I.ok.above)
  refine ⟨I.ok, I.os, I.bare, ⟨fun b o e n hb hx => ?_, fun b o e n hb hx => ?_, I.base.free, fun b o e hx => ?_, I.base.tups, I.base.frzs, I.base.tbls⟩, ⟨_, hn', fun i y w e1 e2 e3 => ?_⟩, fun y c e => ?_, I.free, I.freeC, fun p hp => ?_, fun b u e => ?_, by rw [List.length_set]; exact I.len⟩
  · exact (hs.2 b (neL b o e)).trans (I.base.keep b o e n hb hx)
  · obtain ⟨sl, e1⟩ := I.base.slot b o e n hb hx
    exact ⟨sl, (hs.2 b (neL b o e)).trans e1⟩
  · obtain ⟨o', e1⟩ := I.base.there b o e hx
    exact ⟨o', (hs.2 b (neL b o e)).trans e1⟩
  · by_cases hij : i = j
    · subst hij
      rw [List.getElem?_set] at e2
      split at e2
      · split at e2 <;> cases e2
      · exact absurd rfl ‹_›
    · rw [List.getElem?_set_ne (Ne.symm hij)] at e2
      obtain ⟨u, r, l⟩ := hm i y w e1 e2 e3
      refine ⟨u, r, ?_⟩
      rcases l with ⟨k, z⟩ | ⟨k, c, z, y'⟩
      · have : y ≠ n := fun q => hij (nodup_ix hN e1 (q ▸ hj))
        exact .inl ⟨k, by simp [this, z]⟩
      · exact .inr ⟨k, c, z, y'.sameBut hs (I.cne y c z)⟩
  · obtain ⟨v', z⟩ := I.cell y c e
    exact ⟨v', z.sameBut hs (I.cne y c e)⟩
  · obtain ⟨e, n1, n2, nf, d⟩ := I.pin p hp
    exact ⟨(hs.2 p.1 n2).trans e, n1, n2, nf, d⟩
  · refine (I.hok b u e).stay (fun c w' hc q => (hs.2 c ?_).trans q) (fun _ q => q) fun _ _ q => q
    rintro rfl
    rcases hc with z | z
    · rw [← z, I.free] at e; cases e
    · rw [I.free] at z; cases z
end
end L2

set_option Elab.async false
set_option linter.all false
set_option maxRecDepth 100000
namespace L2
open PySem PySem.Spec PyProof.Rows

section
variable {M : Model} {A : Around} {E : Value → Shared → Prop} {h : Heap} {g : Array GenState} {d : Drawn} {t : Nat} {os : OsState}
/-- is it caught by a class of one's own? -/
theorem exc_matches {K : PySem.W.Frag} {C D e : Addr} {bC bD : List Value} {nC nD : String} {oe : Obj} {Q : Bool → Shared → Prop} (X : K.In h) (qC : PySem.W.excIn K C bC nC = true) (qD : PySem.W.excIn K D bD nD = true)
    (hb : bD.contains (.type "BaseException") = true) (he : h.get? e = some oe) (hc : oe.cls = .ref C) (hq : Q ((mroK K C).contains (.ref D)) ⟨h, g, d, t, os⟩) : wpAny M A (excMatches (.ref e) (.ref D)) Q E ⟨h, g, d, t, os⟩ := by
  obtain ⟨bm1, _, _, _, _, _, _, _, _, _, _, _, _, _, _, _, _, e1, hC, _, _, T1⟩ := exc_obj X qC
  obtain ⟨bm2, _, _, _, _, _, _, _, _, _, _, _, _, _, _, _, _, _, hD, _, _, T2⟩ := exc_obj X qD
  have hcB : (Value.ref D :: bm2).contains (.type "BaseException") = true := by rw [List.contains_cons, T2.hasType hb, Bool.or_true]
  have f := tc_notTuple
  rw [e1] at hq
  unfold excMatches
  repeat (first | (with_reducible refine wpAny_loadPart_at he ?_; rw [hc]) | with_reducible refine wpAny_loadPart_at hD ?_ | (with_reducible refine wpAny_isSubtype_exc hD ?_; rw [hcB]) | with_reducible refine wpAny_isSubtype_exc hC ?_ | wp_step)
  all_goals (revert hq; cases (Value.ref C :: bm1).contains (Value.ref D) <;> intro hq)
  all_goals (repeat (first | exact hq | wp_step))
end

/-! ### a statement that may raise, tried: where it raises the names are as they were -/
abbrev WX (X : Cx) (pins : List (Addr × Obj)) (σ : St) (E : XK) : Value → Shared → Prop := fun ex s' => ∃ H1 s1, Inv X pins σ H1 s1 ∧ CX1 X.prog X.w X.stack H1 s1 E ex s'
def PSX (X : Cx) (st : Stmt) (t : XK → TS) : Prop := ∀ (pins : List (Addr × Obj)) (s : Shared) (σ : St) (H : Hp) (D : Ends) (E : XK), Inv X pins σ H s → t E D σ H → wpAny (model X.prog X.w) X.A (exec st X.env) (SP X pins D) (WX X pins σ E) s
def PSXs (X : Cx) (st : List Stmt) (t : XK → TS) : Prop := ∀ (pins : List (Addr × Obj)) (s : Shared) (σ : St) (H : Hp) (D : Ends) (E : XK), Inv X pins σ H s → t E D σ H → wpAny (model X.prog X.w) X.A (execs st X.env) (SP X pins D) (WX X pins σ E) s
section
variable {X : Cx} {e : Expr} {t u : XK → TS} {te : XK → TE} {pos : Pos} {st : Stmt}
theorem psxs_one (h : PSX X st t) : PSXs X [st] t := by
  intro pins s σ H D E I h1
  refine wpAny_execs_cons (thn (h pins s σ H D E I h1) fun f s1 q => ?_)
  match f, q with
  | .next, q => exact wpAny_execs_nil q
  | .brk, q => exact q
  | .cont, q => exact q
  | .ret u, q => exact q
theorem psx_expr (he : PEX X e te) (hs : swapsWith e none pos.line X.env = pure false := by rfl) : PSX X (.Expr e pos) fun E => tDrop (te E) := by
  intro pins s σ H D E I h
  exact wpAny_Expr_any (thn (he pins s σ H _ E I h) fun v s1 ⟨x, H1, I1, r1, q1⟩ => ⟨σ, H1, I1, q1⟩) I.quiet hs
/-! ### try: .. except D as n: .. -/
abbrev Ends.un (D : Ends) (j : Nat) : Ends := { nx := fun σ H => D.nx (σ.set j none) H, rt := D.rt, bk := fun σ H => D.bk (σ.set j none) H, ct := fun σ H => D.ct (σ.set j none) H }
/-- the class C is one that D's name catches -/
def Sub (K : PySem.W.Frag) (C D : Addr) : Prop := (∃ bm nid, PySem.W.excIn K C bm nid = true) ∧ (mroK K C).contains (.ref D) = true
def tTry (K : PySem.W.Frag) (Ch : Addr) (j : Nat) (t : XK → TS) (ts : TS) : TS := fun D σ H => t (fun c _ H' => ∃ C, c = .ref C ∧ Sub K C Ch ∧ ∀ ea, H' ea = none → ts (D.un j) (σ.set j (some (.ref ea))) (upd H' ea (exH C ea))) D σ H
theorem ps_try {body suite : List Stmt} {b₀ : Stmt} {ts : TS} {n x : Str} {j : Nat} {Ch : Addr} {bmB : List Value} {nid : String} {np hpos : Pos} (hB : Body X) (hc : X.calm = true) (hb : PSXs X body t) (hN : X.N.Nodup) (hj : X.N[j]? = some n)
    (hn : X.env.scope.names.lookup n = some .local) (hg : Gl X x) (hm : X.mg x = some (.ref Ch)) (hq : PySem.W.excIn X.K Ch bmB nid = true) (hbs : bmB.contains (.type "BaseException") = true) (hs : ∀ ea, PSs (X.hdl ea) (b₀ :: suite) ts)
    (hd : (x == ("__debug__" : Str)) = false := by decide) :
    PS X (.Try body [.ExceptHandler (some (.Name x np)) (some n) (b₀ :: suite) hpos] [] [] pos) (tTry X.K Ch j t ts) := by
  intro pins s σ H D I h
  refine wpAny_Try_except (wpAny_mono (hb pins s σ H D _ I h) (fun f s1 q => ?_) fun ex s1 z => ?_)
  · match f, q with
    | .next, q => exact wpAny_execs_nil q
    | .brk, q => exact q
    | .cont, q => exact q
    | .ret u, q => exact q
  · obtain ⟨H1, s0, I0, ea, C, t0, H', B, rfl, fx, os, bare, bk, C', eC, ⟨⟨bC, nC, qC⟩, sub⟩, ht⟩ := z
    obtain rfl : C = C' := by cases eC; rfl
    refine noteX hB I.ok.frames (.came fx) fun h1 x1 u1 => fx_land (s := { s1 with heap := h1 }) x1 fun h2 x2 u2 => ?_
    have bk2 := (bk.slots fx.fr u1).slots x1.fr u2
    have I2 : Inv X pins σ (upd H' ea (exH C ea)) { s1 with heap := h2 } := caughtI I0 os bare bk2 x2
    refine wpAny_handleBy_cons (codeAny_handlers_test (ld_glob (X := X.hdl ea) (I2.hdl ea) hg hm ?_ hd)) (by intro q; cases q)
    obtain ⟨T, oT, tt, hE, _⟩ := x2.ob
    refine exc_matches I2.kIn qC hq hbs hE rfl ?_
    rw [sub]
    refine codeAny_handlers_suite_as ?_
    refine fx_land (s := { s1 with heap := h2 }) x2 fun h3 x3 u3 => ?_
    have I3 : Inv X pins σ (upd H' ea (exH C ea)) { s1 with heap := h3 } := caughtI I0 os bare (bk2.slots x2.fr u3) x3
    refine store_ok (X := X.hdl ea) (I3.hdl ea) hN hj (.inl hn) (v := .ref ea) rfl (fun s4 I4 => ?_) (.inr hn)
    refine wpAny_mono (hs ea pins s4 _ _ _ I4 (ht ea (bk.none fx.ne))) (fun f s5 q => ?_) fun _ _ z => z.elim
    have go : ∀ {σ' : St} {H5 : Hp} {Q : Unit → Shared → Prop}, Inv (X.hdl ea) pins σ' H5 s5 → (∀ s6, Inv X pins (σ'.set j none) H5 s6 → Q () s6) → wpAny (model X.prog X.w) X.A (do bindName X.env n .none; unbindBehindTheSuite X.env n hpos) Q X.xe s5 := fun {σ' H5 Q} J k => by
      have J' : Inv X pins σ' H5 s5 := J.unhdl I.ok.hd
      obtain ⟨m, hns, hl⟩ := id J'.loc
      refine wpAny_nameGoes_keeps hn hns (by rw [I.ok.kind]; rfl) fun h6 v hn6 hs6 => k _ ?_
      exact J'.forget hN hj hns hl hn6 hs6
    match f, q with
    | .next, ⟨σ', H5, J, q⟩ => exact go J fun s6 J6 => ⟨_, H5, J6, q⟩
    | .brk, ⟨σ', H5, J, q⟩ => exact go J fun s6 J6 => ⟨_, H5, J6, q⟩
    | .cont, ⟨σ', H5, J, q⟩ => exact go J fun s6 J6 => ⟨_, H5, J6, q⟩
    | .ret u, ⟨v, σ', H5, J, r, q⟩ => exact go J fun s6 J6 => ⟨v, _, H5, J6, r, q⟩
end
end L2

set_option Elab.async false
set_option linter.all false
set_option maxRecDepth 100000
namespace L2
open PySem PySem.Spec PyProof.Rows

/-! ### an own exception class that was made of a built-in one: what is asked of its things -/
structure ExC (K : PySem.W.Frag) (C : Addr) : Prop where
  ga : PySem.W.findIn K (.ref C) "__getattribute__" = some (some (.builtin "BaseException.__getattribute__"))
  gt : PySem.W.findIn K (.ref C) "__getattr__" = some none
  cl : PySem.W.findIn K (.ref C) "__class__" = some (some (.builtin "object.__class__"))
  gc : PySem.W.specialIn K (.builtin "object.__class__") "__get__" = some (some (.builtin "getset_descriptor.__get__"))
  tk : PySem.W.takesIn K (.builtin "object.__class__") = some true
  ob : PySem.W.mroIn K C (.type "object") = some true
  be : PySem.W.mroIn K C (.type "BaseException") = some true
  is : (PySem.W.clsIn K C).isSome = true

section
variable {prog : Program} {w : World} {A : Around} {E : Value → Shared → Prop} {s : Shared} {K : PySem.W.Frag} {x C t : Addr} {tb : Value}
theorem ex_inst {h : Heap} (hx : h.get? x = some (exO C t tb)) : PySem.W.InstAt h x (exO C t tb) C none := ⟨hx, rfl, rfl, True.intro⟩
/-- e.__class__ -/
theorem ex_class {Q : Option Value → Shared → Prop} (X : K.In s.heap) (hx : s.heap.get? x = some (exO C t tb)) (c : ExC K C) (h : Q (some (.ref C)) { s with toks := s.toks + 1 }) : wpAny (model prog w) A (getAttr? (.ref x) "__class__") Q E s := by
  have I := ex_inst hx
  obtain ⟨hh, g, d, tk, os⟩ := s
  have L0 : PySem.W.Looks (model prog w) hh (typeOf (.ref x)) (.ref C) := I.type
  have L1 := PySem.W.looks_findIn (M := model prog w) X c.ga
  have L2 := PySem.W.looks_findIn (M := model prog w) X c.gt
  have hfo : PySem.W.findObj K C none "__class__" = some (.bind (.builtin "getset_descriptor.__get__") (.builtin "object.__class__")) := by
    obtain ⟨cd, hc⟩ := Option.isSome_iff_exists.mp c.is
    unfold PySem.W.findObj
    rw [hc, Option.bind_some, c.cl, Option.bind_some]
    simp [c.gc, c.tk]
  have L3 := PySem.W.looks_find (M := model prog w) X I hfo
  have L4 : PySem.W.Looks (model prog w) hh (isInstance (.ref x) (.type "BaseException")) true := L0.andThen (PySem.W.looks_mroIn X c.be)
  have f3 := F.excAttr_ValueError.ga.bind (.ref x)
  unfold getAttr? getAttrBy? getAttrBy
  refine wpAny_bind (wpAny_mkText (wpAny_bind (wpAny_attempt (wpAny_holding (wpAny_bind (L0.at (wpAny_bind (L1.at ?_))))))))
  show wpAny _ _ (getAttrByItsOwn _ _ _ _ _ _) _ _ _
  unfold getAttrByItsOwn hookBefore
  rw [if_pos (show onTheHeap (Value.ref C) = true from rfl)]
  refine wpAny_bind (L2.at (wpAny_bind (wpAny_attempt (wpAny_holding ?_))))
  unfold callGetattribute
  rw [if_neg (show ¬ ((false && onTheHeap (Value.builtin "BaseException.__getattribute__")) = true) by simp)]
  unfold boundAndCalled
  rw [f3]
  refine wpAny_bind (wpAny_pure (wpAny_call (codeAny_call_builtin F.excAttr_ValueError.ga.plain F.entry_bexc_ga ?_)))
  have hk : builtinKind "BaseException.__getattribute__" = some .slot := by decide +kernel
  have hsp : splitId "BaseException.__getattribute__" = some ("BaseException", "__getattribute__") := by decide +kernel
  have ha := F.args_bexc_ga (.ref x) (.str "__class__" tk)
  simp only [checkBuiltinCall, hk, hsp]
  refine wpAny_bind (L4.at ?_)
  repeat (first | (with_reducible refine wpAny_bind (L0.at (wpAny_bind (L3.at ?_)))) | wp_step)
  refine PySem.W.class_get (s := ⟨hh, g, d, tk + 1, os⟩) (ox := exO C t tb) (od := none) X I c.ob ?_
  exact wpAny_pure (PySem.W.handed_on rfl (wpAny_pure h))
theorem kitx_exc (c : ExC K C) : PySem.W.KitX K (.ref x) (.ref C) (fun h => ∃ t tb, h.get? x = some (exO C t tb)) where
  ty := fun M h _ ⟨t, tb, e⟩ => (ex_inst e).type
  it := fun M h X _ => by
    obtain ⟨cd, hc⟩ := Option.isSome_iff_exists.mp c.is
    unfold PySem.W.clsIn at hc
    split at hc
    next ho =>
      intro A' Q' E' s' k q
      unfold isType loadHead
      exact wpAny_bind (wpAny_loadPart (k _ _ (X _ _ ho)) (wpAny_pure q))
    next => cases hc
  ne := fun h tp dd its n sl X htp => by
    obtain ⟨cd, hc⟩ := Option.isSome_iff_exists.mp c.is
    refine Bool.eq_false_iff.mpr fun q => ?_
    have e : C = tp := Value.ref.inj (beq_iff_eq.mp q)
    subst e
    unfold PySem.W.clsIn at hc
    split at hc
    next ho => cases (X _ _ ho).symm.trans htp
    next => cases hc
  ca := fun X ⟨t, tb, e⟩ k => ex_class X e c k
end

/-! ### isinstance(e, D) and e.m() of a caught one -/
def rIsX (K : PySem.W.Frag) : List V → Hp → VK → Prop := fun vs H Q => ∃ a C b, H a = some (exH C a) ∧ ExC K C ∧
  ((∃ n, vs = [.ref a, .ty n] ∧ PySem.W.kitOne K (.ref C) (.type n) = some b) ∨ (∃ D, vs = [.ref a, .ref D] ∧ PySem.W.kitOne K (.ref C) (.ref D) = some b)) ∧ Q (.bl b) H
section
variable {X : Cx} {K : PySem.W.Frag}
theorem ex_at {pins : List (Addr × Obj)} {σ : St} {H : Hp} {s : Shared} {a C : Addr} (I : Inv X pins σ H s) (e : H a = some (exH C a)) : ∃ t tb, s.heap.get? a = some (exO C t tb) := (I.hok a _ e).1
theorem call_isx (hK : X.K = K := by rfl) : CallR X (.builtin "isinstance") (rIsX K) := by
  subst hK
  intro pins s σ H xs us Q I rv h
  obtain ⟨a, C, b, ea, c, hv, q⟩ := h
  rcases hv with ⟨n, rfl, e⟩ | ⟨D, rfl, e⟩
  · obtain ⟨u1, u2, rfl, r1, r2⟩ := rv.two
    cases r1
    cases r2
    exact PySem.W.kia_one (kitx_exc c) I.kIn (ex_at I ea) e (fun z => nomatch z) fun tk => ⟨.bl b, H, I.tok _, rfl, q⟩
  · obtain ⟨u1, u2, rfl, r1, r2⟩ := rv.two
    cases r1
    cases r2
    exact PySem.W.kia_one (kitx_exc c) I.kIn (ex_at I ea) e (fun z => nomatch z) fun tk => ⟨.bl b, H, I.tok _, rfl, q⟩
variable {CX : CXT} {k : Nat} {ps : List Str} {sp : Addr → Sp} {E : XK} {m : Str} {pos apos : Pos} {o : Expr} {ta : TE}
/-- e.m(), the class being known by the heap -/
def tMethX (K : PySem.W.Frag) (m : Str) (sp : Addr → Sp) (E : XK) (ta : TE) : TE := fun σ H Q => ta σ H fun x H1 => ∃ a C, x = .ref a ∧ H1 a = some (exH C a) ∧ sp C [x] H1 Q E
end
end L2

set_option Elab.async false
set_option linter.all false
set_option maxRecDepth 100000
namespace L2
open PySem PySem.Spec PyProof.Rows

/-! ### the refusals of a text: classes under ValueError, each with a called() -/
abbrev vE : List Value := [.type "ValueError", .type "Exception", .type "BaseException", .type "object"]
abbrev vN : String := "ValueError.__new__"
structure Exn (K : PySem.W.Frag) (C : Addr) : Prop where
  q : PySem.W.excIn K C vE vN = true
  c : ExC K C
  ty : PySem.W.typeIn K (.ref C) = some (.type "type")
  ve : PySem.W.mroIn K C (.type "ValueError") = some true
theorem exn_mk {K : PySem.W.Frag} {C : Addr} (q : PySem.W.excIn K C vE vN = true) (ga : PySem.W.findIn K (.ref C) "__getattribute__" = some (some (.builtin "BaseException.__getattribute__"))) (gt : PySem.W.findIn K (.ref C) "__getattr__" = some none)
    (cl : PySem.W.findIn K (.ref C) "__class__" = some (some (.builtin "object.__class__"))) (gc : PySem.W.specialIn K (.builtin "object.__class__") "__get__" = some (some (.builtin "getset_descriptor.__get__"))) (tk : PySem.W.takesIn K (.builtin "object.__class__") = some true)
    (ob : PySem.W.mroIn K C (.type "object") = some true) (be : PySem.W.mroIn K C (.type "BaseException") = some true) (is : PySem.W.isClsIn K C = true) (ty : PySem.W.typeIn K (.ref C) = some (.type "type")) (ve : PySem.W.mroIn K C (.type "ValueError") = some true) : Exn K C :=
  ⟨q, ⟨ga, gt, cl, gc, tk, ob, be, is⟩, ty, ve⟩
theorem has_base : vE.contains (.type "BaseException") = true := by decide
theorem has_ve : vE.contains (.type "ValueError") = true := by decide
theorem Exn.sub {K : PySem.W.Frag} {C D : Addr} (x : Exn K C) (r : PySem.W.mroIn K C (.ref D) = some true) : Sub K C D := by
  refine ⟨⟨_, _, x.q⟩, ?_⟩
  obtain ⟨cd, h1, h2⟩ := Option.bind_eq_some_iff.mp r
  unfold PySem.W.clsIn at h1
  unfold mroK
  split at h1
  next c d cd' sl ho =>
    cases h1
    rw [ho]
    split at h2
    · cases h2
    · exact Option.some.inj h2
  next => cases h1
theorem kit_ref {K : PySem.W.Frag} {C D : Addr} {b : Bool} (hC : PySem.W.mroIn K C (.ref C) = some true) (x : Exn K D) (r : PySem.W.mroIn K C (.ref D) = some b) : PySem.W.kitOne K (.ref C) (.ref D) = some b := by
  unfold PySem.W.kitOne
  by_cases q : (Value.ref C == Value.ref D) = true
  · rw [if_pos q]
    have e : C = D := Value.ref.inj (beq_iff_eq.mp q)
    subst e
    rw [hC] at r
    exact r
  · rw [if_neg q]
    unfold PySem.W.kitCls
    have h : ((PySem.W.clsIn K D).isSome && PySem.W.typeIn K (.ref D) == some (.type "type")) = true := by rw [x.c.is, x.ty]; rfl
    show (if _ then _ else _) = _
    rw [if_pos h]
    exact r
theorem kit_ve {K : PySem.W.Frag} {C : Addr} (x : Exn K C) : PySem.W.kitOne K (.ref C) (.type "ValueError") = some true := by
  unfold PySem.W.kitOne
  rw [if_neg (by simp)]
  unfold PySem.W.kitCls
  show (if _ then _ else _) = _
  rw [if_pos (by decide +kernel)]
  exact x.ve
section
variable {X : Cx} {CX : CXT} {k : Nat} {C f : Addr} {fd : FuncData} {ps : List Str} {sp : Sp} {E : XK} {m : Str} {pos apos : Pos} {o : Expr} {ta : TE}
/-- e.m(), e of the class C -/
def tMethE (C : Addr) (sp : Sp) (E : XK) (ta : TE) : TE := fun σ H Q => ta σ H fun x H1 => ∃ a, x = .ref a ∧ H1 a = some (exH C a) ∧ sp [x] H1 Q E
end
/-! ### a method of the text -/
def clsBody (s : Stmt) : List Stmt := match s with
  | .ClassDef _ _ _ b _ _ _ _ _ _ _ => b
  | _ => []
structure Mf (K : PySem.W.Frag) (x q : Str) (st : Stmt) (ps : List Str) (C f : Addr) (fd : FuncData) : Prop where
  F : Fun K x q st f fd
  m : Meth K C x f
  b : Binds K fd ps []
theorem bt_ValueError : bootBuiltins "ValueError" = some (.type "ValueError") := by decide +kernel
end L2

set_option Elab.async false
set_option linter.all false
set_option maxRecDepth 100000
namespace L2
open PySem PySem.Spec PyProof.Rows
open Builtin Builtin.Str
/-! ### slices of texts -/
def cutT (u : List Nat) (lo hi : Option Int) : List Nat := (u.drop (HT.sIx u.length 0 lo)).take (HT.sIx u.length u.length hi - HT.sIx u.length 0 lo)
section
variable {X : Cx}
end
end L2

set_option Elab.async false
set_option linter.all false
set_option maxRecDepth 100000
namespace L2
open PySem PySem.Spec PyProof.Rows
/-! ### range objects as values, list(range(..)) -/
def rngO (p : Addr) (a b c : Int) : HO := .ext fun h => ∃ t u v, IsRange h p a b c t u v
def rngL (a c : Int) (n : Nat) : List Int := (List.range n).map fun (i : Nat) => a + (i : Int) * c
section
variable {X : Cx} {K : PySem.W.Frag}
/-! ### int(text), sum(list) -/
theorem call_sumI (hK : X.K = K := by rfl) (hc : X.calm = true := by rfl) : CallR X (.builtin "sum") (fun xs H Q => ∃ a ns, xs = [.ref a] ∧ SqL K H a (vI ns) ∧ Q (.int ns.sum) H) := by
  subst hK
  intro pins s σ H xs us Q I rv h
  obtain ⟨a, ns, rfl, hq, q⟩ := h
  obtain ⟨u, rfl, ru⟩ := rv.one
  cases ru
  obtain ⟨its, r, pl, hl⟩ := I.list hq
  have hi : IntsAre its ns := intsAre_of r
  obtain ⟨xs, hx⟩ := hi.allInts.items
  have hL : s.heap.IsList a (intItems xs) := by rw [← hx]; exact pl.isList
  refine sum_intListG (I.ok.hd hc) hL fun h' tk t' hk => ?_
  have e1 : xs.toList.map (·.1) = ns := by
    have z : numsOf its.toArray.toList = ns := hi.numsOf
    rw [hx, nums_intItems] at z
    exact z
  rw [show preSum (numAt xs) xs.size = ns.sum by rw [preSum_eq, List.take_of_length_le (by simp), e1]]
  exact ⟨.int ns.sum, H, I.kept hk, ⟨t', rfl⟩, q⟩
/-! ### a sign among signs -/
end
end L2

set_option Elab.async false
set_option linter.all false
set_option maxRecDepth 100000
namespace L2
open PySem PySem.Spec PyProof.Rows
/-! ### range(a, b) of ints of any size -/
section
variable {X : Cx} {tg : Expr}
def iRng2L (ta : TA) : TI := fun σ H R => ta σ H fun vs H1 => ∃ i j : Int, vs = [.int i, .int j] ∧ R (Itr i (j - i).toNat) H1
end
section
variable {X : Cx}
/-! ### a * b of ints of up to 250 bits -/
theorem bits250 {k : Int} (h : k.natAbs < 2 ^ 250) : Builtin.Int.intBits k ≤ 2 ^ 20 := by
  unfold Builtin.Int.intBits
  split
  · exact Nat.zero_le _
  · have : k.natAbs.log2 < 250 := by
      rcases Nat.eq_zero_or_pos k.natAbs with h0 | hp
      · rw [h0]; decide
      · exact (Nat.log2_lt (Nat.ne_of_gt hp)).mpr h
    have e : (2 : Nat) ^ 20 = 1048576 := by decide
    omega
theorem op_mulW : OpR X (binaryOp .Mult) (rI (fun i j => i.natAbs < 2 ^ 250 ∧ j.natAbs < 2 ^ 250) fun i j => .int (i * j)) := opI fun _ _ _ _ _ _ _ hc q => mul_int q (IntMulOk.of_bits (bits250 hc.1) (bits250 hc.2))
/-! ### text * n -/
theorem rep_fold (l : List Nat) : ∀ (k : Nat) (acc : List Nat), List.foldl (fun x1 x2 => x1 ++ x2) acc.toArray (List.replicate k l.toArray) = (acc ++ (List.replicate k l).flatten).toArray
  | 0, acc => by simp
  | k + 1, acc => by
    have e : acc.toArray ++ l.toArray = (acc ++ l).toArray := by simp
    have e2 : (acc ++ l) ++ (List.replicate k l).flatten = acc ++ (List.replicate (k + 1) l).flatten := by
      rw [List.replicate_succ, List.flatten_cons, List.append_assoc]
    rw [← e2, ← rep_fold l k (acc ++ l), ← e, List.replicate_succ, List.foldl_cons]
def rRepS : R2 := fun x y H Q => ∃ u n, x = .str (tx u) ∧ y = .int n ∧ 0 ≤ n ∧ n ≤ 1000000 ∧ u.length * n.toNat ≤ sizeLine ∧ Q (.str (tx (List.replicate n.toNat u).flatten)) H
theorem op_repS : OpR X (binaryOp .Mult) rRepS := by
  intro pins s σ H x y v z Q I rx ry h
  obtain ⟨u, n, rfl, rfl, h0, h1, h2, q⟩ := h
  obtain ⟨t, rfl⟩ := rx
  obtain ⟨t', rfl⟩ := ry
  have hsz : sizeLine = 16777216 := sizeLine_eq
  have hlen : (tx u).length = u.length := tx_len u
  refine P.mul_str ?_ (fun c1 c2 => ?_) (fun c1 c2 => ?_) ?_
  · rw [decide_eq_false (by omega), decide_eq_false (by omega)]
    rfl
  · rw [hlen]
    have hn : 0 < n := by omega
    have hm : (u.length : Int) * n ≤ 16777216 := by
      have e : n = (n.toNat : Int) := by omega
      rw [e, ← Int.natCast_mul]
      omega
    have : (u.length : Int) ≤ (2 ^ 63 - 1) / n := (Int.le_ediv_iff_mul_le hn).mpr (by omega)
    omega
  · rw [hlen]
    exact decide_eq_false (by omega)
  · split
    · next c =>
      have e : n = 0 := by omega
      rw [e] at q
      exact ⟨by decide, .str (tx []), H, I.tok _, ⟨_, rfl⟩, q⟩
    · split
      · next c =>
        have e : tx (List.replicate n.toNat u).flatten = tx u := by
          simp only [Bool.or_eq_true, beq_iff_eq] at c
          rcases c with c | c
          · rw [c]; simp
          · rw [hlen] at c
            rw [List.eq_nil_of_length_eq_zero c]
            simp
        rw [e] at q
        exact ⟨.str (tx u), H, I, ⟨_, rfl⟩, q⟩
      · have hf : (⟨(List.replicate n.toNat (tx u).cps).foldl (· ++ ·) #[]⟩ : Str) = tx (List.replicate n.toNat u).flatten := by
          have := rep_fold u n.toNat []
          simp only [List.nil_append] at this
          exact congrArg Str.mk this
        rw [hf]
        refine ⟨?_, .str (tx (List.replicate n.toNat u).flatten), H, I.tok _, ⟨_, rfl⟩, q⟩
        rw [tx_len, len_rep, Nat.mul_comm]
        exact h2
/-! ### text.count(sign) -/
def rCount : V → List V → Hp → VK → Prop := fun x vs H Q => ∃ u c, x = .str (tx u) ∧ vs = [.str ⟨#[c]⟩] ∧ Q (.int (u.count c : Nat)) H
end
end L2

set_option Elab.async false
set_option linter.all false
set_option maxRecDepth 100000
namespace L2
open PySem PySem.Spec PyProof.Rows
/-! ### isinstance(e, (C, D, ..)) of a caught one -/
theorem vals_refs {Ds : List Addr} : ∀ {us : List Value}, Vals (Ds.map V.ref) us → us = Ds.map Value.ref := by
  induction Ds with
  | nil => intro us r; rw [List.map_nil] at r; cases r; rfl
  | cons n ns ih =>
    intro us r
    rw [List.map_cons] at r
    cases r with
    | cons r1 r2 =>
      cases r1
      rw [ih r2]
      rfl
section
variable {X : Cx} {K : PySem.W.Frag}
def rIsXT (K : PySem.W.Frag) : List V → Hp → VK → Prop := fun vs H Q => ∃ (a C p : Addr) (Ds : List Addr) (b : Bool), vs = [.ref a, .ref p] ∧ H a = some (exH C a) ∧ ExC K C ∧ H p = some (.tup (Ds.map V.ref)) ∧ PySem.W.kitAny K (.ref C) (Ds.map Value.ref) = some b ∧ Q (.bl b) H
theorem call_isxT (hK : X.K = K := by rfl) : CallR X (.builtin "isinstance") (rIsXT K) := by
  subst hK
  intro pins s σ H xs us Q I rv h
  obtain ⟨a, C, p, Ds, b, rfl, ea, c, ep, e, q⟩ := h
  obtain ⟨u1, u2, rfl, r1, r2⟩ := rv.two
  cases r1
  cases r2
  obtain ⟨_, its, vs, ht⟩ := (show ObjOk X.prog X.w H s.heap p (.tup (Ds.map V.ref)) from I.hok p _ ep)
  rw [vals_refs vs] at ht
  obtain ⟨⟨cls, dd, data, sl⟩, h1, h2, n, h3⟩ := ht
  cases h2
  cases h3
  exact PySem.W.kia_tup (kitx_exc c) I.kIn (ex_at I ea) h1 e (fun z => nomatch z) fun tk => ⟨.bl b, H, I.tok _, rfl, q⟩
end
end L2

set_option Elab.async false
set_option linter.all false
set_option maxRecDepth 100000
namespace L2
open PySem PySem.Spec PyProof.Rows
/-- a callee that does not raise here -/
theorem passF {P : Program} {w : World} {X : Cx} : Passes (CX1 P w) X (fun _ _ _ => False) := fun _ _ _ _ _ _ _ c => by
  obtain ⟨_, _, _, _, _, _, _, _, _, _, q⟩ := c
  exact q.elim
section
variable {X : Cx} {K : PySem.W.Frag}
/-! ### != of two lists of flat values -/
def rNeL (K : PySem.W.Frag) : R2 := fun x y H Q => ∃ p q xs ys, x = .ref p ∧ y = .ref q ∧ SqL K H p xs ∧ SqL K H q ys ∧ xs.all flatV = true ∧ ys.all flatV = true ∧ Q (.bl (!eqL xs ys)) H
end
end L2

set_option Elab.async false
set_option linter.all false
set_option maxRecDepth 100000
namespace L2
open PySem PySem.Spec PyProof.Rows
theorem Room.units100 {k : Nat} {A : Around} (r : Room k A) : A.units + 100 < cLine := by have := r.un; omega
/-! ### lists of lists with the same contents -/
def SamL (K : PySem.W.Frag) (H : Hp) (p q : Addr) : Prop := ∃ as bs : List Addr, SqL K H p (as.map V.ref) ∧ SqL K H q (bs.map V.ref) ∧ as.length = bs.length ∧
  ∀ (i : Nat) (a b : Addr), as[i]? = some a → bs[i]? = some b → ∃ xs : List V, xs.all flatV = true ∧ SqL K H a xs ∧ SqL K H b xs
section
variable {X : Cx} {K : PySem.W.Frag}
theorem vals_at {as : List Addr} {us : List Value} (r : Vals (as.map V.ref) us) {i : Nat} {u : Value} (h : us[i]? = some u) : ∃ a, as[i]? = some a ∧ u = .ref a := by
  rw [vals_refs r, List.getElem?_map] at h
  cases e : as[i]? with
  | none => rw [e] at h; cases h
  | some a => rw [e] at h; cases h; exact ⟨a, rfl, rfl⟩
theorem eqAt_lists {pins : List (Addr × Obj)} {σ : St} {H : Hp} {s : Shared} {A : Around} (I : Inv X pins σ H s) {a b : Addr} {xs : List V} (f : xs.all flatV = true) (ha : SqL X.K H a xs) (hb : SqL X.K H b xs) (hu : A.units < cLine) :
    SeqAt.EqAt A s (.ref a) (.ref b) true := by
  by_cases e : a = b
  · subst e; exact SeqAt.EqAt.same _
  · refine SeqAt.EqAt.of_refs e ?_
    obtain ⟨its, r, pl, hz⟩ := I.list ha
    obtain ⟨its2, r2, pl2, hz2⟩ := I.list hb
    have l1 := r.length
    have l2 := r2.length
    have key := SeqAt.RcAt.lists (A := A) (s := s) (e := fun _ => true) pl.isList pl2.isList (by simp only [List.size_toArray]; omega) hu (fun j h1 h2 => ?_)
    · have e1 : (List.range its.toArray.size).all (fun _ => true) = true := by simp
      rw [e1] at key
      exact key
    · have j1 : j < xs.length := by simp only [List.size_toArray] at h1; omega
      obtain ⟨w1, e1, q1⟩ := r.get (i := j) (x := xs[j]) (by simp [j1])
      obtain ⟨w2, e2, q2⟩ := r2.get (i := j) (x := xs[j]) (by simp [j1])
      have g1 : its.toArray[j] = w1 := by
        have : its.toArray[j]? = some w1 := by simpa using e1
        exact Option.some.inj ((Array.getElem?_eq_getElem h1).symm.trans this)
      have g2 : its2.toArray[j] = w2 := by
        have : its2.toArray[j]? = some w2 := by simpa using e2
        exact Option.some.inj ((Array.getElem?_eq_getElem h2).symm.trans this)
      rw [g1, g2]
      have ff := List.all_eq_true.mp f _ (List.getElem_mem j1)
      have := eqAt_V (A := A.in1) (s := s) q1 q2 ff ff
      rw [eqV_refl ff] at this
      exact this
theorem items_same {pins : List (Addr × Obj)} {σ : St} {H : Hp} {s : Shared} {A : Around} (I : Inv X pins σ H s) {as bs : List Addr} {its its2 : List Value} (r : Vals (as.map V.ref) its) (r2 : Vals (bs.map V.ref) its2)
    (h : ∀ (i : Nat) (a b : Addr), as[i]? = some a → bs[i]? = some b → ∃ xs : List V, xs.all flatV = true ∧ SqL X.K H a xs ∧ SqL X.K H b xs) (hu : A.units < cLine) (j : Nat) (h1 : j < its.toArray.size) (h2 : j < its2.toArray.size) :
    SeqAt.EqAt A s its.toArray[j] its2.toArray[j] true := by
  simp only [List.size_toArray] at h1 h2
  obtain ⟨a, ea, e1⟩ := vals_at r (List.getElem?_eq_getElem h1)
  obtain ⟨b, eb, e2⟩ := vals_at r2 (List.getElem?_eq_getElem h2)
  obtain ⟨xs, f, ha, hb⟩ := h j a b ea eb
  simp only [List.getElem_toArray]
  rw [e1, e2]
  exact eqAt_lists I f ha hb hu
def rNeLL (K : PySem.W.Frag) : R2 := fun x y H Q => ∃ p q, x = .ref p ∧ y = .ref q ∧ SamL K H p q ∧ Q (.bl false) H
def rEqLL (K : PySem.W.Frag) : R2 := fun x y H Q => ∃ p q, x = .ref p ∧ y = .ref q ∧ SamL K H p q ∧ Q (.bl true) H
theorem op_eqLL (hu : X.A.units + 100 < cLine) (hK : X.K = K := by rfl) : OpR X (compareOp .Eq) (rEqLL K) := by
  subst hK
  intro pins s σ H x y v u Q I rx ry h
  obtain ⟨p, q, rfl, rfl, ⟨as, bs, hx, hy, hl, hi⟩, k⟩ := h
  cases rx
  cases ry
  obtain ⟨its, r, pl, hz⟩ := I.list hx
  obtain ⟨its2, r2, pl2, hz2⟩ := I.list hy
  have l1 := r.length
  have l2 := r2.length
  rw [List.length_map] at l1 l2
  refine SeqAt.eq_listAt (e := fun _ => true) pl.isList pl2.isList (by simp only [List.size_toArray]; omega) (by omega) (fun j h1 h2 => items_same I r r2 hi (by show X.A.units + 1 < cLine; omega) j h1 h2) ?_
  refine ⟨.bl true, H, I, ?_, k⟩
  show Value.bool _ = Value.bool _
  simp
/-! ### a number in a list of numbers -/
theorem inV_vI (z : Int) : ∀ ks : List Int, inV (.int z) (vI ks) = decide (z ∈ ks)
  | [] => by simp [inV, vI]
  | k :: ks => by
    have ih := inV_vI z ks
    unfold inV vI at ih ⊢
    rw [List.map_cons, List.any_cons, ih]
    by_cases h : k = z
    · subst h
      have : eqV (V.int k) (V.int k) = true := eqV_refl rfl
      rw [this]
      simp
    · have : eqV (V.int k) (V.int z) = false := by simp [eqV, h]
      rw [this, Bool.false_or]
      exact decide_eq_decide.mpr (by simp [Ne.symm h])
end
end L2

set_option Elab.async false
set_option linter.all false
set_option maxRecDepth 100000
namespace L2
open PySem PySem.Spec PyProof.Rows
section
variable {X : Cx} {K : PySem.W.Frag} {o e value : Expr} {f : Str} {pos pos' tpos : Pos} {ta tv : TE} {st : Stmt} {t : TS}
theorem pe_fldK (he : PE X e ta) (hb : attributeBase e f X.env (eval e X.env) = eval e X.env) (hK : X.K = K := by rfl) : PE X (.Attribute e f pos) (tFld K ta f) := by subst hK; exact pe_fld he hb
theorem ps_fldK (ha : PE X o ta) (hv : PE X value tv) (hs : swapsWith value (some (.Attribute o f pos')) pos.line X.env = pure false := by rfl) (hK : X.K = K := by rfl) : PS X (.Assign [.Attribute o f pos'] value pos) (sFld K ta tv f) := by subst hK; exact ps_fld ha hv hs
/-- a rule that asks for the frames -/
theorem ps_fr (h : X.A.frames = some X.stack → PS X st t) : PS X st t := fun pins s σ H D I hw => h I.ok.frames pins s σ H D I hw
end
/-! ### own classes -/
structure Own (K : PySem.W.Frag) (C f : Addr) : Prop where
  c : Cls K C
  m : Mk K C f
theorem own_mk {K : PySem.W.Frag} {C f : Addr} (h1 : PySem.W.plainGet K C Str.empty = true) (h2 : PySem.W.hasDictIn K C = true) (h3 : PySem.W.plainOver K C = true) (h4 : PySem.W.findIn K (.ref C) "__setattr__" = some (some (.builtin "object.__setattr__")))
    (h5 : PySem.W.makesIn K C = true) (h6 : PySem.W.findIn K (.ref C) "__init__" = some (some (.ref f))) (h7 : PySem.W.isFn K (.ref f) = true) (h8 : PySem.W.keepIn K (.ref C) = true) : Own K C f := ⟨⟨h1, h2, h3, h4⟩, ⟨h5, h6, h7, h8⟩⟩
end L2

set_option Elab.async false
set_option linter.all false
set_option maxRecDepth 100000
namespace L2
open PySem PySem.Spec PyProof.Rows
/-! ### several records turned at once -/
/-! ### zip(a, b) of two lists, its pairs unpacked -/
def Itz (K : PySem.W.Frag) (a b : Addr) : It where
  go := fun i H => ∃ xs ys x y, SqL K H a xs ∧ SqL K H b ys ∧ xs[i]? = some x ∧ ys[i]? = some y
  yld := fun i H x H' => ∃ T, x = .ref T ∧ H T = none ∧ ∀ xs ys u v, SqL K H a xs → SqL K H b ys → xs[i]? = some u → ys[i]? = some v → H' = upd H T (.tup [u, v])
  stop := fun i H => ∃ xs ys, SqL K H a xs ∧ SqL K H b ys ∧ (xs.length ≤ i ∨ ys.length ≤ i)
def ZipSt (z TI TO i1 i2 a b : Addr) (i : Nat) (h : Heap) : Prop := IsZip h z TI TO .none ∧ IsPair h TI (.ref i1) (.ref i2) ∧ (∃ p q, IsPair h TO p q) ∧ h.IsListIter i1 a i ∧ h.IsListIter i2 b i
section
variable {X : Cx} {es : List Expr} {kx : Nat} {tp : Pos}
def iZip (K : PySem.W.Frag) (ta : TA) : TI := fun σ H R => ta σ H fun vs H1 => ∃ a b, vs = [.ref a, .ref b] ∧ (∃ xs, SqL K H1 a xs) ∧ (∃ ys, SqL K H1 b ys) ∧ R (Itz K a b) H1
end
end L2

set_option Elab.async false
set_option linter.all false
set_option maxRecDepth 100000
namespace L2
open PySem PySem.Spec PyProof.Rows
/-! ### a tuple of numbers in a list of such tuples, one of which has the same contents -/
def rInT (K : PySem.W.Frag) : R2 := fun x y H Q => ∃ (p q : Addr) (as : List Addr) (ks : List Int), x = .ref p ∧ y = .ref q ∧ SqL K H q (as.map V.ref) ∧ SqT K H p (vI ks) ∧
  (∀ a ∈ as, ∃ js : List Int, SqT K H a (vI js)) ∧ (∃ a ∈ as, SqT K H a (vI ks)) ∧ Q (.bl true) H
section
variable {X : Cx} {K : PySem.W.Frag}
end
end L2

set_option Elab.async false
set_option linter.all false
set_option maxRecDepth 100000
namespace L2
open PySem PySem.Spec PyProof.Rows
/-! ### zip of lists and texts: each side draws by itself -/
section
variable {prog : Program} {w : World} {A : Around} {E : Value → Shared → Prop} {s : Shared}
structure Apart2 (z TI TO i1 i2 : Addr) : Prop where
  TIz : TI ≠ z
  TOz : TO ≠ z
  i1z : i1 ≠ z
  i2z : i2 ≠ z
  TITO : TI ≠ TO
  TIi1 : TI ≠ i1
  TIi2 : TI ≠ i2
  TOi1 : TO ≠ i1
  TOi2 : TO ≠ i2
  i12 : i1 ≠ i2
/-! ### the making -/
abbrev strIt (x : Str) (t : Tok) : Obj := { cls := .type (strIterType x), data := .fields #[.str x t, .int 0 0] }
abbrev lstIt (l : Addr) : Obj := { cls := .type "list_iterator", data := .fields #[.ref l, .int 0 0] }
abbrev zHeap (h : Heap) (o1 o2 : Obj) : Heap := ((((h.push o1).push o2).push { cls := .type "tuple", data := .seq #[.ref h.objs.size, .ref (h.push o1).objs.size] }).push { cls := .type "tuple", data := .seq #[.none, .none] }).push
  { cls := .type "zip", data := .fields #[.none, .bool false, .bool false, .ref ((h.push o1).push o2).objs.size, .ref (((h.push o1).push o2).push { cls := .type "tuple", data := .seq #[.ref h.objs.size, .ref (h.push o1).objs.size] }).objs.size] }
abbrev zAddr (h : Heap) (o1 o2 : Obj) : Addr := ((((h.push o1).push o2).push { cls := .type "tuple", data := .seq #[.ref h.objs.size, .ref (h.push o1).objs.size] }).push { cls := .type "tuple", data := .seq #[.none, .none] }).objs.size
end
end L2

set_option Elab.async false
set_option linter.all false
set_option maxRecDepth 100000
namespace L2
open PySem PySem.Spec PyProof.Rows
/-- a side of zip: a list or a text -/
inductive Src where
  | l (a : Addr)
  | s (z : Str)
def srcV : Src → V
  | .l a => .ref a
  | .s z => .str z
def srcOk (K : PySem.W.Frag) (H : Hp) : Src → Prop
  | .l a => ∃ xs, SqL K H a xs
  | .s _ => True
def srcAt (K : PySem.W.Frag) (H : Hp) : Src → Nat → V → Prop
  | .l a, i, v => ∃ xs, SqL K H a xs ∧ xs[i]? = some v
  | .s z, i, v => ∃ c, z.cps[i]? = some c ∧ v = .str ⟨#[c]⟩
def srcEnd (K : PySem.W.Frag) (H : Hp) : Src → Nat → Prop
  | .l a, i => ∃ xs, SqL K H a xs ∧ xs.length = i
  | .s z, i => z.cps.size = i
def srcSt (it : Addr) (t : Tok) : Src → Nat → Heap → Prop
  | .l a, i, h => h.IsListIter it a i
  | .s z, i, h => h.IsStrIter it (strIterType z) z t i
def srcFp (it : Addr) : Src → List Addr
  | .l a => [it, a]
  | .s _ => [it]
def srcIt (t : Tok) : Src → Obj
  | .l a => lstIt a
  | .s z => strIt z t
def Itz2 (K : PySem.W.Frag) (S1 S2 : Src) : It where
  go := fun i H => (∃ u, srcAt K H S1 i u) ∧ ∃ v, srcAt K H S2 i v
  yld := fun i H x H' => ∃ T, x = .ref T ∧ H T = none ∧ ∀ u v, srcAt K H S1 i u → srcAt K H S2 i v → H' = upd H T (.tup [u, v])
  stop := fun i H => srcOk K H S1 ∧ srcOk K H S2 ∧ (srcEnd K H S1 i ∨ ((∃ u, srcAt K H S1 i u) ∧ srcEnd K H S2 i))
def Zip2St (z TI TO i1 i2 : Addr) (t1 t2 : Tok) (S1 S2 : Src) (i : Nat) (h : Heap) : Prop := IsZip h z TI TO .none ∧ IsPair h TI (.ref i1) (.ref i2) ∧ (∃ p q, IsPair h TO p q) ∧ srcSt i1 t1 S1 i h ∧ srcSt i2 t2 S2 i h
section
variable {X : Cx} {es : List Expr} {kx : Nat} {tp : Pos}
/-- which pairs there is a rule for -/
def zOk : Src → Src → Prop
  | .s _, .l _ => False
  | _, _ => True
def iZip2 (K : PySem.W.Frag) (ta : TA) : TI := fun σ H R => ta σ H fun vs H1 => ∃ S1 S2, vs = [srcV S1, srcV S2] ∧ zOk S1 S2 ∧ srcOk K H1 S1 ∧ srcOk K H1 S2 ∧ R (Itz2 K S1 S2) H1
end
end L2

set_option Elab.async false
set_option linter.all false
set_option maxRecDepth 100000
namespace L2
open PySem PySem.Spec PyProof.Rows
/-! ### a comprehension whose target is a pair of names -/
structure CompOk2 (X : Cx) (x x' : Str) (Nc : List Str) (caps : List Nat) (scope : Scope) : Prop where
  kind : scope.kind = .function
  cell : ∀ y ∈ scope.names, y.2 ≠ .cell
  names : ∀ y ∈ scope.names, y.2 = .local → scope.names.lookup y.1 = some .local
  fr : ∀ y ∈ scope.names, y.2 = .free → X.env.scope.names.lookup y.1 = some .cell ∧ scope.names.lookup y.1 = some .free
  loc : scope.names.lookup x = some .local
  loc2 : scope.names.lookup x' = some .local
  len : Nc.length = caps.length + 2
  hd : Nc[0]? = some x
  hd2 : Nc[1]? = some x'
  nd : Nc.Nodup
  cap : ∀ k j, caps[k]? = some j → ∃ y, Nc[k + 2]? = some y ∧ X.N[j]? = some y ∧ scope.names.lookup y = some .free
def tCompW2 (K : PySem.W.Frag) (caps : List Nat) (tc : TT) (te : TE) (J : It) (σ : St) (H : Hp) (Q : VK) : Prop :=
  ∃ W : Nat → Nat → List V → Hp → Prop, (∃ m, W 0 m [] H) ∧ ∀ i m ys H, W i m ys H →
    (J.stop i H ∧ ys.length ≤ sizeLine ∧ ∀ p, H p = none → Q (.ref p) (upd H p (.lst ys))) ∨
    (J.go i H ∧ ys.length < sizeLine ∧ ∀ x H', J.yld i H x H' → ∃ a u v, x = .ref a ∧ SqT K H' a [u, v] ∧ tc (some u :: some v :: capV σ caps) H' fun b H2 =>
      if b = true then te (some u :: some v :: capV σ caps) H2 fun y H3 => ∃ m', m' < m ∧ W (i + 1) m' (ys ++ [y]) H3 else ∃ m', m' < m ∧ W (i + 1) m' ys H2)
def tComp2 (K : PySem.W.Frag) (wi : TI) (caps : List Nat) (tc : TT) (te : TE) : TE := fun σ H Q => wi σ H fun J H1 => tCompW2 K caps tc te J σ H1 Q
section
variable {X : Cx} {pins : List (Addr × Obj)} {σ : St} {H : Hp} {s : Shared}
end
end L2

set_option Elab.async false
set_option linter.all false
set_option maxRecDepth 100000
namespace L2
open PySem PySem.Spec PyProof.Rows
/-! ### list.count of a number -/
section
variable {X : Cx}
def rCountL (K : PySem.W.Frag) : V → List V → Hp → VK → Prop := fun x vs H Q => ∃ a ns k, x = .ref a ∧ vs = [.int k] ∧ SqL K H a (vI ns) ∧ Q (.int (ns.count k : Nat)) H
end
/-! ### enumerate(list), its pairs unpacked -/
def Ite (K : PySem.W.Frag) (a : Addr) : It where
  go := fun i H => ∃ xs x, SqL K H a xs ∧ xs[i]? = some x
  yld := fun i H x H' => ∃ T, x = .ref T ∧ H T = none ∧ ∀ xs u, SqL K H a xs → xs[i]? = some u → H' = upd H T (.tup [.int (i : Int), u])
  stop := fun i H => ∃ xs, SqL K H a xs ∧ xs.length = i
def EnSt (e it a : Addr) (i : Nat) (h : Heap) : Prop := (∃ old, IsEnum h e it i old) ∧ h.IsListIter it a i
section
variable {X : Cx} {es : List Expr} {kx : Nat} {tp : Pos}
def iEnum (K : PySem.W.Frag) (ta : TA) : TI := fun σ H R => ta σ H fun vs H1 => ∃ a, vs = [.ref a] ∧ (∃ xs, SqL K H1 a xs) ∧ R (Ite K a) H1
end
end L2

set_option Elab.async false
set_option linter.all false
set_option maxRecDepth 100000
namespace L2
open PySem PySem.Spec PyProof.Rows
/-! ### values of the same contents, lists and tuples within one another -/
inductive SamV (K : PySem.W.Frag) (H : Hp) : Nat → V → V → Prop where
  | flat {n : Nat} {x : V} (h : flatV x = true) : SamV K H n x x
  | lst {n : Nat} {p q : Addr} {xs ys : List V} (hp : SqL K H p xs) (hq : SqL K H q ys) (hl : xs.length = ys.length) (hi : ∀ (i : Nat) (x y : V), xs[i]? = some x → ys[i]? = some y → SamV K H n x y) : SamV K H (n + 1) (.ref p) (.ref q)
  | tup {n : Nat} {p q : Addr} {xs ys : List V} (hp : SqT K H p xs) (hq : SqT K H q ys) (hl : xs.length = ys.length) (hi : ∀ (i : Nat) (x y : V), xs[i]? = some x → ys[i]? = some y → SamV K H n x y) : SamV K H (n + 1) (.ref p) (.ref q)
section
variable {X : Cx} {K : PySem.W.Frag}
def SamS (K : PySem.W.Frag) (H : Hp) (p q : Addr) : Prop := ∃ xs ys : List V, SqL K H p xs ∧ SqL K H q ys ∧ xs.length = ys.length ∧ ∀ (i : Nat) (x y : V), xs[i]? = some x → ys[i]? = some y → SamV K H 50 x y
def rEqS (K : PySem.W.Frag) : R2 := fun x y H Q => ∃ p q, x = .ref p ∧ y = .ref q ∧ SamS K H p q ∧ Q (.bl true) H
def rNeS (K : PySem.W.Frag) : R2 := fun x y H Q => ∃ p q, x = .ref p ∧ y = .ref q ∧ SamS K H p q ∧ Q (.bl false) H
end
end L2

set_option Elab.async false
set_option linter.all false
set_option maxRecDepth 100000
namespace L2
open PySem PySem.Spec PyProof.Rows
/-! ### an own class made, a method called, within try; if within try -/
section
variable {X : Cx} {K : PySem.W.Frag} {k : Nat} {f C : Addr} {fd : FuncData} {ps : List Str} {sp : Sp} {dvs : List V} {ds : List Value} {x m : Str} {p pos apos : Pos} {e o : Expr} {es : List Expr} {ta : TE} {t : TA}
theorem run_makeX {pins : List (Addr × Obj)} {σ : St} {H : Hp} {s : Shared} {Q : VK} {E : XK} {us : List Value} {vs : List V} (M : Mk X.K C f) (F : FnOk X.prog X.w X.K X.mg X.base (CX1 X.prog X.w) k f fd ps sp) (hr : Room (k + 1) X.A) (hb : Binds X.K fd ps ds) (hd : Vals dvs ds)
    (I : Inv X pins σ H s) (r : Vals vs us)
    (h : ∀ x dx, H x = none → H dx = none → dx ≠ x → sp (.ref x :: (vs ++ dvs)) (upd (upd H dx (.own x)) x (.ins C dx [])) (fun v H2 => v = .non ∧ Q (.ref x) H2) E) :
    wpAny (model X.prog X.w) X.A (call (.ref C) us) (EP X pins σ Q) (fun ex s' => ∃ H1 s1, Inv X pins σ H1 s1 ∧ CX1 X.prog X.w X.stack H1 s1 E ex s') s := by
  have hq := h (s.heap.objs.size + 1) s.heap.objs.size (I.hok.fresh (Nat.le_succ _)) (I.hok.fresh (Nat.le_refl _)) (Nat.ne_of_lt (Nat.lt_succ_self _))
  have I2 := Inv.made (C := C) I
  have r2 : Vals (V.ref (s.heap.objs.size + 1) :: (vs ++ dvs)) (Value.ref (s.heap.objs.size + 1) :: (us ++ ds)) := .cons rfl (r.append hd)
  have hl : (Value.ref (s.heap.objs.size + 1) :: us ++ ds).length = ps.length := by
    have e := r2.length
    rw [F.len _ _ _ _ hq] at e
    exact e.symm
  refine wpAny_call (make_map (f := f) I.kIn M.makes M.init (beq_iff_eq.mp M.fn) (codeAny_mono (F.run _ X.stack _ _ ⟨Value.ref (s.heap.objs.size + 1) :: us, []⟩ (Value.ref (s.heap.objs.size + 1) :: (us ++ ds)) _ _ E (hr.make C us [])
    (I2.env0.make C us []) (hb _ (Value.ref (s.heap.objs.size + 1) :: us) I2.kIn hl) r2 hq) fun r s' hq' => ?_))
  cases r with
  | error e => exact ⟨_, _, I2, hq'⟩
  | ok fl =>
    cases fl with
    | ret u =>
      obtain ⟨v, H', I3, rv, ev, q3⟩ := I2.after hq'
      subst ev
      exact ⟨rv, ⟨V.ref (s.heap.objs.size + 1), H', I3, rfl, q3⟩⟩
    | next => exact False.elim hq'
    | brk => exact False.elim hq'
    | cont => exact False.elim hq'
theorem pex_make (M : Mk X.K C f) (F : FnOk X.prog X.w X.K X.mg X.base (CX1 X.prog X.w) k f fd ps sp) (hr : Room (k + 1) X.A) (hg : Gl X x) (hm : X.mg x = some (.ref C)) (hb : Binds X.K fd ps ds) (hd : Vals dvs ds)
    (ha : PA X.nox (e :: es) t) (hdb : (x == ("__debug__" : Str)) = false := by decide) (he : starEach (e :: es) X.env = (false, eval e X.env) :: starEach es X.env := by rfl) (hpl : (backTo pos (starEach es X.env)).any (·.1) = false := by rfl) :
    PEX X (.Call (.Name x p) (e :: es) [] pos) fun E => tMake C sp dvs E t := by
  intro pins s σ H Q E I h
  refine wpAny_Call_Name_kw (ld_glob I hg hm ?_ hdb)
  refine PySem.W.callWith_K (h₀ := X.base) I.ok.mod.kin M.kp (wpAny_mono (ha pos pins s σ H _ (I.wish _) h) (fun us s1 ⟨vs, H1, I1, r, q⟩ => ⟨I1.kIn, ?_⟩) fun _ _ z => z.elim) he hpl
  exact run_makeX M F hr hb hd (I1.unwish) r q
/-! ### a list and the empty list -/
def rNeE (K : PySem.W.Frag) : R2 := fun x y H Q => ∃ p q xs, x = .ref p ∧ y = .ref q ∧ SqL K H p xs ∧ SqL K H q [] ∧ Q (.bl (!xs.isEmpty)) H
def rEqE (K : PySem.W.Frag) : R2 := fun x y H Q => ∃ p q xs, x = .ref p ∧ y = .ref q ∧ SqL K H p xs ∧ SqL K H q [] ∧ Q (.bl xs.isEmpty) H
end
end L2

set_option Elab.async false
set_option linter.all false
set_option maxRecDepth 100000
namespace L2
open PySem PySem.Spec PyProof.Rows
section
variable {X : Cx} {K : PySem.W.Frag}
/-! ### sorted(list), sorted(list, reverse=True) of numbers; max(list), min(list) of numbers -/
def tSortR (K : PySem.W.Frag) (tl : TE) : TE := fun σ H Q => tl σ H fun x H1 => ∃ a ns, x = .ref a ∧ SqL K H1 a (vI ns) ∧ ns.length < 64 ∧ ∀ l ns', ns'.Perm ns → ns'.Pairwise (· ≥ ·) → H1 l = none → Q (.ref l) (upd H1 l (.lst (vI ns')))
end
end L2

set_option Elab.async false
set_option linter.all false
set_option maxRecDepth 100000
namespace L2
open PySem PySem.Spec PyProof.Rows
namespace SetW
/-! ### a set that is walked: the iterator, its items -/
theorem sl_nx : Slot "set_iterator" "__next__" "set_iterator.__next__" := .of (owner := "set_iterator") (n := "__next__") (by rw [typeLookup_type, builtinLookup_eq_fast]; kernel_rfl) (by decide +kernel) (by decide +kernel) (by decide +kernel) (by first | exact .inl (by decide +kernel) | exact .inr (by decide +kernel)) (by rw [isSubtype_type]; kernel_rfl)
theorem sl_it : Slot "set_iterator" "__iter__" "set_iterator.__iter__" := .of (owner := "set_iterator") (n := "__iter__") (by rw [typeLookup_type, builtinLookup_eq_fast]; kernel_rfl) (by decide +kernel) (by decide +kernel) (by decide +kernel) (by first | exact .inl (by decide +kernel) | exact .inr (by decide +kernel)) (by rw [isSubtype_type]; kernel_rfl)
theorem en_nx : entryFor table "set_iterator.__next__" = some Builtin.«set_iterator.__next__» := entryFor_of_fast (by kernel_rfl)
theorem en_it : entryFor table "set_iterator.__iter__" = some Builtin.«dict_keyiterator.__iter__» := entryFor_alias (id' := "dict_keyiterator.__iter__") (by kernel_rfl) rfl (by decide +kernel) (by kernel_rfl)
theorem en_si : entryFor table "set.__iter__" = some Builtin.«frozenset.__iter__» := entryFor_alias (id' := "frozenset.__iter__") (by kernel_rfl) rfl (by decide +kernel) (by kernel_rfl)
theorem ar_nx (a : Value) : argsOk "set_iterator.__next__" ⟨[a], []⟩ := by unfold argsOk; kernel_rfl
theorem ar_it (a : Value) : argsOk "set_iterator.__iter__" ⟨[a], []⟩ := by unfold argsOk; kernel_rfl
theorem le_set : typeLookup (.type "set") "__len__" = pure (some (.builtin "set.__len__")) := by rw [typeLookup_type, builtinLookup_eq_fast]; kernel_rfl
end SetW
end L2

set_option Elab.async false
set_option linter.all false
set_option maxRecDepth 100000
namespace L2
open PySem PySem.Spec PyProof.Rows
namespace SetW
theorem pick_go {α : Type} (next : Nat → Nat) : ∀ (fuel k : Nat) (left : List α) (out : Array α), left.length ≤ fuel → (pickOrder.go next fuel k left out).toList.Perm (out.toList ++ left)
  | 0, k, left, out, h => by
    have : left = [] := List.length_eq_zero_iff.mp (by omega)
    subst this
    simp [pickOrder.go]
  | fuel + 1, k, left, out, h => by
    unfold pickOrder.go
    by_cases e : left = []
    · subst e
      simp
    · have l0 : 0 < left.length := List.length_pos_iff.mpr e
      have l1 : next k % left.length < left.length := Nat.mod_lt _ l0
      rw [List.getElem?_eq_getElem l1]
      dsimp only
      refine (pick_go next fuel (k + 1) _ _ (by rw [List.length_eraseIdx, if_pos l1]; omega)).trans ?_
      rw [Array.toList_push, List.append_assoc]
      refine List.Perm.append_left _ ?_
      rw [List.eraseIdx_eq_take_drop_succ]
      have e2 : left = left.take (next k % left.length) ++ left[next k % left.length] :: left.drop (next k % left.length + 1) := by
        rw [List.getElem_cons_drop, List.take_append_drop]
      exact (List.perm_middle (a := left[next k % left.length]) (l₁ := left.take (next k % left.length)) (l₂ := left.drop (next k % left.length + 1))).symm.trans (.of_eq e2.symm)
theorem pick_perm {α : Type} (next : Nat → Nat) (xs : Array α) : (pickOrder next xs).toList.Perm xs.toList := by
  have := pick_go next xs.size 0 xs.toList #[] (by simp)
  simpa [pickOrder] using this
/-- the places rise -/
def Rise (xs : Array Nat) : Prop := ∀ i k, i < k → k < xs.size → xs.getD i 0 < xs.getD k 0
theorem below_go (xs : Array Nat) (j : Nat) (hR : Rise xs) : ∀ (fuel lo hi : Nat), lo ≤ hi → hi ≤ xs.size → hi - lo ≤ fuel → (∀ i, i < lo → xs.getD i 0 < j) → (∀ i, hi ≤ i → i < xs.size → j ≤ xs.getD i 0) →
    SetTable.below.go xs j fuel lo hi ≤ xs.size ∧ (∀ i, i < SetTable.below.go xs j fuel lo hi → xs.getD i 0 < j) ∧ (∀ i, SetTable.below.go xs j fuel lo hi ≤ i → i < xs.size → j ≤ xs.getD i 0)
  | 0, lo, hi, h1, h2, h3, h4, h5 => by
    have : lo = hi := by omega
    subst this
    unfold SetTable.below.go
    exact ⟨h2, h4, h5⟩
  | fuel + 1, lo, hi, h1, h2, h3, h4, h5 => by
    unfold SetTable.below.go
    by_cases c : lo < hi
    · rw [if_pos c]
      have hm : (lo + hi) / 2 < xs.size := by omega
      have e : xs.getD ((lo + hi) / 2) j = xs.getD ((lo + hi) / 2) 0 := by simp [Array.getD, hm]
      dsimp only
      by_cases c2 : xs.getD ((lo + hi) / 2) j < j
      · rw [if_pos c2]
        refine below_go xs j hR fuel _ hi (by omega) h2 (by omega) (fun i hi' => ?_) h5
        rw [e] at c2
        by_cases c3 : i = (lo + hi) / 2
        · rw [c3]; exact c2
        · have := hR i ((lo + hi) / 2) (by omega) hm
          omega
      · rw [if_neg c2]
        refine below_go xs j hR fuel lo _ (by omega) (by omega) (by omega) h4 (fun i hi' hs => ?_)
        rw [e] at c2
        by_cases c3 : i = (lo + hi) / 2
        · rw [c3]; omega
        · have := hR ((lo + hi) / 2) i (by omega) hs
          omega
    · rw [if_neg c]
      have : lo = hi := by omega
      subst this
      exact ⟨h2, h4, h5⟩
theorem below_is {xs : Array Nat} (hR : Rise xs) (j : Nat) : SetTable.below xs j ≤ xs.size ∧ (∀ i, i < SetTable.below xs j → xs.getD i 0 < j) ∧ (∀ i, SetTable.below xs j ≤ i → i < xs.size → j ≤ xs.getD i 0) :=
  below_go xs j hR xs.size 0 xs.size (Nat.zero_le _) (Nat.le_refl _) (by omega) (fun i h => by omega) (fun i h1 h2 => by omega)
theorem below_zero {xs : Array Nat} (hR : Rise xs) : SetTable.below xs 0 = 0 := by
  obtain ⟨h1, h2, h3⟩ := below_is hR 0
  by_cases c : SetTable.below xs 0 = 0
  · exact c
  · have := h2 0 (by omega); omega
theorem below_next {xs : Array Nat} (hR : Rise xs) {i : Nat} (hi : i < xs.size) : SetTable.below xs (xs.getD i 0 + 1) = i + 1 := by
  obtain ⟨h1, h2, h3⟩ := below_is hR (xs.getD i 0 + 1)
  rcases Nat.lt_trichotomy (SetTable.below xs (xs.getD i 0 + 1)) (i + 1) with c | c | c
  · have := h3 i (by omega) hi; omega
  · exact c
  · have a := h2 (i + 1) c
    have := hR i (i + 1) (by omega) (by omega)
    omega
/-- a set's object that can be walked -/
structure Wk (w : World) (o : Obj) (es : Array (Int × Value)) (ep : Nat) (t : SetTable) : Prop where
  ex : o.ExactSet
  d : o.data = .set es ep t
  f : t.fits es.size = true
  ok : w.params.followText "set-order" = true ∨ es.size = 0 ∨ (t.led = true ∧ (t.plain = true → Rise t.place))
theorem Wk.rise {w : World} {o : Obj} {es : Array (Int × Value)} {ep : Nat} {t : SetTable} (W : Wk w o es ep t) (hb : w.params.followText "set-order" = false) (hp : t.plain = true ∨ es.size ≤ 1) : Rise t.place := by
  have hf : t.place.size = es.size := by
    have := W.f
    unfold SetTable.fits at this
    simp at this
    exact this.1
  rcases W.ok with e | e | ⟨_, e⟩
  · rw [hb] at e; cases e
  · intro i k h1 h2; omega
  · rcases hp with hp | hp
    · exact e hp
    · intro i k h1 h2; omega
/-- how it is walked: by the text's order, by its places, or in a drawn order -/
def Md (w : World) (a : Addr) (es : Array (Int × Value)) (ep : Nat) (t : SetTable) (h : Heap) (T : Addr) (xl : List (Int × Value)) (i : Nat) (f : Value) : Prop :=
  (∃ slot : Nat, f = .int slot 0 ∧ ((w.params.followText "set-order" = true ∧ xl = (pickOrder (w.params.setOrder a ep) es).toList) ∨ (w.params.followText "set-order" = false ∧ (t.plain = true ∨ es.size ≤ 1) ∧ xl = es.toList ∧ SetTable.below t.place slot = i))) ∨
  (∃ pm : List Nat, f = .ref T ∧ h.get? T = some (seqObj "tuple" (pm.map fun k : Nat => rawInt (k : Int)).toArray 0) ∧ pm.Perm (List.range es.size) ∧ xl = pm.map fun k => es.toList.getD k (0, .none))
theorem Md.perm {w : World} {a T : Addr} {es : Array (Int × Value)} {ep i : Nat} {t : SetTable} {h : Heap} {xl : List (Int × Value)} {f : Value} (m : Md w a es ep t h T xl i f) : xl.Perm es.toList := by
  rcases m with ⟨_, _, ⟨_, e⟩ | ⟨_, _, e, _⟩⟩ | ⟨pm, _, _, hp, e⟩
  · rw [e]; exact pick_perm _ _
  · rw [e]
  · rw [e]
    refine (hp.map _).trans (.of_eq ?_)
    refine List.ext_getElem? fun k => ?_
    rw [List.getElem?_map]
    by_cases c : k < es.size
    · rw [List.getElem?_range c]
      simp [List.getD, c]
    · rw [List.getElem?_eq_none (by simp; omega), List.getElem?_eq_none (by simp; omega)]
      rfl
theorem Md.len {w : World} {a T : Addr} {es : Array (Int × Value)} {ep i : Nat} {t : SetTable} {h : Heap} {xl : List (Int × Value)} {f : Value} (m : Md w a es ep t h T xl i f) : xl.length = es.size := by
  rw [m.perm.length_eq, Array.length_toList]
/-- what is kept while it is walked -/
def StI (w : World) (I a T : Addr) (o : Obj) (es : Array (Int × Value)) (ep : Nat) (t : SetTable) (xl : List (Int × Value)) (i : Nat) (h : Heap) : Prop :=
  ∃ f oi, h.get? I = some oi ∧ oi.cls = .type "set_iterator" ∧ oi.data = .fields #[f, .int i 0, .ref a, .int es.size 0, .int ep 0] ∧ Md w a es ep t h T xl i f ∧ h.get? a = some o
section
variable {prog : Program} {w : World} {A : Around} {E : Value → Shared → Prop} {s : Shared} {a T : Addr} {o : Obj} {es : Array (Int × Value)} {ep : Nat} {t : SetTable} {xl : List (Int × Value)}
theorem StI.typeIs {I : Addr} {i : Nat} (x : StI w I a T o es ep t xl i s.heap) : s.TypeIs (.ref I) "set_iterator" := let ⟨_, oi, ho, hc, _⟩ := x; ⟨oi, ho, hc⟩
theorem typ (W : Wk w o es ep t) (ho : s.heap.get? a = some o) : s.TypeIs (.ref a) "set" := ⟨o, ho, W.ex.1⟩
theorem st_byText {Q : Bool → Shared → Prop} (h : Q (w.params.followText "set-order") s) : wpAny (model prog w) A setsByText Q E s := by
  unfold setsByText
  exact wpAny_bind (wpAny_askSetting (wpAny_pure h))
theorem st_drawn (W : Wk w o es ep t) (ho : s.heap.get? a = some o) {Q : Bool → Shared → Prop} (h : Q (!w.params.followText "set-order" && (!t.plain && decide (es.size > 1))) s) : wpAny (model prog w) A (setDrawn a) Q E s := by
  unfold setDrawn
  exact wpAny_bind (wpAny_setState_of ho W.d W.f (wpAny_bind (st_byText (wpAny_pure h))))
theorem st_epoch (W : Wk w o es ep t) (ho : s.heap.get? a = some o) {Q : Nat → Shared → Prop} (h : Q ep s) : wpAny (model prog w) A (setEpoch a) Q E s := by
  unfold setEpoch
  exact wpAny_bind (wpAny_setState_of ho W.d W.f (wpAny_pure h))
theorem st_ents (W : Wk w o es ep t) (ho : s.heap.get? a = some o) {Q : Array (Int × Value) → Shared → Prop} (h : Q es s) : wpAny (model prog w) A (setEntries a) Q E s := by
  unfold setEntries
  exact wpAny_bind (wpAny_setState_of ho W.d W.f (wpAny_pure h))
theorem st_choose {M : Model} {n : Nat} (hn : 0 < n) {Q : Nat → Shared → Prop} (h : ∀ i d, i < n → Q i { s with drawn := d }) : wpAny M A (choose .order n) Q E s := fun Γ p _ => by
  show Sem.wp M Γ (.choose .order n .pure) _ _ p s
  rw [Sem.wp_choose]
  exact ⟨by omega, h _ _ (Nat.mod_lt _ hn)⟩
theorem st_order {α : Type} {M : Model} : ∀ (n : Nat) (l : List α) {s : Shared} {Q : List α → Shared → Prop}, l.length ≤ n → (∀ l' d, l'.Perm l → Q l' { s with drawn := d }) → wpAny M A (drawOrder n l) Q E s
  | 0, l, s, Q, hl, h => by
    have : l = [] := List.length_eq_zero_iff.mp (by omega)
    subst this
    unfold drawOrder
    exact wpAny_pure (h [] s.drawn (.refl _))
  | n + 1, [], s, Q, hl, h => by
    unfold drawOrder
    exact wpAny_pure (h [] s.drawn (.refl _))
  | n + 1, x :: l, s, Q, hl, h => by
    unfold drawOrder
    refine wpAny_bind (st_choose (by simp) fun i d hi => ?_)
    rw [List.getElem?_eq_getElem hi]
    dsimp only
    refine wpAny_bind (st_order n ((x :: l).eraseIdx i) (by rw [List.length_eraseIdx, if_pos hi]; omega) fun l' d' hp => wpAny_pure (h _ d' ?_))
    refine (hp.cons _).trans ?_
    rw [List.eraseIdx_eq_take_drop_succ]
    have e2 : (x :: l) = (x :: l).take i ++ (x :: l)[i] :: (x :: l).drop (i + 1) := by rw [List.getElem_cons_drop, List.take_append_drop]
    exact (List.perm_middle (a := (x :: l)[i]) (l₁ := (x :: l).take i) (l₂ := (x :: l).drop (i + 1))).symm.trans (.of_eq e2.symm)
theorem it_set (W : Wk w o es ep t) (ho : s.heap.get? a = some o) (hz : es.size ≤ sizeLine) {Q : Value → Shared → Prop}
    (hQ : ∀ (h' : Heap) d I T xl, I ≠ a → T ≠ I → s.heap.objs.size ≤ I → (T = a ∨ s.heap.objs.size ≤ T) → (∀ b o, s.heap.get? b = some o → h'.get? b = some o) → StI w I a T o es ep t xl 0 h' → Q (.ref I) { s with heap := h', drawn := d }) : wpAny (model prog w) A (pyIter (.ref a)) Q E s := by
  have hT := typ W ho
  have ha : a < s.heap.objs.size := Heap.lt_size ho
  refine wpAny_pyIter_slot hT F.slot_set_iter (wpAny_call_entry F.slot_set_iter hT en_si ?_ (F.args_set_iter_1 _))
  unfold Builtin.«frozenset.__iter__»
  refine wpAny_bind (m := Builtin.Frozenset.slot0 "__iter__" ⟨[.ref a], []⟩) (wpAny_of_eq (a := a) rfl ?_)
  refine wpAny_bind (wpAny_bind (st_ents W ho (wpAny_pure ?_)))
  refine wpAny_bind (st_drawn W ho ?_)
  dsimp only
  by_cases c : (!w.params.followText "set-order" && (!t.plain && decide (es.size > 1))) = true
  · rw [if_pos c]
    refine wpAny_bind (st_order es.size (List.range es.size) (by simp) fun pm d hp => ?_)
    have hl : pm.length = es.size := by rw [hp.length_eq, List.length_range]
    unfold newTuple
    refine wpAny_bind (wpAny_newObj_type ?_ (by show (List.map _ pm).toArray.size ≤ _ + 1; rw [List.size_toArray, List.length_map, hl]; have := sizeLine_eq; omega))
    have k1 : ∀ b ob, s.heap.get? b = some ob → (s.heap.push { cls := .type "tuple", data := .seq (pm.map fun k : Nat => rawInt (k : Int)).toArray }).get? b = some ob := fun b ob e => Heap.get?_push_of_some _ e
    refine wpAny_bind (st_epoch W (k1 _ _ ho) (wpAny_bind (wpAny_newObj_type (wpAny_pure ⟨_, rfl, "set_iterator", _, ⟨_, Heap.get?_push_size _ rfl, rfl⟩, sl_nx.lookup, ?_⟩))))
    refine hQ _ d _ s.heap.objs.size (pm.map fun k => es.toList.getD k (0, .none)) ?_ ?_ ?_ (.inr (Nat.le_refl _)) (fun b ob e => Heap.get?_push_of_some _ (k1 _ _ e)) ?_
    · show (s.heap.push _).objs.size ≠ a
      rw [Heap.size_push]; exact Nat.ne_of_gt (Nat.lt_succ_of_lt ha)
    · show s.heap.objs.size ≠ (s.heap.push _).objs.size
      rw [Heap.size_push]; exact Nat.ne_of_lt (Nat.lt_succ_self _)
    · show s.heap.objs.size ≤ (s.heap.push _).objs.size
      rw [Heap.size_push]; exact Nat.le_succ _
    · exact ⟨.ref s.heap.objs.size, _, Heap.get?_push_size _ rfl, rfl, rfl, .inr ⟨pm, rfl, Heap.get?_push_of_some _ (Heap.get?_push_size _ rfl), hp, rfl⟩, Heap.get?_push_of_some _ (k1 _ _ ho)⟩
  · rw [if_neg c]
    refine wpAny_bind (wpAny_pure (wpAny_bind (st_epoch W ho (wpAny_bind (wpAny_newObj_type (wpAny_pure ⟨_, rfl, "set_iterator", _, ⟨_, Heap.get?_push_size _ rfl, rfl⟩, sl_nx.lookup, ?_⟩))))))
    have k : ∀ b ob, s.heap.get? b = some ob → (s.heap.push { cls := .type "set_iterator", data := .fields [rawInt 0, rawInt 0, .ref a, rawInt es.size, rawInt ep].toArray }).get? b = some ob := fun b ob e => Heap.get?_push_of_some _ e
    refine hQ _ s.drawn s.heap.objs.size a (if w.params.followText "set-order" = true then (pickOrder (w.params.setOrder a ep) es).toList else es.toList) (Nat.ne_of_gt ha) (Nat.ne_of_lt ha) (Nat.le_refl _) (.inl rfl) k ?_
    refine ⟨rawInt 0, _, Heap.get?_push_size _ rfl, rfl, rfl, .inl ⟨0, rfl, ?_⟩, k _ _ ho⟩
    by_cases hb : w.params.followText "set-order" = true
    · exact .inl ⟨hb, by rw [if_pos hb]⟩
    · have hb' : w.params.followText "set-order" = false := by simpa using hb
      rw [hb'] at c
      have hpl : t.plain = true ∨ es.size ≤ 1 := by
        by_cases z : t.plain = true
        · exact .inl z
        · have z' : t.plain = false := by simpa using z
          rw [z'] at c
          simp at c
          exact .inr c
      exact .inr ⟨hb', hpl, by rw [if_neg hb], below_zero (W.rise hb' hpl)⟩
/-- the next item by the text's order or by the places -/
theorem st_next (W : Wk w o es ep t) (ho : s.heap.get? a = some o) {slot i : Nat}
    (hm : (w.params.followText "set-order" = true ∧ xl = (pickOrder (w.params.setOrder a ep) es).toList) ∨ (w.params.followText "set-order" = false ∧ (t.plain = true ∨ es.size ≤ 1) ∧ xl = es.toList ∧ SetTable.below t.place slot = i)) {Q : Option (Value × Nat) → Shared → Prop}
    (h : ∀ next, (i < es.size → (w.params.followText "set-order" = true ∧ xl = (pickOrder (w.params.setOrder a ep) es).toList) ∨ (w.params.followText "set-order" = false ∧ (t.plain = true ∨ es.size ≤ 1) ∧ xl = es.toList ∧ SetTable.below t.place next = i + 1)) →
      Q ((xl[i]?).map fun e => (e.2, next)) s) : wpAny (model prog w) A (setNext a slot i ep) Q E s := by
  unfold setNext
  refine wpAny_bind (wpAny_setState_of ho W.d W.f (wpAny_bind (st_byText ?_)))
  dsimp only
  rcases hm with ⟨hb, hx⟩ | ⟨hb, hp, hx, hs⟩
  · rw [hb, if_pos rfl, if_neg (by simp)]
    unfold setWalk
    refine wpAny_bind (wpAny_bind (wpAny_setState_of ho W.d W.f (wpAny_bind (st_byText ?_))))
    rw [hb, if_pos rfl]
    refine wpAny_bind (wpAny_askSetting (wpAny_pure (wpAny_pure ?_)))
    have := h slot fun _ => .inl ⟨hb, hx⟩
    rw [hx, Array.getElem?_toList] at this
    exact this
  · rw [hb, if_neg (by decide)]
    have hR := W.rise hb hp
    have hf : t.place.size = es.size := by
      have := W.f
      unfold SetTable.fits at this
      simp at this
      exact this.1
    have nd : (!t.plain && decide (es.size > 1)) = false := by
      rcases hp with e | e
      · rw [e]; simp
      · rw [decide_eq_false (by omega)]; simp
    have nl : (!t.led && !es.isEmpty) = false := by
      rcases W.ok with e | e | ⟨e, _⟩
      · rw [hb] at e; cases e
      · simp [Array.isEmpty, e]
      · rw [e]; simp
    split
    · rename_i hd
      have hd' : (!t.plain && decide (es.size > 1)) = true := hd
      rw [nd] at hd'
      cases hd'
    · refine wpAny_bind ?_
      show wpAny _ _ (if (!t.led && !es.isEmpty) = true then unsupported "set:maker-not-led" else pure ()) _ _ _
      rw [nl, if_neg (by decide)]
      refine wpAny_pure (wpAny_pure ?_)
      rw [hs]
      by_cases hi : i < es.size
      · have := h (t.place[i]'(by omega) + 1) fun _ => .inr ⟨hb, hp, hx, by
          have := below_next hR (i := i) (by omega)
          rwa [show t.place.getD i 0 = t.place[i]'(by omega) by simp [Array.getD, show i < t.place.size by omega]] at this⟩
        rw [hx, Array.getElem?_toList, Array.getElem?_eq_getElem hi] at this
        rw [Array.getElem?_eq_getElem hi, Array.getElem?_eq_getElem (show i < t.place.size by omega)]
        exact this
      · have := h 0 fun z => absurd z hi
        rw [hx, Array.getElem?_toList, Array.getElem?_eq_none (by omega)] at this
        rw [Array.getElem?_eq_none (by omega)]
        exact this
theorem nx_item (W : Wk w o es ep t) {I : Addr} {i : Nat} {x : Int × Value} {Q : Option Value → Shared → Prop} (hne : a ≠ I) (hnT : T ≠ I) (st : StI w I a T o es ep t xl i s.heap) (hx : xl[i]? = some x)
    (hQ : ∀ h', StI w I a T o es ep t xl (i + 1) h' → (∀ b o, b ≠ I → s.heap.get? b = some o → h'.get? b = some o) → Q (some x.2) { s with heap := h' }) : wpAny (model prog w) A (pyNext (.ref I)) Q E s := by
  have hT := st.typeIs
  obtain ⟨f, oi, hoi, hci, hdi, hm, ho⟩ := st
  have hi : i < es.size := by rw [← hm.len]; exact (List.getElem?_eq_some_iff.mp hx).1
  unfold pyNext
  refine wpAny_bind (wpAny_attempt (wpAny_callSpecial?_slot (name := Str.ofString "__next__") hT sl_nx (wpAny_call_entry sl_nx hT en_nx ?_ (ar_nx _))))
  unfold Builtin.«set_iterator.__next__»
  refine wpAny_bind (m := slotArgs "__next__" 0 ⟨[.ref I], []⟩) (wpAny_of_eq (a := (Value.ref I, [])) rfl ?_)
  refine wpAny_bind (wpAny_fieldsOf hoi hdi ?_)
  dsimp only
  refine wpAny_bind (st_ents W ho ?_)
  rw [if_neg (by simp)]
  rcases hm with ⟨slot, rfl, hm⟩ | ⟨pm, rfl, hT2, hp, hxl⟩
  · simp only [Int.toNat_natCast]
    refine wpAny_bind (st_next W ho hm fun next hn => ?_)
    rw [hx]
    dsimp only [Option.map]
    refine wpAny_bind (wpAny_setField hoi hdi (by simp) ?_)
    have ho1 := Heap.get?_update_self (Obj.mapFields (·.setIfInBounds 0 (rawInt (next : Int)))) hoi (Obj.isFreed_of_fields (Obj.data_mapFields hdi _))
    have hd1 := Obj.data_mapFields hdi (·.setIfInBounds 0 (rawInt (next : Int)))
    refine wpAny_bind (wpAny_setField ho1 hd1 (by simp) (wpAny_pure ⟨_, rfl, wpAny_pure (hQ _ ⟨.int next 0, _, Heap.get?_update_self _ ho1 (Obj.isFreed_of_fields (Obj.data_mapFields hd1 _)), ?_, ?_, .inl ⟨next, rfl, hn hi⟩, ?_⟩ fun b o' hb e => ?_)⟩))
    · exact (Obj.cls_mapFields ..).trans ((Obj.cls_mapFields ..).trans hci)
    · rw [Obj.data_mapFields hd1]; simp [rawInt]
    · exact (Heap.get?_update_other _ _ (Ne.symm hne)).trans ((Heap.get?_update_other _ _ (Ne.symm hne)).trans ho)
    · exact (Heap.get?_update_other _ _ (Ne.symm hb)).trans ((Heap.get?_update_other _ _ (Ne.symm hb)).trans e)
  · have hpi : i < pm.length := by rw [hp.length_eq, List.length_range]; exact hi
    have hk : pm[i] < es.size := by
      have := hp.mem_iff.mp (List.getElem_mem hpi)
      simpa using this
    have e1 : es[pm[i]]? = some x := by
      rw [hxl, List.getElem?_map, List.getElem?_eq_getElem hpi] at hx
      have := Option.some.inj hx
      rw [Array.getElem?_eq_getElem hk]
      simp [List.getD, hk] at this
      rw [this]
    simp only [Int.toNat_natCast]
    refine wpAny_bind (wpAny_seqItems hT2 rfl ?_)
    dsimp only
    rw [show ((pm.map fun k : Nat => rawInt (k : Int)).toArray)[i]? = some (.int (pm[i] : Int) 0) by simp [hpi, rawInt]]
    dsimp only
    unfold setNextDrawn
    refine wpAny_bind (wpAny_bind (wpAny_setState_of ho W.d W.f ?_))
    dsimp only
    rw [if_neg (by simp)]
    simp only [Int.toNat_natCast]
    rw [e1]
    refine wpAny_pure (wpAny_bind (wpAny_setField hoi hdi (by simp) (wpAny_pure ⟨_, rfl, wpAny_pure (hQ _ ⟨.ref T, _, Heap.get?_update_self _ hoi (Obj.isFreed_of_fields (Obj.data_mapFields hdi _)), ?_, ?_, .inr ⟨pm, rfl, ?_, hp, hxl⟩, ?_⟩ fun b o' hb e => ?_)⟩)))
    · exact (Obj.cls_mapFields ..).trans hci
    · rw [Obj.data_mapFields hdi]; simp [rawInt]
    · exact (Heap.get?_update_other _ _ (Ne.symm hnT)).trans hT2
    · exact (Heap.get?_update_other _ _ (Ne.symm hne)).trans ho
    · exact (Heap.get?_update_other _ _ (Ne.symm hb)).trans e
theorem stops (hh : A.handled = none) {Q : Option Value → Shared → Prop} (hQ : ∀ h', (∀ b o, s.heap.get? b = some o → h'.get? b = some o) → Q none { s with heap := h' }) :
    wpAny (model prog w) A.in1 (do raiseNew (← newExc (.type "StopIteration") []) : Sem Fin) (fun fin s' => ∃ v, fin = Fin.done (Flow.ret v) ∧ wpAny (model prog w) A (pure (some v)) Q E s')
      (fun e s' => wpAny (model prog w) A (do if ← isInstance e (.type "StopIteration") then pure none else throw e) Q E s') s := by
  refine wpAny_bind ?_
  simp only [newExc, newTuple]
  refine wpAny_bind (wpAny_newObj_type (wpAny_bind (m := firstArgMember _ _) (wpAny_of_eq (a := Value.none) (by first | rfl | (simp only [firstArgMember]; rfl)) (wpAny_newObj_type ?_ (by size_fits)))) (by size_fits))
  simp only [raiseNew]
  refine wpAny_bind (wpAny_handled ?_)
  rw [show A.in1.handled = none from hh]
  refine wpAny_bind (wpAny_pure (wpAny_throw ?_))
  refine wpAny_bind (wpAny_isInstance (T := "StopIteration") (b := true) ⟨_, Heap.get?_push_size _ rfl, rfl⟩ isSubtype_stop (wpAny_pure (hQ _ fun b o' e => ?_)))
  exact Heap.get?_push_of_some _ (Heap.get?_push_of_some _ e)
theorem nx_end (W : Wk w o es ep t) {I : Addr} {Q : Option Value → Shared → Prop} (hh : A.handled = none) (st : StI w I a T o es ep t xl es.size s.heap)
    (hQ : ∀ h', (∀ b o, b ≠ I → s.heap.get? b = some o → h'.get? b = some o) → Q none { s with heap := h' }) : wpAny (model prog w) A (pyNext (.ref I)) Q E s := by
  have hT := st.typeIs
  obtain ⟨f, oi, hoi, hci, hdi, hm, ho⟩ := st
  have hx : xl[es.size]? = none := List.getElem?_eq_none (by rw [hm.len]; exact Nat.le_refl _)
  unfold pyNext
  refine wpAny_bind (wpAny_attempt (wpAny_callSpecial?_slot (name := Str.ofString "__next__") hT sl_nx (wpAny_call_entry sl_nx hT en_nx ?_ (ar_nx _))))
  unfold Builtin.«set_iterator.__next__»
  refine wpAny_bind (m := slotArgs "__next__" 0 ⟨[.ref I], []⟩) (wpAny_of_eq (a := (Value.ref I, [])) rfl ?_)
  refine wpAny_bind (wpAny_fieldsOf hoi hdi ?_)
  dsimp only
  refine wpAny_bind (st_ents W ho ?_)
  rw [if_neg (by simp)]
  rcases hm with ⟨slot, rfl, hm⟩ | ⟨pm, rfl, hT2, hp, hxl⟩
  · simp only [Int.toNat_natCast]
    refine wpAny_bind (st_next W ho hm fun next hn => ?_)
    rw [hx]
    dsimp only [Option.map]
    refine wpAny_bind (wpAny_setField hoi hdi (by simp) (stops hh fun h' k => hQ h' fun b o' hb e => k _ _ ?_))
    exact (Heap.get?_update_other _ _ (Ne.symm hb)).trans e
  · simp only [Int.toNat_natCast]
    refine wpAny_bind (wpAny_seqItems hT2 rfl ?_)
    dsimp only
    rw [show ((pm.map fun k : Nat => rawInt (k : Int)).toArray)[es.size]? = none by
      rw [List.getElem?_toArray]
      exact List.getElem?_eq_none (by rw [List.length_map, hp.length_eq, List.length_range]; exact Nat.le_refl _)]
    dsimp only
    refine wpAny_bind (wpAny_setField hoi hdi (by simp) ?_)
    have ho1 := Heap.get?_update_self (Obj.mapFields (·.setIfInBounds 0 (rawInt 0))) hoi (Obj.isFreed_of_fields (Obj.data_mapFields hdi _))
    have hd1 := Obj.data_mapFields hdi (·.setIfInBounds 0 (rawInt 0))
    refine wpAny_bind (wpAny_setField ho1 hd1 (by simp) (stops hh fun h' k => hQ h' fun b o' hb e => k _ _ ?_))
    exact (Heap.get?_update_other _ _ (Ne.symm hb)).trans ((Heap.get?_update_other _ _ (Ne.symm hb)).trans e)
theorem it_self {I : Addr} {i : Nat} {Q : Value → Shared → Prop} (st : StI w I a T o es ep t xl i s.heap) (h : Q (.ref I) s) : wpAny (model prog w) A (pyIter (.ref I)) Q E s := by
  have hT := st.typeIs
  refine wpAny_pyIter_slot hT sl_it (wpAny_call_entry sl_it hT en_it ?_ (ar_it _))
  show wpAny _ _ (ret (.ref I)) _ _ s
  exact wpAny_pure ⟨_, rfl, "set_iterator", _, hT, sl_nx.lookup, h⟩
theorem walks (W : Wk w o es ep t) (hh : A.handled = none) {I : Addr} (hne : a ≠ I) (hnT : T ≠ I) : Walks prog w A I [I, a, T] [I] es.size (fun i v => ∃ x, xl[i]? = some x ∧ v = x.2) (StI w I a T o es ep t xl) where
  sub := fun b hb => by rw [List.mem_singleton.mp hb]; exact List.mem_cons_self
  frame := fun i h h' ⟨f, oi, h1, h2, h3, hm, h4⟩ hk => ⟨f, oi, hk I (by simp) _ h1, h2, h3, by
    rcases hm with m | ⟨pm, m1, m2, m3⟩
    · exact .inl m
    · exact .inr ⟨pm, m1, hk T (by simp) _ m2, m3⟩, hk a (by simp) _ h4⟩
  item := fun i s Q E hi st hQ => by
    obtain ⟨x, hx⟩ : ∃ x, xl[i]? = some x := ⟨_, List.getElem?_eq_getElem (by
      obtain ⟨_, _, _, _, _, hm, _⟩ := id st
      rw [hm.len]; exact hi)⟩
    exact nx_item W hne hnT st hx fun h' st' hk => hQ _ h' s.toks ⟨x, hx, rfl⟩ st' fun b o hb e => hk b o (fun z => hb (by simp [z])) e
  done := fun s Q E st hQ => nx_end W hh st fun h' hk => hQ h' s.toks fun b o hb e => hk b o (fun z => hb (by simp [z])) e
  self := fun i s Q E st hQ => it_self st hQ
end
end SetW
end L2

set_option Elab.async false
set_option linter.all false
set_option maxRecDepth 100000
namespace L2
open PySem PySem.Spec PyProof.Rows
namespace SetW
section
variable {prog : Program} {w : World} {A : Around} {E : Value → Shared → Prop} {s : Shared} {a : Addr} {o : Obj} {es : Array (Int × Value)} {ep : Nat} {t : SetTable}
theorem sub_ss : isSubtype (.type "set") (.type "set") = pure true := by rw [isSubtype_type]; kernel_rfl
/-- the set's items in a new list -/
theorem col_set (W : Wk w o es ep t) (ho : s.heap.get? a = some o) (hh : A.handled = none) (hn : es.size ≤ sizeLine) {Q : List Value → Shared → Prop}
    (hQ : ∀ (xl : List (Int × Value)) s', xl.Perm es.toList → (∀ b o, s.heap.get? b = some o → s'.heap.get? b = some o) → s'.gens = s.gens → s'.os = s.os → s.heap.objs.size ≤ s'.heap.objs.size → Q (xl.map (·.2)) s') : wpAny (model prog w) A (collect (.ref a)) Q E s := by
  have ha : a < s.heap.objs.size := Heap.lt_size ho
  unfold collect
  refine wpAny_bind (wpAny_runValue (codeAny_builtin F.entry_proto_collect ?_))
  rw [Around.under_plainId F.plain_proto_collect _]
  show wpAny _ A.in1 (newList [] >>= fun l => again (.builtin "list.__iadd__" ⟨[l, .ref a], []⟩)) _ _ s
  refine wpAny_bind (wpAny_newObj_type (wpAny_pure ⟨plainId_quiet F.plain_list_iadd _, codeAny_builtin F.entry_list_iadd ?_⟩))
  rw [Around.under_plainId F.plain_list_iadd _]
  obtain ⟨h1, eh1⟩ : ∃ h1, h1 = s.heap.push { cls := .type "list", data := .seq ([] : List Value).toArray } := ⟨_, rfl⟩
  have hS1 : h1.get? s.heap.objs.size = some { cls := .type "list", data := .seq ([] : List Value).toArray } := by rw [eh1]; exact Heap.get?_push_size _ rfl
  have k1 : ∀ b o, s.heap.get? b = some o → h1.get? b = some o := fun b o e => by rw [eh1]; exact Heap.get?_push_of_some _ e
  have z1 : h1.objs.size = s.heap.objs.size + 1 := by rw [eh1, Heap.size_push]
  show wpAny _ A.in1 (Builtin.List.listExtendWith (.ref s.heap.objs.size) (.ref a) (.ref s.heap.objs.size)) _ _ { s with heap := s.heap.push { cls := .type "list", data := .seq ([] : List Value).toArray } }
  rw [← eh1]
  unfold Builtin.List.listExtendWith
  have ho1 := k1 _ _ ho
  refine wpAny_bind (wpAny_typeOf (typ (s := { s with heap := h1 }) W ho1) ?_)
  have e1 : Builtin.List.listSameRef (.ref s.heap.objs.size) (.ref a) = false := by
    have : s.heap.objs.size ≠ a := Nat.ne_of_gt ha
    simp [Builtin.List.listSameRef, this]
  rw [if_neg (by rw [e1]; decide)]
  refine wpAny_bind (it_set (s := { s with heap := h1 }) W ho1 hn ?_)
  intro h2 d I T xl nIa nTI sI sT k2 st2
  have hxp : xl.Perm es.toList := by
    obtain ⟨_, _, _, _, _, hm, _⟩ := st2
    exact hm.perm
  have sI' : s.heap.objs.size < I := Nat.lt_of_lt_of_le (by rw [z1]; exact Nat.lt_succ_self _) sI
  show wpAny _ A.in1 _ _ _ { s with heap := h2, drawn := d }
  refine wpAny_bind (wpAny_holding ?_)
  unfold Builtin.List.listLengthHint
  have ho2 := k2 _ _ ho1
  refine wpAny_bind (wpAny_specialOf (typ (s := { s with heap := h2, drawn := d }) W ho2) le_set ?_)
  generalize hid : ("set.__len__" : String) = ln0
  wp_delta
  rw [show splitId ln0 = some ("set", "__len__") by subst hid; decide +kernel]
  subst hid
  refine wpAny_bind (wpAny_isInstance (b := true) (typ (s := { s with heap := h2, drawn := d }) W ho2) sub_ss ?_)
  rw [if_neg (by decide)]
  split
  case isFalse hn1 => exact absurd (by decide +kernel) hn1
  refine wpAny_bind (wpAny_typeOf (typ (s := { s with heap := h2, drawn := d }) W ho2) (wpAny_pure ?_))
  rw [if_pos (by decide +kernel)]
  refine wpAny_bind (wpAny_rule (wpAny_bind ?_))
  have hS2 := k2 _ _ hS1
  show wpAny _ A.in1 (updateSeq s.heap.objs.size (·.push .none) >>= fun _ => updateSeq s.heap.objs.size (·.pop)) _ _ _
  refine wpAny_bind (wpAny_updateSeq hS2 rfl ?_)
  have hS3 := Heap.get?_update_self (Obj.mapSeq (·.push Value.none)) hS2 rfl
  refine wpAny_updateSeq hS3 rfl ?_
  have hS4 := Heap.get?_update_self (Obj.mapSeq (·.pop)) hS3 rfl
  obtain ⟨h4, eh4⟩ : ∃ h4, h4 = (h2.update s.heap.objs.size (Obj.mapSeq (·.push Value.none))).update s.heap.objs.size (Obj.mapSeq (·.pop)) := ⟨_, rfl⟩
  have k4 : ∀ b o, b ≠ s.heap.objs.size → h2.get? b = some o → h4.get? b = some o := fun b o hb e => by rw [eh4]; exact (Heap.get?_update_other _ _ (Ne.symm hb)).trans ((Heap.get?_update_other _ _ (Ne.symm hb)).trans e)
  have nT : T ≠ s.heap.objs.size := by
    rcases sT with e | e
    · rw [e]; exact Nat.ne_of_lt ha
    · exact Nat.ne_of_gt (Nat.lt_of_lt_of_le (by rw [z1]; exact Nat.lt_succ_self _) e)
  have WK := walks (prog := prog) (T := T) (xl := xl) (A := A.in1) W hh nIa.symm nTI
  have st4 : StI w I a T o es ep t xl 0 h4 := WK.frame 0 h2 h4 st2 fun b hb ob e => k4 b ob (by
    simp only [List.mem_cons, List.not_mem_nil, or_false] at hb
    rcases hb with e | e | e
    · rw [e]; exact Nat.ne_of_gt sI'
    · rw [e]; exact Nat.ne_of_lt ha
    · rw [e]; exact nT) e
  show wpAny _ A.in1 (again (.builtin "list.extend.loop" ⟨[.ref s.heap.objs.size, .ref I, .ref s.heap.objs.size], []⟩)) _ _ { s with heap := (h2.update s.heap.objs.size (Obj.mapSeq (·.push Value.none))).update s.heap.objs.size (Obj.mapSeq (·.pop)), drawn := d }
  rw [← eh4]
  rw [← eh4] at hS4
  refine wpAny_pure ⟨plainId_quiet F.plain_extend_loop _, codeAny_extend_loopS (WK.toS) hn s.heap.objs.size ?_ _ es.size 0 _ _ _ rfl (Nat.zero_le _) st4 hS4 (ItemsOf.nil _) fun s' acc' c' hm hS' hacc => ?_⟩
  · simp only [List.mem_cons, List.not_mem_nil, or_false, not_or]
    exact ⟨Nat.ne_of_lt sI', Nat.ne_of_gt ha, nT.symm⟩
  show wpAny _ A (load s.heap.objs.size >>= _) _ _ s'
  refine wpAny_bind (wpAny_load hS' (wpAny_pure ?_))
  have xlen : xl.length = es.size := by rw [hxp.length_eq, Array.length_toList]
  have ea : acc'.toList = xl.map (·.2) := by
    refine List.ext_getElem? fun i => ?_
    rw [List.getElem?_map, Array.getElem?_toList]
    by_cases hi : i < es.size
    · have hi2 : i < acc'.size := by rw [hacc.1]; exact hi
      obtain ⟨x, g1, g2⟩ := hacc.2 i acc'[i] (Array.getElem?_eq_getElem hi2)
      rw [g1, Array.getElem?_eq_getElem hi2, g2]
      rfl
    · rw [Array.getElem?_eq_none (by rw [hacc.1]; omega), List.getElem?_eq_none (by rw [xlen]; omega)]
      rfl
  rw [ea]
  refine hQ xl s' hxp (fun b ob e => hm.heap b ob ?_ (k4 _ _ (Nat.ne_of_lt (Heap.lt_size e)) (k2 _ _ (k1 _ _ e)))) hm.gens hm.os (Nat.le_of_lt (Heap.lt_size hS'))
  have := Heap.lt_size e
  simp only [List.mem_cons, List.not_mem_nil, or_false, not_or]
  exact ⟨Nat.ne_of_lt this, Nat.ne_of_lt (Nat.lt_trans this sI')⟩
/-- sorted(set) of numbers -/
theorem sorted_set (W : Wk w o es ep t) (ho : s.heap.get? a = some o) (hh : A.handled = none) (h64 : es.size < 64) {key : Int × Value → Int} (hI : ∀ e ∈ es.toList, ∃ tk, e.2 = .int (key e) tk) {Q : Value → Shared → Prop}
    (hQ : ∀ (h' : Heap) d (tk l e : Nat) (out : Array Value) (ns' : List Int), (∀ b o, s.heap.get? b = some o → h'.get? b = some o) → s.heap.objs.size ≤ l → h'.get? l = some (seqObj "list" out e) → IntsAre out.toList ns' → ns'.Perm (es.toList.map key) → ns'.Pairwise (· ≤ ·) →
      Q (.ref l) { s with heap := h', drawn := d, toks := tk }) : wpAny (model prog w) A (call (.builtin "sorted") [.ref a]) Q E s := by
  refine Calls.call_function_entry kind_sorted plain_sorted entry_sorted (args_sorted1 _) ?_
  unfold Builtin.«sorted»
  refine wpAny_bind (m := checkCount "sorted" 1 1 _) (wpAny_pure (wpAny_bind (col_set (A := A.in1) W ho hh (by rw [sizeLine_eq]; omega) fun xl s' hxp k hg hos hz => ?_)))
  obtain ⟨h', g', d', tk', os'⟩ := s'
  dsimp only at k hg hos hz
  subst hg hos
  have xlen : xl.length = es.size := by rw [hxp.length_eq, Array.length_toList]
  have hI2 : ∀ l : List (Int × Value), (∀ e ∈ l, ∃ tk, e.2 = .int (key e) tk) → IntsAre (l.map (·.2)) (l.map key) := by
    intro l
    induction l with
    | nil => intro _; exact .nil
    | cons e l ih =>
      intro h
      obtain ⟨tk, hk⟩ := h e List.mem_cons_self
      rw [List.map_cons, List.map_cons, hk]
      exact .cons _ _ (ih fun x hx => h x (List.mem_cons_of_mem _ hx))
  have hIx := hI2 xl fun e he => hI e (hxp.mem_iff.mp he)
  have hoL : (h'.push (seqObj "list" (xl.map (·.2)).toArray 0)).get? h'.objs.size = some (seqObj "list" (xl.map (·.2)).toArray 0) := Heap.get?_push_size _ rfl
  refine wpAny_bind (wpAny_newList (hsz := by rw [List.length_map, xlen, sizeLine_eq]; omega) ?_)
  show wpAny _ _ _ _ _ { s with heap := h'.push (seqObj "list" (xl.map (·.2)).toArray 0), drawn := d', toks := tk' }
  refine wpAny_bind (wpAny_holding (wpAny_call_entry slot_list_sort ⟨_, hoL, rfl⟩ entry_list_sort (list_sort_tree hoL hIx (by rw [List.length_map, xlen]; exact h64) fun out ns' a1 a2 a3 => ⟨_, rfl, wpAny_pure ⟨_, rfl, ?_⟩⟩) (args_list_sort _)))
  obtain ⟨e, he⟩ := sortedHeap_at (out := out) hoL
  refine hQ _ d' tk' h'.objs.size e out ns' (fun b ob eb => ?_) ?_ he a1 (a2.trans (hxp.map _)) a3
  · have lb := Heap.lt_size (k _ _ eb)
    rw [sortedHeap_old (Nat.ne_of_lt lb) (by rw [size_push']; exact Nat.lt_succ_of_lt lb)]
    exact Heap.get?_push_of_some _ (k _ _ eb)
  · exact hz
end
end SetW
end L2

set_option Elab.async false
set_option linter.all false
set_option maxRecDepth 100000
namespace L2
open PySem PySem.Spec PyProof.Rows
section
variable {X : Cx} {K : PySem.W.Frag} {p1 p2 pos1 pos2 : Pos} {e : Expr} {te : TE}
/-- sorted(set(e)) of an empty list -/
def tSortSetE (K : PySem.W.Frag) (te : TE) : TE := fun σ H Q => te σ H fun x H1 => ∃ a, x = .ref a ∧ SqL K H1 a (vI []) ∧ ∀ l, H1 l = none → Q (.ref l) (upd H1 l (.lst (vI [])))
theorem pe_sortSetE (hg1 : Gl X "sorted") (hm1 : X.mg "sorted" = none) (hg2 : Gl X "set") (hm2 : X.mg "set" = none) (he : PE X e te) (hK : X.K = K := by rfl) (hc : X.calm = true := by rfl)
    (hs2 : starEach [e] X.env = (false, eval e X.env) :: starEach [] X.env := by rfl)
    (hs1 : starEach [.Call (.Name "set" p2) [e] [] pos2] X.env = (false, eval (.Call (.Name "set" p2) [e] [] pos2) X.env) :: starEach [] X.env := by rfl)
    (hq1 : (backTo pos1 (starEach [] X.env)).any (·.1) = false := by rfl) (hq2 : (backTo pos2 (starEach [] X.env)).any (·.1) = false := by rfl) :
    PE X (.Call (.Name "sorted" p1) [.Call (.Name "set" p2) [e] [] pos2] [] pos1) (tSortSetE K te) := by
  subst hK
  intro pins s σ H Q I h
  have hsz : sizeLine = 16777216 := sizeLine_eq
  refine wpAny_Call_Name_kw (ld_blt I hg1 hm1 bt_sorted ?_ (by decide) (by decide))
  refine PyProof.Rows.callWith_builtin1 ?_ hs1 hq1
  rw [hs1]
  show wpAny _ _ (spliced ((false, eval (.Call (.Name "set" p2) [e] [] pos2) X.env) :: backTo pos1 (starEach [] X.env))) _ _ s
  refine Calls.spliced_cons ?_
  refine wpAny_Call_Name_kw (ld_blt I hg2 hm2 bt_set ?_ (by decide) (by decide))
  refine PyProof.Rows.callWith_type1 ?_ hs2 hq2
  rw [hs2]
  show wpAny _ _ (spliced ((false, eval e X.env) :: backTo pos2 (starEach [] X.env))) _ _ s
  refine Calls.spliced_cons (thn (he pins s σ H _ I h) fun u s1 ⟨x, H1, I1, r1, a, ex, hq, q⟩ => ?_)
  subst ex
  cases r1
  refine Calls.spliced_nil ?_
  obtain ⟨its, r, pl, hz⟩ := I1.list hq
  have hi : IntsAre its [] := intsAre_of r
  have hlen : its.length = 0 := hi.length
  refine PySem.call_set_list (items := its.toArray) (I.ok.hd hc) pl.isList hi (by rw [List.size_toArray, hlen]; decide) fun h' tk hS gk => ?_
  refine Calls.spliced_nil ?_
  obtain ⟨o, es, ep, t, go, gx, gd, _, _, _, gf, gn⟩ := hS
  have e0 : es.size = 0 := by
    have := firstMet_length_le (fun i => ([] : List Int).getD i 0) its.toArray.size
    rw [List.size_toArray, hlen] at this
    rw [gn, List.size_toArray, hlen]
    omega
  have ee : es.toList = [] := List.length_eq_zero_iff.mp (by rw [Array.length_toList]; exact e0)
  refine SetW.sorted_set (s := { s1 with heap := h', toks := tk }) (key := fun _ => 0) ⟨gx, gd, gf, .inr (.inl e0)⟩ go (I.ok.hd hc) (by omega) (fun e he => by rw [ee] at he; cases he) fun h2 d tk2 l ep2 out ns' k2 hl2 hg2 hi2 hp2 hr2 => ?_
  have hns : ns' = [] := by
    have := hp2.length_eq
    rw [ee] at this
    exact List.length_eq_zero_iff.mp this
  subst hns
  have hl1 : s1.heap.objs.size ≤ l := Nat.le_of_lt (Nat.lt_of_lt_of_le (Heap.lt_size go) hl2)
  have J := I1.laid (t' := tk2) (h' := h2) (a := l) (o := .lst (vI [])) (fun b u e => k2 _ _ (gk _ _ (Heap.lt_size e) e)) hl1 ⟨Nat.zero_le _, out.toList, ep2, vals_ints hi2, by rw [hg2]⟩
  exact ⟨.ref l, _, ⟨J.ok, J.os, J.bare, J.base, J.loc, J.cell, J.free, J.freeC, J.pin, J.hok, J.len⟩, rfl, q _ (I1.hok.fresh hl1)⟩
end
end L2

namespace Mine
open L2
/-- the signs of a cloth: # is 35, . is 46 -/
def Sg (c : Nat) : Prop := c = 35 ∨ c = 46
structure Cl (cl : List (List Nat)) (m n : Nat) : Prop where
  hn : cl.length = n
  hm : ∀ t ∈ cl, t.length = m
  sg : ∀ t ∈ cl, ∀ c ∈ t, Sg c
  m1 : 1 ≤ m
  m40 : m ≤ 40
  n1 : 1 ≤ n
  n40 : n ≤ 40
def flip (c : Nat) : Nat := if c = 35 then 46 else 35
def back (cl : List (List Nat)) : List (List Nat) := cl.map fun t => t.reverse.map flip
def col (cl : List (List Nat)) (e : Nat) : List Nat := cl.map fun t => t.getD e 0
def quart (cl : List (List Nat)) (m : Nat) : List (List Nat) := (List.range m).map fun e => (col cl e).map flip
/-- the sign at a place of the cloth without end -/
def sgn (cl : List (List Nat)) (m n : Nat) (x y : Int) : Nat := (cl.getD (y % (n : Int)).toNat []).getD (x % (m : Int)).toNat 0
end Mine

set_option linter.all false
namespace Mine
open L2
/-- a rising list of shafts -/
def Rs (ks : List Int) : Prop := (∀ (i : Nat) (a b : Int), ks[i]? = some a → ks[i + 1]? = some b → a < b) ∧ ∀ k ∈ ks, 0 ≤ k ∧ k < 40
theorem rs_nil : Rs [] := ⟨fun i a b h => by simp at h, fun k h => by cases h⟩
theorem rs_add {ks : List Int} {z : Int} (h : Rs ks) (hz : ∀ k ∈ ks, k < z) (h0 : 0 ≤ z) (h1 : z < 40) : Rs (ks ++ [z]) := by
  refine ⟨fun i a b ha hb => ?_, fun k hk => ?_⟩
  · by_cases hi : i + 1 < ks.length
    · rw [List.getElem?_append_left (by omega)] at ha
      rw [List.getElem?_append_left hi] at hb
      exact h.1 i a b ha hb
    · by_cases hi2 : i < ks.length
      · rw [List.getElem?_append_left hi2] at ha
        rw [List.getElem?_append_right (by omega)] at hb
        have e : i + 1 - ks.length = 0 := by omega
        rw [e] at hb
        have : b = z := by simpa using hb.symm
        rw [this]
        exact hz a (List.mem_of_getElem? ha)
      · rw [List.getElem?_append_right (by omega)] at hb
        have : ([z] : List Int)[i + 1 - ks.length]? = none := by
          apply List.getElem?_eq_none
          simp
          omega
        rw [this] at hb
        cases hb
  · rcases List.mem_append.mp hk with h2 | h2
    · exact h.2 k h2
    · rw [List.mem_singleton.mp h2]; exact ⟨h0, h1⟩
/-- lists that fit a draft -/
structure Ft (th : List Int) (tss : List (List Int)) (tr : List Int) : Prop where
  m1 : 1 ≤ th.length
  m40 : th.length ≤ 40
  t1 : 1 ≤ tss.length
  t40 : tss.length ≤ 40
  n1 : 1 ≤ tr.length
  n40 : tr.length ≤ 40
  hth : ∀ v ∈ th, 0 ≤ v ∧ v < 40
  hti : ∀ ks ∈ tss, Rs ks
  htr : ∀ v ∈ tr, 0 ≤ v ∧ v < tss.length
def shd (th ks : List Int) : List Nat := th.map fun s => if s ∈ ks then 35 else 46
def wv (th : List Int) (tss : List (List Int)) (tr : List Int) : List (List Nat) := tr.map fun v => shd th (tss.getD v.toNat [])
end Mine

set_option Elab.async false
set_option linter.all false
set_option maxRecDepth 100000
set_option maxHeartbeats 4000000
namespace Mine
open PySem L2
def top (i : Nat) : Stmt := PySem.Challenge.pw_heddle_k14_settings_refused.main.body.getD i (.Pass ⟨0, 0, 0, 0⟩)
abbrev s_wall : Stmt := top 0
abbrev s_check_setting : Stmt := top 13
theorem sc_check_setting : FnScope ["threading", "ties", "shaft", "tie"] ["threading", "ties"] (defScope s_check_setting) := ⟨rfl, rfl, rfl, by decide +kernel, rfl, by decide +kernel, by decide +kernel⟩
abbrev s_check_count : Stmt := top 14
theorem sc_check_count : FnScope ["count"] ["count"] (defScope s_check_count) := ⟨rfl, rfl, rfl, by decide +kernel, rfl, by decide +kernel, by decide +kernel⟩
abbrev s_check_shaft : Stmt := top 15
theorem sc_check_shaft : FnScope ["shaft"] ["shaft"] (defScope s_check_shaft) := ⟨rfl, rfl, rfl, by decide +kernel, rfl, by decide +kernel, by decide +kernel⟩
abbrev s_check_tie : Stmt := top 16
theorem sc_check_tie : FnScope ["tie", "k"] ["tie"] (defScope s_check_tie) := ⟨rfl, rfl, rfl, by decide +kernel, rfl, by decide +kernel, by decide +kernel⟩
abbrev s_check_treading : Stmt := top 17
abbrev s_shed_over : Stmt := top 18
theorem sc_shed_over : FnScope ["threading", "lifted"] ["threading", "lifted"] (defScope s_shed_over) := ⟨rfl, rfl, rfl, by decide +kernel, rfl, by decide +kernel, by decide +kernel⟩
abbrev s_unlike : Stmt := top 19
abbrev s_law_cell_at : Stmt := top 23
theorem sc_law_cell_at : FnScope ["script", "k"] ["script", "k"] (defScope s_law_cell_at) := ⟨rfl, rfl, rfl, by decide +kernel, rfl, by decide +kernel, by decide +kernel⟩
abbrev s_law_sums : Stmt := top 24
theorem sc_law_sums : FnScope ["script", "behind", "many", "sums", "k", "at"] ["script", "behind", "many"] (defScope s_law_sums) := ⟨rfl, rfl, rfl, by decide +kernel, rfl, by decide +kernel, by decide +kernel⟩
abbrev s_law_size : Stmt := top 25
theorem sc_law_size : FnScope ["cell", "small"] ["cell", "small"] (defScope s_law_size) := ⟨rfl, rfl, rfl, by decide +kernel, rfl, by decide +kernel, by decide +kernel⟩
abbrev s_law_threading : Stmt := top 26
theorem sc_law_threading : FnScope ["script", "ends", "high", "step", "sums"] ["script", "ends", "high"] (defScope s_law_threading) := ⟨rfl, rfl, rfl, by decide +kernel, rfl, by decide +kernel, by decide +kernel⟩
abbrev s_law_tie : Stmt := top 27
theorem sc_law_tie : FnScope ["number", "high", "tie", "shaft"] ["number", "high"] (defScope s_law_tie) := ⟨rfl, rfl, rfl, by decide +kernel, rfl, by decide +kernel, by decide +kernel⟩
abbrev s_law_ties : Stmt := top 28
theorem sc_law_ties : FnScope ["script", "treadles", "high", "sums", "start"] ["script", "treadles", "high"] (defScope s_law_ties) := ⟨rfl, rfl, rfl, by decide +kernel, rfl, by decide +kernel, by decide +kernel⟩
abbrev s_law_far : Stmt := top 29
theorem sc_law_far : FnScope ["cell", "near"] ["cell"] (defScope s_law_far) := ⟨rfl, rfl, rfl, by decide +kernel, rfl, by decide +kernel, by decide +kernel⟩
abbrev s_law_tie_spoiled : Stmt := top 30
theorem sc_law_tie_spoiled : FnScope ["tie", "cell", "at"] ["tie", "cell"] (defScope s_law_tie_spoiled) := ⟨rfl, rfl, rfl, by decide +kernel, rfl, by decide +kernel, by decide +kernel⟩
abbrev s_law_spoiled : Stmt := top 31
theorem sc_law_spoiled : FnScope ["threading", "ties", "cell", "way", "rest", "at", "far", "bad"] ["threading", "ties", "cell"] (defScope s_law_spoiled) := ⟨rfl, rfl, rfl, by decide +kernel, rfl, by decide +kernel, by decide +kernel⟩
abbrev s_law_refused : Stmt := top 32
theorem sc_law_refused : FnScope ["threading", "ties", "handed", "caught", "e"] ["threading", "ties"] (defScope s_law_refused) := ⟨rfl, rfl, rfl, by decide +kernel, rfl, by decide +kernel, by decide +kernel⟩
abbrev s_law : Stmt := top 33
theorem sc_law : FnScope ["script", "ends", "treadles", "threading", "ties", "bad"] ["script"] (defScope s_law) := ⟨rfl, rfl, rfl, by decide +kernel, rfl, by decide +kernel, by decide +kernel⟩
abbrev s_Draft___init__ : Stmt := (clsBody (top 12)).getD 0 (.Pass ⟨0, 0, 0, 0⟩)
abbrev s_Loom___init__ : Stmt := (clsBody (top 21)).getD 0 (.Pass ⟨0, 0, 0, 0⟩)
theorem sc_Loom___init__ : FnScope ["self", "threading", "ties"] ["self", "threading", "ties"] (defScope s_Loom___init__) := ⟨rfl, rfl, rfl, by decide +kernel, rfl, by decide +kernel, by decide +kernel⟩
abbrev s_Loom_press : Stmt := (clsBody (top 21)).getD 1 (.Pass ⟨0, 0, 0, 0⟩)
abbrev s_Loom_lift : Stmt := (clsBody (top 21)).getD 2 (.Pass ⟨0, 0, 0, 0⟩)
abbrev s_Loom_throw : Stmt := (clsBody (top 21)).getD 3 (.Pass ⟨0, 0, 0, 0⟩)
abbrev s_Loom_unthrow : Stmt := (clsBody (top 21)).getD 4 (.Pass ⟨0, 0, 0, 0⟩)
abbrev s_Loom_undo : Stmt := (clsBody (top 21)).getD 5 (.Pass ⟨0, 0, 0, 0⟩)
abbrev s_Loom_deeds_done : Stmt := (clsBody (top 21)).getD 6 (.Pass ⟨0, 0, 0, 0⟩)
abbrev s_Loom_treadles_down : Stmt := (clsBody (top 21)).getD 7 (.Pass ⟨0, 0, 0, 0⟩)
abbrev s_Loom_shed : Stmt := (clsBody (top 21)).getD 8 (.Pass ⟨0, 0, 0, 0⟩)
theorem sc_Loom_shed : FnScope ["self"] ["self"] (defScope s_Loom_shed) := ⟨rfl, rfl, rfl, by decide +kernel, rfl, by decide +kernel, by decide +kernel⟩
abbrev s_Loom_cloth : Stmt := (clsBody (top 21)).getD 9 (.Pass ⟨0, 0, 0, 0⟩)
abbrev s_Loom_colours : Stmt := (clsBody (top 21)).getD 10 (.Pass ⟨0, 0, 0, 0⟩)
abbrev s_Loom_draft : Stmt := (clsBody (top 21)).getD 11 (.Pass ⟨0, 0, 0, 0⟩)
abbrev s_Loom_lifted_shafts : Stmt := (clsBody (top 21)).getD 12 (.Pass ⟨0, 0, 0, 0⟩)
theorem sc_Loom_lifted_shafts : FnScope ["self", "shafts", "treadle"] ["self"] (defScope s_Loom_lifted_shafts) := ⟨rfl, rfl, rfl, by decide +kernel, rfl, by decide +kernel, by decide +kernel⟩
set_option genInjectivity false in
structure Adr where
  e_Draft : Addr
  e_Loom : Addr
  f_Draft___init__ : Addr
  d_Draft___init__ : FuncData
  f_Loom___init__ : Addr
  d_Loom___init__ : FuncData
  f_Loom_press : Addr
  d_Loom_press : FuncData
  f_Loom_lift : Addr
  d_Loom_lift : FuncData
  f_Loom_throw : Addr
  d_Loom_throw : FuncData
  f_Loom_unthrow : Addr
  d_Loom_unthrow : FuncData
  f_Loom_undo : Addr
  d_Loom_undo : FuncData
  f_Loom_deeds_done : Addr
  d_Loom_deeds_done : FuncData
  f_Loom_treadles_down : Addr
  d_Loom_treadles_down : FuncData
  f_Loom_shed : Addr
  d_Loom_shed : FuncData
  f_Loom_cloth : Addr
  d_Loom_cloth : FuncData
  f_Loom_colours : Addr
  d_Loom_colours : FuncData
  f_Loom_draft : Addr
  d_Loom_draft : FuncData
  f_Loom_lifted_shafts : Addr
  d_Loom_lifted_shafts : FuncData
  f_wall : Addr
  d_wall : FuncData
  f_check_setting : Addr
  d_check_setting : FuncData
  f_check_count : Addr
  d_check_count : FuncData
  f_check_shaft : Addr
  d_check_shaft : FuncData
  f_check_tie : Addr
  d_check_tie : FuncData
  f_check_treading : Addr
  d_check_treading : FuncData
  f_shed_over : Addr
  d_shed_over : FuncData
  f_unlike : Addr
  d_unlike : FuncData
  f_law_cell_at : Addr
  d_law_cell_at : FuncData
  f_law_sums : Addr
  d_law_sums : FuncData
  f_law_size : Addr
  d_law_size : FuncData
  f_law_threading : Addr
  d_law_threading : FuncData
  f_law_tie : Addr
  d_law_tie : FuncData
  f_law_ties : Addr
  d_law_ties : FuncData
  f_law_far : Addr
  d_law_far : FuncData
  f_law_tie_spoiled : Addr
  d_law_tie_spoiled : FuncData
  f_law_spoiled : Addr
  d_law_spoiled : FuncData
  f_law_refused : Addr
  d_law_refused : FuncData
  f_law : Addr
  d_law : FuncData
  e_WeaveError : Addr
  e_NoRow : Addr
  e_TooLarge : Addr
  e_NoCloth : Addr
  e_NoDraft : Addr
  e_NoStrand : Addr
  e_NoDeed : Addr
structure Txt (K : PySem.W.Frag) (mg : Str → Option Value) (t : Adr) : Prop where
  wall : Df K mg "_wall" s_wall ["k"] t.f_wall t.d_wall
  check_setting : Df K mg "check_setting" s_check_setting ["threading", "ties"] t.f_check_setting t.d_check_setting
  check_count : Df K mg "check_count" s_check_count ["count"] t.f_check_count t.d_check_count
  check_shaft : Df K mg "check_shaft" s_check_shaft ["shaft"] t.f_check_shaft t.d_check_shaft
  check_tie : Df K mg "check_tie" s_check_tie ["tie"] t.f_check_tie t.d_check_tie
  check_treading : Df K mg "check_treading" s_check_treading ["treading", "treadles"] t.f_check_treading t.d_check_treading
  shed_over : Df K mg "shed_over" s_shed_over ["threading", "lifted"] t.f_shed_over t.d_shed_over
  unlike : Df K mg "unlike" s_unlike ["things"] t.f_unlike t.d_unlike
  law_cell_at : Df K mg "_law_cell_at" s_law_cell_at ["script", "k"] t.f_law_cell_at t.d_law_cell_at
  law_sums : Df K mg "_law_sums" s_law_sums ["script", "behind", "many"] t.f_law_sums t.d_law_sums
  law_size : Df K mg "_law_size" s_law_size ["cell", "small"] t.f_law_size t.d_law_size
  law_threading : Df K mg "_law_threading" s_law_threading ["script", "ends", "high"] t.f_law_threading t.d_law_threading
  law_tie : Df K mg "_law_tie" s_law_tie ["number", "high"] t.f_law_tie t.d_law_tie
  law_ties : Df K mg "_law_ties" s_law_ties ["script", "treadles", "high"] t.f_law_ties t.d_law_ties
  law_far : Df K mg "_law_far" s_law_far ["cell"] t.f_law_far t.d_law_far
  law_tie_spoiled : Df K mg "_law_tie_spoiled" s_law_tie_spoiled ["tie", "cell"] t.f_law_tie_spoiled t.d_law_tie_spoiled
  law_spoiled : Df K mg "_law_spoiled" s_law_spoiled ["threading", "ties", "cell"] t.f_law_spoiled t.d_law_spoiled
  law_refused : Df K mg "_law_refused" s_law_refused ["threading", "ties"] t.f_law_refused t.d_law_refused
  law : Df K mg "law" s_law ["script"] t.f_law t.d_law
  b_ValueError : mg "ValueError" = none
  b_int : mg "int" = none
  b_isinstance : mg "isinstance" = none
  b_len : mg "len" = none
  b_list : mg "list" = none
  b_range : mg "range" = none
  b_set : mg "set" = none
  b_sorted : mg "sorted" = none
  b_sum : mg "sum" = none
  c_MOST_STRANDS : ∃ tk, mg "MOST_STRANDS" = some (.int 40 tk)
  c_MOST_SHAFTS : ∃ tk, mg "MOST_SHAFTS" = some (.int 40 tk)
  k_WeaveError : mg "WeaveError" = some (.ref t.e_WeaveError)
  x_WeaveError : Exn K t.e_WeaveError
  k_NoRow : mg "NoRow" = some (.ref t.e_NoRow)
  x_NoRow : Exn K t.e_NoRow
  k_TooLarge : mg "TooLarge" = some (.ref t.e_TooLarge)
  x_TooLarge : Exn K t.e_TooLarge
  k_NoCloth : mg "NoCloth" = some (.ref t.e_NoCloth)
  x_NoCloth : Exn K t.e_NoCloth
  k_NoDraft : mg "NoDraft" = some (.ref t.e_NoDraft)
  x_NoDraft : Exn K t.e_NoDraft
  r_NoDraft_WeaveError : PySem.W.mroIn K t.e_NoDraft (.ref t.e_WeaveError) = some true
  r_NoDraft_NoRow : PySem.W.mroIn K t.e_NoDraft (.ref t.e_NoRow) = some false
  r_NoDraft_TooLarge : PySem.W.mroIn K t.e_NoDraft (.ref t.e_TooLarge) = some false
  r_NoDraft_NoCloth : PySem.W.mroIn K t.e_NoDraft (.ref t.e_NoCloth) = some false
  r_NoDraft_NoDraft : PySem.W.mroIn K t.e_NoDraft (.ref t.e_NoDraft) = some true
  r_NoDraft_NoStrand : PySem.W.mroIn K t.e_NoDraft (.ref t.e_NoStrand) = some false
  r_NoDraft_NoDeed : PySem.W.mroIn K t.e_NoDraft (.ref t.e_NoDeed) = some false
  k_NoStrand : mg "NoStrand" = some (.ref t.e_NoStrand)
  x_NoStrand : Exn K t.e_NoStrand
  k_NoDeed : mg "NoDeed" = some (.ref t.e_NoDeed)
  x_NoDeed : Exn K t.e_NoDeed
  k_Draft : mg "Draft" = some (.ref t.e_Draft)
  o_Draft : Own K t.e_Draft t.f_Draft___init__
  na_Draft_threading : NoAttr K t.e_Draft "threading"
  na_Draft_ties : NoAttr K t.e_Draft "ties"
  na_Draft_treading : NoAttr K t.e_Draft "treading"
  k_Loom : mg "Loom" = some (.ref t.e_Loom)
  o_Loom : Own K t.e_Loom t.f_Loom___init__
  na_Loom_threading : NoAttr K t.e_Loom "threading"
  na_Loom_ties : NoAttr K t.e_Loom "ties"
  na_Loom_down : NoAttr K t.e_Loom "down"
  na_Loom_thrown : NoAttr K t.e_Loom "thrown"
  na_Loom_deeds : NoAttr K t.e_Loom "deeds"
  m_Draft___init__ : Mf K "__init__" "Draft.__init__" s_Draft___init__ ["self", "threading", "ties", "treading"] t.e_Draft t.f_Draft___init__ t.d_Draft___init__
  m_Loom___init__ : Mf K "__init__" "Loom.__init__" s_Loom___init__ ["self", "threading", "ties"] t.e_Loom t.f_Loom___init__ t.d_Loom___init__
  m_Loom_press : Mf K "press" "Loom.press" s_Loom_press ["self", "treadle"] t.e_Loom t.f_Loom_press t.d_Loom_press
  m_Loom_lift : Mf K "lift" "Loom.lift" s_Loom_lift ["self", "treadle"] t.e_Loom t.f_Loom_lift t.d_Loom_lift
  m_Loom_throw : Mf K "throw" "Loom.throw" s_Loom_throw ["self", "colour"] t.e_Loom t.f_Loom_throw t.d_Loom_throw
  m_Loom_unthrow : Mf K "unthrow" "Loom.unthrow" s_Loom_unthrow ["self"] t.e_Loom t.f_Loom_unthrow t.d_Loom_unthrow
  m_Loom_undo : Mf K "undo" "Loom.undo" s_Loom_undo ["self"] t.e_Loom t.f_Loom_undo t.d_Loom_undo
  m_Loom_deeds_done : Mf K "deeds_done" "Loom.deeds_done" s_Loom_deeds_done ["self"] t.e_Loom t.f_Loom_deeds_done t.d_Loom_deeds_done
  m_Loom_treadles_down : Mf K "treadles_down" "Loom.treadles_down" s_Loom_treadles_down ["self"] t.e_Loom t.f_Loom_treadles_down t.d_Loom_treadles_down
  m_Loom_shed : Mf K "shed" "Loom.shed" s_Loom_shed ["self"] t.e_Loom t.f_Loom_shed t.d_Loom_shed
  m_Loom_cloth : Mf K "cloth" "Loom.cloth" s_Loom_cloth ["self"] t.e_Loom t.f_Loom_cloth t.d_Loom_cloth
  m_Loom_colours : Mf K "colours" "Loom.colours" s_Loom_colours ["self"] t.e_Loom t.f_Loom_colours t.d_Loom_colours
  m_Loom_draft : Mf K "draft" "Loom.draft" s_Loom_draft ["self"] t.e_Loom t.f_Loom_draft t.d_Loom_draft
  m_Loom_lifted_shafts : Mf K "lifted_shafts" "Loom.lifted_shafts" s_Loom_lifted_shafts ["self"] t.e_Loom t.f_Loom_lifted_shafts t.d_Loom_lifted_shafts
theorem bl1 {fd : FuncData} {ps : List Str} (h : ∀ a0 : Value, bindArgs fd ⟨[a0], []⟩ = pure (ps.zip [a0])) (us : List Value) (hl : us.length = 1) : bindArgs fd ⟨us, []⟩ = pure (ps.zip us) := by
  rcases us with _ | ⟨a0, us⟩
  · cases hl
  rcases us with _ | ⟨b, us⟩
  · exact h a0
  · cases hl
theorem bl2 {fd : FuncData} {ps : List Str} (h : ∀ a0 a1 : Value, bindArgs fd ⟨[a0, a1], []⟩ = pure (ps.zip [a0, a1])) (us : List Value) (hl : us.length = 2) : bindArgs fd ⟨us, []⟩ = pure (ps.zip us) := by
  rcases us with _ | ⟨a0, us⟩
  · cases hl
  rcases us with _ | ⟨a1, us⟩
  · cases hl
  rcases us with _ | ⟨b, us⟩
  · exact h a0 a1
  · cases hl
theorem bl3 {fd : FuncData} {ps : List Str} (h : ∀ a0 a1 a2 : Value, bindArgs fd ⟨[a0, a1, a2], []⟩ = pure (ps.zip [a0, a1, a2])) (us : List Value) (hl : us.length = 3) : bindArgs fd ⟨us, []⟩ = pure (ps.zip us) := by
  rcases us with _ | ⟨a0, us⟩
  · cases hl
  rcases us with _ | ⟨a1, us⟩
  · cases hl
  rcases us with _ | ⟨a2, us⟩
  · cases hl
  rcases us with _ | ⟨b, us⟩
  · exact h a0 a1 a2
  · cases hl
theorem bl4 {fd : FuncData} {ps : List Str} (h : ∀ a0 a1 a2 a3 : Value, bindArgs fd ⟨[a0, a1, a2, a3], []⟩ = pure (ps.zip [a0, a1, a2, a3])) (us : List Value) (hl : us.length = 4) : bindArgs fd ⟨us, []⟩ = pure (ps.zip us) := by
  rcases us with _ | ⟨a0, us⟩
  · cases hl
  rcases us with _ | ⟨a1, us⟩
  · cases hl
  rcases us with _ | ⟨a2, us⟩
  · cases hl
  rcases us with _ | ⟨a3, us⟩
  · cases hl
  rcases us with _ | ⟨b, us⟩
  · exact h a0 a1 a2 a3
  · cases hl
theorem txt_mk {K : PySem.W.Frag} {h : Heap} {mg : Str → Option Value} {f_wall : Addr} {od_wall an_wall : Option Addr} {sl_wall : Array (Option Value)} {oc_wall kV_wall dc_wall pm_wall cd_wall ct_wall : Value}
    {f_check_setting : Addr} {od_check_setting an_check_setting : Option Addr} {sl_check_setting : Array (Option Value)} {oc_check_setting kV_check_setting dc_check_setting pm_check_setting cd_check_setting ct_check_setting : Value}
    {f_check_count : Addr} {od_check_count an_check_count : Option Addr} {sl_check_count : Array (Option Value)} {oc_check_count kV_check_count dc_check_count pm_check_count cd_check_count ct_check_count : Value}
    {f_check_shaft : Addr} {od_check_shaft an_check_shaft : Option Addr} {sl_check_shaft : Array (Option Value)} {oc_check_shaft kV_check_shaft dc_check_shaft pm_check_shaft cd_check_shaft ct_check_shaft : Value}
    {f_check_tie : Addr} {od_check_tie an_check_tie : Option Addr} {sl_check_tie : Array (Option Value)} {oc_check_tie kV_check_tie dc_check_tie pm_check_tie cd_check_tie ct_check_tie : Value}
    {f_check_treading : Addr} {od_check_treading an_check_treading : Option Addr} {sl_check_treading : Array (Option Value)} {oc_check_treading kV_check_treading dc_check_treading pm_check_treading cd_check_treading ct_check_treading : Value}
    {f_shed_over : Addr} {od_shed_over an_shed_over : Option Addr} {sl_shed_over : Array (Option Value)} {oc_shed_over kV_shed_over dc_shed_over pm_shed_over cd_shed_over ct_shed_over : Value}
    {f_unlike : Addr} {od_unlike an_unlike : Option Addr} {sl_unlike : Array (Option Value)} {oc_unlike kV_unlike dc_unlike pm_unlike cd_unlike ct_unlike : Value}
    {f_law_cell_at : Addr} {od_law_cell_at an_law_cell_at : Option Addr} {sl_law_cell_at : Array (Option Value)} {oc_law_cell_at kV_law_cell_at dc_law_cell_at pm_law_cell_at cd_law_cell_at ct_law_cell_at : Value}
    {f_law_sums : Addr} {od_law_sums an_law_sums : Option Addr} {sl_law_sums : Array (Option Value)} {oc_law_sums kV_law_sums dc_law_sums pm_law_sums cd_law_sums ct_law_sums : Value}
    {f_law_size : Addr} {od_law_size an_law_size : Option Addr} {sl_law_size : Array (Option Value)} {oc_law_size kV_law_size dc_law_size pm_law_size cd_law_size ct_law_size : Value}
    {f_law_threading : Addr} {od_law_threading an_law_threading : Option Addr} {sl_law_threading : Array (Option Value)} {oc_law_threading kV_law_threading dc_law_threading pm_law_threading cd_law_threading ct_law_threading : Value}
    {f_law_tie : Addr} {od_law_tie an_law_tie : Option Addr} {sl_law_tie : Array (Option Value)} {oc_law_tie kV_law_tie dc_law_tie pm_law_tie cd_law_tie ct_law_tie : Value}
    {f_law_ties : Addr} {od_law_ties an_law_ties : Option Addr} {sl_law_ties : Array (Option Value)} {oc_law_ties kV_law_ties dc_law_ties pm_law_ties cd_law_ties ct_law_ties : Value}
    {f_law_far : Addr} {od_law_far an_law_far : Option Addr} {sl_law_far : Array (Option Value)} {oc_law_far kV_law_far dc_law_far pm_law_far cd_law_far ct_law_far : Value}
    {f_law_tie_spoiled : Addr} {od_law_tie_spoiled an_law_tie_spoiled : Option Addr} {sl_law_tie_spoiled : Array (Option Value)} {oc_law_tie_spoiled kV_law_tie_spoiled dc_law_tie_spoiled pm_law_tie_spoiled cd_law_tie_spoiled ct_law_tie_spoiled : Value}
    {f_law_spoiled : Addr} {od_law_spoiled an_law_spoiled : Option Addr} {sl_law_spoiled : Array (Option Value)} {oc_law_spoiled kV_law_spoiled dc_law_spoiled pm_law_spoiled cd_law_spoiled ct_law_spoiled : Value}
    {f_law_refused : Addr} {od_law_refused an_law_refused : Option Addr} {sl_law_refused : Array (Option Value)} {oc_law_refused kV_law_refused dc_law_refused pm_law_refused cd_law_refused ct_law_refused : Value}
    {f_law : Addr} {od_law an_law : Option Addr} {sl_law : Array (Option Value)} {oc_law kV_law dc_law pm_law cd_law ct_law : Value}
    {q_MOST_STRANDS : Tok}
    {q_MOST_SHAFTS : Tok}
    {e_WeaveError : Addr}
    {e_NoRow : Addr}
    {e_TooLarge : Addr}
    {e_NoCloth : Addr}
    {e_NoDraft : Addr}
    {e_NoStrand : Addr}
    {e_NoDeed : Addr}
    {e_Draft : Addr}
    {e_Loom : Addr}
    {f_Draft___init__ : Addr} {od_Draft___init__ an_Draft___init__ : Option Addr} {sl_Draft___init__ : Array (Option Value)} {oc_Draft___init__ kV_Draft___init__ dc_Draft___init__ pm_Draft___init__ cd_Draft___init__ ct_Draft___init__ : Value}
    {f_Loom___init__ : Addr} {od_Loom___init__ an_Loom___init__ : Option Addr} {sl_Loom___init__ : Array (Option Value)} {oc_Loom___init__ kV_Loom___init__ dc_Loom___init__ pm_Loom___init__ cd_Loom___init__ ct_Loom___init__ : Value}
    {f_Loom_press : Addr} {od_Loom_press an_Loom_press : Option Addr} {sl_Loom_press : Array (Option Value)} {oc_Loom_press kV_Loom_press dc_Loom_press pm_Loom_press cd_Loom_press ct_Loom_press : Value}
    {f_Loom_lift : Addr} {od_Loom_lift an_Loom_lift : Option Addr} {sl_Loom_lift : Array (Option Value)} {oc_Loom_lift kV_Loom_lift dc_Loom_lift pm_Loom_lift cd_Loom_lift ct_Loom_lift : Value}
    {f_Loom_throw : Addr} {od_Loom_throw an_Loom_throw : Option Addr} {sl_Loom_throw : Array (Option Value)} {oc_Loom_throw kV_Loom_throw dc_Loom_throw pm_Loom_throw cd_Loom_throw ct_Loom_throw : Value}
    {f_Loom_unthrow : Addr} {od_Loom_unthrow an_Loom_unthrow : Option Addr} {sl_Loom_unthrow : Array (Option Value)} {oc_Loom_unthrow kV_Loom_unthrow dc_Loom_unthrow pm_Loom_unthrow cd_Loom_unthrow ct_Loom_unthrow : Value}
    {f_Loom_undo : Addr} {od_Loom_undo an_Loom_undo : Option Addr} {sl_Loom_undo : Array (Option Value)} {oc_Loom_undo kV_Loom_undo dc_Loom_undo pm_Loom_undo cd_Loom_undo ct_Loom_undo : Value}
    {f_Loom_deeds_done : Addr} {od_Loom_deeds_done an_Loom_deeds_done : Option Addr} {sl_Loom_deeds_done : Array (Option Value)} {oc_Loom_deeds_done kV_Loom_deeds_done dc_Loom_deeds_done pm_Loom_deeds_done cd_Loom_deeds_done ct_Loom_deeds_done : Value}
    {f_Loom_treadles_down : Addr} {od_Loom_treadles_down an_Loom_treadles_down : Option Addr} {sl_Loom_treadles_down : Array (Option Value)} {oc_Loom_treadles_down kV_Loom_treadles_down dc_Loom_treadles_down pm_Loom_treadles_down cd_Loom_treadles_down ct_Loom_treadles_down : Value}
    {f_Loom_shed : Addr} {od_Loom_shed an_Loom_shed : Option Addr} {sl_Loom_shed : Array (Option Value)} {oc_Loom_shed kV_Loom_shed dc_Loom_shed pm_Loom_shed cd_Loom_shed ct_Loom_shed : Value}
    {f_Loom_cloth : Addr} {od_Loom_cloth an_Loom_cloth : Option Addr} {sl_Loom_cloth : Array (Option Value)} {oc_Loom_cloth kV_Loom_cloth dc_Loom_cloth pm_Loom_cloth cd_Loom_cloth ct_Loom_cloth : Value}
    {f_Loom_colours : Addr} {od_Loom_colours an_Loom_colours : Option Addr} {sl_Loom_colours : Array (Option Value)} {oc_Loom_colours kV_Loom_colours dc_Loom_colours pm_Loom_colours cd_Loom_colours ct_Loom_colours : Value}
    {f_Loom_draft : Addr} {od_Loom_draft an_Loom_draft : Option Addr} {sl_Loom_draft : Array (Option Value)} {oc_Loom_draft kV_Loom_draft dc_Loom_draft pm_Loom_draft cd_Loom_draft ct_Loom_draft : Value}
    {f_Loom_lifted_shafts : Addr} {od_Loom_lifted_shafts an_Loom_lifted_shafts : Option Addr} {sl_Loom_lifted_shafts : Array (Option Value)} {oc_Loom_lifted_shafts kV_Loom_lifted_shafts dc_Loom_lifted_shafts pm_Loom_lifted_shafts cd_Loom_lifted_shafts ct_Loom_lifted_shafts : Value}
    (X : K.In h) (G : h.Ns mainGlobals mg)
    (a_wall : PySem.W.nsIn K mainGlobals "_wall" = some (some (.ref f_wall)))
    (l_wall : K.lookup f_wall = some ⟨oc_wall, od_wall, .func (PySem.W.fnOf "_wall" "_wall" (defArgs s_wall) (defBody s_wall) (defScope s_wall) .none kV_wall dc_wall pm_wall an_wall cd_wall ct_wall), sl_wall⟩)
    (c_wall : PySem.W.codeIn K cd_wall "_wall" = true)
    (k_wall : PySem.W.keepIn K (.ref f_wall) = true)
    (a_check_setting : PySem.W.nsIn K mainGlobals "check_setting" = some (some (.ref f_check_setting)))
    (l_check_setting : K.lookup f_check_setting = some ⟨oc_check_setting, od_check_setting, .func (PySem.W.fnOf "check_setting" "check_setting" (defArgs s_check_setting) (defBody s_check_setting) (defScope s_check_setting) .none kV_check_setting dc_check_setting pm_check_setting an_check_setting cd_check_setting ct_check_setting), sl_check_setting⟩)
    (c_check_setting : PySem.W.codeIn K cd_check_setting "check_setting" = true)
    (k_check_setting : PySem.W.keepIn K (.ref f_check_setting) = true)
    (a_check_count : PySem.W.nsIn K mainGlobals "check_count" = some (some (.ref f_check_count)))
    (l_check_count : K.lookup f_check_count = some ⟨oc_check_count, od_check_count, .func (PySem.W.fnOf "check_count" "check_count" (defArgs s_check_count) (defBody s_check_count) (defScope s_check_count) .none kV_check_count dc_check_count pm_check_count an_check_count cd_check_count ct_check_count), sl_check_count⟩)
    (c_check_count : PySem.W.codeIn K cd_check_count "check_count" = true)
    (k_check_count : PySem.W.keepIn K (.ref f_check_count) = true)
    (a_check_shaft : PySem.W.nsIn K mainGlobals "check_shaft" = some (some (.ref f_check_shaft)))
    (l_check_shaft : K.lookup f_check_shaft = some ⟨oc_check_shaft, od_check_shaft, .func (PySem.W.fnOf "check_shaft" "check_shaft" (defArgs s_check_shaft) (defBody s_check_shaft) (defScope s_check_shaft) .none kV_check_shaft dc_check_shaft pm_check_shaft an_check_shaft cd_check_shaft ct_check_shaft), sl_check_shaft⟩)
    (c_check_shaft : PySem.W.codeIn K cd_check_shaft "check_shaft" = true)
    (k_check_shaft : PySem.W.keepIn K (.ref f_check_shaft) = true)
    (a_check_tie : PySem.W.nsIn K mainGlobals "check_tie" = some (some (.ref f_check_tie)))
    (l_check_tie : K.lookup f_check_tie = some ⟨oc_check_tie, od_check_tie, .func (PySem.W.fnOf "check_tie" "check_tie" (defArgs s_check_tie) (defBody s_check_tie) (defScope s_check_tie) .none kV_check_tie dc_check_tie pm_check_tie an_check_tie cd_check_tie ct_check_tie), sl_check_tie⟩)
    (c_check_tie : PySem.W.codeIn K cd_check_tie "check_tie" = true)
    (k_check_tie : PySem.W.keepIn K (.ref f_check_tie) = true)
    (a_check_treading : PySem.W.nsIn K mainGlobals "check_treading" = some (some (.ref f_check_treading)))
    (l_check_treading : K.lookup f_check_treading = some ⟨oc_check_treading, od_check_treading, .func (PySem.W.fnOf "check_treading" "check_treading" (defArgs s_check_treading) (defBody s_check_treading) (defScope s_check_treading) .none kV_check_treading dc_check_treading pm_check_treading an_check_treading cd_check_treading ct_check_treading), sl_check_treading⟩)
    (c_check_treading : PySem.W.codeIn K cd_check_treading "check_treading" = true)
    (k_check_treading : PySem.W.keepIn K (.ref f_check_treading) = true)
    (a_shed_over : PySem.W.nsIn K mainGlobals "shed_over" = some (some (.ref f_shed_over)))
    (l_shed_over : K.lookup f_shed_over = some ⟨oc_shed_over, od_shed_over, .func (PySem.W.fnOf "shed_over" "shed_over" (defArgs s_shed_over) (defBody s_shed_over) (defScope s_shed_over) .none kV_shed_over dc_shed_over pm_shed_over an_shed_over cd_shed_over ct_shed_over), sl_shed_over⟩)
    (c_shed_over : PySem.W.codeIn K cd_shed_over "shed_over" = true)
    (k_shed_over : PySem.W.keepIn K (.ref f_shed_over) = true)
    (a_unlike : PySem.W.nsIn K mainGlobals "unlike" = some (some (.ref f_unlike)))
    (l_unlike : K.lookup f_unlike = some ⟨oc_unlike, od_unlike, .func (PySem.W.fnOf "unlike" "unlike" (defArgs s_unlike) (defBody s_unlike) (defScope s_unlike) .none kV_unlike dc_unlike pm_unlike an_unlike cd_unlike ct_unlike), sl_unlike⟩)
    (c_unlike : PySem.W.codeIn K cd_unlike "unlike" = true)
    (k_unlike : PySem.W.keepIn K (.ref f_unlike) = true)
    (a_law_cell_at : PySem.W.nsIn K mainGlobals "_law_cell_at" = some (some (.ref f_law_cell_at)))
    (l_law_cell_at : K.lookup f_law_cell_at = some ⟨oc_law_cell_at, od_law_cell_at, .func (PySem.W.fnOf "_law_cell_at" "_law_cell_at" (defArgs s_law_cell_at) (defBody s_law_cell_at) (defScope s_law_cell_at) .none kV_law_cell_at dc_law_cell_at pm_law_cell_at an_law_cell_at cd_law_cell_at ct_law_cell_at), sl_law_cell_at⟩)
    (c_law_cell_at : PySem.W.codeIn K cd_law_cell_at "_law_cell_at" = true)
    (k_law_cell_at : PySem.W.keepIn K (.ref f_law_cell_at) = true)
    (a_law_sums : PySem.W.nsIn K mainGlobals "_law_sums" = some (some (.ref f_law_sums)))
    (l_law_sums : K.lookup f_law_sums = some ⟨oc_law_sums, od_law_sums, .func (PySem.W.fnOf "_law_sums" "_law_sums" (defArgs s_law_sums) (defBody s_law_sums) (defScope s_law_sums) .none kV_law_sums dc_law_sums pm_law_sums an_law_sums cd_law_sums ct_law_sums), sl_law_sums⟩)
    (c_law_sums : PySem.W.codeIn K cd_law_sums "_law_sums" = true)
    (k_law_sums : PySem.W.keepIn K (.ref f_law_sums) = true)
    (a_law_size : PySem.W.nsIn K mainGlobals "_law_size" = some (some (.ref f_law_size)))
    (l_law_size : K.lookup f_law_size = some ⟨oc_law_size, od_law_size, .func (PySem.W.fnOf "_law_size" "_law_size" (defArgs s_law_size) (defBody s_law_size) (defScope s_law_size) .none kV_law_size dc_law_size pm_law_size an_law_size cd_law_size ct_law_size), sl_law_size⟩)
    (c_law_size : PySem.W.codeIn K cd_law_size "_law_size" = true)
    (k_law_size : PySem.W.keepIn K (.ref f_law_size) = true)
    (a_law_threading : PySem.W.nsIn K mainGlobals "_law_threading" = some (some (.ref f_law_threading)))
    (l_law_threading : K.lookup f_law_threading = some ⟨oc_law_threading, od_law_threading, .func (PySem.W.fnOf "_law_threading" "_law_threading" (defArgs s_law_threading) (defBody s_law_threading) (defScope s_law_threading) .none kV_law_threading dc_law_threading pm_law_threading an_law_threading cd_law_threading ct_law_threading), sl_law_threading⟩)
    (c_law_threading : PySem.W.codeIn K cd_law_threading "_law_threading" = true)
    (k_law_threading : PySem.W.keepIn K (.ref f_law_threading) = true)
    (a_law_tie : PySem.W.nsIn K mainGlobals "_law_tie" = some (some (.ref f_law_tie)))
    (l_law_tie : K.lookup f_law_tie = some ⟨oc_law_tie, od_law_tie, .func (PySem.W.fnOf "_law_tie" "_law_tie" (defArgs s_law_tie) (defBody s_law_tie) (defScope s_law_tie) .none kV_law_tie dc_law_tie pm_law_tie an_law_tie cd_law_tie ct_law_tie), sl_law_tie⟩)
    (c_law_tie : PySem.W.codeIn K cd_law_tie "_law_tie" = true)
    (k_law_tie : PySem.W.keepIn K (.ref f_law_tie) = true)
    (a_law_ties : PySem.W.nsIn K mainGlobals "_law_ties" = some (some (.ref f_law_ties)))
    (l_law_ties : K.lookup f_law_ties = some ⟨oc_law_ties, od_law_ties, .func (PySem.W.fnOf "_law_ties" "_law_ties" (defArgs s_law_ties) (defBody s_law_ties) (defScope s_law_ties) .none kV_law_ties dc_law_ties pm_law_ties an_law_ties cd_law_ties ct_law_ties), sl_law_ties⟩)
    (c_law_ties : PySem.W.codeIn K cd_law_ties "_law_ties" = true)
    (k_law_ties : PySem.W.keepIn K (.ref f_law_ties) = true)
    (a_law_far : PySem.W.nsIn K mainGlobals "_law_far" = some (some (.ref f_law_far)))
    (l_law_far : K.lookup f_law_far = some ⟨oc_law_far, od_law_far, .func (PySem.W.fnOf "_law_far" "_law_far" (defArgs s_law_far) (defBody s_law_far) (defScope s_law_far) .none kV_law_far dc_law_far pm_law_far an_law_far cd_law_far ct_law_far), sl_law_far⟩)
    (c_law_far : PySem.W.codeIn K cd_law_far "_law_far" = true)
    (k_law_far : PySem.W.keepIn K (.ref f_law_far) = true)
    (a_law_tie_spoiled : PySem.W.nsIn K mainGlobals "_law_tie_spoiled" = some (some (.ref f_law_tie_spoiled)))
    (l_law_tie_spoiled : K.lookup f_law_tie_spoiled = some ⟨oc_law_tie_spoiled, od_law_tie_spoiled, .func (PySem.W.fnOf "_law_tie_spoiled" "_law_tie_spoiled" (defArgs s_law_tie_spoiled) (defBody s_law_tie_spoiled) (defScope s_law_tie_spoiled) .none kV_law_tie_spoiled dc_law_tie_spoiled pm_law_tie_spoiled an_law_tie_spoiled cd_law_tie_spoiled ct_law_tie_spoiled), sl_law_tie_spoiled⟩)
    (c_law_tie_spoiled : PySem.W.codeIn K cd_law_tie_spoiled "_law_tie_spoiled" = true)
    (k_law_tie_spoiled : PySem.W.keepIn K (.ref f_law_tie_spoiled) = true)
    (a_law_spoiled : PySem.W.nsIn K mainGlobals "_law_spoiled" = some (some (.ref f_law_spoiled)))
    (l_law_spoiled : K.lookup f_law_spoiled = some ⟨oc_law_spoiled, od_law_spoiled, .func (PySem.W.fnOf "_law_spoiled" "_law_spoiled" (defArgs s_law_spoiled) (defBody s_law_spoiled) (defScope s_law_spoiled) .none kV_law_spoiled dc_law_spoiled pm_law_spoiled an_law_spoiled cd_law_spoiled ct_law_spoiled), sl_law_spoiled⟩)
    (c_law_spoiled : PySem.W.codeIn K cd_law_spoiled "_law_spoiled" = true)
    (k_law_spoiled : PySem.W.keepIn K (.ref f_law_spoiled) = true)
    (a_law_refused : PySem.W.nsIn K mainGlobals "_law_refused" = some (some (.ref f_law_refused)))
    (l_law_refused : K.lookup f_law_refused = some ⟨oc_law_refused, od_law_refused, .func (PySem.W.fnOf "_law_refused" "_law_refused" (defArgs s_law_refused) (defBody s_law_refused) (defScope s_law_refused) .none kV_law_refused dc_law_refused pm_law_refused an_law_refused cd_law_refused ct_law_refused), sl_law_refused⟩)
    (c_law_refused : PySem.W.codeIn K cd_law_refused "_law_refused" = true)
    (k_law_refused : PySem.W.keepIn K (.ref f_law_refused) = true)
    (a_law : PySem.W.nsIn K mainGlobals "law" = some (some (.ref f_law)))
    (l_law : K.lookup f_law = some ⟨oc_law, od_law, .func (PySem.W.fnOf "law" "law" (defArgs s_law) (defBody s_law) (defScope s_law) .none kV_law dc_law pm_law an_law cd_law ct_law), sl_law⟩)
    (c_law : PySem.W.codeIn K cd_law "law" = true)
    (k_law : PySem.W.keepIn K (.ref f_law) = true)
    (z_ValueError : PySem.W.nsIn K mainGlobals "ValueError" = some none)
    (z_int : PySem.W.nsIn K mainGlobals "int" = some none)
    (z_isinstance : PySem.W.nsIn K mainGlobals "isinstance" = some none)
    (z_len : PySem.W.nsIn K mainGlobals "len" = some none)
    (z_list : PySem.W.nsIn K mainGlobals "list" = some none)
    (z_range : PySem.W.nsIn K mainGlobals "range" = some none)
    (z_set : PySem.W.nsIn K mainGlobals "set" = some none)
    (z_sorted : PySem.W.nsIn K mainGlobals "sorted" = some none)
    (z_sum : PySem.W.nsIn K mainGlobals "sum" = some none)
    (x_MOST_STRANDS : PySem.W.nsIn K mainGlobals "MOST_STRANDS" = some (some (.int 40 q_MOST_STRANDS)))
    (x_MOST_SHAFTS : PySem.W.nsIn K mainGlobals "MOST_SHAFTS" = some (some (.int 40 q_MOST_SHAFTS)))
    (n_WeaveError : PySem.W.nsIn K mainGlobals "WeaveError" = some (some (.ref e_WeaveError)))
    (n_NoRow : PySem.W.nsIn K mainGlobals "NoRow" = some (some (.ref e_NoRow)))
    (n_TooLarge : PySem.W.nsIn K mainGlobals "TooLarge" = some (some (.ref e_TooLarge)))
    (n_NoCloth : PySem.W.nsIn K mainGlobals "NoCloth" = some (some (.ref e_NoCloth)))
    (n_NoDraft : PySem.W.nsIn K mainGlobals "NoDraft" = some (some (.ref e_NoDraft)))
    (n_NoStrand : PySem.W.nsIn K mainGlobals "NoStrand" = some (some (.ref e_NoStrand)))
    (n_NoDeed : PySem.W.nsIn K mainGlobals "NoDeed" = some (some (.ref e_NoDeed)))
    (y1_WeaveError : PySem.W.excIn K e_WeaveError vE vN = true)
    (y2_WeaveError : PySem.W.findIn K (.ref e_WeaveError) "__getattribute__" = some (some (.builtin "BaseException.__getattribute__")))
    (y3_WeaveError : PySem.W.findIn K (.ref e_WeaveError) "__getattr__" = some none)
    (y4_WeaveError : PySem.W.findIn K (.ref e_WeaveError) "__class__" = some (some (.builtin "object.__class__")))
    (y5_WeaveError : PySem.W.specialIn K (.builtin "object.__class__") "__get__" = some (some (.builtin "getset_descriptor.__get__")))
    (y6_WeaveError : PySem.W.takesIn K (.builtin "object.__class__") = some true)
    (y7_WeaveError : PySem.W.mroIn K e_WeaveError (.type "object") = some true)
    (y8_WeaveError : PySem.W.mroIn K e_WeaveError (.type "BaseException") = some true)
    (y9_WeaveError : PySem.W.isClsIn K e_WeaveError = true)
    (y10_WeaveError : PySem.W.typeIn K (.ref e_WeaveError) = some (.type "type"))
    (y11_WeaveError : PySem.W.mroIn K e_WeaveError (.type "ValueError") = some true)
    (y1_NoRow : PySem.W.excIn K e_NoRow vE vN = true)
    (y2_NoRow : PySem.W.findIn K (.ref e_NoRow) "__getattribute__" = some (some (.builtin "BaseException.__getattribute__")))
    (y3_NoRow : PySem.W.findIn K (.ref e_NoRow) "__getattr__" = some none)
    (y4_NoRow : PySem.W.findIn K (.ref e_NoRow) "__class__" = some (some (.builtin "object.__class__")))
    (y7_NoRow : PySem.W.mroIn K e_NoRow (.type "object") = some true)
    (y8_NoRow : PySem.W.mroIn K e_NoRow (.type "BaseException") = some true)
    (y9_NoRow : PySem.W.isClsIn K e_NoRow = true)
    (y10_NoRow : PySem.W.typeIn K (.ref e_NoRow) = some (.type "type"))
    (y11_NoRow : PySem.W.mroIn K e_NoRow (.type "ValueError") = some true)
    (y1_TooLarge : PySem.W.excIn K e_TooLarge vE vN = true)
    (y2_TooLarge : PySem.W.findIn K (.ref e_TooLarge) "__getattribute__" = some (some (.builtin "BaseException.__getattribute__")))
    (y3_TooLarge : PySem.W.findIn K (.ref e_TooLarge) "__getattr__" = some none)
    (y4_TooLarge : PySem.W.findIn K (.ref e_TooLarge) "__class__" = some (some (.builtin "object.__class__")))
    (y7_TooLarge : PySem.W.mroIn K e_TooLarge (.type "object") = some true)
    (y8_TooLarge : PySem.W.mroIn K e_TooLarge (.type "BaseException") = some true)
    (y9_TooLarge : PySem.W.isClsIn K e_TooLarge = true)
    (y10_TooLarge : PySem.W.typeIn K (.ref e_TooLarge) = some (.type "type"))
    (y11_TooLarge : PySem.W.mroIn K e_TooLarge (.type "ValueError") = some true)
    (y1_NoCloth : PySem.W.excIn K e_NoCloth vE vN = true)
    (y2_NoCloth : PySem.W.findIn K (.ref e_NoCloth) "__getattribute__" = some (some (.builtin "BaseException.__getattribute__")))
    (y3_NoCloth : PySem.W.findIn K (.ref e_NoCloth) "__getattr__" = some none)
    (y4_NoCloth : PySem.W.findIn K (.ref e_NoCloth) "__class__" = some (some (.builtin "object.__class__")))
    (y7_NoCloth : PySem.W.mroIn K e_NoCloth (.type "object") = some true)
    (y8_NoCloth : PySem.W.mroIn K e_NoCloth (.type "BaseException") = some true)
    (y9_NoCloth : PySem.W.isClsIn K e_NoCloth = true)
    (y10_NoCloth : PySem.W.typeIn K (.ref e_NoCloth) = some (.type "type"))
    (y11_NoCloth : PySem.W.mroIn K e_NoCloth (.type "ValueError") = some true)
    (y1_NoDraft : PySem.W.excIn K e_NoDraft vE vN = true)
    (y2_NoDraft : PySem.W.findIn K (.ref e_NoDraft) "__getattribute__" = some (some (.builtin "BaseException.__getattribute__")))
    (y3_NoDraft : PySem.W.findIn K (.ref e_NoDraft) "__getattr__" = some none)
    (y4_NoDraft : PySem.W.findIn K (.ref e_NoDraft) "__class__" = some (some (.builtin "object.__class__")))
    (y7_NoDraft : PySem.W.mroIn K e_NoDraft (.type "object") = some true)
    (y8_NoDraft : PySem.W.mroIn K e_NoDraft (.type "BaseException") = some true)
    (y9_NoDraft : PySem.W.isClsIn K e_NoDraft = true)
    (y10_NoDraft : PySem.W.typeIn K (.ref e_NoDraft) = some (.type "type"))
    (y11_NoDraft : PySem.W.mroIn K e_NoDraft (.type "ValueError") = some true)
    (r_NoDraft_WeaveError : PySem.W.mroIn K e_NoDraft (.ref e_WeaveError) = some true)
    (r_NoDraft_NoRow : PySem.W.mroIn K e_NoDraft (.ref e_NoRow) = some false)
    (r_NoDraft_TooLarge : PySem.W.mroIn K e_NoDraft (.ref e_TooLarge) = some false)
    (r_NoDraft_NoCloth : PySem.W.mroIn K e_NoDraft (.ref e_NoCloth) = some false)
    (r_NoDraft_NoDraft : PySem.W.mroIn K e_NoDraft (.ref e_NoDraft) = some true)
    (r_NoDraft_NoStrand : PySem.W.mroIn K e_NoDraft (.ref e_NoStrand) = some false)
    (r_NoDraft_NoDeed : PySem.W.mroIn K e_NoDraft (.ref e_NoDeed) = some false)
    (y1_NoStrand : PySem.W.excIn K e_NoStrand vE vN = true)
    (y2_NoStrand : PySem.W.findIn K (.ref e_NoStrand) "__getattribute__" = some (some (.builtin "BaseException.__getattribute__")))
    (y3_NoStrand : PySem.W.findIn K (.ref e_NoStrand) "__getattr__" = some none)
    (y4_NoStrand : PySem.W.findIn K (.ref e_NoStrand) "__class__" = some (some (.builtin "object.__class__")))
    (y7_NoStrand : PySem.W.mroIn K e_NoStrand (.type "object") = some true)
    (y8_NoStrand : PySem.W.mroIn K e_NoStrand (.type "BaseException") = some true)
    (y9_NoStrand : PySem.W.isClsIn K e_NoStrand = true)
    (y10_NoStrand : PySem.W.typeIn K (.ref e_NoStrand) = some (.type "type"))
    (y11_NoStrand : PySem.W.mroIn K e_NoStrand (.type "ValueError") = some true)
    (y1_NoDeed : PySem.W.excIn K e_NoDeed vE vN = true)
    (y2_NoDeed : PySem.W.findIn K (.ref e_NoDeed) "__getattribute__" = some (some (.builtin "BaseException.__getattribute__")))
    (y3_NoDeed : PySem.W.findIn K (.ref e_NoDeed) "__getattr__" = some none)
    (y4_NoDeed : PySem.W.findIn K (.ref e_NoDeed) "__class__" = some (some (.builtin "object.__class__")))
    (y7_NoDeed : PySem.W.mroIn K e_NoDeed (.type "object") = some true)
    (y8_NoDeed : PySem.W.mroIn K e_NoDeed (.type "BaseException") = some true)
    (y9_NoDeed : PySem.W.isClsIn K e_NoDeed = true)
    (y10_NoDeed : PySem.W.typeIn K (.ref e_NoDeed) = some (.type "type"))
    (y11_NoDeed : PySem.W.mroIn K e_NoDeed (.type "ValueError") = some true)
    (n_Draft : PySem.W.nsIn K mainGlobals "Draft" = some (some (.ref e_Draft)))
    (n_Loom : PySem.W.nsIn K mainGlobals "Loom" = some (some (.ref e_Loom)))
    (fm_Draft___init__ : PySem.W.findIn K (.ref e_Draft) "__init__" = some (some (.ref f_Draft___init__)))
    (gm_Draft___init__ : PySem.W.isFn K (.ref f_Draft___init__) = true)
    (lm_Draft___init__ : K.lookup f_Draft___init__ = some ⟨oc_Draft___init__, od_Draft___init__, .func (PySem.W.fnOf "__init__" "Draft.__init__" (defArgs s_Draft___init__) (defBody s_Draft___init__) (defScope s_Draft___init__) .none kV_Draft___init__ dc_Draft___init__ pm_Draft___init__ an_Draft___init__ cd_Draft___init__ ct_Draft___init__), sl_Draft___init__⟩)
    (cm_Draft___init__ : PySem.W.codeIn K cd_Draft___init__ "Draft.__init__" = true)
    (km_Draft___init__ : PySem.W.keepIn K (.ref f_Draft___init__) = true)
    (fm_Loom___init__ : PySem.W.findIn K (.ref e_Loom) "__init__" = some (some (.ref f_Loom___init__)))
    (gm_Loom___init__ : PySem.W.isFn K (.ref f_Loom___init__) = true)
    (lm_Loom___init__ : K.lookup f_Loom___init__ = some ⟨oc_Loom___init__, od_Loom___init__, .func (PySem.W.fnOf "__init__" "Loom.__init__" (defArgs s_Loom___init__) (defBody s_Loom___init__) (defScope s_Loom___init__) .none kV_Loom___init__ dc_Loom___init__ pm_Loom___init__ an_Loom___init__ cd_Loom___init__ ct_Loom___init__), sl_Loom___init__⟩)
    (cm_Loom___init__ : PySem.W.codeIn K cd_Loom___init__ "Loom.__init__" = true)
    (km_Loom___init__ : PySem.W.keepIn K (.ref f_Loom___init__) = true)
    (fm_Loom_press : PySem.W.findIn K (.ref e_Loom) "press" = some (some (.ref f_Loom_press)))
    (gm_Loom_press : PySem.W.isFn K (.ref f_Loom_press) = true)
    (lm_Loom_press : K.lookup f_Loom_press = some ⟨oc_Loom_press, od_Loom_press, .func (PySem.W.fnOf "press" "Loom.press" (defArgs s_Loom_press) (defBody s_Loom_press) (defScope s_Loom_press) .none kV_Loom_press dc_Loom_press pm_Loom_press an_Loom_press cd_Loom_press ct_Loom_press), sl_Loom_press⟩)
    (cm_Loom_press : PySem.W.codeIn K cd_Loom_press "Loom.press" = true)
    (km_Loom_press : PySem.W.keepIn K (.ref f_Loom_press) = true)
    (fm_Loom_lift : PySem.W.findIn K (.ref e_Loom) "lift" = some (some (.ref f_Loom_lift)))
    (gm_Loom_lift : PySem.W.isFn K (.ref f_Loom_lift) = true)
    (lm_Loom_lift : K.lookup f_Loom_lift = some ⟨oc_Loom_lift, od_Loom_lift, .func (PySem.W.fnOf "lift" "Loom.lift" (defArgs s_Loom_lift) (defBody s_Loom_lift) (defScope s_Loom_lift) .none kV_Loom_lift dc_Loom_lift pm_Loom_lift an_Loom_lift cd_Loom_lift ct_Loom_lift), sl_Loom_lift⟩)
    (cm_Loom_lift : PySem.W.codeIn K cd_Loom_lift "Loom.lift" = true)
    (km_Loom_lift : PySem.W.keepIn K (.ref f_Loom_lift) = true)
    (fm_Loom_throw : PySem.W.findIn K (.ref e_Loom) "throw" = some (some (.ref f_Loom_throw)))
    (gm_Loom_throw : PySem.W.isFn K (.ref f_Loom_throw) = true)
    (lm_Loom_throw : K.lookup f_Loom_throw = some ⟨oc_Loom_throw, od_Loom_throw, .func (PySem.W.fnOf "throw" "Loom.throw" (defArgs s_Loom_throw) (defBody s_Loom_throw) (defScope s_Loom_throw) .none kV_Loom_throw dc_Loom_throw pm_Loom_throw an_Loom_throw cd_Loom_throw ct_Loom_throw), sl_Loom_throw⟩)
    (cm_Loom_throw : PySem.W.codeIn K cd_Loom_throw "Loom.throw" = true)
    (km_Loom_throw : PySem.W.keepIn K (.ref f_Loom_throw) = true)
    (fm_Loom_unthrow : PySem.W.findIn K (.ref e_Loom) "unthrow" = some (some (.ref f_Loom_unthrow)))
    (gm_Loom_unthrow : PySem.W.isFn K (.ref f_Loom_unthrow) = true)
    (lm_Loom_unthrow : K.lookup f_Loom_unthrow = some ⟨oc_Loom_unthrow, od_Loom_unthrow, .func (PySem.W.fnOf "unthrow" "Loom.unthrow" (defArgs s_Loom_unthrow) (defBody s_Loom_unthrow) (defScope s_Loom_unthrow) .none kV_Loom_unthrow dc_Loom_unthrow pm_Loom_unthrow an_Loom_unthrow cd_Loom_unthrow ct_Loom_unthrow), sl_Loom_unthrow⟩)
    (cm_Loom_unthrow : PySem.W.codeIn K cd_Loom_unthrow "Loom.unthrow" = true)
    (km_Loom_unthrow : PySem.W.keepIn K (.ref f_Loom_unthrow) = true)
    (fm_Loom_undo : PySem.W.findIn K (.ref e_Loom) "undo" = some (some (.ref f_Loom_undo)))
    (gm_Loom_undo : PySem.W.isFn K (.ref f_Loom_undo) = true)
    (lm_Loom_undo : K.lookup f_Loom_undo = some ⟨oc_Loom_undo, od_Loom_undo, .func (PySem.W.fnOf "undo" "Loom.undo" (defArgs s_Loom_undo) (defBody s_Loom_undo) (defScope s_Loom_undo) .none kV_Loom_undo dc_Loom_undo pm_Loom_undo an_Loom_undo cd_Loom_undo ct_Loom_undo), sl_Loom_undo⟩)
    (cm_Loom_undo : PySem.W.codeIn K cd_Loom_undo "Loom.undo" = true)
    (km_Loom_undo : PySem.W.keepIn K (.ref f_Loom_undo) = true)
    (fm_Loom_deeds_done : PySem.W.findIn K (.ref e_Loom) "deeds_done" = some (some (.ref f_Loom_deeds_done)))
    (gm_Loom_deeds_done : PySem.W.isFn K (.ref f_Loom_deeds_done) = true)
    (lm_Loom_deeds_done : K.lookup f_Loom_deeds_done = some ⟨oc_Loom_deeds_done, od_Loom_deeds_done, .func (PySem.W.fnOf "deeds_done" "Loom.deeds_done" (defArgs s_Loom_deeds_done) (defBody s_Loom_deeds_done) (defScope s_Loom_deeds_done) .none kV_Loom_deeds_done dc_Loom_deeds_done pm_Loom_deeds_done an_Loom_deeds_done cd_Loom_deeds_done ct_Loom_deeds_done), sl_Loom_deeds_done⟩)
    (cm_Loom_deeds_done : PySem.W.codeIn K cd_Loom_deeds_done "Loom.deeds_done" = true)
    (km_Loom_deeds_done : PySem.W.keepIn K (.ref f_Loom_deeds_done) = true)
    (fm_Loom_treadles_down : PySem.W.findIn K (.ref e_Loom) "treadles_down" = some (some (.ref f_Loom_treadles_down)))
    (gm_Loom_treadles_down : PySem.W.isFn K (.ref f_Loom_treadles_down) = true)
    (lm_Loom_treadles_down : K.lookup f_Loom_treadles_down = some ⟨oc_Loom_treadles_down, od_Loom_treadles_down, .func (PySem.W.fnOf "treadles_down" "Loom.treadles_down" (defArgs s_Loom_treadles_down) (defBody s_Loom_treadles_down) (defScope s_Loom_treadles_down) .none kV_Loom_treadles_down dc_Loom_treadles_down pm_Loom_treadles_down an_Loom_treadles_down cd_Loom_treadles_down ct_Loom_treadles_down), sl_Loom_treadles_down⟩)
    (cm_Loom_treadles_down : PySem.W.codeIn K cd_Loom_treadles_down "Loom.treadles_down" = true)
    (km_Loom_treadles_down : PySem.W.keepIn K (.ref f_Loom_treadles_down) = true)
    (fm_Loom_shed : PySem.W.findIn K (.ref e_Loom) "shed" = some (some (.ref f_Loom_shed)))
    (gm_Loom_shed : PySem.W.isFn K (.ref f_Loom_shed) = true)
    (lm_Loom_shed : K.lookup f_Loom_shed = some ⟨oc_Loom_shed, od_Loom_shed, .func (PySem.W.fnOf "shed" "Loom.shed" (defArgs s_Loom_shed) (defBody s_Loom_shed) (defScope s_Loom_shed) .none kV_Loom_shed dc_Loom_shed pm_Loom_shed an_Loom_shed cd_Loom_shed ct_Loom_shed), sl_Loom_shed⟩)
    (cm_Loom_shed : PySem.W.codeIn K cd_Loom_shed "Loom.shed" = true)
    (km_Loom_shed : PySem.W.keepIn K (.ref f_Loom_shed) = true)
    (fm_Loom_cloth : PySem.W.findIn K (.ref e_Loom) "cloth" = some (some (.ref f_Loom_cloth)))
    (gm_Loom_cloth : PySem.W.isFn K (.ref f_Loom_cloth) = true)
    (lm_Loom_cloth : K.lookup f_Loom_cloth = some ⟨oc_Loom_cloth, od_Loom_cloth, .func (PySem.W.fnOf "cloth" "Loom.cloth" (defArgs s_Loom_cloth) (defBody s_Loom_cloth) (defScope s_Loom_cloth) .none kV_Loom_cloth dc_Loom_cloth pm_Loom_cloth an_Loom_cloth cd_Loom_cloth ct_Loom_cloth), sl_Loom_cloth⟩)
    (cm_Loom_cloth : PySem.W.codeIn K cd_Loom_cloth "Loom.cloth" = true)
    (km_Loom_cloth : PySem.W.keepIn K (.ref f_Loom_cloth) = true)
    (fm_Loom_colours : PySem.W.findIn K (.ref e_Loom) "colours" = some (some (.ref f_Loom_colours)))
    (gm_Loom_colours : PySem.W.isFn K (.ref f_Loom_colours) = true)
    (lm_Loom_colours : K.lookup f_Loom_colours = some ⟨oc_Loom_colours, od_Loom_colours, .func (PySem.W.fnOf "colours" "Loom.colours" (defArgs s_Loom_colours) (defBody s_Loom_colours) (defScope s_Loom_colours) .none kV_Loom_colours dc_Loom_colours pm_Loom_colours an_Loom_colours cd_Loom_colours ct_Loom_colours), sl_Loom_colours⟩)
    (cm_Loom_colours : PySem.W.codeIn K cd_Loom_colours "Loom.colours" = true)
    (km_Loom_colours : PySem.W.keepIn K (.ref f_Loom_colours) = true)
    (fm_Loom_draft : PySem.W.findIn K (.ref e_Loom) "draft" = some (some (.ref f_Loom_draft)))
    (gm_Loom_draft : PySem.W.isFn K (.ref f_Loom_draft) = true)
    (lm_Loom_draft : K.lookup f_Loom_draft = some ⟨oc_Loom_draft, od_Loom_draft, .func (PySem.W.fnOf "draft" "Loom.draft" (defArgs s_Loom_draft) (defBody s_Loom_draft) (defScope s_Loom_draft) .none kV_Loom_draft dc_Loom_draft pm_Loom_draft an_Loom_draft cd_Loom_draft ct_Loom_draft), sl_Loom_draft⟩)
    (cm_Loom_draft : PySem.W.codeIn K cd_Loom_draft "Loom.draft" = true)
    (km_Loom_draft : PySem.W.keepIn K (.ref f_Loom_draft) = true)
    (fm_Loom_lifted_shafts : PySem.W.findIn K (.ref e_Loom) "lifted_shafts" = some (some (.ref f_Loom_lifted_shafts)))
    (gm_Loom_lifted_shafts : PySem.W.isFn K (.ref f_Loom_lifted_shafts) = true)
    (lm_Loom_lifted_shafts : K.lookup f_Loom_lifted_shafts = some ⟨oc_Loom_lifted_shafts, od_Loom_lifted_shafts, .func (PySem.W.fnOf "lifted_shafts" "Loom.lifted_shafts" (defArgs s_Loom_lifted_shafts) (defBody s_Loom_lifted_shafts) (defScope s_Loom_lifted_shafts) .none kV_Loom_lifted_shafts dc_Loom_lifted_shafts pm_Loom_lifted_shafts an_Loom_lifted_shafts cd_Loom_lifted_shafts ct_Loom_lifted_shafts), sl_Loom_lifted_shafts⟩)
    (cm_Loom_lifted_shafts : PySem.W.codeIn K cd_Loom_lifted_shafts "Loom.lifted_shafts" = true)
    (km_Loom_lifted_shafts : PySem.W.keepIn K (.ref f_Loom_lifted_shafts) = true)
    (o1_Draft : PySem.W.plainGet K e_Draft Str.empty = true)
    (o2_Draft : PySem.W.hasDictIn K e_Draft = true)
    (o3_Draft : PySem.W.plainOver K e_Draft = true)
    (o4_Draft : PySem.W.findIn K (.ref e_Draft) "__setattr__" = some (some (.builtin "object.__setattr__")))
    (o5_Draft : PySem.W.makesIn K e_Draft = true)
    (o8_Draft : PySem.W.keepIn K (.ref e_Draft) = true)
    (na_Draft_threading : PySem.W.findIn K (.ref e_Draft) "threading" = some none)
    (na_Draft_ties : PySem.W.findIn K (.ref e_Draft) "ties" = some none)
    (na_Draft_treading : PySem.W.findIn K (.ref e_Draft) "treading" = some none)
    (o1_Loom : PySem.W.plainGet K e_Loom Str.empty = true)
    (o2_Loom : PySem.W.hasDictIn K e_Loom = true)
    (o3_Loom : PySem.W.plainOver K e_Loom = true)
    (o4_Loom : PySem.W.findIn K (.ref e_Loom) "__setattr__" = some (some (.builtin "object.__setattr__")))
    (o5_Loom : PySem.W.makesIn K e_Loom = true)
    (o8_Loom : PySem.W.keepIn K (.ref e_Loom) = true)
    (na_Loom_threading : PySem.W.findIn K (.ref e_Loom) "threading" = some none)
    (na_Loom_ties : PySem.W.findIn K (.ref e_Loom) "ties" = some none)
    (na_Loom_down : PySem.W.findIn K (.ref e_Loom) "down" = some none)
    (na_Loom_thrown : PySem.W.findIn K (.ref e_Loom) "thrown" = some none)
    (na_Loom_deeds : PySem.W.findIn K (.ref e_Loom) "deeds" = some none) :
    Txt K mg ⟨e_Draft, e_Loom, f_Draft___init__, PySem.W.fnOf "__init__" "Draft.__init__" (defArgs s_Draft___init__) (defBody s_Draft___init__) (defScope s_Draft___init__) .none kV_Draft___init__ dc_Draft___init__ pm_Draft___init__ an_Draft___init__ cd_Draft___init__ ct_Draft___init__, f_Loom___init__, PySem.W.fnOf "__init__" "Loom.__init__" (defArgs s_Loom___init__) (defBody s_Loom___init__) (defScope s_Loom___init__) .none kV_Loom___init__ dc_Loom___init__ pm_Loom___init__ an_Loom___init__ cd_Loom___init__ ct_Loom___init__, f_Loom_press, PySem.W.fnOf "press" "Loom.press" (defArgs s_Loom_press) (defBody s_Loom_press) (defScope s_Loom_press) .none kV_Loom_press dc_Loom_press pm_Loom_press an_Loom_press cd_Loom_press ct_Loom_press, f_Loom_lift, PySem.W.fnOf "lift" "Loom.lift" (defArgs s_Loom_lift) (defBody s_Loom_lift) (defScope s_Loom_lift) .none kV_Loom_lift dc_Loom_lift pm_Loom_lift an_Loom_lift cd_Loom_lift ct_Loom_lift, f_Loom_throw, PySem.W.fnOf "throw" "Loom.throw" (defArgs s_Loom_throw) (defBody s_Loom_throw) (defScope s_Loom_throw) .none kV_Loom_throw dc_Loom_throw pm_Loom_throw an_Loom_throw cd_Loom_throw ct_Loom_throw, f_Loom_unthrow, PySem.W.fnOf "unthrow" "Loom.unthrow" (defArgs s_Loom_unthrow) (defBody s_Loom_unthrow) (defScope s_Loom_unthrow) .none kV_Loom_unthrow dc_Loom_unthrow pm_Loom_unthrow an_Loom_unthrow cd_Loom_unthrow ct_Loom_unthrow, f_Loom_undo, PySem.W.fnOf "undo" "Loom.undo" (defArgs s_Loom_undo) (defBody s_Loom_undo) (defScope s_Loom_undo) .none kV_Loom_undo dc_Loom_undo pm_Loom_undo an_Loom_undo cd_Loom_undo ct_Loom_undo, f_Loom_deeds_done, PySem.W.fnOf "deeds_done" "Loom.deeds_done" (defArgs s_Loom_deeds_done) (defBody s_Loom_deeds_done) (defScope s_Loom_deeds_done) .none kV_Loom_deeds_done dc_Loom_deeds_done pm_Loom_deeds_done an_Loom_deeds_done cd_Loom_deeds_done ct_Loom_deeds_done, f_Loom_treadles_down, PySem.W.fnOf "treadles_down" "Loom.treadles_down" (defArgs s_Loom_treadles_down) (defBody s_Loom_treadles_down) (defScope s_Loom_treadles_down) .none kV_Loom_treadles_down dc_Loom_treadles_down pm_Loom_treadles_down an_Loom_treadles_down cd_Loom_treadles_down ct_Loom_treadles_down, f_Loom_shed, PySem.W.fnOf "shed" "Loom.shed" (defArgs s_Loom_shed) (defBody s_Loom_shed) (defScope s_Loom_shed) .none kV_Loom_shed dc_Loom_shed pm_Loom_shed an_Loom_shed cd_Loom_shed ct_Loom_shed, f_Loom_cloth, PySem.W.fnOf "cloth" "Loom.cloth" (defArgs s_Loom_cloth) (defBody s_Loom_cloth) (defScope s_Loom_cloth) .none kV_Loom_cloth dc_Loom_cloth pm_Loom_cloth an_Loom_cloth cd_Loom_cloth ct_Loom_cloth, f_Loom_colours, PySem.W.fnOf "colours" "Loom.colours" (defArgs s_Loom_colours) (defBody s_Loom_colours) (defScope s_Loom_colours) .none kV_Loom_colours dc_Loom_colours pm_Loom_colours an_Loom_colours cd_Loom_colours ct_Loom_colours, f_Loom_draft, PySem.W.fnOf "draft" "Loom.draft" (defArgs s_Loom_draft) (defBody s_Loom_draft) (defScope s_Loom_draft) .none kV_Loom_draft dc_Loom_draft pm_Loom_draft an_Loom_draft cd_Loom_draft ct_Loom_draft, f_Loom_lifted_shafts, PySem.W.fnOf "lifted_shafts" "Loom.lifted_shafts" (defArgs s_Loom_lifted_shafts) (defBody s_Loom_lifted_shafts) (defScope s_Loom_lifted_shafts) .none kV_Loom_lifted_shafts dc_Loom_lifted_shafts pm_Loom_lifted_shafts an_Loom_lifted_shafts cd_Loom_lifted_shafts ct_Loom_lifted_shafts, f_wall, PySem.W.fnOf "_wall" "_wall" (defArgs s_wall) (defBody s_wall) (defScope s_wall) .none kV_wall dc_wall pm_wall an_wall cd_wall ct_wall, f_check_setting, PySem.W.fnOf "check_setting" "check_setting" (defArgs s_check_setting) (defBody s_check_setting) (defScope s_check_setting) .none kV_check_setting dc_check_setting pm_check_setting an_check_setting cd_check_setting ct_check_setting, f_check_count, PySem.W.fnOf "check_count" "check_count" (defArgs s_check_count) (defBody s_check_count) (defScope s_check_count) .none kV_check_count dc_check_count pm_check_count an_check_count cd_check_count ct_check_count, f_check_shaft, PySem.W.fnOf "check_shaft" "check_shaft" (defArgs s_check_shaft) (defBody s_check_shaft) (defScope s_check_shaft) .none kV_check_shaft dc_check_shaft pm_check_shaft an_check_shaft cd_check_shaft ct_check_shaft, f_check_tie, PySem.W.fnOf "check_tie" "check_tie" (defArgs s_check_tie) (defBody s_check_tie) (defScope s_check_tie) .none kV_check_tie dc_check_tie pm_check_tie an_check_tie cd_check_tie ct_check_tie, f_check_treading, PySem.W.fnOf "check_treading" "check_treading" (defArgs s_check_treading) (defBody s_check_treading) (defScope s_check_treading) .none kV_check_treading dc_check_treading pm_check_treading an_check_treading cd_check_treading ct_check_treading, f_shed_over, PySem.W.fnOf "shed_over" "shed_over" (defArgs s_shed_over) (defBody s_shed_over) (defScope s_shed_over) .none kV_shed_over dc_shed_over pm_shed_over an_shed_over cd_shed_over ct_shed_over, f_unlike, PySem.W.fnOf "unlike" "unlike" (defArgs s_unlike) (defBody s_unlike) (defScope s_unlike) .none kV_unlike dc_unlike pm_unlike an_unlike cd_unlike ct_unlike, f_law_cell_at, PySem.W.fnOf "_law_cell_at" "_law_cell_at" (defArgs s_law_cell_at) (defBody s_law_cell_at) (defScope s_law_cell_at) .none kV_law_cell_at dc_law_cell_at pm_law_cell_at an_law_cell_at cd_law_cell_at ct_law_cell_at, f_law_sums, PySem.W.fnOf "_law_sums" "_law_sums" (defArgs s_law_sums) (defBody s_law_sums) (defScope s_law_sums) .none kV_law_sums dc_law_sums pm_law_sums an_law_sums cd_law_sums ct_law_sums, f_law_size, PySem.W.fnOf "_law_size" "_law_size" (defArgs s_law_size) (defBody s_law_size) (defScope s_law_size) .none kV_law_size dc_law_size pm_law_size an_law_size cd_law_size ct_law_size, f_law_threading, PySem.W.fnOf "_law_threading" "_law_threading" (defArgs s_law_threading) (defBody s_law_threading) (defScope s_law_threading) .none kV_law_threading dc_law_threading pm_law_threading an_law_threading cd_law_threading ct_law_threading, f_law_tie, PySem.W.fnOf "_law_tie" "_law_tie" (defArgs s_law_tie) (defBody s_law_tie) (defScope s_law_tie) .none kV_law_tie dc_law_tie pm_law_tie an_law_tie cd_law_tie ct_law_tie, f_law_ties, PySem.W.fnOf "_law_ties" "_law_ties" (defArgs s_law_ties) (defBody s_law_ties) (defScope s_law_ties) .none kV_law_ties dc_law_ties pm_law_ties an_law_ties cd_law_ties ct_law_ties, f_law_far, PySem.W.fnOf "_law_far" "_law_far" (defArgs s_law_far) (defBody s_law_far) (defScope s_law_far) .none kV_law_far dc_law_far pm_law_far an_law_far cd_law_far ct_law_far, f_law_tie_spoiled, PySem.W.fnOf "_law_tie_spoiled" "_law_tie_spoiled" (defArgs s_law_tie_spoiled) (defBody s_law_tie_spoiled) (defScope s_law_tie_spoiled) .none kV_law_tie_spoiled dc_law_tie_spoiled pm_law_tie_spoiled an_law_tie_spoiled cd_law_tie_spoiled ct_law_tie_spoiled, f_law_spoiled, PySem.W.fnOf "_law_spoiled" "_law_spoiled" (defArgs s_law_spoiled) (defBody s_law_spoiled) (defScope s_law_spoiled) .none kV_law_spoiled dc_law_spoiled pm_law_spoiled an_law_spoiled cd_law_spoiled ct_law_spoiled, f_law_refused, PySem.W.fnOf "_law_refused" "_law_refused" (defArgs s_law_refused) (defBody s_law_refused) (defScope s_law_refused) .none kV_law_refused dc_law_refused pm_law_refused an_law_refused cd_law_refused ct_law_refused, f_law, PySem.W.fnOf "law" "law" (defArgs s_law) (defBody s_law) (defScope s_law) .none kV_law dc_law pm_law an_law cd_law ct_law, e_WeaveError, e_NoRow, e_TooLarge, e_NoCloth, e_NoDraft, e_NoStrand, e_NoDeed⟩ :=
  ⟨⟨fun_mk (st := s_wall) l_wall c_wall k_wall, PySem.W.mg_of X G a_wall, (fun_mk (st := s_wall) l_wall c_wall k_wall).binds (ps := ["k"]) fun _ _ _ _ _ _ us hl => bl1 (fun _ => rfl) us hl⟩,
   ⟨fun_mk (st := s_check_setting) l_check_setting c_check_setting k_check_setting, PySem.W.mg_of X G a_check_setting, (fun_mk (st := s_check_setting) l_check_setting c_check_setting k_check_setting).binds (ps := ["threading", "ties"]) fun _ _ _ _ _ _ us hl => bl2 (fun _ _ => rfl) us hl⟩,
   ⟨fun_mk (st := s_check_count) l_check_count c_check_count k_check_count, PySem.W.mg_of X G a_check_count, (fun_mk (st := s_check_count) l_check_count c_check_count k_check_count).binds (ps := ["count"]) fun _ _ _ _ _ _ us hl => bl1 (fun _ => rfl) us hl⟩,
   ⟨fun_mk (st := s_check_shaft) l_check_shaft c_check_shaft k_check_shaft, PySem.W.mg_of X G a_check_shaft, (fun_mk (st := s_check_shaft) l_check_shaft c_check_shaft k_check_shaft).binds (ps := ["shaft"]) fun _ _ _ _ _ _ us hl => bl1 (fun _ => rfl) us hl⟩,
   ⟨fun_mk (st := s_check_tie) l_check_tie c_check_tie k_check_tie, PySem.W.mg_of X G a_check_tie, (fun_mk (st := s_check_tie) l_check_tie c_check_tie k_check_tie).binds (ps := ["tie"]) fun _ _ _ _ _ _ us hl => bl1 (fun _ => rfl) us hl⟩,
   ⟨fun_mk (st := s_check_treading) l_check_treading c_check_treading k_check_treading, PySem.W.mg_of X G a_check_treading, (fun_mk (st := s_check_treading) l_check_treading c_check_treading k_check_treading).binds (ps := ["treading", "treadles"]) fun _ _ _ _ _ _ us hl => bl2 (fun _ _ => rfl) us hl⟩,
   ⟨fun_mk (st := s_shed_over) l_shed_over c_shed_over k_shed_over, PySem.W.mg_of X G a_shed_over, (fun_mk (st := s_shed_over) l_shed_over c_shed_over k_shed_over).binds (ps := ["threading", "lifted"]) fun _ _ _ _ _ _ us hl => bl2 (fun _ _ => rfl) us hl⟩,
   ⟨fun_mk (st := s_unlike) l_unlike c_unlike k_unlike, PySem.W.mg_of X G a_unlike, (fun_mk (st := s_unlike) l_unlike c_unlike k_unlike).binds (ps := ["things"]) fun _ _ _ _ _ _ us hl => bl1 (fun _ => rfl) us hl⟩,
   ⟨fun_mk (st := s_law_cell_at) l_law_cell_at c_law_cell_at k_law_cell_at, PySem.W.mg_of X G a_law_cell_at, (fun_mk (st := s_law_cell_at) l_law_cell_at c_law_cell_at k_law_cell_at).binds (ps := ["script", "k"]) fun _ _ _ _ _ _ us hl => bl2 (fun _ _ => rfl) us hl⟩,
   ⟨fun_mk (st := s_law_sums) l_law_sums c_law_sums k_law_sums, PySem.W.mg_of X G a_law_sums, (fun_mk (st := s_law_sums) l_law_sums c_law_sums k_law_sums).binds (ps := ["script", "behind", "many"]) fun _ _ _ _ _ _ us hl => bl3 (fun _ _ _ => rfl) us hl⟩,
   ⟨fun_mk (st := s_law_size) l_law_size c_law_size k_law_size, PySem.W.mg_of X G a_law_size, (fun_mk (st := s_law_size) l_law_size c_law_size k_law_size).binds (ps := ["cell", "small"]) fun _ _ _ _ _ _ us hl => bl2 (fun _ _ => rfl) us hl⟩,
   ⟨fun_mk (st := s_law_threading) l_law_threading c_law_threading k_law_threading, PySem.W.mg_of X G a_law_threading, (fun_mk (st := s_law_threading) l_law_threading c_law_threading k_law_threading).binds (ps := ["script", "ends", "high"]) fun _ _ _ _ _ _ us hl => bl3 (fun _ _ _ => rfl) us hl⟩,
   ⟨fun_mk (st := s_law_tie) l_law_tie c_law_tie k_law_tie, PySem.W.mg_of X G a_law_tie, (fun_mk (st := s_law_tie) l_law_tie c_law_tie k_law_tie).binds (ps := ["number", "high"]) fun _ _ _ _ _ _ us hl => bl2 (fun _ _ => rfl) us hl⟩,
   ⟨fun_mk (st := s_law_ties) l_law_ties c_law_ties k_law_ties, PySem.W.mg_of X G a_law_ties, (fun_mk (st := s_law_ties) l_law_ties c_law_ties k_law_ties).binds (ps := ["script", "treadles", "high"]) fun _ _ _ _ _ _ us hl => bl3 (fun _ _ _ => rfl) us hl⟩,
   ⟨fun_mk (st := s_law_far) l_law_far c_law_far k_law_far, PySem.W.mg_of X G a_law_far, (fun_mk (st := s_law_far) l_law_far c_law_far k_law_far).binds (ps := ["cell"]) fun _ _ _ _ _ _ us hl => bl1 (fun _ => rfl) us hl⟩,
   ⟨fun_mk (st := s_law_tie_spoiled) l_law_tie_spoiled c_law_tie_spoiled k_law_tie_spoiled, PySem.W.mg_of X G a_law_tie_spoiled, (fun_mk (st := s_law_tie_spoiled) l_law_tie_spoiled c_law_tie_spoiled k_law_tie_spoiled).binds (ps := ["tie", "cell"]) fun _ _ _ _ _ _ us hl => bl2 (fun _ _ => rfl) us hl⟩,
   ⟨fun_mk (st := s_law_spoiled) l_law_spoiled c_law_spoiled k_law_spoiled, PySem.W.mg_of X G a_law_spoiled, (fun_mk (st := s_law_spoiled) l_law_spoiled c_law_spoiled k_law_spoiled).binds (ps := ["threading", "ties", "cell"]) fun _ _ _ _ _ _ us hl => bl3 (fun _ _ _ => rfl) us hl⟩,
   ⟨fun_mk (st := s_law_refused) l_law_refused c_law_refused k_law_refused, PySem.W.mg_of X G a_law_refused, (fun_mk (st := s_law_refused) l_law_refused c_law_refused k_law_refused).binds (ps := ["threading", "ties"]) fun _ _ _ _ _ _ us hl => bl2 (fun _ _ => rfl) us hl⟩,
   ⟨fun_mk (st := s_law) l_law c_law k_law, PySem.W.mg_of X G a_law, (fun_mk (st := s_law) l_law c_law k_law).binds (ps := ["script"]) fun _ _ _ _ _ _ us hl => bl1 (fun _ => rfl) us hl⟩,
   PySem.W.mg_none_of X G z_ValueError,
   PySem.W.mg_none_of X G z_int,
   PySem.W.mg_none_of X G z_isinstance,
   PySem.W.mg_none_of X G z_len,
   PySem.W.mg_none_of X G z_list,
   PySem.W.mg_none_of X G z_range,
   PySem.W.mg_none_of X G z_set,
   PySem.W.mg_none_of X G z_sorted,
   PySem.W.mg_none_of X G z_sum,
   ⟨_, PySem.W.mg_of X G x_MOST_STRANDS⟩,
   ⟨_, PySem.W.mg_of X G x_MOST_SHAFTS⟩,
   PySem.W.mg_of X G n_WeaveError,
   exn_mk y1_WeaveError y2_WeaveError y3_WeaveError y4_WeaveError y5_WeaveError y6_WeaveError y7_WeaveError y8_WeaveError y9_WeaveError y10_WeaveError y11_WeaveError,
   PySem.W.mg_of X G n_NoRow,
   exn_mk y1_NoRow y2_NoRow y3_NoRow y4_NoRow y5_WeaveError y6_WeaveError y7_NoRow y8_NoRow y9_NoRow y10_NoRow y11_NoRow,
   PySem.W.mg_of X G n_TooLarge,
   exn_mk y1_TooLarge y2_TooLarge y3_TooLarge y4_TooLarge y5_WeaveError y6_WeaveError y7_TooLarge y8_TooLarge y9_TooLarge y10_TooLarge y11_TooLarge,
   PySem.W.mg_of X G n_NoCloth,
   exn_mk y1_NoCloth y2_NoCloth y3_NoCloth y4_NoCloth y5_WeaveError y6_WeaveError y7_NoCloth y8_NoCloth y9_NoCloth y10_NoCloth y11_NoCloth,
   PySem.W.mg_of X G n_NoDraft,
   exn_mk y1_NoDraft y2_NoDraft y3_NoDraft y4_NoDraft y5_WeaveError y6_WeaveError y7_NoDraft y8_NoDraft y9_NoDraft y10_NoDraft y11_NoDraft,
   r_NoDraft_WeaveError,
   r_NoDraft_NoRow,
   r_NoDraft_TooLarge,
   r_NoDraft_NoCloth,
   r_NoDraft_NoDraft,
   r_NoDraft_NoStrand,
   r_NoDraft_NoDeed,
   PySem.W.mg_of X G n_NoStrand,
   exn_mk y1_NoStrand y2_NoStrand y3_NoStrand y4_NoStrand y5_WeaveError y6_WeaveError y7_NoStrand y8_NoStrand y9_NoStrand y10_NoStrand y11_NoStrand,
   PySem.W.mg_of X G n_NoDeed,
   exn_mk y1_NoDeed y2_NoDeed y3_NoDeed y4_NoDeed y5_WeaveError y6_WeaveError y7_NoDeed y8_NoDeed y9_NoDeed y10_NoDeed y11_NoDeed,
   PySem.W.mg_of X G n_Draft,
   own_mk o1_Draft o2_Draft o3_Draft o4_Draft o5_Draft fm_Draft___init__ gm_Draft___init__ o8_Draft,
   na_Draft_threading,
   na_Draft_ties,
   na_Draft_treading,
   PySem.W.mg_of X G n_Loom,
   own_mk o1_Loom o2_Loom o3_Loom o4_Loom o5_Loom fm_Loom___init__ gm_Loom___init__ o8_Loom,
   na_Loom_threading,
   na_Loom_ties,
   na_Loom_down,
   na_Loom_thrown,
   na_Loom_deeds,
   ⟨fun_mk (st := s_Draft___init__) lm_Draft___init__ cm_Draft___init__ km_Draft___init__, ⟨fm_Draft___init__, gm_Draft___init__, km_Draft___init__⟩, (fun_mk (st := s_Draft___init__) lm_Draft___init__ cm_Draft___init__ km_Draft___init__).binds (ps := ["self", "threading", "ties", "treading"]) fun _ _ _ _ _ _ us hl => bl4 (fun _ _ _ _ => rfl) us hl⟩,
   ⟨fun_mk (st := s_Loom___init__) lm_Loom___init__ cm_Loom___init__ km_Loom___init__, ⟨fm_Loom___init__, gm_Loom___init__, km_Loom___init__⟩, (fun_mk (st := s_Loom___init__) lm_Loom___init__ cm_Loom___init__ km_Loom___init__).binds (ps := ["self", "threading", "ties"]) fun _ _ _ _ _ _ us hl => bl3 (fun _ _ _ => rfl) us hl⟩,
   ⟨fun_mk (st := s_Loom_press) lm_Loom_press cm_Loom_press km_Loom_press, ⟨fm_Loom_press, gm_Loom_press, km_Loom_press⟩, (fun_mk (st := s_Loom_press) lm_Loom_press cm_Loom_press km_Loom_press).binds (ps := ["self", "treadle"]) fun _ _ _ _ _ _ us hl => bl2 (fun _ _ => rfl) us hl⟩,
   ⟨fun_mk (st := s_Loom_lift) lm_Loom_lift cm_Loom_lift km_Loom_lift, ⟨fm_Loom_lift, gm_Loom_lift, km_Loom_lift⟩, (fun_mk (st := s_Loom_lift) lm_Loom_lift cm_Loom_lift km_Loom_lift).binds (ps := ["self", "treadle"]) fun _ _ _ _ _ _ us hl => bl2 (fun _ _ => rfl) us hl⟩,
   ⟨fun_mk (st := s_Loom_throw) lm_Loom_throw cm_Loom_throw km_Loom_throw, ⟨fm_Loom_throw, gm_Loom_throw, km_Loom_throw⟩, (fun_mk (st := s_Loom_throw) lm_Loom_throw cm_Loom_throw km_Loom_throw).binds (ps := ["self", "colour"]) fun _ _ _ _ _ _ us hl => bl2 (fun _ _ => rfl) us hl⟩,
   ⟨fun_mk (st := s_Loom_unthrow) lm_Loom_unthrow cm_Loom_unthrow km_Loom_unthrow, ⟨fm_Loom_unthrow, gm_Loom_unthrow, km_Loom_unthrow⟩, (fun_mk (st := s_Loom_unthrow) lm_Loom_unthrow cm_Loom_unthrow km_Loom_unthrow).binds (ps := ["self"]) fun _ _ _ _ _ _ us hl => bl1 (fun _ => rfl) us hl⟩,
   ⟨fun_mk (st := s_Loom_undo) lm_Loom_undo cm_Loom_undo km_Loom_undo, ⟨fm_Loom_undo, gm_Loom_undo, km_Loom_undo⟩, (fun_mk (st := s_Loom_undo) lm_Loom_undo cm_Loom_undo km_Loom_undo).binds (ps := ["self"]) fun _ _ _ _ _ _ us hl => bl1 (fun _ => rfl) us hl⟩,
   ⟨fun_mk (st := s_Loom_deeds_done) lm_Loom_deeds_done cm_Loom_deeds_done km_Loom_deeds_done, ⟨fm_Loom_deeds_done, gm_Loom_deeds_done, km_Loom_deeds_done⟩, (fun_mk (st := s_Loom_deeds_done) lm_Loom_deeds_done cm_Loom_deeds_done km_Loom_deeds_done).binds (ps := ["self"]) fun _ _ _ _ _ _ us hl => bl1 (fun _ => rfl) us hl⟩,
   ⟨fun_mk (st := s_Loom_treadles_down) lm_Loom_treadles_down cm_Loom_treadles_down km_Loom_treadles_down, ⟨fm_Loom_treadles_down, gm_Loom_treadles_down, km_Loom_treadles_down⟩, (fun_mk (st := s_Loom_treadles_down) lm_Loom_treadles_down cm_Loom_treadles_down km_Loom_treadles_down).binds (ps := ["self"]) fun _ _ _ _ _ _ us hl => bl1 (fun _ => rfl) us hl⟩,
   ⟨fun_mk (st := s_Loom_shed) lm_Loom_shed cm_Loom_shed km_Loom_shed, ⟨fm_Loom_shed, gm_Loom_shed, km_Loom_shed⟩, (fun_mk (st := s_Loom_shed) lm_Loom_shed cm_Loom_shed km_Loom_shed).binds (ps := ["self"]) fun _ _ _ _ _ _ us hl => bl1 (fun _ => rfl) us hl⟩,
   ⟨fun_mk (st := s_Loom_cloth) lm_Loom_cloth cm_Loom_cloth km_Loom_cloth, ⟨fm_Loom_cloth, gm_Loom_cloth, km_Loom_cloth⟩, (fun_mk (st := s_Loom_cloth) lm_Loom_cloth cm_Loom_cloth km_Loom_cloth).binds (ps := ["self"]) fun _ _ _ _ _ _ us hl => bl1 (fun _ => rfl) us hl⟩,
   ⟨fun_mk (st := s_Loom_colours) lm_Loom_colours cm_Loom_colours km_Loom_colours, ⟨fm_Loom_colours, gm_Loom_colours, km_Loom_colours⟩, (fun_mk (st := s_Loom_colours) lm_Loom_colours cm_Loom_colours km_Loom_colours).binds (ps := ["self"]) fun _ _ _ _ _ _ us hl => bl1 (fun _ => rfl) us hl⟩,
   ⟨fun_mk (st := s_Loom_draft) lm_Loom_draft cm_Loom_draft km_Loom_draft, ⟨fm_Loom_draft, gm_Loom_draft, km_Loom_draft⟩, (fun_mk (st := s_Loom_draft) lm_Loom_draft cm_Loom_draft km_Loom_draft).binds (ps := ["self"]) fun _ _ _ _ _ _ us hl => bl1 (fun _ => rfl) us hl⟩,
   ⟨fun_mk (st := s_Loom_lifted_shafts) lm_Loom_lifted_shafts cm_Loom_lifted_shafts km_Loom_lifted_shafts, ⟨fm_Loom_lifted_shafts, gm_Loom_lifted_shafts, km_Loom_lifted_shafts⟩, (fun_mk (st := s_Loom_lifted_shafts) lm_Loom_lifted_shafts cm_Loom_lifted_shafts km_Loom_lifted_shafts).binds (ps := ["self"]) fun _ _ _ _ _ _ us hl => bl1 (fun _ => rfl) us hl⟩⟩
section
variable {P : Program} {w : World} {K : PySem.W.Frag} {mg : Str → Option Value} {base : Heap} {t : Adr}
def sp_called (z : Str) : Sp := fun vs H Q _ => ∃ v, vs = [v] ∧ Q (.str z) H
end
section
variable {P : Program} {w : World} {K : PySem.W.Frag} {mg : Str → Option Value} {base : Heap} {t : Adr}
theorem z0 (i : Nat) : (0 + (i : Int)).toNat = i := by omega
theorem small40 {n : Nat} (h : n ≤ 40) : n ≤ sizeLine := Nat.le_trans h (by decide)
/-- a list of lists of numbers -/
structure NL (H : Hp) (y : Addr) (rs : List Addr) (tss : List (List Int)) : Prop where
  h : H y = some (.lst (rs.map V.ref))
  l : rs.length = tss.length
  r : ∀ (i : Nat) (a : Addr) (ks : List Int), rs[i]? = some a → tss[i]? = some ks → H a = some (.lst (vI ks))
theorem NL.same {H H' : Hp} {y : Addr} {rs : List Addr} {tss : List (List Int)} (N : NL H y rs tss) (s : Same H H') : NL H' y rs tss := ⟨s _ _ N.h, N.l, fun i a ks h1 h2 => s _ _ (N.r i a ks h1 h2)⟩
theorem NL.at {H : Hp} {y : Addr} {rs : List Addr} {tss : List (List Int)} (N : NL H y rs tss) {i : Nat} {a : V} (h : (rs.map V.ref)[i]? = some a) : ∃ r ks, a = .ref r ∧ rs[i]? = some r ∧ tss[i]? = some ks ∧ H r = some (.lst (vI ks)) := by
  rw [List.getElem?_map] at h
  cases e : rs[i]? with
  | none => rw [e] at h; cases h
  | some r =>
    rw [e] at h
    cases h
    have hi : i < tss.length := by rw [← N.l]; exact (List.getElem?_eq_some_iff.mp e).1
    exact ⟨r, tss[i], rfl, rfl, List.getElem?_eq_getElem hi, N.r i r _ e (List.getElem?_eq_getElem hi)⟩
def CtOk (c : Nat) : Prop := 1 ≤ c ∧ c ≤ 40
def SetOk (th : List Int) (tss : List (List Int)) : Prop := CtOk th.length ∧ CtOk tss.length ∧ (∀ v ∈ th, 0 ≤ v ∧ v < 40) ∧ ∀ ks ∈ tss, Rs ks
def TrOk (tr : List Int) (n : Nat) : Prop := CtOk tr.length ∧ ∀ v ∈ tr, 0 ≤ v ∧ v < (n : Int)
def Bd3 (th : List Int) (tss : List (List Int)) (tr : List Int) : Prop := th.length ≤ 1000 ∧ tss.length ≤ 1000 ∧ tr.length ≤ 1000 ∧ ∀ ks ∈ tss, ks.length ≤ 2000
def sp_xcount (t : Adr) : Sp := fun vs H Q E => ∃ c : Nat, vs = [.int (c : Int)] ∧ (CtOk c → Q .non H) ∧ (¬ CtOk c → E (.ref t.e_NoDraft) none H)
theorem okx_check_count (T : Txt K mg t) : FnOk P w K mg base (CX1 P w) 1 t.f_check_count t.d_check_count ["count"] (sp_xcount t) := by
  refine T.check_count.F.okX sc_check_count (fun vs H Q E h => ?_) (fun cdv A outer s H vs Q E hr h => ?_)
  · obtain ⟨c, rfl, _⟩ := h
    rfl
  · obtain ⟨c, rfl, k1, k2⟩ := h
    refine ⟨_, (pss_one (ps_if (PW.pt (pw_or (pt_cmpR op_lt (pv 0) pe_int (nomark _)) (pw_or1 (pt_cmpR op_gt (pv 0) (pe_glob (v := .int 40) rfl T.c_MOST_STRANDS.choose_spec ⟨_, rfl⟩) (nomark _)))))
        (pss_one (ps_raise body1 rfl (fun _ _ z => z) PySem.F.excBase_ValueError has_ve PySem.F.excBase_ValueError T.x_NoDraft.q rfl T.k_NoDraft (pa_cons pe_str pa_nil)))
        pss_nil)), ?_⟩
    refine ⟨_, rfl, _, _, rfl, rfl, _, rfl, ?_⟩
    refine ite2D (fun h => iteT ⟨by decide, k2 fun z => ?_⟩) (fun g1 => ?_)
    · have := z.1; omega
    refine ⟨_, rfl, _, _, rfl, rfl, _, rfl, ?_⟩
    refine ite2D (fun h => ⟨by decide, k2 fun z => ?_⟩) (fun g2 => k1 ⟨by omega, by omega⟩)
    have := z.2
    omega
def sp_xshaft (t : Adr) : Sp := fun vs H Q E => ∃ v : Int, vs = [.int v] ∧ (0 ≤ v ∧ v < 40 → Q .non H) ∧ (¬ (0 ≤ v ∧ v < 40) → E (.ref t.e_NoDraft) none H)
theorem okx_check_shaft (T : Txt K mg t) : FnOk P w K mg base (CX1 P w) 1 t.f_check_shaft t.d_check_shaft ["shaft"] (sp_xshaft t) := by
  refine T.check_shaft.F.okX sc_check_shaft (fun vs H Q E h => ?_) (fun cdv A outer s H vs Q E hr h => ?_)
  · obtain ⟨v, rfl, _⟩ := h
    rfl
  · obtain ⟨v, rfl, k1, k2⟩ := h
    refine ⟨_, (pss_one (ps_if (PW.pt (pw_or (pt_cmpR op_lt (pv 0) pe_int (nomark _)) (pw_or1 (pt_cmpR op_ge (pv 0) (pe_glob (v := .int 40) rfl T.c_MOST_SHAFTS.choose_spec ⟨_, rfl⟩) (nomark _)))))
        (pss_one (ps_raise body1 rfl (fun _ _ z => z) PySem.F.excBase_ValueError has_ve PySem.F.excBase_ValueError T.x_NoDraft.q rfl T.k_NoDraft (pa_cons pe_str pa_nil)))
        pss_nil)), ?_⟩
    refine ⟨_, rfl, _, _, rfl, rfl, _, rfl, ?_⟩
    refine ite2D (fun h => iteT ⟨by decide, k2 fun z => ?_⟩) (fun g1 => ?_)
    · omega
    refine ⟨_, rfl, _, _, rfl, rfl, _, rfl, ?_⟩
    refine ite2D (fun h => ⟨by decide, k2 fun z => ?_⟩) (fun g2 => k1 ⟨by omega, by omega⟩)
    omega
/-- rising so far -/
def RsI (ks : List Int) (i : Nat) : Prop := (∀ (j : Nat) (a : Int), j < i → ks[j]? = some a → 0 ≤ a ∧ a < 40) ∧ ∀ (j : Nat) (a b : Int), j + 1 < i → ks[j]? = some a → ks[j + 1]? = some b → a < b
theorem RsI.all {ks : List Int} (h : RsI ks ks.length) : Rs ks := ⟨fun i a b ha hb => h.2 i a b (List.getElem?_eq_some_iff.mp hb).1 ha hb, fun k hk => by
  obtain ⟨j, hj, e⟩ := List.getElem_of_mem hk
  exact h.1 j k hj (by rw [← e]; exact List.getElem?_eq_getElem hj)⟩
theorem RsI.step {ks : List Int} {i : Nat} (hi : i < ks.length) (h : RsI ks i) (h1 : 0 ≤ ks[i] ∧ ks[i] < 40) (h2 : ∀ j a, j + 1 = i → ks[j]? = some a → a < ks[i]) : RsI ks (i + 1) := by
  refine ⟨fun j a hj ha => ?_, fun j a b hj ha hb => ?_⟩
  · by_cases e : j < i
    · exact h.1 j a e ha
    · have : j = i := by omega
      subst this
      rw [List.getElem?_eq_getElem hi] at ha
      cases ha
      exact h1
  · by_cases e : j + 1 < i
    · exact h.2 j a b e ha hb
    · have : j + 1 = i := by omega
      subst this
      rw [List.getElem?_eq_getElem hi] at hb
      cases hb
      exact h2 j a rfl ha
def sp_xtie (t : Adr) : Sp := fun vs H Q E => ∃ (a : Addr) (ks : List Int), vs = [.ref a] ∧ H a = some (.lst (vI ks)) ∧ ks.length ≤ 2000 ∧ (Rs ks → Q .non H) ∧ (¬ Rs ks → E (.ref t.e_NoDraft) none H)
theorem okx_check_tie (T : Txt K mg t) : FnOk P w K mg base (CX1 P w) 2 t.f_check_tie t.d_check_tie ["tie"] (sp_xtie t) := by
  have G_check_shaft : FnOk P w K mg base (CX1 P w) 1 t.f_check_shaft t.d_check_shaft _ _ := okx_check_shaft T
  refine T.check_tie.F.okX sc_check_tie (fun vs H Q E h => ?_) (fun cdv A outer s H vs Q E hr h => ?_)
  · obtain ⟨a, ks, rfl, _⟩ := h
    rfl
  · obtain ⟨a, ks, rfl, ha, hl, k1, k2⟩ := h
    refine ⟨_, (pss_one (ps_fr fun hfr => (ps_for (ownX body1 hfr) rfl (pi_range1 rfl T.b_range (pa_cons (pe_callB (call_len_seqK (K := K)) rfl T.b_len bt_len (pa_cons (pv 0) pa_nil)) pa_nil)) (pg_name (i := 1) sc_check_tie.nd rfl (Or.inl rfl))
        (pss_cons (ps_expr (pe_call (G_check_shaft.mono (by decide)) hr rfl T.check_shaft.m T.check_shaft.F.kp T.check_shaft.b .nil pass1 (pa_cons (pe_ix (ix_listK (K := K)) (pv 0) (pv 1) (fun _ _ => rfl)) pa_nil)))
        (pss_one (ps_if (PW.pt (pw_and (pt_cmpR op_gt (pv 1) pe_int (nomark _)) (pw_and1 (pt_cmpR op_le (pe_ix (ix_listK (K := K)) (pv 0) (pv 1) (fun _ _ => rfl)) (pe_ix (ix_listK (K := K)) (pv 0) (pe_op op_sub (pv 1) pe_int) (fun _ _ => rfl)) (nomark _)))))
          (pss_one (ps_raise body1 rfl (fun _ _ z => z) PySem.F.excBase_ValueError has_ve PySem.F.excBase_ValueError T.x_NoDraft.q rfl T.k_NoDraft (pa_cons pe_str pa_nil)))
          pss_nil)))))), ?_⟩
    refine ⟨_, rfl, _, _, rfl, .inl (SqL.of ha), _, rfl, (by omega), (by rw [vI_len]; omega), ?_⟩
    rw [Int.toNat_natCast, vI_len]
    refine for_range (lo := 0) (n := ks.length) (fun i σ H2 => ∃ v, σ = [some (.ref a), v] ∧ H2 = H ∧ RsI ks i) ⟨none, rfl, rfl, fun j a h => absurd h (by omega), fun j a b h => absurd h (by omega)⟩ ?_ ?_
    · rintro i σ H2 hi ⟨v, rfl, rfl, R⟩
      have e1 : atI (vI ks) (0 + (i : Int)) = some (.int ks[i]) := atI_of (by omega) (by rw [z0]; exact vI_get (List.getElem?_eq_getElem hi))
      refine ⟨_, rfl, _, rfl, _, _, _, _, rfl, rfl, SqL.of ha, e1, ks[i], rfl, fun hg => ?_, fun hb => k2 fun z => hb (z.2 _ (List.getElem_mem hi))⟩
      refine ⟨_, rfl, _, _, rfl, rfl, _, rfl, ?_⟩
      by_cases h0 : i = 0
      · subst h0
        refine iteDn (by omega) ?_
        exact iteF ⟨_, rfl, rfl, R.step hi hg fun j a hj => absurd hj (by omega)⟩
      · have hi1 : i - 1 < ks.length := by omega
        have e2 : atI (vI ks) (0 + (i : Int) - 1) = some (.int ks[i - 1]) := atI_of (by omega) (by rw [show (0 + (i : Int) - 1).toNat = i - 1 by omega]; exact vI_get (List.getElem?_eq_getElem hi1))
        refine iteDp (by omega) ?_
        refine ⟨_, rfl, _, rfl, _, _, _, _, rfl, rfl, SqL.of ha, e1, _, rfl, _, rfl, _, _, rfl, rfl, _, _, _, _, rfl, rfl, SqL.of ha, e2, _, _, rfl, rfl, _, rfl, ?_⟩
        refine ite2D (fun hle => ?_) (fun hgt => ?_)
        · refine ⟨by decide, k2 fun z => ?_⟩
          have := z.1 (i - 1) ks[i - 1] ks[i] (List.getElem?_eq_getElem hi1) (by rw [show i - 1 + 1 = i by omega]; exact List.getElem?_eq_getElem hi)
          omega
        · refine ⟨_, rfl, rfl, R.step hi hg fun j a hj hja => ?_⟩
          have : j = i - 1 := by omega
          subst this
          rw [List.getElem?_eq_getElem hi1] at hja
          cases hja
          omega
    · rintro σ H2 ⟨v, rfl, rfl, R⟩
      exact k1 R.all
def sp_xsetting (t : Adr) : Sp := fun vs H Q E => ∃ (x y : Addr) (rs : List Addr) (th : List Int) (tss : List (List Int)), vs = [.ref x, .ref y] ∧ H x = some (.lst (vI th)) ∧ NL H y rs tss ∧ th.length ≤ 1000 ∧ tss.length ≤ 1000 ∧ (∀ ks ∈ tss, ks.length ≤ 2000) ∧ (SetOk th tss → Q .non H) ∧ (¬ SetOk th tss → E (.ref t.e_NoDraft) none H)
theorem okx_check_setting (T : Txt K mg t) : FnOk P w K mg base (CX1 P w) 3 t.f_check_setting t.d_check_setting ["threading", "ties"] (sp_xsetting t) := by
  have G_check_count : FnOk P w K mg base (CX1 P w) 1 t.f_check_count t.d_check_count _ _ := okx_check_count T
  have G_check_shaft : FnOk P w K mg base (CX1 P w) 1 t.f_check_shaft t.d_check_shaft _ _ := okx_check_shaft T
  have G_check_tie : FnOk P w K mg base (CX1 P w) 2 t.f_check_tie t.d_check_tie _ _ := okx_check_tie T
  refine T.check_setting.F.okX sc_check_setting (fun vs H Q E h => ?_) (fun cdv A outer s H vs Q E hr h => ?_)
  · obtain ⟨x, y, rs, th, tss, rfl, _⟩ := h
    rfl
  · obtain ⟨x, y, rs, th, tss, rfl, hx, N, bl1, bl2, bl3, k1, k2⟩ := h
    refine ⟨_, (pss_cons (ps_expr (pe_call (G_check_count.mono (by decide)) hr rfl T.check_count.m T.check_count.F.kp T.check_count.b .nil pass1 (pa_cons (pe_callB (call_len_seqK (K := K)) rfl T.b_len bt_len (pa_cons (pv 0) pa_nil)) pa_nil)))
      (pss_cons (ps_expr (pe_call (G_check_count.mono (by decide)) hr rfl T.check_count.m T.check_count.F.kp T.check_count.b .nil pass1 (pa_cons (pe_callB (call_len_seqK (K := K)) rfl T.b_len bt_len (pa_cons (pv 1) pa_nil)) pa_nil)))
      (pss_cons (ps_fr fun hfr => (ps_for (ownX body1 hfr) rfl (pi_listK (K := K) (pv 0)) (pg_name (i := 2) sc_check_setting.nd rfl (Or.inl rfl))
        (pss_one (ps_expr (pe_call (G_check_shaft.mono (by decide)) hr rfl T.check_shaft.m T.check_shaft.F.kp T.check_shaft.b .nil pass1 (pa_cons (pv 2) pa_nil))))))
      (pss_one (ps_fr fun hfr => (ps_for (ownX body1 hfr) rfl (pi_listK (K := K) (pv 1)) (pg_name (i := 3) sc_check_setting.nd rfl (Or.inl rfl))
        (pss_one (ps_expr (pe_call (G_check_tie.mono (by decide)) hr rfl T.check_tie.m T.check_tie.F.kp T.check_tie.b .nil pass1 (pa_cons (pv 3) pa_nil)))))))))), ?_⟩
    refine ⟨_, rfl, _, _, rfl, .inl (SqL.of hx), th.length, (by rw [vI_len] <;> rfl), fun g1 => ?_, fun b => k2 fun z => b z.1⟩
    refine ⟨_, rfl, _, _, rfl, .inl (SqL.of N.h), tss.length, (by rw [List.length_map, N.l] <;> rfl), fun g2 => ?_, fun b => k2 fun z => b z.2.1⟩
    refine ⟨_, rfl, _, rfl, ⟨_, SqL.of hx⟩, for_list (K := K) (a := x) (xs := vI th) (fun i σ H2 => ∃ v1 v2, σ = [some (.ref x), some (.ref y), v1, v2] ∧ H2 = H ∧ ∀ v ∈ th.take i, 0 ≤ v ∧ v < 40) ⟨none, none, rfl, rfl, fun v h => (by simp at h)⟩ (fun i σ H2 _ ⟨_, _, _, e, _⟩ => e ▸ SqL.of hx) ?_ ?_⟩
    · rintro i xv σ H2 hxv ⟨v1, v2, rfl, rfl, hall⟩
      obtain ⟨z, hz, rfl⟩ := vI_got hxv
      refine ⟨_, rfl, z, rfl, fun g => ?_, fun b => k2 fun w => b (w.2.2.1 z (List.mem_of_getElem? hz))⟩
      refine ⟨_, _, rfl, rfl, fun v hv => ?_⟩
      rw [List.take_add_one, hz] at hv
      rcases List.mem_append.mp hv with h | h
      · exact hall v h
      · have e : v = z := by simpa using h
        rw [e]; exact g
    · rintro σ H2 ⟨v1, v2, rfl, rfl, hall⟩
      rw [vI_len, List.take_length] at hall
      refine ⟨_, rfl, _, rfl, ⟨_, SqL.of N.h⟩, for_list (K := K) (a := y) (xs := rs.map V.ref) (fun i σ H3 => ∃ v1 v2, σ = [some (.ref x), some (.ref y), v1, v2] ∧ H3 = H2 ∧ ∀ ks ∈ tss.take i, Rs ks) ⟨v1, v2, rfl, rfl, fun ks h => (by simp at h)⟩ (fun i σ H3 _ ⟨_, _, _, e, _⟩ => e ▸ SqL.of N.h) ?_ ?_⟩
      · rintro i xv σ H3 hxv ⟨v1, v2, rfl, rfl, hall2⟩
        obtain ⟨r, ks, rfl, _, hks, hr'⟩ := N.at hxv
        have hm := List.mem_of_getElem? hks
        refine ⟨_, rfl, r, ks, rfl, hr', bl3 ks hm, fun g => ?_, fun b => k2 fun w => b (w.2.2.2 ks hm)⟩
        refine ⟨_, _, rfl, rfl, fun v hv => ?_⟩
        rw [List.take_add_one, hks] at hv
        rcases List.mem_append.mp hv with h | h
        · exact hall2 v h
        · have e : v = ks := by simpa using h
          rw [e]; exact g
      · rintro σ H3 ⟨v1, v2, rfl, rfl, hall2⟩
        rw [List.length_map, N.l, List.take_length] at hall2
        exact k1 ⟨g1, g2, hall, hall2⟩
theorem e35 : (V.str ⟨#[35]⟩ : V) = V.str "#" := congrArg V.str (by decide +kernel)
theorem e46 : (V.str ⟨#[46]⟩ : V) = V.str "." := congrArg V.str (by decide +kernel)
def sp_shed : Sp := fun vs H Q _ => ∃ (x l : Addr) (th ks : List Int), vs = [.ref x, .ref l] ∧ H x = some (.lst (vI th)) ∧ H l = some (.lst (vI ks)) ∧ th.length ≤ 40 ∧ ∀ H', Same H H' → Q (.str (tx (shd th ks))) H'
theorem ok_shed_over (T : Txt K mg t) : FnOk P w K mg base CX0 1 t.f_shed_over t.d_shed_over ["threading", "lifted"] sp_shed := by
  refine T.shed_over.F.ok sc_shed_over (fun vs H Q E h => ?_) (fun cdv A outer s H vs Q E hr h => ?_)
  · obtain ⟨x, l, th, ks, rfl, _⟩ := h
    rfl
  · obtain ⟨x, l, th, ks, rfl, hx, hl, h40, k⟩ := h
    refine ⟨_, (pss_one (ps_ret (pe_bmK (K := K) PySem.F.plainAttrs_str PySem.F.slot_str_join PySem.F.type_str_join (mt_joinK (K := K)) pe_str (pa_cons (pe_comp (CompOk.mk (caps := [1]) (Nc := ["shaft", "lifted"]) rfl (by decide +kernel) (by decide +kernel) (comp_fr (sc0 := defScope s_shed_over) rfl (by decide +kernel)) rfl rfl rfl (by decide +kernel) (fun k j h => match k, h with | 0, h => by obtain rfl := Option.some.inj h; exact ⟨_, rfl, rfl, rfl⟩ | _ + 1, h => by simp at h)) rfl (pi_listK (K := K) (pv 0)) (fun _ _ _ _ _ => .nil) (fun _ _ _ _ _ => (pe_ifExp (pt_cmpR (op_in_seqK (K := K)) (pv 0) (pv 1) rfl) pe_str pe_str))) pa_nil)))), ?_⟩
    refine ⟨rfl, _, rfl, _, rfl, ⟨_, SqL.of hx⟩, comp_list (K := K) (a := x) (xs := vI th) (fun i ys H2 => H2 = H ∧ ys = vS ((th.take i).map fun s => [if s ∈ ks then 35 else 46])) ⟨rfl, rfl⟩ ?_ ?_ ?_ ?_⟩
    · rintro i ys H2 hi ⟨rfl, rfl⟩
      refine ⟨SqL.of hx, ?_⟩
      rw [vS_len, List.length_map, List.length_take]
      omega
    · rw [vI_len]; exact small40 h40
    · rintro i xv ys H2 hi hxv ⟨rfl, rfl⟩
      obtain ⟨z, hz, rfl⟩ := vI_got hxv
      refine CTurn.no ?_
      have fin : ∀ d, d = (if z ∈ ks then 35 else 46) → CN (vI th).length (fun i ys H2' => H2' = H2 ∧ ys = vS ((th.take i).map fun s => [if s ∈ ks then 35 else 46])) i (vS ((th.take i).map fun s => [if s ∈ ks then 35 else 46]) ++ [.str (tx [d])]) H2 := fun d hd => by
        subst hd
        refine CN.of hi ⟨rfl, ?_⟩
        rw [vS_app, List.take_add_one, hz, List.map_append]
        rfl
      refine ⟨_, rfl, _, rfl, _, _, rfl, .inl (SqL.of hl), rfl, vI_flat _, _, rfl, ?_⟩
      show if (inV (.int z) (vI ks)) = true then _ else _
      rw [inV_vI]
      refine ite2D (fun h => ?_) (fun h => ?_)
      · have := fin 35 (by rw [if_pos h])
        rw [← tx_one, e35] at this
        exact this
      · have := fin 46 (by rw [if_neg h])
        rw [← tx_one, e46] at this
        exact this
    · rintro ys H2 p ⟨rfl, rfl⟩ hp
      rw [vI_len, List.take_length]
      refine ⟨_, _, ((th.map fun s => [if s ∈ ks then 35 else 46]).map tx), rfl, rfl, SqL.of (by rw [upd_same, vS_map]), ?_, ?_⟩
      · have e1 := sum1 (fun s : Int => if s ∈ ks then 35 else 46) th
        rw [e1, List.length_map, List.length_map]
        have : th.length * (Str.length "") = 0 := by rw [show Str.length "" = 0 from by decide +kernel]; omega
        omega
      · rw [show (("" : Str)) = tx [] from by decide +kernel, tx_join]
        have e2 := flat1 (fun s : Int => if s ∈ ks then 35 else 46) th
        rw [e2]
        exact k _ (.upd hp)
end
end Mine

set_option Elab.async false
set_option linter.all false
set_option maxRecDepth 100000
set_option maxHeartbeats 4000000
namespace Mine
open PySem L2
section
variable {P : Program} {w : World} {K : PySem.W.Frag} {mg : Str → Option Value} {base : Heap} {t : Adr}
def SameB (r : Addr) (H H' : Hp) : Prop := ∀ b o, b ≠ r → H b = some o → H' b = some o
theorem NL.other {H H' : Hp} {r C dx y : Addr} {fs : List (Str × V)} {rs : List Addr} {tss : List (List Int)} (N : NL H y rs tss) (b : SameB r H H') (hr : H r = some (.ins C dx fs)) : NL H' y rs tss :=
  ⟨b _ _ (fun e => by have := N.h; rw [e, hr] at this; cases this) N.h, N.l, fun i a ks h1 h2 => b _ _ (fun e => by have := N.r i a ks h1 h2; rw [e, hr] at this; cases this) (N.r i a ks h1 h2)⟩
def lf (a b c e g : Addr) : List (Str × V) := [("threading", .ref a), ("ties", .ref b), ("down", .ref c), ("thrown", .ref e), ("deeds", .ref g)]
theorem lf_th (a b c e g : Addr) : (lf a b c e g).lookup ("threading" : Str) = some (V.ref a) := rfl
theorem lf_dn (a b c e g : Addr) : (lf a b c e g).lookup ("down" : Str) = some (V.ref c) := rfl
/-- a loom, with lists of its own -/
structure IsM (t : Adr) (H : Hp) (m dx a b c e g : Addr) (qs : List Addr) (th : List Int) (tss : List (List Int)) (dn : List Int) (tn ds : List V) : Prop where
  o : H m = some (.ins t.e_Loom dx (lf a b c e g))
  ha : H a = some (.lst (vI th))
  hb : NL H b qs tss
  hc : H c = some (.lst (vI dn))
  he : H e = some (.lst tn)
  hg : H g = some (.lst ds)
theorem IsM.same {H H' : Hp} {m dx a b c e g : Addr} {qs : List Addr} {th : List Int} {tss : List (List Int)} {dn : List Int} {tn ds : List V} (D : IsM t H m dx a b c e g qs th tss dn tn ds) (s : Same H H') : IsM t H' m dx a b c e g qs th tss dn tn ds := ⟨s _ _ D.o, s _ _ D.ha, D.hb.same s, s _ _ D.hc, s _ _ D.he, s _ _ D.hg⟩
def sp_xlinit (t : Adr) : Sp := fun vs H Q E => ∃ (r dx x y : Addr) (rs : List Addr) (th : List Int) (tss : List (List Int)), vs = [.ref r, .ref x, .ref y] ∧ H r = some (.ins t.e_Loom dx []) ∧ H x = some (.lst (vI th)) ∧ NL H y rs tss ∧ th.length ≤ 1000 ∧ tss.length ≤ 1000 ∧ (∀ ks ∈ tss, ks.length ≤ 2000) ∧
  (SetOk th tss → ∀ a b c e g qs H', SameB r H H' → (∀ q ∈ g :: e :: c :: b :: a :: qs, H q = none) → (g :: e :: c :: b :: a :: qs).Nodup → IsM t H' r dx a b c e g qs th tss [] [] [] → Q .non H') ∧ (¬ SetOk th tss → E (.ref t.e_NoDraft) none H)
/-- a field set to a new list -/
theorem put_new {H : Hp} {r dx C c : Addr} {n : Str} {fs : List (Str × V)} {xs : List V} (hr : H r = some (.ins C dx fs)) (nc : H c = none) : (∀ b o, b ≠ r → H b = some o → (upd (upd H c (.lst xs)) r (.ins C dx (putF n (.ref c) fs))) b = some o) ∧ (upd (upd H c (.lst xs)) r (.ins C dx (putF n (.ref c) fs))) r = some (.ins C dx (putF n (.ref c) fs)) ∧ (upd (upd H c (.lst xs)) r (.ins C dx (putF n (.ref c) fs))) c = some (.lst xs) ∧ c ≠ r := by
  have ncr : c ≠ r := fun e => by rw [e, hr] at nc; cases nc
  refine ⟨fun b o nb e => by rw [upd_ne nb]; exact (Same.upd nc) _ _ e, upd_same, by rw [upd_ne ncr]; exact upd_same, ncr⟩
theorem okx_Loom___init__ (T : Txt K mg t) : FnOk P w K mg base (CX1 P w) 4 t.f_Loom___init__ t.d_Loom___init__ ["self", "threading", "ties"] (sp_xlinit t) := by
  have G_check_setting : FnOk P w K mg base (CX1 P w) 3 t.f_check_setting t.d_check_setting _ _ := okx_check_setting T
  refine T.m_Loom___init__.F.okX sc_Loom___init__ (fun vs H Q E h => ?_) (fun cdv A outer s H vs Q E hr h => ?_)
  · obtain ⟨r, dx, x, y, rs, th, tss, rfl, _⟩ := h
    rfl
  · obtain ⟨r, dx, x, y, rs, th, tss, rfl, hr1, hx, N, l1, l2, l3, kq, kb⟩ := h
    have hsz : sizeLine = 16777216 := sizeLine_eq
    refine ⟨_, (pss_cons (ps_expr (pe_call (G_check_setting.mono (by decide)) hr rfl T.check_setting.m T.check_setting.F.kp T.check_setting.b .nil pass1 (pa_cons (pv 1) (pa_cons (pv 2) pa_nil))))
      (pss_cons (ps_fldK (K := K) (pv 0) (pe_callTy (call_list_ofK (K := K)) rfl T.b_list bt_list (pa_cons (pv 1) pa_nil)))
      (pss_cons (PS.nox (ps_fldK (K := K) (pv 0) (pe_comp (CompOk.mk (caps := []) (Nc := ["tie"]) rfl (by decide +kernel) (by decide +kernel) (comp_fr (sc0 := defScope s_Loom___init__) rfl (by decide +kernel)) rfl rfl rfl (by decide +kernel) (fun _ _ h => by simp at h)) rfl (pi_listK (K := K) (pv 2)) (fun _ _ _ _ _ => .nil) (fun _ _ _ _ _ => (pe_callTy (call_list_ofK (K := K)) rfl T.b_list bt_list (pa_cons (pv 0) pa_nil))))))
      (pss_cons (ps_fldK (K := K) (pv 0) (pe_lst pa_nil))
      (pss_cons (ps_fldK (K := K) (pv 0) (pe_lst pa_nil))
      (pss_one (ps_fldK (K := K) (pv 0) (pe_lst pa_nil)))))))), ?_⟩
    refine ⟨_, rfl, _, rfl, x, y, rs, th, tss, rfl, hx, N, l1, l2, l3, fun g1 => ?_, fun b1 => kb b1⟩
    have k := kq g1
    -- threading
    refine ⟨_, rfl, _, _, rfl, .inl (SqL.of hx), fun a na => ?_⟩
    have s1 : Same H (upd H a (.lst (vI th))) := .upd na
    refine ⟨_, rfl, _, _, _, _, rfl, s1 _ _ hr1, T.o_Loom.c, T.na_Loom_threading, (by decide), ?_⟩
    obtain ⟨b2, hr2, ha2, nra⟩ := put_new (n := "threading") (xs := vI th) hr1 na
    generalize upd (upd H a (.lst (vI th))) r (.ins t.e_Loom dx (putF "threading" (.ref a) [])) = H2 at b2 hr2 ha2 ⊢
    have fre : ∀ q, H2 q = none → H q = none := fun q hq => by
      have nq : q ≠ r := fun e => by rw [e, hr2] at hq; cases hq
      cases e : H q with
      | none => rfl
      | some o => rw [b2 q o nq e] at hq; cases hq
    have N2 := N.other b2 hr1
    -- ties
    refine ⟨_, rfl, _, rfl, ⟨_, SqL.of N2.h⟩, comp_list (K := K) (a := y) (xs := rs.map V.ref) (fun i ys H3 => Same H2 H3 ∧ ∃ qs : List Addr, ys = qs.map V.ref ∧ qs.length = i ∧ qs.Nodup ∧ (∀ q ∈ qs, H2 q = none ∧ H3 q ≠ none) ∧ ∀ (j : Nat) (q : Addr) (ks : List Int), qs[j]? = some q → tss[j]? = some ks → H3 q = some (.lst (vI ks)))
      ⟨.refl _, [], rfl, rfl, .nil, fun q hq => (by cases hq), fun j q ks h => (by simp at h)⟩ ?_ ?_ ?_ ?_⟩
    · rintro i ys H3 hi ⟨s3, qs, rfl, hq, _⟩
      exact ⟨SqL.of (s3 _ _ N2.h), by rw [List.length_map]; omega⟩
    · rw [List.length_map, N.l]; omega
    · rintro i xv ys H3 hi hxv ⟨s3, qs, rfl, hq, nd, nq, hqs⟩
      obtain ⟨r', ks', rfl, _, hks, hr'⟩ := N2.at hxv
      refine CTurn.no ?_
      refine ⟨_, rfl, _, _, rfl, .inl (SqL.of (s3 _ _ hr')), fun l nl => ?_⟩
      refine CN.of hi ⟨s3.new nl, qs ++ [l], by rw [List.map_append]; rfl, by rw [List.length_append, hq]; rfl, ?_, fun q h => ?_, fun j q ks h1 h2 => ?_⟩
      · rw [List.nodup_append]
        refine ⟨nd, by simp, fun u hu v hv e => ?_⟩
        rw [List.mem_singleton.mp hv] at e
        rw [e] at hu
        exact (nq l hu).2 nl
      · rcases List.mem_append.mp h with h | h
        · refine ⟨(nq q h).1, ?_⟩
          cases e : H3 q with
          | none => exact absurd e (nq q h).2
          | some o => rw [(Same.upd nl) _ _ e]; exact fun z => by cases z
        · rw [List.mem_singleton.mp h]; exact ⟨s3.free nl, by rw [upd_same]; exact fun z => by cases z⟩
      · by_cases hj : j < qs.length
        · rw [List.getElem?_append_left hj] at h1
          exact (Same.upd nl) _ _ (hqs j q ks h1 h2)
        · rw [List.getElem?_append_right (by omega)] at h1
          have e0 : j = i := by
            have := (List.getElem?_eq_some_iff.mp h1).1
            simp at this
            omega
          rw [show j - qs.length = 0 by omega] at h1
          have e1 : l = q := by simpa using h1
          rw [e0, hks] at h2
          cases h2
          rw [← e1]
          exact upd_same
    · rintro ys H3 b ⟨s3, qs, rfl, hq, nd, nq, hqs⟩ nb
      rw [List.length_map, N.l] at hq
      have s4 : Same H2 (upd H3 b (.lst (qs.map V.ref))) := s3.new nb
      refine ⟨_, rfl, _, _, _, _, rfl, s4 _ _ hr2, T.o_Loom.c, T.na_Loom_ties, (by show 1 < 1000; decide), ?_⟩
      obtain ⟨b5, hr5, hb5, nbr⟩ := put_new (n := "ties") (xs := qs.map V.ref) (s3 _ _ hr2) nb
      generalize upd (upd H3 b (.lst (qs.map V.ref))) r (.ins t.e_Loom dx (putF "ties" (.ref b) (putF "threading" (.ref a) []))) = H5 at b5 hr5 hb5 ⊢
      have nqr : ∀ q ∈ qs, q ≠ r := fun q h e => by have := (nq q h).1; rw [e, hr2] at this; cases this
      have q5 : ∀ q ∈ qs, H5 q ≠ none := fun q h => by
        cases e : H3 q with
        | none => exact absurd e (nq q h).2
        | some o => rw [b5 q o (nqr q h) e]; exact fun z => by cases z
      have hq5 : ∀ (j : Nat) (q : Addr) (ks : List Int), qs[j]? = some q → tss[j]? = some ks → H5 q = some (.lst (vI ks)) := fun j q ks h1 h2 => b5 _ _ (nqr q (List.mem_of_getElem? h1)) (hqs j q ks h1 h2)
      have ha5 : H5 a = some (.lst (vI th)) := b5 _ _ nra (s3 _ _ ha2)
      have f5 : ∀ q, H5 q = none → H q = none := fun q h => fre q (by
        have nqr' : q ≠ r := fun e => by rw [e, hr5] at h; cases h
        cases e : H2 q with
        | none => rfl
        | some o => rw [b5 q o nqr' (s3 _ _ e)] at h; cases h)
      have pr : ∀ {H6 : Hp} {u : Addr}, (∀ b o, b ≠ r → H5 b = some o → H6 b = some o) → H6 u = none → u ≠ b ∧ u ≠ a ∧ u ∉ qs := fun {H6 u} kk nu => by
        refine ⟨fun e => ?_, fun e => ?_, fun hm => ?_⟩
        · rw [e, kk _ _ nbr hb5] at nu; cases nu
        · rw [e, kk _ _ nra ha5] at nu; cases nu
        · cases e : H5 u with
          | none => exact q5 u hm e
          | some o => rw [kk _ _ (nqr u hm) e] at nu; cases nu
      -- down
      refine ⟨Nat.zero_le _, fun c nc => ⟨_, rfl, _, _, _, _, rfl, (Same.upd nc) _ _ hr5, T.o_Loom.c, T.na_Loom_down, (by show 2 < 1000; decide), ?_⟩⟩
      obtain ⟨b6, hr6, hc6, ncr⟩ := put_new (n := "down") (xs := []) hr5 nc
      generalize upd (upd H5 c (.lst [])) r (.ins t.e_Loom dx (putF "down" (.ref c) (putF "ties" (.ref b) (putF "threading" (.ref a) [])))) = H6 at b6 hr6 hc6 ⊢
      -- thrown
      refine ⟨Nat.zero_le _, fun e ne => ⟨_, rfl, _, _, _, _, rfl, (Same.upd ne) _ _ hr6, T.o_Loom.c, T.na_Loom_thrown, (by show 3 < 1000; decide), ?_⟩⟩
      obtain ⟨b7, hr7, he7, ner⟩ := put_new (n := "thrown") (xs := []) hr6 ne
      generalize upd (upd H6 e (.lst [])) r (.ins t.e_Loom dx (putF "thrown" (.ref e) (putF "down" (.ref c) (putF "ties" (.ref b) (putF "threading" (.ref a) []))))) = H7 at b7 hr7 he7 ⊢
      -- deeds
      refine ⟨Nat.zero_le _, fun g ng => ⟨_, rfl, _, _, _, _, rfl, (Same.upd ng) _ _ hr7, T.o_Loom.c, T.na_Loom_deeds, (by show 4 < 1000; decide), ?_⟩⟩
      obtain ⟨b8, hr8, hg8, ngr⟩ := put_new (n := "deeds") (xs := []) hr7 ng
      have hr8' : (upd (upd H7 g (.lst [])) r (.ins t.e_Loom dx (putF "deeds" (.ref g) (putF "thrown" (.ref e) (putF "down" (.ref c) (putF "ties" (.ref b) (putF "threading" (.ref a) []))))))) r = some (.ins t.e_Loom dx (lf a b c e g)) := hr8
      generalize upd (upd H7 g (.lst [])) r (.ins t.e_Loom dx (putF "deeds" (.ref g) (putF "thrown" (.ref e) (putF "down" (.ref c) (putF "ties" (.ref b) (putF "threading" (.ref a) [])))))) = H8 at b8 hr8 hr8' hg8 ⊢
      have b67 : ∀ u o, u ≠ r → H5 u = some o → H7 u = some o := fun u o nu e => b7 _ _ nu (b6 _ _ nu e)
      have b58 : ∀ u o, u ≠ r → H5 u = some o → H8 u = some o := fun u o nu e => b8 _ _ nu (b67 _ _ nu e)
      obtain ⟨c1, c2, c3⟩ := pr (H6 := H5) (fun _ _ _ e => e) nc
      obtain ⟨e1, e2, e3⟩ := pr b6 ne
      obtain ⟨g1', g2, g3⟩ := pr b67 ng
      have ec : e ≠ c := fun z => by rw [z, hc6] at ne; cases ne
      have gc : g ≠ c := fun z => by rw [z, b7 _ _ ncr hc6] at ng; cases ng
      have ge : g ≠ e := fun z => by rw [z, he7] at ng; cases ng
      have ba : b ≠ a := fun z => by rw [z, s3 _ _ ha2] at nb; cases nb
      have bq : b ∉ qs := fun h => (nq b h).2 nb
      have aq : a ∉ qs := fun h => by have := (nq a h).1; rw [ha2] at this; cases this
      have fr6 : ∀ q, H6 q = none → H5 q = none := fun q h => by
        have nqr' : q ≠ r := fun e => by rw [e, hr6] at h; cases h
        cases e : H5 q with
        | none => rfl
        | some o => rw [b6 q o nqr' e] at h; cases h
      have fr7 : ∀ q, H7 q = none → H5 q = none := fun q h => by
        have nqr' : q ≠ r := fun e => by rw [e, hr7] at h; cases h
        cases e : H5 q with
        | none => rfl
        | some o => rw [b67 q o nqr' e] at h; cases h
      refine k a b c e g qs H8 (fun u o nu e => b58 _ _ nu (b5 _ _ nu (s3 _ _ (b2 _ _ nu e)))) (fun q hm => ?_) ?_ ⟨hr8', b58 _ _ nra ha5, ⟨b58 _ _ nbr hb5, hq, fun j q ks h1 h2 => b58 _ _ (nqr q (List.mem_of_getElem? h1)) (hq5 j q ks h1 h2)⟩, b8 _ _ ncr (b7 _ _ ncr hc6), b8 _ _ ner he7, hg8⟩
      · simp only [List.mem_cons] at hm
        rcases hm with rfl | rfl | rfl | rfl | rfl | hm
        · exact f5 _ (fr7 _ ng)
        · exact f5 _ (fr6 _ ne)
        · exact f5 _ nc
        · exact fre _ (s3.free nb)
        · exact na
        · exact fre _ (nq q hm).1
      · simp only [List.nodup_cons, List.mem_cons, not_or]
        exact ⟨⟨ge, gc, g1', g2, g3⟩, ⟨ec, e1, e2, e3⟩, ⟨c1, c2, c3⟩, ⟨ba, bq⟩, aq, nd⟩
end
end Mine

set_option Elab.async false
set_option linter.all false
set_option maxRecDepth 100000
set_option maxHeartbeats 4000000
namespace Mine
open PySem L2
section
variable {P : Program} {w : World} {K : PySem.W.Frag} {mg : Str → Option Value} {base : Heap} {t : Adr}
def sp_lift (t : Adr) : Sp := fun vs H Q _ => ∃ (m dx a b c e g : Addr) (qs : List Addr) (th : List Int) (tss : List (List Int)) (tn ds : List V), vs = [.ref m] ∧ IsM t H m dx a b c e g qs th tss [] tn ds ∧
  ∀ (l : Addr) (H' : Hp), Same H H' → H l = none → H' l = some (.lst (vI [])) → Q (.ref l) H'
theorem ok_Loom_lifted_shafts (T : Txt K mg t) : FnOk P w K mg base CX0 1 t.f_Loom_lifted_shafts t.d_Loom_lifted_shafts ["self"] (sp_lift t) := by
  refine T.m_Loom_lifted_shafts.F.ok sc_Loom_lifted_shafts (fun vs H Q E h => ?_) (fun cdv A outer s H vs Q E hr h => ?_)
  · obtain ⟨m, dx, a, b, c, e, g, qs, th, tss, tn, ds, rfl, _⟩ := h
    rfl
  · obtain ⟨m, dx, a, b, c, e, g, qs, th, tss, tn, ds, rfl, D, k⟩ := h
    refine ⟨_, (pss_cons (ps_set (i := 1) sc_Loom_lifted_shafts.nd rfl (Or.inl rfl) (pe_lst pa_nil))
      (pss_cons (ps_for PassesOwn.never rfl (pi_listK (K := K) (pe_fldK (K := K) (pv 0) rfl)) (pg_name (i := 2) sc_Loom_lifted_shafts.nd rfl (Or.inl rfl))
        (pss_one (ps_expr (pe_bmK (K := K) PySem.F.plainAttrs_list PySem.F.slot_list_extend PySem.F.type_list_extend mt_extend (pv 1) (pa_cons (pe_ix (ix_listK (K := K)) (pe_fldK (K := K) (pv 0) rfl) (pv 2) (fun _ _ => rfl)) pa_nil)))))
      (pss_one (ps_ret (pe_sortSetE (K := K) rfl T.b_sorted rfl T.b_set (pv 1)))))), ?_⟩
    refine ⟨Nat.zero_le _, fun q nq => ?_⟩
    have s1 : Same H (upd H q (.lst [])) := .upd nq
    have h1 : (upd H q (.lst [])) q = some (.lst (vI [])) := upd_same
    generalize upd H q (.lst []) = H1 at s1 h1 ⊢
    have D1 := D.same s1
    refine ⟨_, rfl, _, _, _, _, _, rfl, D1.o, T.o_Loom.c, T.na_Loom_down, lf_dn a b c e g, _, rfl, ⟨_, SqL.of D1.hc⟩, for_list (K := K) (a := c) (xs := vI []) (fun i σ H2 => σ = [some (.ref m), some (.ref q), none] ∧ H2 = H1) ⟨rfl, rfl⟩ (fun i σ H2 _ ⟨_, e⟩ => e ▸ SqL.of D1.hc) ?_ ?_⟩
    · intro i x σ H2 hx
      cases hx
    · rintro σ H2 ⟨rfl, rfl⟩
      exact ⟨_, rfl, _, rfl, SqL.of h1, fun l nl => k l _ (s1.new nl) (s1.free nl) upd_same⟩
def sp_shedM (t : Adr) : Sp := fun vs H Q _ => ∃ (m dx a b c e g : Addr) (qs : List Addr) (th : List Int) (tss : List (List Int)) (tn ds : List V), vs = [.ref m] ∧ IsM t H m dx a b c e g qs th tss [] tn ds ∧ th.length ≤ 40 ∧
  ∀ H', Same H H' → Q (.str (tx (shd th []))) H'
theorem ok_Loom_shed (T : Txt K mg t) : FnOk P w K mg base CX0 2 t.f_Loom_shed t.d_Loom_shed ["self"] (sp_shedM t) := by
  have G_Loom_lifted_shafts : FnOk P w K mg base CX0 1 t.f_Loom_lifted_shafts t.d_Loom_lifted_shafts _ _ := ok_Loom_lifted_shafts T
  have G_shed_over : FnOk P w K mg base CX0 1 t.f_shed_over t.d_shed_over _ _ := ok_shed_over T
  refine T.m_Loom_shed.F.ok sc_Loom_shed (fun vs H Q E h => ?_) (fun cdv A outer s H vs Q E hr h => ?_)
  · obtain ⟨m, dx, a, b, c, e, g, qs, th, tss, tn, ds, rfl, _⟩ := h
    rfl
  · obtain ⟨m, dx, a, b, c, e, g, qs, th, tss, tn, ds, rfl, D, t40, k⟩ := h
    refine ⟨_, (pss_one (ps_ret (pe_call (G_shed_over.mono (by decide)) hr rfl T.shed_over.m T.shed_over.F.kp T.shed_over.b .nil pass0 (pa_cons (pe_fldK (K := K) (pv 0) rfl) (pa_cons (pe_meth0 (pv 0) T.o_Loom.c T.m_Loom_lifted_shafts.m (G_Loom_lifted_shafts.mono (by decide)) hr T.m_Loom_lifted_shafts.b .nil pass0) pa_nil))))), ?_⟩
    refine ⟨_, rfl, _, _, _, _, _, rfl, D.o, T.o_Loom.c, T.na_Loom_threading, lf_th a b c e g, ?_⟩
    refine ⟨_, rfl, _, _, _, rfl, D.o, rfl, m, dx, a, b, c, e, g, qs, th, tss, tn, ds, rfl, D, fun l H1 s1 nl hl => ?_⟩
    exact ⟨a, l, th, [], rfl, s1 _ _ D.ha, hl, t40, fun H2 s2 => k _ (s1.trans s2)⟩
end
end Mine

set_option Elab.async false
set_option linter.all false
set_option maxRecDepth 100000
set_option maxHeartbeats 4000000
namespace Mine
open PySem L2
section
variable {P : Program} {w : World} {K : PySem.W.Frag} {mg : Str → Option Value} {base : Heap} {t : Adr}
def sp_cell (K : PySem.W.Frag) : Sp := fun vs H Q _ => ∃ (a : Addr) (ns : List Int) (i : Int), vs = [.ref a, .int i] ∧ SqL K H a (vI ns) ∧ 0 ≤ i ∧ ∀ c : Int, 0 ≤ c → c < 10 ^ 61 → Q (.int c) H
theorem ok_law_cell_at (T : Txt K mg t) : FnOk P w K mg base CX0 1 t.f_law_cell_at t.d_law_cell_at ["script", "k"] (sp_cell K) := by
  refine T.law_cell_at.F.ok sc_law_cell_at (fun vs H Q E h => ?_) (fun cdv A outer s H vs Q E hr h => ?_)
  · obtain ⟨a, ns, i, rfl, _⟩ := h
    rfl
  · obtain ⟨a, ns, i, rfl, hS, hi, k⟩ := h
    refine ⟨_, (pss_cons (ps_if (pt_cmpR op_lt (pv 1) (pe_callB (call_len_seqK (K := K)) rfl T.b_len bt_len (pa_cons (pv 0) pa_nil)) (nomark _))
        (pss_one (ps_ret (pe_op op_mod (pe_ix (ix_listK (K := K)) (pv 0) (pv 1) (fun _ _ => rfl)) (pe_op op_pow pe_int pe_int))))
        pss_nil)
      (pss_one (ps_ret pe_int))), ?_⟩
    refine ⟨_, rfl, _, rfl, _, _, rfl, .inl hS, _, _, rfl, rfl, _, rfl, ?_⟩
    refine ite2D (fun h1 => ?_) (fun h1 => ?_)
    · rw [vI_len] at h1
      have hlt : i.toNat < ns.length := by omega
      refine ⟨_, rfl, _, rfl, _, _, _, _, rfl, rfl, hS, atI_of hi (vI_get (List.getElem?_eq_getElem hlt)), ?_⟩
      refine ⟨_, _, rfl, rfl, ⟨by decide, by decide, by decide⟩, ?_⟩
      refine ⟨_, _, rfl, rfl, (by show (0 : Int) < 10 ^ 61; decide), ?_⟩
      exact k _ (Int.emod_nonneg _ (by decide)) (Int.emod_lt_of_pos _ (by decide))
    · exact k 0 (by decide) (by decide)

def sp_sums (K : PySem.W.Frag) : Sp := fun vs H Q _ => ∃ (a : Addr) (ns : List Int) (b m : Nat), vs = [.ref a, .int (b : Int), .int (m : Int)] ∧ SqL K H a (vI ns) ∧ ns.length ≤ 63 ∧ b ≤ 63 ∧ 1 ≤ m ∧ m ≤ 1000 ∧
  ∀ (l : Addr) (ks : List Int) (H' : Hp), Same H H' → H l = none → H' l = some (.lst (vI ks)) → ks.length = m → Q (.ref l) H'
theorem ok_law_sums (T : Txt K mg t) : FnOk P w K mg base CX0 1 t.f_law_sums t.d_law_sums ["script", "behind", "many"] (sp_sums K) := by
  refine T.law_sums.F.ok sc_law_sums (fun vs H Q E h => ?_) (fun cdv A outer s H vs Q E hr h => ?_)
  · obtain ⟨a, ns, b, m, rfl, _⟩ := h
    rfl
  · obtain ⟨a, ns, b, m, rfl, hS, hl, hb, hm1, hm2, k⟩ := h
    have hsz : sizeLine = 16777216 := sizeLine_eq
    refine ⟨_, (pss_cons (ps_setC (i := 3) (CompOk.mk (caps := []) (Nc := ["k"]) rfl (by decide +kernel) (by decide +kernel) (comp_fr (sc0 := defScope s_law_sums) rfl (by decide +kernel)) rfl rfl rfl (by decide +kernel) (fun _ _ h => by simp at h)) rfl sc_law_sums.nd rfl rfl (pi_range1 rfl T.b_range (pa_cons (pv 2) pa_nil)) (fun _ _ _ _ _ => .nil) (fun _ _ _ _ _ => pe_int) rfl)
      (pss_cons (ps_for PassesOwn.never rfl (pi_range2 rfl T.b_range (pa_cons (pv 1) (pa_cons (pe_callB (call_len_seqK (K := K)) rfl T.b_len bt_len (pa_cons (pv 0) pa_nil)) pa_nil))) (pg_name (i := 4) sc_law_sums.nd rfl (Or.inl rfl))
        (pss_cons (ps_set (i := 5) sc_law_sums.nd rfl (Or.inl rfl) (pe_op op_mod (pe_op op_sub (pv 4) (pv 1)) (pv 2)))
        (pss_one (ps_asg (pe_op op_add (pe_ix (ix_listK (K := K)) (pv 3) (pv 5) (fun _ _ => rfl)) (pe_op op_mod (pe_ix (ix_listK (K := K)) (pv 0) (pv 4) (fun _ _ => rfl)) (pe_op op_pow pe_int pe_int))) (pg_sub (pv 3) (pv 5) set_list)))))
      (pss_one (ps_ret (pv 3))))), ?_⟩
    refine ⟨_, rfl, _, rfl, (by omega), (by omega), ?_⟩
    rw [Int.toNat_natCast]
    refine comp_range (lo := 0) (n := m) (fun i ys H2 => H2 = H ∧ ys = vI (List.replicate i 0)) ⟨rfl, rfl⟩ ?_ ?_ ?_ ?_
    · rintro i ys H2 hi ⟨rfl, rfl⟩
      rw [vI_len, List.length_replicate]
      omega
    · omega
    · rintro i ys H2 hi ⟨rfl, rfl⟩
      refine CTurn.no ?_
      exact (CN.of hi ⟨rfl, by rw [vI_app, List.replicate_succ']⟩ : CN m (fun i ys H3 => H3 = H2 ∧ ys = vI (List.replicate i 0)) i (vI (List.replicate i 0) ++ [.int 0]) H2)
    · rintro ys H2 q ⟨rfl, rfl⟩ hq
      have s1 : Same H2 (upd H2 q (.lst (vI (List.replicate m 0)))) := .upd hq
      refine ⟨_, rfl, _, rfl, _, _, rfl, .inl (s1.seq hS), _, _, rfl, ⟨by omega, by omega, by omega, by rw [vI_len]; omega⟩, ?_⟩
      rw [vI_len]
      refine for_range (lo := (b : Int)) (n := ((ns.length : Int) - (b : Int)).toNat) (fun i σ H3 => ∃ (ks : List Int) (v1 v2 : Option V), σ = [some (.ref a), some (.int (b : Int)), some (.int (m : Int)), some (.ref q), v1, v2] ∧ Same H2 H3 ∧ H3 q = some (.lst (vI ks)) ∧ ks.length = m)
        ⟨_, none, none, rfl, s1, upd_same, by rw [List.length_replicate]⟩ ?_ ?_
      · rintro i σ H3 hi ⟨ks, v1, v2, rfl, s3, hq3, hkl⟩
        have hix : ((b : Int) + (i : Int) - (b : Int)) % (m : Int) = ((i % m : Nat) : Int) := by rw [show (b : Int) + (i : Int) - (b : Int) = (i : Int) by omega]; omega
        have hlt : i % m < ks.length := by rw [hkl]; exact Nat.mod_lt _ (by omega)
        have e1 : (vI ks)[(((b : Int) + (i : Int) - (b : Int)) % (m : Int)).toNat]? = some (.int ks[i % m]) := by
          rw [hix, Int.toNat_natCast]
          exact vI_get (List.getElem?_eq_getElem hlt)
        have hbi : b + i < ns.length := by omega
        have e2 : (vI ns)[((b : Int) + (i : Int)).toNat]? = some (.int ns[b + i]) := by
          rw [show ((b : Int) + (i : Int)).toNat = b + i by omega]
          exact vI_get (List.getElem?_eq_getElem hbi)
        have n1 : 0 ≤ ((b : Int) + (i : Int) - (b : Int)) % (m : Int) := by rw [hix]; omega
        refine ⟨_, rfl, _, rfl, _, _, rfl, rfl, _, rfl, _, _, rfl, rfl, (by show (0 : Int) < m; omega), ?_⟩
        refine ⟨_, rfl, _, rfl, _, _, _, _, rfl, rfl, SqL.of hq3, atI_of n1 e1, ?_⟩
        refine ⟨_, rfl, _, rfl, _, _, _, _, rfl, rfl, s3.seq hS, atI_of (by omega) e2, ?_⟩
        refine ⟨_, _, rfl, rfl, ⟨by decide, by decide, by decide⟩, ?_⟩
        refine ⟨_, _, rfl, rfl, (by show (0 : Int) < 10 ^ 61; decide), ?_⟩
        refine ⟨_, _, rfl, rfl, ?_⟩
        refine ⟨_, rfl, _, rfl, _, _, _, _, rfl, rfl, hq3, ixN_of n1 (by rw [vI_len, hkl, hix]; omega), ?_⟩
        rw [vI_set]
        exact ⟨_, _, _, rfl, s3.over hq, upd_same, by rw [List.length_set]; exact hkl⟩
      · rintro σ H3 ⟨ks, v1, v2, rfl, s3, hq3, hkl⟩
        exact ⟨_, rfl, k q ks H3 s3 hq hq3 hkl⟩

def sp_size : Sp := fun vs H Q _ => ∃ (c z : Int), vs = [.int c, .int z] ∧ 0 < z ∧ z ≤ 40 ∧ ∀ r : Nat, 1 ≤ r → r ≤ 40 → Q (.int (r : Int)) H
theorem ok_law_size (T : Txt K mg t) : FnOk P w K mg base CX0 1 t.f_law_size t.d_law_size ["cell", "small"] sp_size := by
  refine T.law_size.F.ok sc_law_size (fun vs H Q E h => ?_) (fun cdv A outer s H vs Q E hr h => ?_)
  · obtain ⟨c, z, rfl, _⟩ := h
    rfl
  · obtain ⟨c, z, rfl, h1, h2, k⟩ := h
    have kk : ∀ x : Int, 1 ≤ x → x ≤ 40 → Q (.int x) H := fun x hx1 hx2 => by
      have := k x.toNat (by omega) (by omega)
      rwa [Int.toNat_of_nonneg (by omega)] at this
    refine ⟨_, (pss_cons (ps_if (pt_cmpR op_eq (pe_op op_mod (pe_op op_fdiv (pv 0) (pv 1)) pe_int) pe_int (nomark _))
        (pss_one (ps_ret (pe_op op_add pe_int (pe_op op_mod (pe_op op_fdiv (pv 0) (pe_op op_mul pe_int (pv 1))) pe_int))))
        pss_nil)
      (pss_one (ps_ret (pe_op op_add pe_int (pe_op op_mod (pv 0) (pv 1)))))), ?_⟩
    refine ⟨_, rfl, _, rfl, _, _, rfl, rfl, ⟨h1, by omega⟩, _, _, rfl, rfl, (by show (0 : Int) < 4; decide), rfl, _, rfl, ?_⟩
    refine ite2D (fun _ => ?_) (fun _ => ?_)
    · refine ⟨_, rfl, _, rfl, _, _, rfl, rfl, .inl ⟨by decide, by decide⟩, _, _, rfl, rfl, ⟨by omega, by omega⟩, _, _, rfl, rfl, (by show (0 : Int) < 40; decide), _, _, rfl, rfl, ?_⟩
      have := Int.emod_nonneg (c / (4 * z)) (show (40 : Int) ≠ 0 by decide)
      have := Int.emod_lt_of_pos (c / (4 * z)) (show (0 : Int) < 40 by decide)
      exact kk _ (by omega) (by omega)
    · refine ⟨_, rfl, _, rfl, _, _, rfl, rfl, h1, _, _, rfl, rfl, ?_⟩
      have := Int.emod_nonneg c (show z ≠ 0 by omega)
      have := Int.emod_lt_of_pos c h1
      exact kk _ (by omega) (by omega)

def sp_thr (K : PySem.W.Frag) : Sp := fun vs H Q _ => ∃ (a : Addr) (ns : List Int) (m h : Nat), vs = [.ref a, .int (m : Int), .int (h : Int)] ∧ SqL K H a (vI ns) ∧ ns.length ≤ 63 ∧ 1 ≤ m ∧ m ≤ 40 ∧ 1 ≤ h ∧ h ≤ 40 ∧
  ∀ (l : Addr) (th : List Int) (H' : Hp), Same H H' → H l = none → H' l = some (.lst (vI th)) → th.length = m → (∀ v ∈ th, 0 ≤ v ∧ v < (h : Int)) → Q (.ref l) H'
theorem ok_law_threading (T : Txt K mg t) : FnOk P w K mg base CX0 2 t.f_law_threading t.d_law_threading ["script", "ends", "high"] (sp_thr K) := by
  have G_law_sums : FnOk P w K mg base CX0 1 t.f_law_sums t.d_law_sums _ _ := ok_law_sums T
  have G_law_cell_at : FnOk P w K mg base CX0 1 t.f_law_cell_at t.d_law_cell_at _ _ := ok_law_cell_at T
  refine T.law_threading.F.ok sc_law_threading (fun vs H Q E h => ?_) (fun cdv A outer s H vs Q E hr h => ?_)
  · obtain ⟨a, ns, m, h, rfl, _⟩ := h
    rfl
  · obtain ⟨a, ns, m, h, rfl, hS, hl, m1, m40, h1, h40, k⟩ := h
    have hsz : sizeLine = 16777216 := sizeLine_eq
    refine ⟨_, (pss_cons (ps_set (i := 3) sc_law_threading.nd rfl (Or.inr rfl) (pe_op op_fdiv (pe_call (G_law_cell_at.mono (by decide)) hr rfl T.law_cell_at.m T.law_cell_at.F.kp T.law_cell_at.b .nil pass0 (pa_cons (pv 0) (pa_cons pe_int pa_nil))) pe_int))
      (pss_cons (ps_set (i := 4) sc_law_threading.nd rfl (Or.inr rfl) (pe_call (G_law_sums.mono (by decide)) hr rfl T.law_sums.m T.law_sums.F.kp T.law_sums.b .nil pass0 (pa_cons (pv 0) (pa_cons pe_int (pa_cons (pv 1) pa_nil)))))
      (pss_one (ps_ret (pe_comp (CompOk.mk (caps := [2, 3, 4]) (Nc := ["k", "high", "step", "sums"]) rfl (by decide +kernel) (by decide +kernel) (comp_fr (sc0 := defScope s_law_threading) rfl (by decide +kernel)) rfl rfl rfl (by decide +kernel) (fun k j h => match k, h with | 0, h => by obtain rfl := Option.some.inj h; exact ⟨_, rfl, rfl, rfl⟩ | 1, h => by obtain rfl := Option.some.inj h; exact ⟨_, rfl, rfl, rfl⟩ | 2, h => by obtain rfl := Option.some.inj h; exact ⟨_, rfl, rfl, rfl⟩ | _ + 3, h => by simp at h)) rfl (pi_range1 rfl T.b_range (pa_cons (pv 1) pa_nil)) (fun _ _ _ _ _ => .nil) (fun _ _ _ _ _ => (pe_op op_mod (pe_op op_add (pe_ix (ix_listK (K := K)) (pv 3) (pv 0) (fun _ _ => rfl)) (pe_op op_mulW (pv 0) (pv 2))) (pv 1)))))))), ?_⟩
    refine ⟨_, rfl, a, ns, 2, rfl, hS, by decide, fun c c0 c1 => ⟨_, _, rfl, rfl, ⟨by decide, by decide⟩, ?_⟩⟩
    have sb : (c / 3).natAbs < 10 ^ 61 := by omega
    dsimp only
    generalize c / 3 = st at sb ⊢
    refine ⟨_, rfl, _, rfl, a, ns, 3, m, rfl, hS, hl, by decide, m1, by omega, fun l1 ks H1 s1 nl1 hl1 hkl => ?_⟩
    refine ⟨_, rfl, _, rfl, (by omega), (by omega), ?_⟩
    rw [Int.toNat_natCast]
    refine comp_range (lo := 0) (n := m) (fun i ys H2 => H2 = H1 ∧ ∃ zs : List Int, ys = vI zs ∧ zs.length = i ∧ ∀ v ∈ zs, 0 ≤ v ∧ v < (h : Int)) ⟨rfl, [], rfl, rfl, fun v hv => by cases hv⟩ ?_ ?_ ?_ ?_
    · rintro i ys H2 hi ⟨rfl, zs, rfl, hz, _⟩
      rw [vI_len]
      omega
    · omega
    · rintro i ys H2 hi ⟨rfl, zs, rfl, hz, hall⟩
      have hik : i < ks.length := by omega
      have e1 : atI (vI ks) (0 + (i : Int)) = some (.int ks[i]) := atI_of (by omega) (by rw [z0]; exact vI_get (List.getElem?_eq_getElem hik))
      refine CTurn.no ?_
      refine ⟨_, rfl, _, rfl, _, _, _, _, rfl, rfl, SqL.of hl1, e1, _, rfl, _, rfl, _, _, rfl, rfl, ⟨Nat.lt_of_lt_of_le (show (0 + (i : Int)).natAbs < 2 ^ 6 by omega) (by decide), Nat.lt_of_lt_of_le sb (by decide)⟩, _, _, rfl, rfl, _, rfl, _, _, rfl, rfl, (by show (0 : Int) < (h : Int); omega), ?_⟩
      refine CN.of hi ⟨rfl, zs ++ [_], vI_app .., by rw [List.length_append, hz]; rfl, fun v hv => ?_⟩
      rcases List.mem_append.mp hv with hv | hv
      · exact hall v hv
      · rw [List.mem_singleton.mp hv]
        exact ⟨Int.emod_nonneg _ (by omega), Int.emod_lt_of_pos _ (by omega)⟩
    · rintro ys H2 p ⟨rfl, zs, rfl, hz, hall⟩ np
      exact k p zs _ (s1.new np) (s1.free np) upd_same hz hall
theorem below {ks : List Int} {i : Nat} (h : ∀ k ∈ ks, k < (i : Int)) : ∀ k ∈ ks ++ [0 + (i : Int)], k < ((i + 1 : Nat) : Int) := fun k hk => by
  rcases List.mem_append.mp hk with h1 | h1
  · have := h k h1; omega
  · rw [List.mem_singleton.mp h1]; omega
def sp_tieN : Sp := fun vs H Q _ => ∃ (n : Int) (h : Nat), vs = [.int n, .int (h : Int)] ∧ h ≤ 40 ∧ ∀ (l : Addr) (ks : List Int) (H' : Hp), Same H H' → H l = none → H' l = some (.lst (vI ks)) → Rs ks → ks.length ≤ 40 → (∀ k ∈ ks, k < (h : Int)) → Q (.ref l) H'
theorem ok_law_tie (T : Txt K mg t) : FnOk P w K mg base CX0 1 t.f_law_tie t.d_law_tie ["number", "high"] sp_tieN := by
  refine T.law_tie.F.ok sc_law_tie (fun vs H Q E h => ?_) (fun cdv A outer s H vs Q E hr h => ?_)
  · obtain ⟨n, h, rfl, _⟩ := h
    rfl
  · obtain ⟨n, h, rfl, h40, k⟩ := h
    refine ⟨_, (pss_cons (ps_set (i := 2) sc_law_tie.nd rfl (Or.inl rfl) (pe_lst pa_nil))
      (pss_cons (ps_for PassesOwn.never rfl (pi_range1 rfl T.b_range (pa_cons (pv 1) pa_nil)) (pg_name (i := 3) sc_law_tie.nd rfl (Or.inl rfl))
        (pss_cons (ps_if (pt_cmpR op_eq (pe_op op_mod (pv 0) pe_int) pe_int (nomark _))
          (pss_one (ps_expr (pe_bmK (K := K) PySem.F.plainAttrs_list PySem.F.slot_list_append PySem.F.type_list_append mt_append (pv 2) (pa_cons (pv 3) pa_nil))))
          pss_nil)
        (pss_one (ps_set (i := 0) sc_law_tie.nd rfl (Or.inl rfl) (pe_op op_fdiv (pv 0) pe_int)))))
      (pss_one (ps_ret (pv 2))))), ?_⟩
    refine ⟨Nat.zero_le _, fun p hp => ?_⟩
    refine ⟨_, rfl, _, rfl, (by omega), (by have := sizeLine_eq; omega), ?_⟩
    rw [Int.toNat_natCast]
    refine for_range (lo := 0) (n := h) (fun i σ H2 => ∃ (z : Int) (ks : List Int) (v : Option V), σ = [some (.int z), some (.int (h : Int)), some (.ref p), v] ∧ Same H H2 ∧ H2 p = some (.lst (vI ks)) ∧ ks.length ≤ i ∧ Rs ks ∧ ∀ k ∈ ks, k < (i : Int))
      ⟨_, [], none, rfl, .upd hp, upd_same, Nat.le_refl _, rs_nil, fun k h => (by cases h)⟩ ?_ ?_
    · rintro i σ H2 hi ⟨z, ks, v, rfl, s2, hp2, hkl, R, lt⟩
      refine ⟨_, rfl, _, _, rfl, rfl, (by show (0 : Int) < 2; decide), rfl, _, rfl, ?_⟩
      refine ite2D (fun _ => ?_) (fun _ => ?_)
      · refine ⟨_, rfl, .inl ⟨rfl, _, SqL.of hp2⟩, _, rfl, _, _, _, rfl, rfl, hp2, (by rw [vI_len]; exact small1000 (by omega)), ?_⟩
        rw [vI_app]
        refine ⟨_, rfl, _, _, rfl, rfl, ⟨by decide, by decide⟩, ?_⟩
        exact ⟨_, _, _, rfl, s2.over hp, upd_same, by rw [List.length_append, List.length_singleton]; omega, rs_add R (fun k h => by have := lt k h; omega) (by omega) (by omega), below lt⟩
      · refine ⟨_, rfl, _, _, rfl, rfl, ⟨by decide, by decide⟩, ?_⟩
        exact ⟨_, _, _, rfl, s2, hp2, by omega, R, fun k h => by have := lt k h; omega⟩
    · rintro σ H2 ⟨z, ks, v, rfl, s2, hp2, hkl, R, lt⟩
      exact ⟨_, rfl, k p ks H2 s2 hp hp2 R (by omega) lt⟩
def sp_tiesN (K : PySem.W.Frag) : Sp := fun vs H Q _ => ∃ (a : Addr) (ns : List Int) (m h : Nat), vs = [.ref a, .int (m : Int), .int (h : Int)] ∧ SqL K H a (vI ns) ∧ ns.length ≤ 63 ∧ 1 ≤ m ∧ m ≤ 40 ∧ 1 ≤ h ∧ h ≤ 40 ∧
  ∀ (l : Addr) (rs : List Addr) (tss : List (List Int)) (H' : Hp), Same H H' → H l = none → (∀ r ∈ rs, H r = none) → NL H' l rs tss → tss.length = m → (∀ ks ∈ tss, Rs ks ∧ ks.length ≤ 40 ∧ ∀ k ∈ ks, k < (h : Int)) → Q (.ref l) H'
theorem ok_law_ties (T : Txt K mg t) : FnOk P w K mg base CX0 2 t.f_law_ties t.d_law_ties ["script", "treadles", "high"] (sp_tiesN K) := by
  have G_law_sums : FnOk P w K mg base CX0 1 t.f_law_sums t.d_law_sums _ _ := ok_law_sums T
  have G_law_cell_at : FnOk P w K mg base CX0 1 t.f_law_cell_at t.d_law_cell_at _ _ := ok_law_cell_at T
  have G_law_tie : FnOk P w K mg base CX0 1 t.f_law_tie t.d_law_tie _ _ := ok_law_tie T
  refine T.law_ties.F.ok sc_law_ties (fun vs H Q E h => ?_) (fun cdv A outer s H vs Q E hr h => ?_)
  · obtain ⟨a, ns, m, h, rfl, _⟩ := h
    rfl
  · obtain ⟨a, ns, m, h, rfl, hS, hl, m1, m40, h1, h40, k⟩ := h
    have hsz : sizeLine = 16777216 := sizeLine_eq
    refine ⟨_, (pss_cons (ps_set (i := 3) sc_law_ties.nd rfl (Or.inr rfl) (pe_call (G_law_sums.mono (by decide)) hr rfl T.law_sums.m T.law_sums.F.kp T.law_sums.b .nil pass0 (pa_cons (pv 0) (pa_cons pe_int (pa_cons (pv 1) pa_nil)))))
      (pss_cons (ps_set (i := 4) sc_law_ties.nd rfl (Or.inr rfl) (pe_op op_mod (pe_op op_fdiv (pe_call (G_law_cell_at.mono (by decide)) hr rfl T.law_cell_at.m T.law_cell_at.F.kp T.law_cell_at.b .nil pass0 (pa_cons (pv 0) (pa_cons pe_int pa_nil))) pe_int) pe_int))
      (pss_one (ps_ret (pe_comp (CompOk.mk (caps := [2, 3, 4]) (Nc := ["k", "high", "sums", "start"]) rfl (by decide +kernel) (by decide +kernel) (comp_fr (sc0 := defScope s_law_ties) rfl (by decide +kernel)) rfl rfl rfl (by decide +kernel) (fun k j h => match k, h with | 0, h => by obtain rfl := Option.some.inj h; exact ⟨_, rfl, rfl, rfl⟩ | 1, h => by obtain rfl := Option.some.inj h; exact ⟨_, rfl, rfl, rfl⟩ | 2, h => by obtain rfl := Option.some.inj h; exact ⟨_, rfl, rfl, rfl⟩ | _ + 3, h => by simp at h)) rfl (pi_range1 rfl T.b_range (pa_cons (pv 1) pa_nil)) (fun _ _ _ _ _ => .nil) (fun _ _ _ _ _ => (pe_call (G_law_tie.mono (by decide)) hr rfl T.law_tie.m T.law_tie.F.kp T.law_tie.b .nil pass0 (pa_cons (pe_op op_add (pe_op op_fdiv (pe_ix (ix_listK (K := K)) (pv 2) (pv 0) (fun _ _ => rfl)) pe_int) (pe_op op_mod (pe_op op_mul (pv 3) (pe_op op_add (pe_op op_mul (pv 0) (pv 0)) pe_int)) pe_int)) (pa_cons (pv 1) pa_nil))))))))), ?_⟩
    refine ⟨_, rfl, _, rfl, a, ns, 3, m, rfl, hS, hl, by decide, m1, by omega, fun l1 ks H1 s1 nl1 hl1 hkl => ?_⟩
    refine ⟨_, rfl, a, ns, 1, rfl, s1.seq hS, by decide, fun c c0 c1 => ⟨_, _, rfl, rfl, ⟨by decide, by decide⟩, _, _, rfl, rfl, (by show (0 : Int) < 2147483647; decide), ?_⟩⟩
    have st0 := Int.emod_nonneg (c / 160) (show (2147483647 : Int) ≠ 0 by decide)
    have st1 := Int.emod_lt_of_pos (c / 160) (show (0 : Int) < 2147483647 by decide)
    dsimp only
    generalize c / 160 % 2147483647 = st at st0 st1 ⊢
    refine ⟨_, rfl, _, rfl, (by omega), (by omega), ?_⟩
    rw [Int.toNat_natCast]
    refine comp_range (lo := 0) (n := m) (fun i ys H2 => Same H1 H2 ∧ ∃ (rs : List Addr) (tss : List (List Int)), ys = rs.map V.ref ∧ rs.length = i ∧ tss.length = i ∧ (∀ r ∈ rs, H1 r = none) ∧ (∀ (j : Nat) (r : Addr) (k : List Int), rs[j]? = some r → tss[j]? = some k → H2 r = some (.lst (vI k))) ∧ ∀ ks ∈ tss, Rs ks ∧ ks.length ≤ 40 ∧ ∀ k ∈ ks, k < (h : Int))
      ⟨.refl _, [], [], rfl, rfl, rfl, fun r h => (by cases h), fun j r k h => (by simp at h), fun ks h => (by cases h)⟩ ?_ ?_ ?_ ?_
    · rintro i ys H2 hi ⟨s2, rs, tss, rfl, hr1, _⟩
      rw [List.length_map]
      omega
    · omega
    · rintro i ys H2 hi ⟨s2, rs, tss, rfl, hr1, ht1, nr, hrow, hall⟩
      have hik : i < ks.length := by omega
      have e1 : atI (vI ks) (0 + (i : Int)) = some (.int ks[i]) := atI_of (by omega) (by rw [z0]; exact vI_get (List.getElem?_eq_getElem hik))
      refine CTurn.no ?_
      refine ⟨_, rfl, _, rfl, _, _, _, _, rfl, rfl, SqL.of (s2 _ _ hl1), e1, _, _, rfl, rfl, ⟨by decide, by decide⟩, ?_⟩
      refine ⟨_, rfl, _, rfl, _, rfl, _, _, rfl, rfl, .inl ⟨by omega, by omega⟩, _, _, rfl, rfl, ?_⟩
      have kb : (0 + (i : Int)) * (0 + (i : Int)) + 1 ≤ 1700 ∧ 0 ≤ (0 + (i : Int)) * (0 + (i : Int)) + 1 := by
        have : (i * i : Nat) ≤ 40 * 40 := Nat.mul_le_mul (by omega) (by omega)
        have e : (0 + (i : Int)) * (0 + (i : Int)) = ((i * i : Nat) : Int) := by rw [Int.natCast_mul]; simp
        rw [e]; omega
      refine ⟨_, _, rfl, rfl, .inl ⟨by omega, by omega⟩, _, _, rfl, rfl, (by show (0 : Int) < 1000003; decide), _, _, rfl, rfl, _, rfl, _, h, rfl, h40, fun l zs H3 s3 nl hl3 R zl zb => ?_⟩
      refine CN.of hi ⟨s2.trans s3, rs ++ [l], tss ++ [zs], by rw [List.map_append]; rfl, by rw [List.length_append, hr1]; rfl, by rw [List.length_append, ht1]; rfl, fun r hm => ?_, fun j r k g1 g2 => ?_, fun ks hm => ?_⟩
      · rcases List.mem_append.mp hm with hm | hm
        · exact nr r hm
        · rw [List.mem_singleton.mp hm]; exact s2.free nl
      · by_cases hj : j < rs.length
        · rw [List.getElem?_append_left hj] at g1
          rw [List.getElem?_append_left (by omega)] at g2
          exact s3 _ _ (hrow j r k g1 g2)
        · rw [List.getElem?_append_right (by omega)] at g1
          rw [List.getElem?_append_right (by omega)] at g2
          have := (List.getElem?_eq_some_iff.mp g1).1
          simp at this
          rw [show j - rs.length = 0 by omega] at g1
          rw [show j - tss.length = 0 by omega] at g2
          cases g1
          cases g2
          exact hl3
      · rcases List.mem_append.mp hm with hm | hm
        · exact hall ks hm
        · rw [List.mem_singleton.mp hm]; exact ⟨R, zl, zb⟩
    · rintro ys H2 p ⟨s2, rs, tss, rfl, hr1, ht1, nr, hrow, hall⟩ np
      refine k p rs tss _ ((s1.trans s2).new np) ((s1.trans s2).free np) (fun r hm => s1.free (nr r hm)) ⟨upd_same, by omega, fun j r ks g1 g2 => (Same.upd np) _ _ (hrow j r ks g1 g2)⟩ ht1 hall
end
end Mine

set_option Elab.async false
set_option linter.all false
set_option maxRecDepth 100000
set_option maxHeartbeats 4000000
namespace Mine
open PySem L2
section
variable {P : Program} {w : World} {K : PySem.W.Frag} {mg : Str → Option Value} {base : Heap} {t : Adr}
theorem cutI_to {ks : List Int} {r : Nat} (h : r ≤ ks.length) : cutV (vI ks) none (some (r : Int)) = vI (ks.take r) := by
  unfold cutV
  rw [HT.sIx_none, HT.sIx_nat, List.drop_zero, vI_len, Nat.min_eq_left h, Nat.sub_zero]
  unfold vI
  rw [List.map_take]
theorem cutI_from {ks : List Int} {r : Nat} (h : r ≤ ks.length) : cutV (vI ks) (some (r : Int)) none = vI (ks.drop r) := by
  unfold cutV
  have e1 : HT.sIx (vI ks).length 0 (some (r : Int)) = r := by rw [HT.sIx_nat, vI_len, Nat.min_eq_left h]
  have e2 : HT.sIx (vI ks).length (vI ks).length none = (vI ks).length := rfl
  rw [e1, e2, List.take_of_length_le (by rw [List.length_drop]; omega)]
  unfold vI
  rw [List.map_drop]
theorem vI_two (a b : List Int) : vI a ++ vI b = vI (a ++ b) := by unfold vI; rw [List.map_append]
theorem by_restI {G : Prop} {R : Int → Prop} (C : Int → Prop) (main : (∀ z, C z → R z) → G) (rest : ∀ z, C z → R z) : G := main rest
theorem nat_of_mod (z : Int) {m : Nat} (hm : 1 ≤ m) : ∃ x : Nat, z % (m : Int) = (x : Int) ∧ x < m := by
  have h1 := Int.emod_nonneg z (show (m : Int) ≠ 0 by omega)
  have h2 := Int.emod_lt_of_pos z (show 0 < (m : Int) by omega)
  exact ⟨(z % (m : Int)).toNat, by omega, by omega⟩
def sp_far : Sp := fun vs H Q _ => ∃ (c : Int), vs = [.int c] ∧ ∀ (z : Int) (H' : Hp), Same H H' → (z < 0 ∨ 40 ≤ z) → Q (.int z) H'
theorem ok_law_far (T : Txt K mg t) : FnOk P w K mg base CX0 1 t.f_law_far t.d_law_far ["cell"] sp_far := by
  refine T.law_far.F.ok sc_law_far (fun vs H Q E h => ?_) (fun cdv A outer s H vs Q E hr h => ?_)
  · obtain ⟨c, rfl, _⟩ := h
    rfl
  · obtain ⟨c, rfl, k⟩ := h
    refine ⟨_, (pss_cons (ps_set (i := 1) sc_law_far.nd rfl (Or.inl rfl) (pe_op op_mod (pe_op op_fdiv (pv 0) pe_int) pe_int))
      (pss_cons (ps_if (pt_cmpR op_eq (pv 1) pe_int (nomark _))
        (pss_one (ps_set (i := 1) sc_law_far.nd rfl (Or.inl rfl) (pe_op op_mod (pe_op op_mod (pe_op op_fdiv (pv 0) pe_int) (pe_op op_pow pe_int pe_int)) (pe_op op_pow pe_int pe_int))))
        pss_nil)
      (pss_one (ps_ret (pe_ix (ix_listK (K := K)) (pe_lst (pa_cons (pe_op op_sub (pe_un un_neg pe_int) (pv 1)) (pa_cons (pe_op op_add pe_int (pv 1)) pa_nil))) (pe_op op_mod (pv 0) pe_int) (fun _ _ => rfl)))))), ?_⟩
    refine ⟨_, rfl, _, _, rfl, rfl, ⟨by decide, by decide⟩, _, _, rfl, rfl, (by show (0 : Int) < 7; decide), ?_⟩
    have n0 := Int.emod_nonneg (c / 2) (show (7 : Int) ≠ 0 by decide)
    dsimp only
    generalize c / 2 % 7 = nr at n0 ⊢
    apply by_restI (fun z => 0 ≤ z)
    · intro rest
      refine ⟨_, rfl, rfl, _, rfl, ?_⟩
      refine ite2D ?tt ?ff
      case ff =>
        intro _
        obtain ⟨z, ez⟩ : ∃ z, z = nr := ⟨_, rfl⟩
        rw [← ez] at n0 ⊢
        exact rest z n0
      intro _
      refine ⟨_, rfl, _, _, rfl, rfl, ⟨by decide, by decide⟩, _, _, rfl, rfl, ⟨by decide, by decide, by decide⟩, _, _, rfl, rfl, (by show (0 : Int) < 10 ^ 60; decide), _, _, rfl, rfl, ⟨by decide, by decide, by decide⟩, _, _, rfl, rfl, (by show (0 : Int) < 10 ^ 59; decide), ?_⟩
      exact rest (c / 14 % 10 ^ Int.toNat 60 % 10 ^ Int.toNat 59) (Int.emod_nonneg _ (by show (10 : Int) ^ 59 ≠ 0; decide))
    intro z hz
    refine ⟨_, rfl, _, rfl, ?_⟩
    refine ⟨_, _, rfl, rfl, _, rfl, _, _, rfl, rfl, (by show 2 ≤ sizeLine; decide), fun l nl => ?_⟩
    have h0 := Int.emod_nonneg c (show (2 : Int) ≠ 0 by decide)
    have h2 := Int.emod_lt_of_pos c (show (0 : Int) < 2 by decide)
    have s1 := Same.upd (o := .lst [.int (-1 - z), .int (40 + z)]) nl
    have hl : (upd H l (.lst [.int (-1 - z), .int (40 + z)])) l = some (.lst (vI [-1 - z, 40 + z])) := upd_same
    rcases (show c % 2 = 0 ∨ c % 2 = 1 by omega) with e | e
    · refine ⟨_, rfl, _, _, rfl, rfl, (by show (0 : Int) < 2; decide), _, _, _, _, rfl, rfl, SqL.of hl, (by rw [e]; rfl), k _ _ s1 (.inl (by omega))⟩
    · refine ⟨_, rfl, _, _, rfl, rfl, (by show (0 : Int) < 2; decide), _, _, _, _, rfl, rfl, SqL.of hl, (by rw [e]; rfl), k _ _ s1 (.inr (by omega))⟩
theorem not_rs {zs : List Int} {i : Nat} {a b : Int} (h1 : zs[i]? = some a) (h2 : zs[i + 1]? = some b) (h : b ≤ a) : ¬ Rs zs := fun R => by have := R.1 i a b h1 h2; omega
def sp_tsp : Sp := fun vs H Q _ => ∃ (a : Addr) (ks : List Int) (c : Int), vs = [.ref a, .int c] ∧ H a = some (.lst (vI ks)) ∧ Rs ks ∧ ks.length ≤ 40 ∧ ∀ (l : Addr) (zs : List Int) (H' : Hp), Same H H' → H l = none → H' l = some (.lst (vI zs)) → ¬ Rs zs → zs.length ≤ 100 → Q (.ref l) H'
theorem ok_law_tie_spoiled (T : Txt K mg t) : FnOk P w K mg base CX0 1 t.f_law_tie_spoiled t.d_law_tie_spoiled ["tie", "cell"] sp_tsp := by
  refine T.law_tie_spoiled.F.ok sc_law_tie_spoiled (fun vs H Q E h => ?_) (fun cdv A outer s H vs Q E hr h => ?_)
  · obtain ⟨a, ks, c, rfl, _⟩ := h
    rfl
  · obtain ⟨a, ks, c, rfl, ha, R, hl, k⟩ := h
    have hsz : sizeLine = 16777216 := sizeLine_eq
    refine ⟨_, (pss_cons (ps_if (pt_cmpR op_eq (pe_callB (call_len_seqK (K := K)) rfl T.b_len bt_len (pa_cons (pv 0) pa_nil)) pe_int (nomark _))
        (pss_one (ps_ret (pe_lst (pa_cons pe_int (pa_cons pe_int pa_nil)))))
        pss_nil)
      (pss_cons (ps_set (i := 2) sc_law_tie_spoiled.nd rfl (Or.inl rfl) (pe_op op_mod (pv 1) (pe_callB (call_len_seqK (K := K)) rfl T.b_len bt_len (pa_cons (pv 0) pa_nil))))
      (pss_cons (ps_if (pt_cmpR op_eq (pe_op op_mod (pe_op op_fdiv (pv 1) pe_int) pe_int) pe_int (nomark _))
        (pss_one (ps_ret (pe_op op_cat (pe_slice (sl_listK (K := K)) (pv 0) po_none (po_some (pe_op op_add (pv 2) pe_int))) (pe_slice (sl_listK (K := K)) (pv 0) (po_some (pv 2)) po_none))))
        pss_nil)
      (pss_cons (ps_if (pt_cmpR op_eq (pe_callB (call_len_seqK (K := K)) rfl T.b_len bt_len (pa_cons (pv 0) pa_nil)) pe_int (nomark _))
        (pss_one (ps_ret (pe_lst (pa_cons (pe_ix (ix_listK (K := K)) (pv 0) pe_int (fun _ _ => rfl)) (pa_cons (pe_op op_add (pe_op op_sub (pe_ix (ix_listK (K := K)) (pv 0) pe_int (fun _ _ => rfl)) pe_int) (pe_op op_mul pe_int (pe_callTy call_int1 rfl T.b_int bt_int (pa_cons (pe_cmpR op_eq (pe_ix (ix_listK (K := K)) (pv 0) pe_int (fun _ _ => rfl)) pe_int (nomark _)) pa_nil)))) (pa_cons pe_int pa_nil))))))
        pss_nil)
      (pss_cons (ps_set (i := 2) sc_law_tie_spoiled.nd rfl (Or.inl rfl) (pe_op op_mod (pv 1) (pe_op op_sub (pe_callB (call_len_seqK (K := K)) rfl T.b_len bt_len (pa_cons (pv 0) pa_nil)) pe_int)))
      (pss_one (ps_ret (pe_op op_cat (pe_op op_cat (pe_slice (sl_listK (K := K)) (pv 0) po_none (po_some (pv 2))) (pe_lst (pa_cons (pe_ix (ix_listK (K := K)) (pv 0) (pe_op op_add (pv 2) pe_int) (fun _ _ => rfl)) (pa_cons (pe_ix (ix_listK (K := K)) (pv 0) (pv 2) (fun _ _ => rfl)) pa_nil)))) (pe_slice (sl_listK (K := K)) (pv 0) (po_some (pe_op op_add (pv 2) pe_int)) po_none))))))))), ?_⟩
    refine ⟨_, rfl, _, _, rfl, .inl (SqL.of ha), rfl, _, rfl, ?_⟩
    rw [vI_len]
    by_cases h0 : ks.length = 0
    · refine iteDp (by rw [h0]; rfl) ?_
      exact ⟨(by show 2 ≤ sizeLine; decide), fun l nl => k l [7, 7] _ (.upd nl) nl upd_same (not_rs (i := 0) rfl rfl (by decide)) (by decide)⟩
    refine iteDn (fun z => h0 (Int.ofNat.inj (V.int.inj z))) ?_
    obtain ⟨q, eq, hq⟩ := nat_of_mod c (m := ks.length) (by omega)
    refine ⟨_, rfl, _, rfl, _, _, rfl, .inl (SqL.of ha), _, _, rfl, rfl, (by rw [vI_len]; show (0 : Int) < (ks.length : Int); omega), ?_⟩
    rw [vI_len]
    dsimp only
    rw [eq]
    have at2 : ∀ j : Nat, ∀ hj : j < ks.length, atI (vI ks) (j : Int) = some (.int ks[j]) := fun j hj => atI_of (by omega) (by rw [Int.toNat_natCast]; exact vI_get (List.getElem?_eq_getElem hj))
    refine ⟨_, rfl, _, _, rfl, rfl, ⟨by decide, by decide⟩, _, _, rfl, rfl, (by show (0 : Int) < 2; decide), rfl, _, rfl, ?_⟩
    refine ite2D (fun _ => ?_) (fun _ => ?_)
    · refine ⟨_, rfl, _, rfl, _, _, rfl, rfl, _, rfl, _, _, rfl, SqL.of ha, fun l1 n1 => ?_⟩
      rw [show (q : Int) + 1 = ((q + 1 : Nat) : Int) by omega, cutI_to (by omega)]
      have s1 : Same H (upd H l1 (.lst (vI (ks.take (q + 1))))) := .upd n1
      have h1 : (upd H l1 (.lst (vI (ks.take (q + 1))))) l1 = some (.lst (vI (ks.take (q + 1)))) := upd_same
      generalize upd H l1 (.lst (vI (ks.take (q + 1)))) = H1 at s1 h1 ⊢
      refine ⟨_, rfl, _, rfl, _, rfl, _, _, rfl, SqL.of (s1 _ _ ha), fun l2 n2 => ?_⟩
      rw [cutI_from (by omega)]
      have s2 : Same H1 (upd H1 l2 (.lst (vI (ks.drop q)))) := .upd n2
      have h2 : (upd H1 l2 (.lst (vI (ks.drop q)))) l2 = some (.lst (vI (ks.drop q))) := upd_same
      generalize upd H1 l2 (.lst (vI (ks.drop q))) = H2 at s2 h2 ⊢
      refine ⟨_, _, _, _, rfl, rfl, s2 _ _ h1, h2, (by rw [vI_len, vI_len, List.length_take, List.length_drop]; omega), fun l3 n3 => ?_⟩
      rw [vI_two]
      refine k l3 _ _ ((s1.trans s2).new n3) ((s1.trans s2).free n3) upd_same (not_rs (i := q) (a := ks[q]) (b := ks[q]) ?_ ?_ (Int.le_refl _)) (by rw [List.length_append, List.length_take, List.length_drop]; omega)
      · rw [List.getElem?_append_left (by rw [List.length_take]; omega), List.getElem?_take, if_pos (by omega), List.getElem?_eq_getElem hq]
      · rw [List.getElem?_append_right (by rw [List.length_take]; omega), List.length_take, List.getElem?_drop, show q + (q + 1 - min (q + 1) ks.length) = q by omega, List.getElem?_eq_getElem hq]
    refine ⟨_, rfl, _, _, rfl, .inl (SqL.of ha), rfl, _, rfl, ?_⟩
    rw [vI_len]
    by_cases h1 : ks.length = 1
    · refine iteDp (by rw [h1]; rfl) ?_
      obtain ⟨x, rfl⟩ := List.length_eq_one_iff.mp h1
      have a0 : atI (vI [x]) 0 = some (.int x) := rfl
      refine ⟨_, rfl, _, _, _, _, rfl, rfl, SqL.of ha, a0, ?_⟩
      refine ⟨_, rfl, _, _, _, _, rfl, rfl, SqL.of ha, a0, _, _, rfl, rfl, ?_⟩
      refine ⟨_, rfl, _, _, _, _, rfl, rfl, SqL.of ha, a0, rfl, .inr ⟨_, rfl, ?_⟩⟩
      by_cases hx : x = 0
      · subst hx
        rw [decide_eq_true rfl]
        refine ⟨_, _, rfl, rfl, .inl ⟨by decide, by decide⟩, _, _, rfl, rfl, (by show 3 ≤ sizeLine; decide), fun l nl => ?_⟩
        exact k l [0, 39, 0] _ (.upd nl) nl upd_same (not_rs (i := 1) rfl rfl (by decide)) (by simp)
      · rw [decide_eq_false (fun z => hx (V.int.inj z))]
        refine ⟨_, _, rfl, rfl, .inl ⟨by decide, by decide⟩, _, _, rfl, rfl, (by show 3 ≤ sizeLine; decide), fun l nl => ?_⟩
        exact k l [x, x - 1 + 40 * 0, 0] _ (.upd nl) nl upd_same (not_rs (i := 0) (a := x) (b := x - 1 + 40 * 0) rfl rfl (by omega)) (by simp)
    refine iteDn (fun z => h1 (Int.ofNat.inj (V.int.inj z))) ?_
    obtain ⟨j, ej, hj⟩ := nat_of_mod c (m := ks.length - 1) (by omega)
    have hj1 : j + 1 < ks.length := by omega
    refine ⟨_, rfl, _, rfl, _, _, rfl, .inl (SqL.of ha), _, _, rfl, rfl, _, _, rfl, rfl, (by rw [vI_len]; show (0 : Int) < (ks.length : Int) - 1; omega), ?_⟩
    rw [vI_len]
    dsimp only
    rw [show (ks.length : Int) - 1 = ((ks.length - 1 : Nat) : Int) by omega, ej]
    refine ⟨_, rfl, _, rfl, _, rfl, _, _, rfl, SqL.of ha, fun l1 n1 => ?_⟩
    rw [cutI_to (by omega)]
    have s1 : Same H (upd H l1 (.lst (vI (ks.take j)))) := .upd n1
    have g1 : (upd H l1 (.lst (vI (ks.take j)))) l1 = some (.lst (vI (ks.take j))) := upd_same
    generalize upd H l1 (.lst (vI (ks.take j))) = H1 at s1 g1 ⊢
    have ha1 := s1 _ _ ha
    refine ⟨_, rfl, _, rfl, _, _, rfl, rfl, _, _, _, _, rfl, rfl, SqL.of ha1, (by rw [show (j : Int) + 1 = ((j + 1 : Nat) : Int) by omega]; exact at2 (j + 1) hj1), _, rfl, _, rfl, _, _, _, _, rfl, rfl, SqL.of ha1, at2 j (by omega), (by show 2 ≤ sizeLine; decide), fun l2 n2 => ?_⟩
    have s2 : Same H1 (upd H1 l2 (.lst [.int ks[j + 1], .int ks[j]])) := .upd n2
    have g2 : (upd H1 l2 (.lst [.int ks[j + 1], .int ks[j]])) l2 = some (.lst (vI [ks[j + 1], ks[j]])) := upd_same
    generalize upd H1 l2 (.lst [.int ks[j + 1], .int ks[j]]) = H2 at s2 g2 ⊢
    refine ⟨_, _, _, _, rfl, rfl, s2 _ _ g1, g2, (by rw [vI_len, vI_len, List.length_take]; show _ + 2 ≤ sizeLine; omega), fun l3 n3 => ?_⟩
    rw [vI_two]
    have s3 : Same H2 (upd H2 l3 (.lst (vI (ks.take j ++ [ks[j + 1], ks[j]])))) := .upd n3
    have g3 : (upd H2 l3 (.lst (vI (ks.take j ++ [ks[j + 1], ks[j]])))) l3 = some (.lst (vI (ks.take j ++ [ks[j + 1], ks[j]]))) := upd_same
    generalize upd H2 l3 (.lst (vI (ks.take j ++ [ks[j + 1], ks[j]]))) = H3 at s3 g3 ⊢
    have u3 := s1.trans (s2.trans s3)
    refine ⟨_, rfl, _, rfl, _, _, rfl, rfl, _, rfl, _, _, rfl, SqL.of (u3 _ _ ha), fun l4 n4 => ?_⟩
    rw [show (j : Int) + 2 = ((j + 2 : Nat) : Int) by omega, cutI_from (by omega)]
    have s4 : Same H3 (upd H3 l4 (.lst (vI (ks.drop (j + 2))))) := .upd n4
    have g4 : (upd H3 l4 (.lst (vI (ks.drop (j + 2))))) l4 = some (.lst (vI (ks.drop (j + 2)))) := upd_same
    generalize upd H3 l4 (.lst (vI (ks.drop (j + 2)))) = H4 at s4 g4 ⊢
    refine ⟨_, _, _, _, rfl, rfl, s4 _ _ g3, g4, (by rw [vI_len, vI_len, List.length_append, List.length_take, List.length_drop]; show _ + 2 + _ ≤ sizeLine; omega), fun l5 n5 => ?_⟩
    rw [vI_two]
    have lt := R.1 j ks[j] ks[j + 1] (List.getElem?_eq_getElem (by omega)) (List.getElem?_eq_getElem hj1)
    have tl : (ks.take j).length = j := by rw [List.length_take]; omega
    refine k l5 _ _ ((u3.trans s4).new n5) ((u3.trans s4).free n5) upd_same (not_rs (i := j) (a := ks[j + 1]) (b := ks[j]) ?_ ?_ (by omega)) (by rw [List.length_append, List.length_append, List.length_take, List.length_drop]; show _ + 2 + _ ≤ _; omega)
    · rw [List.append_assoc, List.getElem?_append_right (by omega), tl, Nat.sub_self]; rfl
    · rw [List.append_assoc, List.getElem?_append_right (by omega), tl, show j + 1 - j = 1 by omega]; rfl
end
end Mine

set_option Elab.async false
set_option linter.all false
set_option maxRecDepth 100000
set_option maxHeartbeats 4000000
namespace Mine
open PySem L2
section
variable {P : Program} {w : World} {K : PySem.W.Frag} {mg : Str → Option Value} {base : Heap} {t : Adr}
theorem by_restBd {G : Prop} {R : Addr → Hp → Prop} (C : Addr → Hp → Prop) (main : (∀ b H2, C b H2 → R b H2) → G) (rest : ∀ b H2, C b H2 → R b H2) : G := main rest
theorem cutV_tail {xs : List V} {k : Nat} (h : k ≤ xs.length) : cutV xs (some (k : Int)) none = xs.drop k := by
  unfold cutV
  have e1 : HT.sIx xs.length 0 (some (k : Int)) = k := by rw [HT.sIx_nat, Nat.min_eq_left h]
  have e2 : HT.sIx xs.length xs.length none = xs.length := rfl
  rw [e1, e2, List.take_of_length_le (by rw [List.length_drop]; omega)]
theorem cutV_any (xs : List V) (k : Nat) : cutV xs none (some (k : Int)) = xs.take k := by
  unfold cutV
  rw [HT.sIx_none, HT.sIx_nat, List.drop_zero, Nat.sub_zero]
  by_cases h : k ≤ xs.length
  · rw [Nat.min_eq_left h]
  · rw [Nat.min_eq_right (by omega), List.take_length, List.take_of_length_le (by omega)]
theorem set_is {α : Type} {xs : List α} {i : Nat} {x : α} (h : i < xs.length) : xs.take i ++ [x] ++ xs.drop (i + 1) = xs.set i x := by
  rw [List.set_eq_take_append_cons_drop, if_pos h]; simp
theorem NL.set {H : Hp} {y l b : Addr} {rs : List Addr} {tss : List (List Int)} {i : Nat} {zs : List Int} (N : NL H y rs tss) (hb : H b = some (.lst (vI zs))) (hl : H l = some (.lst ((rs.set i b).map V.ref))) : NL H l (rs.set i b) (tss.set i zs) := by
  refine ⟨hl, by rw [List.length_set, List.length_set]; exact N.l, fun j a ks h1 h2 => ?_⟩
  rw [List.getElem?_set] at h1 h2
  by_cases e : i = j
  · subst e
    rw [if_pos rfl] at h1 h2
    split at h1
    · split at h2
      · cases h1; cases h2; exact hb
      · cases h2
    · cases h1
  · rw [if_neg e] at h1 h2
    exact N.r j a ks h1 h2
theorem NL.cat {H : Hp} {y l : Addr} {rs qs : List Addr} {tss uss : List (List Int)} (N : NL H y rs tss) (lq : qs.length = uss.length) (hq : ∀ (i : Nat) (a : Addr) (ks : List Int), qs[i]? = some a → uss[i]? = some ks → H a = some (.lst (vI ks))) (hl : H l = some (.lst ((rs ++ qs).map V.ref))) : NL H l (rs ++ qs) (tss ++ uss) := by
  have e := N.l
  refine ⟨hl, by rw [List.length_append, List.length_append]; omega, fun j a ks h1 h2 => ?_⟩
  by_cases c : j < rs.length
  · rw [List.getElem?_append_left c] at h1
    rw [List.getElem?_append_left (by omega)] at h2
    exact N.r j a ks h1 h2
  · rw [List.getElem?_append_right (by omega)] at h1 h2
    exact hq _ a ks h1 (by rw [e]; exact h2)
/-- ties[:at] + [bad] + ties[at + 1:], behind the threading -/
def te3 (K : PySem.W.Frag) : TE := tTup (tCons (tVar 0) (tCons (tOp rCat (tOp rCat (tSl (rSlL K) (tVar 1) tNoPart (tPart (tVar 5))) (tLst (tCons (tVar 7) tNil))) (tSl (rSlL K) (tVar 1) (tPart (tOp (rI0 fun i j => V.int (i + j)) (tVar 5) (tC (V.int 1)))) tNoPart)) tNil))
theorem te3_ok {σ : St} {H0 : Hp} {Q0 : VK} {x y b : Addr} {rs : List Addr} {j : Nat} (g0 : σ[0]? = some (some (.ref x))) (g1 : σ[1]? = some (some (.ref y))) (g5' : σ[5]? = some (some (.int (j : Int)))) (g7 : σ[7]? = some (some (.ref b))) (hy : H0 y = some (.lst (rs.map V.ref))) (hj : j < rs.length) (r40 : rs.length ≤ 100)
    (k : ∀ l HD, Same H0 HD → HD l = some (.lst ((rs.set j b).map V.ref)) → ∀ p, HD p = none → Q0 (.ref p) (upd HD p (.tup [.ref x, .ref l]))) : te3 K σ H0 Q0 := by
  have hsz : sizeLine = 16777216 := sizeLine_eq
  refine ⟨_, g0, _, g1, _, g5', _, rfl, _, _, rfl, SqL.of hy, fun l3 n3 => ?_⟩
  rw [cutV_any]
  have s3 : Same H0 (upd H0 l3 (.lst ((rs.map V.ref).take j))) := .upd n3
  have g3 : (upd H0 l3 (.lst ((rs.map V.ref).take j))) l3 = some (.lst ((rs.map V.ref).take j)) := upd_same
  generalize upd H0 l3 (.lst ((rs.map V.ref).take j)) = H3 at s3 g3 ⊢
  refine ⟨_, g7, (by show 1 ≤ sizeLine; decide), fun l4 n4 => ?_⟩
  have s4 : Same H3 (upd H3 l4 (.lst [.ref b])) := .upd n4
  have g4 : (upd H3 l4 (.lst [.ref b])) l4 = some (.lst [.ref b]) := upd_same
  generalize upd H3 l4 (.lst [.ref b]) = H4 at s4 g4 ⊢
  refine ⟨_, _, _, _, rfl, rfl, s4 _ _ g3, g4, (by rw [List.length_take, List.length_map]; show _ + 1 ≤ sizeLine; omega), fun l5 n5 => ?_⟩
  have s5 : Same H4 (upd H4 l5 (.lst ((rs.map V.ref).take j ++ [.ref b]))) := .upd n5
  have g5 : (upd H4 l5 (.lst ((rs.map V.ref).take j ++ [.ref b]))) l5 = some (.lst ((rs.map V.ref).take j ++ [.ref b])) := upd_same
  generalize upd H4 l5 (.lst ((rs.map V.ref).take j ++ [.ref b])) = H5 at s5 g5 ⊢
  have u5 := s3.trans (s4.trans s5)
  refine ⟨_, g1, _, g5', _, _, rfl, rfl, _, rfl, _, _, rfl, SqL.of (u5 _ _ hy), fun l6 n6 => ?_⟩
  rw [show (j : Int) + 1 = ((j + 1 : Nat) : Int) by omega, cutV_tail (by rw [List.length_map]; omega)]
  have s6 : Same H5 (upd H5 l6 (.lst ((rs.map V.ref).drop (j + 1)))) := .upd n6
  have g6 : (upd H5 l6 (.lst ((rs.map V.ref).drop (j + 1)))) l6 = some (.lst ((rs.map V.ref).drop (j + 1))) := upd_same
  generalize upd H5 l6 (.lst ((rs.map V.ref).drop (j + 1))) = H6 at s6 g6 ⊢
  refine ⟨_, _, _, _, rfl, rfl, s6 _ _ g5, g6, (by rw [List.length_append, List.length_take, List.length_drop, List.length_map, List.length_singleton]; omega), fun l7 n7 => ?_⟩
  rw [set_is (xs := rs.map V.ref) (by rw [List.length_map]; exact hj), ← List.map_set]
  have s7 := Same.upd (o := .lst ((rs.set j b).map V.ref)) n7
  exact ⟨(by show 2 ≤ sizeLine; decide), fun p np => k l7 _ ((u5.trans s6).trans s7) upd_same p np⟩
def sp_spo : Sp := fun vs H Q _ => ∃ (x y : Addr) (rs : List Addr) (th : List Int) (tss : List (List Int)) (c : Int), vs = [.ref x, .ref y, .int c] ∧ H x = some (.lst (vI th)) ∧ NL H y rs tss ∧ SetOk th tss ∧ (∀ ks ∈ tss, ks.length ≤ 40) ∧
  ∀ (p x' y' : Addr) (rs' : List Addr) (th' : List Int) (tss' : List (List Int)) (H' : Hp), Same H H' → H' p = some (.tup [.ref x', .ref y']) → H' x' = some (.lst (vI th')) → NL H' y' rs' tss' → ¬ SetOk th' tss' → th'.length ≤ 100 → tss'.length ≤ 100 → (∀ ks ∈ tss', ks.length ≤ 100) → Q (.ref p) H'
theorem ok_law_spoiled (T : Txt K mg t) : FnOk P w K mg base CX0 2 t.f_law_spoiled t.d_law_spoiled ["threading", "ties", "cell"] sp_spo := by
  have G_law_far : FnOk P w K mg base CX0 1 t.f_law_far t.d_law_far _ _ := ok_law_far T
  have G_law_tie_spoiled : FnOk P w K mg base CX0 1 t.f_law_tie_spoiled t.d_law_tie_spoiled _ _ := ok_law_tie_spoiled T
  refine T.law_spoiled.F.ok sc_law_spoiled (fun vs H Q E h => ?_) (fun cdv A outer s H vs Q E hr h => ?_)
  · obtain ⟨x, y, rs, th, tss, c, rfl, _⟩ := h
    rfl
  · obtain ⟨x, y, rs, th, tss, c, rfl, hx, N, OK, l40, k⟩ := h
    have hsz : sizeLine = 16777216 := sizeLine_eq
    obtain ⟨⟨m1, m40⟩, ⟨t1, t40⟩, hth, hti⟩ := id OK
    have rl := N.l
    have l100 : ∀ ks ∈ tss, ks.length ≤ 100 := fun ks h => Nat.le_trans (l40 ks h) (by decide)
    refine ⟨_, (pss_cons (ps_set (i := 3) sc_law_spoiled.nd rfl (Or.inl rfl) (pe_op op_mod (pv 2) pe_int))
      (pss_cons (ps_set (i := 4) sc_law_spoiled.nd rfl (Or.inr rfl) (pe_op op_fdiv (pv 2) pe_int))
      (pss_cons (ps_if (pt_cmpR op_eq (pv 3) pe_int (nomark _))
        (pss_one (ps_ret (pe_tup (pa_cons (pe_lst pa_nil) (pa_cons (pv 1) pa_nil)))))
        pss_nil)
      (pss_cons (ps_if (pt_cmpR op_eq (pv 3) pe_int (nomark _))
        (pss_one (ps_ret (pe_tup (pa_cons (pe_op op_cat (pv 0) (pe_comp (CompOk.mk (caps := [4]) (Nc := ["k", "rest"]) rfl (by decide +kernel) (by decide +kernel) (comp_fr (sc0 := defScope s_law_spoiled) rfl (by decide +kernel)) rfl rfl rfl (by decide +kernel) (fun k j h => match k, h with | 0, h => by obtain rfl := Option.some.inj h; exact ⟨_, rfl, rfl, rfl⟩ | _ + 1, h => by simp at h)) rfl (pi_range1 rfl T.b_range (pa_cons (pe_op op_add (pe_op op_sub pe_int (pe_callB (call_len_seqK (K := K)) rfl T.b_len bt_len (pa_cons (pv 0) pa_nil))) (pe_op op_mod (pe_op op_fdiv (pv 4) pe_int) pe_int)) pa_nil)) (fun _ _ _ _ _ => .nil) (fun _ _ _ _ _ => (pe_op op_mod (pv 1) pe_int)))) (pa_cons (pv 1) pa_nil)))))
        pss_nil)
      (pss_cons (ps_if (pt_cmpR op_eq (pv 3) pe_int (nomark _))
        (pss_cons (ps_set (i := 5) sc_law_spoiled.nd rfl (Or.inl rfl) (pe_op op_mod (pv 4) (pe_callB (call_len_seqK (K := K)) rfl T.b_len bt_len (pa_cons (pv 0) pa_nil))))
        (pss_one (ps_ret (pe_tup (pa_cons (pe_op op_cat (pe_op op_cat (pe_slice (sl_listK (K := K)) (pv 0) po_none (po_some (pv 5))) (pe_lst (pa_cons (pe_call (G_law_far.mono (by decide)) hr rfl T.law_far.m T.law_far.F.kp T.law_far.b .nil pass0 (pa_cons (pe_op op_fdiv (pv 4) pe_int) pa_nil)) pa_nil))) (pe_slice (sl_listK (K := K)) (pv 0) (po_some (pe_op op_add (pv 5) pe_int)) po_none)) (pa_cons (pv 1) pa_nil))))))
        pss_nil)
      (pss_cons (ps_if (pt_cmpR op_eq (pv 3) pe_int (nomark _))
        (pss_one (ps_ret (pe_tup (pa_cons (pv 0) (pa_cons (pe_lst pa_nil) pa_nil)))))
        pss_nil)
      (pss_cons (ps_if (pt_cmpR op_eq (pv 3) pe_int (nomark _))
        (pss_one (ps_ret (pe_tup (pa_cons (pv 0) (pa_cons (pe_op op_cat (pv 1) (pe_comp (CompOk.mk (caps := [4]) (Nc := ["k", "rest"]) rfl (by decide +kernel) (by decide +kernel) (comp_fr (sc0 := defScope s_law_spoiled) rfl (by decide +kernel)) rfl rfl rfl (by decide +kernel) (fun k j h => match k, h with | 0, h => by obtain rfl := Option.some.inj h; exact ⟨_, rfl, rfl, rfl⟩ | _ + 1, h => by simp at h)) rfl (pi_range1 rfl T.b_range (pa_cons (pe_op op_add (pe_op op_sub pe_int (pe_callB (call_len_seqK (K := K)) rfl T.b_len bt_len (pa_cons (pv 1) pa_nil))) (pe_op op_mod (pe_op op_fdiv (pv 4) pe_int) pe_int)) pa_nil)) (fun _ _ _ _ _ => .nil) (fun _ _ _ _ _ => (pe_lst (pa_cons (pe_op op_mod (pv 1) pe_int) pa_nil))))) pa_nil)))))
        pss_nil)
      (pss_cons (ps_set (i := 5) sc_law_spoiled.nd rfl (Or.inl rfl) (pe_op op_mod (pv 4) (pe_callB (call_len_seqK (K := K)) rfl T.b_len bt_len (pa_cons (pv 1) pa_nil))))
      (pss_cons (ps_if (pt_cmpR op_eq (pv 3) pe_int (nomark _))
        (pss_cons (ps_set (i := 6) sc_law_spoiled.nd rfl (Or.inl rfl) (pe_call (G_law_far.mono (by decide)) hr rfl T.law_far.m T.law_far.F.kp T.law_far.b .nil pass0 (pa_cons (pe_op op_fdiv (pv 4) pe_int) pa_nil)))
        (pss_cons (ps_set (i := 7) sc_law_spoiled.nd rfl (Or.inl rfl) (pe_op op_cat (pe_ix (ix_listK (K := K)) (pv 1) (pv 5) (fun _ _ => rfl)) (pe_lst (pa_cons (pv 6) pa_nil))))
        (pss_cons (ps_if (pt_cmpR op_lt (pv 6) pe_int (nomark _))
          (pss_one (ps_set (i := 7) sc_law_spoiled.nd rfl (Or.inl rfl) (pe_op op_cat (pe_lst (pa_cons (pv 6) pa_nil)) (pe_ix (ix_listK (K := K)) (pv 1) (pv 5) (fun _ _ => rfl)))))
          pss_nil)
        (pss_one (ps_ret (pe_tup (pa_cons (pv 0) (pa_cons (pe_op op_cat (pe_op op_cat (pe_slice (sl_listK (K := K)) (pv 1) po_none (po_some (pv 5))) (pe_lst (pa_cons (pv 7) pa_nil))) (pe_slice (sl_listK (K := K)) (pv 1) (po_some (pe_op op_add (pv 5) pe_int)) po_none)) pa_nil))))))))
        pss_nil)
      (pss_cons (ps_set (i := 7) sc_law_spoiled.nd rfl (Or.inl rfl) (pe_call (G_law_tie_spoiled.mono (by decide)) hr rfl T.law_tie_spoiled.m T.law_tie_spoiled.F.kp T.law_tie_spoiled.b .nil pass0 (pa_cons (pe_ix (ix_listK (K := K)) (pv 1) (pv 5) (fun _ _ => rfl)) (pa_cons (pe_op op_fdiv (pv 4) pe_int) pa_nil))))
      (pss_one (ps_ret (pe_tup (pa_cons (pv 0) (pa_cons (pe_op op_cat (pe_op op_cat (pe_slice (sl_listK (K := K)) (pv 1) po_none (po_some (pv 5))) (pe_lst (pa_cons (pv 7) pa_nil))) (pe_slice (sl_listK (K := K)) (pv 1) (po_some (pe_op op_add (pv 5) pe_int)) po_none)) pa_nil))))))))))))))), ?_⟩
    refine ⟨_, rfl, _, _, rfl, rfl, (by show (0 : Int) < 7; decide), ?_⟩
    dsimp only
    generalize c % 7 = w7
    refine ⟨_, rfl, _, _, rfl, rfl, ⟨by decide, by decide⟩, ?_⟩
    dsimp only
    generalize c / 7 = re
    -- the new list of ties
    have tiesAt : ∀ (i : Nat) (b l : Addr) (zs : List Int) (H' : Hp), i < rs.length → Same H H' → H' b = some (.lst (vI zs)) → H' l = some (.lst ((rs.set i b).map V.ref)) → ¬ Rs zs → zs.length ≤ 100 → ∀ p, H' p = none → Q (.ref p) (upd H' p (.tup [.ref x, .ref l])) := fun i b l zs H' hi s' hb hl nR zl p np => by
      have sp := Same.upd (o := .tup [.ref x, .ref l]) np
      refine k p x l (rs.set i b) th (tss.set i zs) _ (s'.new np) upd_same (sp _ _ (s' _ _ hx)) ((NL.set (N.same s') hb hl).same sp) (fun z => nR (z.2.2.2 zs ?_)) (by omega) (by rw [List.length_set]; omega) fun ks hk => ?_
      · exact List.mem_set (by omega) zs
      · rcases List.mem_or_eq_of_mem_set hk with h | h
        · exact l100 ks h
        · rw [h]; exact zl
    refine ⟨_, rfl, rfl, _, rfl, ?_⟩
    refine ite2D (fun _ => ?_) (fun _ => ?_)
    · refine ⟨Nat.zero_le _, fun q nq => ⟨_, rfl, (by show 2 ≤ sizeLine; decide), fun p np => ?_⟩⟩
      have s1 : Same H (upd H q (.lst [])) := .upd nq
      have sp := Same.upd (H := upd H q (.lst [])) (o := .tup [.ref q, .ref y]) np
      exact k p q y rs [] tss _ (s1.new np) upd_same (sp _ _ upd_same) (N.same (s1.trans sp)) (fun z => absurd z.1.1 (by decide)) (by decide) (by omega) l100
    refine ⟨_, rfl, rfl, _, rfl, ?_⟩
    refine ite2D (fun _ => ?_) (fun _ => ?_)
    · obtain ⟨g, eg, hg⟩ := nat_of_mod (re / 40) (m := 20) (by decide)
      have eg' : re / 40 % 20 = (g : Int) := eg
      refine ⟨_, rfl, _, rfl, _, _, rfl, .inl (SqL.of hx), _, _, rfl, rfl, _, rfl, _, _, rfl, rfl, ⟨by decide, by decide⟩, _, _, rfl, rfl, (by show (0 : Int) < 20; decide), _, _, rfl, rfl, ?_⟩
      rw [vI_len]
      dsimp only
      rw [eg', show (41 : Int) - (th.length : Int) + (g : Int) = ((41 - th.length + g : Nat) : Int) by omega]
      refine ⟨_, rfl, (by omega), (by omega), ?_⟩
      rw [Int.toNat_natCast]
      generalize hn : 41 - th.length + g = n
      refine comp_range (lo := 0) (n := n) (fun i ys H2 => H2 = H ∧ ∃ zs : List Int, ys = vI zs ∧ zs.length = i) ⟨rfl, [], rfl, rfl⟩ ?_ ?_ ?_ ?_
      · rintro i ys H2 hi ⟨rfl, zs, rfl, hz⟩
        rw [vI_len]
        omega
      · omega
      · rintro i ys H2 hi ⟨rfl, zs, rfl, hz⟩
        refine CTurn.no ?_
        refine ⟨_, rfl, _, _, rfl, rfl, (by show (0 : Int) < 40; decide), ?_⟩
        exact CN.of hi ⟨rfl, zs ++ [_], vI_app .., by rw [List.length_append, hz]; rfl⟩
      · rintro ys H2 q ⟨rfl, zs, rfl, hz⟩ nq
        have s1 : Same H2 (upd H2 q (.lst (vI zs))) := .upd nq
        have h1 : (upd H2 q (.lst (vI zs))) q = some (.lst (vI zs)) := upd_same
        generalize upd H2 q (.lst (vI zs)) = H1 at s1 h1 ⊢
        refine ⟨_, _, _, _, rfl, rfl, s1 _ _ hx, h1, (by rw [vI_len, vI_len]; omega), fun l nl => ?_⟩
        rw [vI_two]
        refine ⟨_, rfl, (by show 2 ≤ sizeLine; decide), fun p np => ?_⟩
        have sl := Same.upd (o := .lst (vI (th ++ zs))) nl
        have sp := Same.upd (o := .tup [.ref l, .ref y]) np
        refine k p l y rs (th ++ zs) tss _ ((s1.trans sl).trans sp) upd_same (sp _ _ upd_same) (N.same ((s1.trans sl).trans sp)) (fun z => ?_) (by rw [List.length_append]; omega) (by omega) l100
        have := z.1.2
        rw [List.length_append] at this
        omega
    refine ⟨_, rfl, rfl, _, rfl, ?_⟩
    refine ite2D (fun _ => ?_) (fun _ => ?_)
    · obtain ⟨j, ej, hj⟩ := nat_of_mod re (m := th.length) m1
      refine ⟨_, rfl, _, rfl, _, _, rfl, .inl (SqL.of hx), _, _, rfl, rfl, (by rw [vI_len]; show (0 : Int) < (th.length : Int); omega), ?_⟩
      rw [vI_len]
      dsimp only
      rw [ej]
      refine ⟨_, rfl, _, rfl, _, rfl, _, _, rfl, SqL.of hx, fun l1 n1 => ?_⟩
      rw [cutI_to (by omega)]
      have s1 : Same H (upd H l1 (.lst (vI (th.take j)))) := .upd n1
      have g1 : (upd H l1 (.lst (vI (th.take j)))) l1 = some (.lst (vI (th.take j))) := upd_same
      generalize upd H l1 (.lst (vI (th.take j))) = H1 at s1 g1 ⊢
      refine ⟨_, rfl, _, _, rfl, rfl, ⟨by decide, by decide⟩, _, rfl, fun z H2 s2 hz => ?_⟩
      refine ⟨(by show 1 ≤ sizeLine; decide), fun l2 n2 => ?_⟩
      have s3 : Same H2 (upd H2 l2 (.lst [.int z])) := .upd n2
      have g3 : (upd H2 l2 (.lst [.int z])) l2 = some (.lst (vI [z])) := upd_same
      generalize upd H2 l2 (.lst [.int z]) = H3 at s3 g3 ⊢
      refine ⟨_, _, _, _, rfl, rfl, (s2.trans s3) _ _ g1, g3, (by rw [vI_len, vI_len, List.length_take]; show _ + 1 ≤ sizeLine; omega), fun l3 n3 => ?_⟩
      rw [vI_two]
      have s4 : Same H3 (upd H3 l3 (.lst (vI (th.take j ++ [z])))) := .upd n3
      have g4 : (upd H3 l3 (.lst (vI (th.take j ++ [z])))) l3 = some (.lst (vI (th.take j ++ [z]))) := upd_same
      generalize upd H3 l3 (.lst (vI (th.take j ++ [z]))) = H4 at s4 g4 ⊢
      have u4 := s1.trans (s2.trans (s3.trans s4))
      refine ⟨_, rfl, _, rfl, _, _, rfl, rfl, _, rfl, _, _, rfl, SqL.of (u4 _ _ hx), fun l4 n4 => ?_⟩
      rw [show (j : Int) + 1 = ((j + 1 : Nat) : Int) by omega, cutI_from (by omega)]
      have s5 : Same H4 (upd H4 l4 (.lst (vI (th.drop (j + 1))))) := .upd n4
      have g5 : (upd H4 l4 (.lst (vI (th.drop (j + 1))))) l4 = some (.lst (vI (th.drop (j + 1)))) := upd_same
      generalize upd H4 l4 (.lst (vI (th.drop (j + 1)))) = H5 at s5 g5 ⊢
      refine ⟨_, _, _, _, rfl, rfl, s5 _ _ g4, g5, (by rw [vI_len, vI_len, List.length_append, List.length_take, List.length_drop, List.length_singleton]; omega), fun l6 n6 => ?_⟩
      rw [vI_two]
      refine ⟨_, rfl, (by show 2 ≤ sizeLine; decide), fun p np => ?_⟩
      have s6 := Same.upd (o := .lst (vI (th.take j ++ [z] ++ th.drop (j + 1)))) n6
      have sp := Same.upd (o := .tup [.ref l6, .ref y]) np
      have u6 := ((u4.trans s5).trans s6).trans sp
      refine k p l6 y rs (th.take j ++ [z] ++ th.drop (j + 1)) tss _ u6 upd_same (sp _ _ upd_same) (N.same u6) (fun h => ?_) (by rw [List.length_append, List.length_append, List.length_take, List.length_drop, List.length_singleton]; omega) (by omega) l100
      have := h.2.2.1 z (by simp)
      omega
    refine ⟨_, rfl, rfl, _, rfl, ?_⟩
    refine ite2D (fun _ => ?_) (fun _ => ?_)
    · refine ⟨_, rfl, Nat.zero_le _, fun q nq => ⟨(by show 2 ≤ sizeLine; decide), fun p np => ?_⟩⟩
      have s1 : Same H (upd H q (.lst [])) := .upd nq
      have sp := Same.upd (H := upd H q (.lst [])) (o := .tup [.ref x, .ref q]) np
      exact k p x q [] th [] _ (s1.new np) upd_same (sp _ _ (s1 _ _ hx)) ⟨sp _ _ upd_same, rfl, fun i a ks h => (by simp at h)⟩ (fun z => absurd z.2.1.1 (by decide)) (by omega) (by decide) (fun ks h => by cases h)
    refine ⟨_, rfl, rfl, _, rfl, ?_⟩
    refine ite2D (fun _ => ?_) (fun _ => ?_)
    · obtain ⟨g, eg, hg⟩ := nat_of_mod (re / 40) (m := 20) (by decide)
      have eg' : re / 40 % 20 = (g : Int) := eg
      refine ⟨_, rfl, _, rfl, _, rfl, _, _, rfl, .inl (SqL.of N.h), _, _, rfl, rfl, _, rfl, _, _, rfl, rfl, ⟨by decide, by decide⟩, _, _, rfl, rfl, (by show (0 : Int) < 20; decide), _, _, rfl, rfl, ?_⟩
      rw [List.length_map]
      dsimp only
      rw [eg', show (41 : Int) - (rs.length : Int) + (g : Int) = ((41 - rs.length + g : Nat) : Int) by omega]
      refine ⟨_, rfl, (by omega), (by omega), ?_⟩
      rw [Int.toNat_natCast]
      generalize hn : 41 - rs.length + g = n
      refine comp_range (lo := 0) (n := n) (fun i ys H2 => Same H H2 ∧ ∃ (qs : List Addr) (uss : List (List Int)), ys = qs.map V.ref ∧ qs.length = i ∧ uss.length = i ∧ (∀ (j : Nat) (a : Addr) (ks : List Int), qs[j]? = some a → uss[j]? = some ks → H2 a = some (.lst (vI ks))) ∧ ∀ ks ∈ uss, ks.length ≤ 1) ⟨.refl _, [], [], rfl, rfl, rfl, fun j a ks h => (by simp at h), fun ks h => (by cases h)⟩ ?_ ?_ ?_ ?_
      · rintro i ys H2 hi ⟨s2, qs, uss, rfl, hq, _⟩
        rw [List.length_map]
        omega
      · omega
      · rintro i ys H2 hi ⟨s2, qs, uss, rfl, hq, hu, hrow, h1⟩
        refine CTurn.no ?_
        refine ⟨_, rfl, _, _, rfl, rfl, (by show (0 : Int) < 40; decide), (by show 1 ≤ sizeLine; decide), fun l nl => ?_⟩
        have sl := Same.upd (o := .lst [.int (re % 40)]) nl
        refine CN.of hi ⟨s2.trans sl, qs ++ [l], uss ++ [[re % 40]], by rw [List.map_append]; rfl, by rw [List.length_append, hq]; rfl, by rw [List.length_append, hu]; rfl, fun j a ks g1 g2 => ?_, fun ks hm => ?_⟩
        · by_cases hj : j < qs.length
          · rw [List.getElem?_append_left hj] at g1
            rw [List.getElem?_append_left (by omega)] at g2
            exact sl _ _ (hrow j a ks g1 g2)
          · rw [List.getElem?_append_right (by omega)] at g1
            rw [List.getElem?_append_right (by omega)] at g2
            have := (List.getElem?_eq_some_iff.mp g1).1
            simp at this
            rw [show j - qs.length = 0 by omega] at g1
            rw [show j - uss.length = 0 by omega] at g2
            cases g1
            cases g2
            exact upd_same
        · rcases List.mem_append.mp hm with hm | hm
          · exact h1 ks hm
          · rw [List.mem_singleton.mp hm]; exact Nat.le_refl _
      · rintro ys H2 q ⟨s2, qs, uss, rfl, hq, hu, hrow, h1⟩ nq
        have s3 : Same H2 (upd H2 q (.lst (qs.map V.ref))) := .upd nq
        have g3 : (upd H2 q (.lst (qs.map V.ref))) q = some (.lst (qs.map V.ref)) := upd_same
        generalize upd H2 q (.lst (qs.map V.ref)) = H3 at s3 g3 ⊢
        have u3 := s2.trans s3
        refine ⟨_, _, _, _, rfl, rfl, u3 _ _ N.h, g3, (by rw [List.length_map, List.length_map]; omega), fun l nl => ?_⟩
        rw [← List.map_append]
        refine ⟨(by show 2 ≤ sizeLine; decide), fun p np => ?_⟩
        have sl := Same.upd (o := .lst ((rs ++ qs).map V.ref)) nl
        have sp := Same.upd (o := .tup [.ref x, .ref l]) np
        have u5 := (u3.trans sl).trans sp
        refine k p x l (rs ++ qs) th (tss ++ uss) _ u5 upd_same (u5 _ _ hx) (NL.cat (N.same u5) (by omega) (fun j a ks g1 g2 => sp _ _ (sl _ _ (s3 _ _ (hrow j a ks g1 g2)))) (sp _ _ upd_same)) (fun z => ?_) (by omega) (by rw [List.length_append]; omega) fun ks hm => ?_
        · have := z.2.1.2
          rw [List.length_append] at this
          omega
        · rcases List.mem_append.mp hm with hm | hm
          · exact l100 ks hm
          · exact Nat.le_trans (h1 ks hm) (by decide)
    obtain ⟨j, ej, hj⟩ := nat_of_mod re (m := rs.length) (by omega)
    refine ⟨_, rfl, _, rfl, _, _, rfl, .inl (SqL.of N.h), _, _, rfl, rfl, (by rw [List.length_map]; show (0 : Int) < (rs.length : Int); omega), ?_⟩
    rw [List.length_map]
    dsimp only
    rw [ej]
    have hjt : j < tss.length := by omega
    have aj : atI (rs.map V.ref) (j : Int) = some (.ref rs[j]) := atI_of (by omega) (by rw [Int.toNat_natCast, List.getElem?_map, List.getElem?_eq_getElem hj]; rfl)
    have hrow := N.r j rs[j] tss[j] (List.getElem?_eq_getElem hj) (List.getElem?_eq_getElem hjt)
    have Rj := hti _ (List.getElem_mem hjt)
    have lj := l40 _ (List.getElem_mem hjt)
    refine ⟨_, rfl, rfl, _, rfl, ?_⟩
    refine ite2D (fun _ => ?_) (fun _ => ?_)
    · refine ⟨_, rfl, _, _, rfl, rfl, ⟨by decide, by decide⟩, _, rfl, fun z H1 s1 hz => ?_⟩
      refine ⟨_, rfl, _, rfl, _, _, _, _, rfl, rfl, SqL.of (s1 _ _ N.h), aj, _, rfl, (by show 1 ≤ sizeLine; decide), fun l2 n2 => ?_⟩
      have s2 : Same H1 (upd H1 l2 (.lst [.int z])) := .upd n2
      have g2 : (upd H1 l2 (.lst [.int z])) l2 = some (.lst (vI [z])) := upd_same
      generalize upd H1 l2 (.lst [.int z]) = H2 at s2 g2 ⊢
      have u2 := s1.trans s2
      refine ⟨_, _, _, _, rfl, rfl, u2 _ _ hrow, g2, (by rw [vI_len, vI_len]; show _ + 1 ≤ sizeLine; omega), fun b0 nb0 => ?_⟩
      rw [vI_two]
      have sb : Same H2 (upd H2 b0 (.lst (vI (tss[j] ++ [z])))) := .upd nb0
      have gb : (upd H2 b0 (.lst (vI (tss[j] ++ [z])))) b0 = some (.lst (vI (tss[j] ++ [z]))) := upd_same
      generalize upd H2 b0 (.lst (vI (tss[j] ++ [z]))) = HB at sb gb ⊢
      have ub := u2.trans sb
      apply by_restBd (fun b HC => Same H HC ∧ ∃ zs, HC b = some (.lst (vI zs)) ∧ ¬ Rs zs ∧ zs.length ≤ 100)
      · intro rest
        refine ⟨_, rfl, _, _, rfl, rfl, _, rfl, ?_⟩
        refine ite2D ?tt ?ff
        case ff =>
          intro _
          obtain ⟨b, eb⟩ : ∃ b, b = b0 := ⟨_, rfl⟩
          obtain ⟨HC, eC⟩ : ∃ HC, HC = HB := ⟨_, rfl⟩
          rw [← eb, ← eC] at gb ⊢
          rw [← eC] at ub
          exact rest b HC ⟨ub, _, gb, fun R => by have := R.2 z (by simp); omega, by rw [List.length_append, List.length_singleton]; omega⟩
        intro _
        refine ⟨_, rfl, (by show 1 ≤ sizeLine; decide), fun l8 n8 => ?_⟩
        have s8 : Same HB (upd HB l8 (.lst [.int z])) := .upd n8
        have g8 : (upd HB l8 (.lst [.int z])) l8 = some (.lst (vI [z])) := upd_same
        generalize upd HB l8 (.lst [.int z]) = H8 at s8 g8 ⊢
        have u8 := ub.trans s8
        refine ⟨_, rfl, _, rfl, _, _, _, _, rfl, rfl, SqL.of (u8 _ _ N.h), aj, ?_⟩
        refine ⟨_, _, _, _, rfl, rfl, g8, u8 _ _ hrow, (by rw [vI_len, vI_len]; show 1 + _ ≤ sizeLine; omega), fun b9 nb9 => ?_⟩
        rw [vI_two]
        exact rest b9 _ ⟨u8.trans (.upd nb9), _, upd_same, fun R => by have := R.2 z (by simp); omega, by rw [List.length_append, List.length_singleton]; omega⟩
      rintro b HC ⟨uC, zs, hb, nR, zl⟩
      exact te3_ok rfl rfl rfl rfl (uC _ _ N.h) hj (by omega) fun l HD sD hl => tiesAt j b l zs _ hj (uC.trans sD) (sD _ _ hb) hl nR zl
    · refine ⟨_, rfl, _, rfl, _, _, _, _, rfl, rfl, SqL.of N.h, aj, _, rfl, _, _, rfl, rfl, ⟨by decide, by decide⟩, rs[j], tss[j], _, rfl, hrow, Rj, lj, fun b zs H1 s1 nb hb nR zl => ?_⟩
      exact te3_ok rfl rfl rfl rfl (s1 _ _ N.h) hj (by omega) fun l HD sD hl => tiesAt j b l zs _ hj (s1.trans sD) (sD _ _ hb) hl nR zl
end
end Mine

set_option Elab.async false
set_option linter.all false
set_option maxRecDepth 100000
set_option maxHeartbeats 4000000
namespace Mine
open PySem L2
section
variable {P : Program} {w : World} {K : PySem.W.Frag} {mg : Str → Option Value} {base : Heap} {t : Adr}
/-- the copies of a list of lists of numbers -/
def Cps (H0 H : Hp) (qs : List Addr) (tss : List (List Int)) (i : Nat) : Prop := qs.length = i ∧ (∀ q ∈ qs, H0 q = none) ∧ ∀ (j : Nat) (q : Addr) (ks : List Int), qs[j]? = some q → tss[j]? = some ks → H q = some (.lst (vI ks))
theorem Cps.nil (H0 H : Hp) (tss : List (List Int)) : Cps H0 H [] tss 0 := ⟨rfl, fun q hq => (by cases hq), fun j q ks h => (by simp at h)⟩
theorem Cps.add {H0 H : Hp} {qs : List Addr} {tss : List (List Int)} {i : Nat} (C : Cps H0 H qs tss i) {l : Addr} {ks' : List Int} (nl : H l = none) (n0 : H0 l = none) (hk : tss[i]? = some ks') : Cps H0 (upd H l (.lst (vI ks'))) (qs ++ [l]) tss (i + 1) := by
  obtain ⟨hq, nq, hqs⟩ := C
  refine ⟨by rw [List.length_append, hq]; rfl, fun q h => ?_, fun j q ks h1 h2 => ?_⟩
  · rcases List.mem_append.mp h with h | h
    · exact nq q h
    · rw [List.mem_singleton.mp h]; exact n0
  · by_cases hj : j < qs.length
    · rw [List.getElem?_append_left hj] at h1
      exact (Same.upd nl) _ _ (hqs j q ks h1 h2)
    · rw [List.getElem?_append_right (by omega)] at h1
      have e0 : j = i := by
        have := (List.getElem?_eq_some_iff.mp h1).1
        simp at this
        omega
      rw [show j - qs.length = 0 by omega] at h1
      have e1 : l = q := by simpa using h1
      rw [e0, hk] at h2
      cases h2
      rw [← e1]
      exact upd_same
theorem any5 {K : PySem.W.Frag} {t c d e f g : Value} (h1 : PySem.W.kitOne K t c = some false) (h2 : PySem.W.kitOne K t d = some false) (h3 : PySem.W.kitOne K t e = some false) (h4 : PySem.W.kitOne K t f = some false) (h5 : PySem.W.kitOne K t g = some false) : PySem.W.kitAny K t [c, d, e, f, g] = some false := by
  unfold PySem.W.kitAny
  rw [h1]
  unfold PySem.W.kitAny
  rw [h2]
  unfold PySem.W.kitAny
  rw [h3]
  unfold PySem.W.kitAny
  rw [h4]
  unfold PySem.W.kitAny
  rw [h5]
  rfl
theorem nl_sam {H : Hp} {y z : Addr} {rs qs : List Addr} {tss : List (List Int)} (N : NL H y rs tss) (M : NL H z qs tss) : SamL K H y z := by
  have e1 := N.l
  have e2 := M.l
  refine ⟨rs, qs, SqL.of N.h, SqL.of M.h, by omega, fun i a b h1 h2 => ?_⟩
  have hi : i < tss.length := by rw [← N.l]; exact (List.getElem?_eq_some_iff.mp h1).1
  exact ⟨vI tss[i], vI_flat _, SqL.of (N.r i a _ h1 (List.getElem?_eq_getElem hi)), SqL.of (M.r i b _ h2 (List.getElem?_eq_getElem hi))⟩
def sp_ref : Sp := fun vs H Q _ => ∃ (x y : Addr) (rs : List Addr) (th : List Int) (tss : List (List Int)), vs = [.ref x, .ref y] ∧ H x = some (.lst (vI th)) ∧ NL H y rs tss ∧ ¬ SetOk th tss ∧ th.length ≤ 100 ∧ tss.length ≤ 100 ∧ (∀ ks ∈ tss, ks.length ≤ 100) ∧ ∀ H', Same H H' → Q (.bl true) H'
theorem ok_law_refused (T : Txt K mg t) : FnOk P w K mg base CX0 6 t.f_law_refused t.d_law_refused ["threading", "ties"] sp_ref := by
  have G_Loom___init__ : FnOk P w K mg base (CX1 P w) 4 t.f_Loom___init__ t.d_Loom___init__ _ _ := okx_Loom___init__ T
  refine T.law_refused.F.ok sc_law_refused (fun vs H Q E h => ?_) (fun cdv A outer s H vs Q E hr h => ?_)
  · obtain ⟨x, y, rs, th, tss, rfl, _⟩ := h
    rfl
  · obtain ⟨x, y, rs, th, tss, rfl, hx, N, bad, l1, l2, l3, k⟩ := h
    have hsz : sizeLine = 16777216 := sizeLine_eq
    refine ⟨_, (pss_cons (ps_set (i := 2) sc_law_refused.nd rfl (Or.inl rfl) (pe_lst (pa_cons (pe_callTy (call_list_ofK (K := K)) rfl T.b_list bt_list (pa_cons (pv 0) pa_nil)) (pa_cons (pe_comp (CompOk.mk (caps := []) (Nc := ["tie"]) rfl (by decide +kernel) (by decide +kernel) (comp_fr (sc0 := defScope s_law_refused) rfl (by decide +kernel)) rfl rfl rfl (by decide +kernel) (fun _ _ h => by simp at h)) rfl (pi_listK (K := K) (pv 1)) (fun _ _ _ _ _ => .nil) (fun _ _ _ _ _ => (pe_callTy (call_list_ofK (K := K)) rfl T.b_list bt_list (pa_cons (pv 0) pa_nil)))) pa_nil))))
      (pss_cons (ps_set (i := 3) sc_law_refused.nd rfl (Or.inl rfl) pe_non)
      (pss_cons (ps_try (j := 4) ⟨rfl, rfl, rfl⟩ rfl (psxs_one (psx_expr (pex_make T.o_Loom.m (G_Loom___init__.mono (by decide)) hr rfl T.k_Loom T.m_Loom___init__.b .nil (pa_cons (pe_ix (ix_listK (K := K)) (pv 2) pe_int (fun _ _ => rfl)) (pa_cons (pe_ix (ix_listK (K := K)) (pv 2) pe_int (fun _ _ => rfl)) pa_nil))))) sc_law_refused.nd rfl rfl rfl T.k_WeaveError T.x_WeaveError.q has_base (fun _ => (pss_one (ps_set (i := 3) sc_law_refused.nd rfl (Or.inl rfl) (pv 4)))))
      (pss_cons (ps_if (PW.pt (pw_or (pt_not (pt_val (pe_callB (call_isx (K := K)) rfl T.b_isinstance bt_isinstance (pa_cons (pv 3) (pa_cons (pe_glob (v := .ref t.e_NoDraft) rfl T.k_NoDraft rfl) pa_nil))))) (pw_or1 (pt_val (pe_callB (call_isxT (K := K)) rfl T.b_isinstance bt_isinstance (pa_cons (pv 3) (pa_cons (pe_tup (pa_cons (pe_glob (v := .ref t.e_NoCloth) rfl T.k_NoCloth rfl) (pa_cons (pe_glob (v := .ref t.e_NoDeed) rfl T.k_NoDeed rfl) (pa_cons (pe_glob (v := .ref t.e_NoRow) rfl T.k_NoRow rfl) (pa_cons (pe_glob (v := .ref t.e_NoStrand) rfl T.k_NoStrand rfl) (pa_cons (pe_glob (v := .ref t.e_TooLarge) rfl T.k_TooLarge rfl) pa_nil)))))) pa_nil)))))))
        (pss_one (ps_ret pe_bl))
        pss_nil)
      (pss_cons (ps_if (pt_not (pt_val (pe_callB (call_isx (K := K)) rfl T.b_isinstance bt_isinstance (pa_cons (pv 3) (pa_cons (pe_bltn (v := .ty "ValueError") rfl T.b_ValueError bt_ValueError rfl) pa_nil)))))
        (pss_one (ps_ret pe_bl))
        pss_nil)
      (pss_one (ps_ret (pe_and (pe_cmpR (op_eqLK (K := K) (hr.units0)) (pe_ix (ix_listK (K := K)) (pv 2) pe_int (fun _ _ => rfl)) (pv 0) (nomark _)) (pe_one (pe_cmpR (op_eqLL (K := K) (hr.units100)) (pe_ix (ix_listK (K := K)) (pv 2) pe_int (fun _ _ => rfl)) (pv 1) (nomark _))))))))))), ?_⟩
    refine ⟨_, rfl, _, _, rfl, .inl (SqL.of hx), fun lx nlx => ?_⟩
    have s1 : Same H (upd H lx (.lst (vI th))) := .upd nlx
    have g1 : (upd H lx (.lst (vI th))) lx = some (.lst (vI th)) := upd_same
    generalize upd H lx (.lst (vI th)) = H1 at s1 g1 ⊢
    have N1 := N.same s1
    refine ⟨_, rfl, _, rfl, ⟨_, SqL.of N1.h⟩, comp_list (K := K) (a := y) (xs := rs.map V.ref) (fun i ys H5 => Same H1 H5 ∧ ∃ qs : List Addr, ys = qs.map V.ref ∧ Cps H1 H5 qs tss i) ⟨.refl _, [], rfl, Cps.nil _ _ _⟩ ?_ ?_ ?_ ?_⟩
    · rintro i ys H5 hi ⟨s5, qs, rfl, C⟩
      exact ⟨SqL.of (s5 _ _ N1.h), by rw [List.length_map, C.1]; exact Nat.le_refl _⟩
    · rw [List.length_map, N.l]; omega
    · rintro i xv ys H5 hi hxv ⟨s5, qs, rfl, C⟩
      obtain ⟨r', ks', rfl, _, hks, hr'⟩ := N1.at hxv
      refine CTurn.no ?_
      refine ⟨_, rfl, _, _, rfl, .inl (SqL.of (s5 _ _ hr')), fun l nl => ?_⟩
      exact CN.of hi ⟨s5.new nl, qs ++ [l], by rw [List.map_append]; rfl, C.add nl (s5.free nl) hks⟩
    rintro ys H5 ly ⟨s5, qs, rfl, C5⟩ nly
    rw [List.length_map, N.l] at C5
    have s6' : Same H5 (upd H5 ly (.lst (qs.map V.ref))) := .upd nly
    have hly6 : (upd H5 ly (.lst (qs.map V.ref))) ly = some (.lst (qs.map V.ref)) := upd_same
    generalize upd H5 ly (.lst (qs.map V.ref)) = H6 at s6' hly6 ⊢
    have s6 := s5.trans s6'
    have M6 : NL H6 ly qs tss := ⟨hly6, C5.1, fun j q ks h1 h2 => s6' _ _ (C5.2.2 j q ks h1 h2)⟩
    refine ⟨(by show 2 ≤ sizeLine; decide), fun p np => ?_⟩
    have s7 : Same H6 (upd H6 p (.lst [.ref lx, .ref ly])) := .upd np
    have hp7 : (upd H6 p (.lst [.ref lx, .ref ly])) p = some (.lst [.ref lx, .ref ly]) := upd_same
    generalize upd H6 p (.lst [.ref lx, .ref ly]) = H7 at s7 hp7 ⊢
    have u7 := s1.trans (s6.trans s7)
    have g7 := (s6.trans s7) _ _ g1
    have M7 := M6.same s7
    have N7 := N.same u7
    have a0 : atI [V.ref lx, V.ref ly] 0 = some (.ref lx) := atI_of (by decide) rfl
    have a1 : atI [V.ref lx, V.ref ly] 1 = some (.ref ly) := atI_of (by decide) rfl
    refine ⟨_, rfl, _, _, _, _, rfl, rfl, SqL.of hp7, a0, _, rfl, _, _, _, _, rfl, rfl, SqL.of hp7, a1, fun d dx nd ndx ndd => ?_⟩
    have sd : Same H7 (upd (upd H7 dx (.own d)) d (.ins t.e_Loom dx [])) := (Same.upd ndx).over nd
    refine ⟨d, dx, lx, ly, qs, th, tss, rfl, upd_same, sd _ _ g7, M7.same sd, by omega, by omega, fun ks h => Nat.le_trans (l3 ks h) (by decide), fun ok => absurd ok bad, fun _ => ?_⟩
    refine ⟨_, rfl, T.x_NoDraft.sub T.r_NoDraft_WeaveError, fun ea ne => ?_⟩
    have se := Same.upd (o := exH t.e_NoDraft ea) ne
    have he : (upd (upd (upd H7 dx (.own d)) d (.ins t.e_Loom dx [])) ea (exH t.e_NoDraft ea)) ea = some (exH t.e_NoDraft ea) := upd_same
    have u8 := sd.trans se
    generalize upd (upd (upd H7 dx (.own d)) d (.ins t.e_Loom dx [])) ea (exH t.e_NoDraft ea) = H8 at he u8 ⊢
    refine ⟨_, rfl, ?_⟩
    refine ⟨_, rfl, ea, t.e_NoDraft, true, he, T.x_NoDraft.c, .inr ⟨t.e_NoDraft, rfl, kit_ref T.r_NoDraft_NoDraft T.x_NoDraft T.r_NoDraft_NoDraft⟩, _, rfl, ?_⟩
    refine iteF ?_
    refine ⟨_, rfl, (by show 5 ≤ sizeLine; decide), fun q hq => ?_⟩
    have s9 := Same.upd (o := .tup [.ref t.e_NoCloth, .ref t.e_NoDeed, .ref t.e_NoRow, .ref t.e_NoStrand, .ref t.e_TooLarge]) hq
    have he9 := s9 _ _ he
    refine ⟨ea, t.e_NoDraft, q, [t.e_NoCloth, t.e_NoDeed, t.e_NoRow, t.e_NoStrand, t.e_TooLarge], false, rfl, he9, T.x_NoDraft.c, upd_same, any5 (kit_ref T.r_NoDraft_NoDraft T.x_NoCloth T.r_NoDraft_NoCloth) (kit_ref T.r_NoDraft_NoDraft T.x_NoDeed T.r_NoDraft_NoDeed) (kit_ref T.r_NoDraft_NoDraft T.x_NoRow T.r_NoDraft_NoRow) (kit_ref T.r_NoDraft_NoDraft T.x_NoStrand T.r_NoDraft_NoStrand) (kit_ref T.r_NoDraft_NoDraft T.x_TooLarge T.r_NoDraft_TooLarge), _, rfl, ?_⟩
    refine iteF ?_
    refine ⟨_, rfl, ea, t.e_NoDraft, true, he9, T.x_NoDraft.c, .inl ⟨_, rfl, kit_ve T.x_NoDraft⟩, _, rfl, ?_⟩
    refine iteF ?_
    have u9 := u8.trans s9
    refine ⟨_, rfl, _, _, _, _, rfl, rfl, SqL.of (u9 _ _ hp7), a0, _, rfl, _, _, _, _, rfl, rfl, SqL.of (u9 _ _ g7), SqL.of ((u7.trans u9) _ _ hx), vI_flat _, vI_flat _, _, rfl, ?_⟩
    rw [eqL_refl (vI_flat _)]
    refine iteT ?_
    refine ⟨_, rfl, _, _, _, _, rfl, rfl, SqL.of (u9 _ _ hp7), a1, _, rfl, _, _, rfl, rfl, nl_sam (M7.same u9) (N7.same u9), ?_⟩
    exact k _ (u7.trans u9)
end
end Mine

set_option Elab.async false
set_option linter.all false
set_option maxRecDepth 100000
set_option maxHeartbeats 4000000
namespace Mine
open PySem L2
section
variable {P : Program} {w : World} {K : PySem.W.Frag} {mg : Str → Option Value} {base : Heap} {t : Adr}
theorem shd_dots (th : List Int) : shd th [] = List.replicate th.length 46 := by
  unfold shd
  simp [List.map_const']
theorem rep_dots (n : Nat) : (List.replicate n [46]).flatten = List.replicate n 46 := by
  induction n with
  | zero => rfl
  | succ n ih => rw [List.replicate_succ, List.flatten_cons, ih, List.replicate_succ]; rfl
theorem dot : (("." : Str)) = tx [46] := by decide +kernel
def lsts (K : PySem.W.Frag) : List V → Hp → VK → Prop := fun xs H Q => ∃ p ys, xs = [V.ref p] ∧ (SqL K H p ys ∨ SqT K H p ys) ∧ ∀ l : Addr, H l = none → Q (.ref l) (upd H l (.lst ys))
/-- a new loom's shed -/
def teMk (K : PySem.W.Frag) (t : Adr) : TE := tMeth t.e_Loom "shed" (sp_shedM t) [] E0 (tMake t.e_Loom (sp_xlinit t) [] (fun _ _ _ => False) (tCons (tCB (lsts K) (tCons (tVar 3) tNil)) (tCons (tComp (iList K (tVar 4)) [] tNoTest (tCB (lsts K) (tCons (tVar 0) tNil))) tNil))) tNil
theorem mk_ok (T : Txt K mg t) {σ : St} {H0 : Hp} {Q0 : VK} {lt ly : Addr} {rs : List Addr} {th : List Int} {tss : List (List Int)} (OK : SetOk th tss) (hti : ∀ ks ∈ tss, Rs ks ∧ ks.length ≤ 40 ∧ ∀ k ∈ ks, k < ((40 : Nat) : Int)) (g3 : σ[3]? = some (some (.ref lt))) (g4 : σ[4]? = some (some (.ref ly))) (hth0 : H0 lt = some (.lst (vI th))) (N0 : NL H0 ly rs tss)
    (k0 : ∀ H8, Same H0 H8 → Q0 (.str (tx (List.replicate th.length 46))) H8) : teMk K t σ H0 Q0 := by
  have hsz : sizeLine = 16777216 := sizeLine_eq
  obtain ⟨⟨m1, m40⟩, ⟨t1, t40⟩, _⟩ := id OK
  refine ⟨_, g3, _, _, rfl, .inl (SqL.of hth0), fun lx nlx => ?_⟩
  have s1 : Same H0 (upd H0 lx (.lst (vI th))) := .upd nlx
  have g1 : (upd H0 lx (.lst (vI th))) lx = some (.lst (vI th)) := upd_same
  generalize upd H0 lx (.lst (vI th)) = H1 at s1 g1 ⊢
  have N1 := N0.same s1
  refine ⟨_, g4, _, rfl, ⟨_, SqL.of N1.h⟩, comp_list (K := K) (a := ly) (xs := rs.map V.ref) (fun i ys H5 => Same H1 H5 ∧ ∃ qs : List Addr, ys = qs.map V.ref ∧ Cps H1 H5 qs tss i) ⟨.refl _, [], rfl, Cps.nil _ _ _⟩ ?_ ?_ ?_ ?_⟩
  · rintro i ys H5 hi ⟨s5, qs, rfl, C⟩
    exact ⟨SqL.of (s5 _ _ N1.h), by rw [List.length_map, C.1]; exact Nat.le_refl _⟩
  · rw [List.length_map, N0.l]; omega
  · rintro i xv ys H5 hi hxv ⟨s5, qs, rfl, C⟩
    obtain ⟨r', ks', rfl, _, hks, hr'⟩ := N1.at hxv
    refine CTurn.no ?_
    refine ⟨_, rfl, _, _, rfl, .inl (SqL.of (s5 _ _ hr')), fun l nl => ?_⟩
    exact CN.of hi ⟨s5.new nl, qs ++ [l], by rw [List.map_append]; rfl, C.add nl (s5.free nl) hks⟩
  rintro ys H5 lz ⟨s5, qs, rfl, C5⟩ nlz
  rw [List.length_map, N0.l] at C5
  have s6' : Same H5 (upd H5 lz (.lst (qs.map V.ref))) := .upd nlz
  have hlz6 : (upd H5 lz (.lst (qs.map V.ref))) lz = some (.lst (qs.map V.ref)) := upd_same
  generalize upd H5 lz (.lst (qs.map V.ref)) = H6 at s6' hlz6 ⊢
  have s6 := s5.trans s6'
  have M6 : NL H6 lz qs tss := ⟨hlz6, C5.1, fun j q ks h1 h2 => s6' _ _ (C5.2.2 j q ks h1 h2)⟩
  have u6 : Same H0 H6 := s1.trans s6
  refine fun d dx nd ndx ndd => ?_
  have sd : Same H6 (upd (upd H6 dx (.own d)) d (.ins t.e_Loom dx [])) := (Same.upd ndx).over nd
  refine ⟨d, dx, lx, lz, qs, th, tss, rfl, upd_same, sd _ _ (s6 _ _ g1), M6.same sd, by omega, by omega, fun ks h => Nat.le_trans (hti ks h).2.1 (by decide), fun _ a b c e g qs' H7 b7 fr nds M => ⟨rfl, ?_⟩, fun bad => absurd OK bad⟩
  have s7 : Same H6 H7 := fun b o e => b7 b o (fun z => by rw [z, nd] at e; cases e) (sd _ _ e)
  refine ⟨_, _, _, rfl, M.o, rfl, d, dx, a, b, c, e, g, qs', th, tss, [], [], rfl, M, by omega, fun H8 s8 => ?_⟩
  rw [shd_dots]
  exact k0 _ ((u6.trans s7).trans s8)
def sp_law (K : PySem.W.Frag) : Sp := fun vs H Q _ => ∃ (a : Addr) (ns : List Int), vs = [.ref a] ∧ SqL K H a (vI ns) ∧ ns.length ≤ 63 ∧ ∀ H', Q (.bl true) H'
theorem sp_law_holds {K : PySem.W.Frag} {H : Hp} {a : Addr} {ns : List Int} (hl : ns.length ≤ 63) (hS : SqL K H a (ns.map V.int)) : sp_law K [.ref a] H (fun v _ => v = .bl true) fun _ _ _ => False := ⟨a, ns, rfl, hS, hl, fun _ => rfl⟩
theorem ok_law (T : Txt K mg t) : FnOk P w K mg base CX0 7 t.f_law t.d_law ["script"] (sp_law K) := by
  have G_law_size : FnOk P w K mg base CX0 1 t.f_law_size t.d_law_size _ _ := ok_law_size T
  have G_law_cell_at : FnOk P w K mg base CX0 1 t.f_law_cell_at t.d_law_cell_at _ _ := ok_law_cell_at T
  have G_law_sums : FnOk P w K mg base CX0 1 t.f_law_sums t.d_law_sums _ _ := ok_law_sums T
  have G_law_threading : FnOk P w K mg base CX0 2 t.f_law_threading t.d_law_threading _ _ := ok_law_threading T
  have G_law_ties : FnOk P w K mg base CX0 2 t.f_law_ties t.d_law_ties _ _ := ok_law_ties T
  have G_law_spoiled : FnOk P w K mg base CX0 2 t.f_law_spoiled t.d_law_spoiled _ _ := ok_law_spoiled T
  have G_law_refused : FnOk P w K mg base CX0 6 t.f_law_refused t.d_law_refused _ _ := ok_law_refused T
  have G_Loom_shed : FnOk P w K mg base CX0 2 t.f_Loom_shed t.d_Loom_shed _ _ := ok_Loom_shed T
  have G_Loom___init__ : FnOk P w K mg base (CX1 P w) 4 t.f_Loom___init__ t.d_Loom___init__ _ _ := okx_Loom___init__ T
  refine T.law.F.ok sc_law (fun vs H Q E h => ?_) (fun cdv A outer s H vs Q E hr h => ?_)
  · obtain ⟨a, ns, rfl, _⟩ := h
    rfl
  · obtain ⟨sc, ns, rfl, hS, hl, k⟩ := h
    have hsz : sizeLine = 16777216 := sizeLine_eq
    refine ⟨_, (pss_cons (ps_set (i := 1) sc_law.nd rfl (Or.inl rfl) (pe_call (G_law_size.mono (by decide)) hr rfl T.law_size.m T.law_size.F.kp T.law_size.b .nil pass0 (pa_cons (pe_call (G_law_cell_at.mono (by decide)) hr rfl T.law_cell_at.m T.law_cell_at.F.kp T.law_cell_at.b .nil pass0 (pa_cons (pv 0) (pa_cons pe_int pa_nil))) (pa_cons pe_int pa_nil))))
      (pss_cons (ps_set (i := 2) sc_law.nd rfl (Or.inl rfl) (pe_call (G_law_size.mono (by decide)) hr rfl T.law_size.m T.law_size.F.kp T.law_size.b .nil pass0 (pa_cons (pe_call (G_law_cell_at.mono (by decide)) hr rfl T.law_cell_at.m T.law_cell_at.F.kp T.law_cell_at.b .nil pass0 (pa_cons (pv 0) (pa_cons pe_int pa_nil))) (pa_cons pe_int pa_nil))))
      (pss_cons (ps_set (i := 3) sc_law.nd rfl (Or.inl rfl) (pe_call (G_law_threading.mono (by decide)) hr rfl T.law_threading.m T.law_threading.F.kp T.law_threading.b .nil pass0 (pa_cons (pv 0) (pa_cons (pv 1) (pa_cons pe_int pa_nil)))))
      (pss_cons (ps_set (i := 4) sc_law.nd rfl (Or.inl rfl) (pe_call (G_law_ties.mono (by decide)) hr rfl T.law_ties.m T.law_ties.F.kp T.law_ties.b .nil pass0 (pa_cons (pv 0) (pa_cons (pv 2) (pa_cons pe_int pa_nil)))))
      (pss_cons (ps_if (pt_cmpR op_ne (pe_meth0 (pe_make T.o_Loom.m (G_Loom___init__.mono (by decide)) hr rfl T.k_Loom T.m_Loom___init__.b .nil passF (pa_cons (pe_callTy (call_list_ofK (K := K)) rfl T.b_list bt_list (pa_cons (pv 3) pa_nil)) (pa_cons (pe_comp (CompOk.mk (caps := []) (Nc := ["tie"]) rfl (by decide +kernel) (by decide +kernel) (comp_fr (sc0 := defScope s_law) rfl (by decide +kernel)) rfl rfl rfl (by decide +kernel) (fun _ _ h => by simp at h)) rfl (pi_listK (K := K) (pv 4)) (fun _ _ _ _ _ => .nil) (fun _ _ _ _ _ => (pe_callTy (call_list_ofK (K := K)) rfl T.b_list bt_list (pa_cons (pv 0) pa_nil)))) pa_nil))) T.o_Loom.c T.m_Loom_shed.m (G_Loom_shed.mono (by decide)) hr T.m_Loom_shed.b .nil pass0) (pe_op op_repS pe_str (pv 1)) (nomark _))
        (pss_one (ps_ret pe_bl))
        pss_nil)
      (pss_cons (ps_set (i := 5) sc_law.nd rfl (Or.inl rfl) (pe_call (G_law_spoiled.mono (by decide)) hr rfl T.law_spoiled.m T.law_spoiled.F.kp T.law_spoiled.b .nil pass0 (pa_cons (pv 3) (pa_cons (pv 4) (pa_cons (pe_op op_add (pe_call (G_law_cell_at.mono (by decide)) hr rfl T.law_cell_at.m T.law_cell_at.F.kp T.law_cell_at.b .nil pass0 (pa_cons (pv 0) (pa_cons pe_int pa_nil))) (pe_callB (call_sumI (K := K)) rfl T.b_sum bt_sum (pa_cons (pe_call (G_law_sums.mono (by decide)) hr rfl T.law_sums.m T.law_sums.F.kp T.law_sums.b .nil pass0 (pa_cons (pv 0) (pa_cons pe_int (pa_cons pe_int pa_nil)))) pa_nil))) pa_nil)))))
      (pss_cons (ps_if (pt_not (pt_val (pe_call (G_law_refused.mono (by decide)) hr rfl T.law_refused.m T.law_refused.F.kp T.law_refused.b .nil pass0 (pa_cons (pe_ix (ix_tupK (K := K)) (pv 5) pe_int (fun _ _ => rfl)) (pa_cons (pe_ix (ix_tupK (K := K)) (pv 5) pe_int (fun _ _ => rfl)) pa_nil)))))
        (pss_one (ps_ret pe_bl))
        pss_nil)
      (pss_one (ps_ret (pe_cmpR op_eq (pe_meth0 (pe_make T.o_Loom.m (G_Loom___init__.mono (by decide)) hr rfl T.k_Loom T.m_Loom___init__.b .nil passF (pa_cons (pe_callTy (call_list_ofK (K := K)) rfl T.b_list bt_list (pa_cons (pv 3) pa_nil)) (pa_cons (pe_comp (CompOk.mk (caps := []) (Nc := ["tie"]) rfl (by decide +kernel) (by decide +kernel) (comp_fr (sc0 := defScope s_law) rfl (by decide +kernel)) rfl rfl rfl (by decide +kernel) (fun _ _ h => by simp at h)) rfl (pi_listK (K := K) (pv 4)) (fun _ _ _ _ _ => .nil) (fun _ _ _ _ _ => (pe_callTy (call_list_ofK (K := K)) rfl T.b_list bt_list (pa_cons (pv 0) pa_nil)))) pa_nil))) T.o_Loom.c T.m_Loom_shed.m (G_Loom_shed.mono (by decide)) hr T.m_Loom_shed.b .nil pass0) (pe_op op_repS pe_str (pv 1)) (nomark _))))))))))), ?_⟩
    refine ⟨_, rfl, sc, ns, 0, rfl, hS, by decide, fun c0 _ _ => ⟨c0, 8, rfl, by decide, by decide, fun en en1 en40 => ?_⟩⟩
    refine ⟨_, rfl, sc, ns, 1, rfl, hS, by decide, fun c1 _ _ => ⟨c1, 5, rfl, by decide, by decide, fun tr tr1 tr40 => ?_⟩⟩
    refine ⟨_, rfl, _, rfl, sc, ns, en, 40, rfl, hS, hl, en1, en40, by decide, by decide, fun lt th HA sA nlt hth thl hthb => ?_⟩
    refine ⟨_, rfl, _, rfl, sc, ns, tr, 40, rfl, sA.seq hS, hl, tr1, tr40, by decide, by decide, fun ly rs tss HB sB nly nrs N ttl hti => ?_⟩
    have OK : SetOk th tss := ⟨⟨by omega, by omega⟩, ⟨by omega, by omega⟩, hthb, fun ks h => (hti ks h).1⟩
    replace hth := sB _ _ hth
    refine mk_ok T OK hti rfl rfl hth N fun H8 uC => ?_
    refine ⟨_, rfl, [46], _, congrArg V.str dot, rfl, by omega, by omega, ?_, ?_⟩
    · show 1 * (en : Int).toNat ≤ sizeLine
      omega
    rw [rep_dots, Int.toNat_natCast]
    refine ⟨rfl, _, rfl, ?_⟩
    refine iteNS (by rw [thl]) ?_
    refine ⟨_, rfl, _, rfl, _, rfl, sc, ns, 2, rfl, ((sA.trans sB).trans uC).seq hS, by decide, fun c2 _ _ => ?_⟩
    refine ⟨_, rfl, sc, ns, 3, 1, rfl, ((sA.trans sB).trans uC).seq hS, hl, by decide, by decide, by decide, fun lq ks HE sE nlq hlq hkl => ?_⟩
    refine ⟨_, _, rfl, SqL.of hlq, _, _, rfl, rfl, ?_⟩
    have uE := uC.trans sE
    refine ⟨lt, ly, rs, th, tss, _, rfl, uE _ _ hth, N.same uE, OK, fun ks h => (hti ks h).2.1, fun p x' y' rs' th' tss' HF sF hp hx' N' bad b1 b2 b3 => ?_⟩
    have p0 : atI [V.ref x', V.ref y'] 0 = some (.ref x') := atI_of (by decide) rfl
    have p1 : atI [V.ref x', V.ref y'] 1 = some (.ref y') := atI_of (by decide) rfl
    refine ⟨_, rfl, _, _, _, _, rfl, rfl, SqT.of hp, p0, _, rfl, _, _, _, _, rfl, rfl, SqT.of hp, p1, x', y', rs', th', tss', rfl, hx', N', bad, b1, b2, b3, fun HD sD => ?_⟩
    refine ⟨_, rfl, ?_⟩
    refine iteF ?_
    have uD : Same HB HD := (uE.trans sF).trans sD
    refine mk_ok T OK hti rfl rfl (uD _ _ hth) (N.same uD) fun H9 u9 => ?_
    refine ⟨_, rfl, [46], _, congrArg V.str dot, rfl, by omega, by omega, ?_, ?_⟩
    · show 1 * (en : Int).toNat ≤ sizeLine
      omega
    rw [rep_dots, Int.toNat_natCast]
    refine ⟨rfl, ?_⟩
    rw [thl, decide_eq_true rfl]
    exact k _
end
theorem law_mk {P : Program} {w : World} {K : PySem.W.Frag} {h : Heap} {mg : Str → Option Value} {fa : Addr} {f_wall : Addr} {od_wall an_wall : Option Addr} {sl_wall : Array (Option Value)} {oc_wall kV_wall dc_wall pm_wall cd_wall ct_wall : Value}
    {f_check_setting : Addr} {od_check_setting an_check_setting : Option Addr} {sl_check_setting : Array (Option Value)} {oc_check_setting kV_check_setting dc_check_setting pm_check_setting cd_check_setting ct_check_setting : Value}
    {f_check_count : Addr} {od_check_count an_check_count : Option Addr} {sl_check_count : Array (Option Value)} {oc_check_count kV_check_count dc_check_count pm_check_count cd_check_count ct_check_count : Value}
    {f_check_shaft : Addr} {od_check_shaft an_check_shaft : Option Addr} {sl_check_shaft : Array (Option Value)} {oc_check_shaft kV_check_shaft dc_check_shaft pm_check_shaft cd_check_shaft ct_check_shaft : Value}
    {f_check_tie : Addr} {od_check_tie an_check_tie : Option Addr} {sl_check_tie : Array (Option Value)} {oc_check_tie kV_check_tie dc_check_tie pm_check_tie cd_check_tie ct_check_tie : Value}
    {f_check_treading : Addr} {od_check_treading an_check_treading : Option Addr} {sl_check_treading : Array (Option Value)} {oc_check_treading kV_check_treading dc_check_treading pm_check_treading cd_check_treading ct_check_treading : Value}
    {f_shed_over : Addr} {od_shed_over an_shed_over : Option Addr} {sl_shed_over : Array (Option Value)} {oc_shed_over kV_shed_over dc_shed_over pm_shed_over cd_shed_over ct_shed_over : Value}
    {f_unlike : Addr} {od_unlike an_unlike : Option Addr} {sl_unlike : Array (Option Value)} {oc_unlike kV_unlike dc_unlike pm_unlike cd_unlike ct_unlike : Value}
    {f_law_cell_at : Addr} {od_law_cell_at an_law_cell_at : Option Addr} {sl_law_cell_at : Array (Option Value)} {oc_law_cell_at kV_law_cell_at dc_law_cell_at pm_law_cell_at cd_law_cell_at ct_law_cell_at : Value}
    {f_law_sums : Addr} {od_law_sums an_law_sums : Option Addr} {sl_law_sums : Array (Option Value)} {oc_law_sums kV_law_sums dc_law_sums pm_law_sums cd_law_sums ct_law_sums : Value}
    {f_law_size : Addr} {od_law_size an_law_size : Option Addr} {sl_law_size : Array (Option Value)} {oc_law_size kV_law_size dc_law_size pm_law_size cd_law_size ct_law_size : Value}
    {f_law_threading : Addr} {od_law_threading an_law_threading : Option Addr} {sl_law_threading : Array (Option Value)} {oc_law_threading kV_law_threading dc_law_threading pm_law_threading cd_law_threading ct_law_threading : Value}
    {f_law_tie : Addr} {od_law_tie an_law_tie : Option Addr} {sl_law_tie : Array (Option Value)} {oc_law_tie kV_law_tie dc_law_tie pm_law_tie cd_law_tie ct_law_tie : Value}
    {f_law_ties : Addr} {od_law_ties an_law_ties : Option Addr} {sl_law_ties : Array (Option Value)} {oc_law_ties kV_law_ties dc_law_ties pm_law_ties cd_law_ties ct_law_ties : Value}
    {f_law_far : Addr} {od_law_far an_law_far : Option Addr} {sl_law_far : Array (Option Value)} {oc_law_far kV_law_far dc_law_far pm_law_far cd_law_far ct_law_far : Value}
    {f_law_tie_spoiled : Addr} {od_law_tie_spoiled an_law_tie_spoiled : Option Addr} {sl_law_tie_spoiled : Array (Option Value)} {oc_law_tie_spoiled kV_law_tie_spoiled dc_law_tie_spoiled pm_law_tie_spoiled cd_law_tie_spoiled ct_law_tie_spoiled : Value}
    {f_law_spoiled : Addr} {od_law_spoiled an_law_spoiled : Option Addr} {sl_law_spoiled : Array (Option Value)} {oc_law_spoiled kV_law_spoiled dc_law_spoiled pm_law_spoiled cd_law_spoiled ct_law_spoiled : Value}
    {f_law_refused : Addr} {od_law_refused an_law_refused : Option Addr} {sl_law_refused : Array (Option Value)} {oc_law_refused kV_law_refused dc_law_refused pm_law_refused cd_law_refused ct_law_refused : Value}
    {f_law : Addr} {od_law an_law : Option Addr} {sl_law : Array (Option Value)} {oc_law kV_law dc_law pm_law cd_law ct_law : Value}
    {q_MOST_STRANDS : Tok}
    {q_MOST_SHAFTS : Tok}
    {e_WeaveError : Addr}
    {e_NoRow : Addr}
    {e_TooLarge : Addr}
    {e_NoCloth : Addr}
    {e_NoDraft : Addr}
    {e_NoStrand : Addr}
    {e_NoDeed : Addr}
    {e_Draft : Addr}
    {e_Loom : Addr}
    {f_Draft___init__ : Addr} {od_Draft___init__ an_Draft___init__ : Option Addr} {sl_Draft___init__ : Array (Option Value)} {oc_Draft___init__ kV_Draft___init__ dc_Draft___init__ pm_Draft___init__ cd_Draft___init__ ct_Draft___init__ : Value}
    {f_Loom___init__ : Addr} {od_Loom___init__ an_Loom___init__ : Option Addr} {sl_Loom___init__ : Array (Option Value)} {oc_Loom___init__ kV_Loom___init__ dc_Loom___init__ pm_Loom___init__ cd_Loom___init__ ct_Loom___init__ : Value}
    {f_Loom_press : Addr} {od_Loom_press an_Loom_press : Option Addr} {sl_Loom_press : Array (Option Value)} {oc_Loom_press kV_Loom_press dc_Loom_press pm_Loom_press cd_Loom_press ct_Loom_press : Value}
    {f_Loom_lift : Addr} {od_Loom_lift an_Loom_lift : Option Addr} {sl_Loom_lift : Array (Option Value)} {oc_Loom_lift kV_Loom_lift dc_Loom_lift pm_Loom_lift cd_Loom_lift ct_Loom_lift : Value}
    {f_Loom_throw : Addr} {od_Loom_throw an_Loom_throw : Option Addr} {sl_Loom_throw : Array (Option Value)} {oc_Loom_throw kV_Loom_throw dc_Loom_throw pm_Loom_throw cd_Loom_throw ct_Loom_throw : Value}
    {f_Loom_unthrow : Addr} {od_Loom_unthrow an_Loom_unthrow : Option Addr} {sl_Loom_unthrow : Array (Option Value)} {oc_Loom_unthrow kV_Loom_unthrow dc_Loom_unthrow pm_Loom_unthrow cd_Loom_unthrow ct_Loom_unthrow : Value}
    {f_Loom_undo : Addr} {od_Loom_undo an_Loom_undo : Option Addr} {sl_Loom_undo : Array (Option Value)} {oc_Loom_undo kV_Loom_undo dc_Loom_undo pm_Loom_undo cd_Loom_undo ct_Loom_undo : Value}
    {f_Loom_deeds_done : Addr} {od_Loom_deeds_done an_Loom_deeds_done : Option Addr} {sl_Loom_deeds_done : Array (Option Value)} {oc_Loom_deeds_done kV_Loom_deeds_done dc_Loom_deeds_done pm_Loom_deeds_done cd_Loom_deeds_done ct_Loom_deeds_done : Value}
    {f_Loom_treadles_down : Addr} {od_Loom_treadles_down an_Loom_treadles_down : Option Addr} {sl_Loom_treadles_down : Array (Option Value)} {oc_Loom_treadles_down kV_Loom_treadles_down dc_Loom_treadles_down pm_Loom_treadles_down cd_Loom_treadles_down ct_Loom_treadles_down : Value}
    {f_Loom_shed : Addr} {od_Loom_shed an_Loom_shed : Option Addr} {sl_Loom_shed : Array (Option Value)} {oc_Loom_shed kV_Loom_shed dc_Loom_shed pm_Loom_shed cd_Loom_shed ct_Loom_shed : Value}
    {f_Loom_cloth : Addr} {od_Loom_cloth an_Loom_cloth : Option Addr} {sl_Loom_cloth : Array (Option Value)} {oc_Loom_cloth kV_Loom_cloth dc_Loom_cloth pm_Loom_cloth cd_Loom_cloth ct_Loom_cloth : Value}
    {f_Loom_colours : Addr} {od_Loom_colours an_Loom_colours : Option Addr} {sl_Loom_colours : Array (Option Value)} {oc_Loom_colours kV_Loom_colours dc_Loom_colours pm_Loom_colours cd_Loom_colours ct_Loom_colours : Value}
    {f_Loom_draft : Addr} {od_Loom_draft an_Loom_draft : Option Addr} {sl_Loom_draft : Array (Option Value)} {oc_Loom_draft kV_Loom_draft dc_Loom_draft pm_Loom_draft cd_Loom_draft ct_Loom_draft : Value}
    {f_Loom_lifted_shafts : Addr} {od_Loom_lifted_shafts an_Loom_lifted_shafts : Option Addr} {sl_Loom_lifted_shafts : Array (Option Value)} {oc_Loom_lifted_shafts kV_Loom_lifted_shafts dc_Loom_lifted_shafts pm_Loom_lifted_shafts cd_Loom_lifted_shafts ct_Loom_lifted_shafts : Value}
    (X : K.In h) (G : h.Ns mainGlobals mg) (hfa : mg "law" = some (.ref fa))
    (a_wall : PySem.W.nsIn K mainGlobals "_wall" = some (some (.ref f_wall)))
    (l_wall : K.lookup f_wall = some ⟨oc_wall, od_wall, .func (PySem.W.fnOf "_wall" "_wall" (defArgs s_wall) (defBody s_wall) (defScope s_wall) .none kV_wall dc_wall pm_wall an_wall cd_wall ct_wall), sl_wall⟩)
    (c_wall : PySem.W.codeIn K cd_wall "_wall" = true)
    (k_wall : PySem.W.keepIn K (.ref f_wall) = true)
    (a_check_setting : PySem.W.nsIn K mainGlobals "check_setting" = some (some (.ref f_check_setting)))
    (l_check_setting : K.lookup f_check_setting = some ⟨oc_check_setting, od_check_setting, .func (PySem.W.fnOf "check_setting" "check_setting" (defArgs s_check_setting) (defBody s_check_setting) (defScope s_check_setting) .none kV_check_setting dc_check_setting pm_check_setting an_check_setting cd_check_setting ct_check_setting), sl_check_setting⟩)
    (c_check_setting : PySem.W.codeIn K cd_check_setting "check_setting" = true)
    (k_check_setting : PySem.W.keepIn K (.ref f_check_setting) = true)
    (a_check_count : PySem.W.nsIn K mainGlobals "check_count" = some (some (.ref f_check_count)))
    (l_check_count : K.lookup f_check_count = some ⟨oc_check_count, od_check_count, .func (PySem.W.fnOf "check_count" "check_count" (defArgs s_check_count) (defBody s_check_count) (defScope s_check_count) .none kV_check_count dc_check_count pm_check_count an_check_count cd_check_count ct_check_count), sl_check_count⟩)
    (c_check_count : PySem.W.codeIn K cd_check_count "check_count" = true)
    (k_check_count : PySem.W.keepIn K (.ref f_check_count) = true)
    (a_check_shaft : PySem.W.nsIn K mainGlobals "check_shaft" = some (some (.ref f_check_shaft)))
    (l_check_shaft : K.lookup f_check_shaft = some ⟨oc_check_shaft, od_check_shaft, .func (PySem.W.fnOf "check_shaft" "check_shaft" (defArgs s_check_shaft) (defBody s_check_shaft) (defScope s_check_shaft) .none kV_check_shaft dc_check_shaft pm_check_shaft an_check_shaft cd_check_shaft ct_check_shaft), sl_check_shaft⟩)
    (c_check_shaft : PySem.W.codeIn K cd_check_shaft "check_shaft" = true)
    (k_check_shaft : PySem.W.keepIn K (.ref f_check_shaft) = true)
    (a_check_tie : PySem.W.nsIn K mainGlobals "check_tie" = some (some (.ref f_check_tie)))
    (l_check_tie : K.lookup f_check_tie = some ⟨oc_check_tie, od_check_tie, .func (PySem.W.fnOf "check_tie" "check_tie" (defArgs s_check_tie) (defBody s_check_tie) (defScope s_check_tie) .none kV_check_tie dc_check_tie pm_check_tie an_check_tie cd_check_tie ct_check_tie), sl_check_tie⟩)
    (c_check_tie : PySem.W.codeIn K cd_check_tie "check_tie" = true)
    (k_check_tie : PySem.W.keepIn K (.ref f_check_tie) = true)
    (a_check_treading : PySem.W.nsIn K mainGlobals "check_treading" = some (some (.ref f_check_treading)))
    (l_check_treading : K.lookup f_check_treading = some ⟨oc_check_treading, od_check_treading, .func (PySem.W.fnOf "check_treading" "check_treading" (defArgs s_check_treading) (defBody s_check_treading) (defScope s_check_treading) .none kV_check_treading dc_check_treading pm_check_treading an_check_treading cd_check_treading ct_check_treading), sl_check_treading⟩)
    (c_check_treading : PySem.W.codeIn K cd_check_treading "check_treading" = true)
    (k_check_treading : PySem.W.keepIn K (.ref f_check_treading) = true)
    (a_shed_over : PySem.W.nsIn K mainGlobals "shed_over" = some (some (.ref f_shed_over)))
    (l_shed_over : K.lookup f_shed_over = some ⟨oc_shed_over, od_shed_over, .func (PySem.W.fnOf "shed_over" "shed_over" (defArgs s_shed_over) (defBody s_shed_over) (defScope s_shed_over) .none kV_shed_over dc_shed_over pm_shed_over an_shed_over cd_shed_over ct_shed_over), sl_shed_over⟩)
    (c_shed_over : PySem.W.codeIn K cd_shed_over "shed_over" = true)
    (k_shed_over : PySem.W.keepIn K (.ref f_shed_over) = true)
    (a_unlike : PySem.W.nsIn K mainGlobals "unlike" = some (some (.ref f_unlike)))
    (l_unlike : K.lookup f_unlike = some ⟨oc_unlike, od_unlike, .func (PySem.W.fnOf "unlike" "unlike" (defArgs s_unlike) (defBody s_unlike) (defScope s_unlike) .none kV_unlike dc_unlike pm_unlike an_unlike cd_unlike ct_unlike), sl_unlike⟩)
    (c_unlike : PySem.W.codeIn K cd_unlike "unlike" = true)
    (k_unlike : PySem.W.keepIn K (.ref f_unlike) = true)
    (a_law_cell_at : PySem.W.nsIn K mainGlobals "_law_cell_at" = some (some (.ref f_law_cell_at)))
    (l_law_cell_at : K.lookup f_law_cell_at = some ⟨oc_law_cell_at, od_law_cell_at, .func (PySem.W.fnOf "_law_cell_at" "_law_cell_at" (defArgs s_law_cell_at) (defBody s_law_cell_at) (defScope s_law_cell_at) .none kV_law_cell_at dc_law_cell_at pm_law_cell_at an_law_cell_at cd_law_cell_at ct_law_cell_at), sl_law_cell_at⟩)
    (c_law_cell_at : PySem.W.codeIn K cd_law_cell_at "_law_cell_at" = true)
    (k_law_cell_at : PySem.W.keepIn K (.ref f_law_cell_at) = true)
    (a_law_sums : PySem.W.nsIn K mainGlobals "_law_sums" = some (some (.ref f_law_sums)))
    (l_law_sums : K.lookup f_law_sums = some ⟨oc_law_sums, od_law_sums, .func (PySem.W.fnOf "_law_sums" "_law_sums" (defArgs s_law_sums) (defBody s_law_sums) (defScope s_law_sums) .none kV_law_sums dc_law_sums pm_law_sums an_law_sums cd_law_sums ct_law_sums), sl_law_sums⟩)
    (c_law_sums : PySem.W.codeIn K cd_law_sums "_law_sums" = true)
    (k_law_sums : PySem.W.keepIn K (.ref f_law_sums) = true)
    (a_law_size : PySem.W.nsIn K mainGlobals "_law_size" = some (some (.ref f_law_size)))
    (l_law_size : K.lookup f_law_size = some ⟨oc_law_size, od_law_size, .func (PySem.W.fnOf "_law_size" "_law_size" (defArgs s_law_size) (defBody s_law_size) (defScope s_law_size) .none kV_law_size dc_law_size pm_law_size an_law_size cd_law_size ct_law_size), sl_law_size⟩)
    (c_law_size : PySem.W.codeIn K cd_law_size "_law_size" = true)
    (k_law_size : PySem.W.keepIn K (.ref f_law_size) = true)
    (a_law_threading : PySem.W.nsIn K mainGlobals "_law_threading" = some (some (.ref f_law_threading)))
    (l_law_threading : K.lookup f_law_threading = some ⟨oc_law_threading, od_law_threading, .func (PySem.W.fnOf "_law_threading" "_law_threading" (defArgs s_law_threading) (defBody s_law_threading) (defScope s_law_threading) .none kV_law_threading dc_law_threading pm_law_threading an_law_threading cd_law_threading ct_law_threading), sl_law_threading⟩)
    (c_law_threading : PySem.W.codeIn K cd_law_threading "_law_threading" = true)
    (k_law_threading : PySem.W.keepIn K (.ref f_law_threading) = true)
    (a_law_tie : PySem.W.nsIn K mainGlobals "_law_tie" = some (some (.ref f_law_tie)))
    (l_law_tie : K.lookup f_law_tie = some ⟨oc_law_tie, od_law_tie, .func (PySem.W.fnOf "_law_tie" "_law_tie" (defArgs s_law_tie) (defBody s_law_tie) (defScope s_law_tie) .none kV_law_tie dc_law_tie pm_law_tie an_law_tie cd_law_tie ct_law_tie), sl_law_tie⟩)
    (c_law_tie : PySem.W.codeIn K cd_law_tie "_law_tie" = true)
    (k_law_tie : PySem.W.keepIn K (.ref f_law_tie) = true)
    (a_law_ties : PySem.W.nsIn K mainGlobals "_law_ties" = some (some (.ref f_law_ties)))
    (l_law_ties : K.lookup f_law_ties = some ⟨oc_law_ties, od_law_ties, .func (PySem.W.fnOf "_law_ties" "_law_ties" (defArgs s_law_ties) (defBody s_law_ties) (defScope s_law_ties) .none kV_law_ties dc_law_ties pm_law_ties an_law_ties cd_law_ties ct_law_ties), sl_law_ties⟩)
    (c_law_ties : PySem.W.codeIn K cd_law_ties "_law_ties" = true)
    (k_law_ties : PySem.W.keepIn K (.ref f_law_ties) = true)
    (a_law_far : PySem.W.nsIn K mainGlobals "_law_far" = some (some (.ref f_law_far)))
    (l_law_far : K.lookup f_law_far = some ⟨oc_law_far, od_law_far, .func (PySem.W.fnOf "_law_far" "_law_far" (defArgs s_law_far) (defBody s_law_far) (defScope s_law_far) .none kV_law_far dc_law_far pm_law_far an_law_far cd_law_far ct_law_far), sl_law_far⟩)
    (c_law_far : PySem.W.codeIn K cd_law_far "_law_far" = true)
    (k_law_far : PySem.W.keepIn K (.ref f_law_far) = true)
    (a_law_tie_spoiled : PySem.W.nsIn K mainGlobals "_law_tie_spoiled" = some (some (.ref f_law_tie_spoiled)))
    (l_law_tie_spoiled : K.lookup f_law_tie_spoiled = some ⟨oc_law_tie_spoiled, od_law_tie_spoiled, .func (PySem.W.fnOf "_law_tie_spoiled" "_law_tie_spoiled" (defArgs s_law_tie_spoiled) (defBody s_law_tie_spoiled) (defScope s_law_tie_spoiled) .none kV_law_tie_spoiled dc_law_tie_spoiled pm_law_tie_spoiled an_law_tie_spoiled cd_law_tie_spoiled ct_law_tie_spoiled), sl_law_tie_spoiled⟩)
    (c_law_tie_spoiled : PySem.W.codeIn K cd_law_tie_spoiled "_law_tie_spoiled" = true)
    (k_law_tie_spoiled : PySem.W.keepIn K (.ref f_law_tie_spoiled) = true)
    (a_law_spoiled : PySem.W.nsIn K mainGlobals "_law_spoiled" = some (some (.ref f_law_spoiled)))
    (l_law_spoiled : K.lookup f_law_spoiled = some ⟨oc_law_spoiled, od_law_spoiled, .func (PySem.W.fnOf "_law_spoiled" "_law_spoiled" (defArgs s_law_spoiled) (defBody s_law_spoiled) (defScope s_law_spoiled) .none kV_law_spoiled dc_law_spoiled pm_law_spoiled an_law_spoiled cd_law_spoiled ct_law_spoiled), sl_law_spoiled⟩)
    (c_law_spoiled : PySem.W.codeIn K cd_law_spoiled "_law_spoiled" = true)
    (k_law_spoiled : PySem.W.keepIn K (.ref f_law_spoiled) = true)
    (a_law_refused : PySem.W.nsIn K mainGlobals "_law_refused" = some (some (.ref f_law_refused)))
    (l_law_refused : K.lookup f_law_refused = some ⟨oc_law_refused, od_law_refused, .func (PySem.W.fnOf "_law_refused" "_law_refused" (defArgs s_law_refused) (defBody s_law_refused) (defScope s_law_refused) .none kV_law_refused dc_law_refused pm_law_refused an_law_refused cd_law_refused ct_law_refused), sl_law_refused⟩)
    (c_law_refused : PySem.W.codeIn K cd_law_refused "_law_refused" = true)
    (k_law_refused : PySem.W.keepIn K (.ref f_law_refused) = true)
    (a_law : PySem.W.nsIn K mainGlobals "law" = some (some (.ref f_law)))
    (l_law : K.lookup f_law = some ⟨oc_law, od_law, .func (PySem.W.fnOf "law" "law" (defArgs s_law) (defBody s_law) (defScope s_law) .none kV_law dc_law pm_law an_law cd_law ct_law), sl_law⟩)
    (c_law : PySem.W.codeIn K cd_law "law" = true)
    (k_law : PySem.W.keepIn K (.ref f_law) = true)
    (z_ValueError : PySem.W.nsIn K mainGlobals "ValueError" = some none)
    (z_int : PySem.W.nsIn K mainGlobals "int" = some none)
    (z_isinstance : PySem.W.nsIn K mainGlobals "isinstance" = some none)
    (z_len : PySem.W.nsIn K mainGlobals "len" = some none)
    (z_list : PySem.W.nsIn K mainGlobals "list" = some none)
    (z_range : PySem.W.nsIn K mainGlobals "range" = some none)
    (z_set : PySem.W.nsIn K mainGlobals "set" = some none)
    (z_sorted : PySem.W.nsIn K mainGlobals "sorted" = some none)
    (z_sum : PySem.W.nsIn K mainGlobals "sum" = some none)
    (x_MOST_STRANDS : PySem.W.nsIn K mainGlobals "MOST_STRANDS" = some (some (.int 40 q_MOST_STRANDS)))
    (x_MOST_SHAFTS : PySem.W.nsIn K mainGlobals "MOST_SHAFTS" = some (some (.int 40 q_MOST_SHAFTS)))
    (n_WeaveError : PySem.W.nsIn K mainGlobals "WeaveError" = some (some (.ref e_WeaveError)))
    (n_NoRow : PySem.W.nsIn K mainGlobals "NoRow" = some (some (.ref e_NoRow)))
    (n_TooLarge : PySem.W.nsIn K mainGlobals "TooLarge" = some (some (.ref e_TooLarge)))
    (n_NoCloth : PySem.W.nsIn K mainGlobals "NoCloth" = some (some (.ref e_NoCloth)))
    (n_NoDraft : PySem.W.nsIn K mainGlobals "NoDraft" = some (some (.ref e_NoDraft)))
    (n_NoStrand : PySem.W.nsIn K mainGlobals "NoStrand" = some (some (.ref e_NoStrand)))
    (n_NoDeed : PySem.W.nsIn K mainGlobals "NoDeed" = some (some (.ref e_NoDeed)))
    (y1_WeaveError : PySem.W.excIn K e_WeaveError vE vN = true)
    (y2_WeaveError : PySem.W.findIn K (.ref e_WeaveError) "__getattribute__" = some (some (.builtin "BaseException.__getattribute__")))
    (y3_WeaveError : PySem.W.findIn K (.ref e_WeaveError) "__getattr__" = some none)
    (y4_WeaveError : PySem.W.findIn K (.ref e_WeaveError) "__class__" = some (some (.builtin "object.__class__")))
    (y5_WeaveError : PySem.W.specialIn K (.builtin "object.__class__") "__get__" = some (some (.builtin "getset_descriptor.__get__")))
    (y6_WeaveError : PySem.W.takesIn K (.builtin "object.__class__") = some true)
    (y7_WeaveError : PySem.W.mroIn K e_WeaveError (.type "object") = some true)
    (y8_WeaveError : PySem.W.mroIn K e_WeaveError (.type "BaseException") = some true)
    (y9_WeaveError : PySem.W.isClsIn K e_WeaveError = true)
    (y10_WeaveError : PySem.W.typeIn K (.ref e_WeaveError) = some (.type "type"))
    (y11_WeaveError : PySem.W.mroIn K e_WeaveError (.type "ValueError") = some true)
    (y1_NoRow : PySem.W.excIn K e_NoRow vE vN = true)
    (y2_NoRow : PySem.W.findIn K (.ref e_NoRow) "__getattribute__" = some (some (.builtin "BaseException.__getattribute__")))
    (y3_NoRow : PySem.W.findIn K (.ref e_NoRow) "__getattr__" = some none)
    (y4_NoRow : PySem.W.findIn K (.ref e_NoRow) "__class__" = some (some (.builtin "object.__class__")))
    (y7_NoRow : PySem.W.mroIn K e_NoRow (.type "object") = some true)
    (y8_NoRow : PySem.W.mroIn K e_NoRow (.type "BaseException") = some true)
    (y9_NoRow : PySem.W.isClsIn K e_NoRow = true)
    (y10_NoRow : PySem.W.typeIn K (.ref e_NoRow) = some (.type "type"))
    (y11_NoRow : PySem.W.mroIn K e_NoRow (.type "ValueError") = some true)
    (y1_TooLarge : PySem.W.excIn K e_TooLarge vE vN = true)
    (y2_TooLarge : PySem.W.findIn K (.ref e_TooLarge) "__getattribute__" = some (some (.builtin "BaseException.__getattribute__")))
    (y3_TooLarge : PySem.W.findIn K (.ref e_TooLarge) "__getattr__" = some none)
    (y4_TooLarge : PySem.W.findIn K (.ref e_TooLarge) "__class__" = some (some (.builtin "object.__class__")))
    (y7_TooLarge : PySem.W.mroIn K e_TooLarge (.type "object") = some true)
    (y8_TooLarge : PySem.W.mroIn K e_TooLarge (.type "BaseException") = some true)
    (y9_TooLarge : PySem.W.isClsIn K e_TooLarge = true)
    (y10_TooLarge : PySem.W.typeIn K (.ref e_TooLarge) = some (.type "type"))
    (y11_TooLarge : PySem.W.mroIn K e_TooLarge (.type "ValueError") = some true)
    (y1_NoCloth : PySem.W.excIn K e_NoCloth vE vN = true)
    (y2_NoCloth : PySem.W.findIn K (.ref e_NoCloth) "__getattribute__" = some (some (.builtin "BaseException.__getattribute__")))
    (y3_NoCloth : PySem.W.findIn K (.ref e_NoCloth) "__getattr__" = some none)
    (y4_NoCloth : PySem.W.findIn K (.ref e_NoCloth) "__class__" = some (some (.builtin "object.__class__")))
    (y7_NoCloth : PySem.W.mroIn K e_NoCloth (.type "object") = some true)
    (y8_NoCloth : PySem.W.mroIn K e_NoCloth (.type "BaseException") = some true)
    (y9_NoCloth : PySem.W.isClsIn K e_NoCloth = true)
    (y10_NoCloth : PySem.W.typeIn K (.ref e_NoCloth) = some (.type "type"))
    (y11_NoCloth : PySem.W.mroIn K e_NoCloth (.type "ValueError") = some true)
    (y1_NoDraft : PySem.W.excIn K e_NoDraft vE vN = true)
    (y2_NoDraft : PySem.W.findIn K (.ref e_NoDraft) "__getattribute__" = some (some (.builtin "BaseException.__getattribute__")))
    (y3_NoDraft : PySem.W.findIn K (.ref e_NoDraft) "__getattr__" = some none)
    (y4_NoDraft : PySem.W.findIn K (.ref e_NoDraft) "__class__" = some (some (.builtin "object.__class__")))
    (y7_NoDraft : PySem.W.mroIn K e_NoDraft (.type "object") = some true)
    (y8_NoDraft : PySem.W.mroIn K e_NoDraft (.type "BaseException") = some true)
    (y9_NoDraft : PySem.W.isClsIn K e_NoDraft = true)
    (y10_NoDraft : PySem.W.typeIn K (.ref e_NoDraft) = some (.type "type"))
    (y11_NoDraft : PySem.W.mroIn K e_NoDraft (.type "ValueError") = some true)
    (r_NoDraft_WeaveError : PySem.W.mroIn K e_NoDraft (.ref e_WeaveError) = some true)
    (r_NoDraft_NoRow : PySem.W.mroIn K e_NoDraft (.ref e_NoRow) = some false)
    (r_NoDraft_TooLarge : PySem.W.mroIn K e_NoDraft (.ref e_TooLarge) = some false)
    (r_NoDraft_NoCloth : PySem.W.mroIn K e_NoDraft (.ref e_NoCloth) = some false)
    (r_NoDraft_NoDraft : PySem.W.mroIn K e_NoDraft (.ref e_NoDraft) = some true)
    (r_NoDraft_NoStrand : PySem.W.mroIn K e_NoDraft (.ref e_NoStrand) = some false)
    (r_NoDraft_NoDeed : PySem.W.mroIn K e_NoDraft (.ref e_NoDeed) = some false)
    (y1_NoStrand : PySem.W.excIn K e_NoStrand vE vN = true)
    (y2_NoStrand : PySem.W.findIn K (.ref e_NoStrand) "__getattribute__" = some (some (.builtin "BaseException.__getattribute__")))
    (y3_NoStrand : PySem.W.findIn K (.ref e_NoStrand) "__getattr__" = some none)
    (y4_NoStrand : PySem.W.findIn K (.ref e_NoStrand) "__class__" = some (some (.builtin "object.__class__")))
    (y7_NoStrand : PySem.W.mroIn K e_NoStrand (.type "object") = some true)
    (y8_NoStrand : PySem.W.mroIn K e_NoStrand (.type "BaseException") = some true)
    (y9_NoStrand : PySem.W.isClsIn K e_NoStrand = true)
    (y10_NoStrand : PySem.W.typeIn K (.ref e_NoStrand) = some (.type "type"))
    (y11_NoStrand : PySem.W.mroIn K e_NoStrand (.type "ValueError") = some true)
    (y1_NoDeed : PySem.W.excIn K e_NoDeed vE vN = true)
    (y2_NoDeed : PySem.W.findIn K (.ref e_NoDeed) "__getattribute__" = some (some (.builtin "BaseException.__getattribute__")))
    (y3_NoDeed : PySem.W.findIn K (.ref e_NoDeed) "__getattr__" = some none)
    (y4_NoDeed : PySem.W.findIn K (.ref e_NoDeed) "__class__" = some (some (.builtin "object.__class__")))
    (y7_NoDeed : PySem.W.mroIn K e_NoDeed (.type "object") = some true)
    (y8_NoDeed : PySem.W.mroIn K e_NoDeed (.type "BaseException") = some true)
    (y9_NoDeed : PySem.W.isClsIn K e_NoDeed = true)
    (y10_NoDeed : PySem.W.typeIn K (.ref e_NoDeed) = some (.type "type"))
    (y11_NoDeed : PySem.W.mroIn K e_NoDeed (.type "ValueError") = some true)
    (n_Draft : PySem.W.nsIn K mainGlobals "Draft" = some (some (.ref e_Draft)))
    (n_Loom : PySem.W.nsIn K mainGlobals "Loom" = some (some (.ref e_Loom)))
    (fm_Draft___init__ : PySem.W.findIn K (.ref e_Draft) "__init__" = some (some (.ref f_Draft___init__)))
    (gm_Draft___init__ : PySem.W.isFn K (.ref f_Draft___init__) = true)
    (lm_Draft___init__ : K.lookup f_Draft___init__ = some ⟨oc_Draft___init__, od_Draft___init__, .func (PySem.W.fnOf "__init__" "Draft.__init__" (defArgs s_Draft___init__) (defBody s_Draft___init__) (defScope s_Draft___init__) .none kV_Draft___init__ dc_Draft___init__ pm_Draft___init__ an_Draft___init__ cd_Draft___init__ ct_Draft___init__), sl_Draft___init__⟩)
    (cm_Draft___init__ : PySem.W.codeIn K cd_Draft___init__ "Draft.__init__" = true)
    (km_Draft___init__ : PySem.W.keepIn K (.ref f_Draft___init__) = true)
    (fm_Loom___init__ : PySem.W.findIn K (.ref e_Loom) "__init__" = some (some (.ref f_Loom___init__)))
    (gm_Loom___init__ : PySem.W.isFn K (.ref f_Loom___init__) = true)
    (lm_Loom___init__ : K.lookup f_Loom___init__ = some ⟨oc_Loom___init__, od_Loom___init__, .func (PySem.W.fnOf "__init__" "Loom.__init__" (defArgs s_Loom___init__) (defBody s_Loom___init__) (defScope s_Loom___init__) .none kV_Loom___init__ dc_Loom___init__ pm_Loom___init__ an_Loom___init__ cd_Loom___init__ ct_Loom___init__), sl_Loom___init__⟩)
    (cm_Loom___init__ : PySem.W.codeIn K cd_Loom___init__ "Loom.__init__" = true)
    (km_Loom___init__ : PySem.W.keepIn K (.ref f_Loom___init__) = true)
    (fm_Loom_press : PySem.W.findIn K (.ref e_Loom) "press" = some (some (.ref f_Loom_press)))
    (gm_Loom_press : PySem.W.isFn K (.ref f_Loom_press) = true)
    (lm_Loom_press : K.lookup f_Loom_press = some ⟨oc_Loom_press, od_Loom_press, .func (PySem.W.fnOf "press" "Loom.press" (defArgs s_Loom_press) (defBody s_Loom_press) (defScope s_Loom_press) .none kV_Loom_press dc_Loom_press pm_Loom_press an_Loom_press cd_Loom_press ct_Loom_press), sl_Loom_press⟩)
    (cm_Loom_press : PySem.W.codeIn K cd_Loom_press "Loom.press" = true)
    (km_Loom_press : PySem.W.keepIn K (.ref f_Loom_press) = true)
    (fm_Loom_lift : PySem.W.findIn K (.ref e_Loom) "lift" = some (some (.ref f_Loom_lift)))
    (gm_Loom_lift : PySem.W.isFn K (.ref f_Loom_lift) = true)
    (lm_Loom_lift : K.lookup f_Loom_lift = some ⟨oc_Loom_lift, od_Loom_lift, .func (PySem.W.fnOf "lift" "Loom.lift" (defArgs s_Loom_lift) (defBody s_Loom_lift) (defScope s_Loom_lift) .none kV_Loom_lift dc_Loom_lift pm_Loom_lift an_Loom_lift cd_Loom_lift ct_Loom_lift), sl_Loom_lift⟩)
    (cm_Loom_lift : PySem.W.codeIn K cd_Loom_lift "Loom.lift" = true)
    (km_Loom_lift : PySem.W.keepIn K (.ref f_Loom_lift) = true)
    (fm_Loom_throw : PySem.W.findIn K (.ref e_Loom) "throw" = some (some (.ref f_Loom_throw)))
    (gm_Loom_throw : PySem.W.isFn K (.ref f_Loom_throw) = true)
    (lm_Loom_throw : K.lookup f_Loom_throw = some ⟨oc_Loom_throw, od_Loom_throw, .func (PySem.W.fnOf "throw" "Loom.throw" (defArgs s_Loom_throw) (defBody s_Loom_throw) (defScope s_Loom_throw) .none kV_Loom_throw dc_Loom_throw pm_Loom_throw an_Loom_throw cd_Loom_throw ct_Loom_throw), sl_Loom_throw⟩)
    (cm_Loom_throw : PySem.W.codeIn K cd_Loom_throw "Loom.throw" = true)
    (km_Loom_throw : PySem.W.keepIn K (.ref f_Loom_throw) = true)
    (fm_Loom_unthrow : PySem.W.findIn K (.ref e_Loom) "unthrow" = some (some (.ref f_Loom_unthrow)))
    (gm_Loom_unthrow : PySem.W.isFn K (.ref f_Loom_unthrow) = true)
    (lm_Loom_unthrow : K.lookup f_Loom_unthrow = some ⟨oc_Loom_unthrow, od_Loom_unthrow, .func (PySem.W.fnOf "unthrow" "Loom.unthrow" (defArgs s_Loom_unthrow) (defBody s_Loom_unthrow) (defScope s_Loom_unthrow) .none kV_Loom_unthrow dc_Loom_unthrow pm_Loom_unthrow an_Loom_unthrow cd_Loom_unthrow ct_Loom_unthrow), sl_Loom_unthrow⟩)
    (cm_Loom_unthrow : PySem.W.codeIn K cd_Loom_unthrow "Loom.unthrow" = true)
    (km_Loom_unthrow : PySem.W.keepIn K (.ref f_Loom_unthrow) = true)
    (fm_Loom_undo : PySem.W.findIn K (.ref e_Loom) "undo" = some (some (.ref f_Loom_undo)))
    (gm_Loom_undo : PySem.W.isFn K (.ref f_Loom_undo) = true)
    (lm_Loom_undo : K.lookup f_Loom_undo = some ⟨oc_Loom_undo, od_Loom_undo, .func (PySem.W.fnOf "undo" "Loom.undo" (defArgs s_Loom_undo) (defBody s_Loom_undo) (defScope s_Loom_undo) .none kV_Loom_undo dc_Loom_undo pm_Loom_undo an_Loom_undo cd_Loom_undo ct_Loom_undo), sl_Loom_undo⟩)
    (cm_Loom_undo : PySem.W.codeIn K cd_Loom_undo "Loom.undo" = true)
    (km_Loom_undo : PySem.W.keepIn K (.ref f_Loom_undo) = true)
    (fm_Loom_deeds_done : PySem.W.findIn K (.ref e_Loom) "deeds_done" = some (some (.ref f_Loom_deeds_done)))
    (gm_Loom_deeds_done : PySem.W.isFn K (.ref f_Loom_deeds_done) = true)
    (lm_Loom_deeds_done : K.lookup f_Loom_deeds_done = some ⟨oc_Loom_deeds_done, od_Loom_deeds_done, .func (PySem.W.fnOf "deeds_done" "Loom.deeds_done" (defArgs s_Loom_deeds_done) (defBody s_Loom_deeds_done) (defScope s_Loom_deeds_done) .none kV_Loom_deeds_done dc_Loom_deeds_done pm_Loom_deeds_done an_Loom_deeds_done cd_Loom_deeds_done ct_Loom_deeds_done), sl_Loom_deeds_done⟩)
    (cm_Loom_deeds_done : PySem.W.codeIn K cd_Loom_deeds_done "Loom.deeds_done" = true)
    (km_Loom_deeds_done : PySem.W.keepIn K (.ref f_Loom_deeds_done) = true)
    (fm_Loom_treadles_down : PySem.W.findIn K (.ref e_Loom) "treadles_down" = some (some (.ref f_Loom_treadles_down)))
    (gm_Loom_treadles_down : PySem.W.isFn K (.ref f_Loom_treadles_down) = true)
    (lm_Loom_treadles_down : K.lookup f_Loom_treadles_down = some ⟨oc_Loom_treadles_down, od_Loom_treadles_down, .func (PySem.W.fnOf "treadles_down" "Loom.treadles_down" (defArgs s_Loom_treadles_down) (defBody s_Loom_treadles_down) (defScope s_Loom_treadles_down) .none kV_Loom_treadles_down dc_Loom_treadles_down pm_Loom_treadles_down an_Loom_treadles_down cd_Loom_treadles_down ct_Loom_treadles_down), sl_Loom_treadles_down⟩)
    (cm_Loom_treadles_down : PySem.W.codeIn K cd_Loom_treadles_down "Loom.treadles_down" = true)
    (km_Loom_treadles_down : PySem.W.keepIn K (.ref f_Loom_treadles_down) = true)
    (fm_Loom_shed : PySem.W.findIn K (.ref e_Loom) "shed" = some (some (.ref f_Loom_shed)))
    (gm_Loom_shed : PySem.W.isFn K (.ref f_Loom_shed) = true)
    (lm_Loom_shed : K.lookup f_Loom_shed = some ⟨oc_Loom_shed, od_Loom_shed, .func (PySem.W.fnOf "shed" "Loom.shed" (defArgs s_Loom_shed) (defBody s_Loom_shed) (defScope s_Loom_shed) .none kV_Loom_shed dc_Loom_shed pm_Loom_shed an_Loom_shed cd_Loom_shed ct_Loom_shed), sl_Loom_shed⟩)
    (cm_Loom_shed : PySem.W.codeIn K cd_Loom_shed "Loom.shed" = true)
    (km_Loom_shed : PySem.W.keepIn K (.ref f_Loom_shed) = true)
    (fm_Loom_cloth : PySem.W.findIn K (.ref e_Loom) "cloth" = some (some (.ref f_Loom_cloth)))
    (gm_Loom_cloth : PySem.W.isFn K (.ref f_Loom_cloth) = true)
    (lm_Loom_cloth : K.lookup f_Loom_cloth = some ⟨oc_Loom_cloth, od_Loom_cloth, .func (PySem.W.fnOf "cloth" "Loom.cloth" (defArgs s_Loom_cloth) (defBody s_Loom_cloth) (defScope s_Loom_cloth) .none kV_Loom_cloth dc_Loom_cloth pm_Loom_cloth an_Loom_cloth cd_Loom_cloth ct_Loom_cloth), sl_Loom_cloth⟩)
    (cm_Loom_cloth : PySem.W.codeIn K cd_Loom_cloth "Loom.cloth" = true)
    (km_Loom_cloth : PySem.W.keepIn K (.ref f_Loom_cloth) = true)
    (fm_Loom_colours : PySem.W.findIn K (.ref e_Loom) "colours" = some (some (.ref f_Loom_colours)))
    (gm_Loom_colours : PySem.W.isFn K (.ref f_Loom_colours) = true)
    (lm_Loom_colours : K.lookup f_Loom_colours = some ⟨oc_Loom_colours, od_Loom_colours, .func (PySem.W.fnOf "colours" "Loom.colours" (defArgs s_Loom_colours) (defBody s_Loom_colours) (defScope s_Loom_colours) .none kV_Loom_colours dc_Loom_colours pm_Loom_colours an_Loom_colours cd_Loom_colours ct_Loom_colours), sl_Loom_colours⟩)
    (cm_Loom_colours : PySem.W.codeIn K cd_Loom_colours "Loom.colours" = true)
    (km_Loom_colours : PySem.W.keepIn K (.ref f_Loom_colours) = true)
    (fm_Loom_draft : PySem.W.findIn K (.ref e_Loom) "draft" = some (some (.ref f_Loom_draft)))
    (gm_Loom_draft : PySem.W.isFn K (.ref f_Loom_draft) = true)
    (lm_Loom_draft : K.lookup f_Loom_draft = some ⟨oc_Loom_draft, od_Loom_draft, .func (PySem.W.fnOf "draft" "Loom.draft" (defArgs s_Loom_draft) (defBody s_Loom_draft) (defScope s_Loom_draft) .none kV_Loom_draft dc_Loom_draft pm_Loom_draft an_Loom_draft cd_Loom_draft ct_Loom_draft), sl_Loom_draft⟩)
    (cm_Loom_draft : PySem.W.codeIn K cd_Loom_draft "Loom.draft" = true)
    (km_Loom_draft : PySem.W.keepIn K (.ref f_Loom_draft) = true)
    (fm_Loom_lifted_shafts : PySem.W.findIn K (.ref e_Loom) "lifted_shafts" = some (some (.ref f_Loom_lifted_shafts)))
    (gm_Loom_lifted_shafts : PySem.W.isFn K (.ref f_Loom_lifted_shafts) = true)
    (lm_Loom_lifted_shafts : K.lookup f_Loom_lifted_shafts = some ⟨oc_Loom_lifted_shafts, od_Loom_lifted_shafts, .func (PySem.W.fnOf "lifted_shafts" "Loom.lifted_shafts" (defArgs s_Loom_lifted_shafts) (defBody s_Loom_lifted_shafts) (defScope s_Loom_lifted_shafts) .none kV_Loom_lifted_shafts dc_Loom_lifted_shafts pm_Loom_lifted_shafts an_Loom_lifted_shafts cd_Loom_lifted_shafts ct_Loom_lifted_shafts), sl_Loom_lifted_shafts⟩)
    (cm_Loom_lifted_shafts : PySem.W.codeIn K cd_Loom_lifted_shafts "Loom.lifted_shafts" = true)
    (km_Loom_lifted_shafts : PySem.W.keepIn K (.ref f_Loom_lifted_shafts) = true)
    (o1_Draft : PySem.W.plainGet K e_Draft Str.empty = true)
    (o2_Draft : PySem.W.hasDictIn K e_Draft = true)
    (o3_Draft : PySem.W.plainOver K e_Draft = true)
    (o4_Draft : PySem.W.findIn K (.ref e_Draft) "__setattr__" = some (some (.builtin "object.__setattr__")))
    (o5_Draft : PySem.W.makesIn K e_Draft = true)
    (o8_Draft : PySem.W.keepIn K (.ref e_Draft) = true)
    (na_Draft_threading : PySem.W.findIn K (.ref e_Draft) "threading" = some none)
    (na_Draft_ties : PySem.W.findIn K (.ref e_Draft) "ties" = some none)
    (na_Draft_treading : PySem.W.findIn K (.ref e_Draft) "treading" = some none)
    (o1_Loom : PySem.W.plainGet K e_Loom Str.empty = true)
    (o2_Loom : PySem.W.hasDictIn K e_Loom = true)
    (o3_Loom : PySem.W.plainOver K e_Loom = true)
    (o4_Loom : PySem.W.findIn K (.ref e_Loom) "__setattr__" = some (some (.builtin "object.__setattr__")))
    (o5_Loom : PySem.W.makesIn K e_Loom = true)
    (o8_Loom : PySem.W.keepIn K (.ref e_Loom) = true)
    (na_Loom_threading : PySem.W.findIn K (.ref e_Loom) "threading" = some none)
    (na_Loom_ties : PySem.W.findIn K (.ref e_Loom) "ties" = some none)
    (na_Loom_down : PySem.W.findIn K (.ref e_Loom) "down" = some none)
    (na_Loom_thrown : PySem.W.findIn K (.ref e_Loom) "thrown" = some none)
    (na_Loom_deeds : PySem.W.findIn K (.ref e_Loom) "deeds" = some none) :
    ∃ fd : FuncData, (∀ (s : Shared) (v : Value), BindsTo s fd ⟨[v], []⟩ [("script", v)]) ∧ ∀ base : Heap, K.In base → base.Ns mainGlobals mg → FnOk P w K mg base CX0 7 fa fd ["script"] (sp_law K) := by
  have e := hfa.symm.trans (PySem.W.mg_of X G a_law)
  cases e
  have T := txt_mk X G a_wall l_wall c_wall k_wall a_check_setting l_check_setting c_check_setting k_check_setting a_check_count l_check_count c_check_count k_check_count a_check_shaft l_check_shaft c_check_shaft k_check_shaft a_check_tie l_check_tie c_check_tie k_check_tie a_check_treading l_check_treading c_check_treading k_check_treading a_shed_over l_shed_over c_shed_over k_shed_over a_unlike l_unlike c_unlike k_unlike a_law_cell_at l_law_cell_at c_law_cell_at k_law_cell_at a_law_sums l_law_sums c_law_sums k_law_sums a_law_size l_law_size c_law_size k_law_size a_law_threading l_law_threading c_law_threading k_law_threading a_law_tie l_law_tie c_law_tie k_law_tie a_law_ties l_law_ties c_law_ties k_law_ties a_law_far l_law_far c_law_far k_law_far a_law_tie_spoiled l_law_tie_spoiled c_law_tie_spoiled k_law_tie_spoiled a_law_spoiled l_law_spoiled c_law_spoiled k_law_spoiled a_law_refused l_law_refused c_law_refused k_law_refused a_law l_law c_law k_law z_ValueError z_int z_isinstance z_len z_list z_range z_set z_sorted z_sum x_MOST_STRANDS x_MOST_SHAFTS n_WeaveError n_NoRow n_TooLarge n_NoCloth n_NoDraft n_NoStrand n_NoDeed y1_WeaveError y2_WeaveError y3_WeaveError y4_WeaveError y5_WeaveError y6_WeaveError y7_WeaveError y8_WeaveError y9_WeaveError y10_WeaveError y11_WeaveError y1_NoRow y2_NoRow y3_NoRow y4_NoRow y7_NoRow y8_NoRow y9_NoRow y10_NoRow y11_NoRow y1_TooLarge y2_TooLarge y3_TooLarge y4_TooLarge y7_TooLarge y8_TooLarge y9_TooLarge y10_TooLarge y11_TooLarge y1_NoCloth y2_NoCloth y3_NoCloth y4_NoCloth y7_NoCloth y8_NoCloth y9_NoCloth y10_NoCloth y11_NoCloth y1_NoDraft y2_NoDraft y3_NoDraft y4_NoDraft y7_NoDraft y8_NoDraft y9_NoDraft y10_NoDraft y11_NoDraft r_NoDraft_WeaveError r_NoDraft_NoRow r_NoDraft_TooLarge r_NoDraft_NoCloth r_NoDraft_NoDraft r_NoDraft_NoStrand r_NoDraft_NoDeed y1_NoStrand y2_NoStrand y3_NoStrand y4_NoStrand y7_NoStrand y8_NoStrand y9_NoStrand y10_NoStrand y11_NoStrand y1_NoDeed y2_NoDeed y3_NoDeed y4_NoDeed y7_NoDeed y8_NoDeed y9_NoDeed y10_NoDeed y11_NoDeed n_Draft n_Loom fm_Draft___init__ gm_Draft___init__ lm_Draft___init__ cm_Draft___init__ km_Draft___init__ fm_Loom___init__ gm_Loom___init__ lm_Loom___init__ cm_Loom___init__ km_Loom___init__ fm_Loom_press gm_Loom_press lm_Loom_press cm_Loom_press km_Loom_press fm_Loom_lift gm_Loom_lift lm_Loom_lift cm_Loom_lift km_Loom_lift fm_Loom_throw gm_Loom_throw lm_Loom_throw cm_Loom_throw km_Loom_throw fm_Loom_unthrow gm_Loom_unthrow lm_Loom_unthrow cm_Loom_unthrow km_Loom_unthrow fm_Loom_undo gm_Loom_undo lm_Loom_undo cm_Loom_undo km_Loom_undo fm_Loom_deeds_done gm_Loom_deeds_done lm_Loom_deeds_done cm_Loom_deeds_done km_Loom_deeds_done fm_Loom_treadles_down gm_Loom_treadles_down lm_Loom_treadles_down cm_Loom_treadles_down km_Loom_treadles_down fm_Loom_shed gm_Loom_shed lm_Loom_shed cm_Loom_shed km_Loom_shed fm_Loom_cloth gm_Loom_cloth lm_Loom_cloth cm_Loom_cloth km_Loom_cloth fm_Loom_colours gm_Loom_colours lm_Loom_colours cm_Loom_colours km_Loom_colours fm_Loom_draft gm_Loom_draft lm_Loom_draft cm_Loom_draft km_Loom_draft fm_Loom_lifted_shafts gm_Loom_lifted_shafts lm_Loom_lifted_shafts cm_Loom_lifted_shafts km_Loom_lifted_shafts o1_Draft o2_Draft o3_Draft o4_Draft o5_Draft o8_Draft na_Draft_threading na_Draft_ties na_Draft_treading o1_Loom o2_Loom o3_Loom o4_Loom o5_Loom o8_Loom na_Loom_threading na_Loom_ties na_Loom_down na_Loom_thrown na_Loom_deeds
  exact ⟨_, fun s v => .of_eq rfl, fun base _ _ => ok_law T⟩
end Mine
open PySem PySem.W PyProof.Rows
set_option maxRecDepth 100000 in
set_option maxHeartbeats 0 in
theorem PySem.Challenge.cw_heddle_k14_settings_refused_holds : PySem.Challenge.rw_heddle_k14_settings_refused.Holds := by
  w_on; o_law; k_head; (case hw => w_witness2)
  k_fill
  refine L2.walk_ofK (l := PySem.Challenge.rw_heddle_k14_settings_refused) (n := 63) (k := 7) (x := "script") (CX := L2.CX0) (sp := Mine.sp_law) rfl (by decide) rfl ⟨rfl, by decide, by decide⟩ (fun w h Y => PySem.W.kIn_of Y) ?F ?S ?C
  case F =>
    intro w mg fa h KX G hmg
    refine' Mine.law_mk KX G hmg ?a_wall ?l_wall ?c_wall ?k_wall ?a_check_setting ?l_check_setting ?c_check_setting ?k_check_setting ?a_check_count ?l_check_count ?c_check_count ?k_check_count ?a_check_shaft ?l_check_shaft ?c_check_shaft ?k_check_shaft ?a_check_tie ?l_check_tie ?c_check_tie ?k_check_tie ?a_check_treading ?l_check_treading ?c_check_treading ?k_check_treading ?a_shed_over ?l_shed_over ?c_shed_over ?k_shed_over ?a_unlike ?l_unlike ?c_unlike ?k_unlike ?a_law_cell_at ?l_law_cell_at ?c_law_cell_at ?k_law_cell_at ?a_law_sums ?l_law_sums ?c_law_sums ?k_law_sums ?a_law_size ?l_law_size ?c_law_size ?k_law_size ?a_law_threading ?l_law_threading ?c_law_threading ?k_law_threading ?a_law_tie ?l_law_tie ?c_law_tie ?k_law_tie ?a_law_ties ?l_law_ties ?c_law_ties ?k_law_ties ?a_law_far ?l_law_far ?c_law_far ?k_law_far ?a_law_tie_spoiled ?l_law_tie_spoiled ?c_law_tie_spoiled ?k_law_tie_spoiled ?a_law_spoiled ?l_law_spoiled ?c_law_spoiled ?k_law_spoiled ?a_law_refused ?l_law_refused ?c_law_refused ?k_law_refused ?a_law ?l_law ?c_law ?k_law ?z_ValueError ?z_int ?z_isinstance ?z_len ?z_list ?z_range ?z_set ?z_sorted ?z_sum ?x_MOST_STRANDS ?x_MOST_SHAFTS ?n_WeaveError ?n_NoRow ?n_TooLarge ?n_NoCloth ?n_NoDraft ?n_NoStrand ?n_NoDeed ?y1_WeaveError ?y2_WeaveError ?y3_WeaveError ?y4_WeaveError ?y5_WeaveError ?y6_WeaveError ?y7_WeaveError ?y8_WeaveError ?y9_WeaveError ?y10_WeaveError ?y11_WeaveError ?y1_NoRow ?y2_NoRow ?y3_NoRow ?y4_NoRow ?y7_NoRow ?y8_NoRow ?y9_NoRow ?y10_NoRow ?y11_NoRow ?y1_TooLarge ?y2_TooLarge ?y3_TooLarge ?y4_TooLarge ?y7_TooLarge ?y8_TooLarge ?y9_TooLarge ?y10_TooLarge ?y11_TooLarge ?y1_NoCloth ?y2_NoCloth ?y3_NoCloth ?y4_NoCloth ?y7_NoCloth ?y8_NoCloth ?y9_NoCloth ?y10_NoCloth ?y11_NoCloth ?y1_NoDraft ?y2_NoDraft ?y3_NoDraft ?y4_NoDraft ?y7_NoDraft ?y8_NoDraft ?y9_NoDraft ?y10_NoDraft ?y11_NoDraft ?r_NoDraft_WeaveError ?r_NoDraft_NoRow ?r_NoDraft_TooLarge ?r_NoDraft_NoCloth ?r_NoDraft_NoDraft ?r_NoDraft_NoStrand ?r_NoDraft_NoDeed ?y1_NoStrand ?y2_NoStrand ?y3_NoStrand ?y4_NoStrand ?y7_NoStrand ?y8_NoStrand ?y9_NoStrand ?y10_NoStrand ?y11_NoStrand ?y1_NoDeed ?y2_NoDeed ?y3_NoDeed ?y4_NoDeed ?y7_NoDeed ?y8_NoDeed ?y9_NoDeed ?y10_NoDeed ?y11_NoDeed ?n_Draft ?n_Loom ?fm_Draft___init__ ?gm_Draft___init__ ?lm_Draft___init__ ?cm_Draft___init__ ?km_Draft___init__ ?fm_Loom___init__ ?gm_Loom___init__ ?lm_Loom___init__ ?cm_Loom___init__ ?km_Loom___init__ ?fm_Loom_press ?gm_Loom_press ?lm_Loom_press ?cm_Loom_press ?km_Loom_press ?fm_Loom_lift ?gm_Loom_lift ?lm_Loom_lift ?cm_Loom_lift ?km_Loom_lift ?fm_Loom_throw ?gm_Loom_throw ?lm_Loom_throw ?cm_Loom_throw ?km_Loom_throw ?fm_Loom_unthrow ?gm_Loom_unthrow ?lm_Loom_unthrow ?cm_Loom_unthrow ?km_Loom_unthrow ?fm_Loom_undo ?gm_Loom_undo ?lm_Loom_undo ?cm_Loom_undo ?km_Loom_undo ?fm_Loom_deeds_done ?gm_Loom_deeds_done ?lm_Loom_deeds_done ?cm_Loom_deeds_done ?km_Loom_deeds_done ?fm_Loom_treadles_down ?gm_Loom_treadles_down ?lm_Loom_treadles_down ?cm_Loom_treadles_down ?km_Loom_treadles_down ?fm_Loom_shed ?gm_Loom_shed ?lm_Loom_shed ?cm_Loom_shed ?km_Loom_shed ?fm_Loom_cloth ?gm_Loom_cloth ?lm_Loom_cloth ?cm_Loom_cloth ?km_Loom_cloth ?fm_Loom_colours ?gm_Loom_colours ?lm_Loom_colours ?cm_Loom_colours ?km_Loom_colours ?fm_Loom_draft ?gm_Loom_draft ?lm_Loom_draft ?cm_Loom_draft ?km_Loom_draft ?fm_Loom_lifted_shafts ?gm_Loom_lifted_shafts ?lm_Loom_lifted_shafts ?cm_Loom_lifted_shafts ?km_Loom_lifted_shafts ?o1_Draft ?o2_Draft ?o3_Draft ?o4_Draft ?o5_Draft ?o8_Draft ?na_Draft_threading ?na_Draft_ties ?na_Draft_treading ?o1_Loom ?o2_Loom ?o3_Loom ?o4_Loom ?o5_Loom ?o8_Loom ?na_Loom_threading ?na_Loom_ties ?na_Loom_down ?na_Loom_thrown ?na_Loom_deeds
    (case a_wall => k_is)
    (case l_wall => k_is)
    (case c_wall => k_is)
    (case k_wall => k_is)
    (case a_check_setting => k_is)
    (case l_check_setting => k_is)
    (case c_check_setting => k_is)
    (case k_check_setting => k_is)
    (case a_check_count => k_is)
    (case l_check_count => k_is)
    (case c_check_count => k_is)
    (case k_check_count => k_is)
    (case a_check_shaft => k_is)
    (case l_check_shaft => k_is)
    (case c_check_shaft => k_is)
    (case k_check_shaft => k_is)
    (case a_check_tie => k_is)
    (case l_check_tie => k_is)
    (case c_check_tie => k_is)
    (case k_check_tie => k_is)
    (case a_check_treading => k_is)
    (case l_check_treading => k_is)
    (case c_check_treading => k_is)
    (case k_check_treading => k_is)
    (case a_shed_over => k_is)
    (case l_shed_over => k_is)
    (case c_shed_over => k_is)
    (case k_shed_over => k_is)
    (case a_unlike => k_is)
    (case l_unlike => k_is)
    (case c_unlike => k_is)
    (case k_unlike => k_is)
    (case a_law_cell_at => k_is)
    (case l_law_cell_at => k_is)
    (case c_law_cell_at => k_is)
    (case k_law_cell_at => k_is)
    (case a_law_sums => k_is)
    (case l_law_sums => k_is)
    (case c_law_sums => k_is)
    (case k_law_sums => k_is)
    (case a_law_size => k_is)
    (case l_law_size => k_is)
    (case c_law_size => k_is)
    (case k_law_size => k_is)
    (case a_law_threading => k_is)
    (case l_law_threading => k_is)
    (case c_law_threading => k_is)
    (case k_law_threading => k_is)
    (case a_law_tie => k_is)
    (case l_law_tie => k_is)
    (case c_law_tie => k_is)
    (case k_law_tie => k_is)
    (case a_law_ties => k_is)
    (case l_law_ties => k_is)
    (case c_law_ties => k_is)
    (case k_law_ties => k_is)
    (case a_law_far => k_is)
    (case l_law_far => k_is)
    (case c_law_far => k_is)
    (case k_law_far => k_is)
    (case a_law_tie_spoiled => k_is)
    (case l_law_tie_spoiled => k_is)
    (case c_law_tie_spoiled => k_is)
    (case k_law_tie_spoiled => k_is)
    (case a_law_spoiled => k_is)
    (case l_law_spoiled => k_is)
    (case c_law_spoiled => k_is)
    (case k_law_spoiled => k_is)
    (case a_law_refused => k_is)
    (case l_law_refused => k_is)
    (case c_law_refused => k_is)
    (case k_law_refused => k_is)
    (case a_law => k_is)
    (case l_law => k_is)
    (case c_law => k_is)
    (case k_law => k_is)
    (case z_ValueError => k_is)
    (case z_int => k_is)
    (case z_isinstance => k_is)
    (case z_len => k_is)
    (case z_list => k_is)
    (case z_range => k_is)
    (case z_set => k_is)
    (case z_sorted => k_is)
    (case z_sum => k_is)
    (case x_MOST_STRANDS => k_is)
    (case x_MOST_SHAFTS => k_is)
    (case n_WeaveError => k_is)
    (case n_NoRow => k_is)
    (case n_TooLarge => k_is)
    (case n_NoCloth => k_is)
    (case n_NoDraft => k_is)
    (case n_NoStrand => k_is)
    (case n_NoDeed => k_is)
    (case y1_WeaveError => k_exc)
    (case y2_WeaveError => k_is)
    (case y3_WeaveError => k_is)
    (case y4_WeaveError => k_is)
    (case y5_WeaveError => k_is)
    (case y6_WeaveError => k_is)
    (case y7_WeaveError => k_is)
    (case y8_WeaveError => k_is)
    (case y9_WeaveError => k_is)
    (case y10_WeaveError => k_is)
    (case y11_WeaveError => k_is)
    (case y1_NoRow => k_exc)
    (case y2_NoRow => k_is)
    (case y3_NoRow => k_is)
    (case y4_NoRow => k_is)
    (case y7_NoRow => k_is)
    (case y8_NoRow => k_is)
    (case y9_NoRow => k_is)
    (case y10_NoRow => k_is)
    (case y11_NoRow => k_is)
    (case y1_TooLarge => k_exc)
    (case y2_TooLarge => k_is)
    (case y3_TooLarge => k_is)
    (case y4_TooLarge => k_is)
    (case y7_TooLarge => k_is)
    (case y8_TooLarge => k_is)
    (case y9_TooLarge => k_is)
    (case y10_TooLarge => k_is)
    (case y11_TooLarge => k_is)
    (case y1_NoCloth => k_exc)
    (case y2_NoCloth => k_is)
    (case y3_NoCloth => k_is)
    (case y4_NoCloth => k_is)
    (case y7_NoCloth => k_is)
    (case y8_NoCloth => k_is)
    (case y9_NoCloth => k_is)
    (case y10_NoCloth => k_is)
    (case y11_NoCloth => k_is)
    (case y1_NoDraft => k_exc)
    (case y2_NoDraft => k_is)
    (case y3_NoDraft => k_is)
    (case y4_NoDraft => k_is)
    (case y7_NoDraft => k_is)
    (case y8_NoDraft => k_is)
    (case y9_NoDraft => k_is)
    (case y10_NoDraft => k_is)
    (case y11_NoDraft => k_is)
    (case r_NoDraft_WeaveError => k_is)
    (case r_NoDraft_NoRow => k_is)
    (case r_NoDraft_TooLarge => k_is)
    (case r_NoDraft_NoCloth => k_is)
    (case r_NoDraft_NoDraft => k_is)
    (case r_NoDraft_NoStrand => k_is)
    (case r_NoDraft_NoDeed => k_is)
    (case y1_NoStrand => k_exc)
    (case y2_NoStrand => k_is)
    (case y3_NoStrand => k_is)
    (case y4_NoStrand => k_is)
    (case y7_NoStrand => k_is)
    (case y8_NoStrand => k_is)
    (case y9_NoStrand => k_is)
    (case y10_NoStrand => k_is)
    (case y11_NoStrand => k_is)
    (case y1_NoDeed => k_exc)
    (case y2_NoDeed => k_is)
    (case y3_NoDeed => k_is)
    (case y4_NoDeed => k_is)
    (case y7_NoDeed => k_is)
    (case y8_NoDeed => k_is)
    (case y9_NoDeed => k_is)
    (case y10_NoDeed => k_is)
    (case y11_NoDeed => k_is)
    (case n_Draft => k_is)
    (case n_Loom => k_is)
    (case fm_Draft___init__ => k_is)
    (case gm_Draft___init__ => k_is)
    (case lm_Draft___init__ => k_is)
    (case cm_Draft___init__ => k_is)
    (case km_Draft___init__ => k_is)
    (case fm_Loom___init__ => k_is)
    (case gm_Loom___init__ => k_is)
    (case lm_Loom___init__ => k_is)
    (case cm_Loom___init__ => k_is)
    (case km_Loom___init__ => k_is)
    (case fm_Loom_press => k_is)
    (case gm_Loom_press => k_is)
    (case lm_Loom_press => k_is)
    (case cm_Loom_press => k_is)
    (case km_Loom_press => k_is)
    (case fm_Loom_lift => k_is)
    (case gm_Loom_lift => k_is)
    (case lm_Loom_lift => k_is)
    (case cm_Loom_lift => k_is)
    (case km_Loom_lift => k_is)
    (case fm_Loom_throw => k_is)
    (case gm_Loom_throw => k_is)
    (case lm_Loom_throw => k_is)
    (case cm_Loom_throw => k_is)
    (case km_Loom_throw => k_is)
    (case fm_Loom_unthrow => k_is)
    (case gm_Loom_unthrow => k_is)
    (case lm_Loom_unthrow => k_is)
    (case cm_Loom_unthrow => k_is)
    (case km_Loom_unthrow => k_is)
    (case fm_Loom_undo => k_is)
    (case gm_Loom_undo => k_is)
    (case lm_Loom_undo => k_is)
    (case cm_Loom_undo => k_is)
    (case km_Loom_undo => k_is)
    (case fm_Loom_deeds_done => k_is)
    (case gm_Loom_deeds_done => k_is)
    (case lm_Loom_deeds_done => k_is)
    (case cm_Loom_deeds_done => k_is)
    (case km_Loom_deeds_done => k_is)
    (case fm_Loom_treadles_down => k_is)
    (case gm_Loom_treadles_down => k_is)
    (case lm_Loom_treadles_down => k_is)
    (case cm_Loom_treadles_down => k_is)
    (case km_Loom_treadles_down => k_is)
    (case fm_Loom_shed => k_is)
    (case gm_Loom_shed => k_is)
    (case lm_Loom_shed => k_is)
    (case cm_Loom_shed => k_is)
    (case km_Loom_shed => k_is)
    (case fm_Loom_cloth => k_is)
    (case gm_Loom_cloth => k_is)
    (case lm_Loom_cloth => k_is)
    (case cm_Loom_cloth => k_is)
    (case km_Loom_cloth => k_is)
    (case fm_Loom_colours => k_is)
    (case gm_Loom_colours => k_is)
    (case lm_Loom_colours => k_is)
    (case cm_Loom_colours => k_is)
    (case km_Loom_colours => k_is)
    (case fm_Loom_draft => k_is)
    (case gm_Loom_draft => k_is)
    (case lm_Loom_draft => k_is)
    (case cm_Loom_draft => k_is)
    (case km_Loom_draft => k_is)
    (case fm_Loom_lifted_shafts => k_is)
    (case gm_Loom_lifted_shafts => k_is)
    (case lm_Loom_lifted_shafts => k_is)
    (case cm_Loom_lifted_shafts => k_is)
    (case km_Loom_lifted_shafts => k_is)
    (case o1_Draft => k_is)
    (case o2_Draft => k_is)
    (case o3_Draft => k_is)
    (case o4_Draft => k_is)
    (case o5_Draft => k_is)
    (case o8_Draft => k_is)
    (case na_Draft_threading => k_is)
    (case na_Draft_ties => k_is)
    (case na_Draft_treading => k_is)
    (case o1_Loom => k_is)
    (case o2_Loom => k_is)
    (case o3_Loom => k_is)
    (case o4_Loom => k_is)
    (case o5_Loom => k_is)
    (case o8_Loom => k_is)
    (case na_Loom_threading => k_is)
    (case na_Loom_ties => k_is)
    (case na_Loom_down => k_is)
    (case na_Loom_thrown => k_is)
    (case na_Loom_deeds => k_is)
  case S => exact fun K H a ns hl hO hS => Mine.sp_law_holds hl hS
  case C => exact fun _ _ _ _ z => z

