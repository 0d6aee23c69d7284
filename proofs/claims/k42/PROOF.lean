import PyProof.Rows.All
import Wide.All
import OpenK.AllK
import Wide.FinOn
import Lean
import PyProof.EqAt
import PyProof.EqKinds
import PyProof.TupleCall
import PyProof.StrBlockL
import PyProof.EnumMake
import PyProof.CollectIter
import PyProof.JoinWalk
import PyProof.StrOps
import PyProof.StrLawsIdx
import PyProof.StrLawsIn
import PyProof.ListRange
import PyProof.Rows.Range3
import PyProof.Rows.SumAny
import KE.KIntText
import KE.LcSums
import PyProof.LongRange
import PyProof.StrOps2
import PyProof.FitsBits
import PyProof.NeKinds
import PyProof.ConsumeWalk
import PyProof.Rows.ZipGen
import PyProof.Draws
import PyProof.Rows.SeqMore
import PySem.Challenge.RW_heddle_k42_whole_finishing
set_option Elab.async false
set_option linter.all false
set_option maxRecDepth 100000
/-! THE HAND LAYER, for ints, bools, texts, own classes, LISTS and tuples (index, slices, in, append, pop ..), calls, loops. Paste it whole ahead of your own text; what your proof does not reach may be deleted. -/
namespace L2
open PySem PySem.Spec PyProof.Rows

/-- a key: an int or a str -/
abbrev Key := Sum Int Str
def keyIs : Key → Value → Bool
  | .inl k, v => Value.isInt k v
  | .inr x, v => Value.isStrOf x v
def keyH (w : World) : Key → Int
  | .inl k => hashInt k
  | .inr x => hashStr w x
theorem keyIs_shape : ∀ {k : Key} {v : Value}, keyIs k v = true → (∃ i t, k = Sum.inl i ∧ v = Value.int i t) ∨ (∃ x t, k = Sum.inr x ∧ v = Value.str x t)
  | .inl i, v, h => by
    obtain ⟨t, e⟩ := Value.isInt_shape (k := i) (v := v) h
    exact .inl ⟨i, t, rfl, e⟩
  | .inr x, v, h => by
    obtain ⟨t, e⟩ := Value.isStrOf_shape (x := x) (v := v) h
    exact .inr ⟨x, t, rfl, e⟩
theorem keyIs_int (i : Int) (t : Tok) : keyIs (.inl i) (.int i t) = true := by simp [keyIs, Value.isInt]
theorem keyIs_str (x : Str) (t : Tok) : keyIs (.inr x) (.str x t) = true := by simp [keyIs, Value.isStrOf]
theorem key_ll (a b : Int) : decide ((Sum.inl a : Key) = Sum.inl b) = (a == b) := by
  by_cases e : a = b
  · subst e; simp
  · have h : ¬ (Sum.inl a : Key) = Sum.inl b := fun q => e (Sum.inl.inj q)
    rw [decide_eq_false h]
    exact (beq_eq_false_iff_ne.mpr e).symm
theorem key_rr (a b : Str) : decide ((Sum.inr a : Key) = Sum.inr b) = decide (a = b) := by
  by_cases e : a = b
  · subst e; simp
  · have h : ¬ (Sum.inr a : Key) = Sum.inr b := fun q => e (Sum.inr.inj q)
    rw [decide_eq_false h, decide_eq_false e]
theorem key_lr (a : Int) (b : Str) : decide ((Sum.inl a : Key) = Sum.inr b) = false := decide_eq_false (fun q => nomatch q)
theorem key_rl (a : Str) (b : Int) : decide ((Sum.inr a : Key) = Sum.inl b) = false := decide_eq_false (fun q => nomatch q)

def mixKind (prog : Program) (w : World) : PySem.KeyKind prog w Key where
  is := keyIs
  hash := keyH w
  inj := fun v a b ha hb => by
    rcases keyIs_shape ha with ⟨i, t, rfl, rfl⟩ | ⟨x, t, rfl, rfl⟩
    · rcases keyIs_shape hb with ⟨j, u, rfl, e⟩ | ⟨y, u, rfl, e⟩
      · injection e with e1 _; rw [e1]
      · exact nomatch e
    · rcases keyIs_shape hb with ⟨j, u, rfl, e⟩ | ⟨y, u, rfl, e⟩
      · exact nomatch e
      · injection e with e1 _; rw [e1]
  byValue := fun k v h => by
    rcases keyIs_shape h with ⟨i, t, rfl, rfl⟩ | ⟨x, t, rfl, rfl⟩ <;> rfl
  pyHash := fun hv h => by
    rcases keyIs_shape hv with ⟨i, t, rfl, rfl⟩ | ⟨x, t, rfl, rfl⟩
    · exact wpAny_pyHash_int h
    · exact wpAny_pyHash_str h
  eqBool := fun hu hv h => by
    rcases keyIs_shape hu with ⟨i, t, rfl, rfl⟩ | ⟨x, t, rfl, rfl⟩
    · rcases keyIs_shape hv with ⟨j, u, rfl, rfl⟩ | ⟨y, u, rfl, rfl⟩
      · rw [key_ll] at h; exact wpAny_eqBool_int h
      · rw [key_lr] at h; exact SeqAt.EqAt.int_str i t y u _ _ _ _ h
    · rcases keyIs_shape hv with ⟨j, u, rfl, rfl⟩ | ⟨y, u, rfl, rfl⟩
      · rw [key_rl] at h; exact SeqAt.EqAt.str_int x t j u _ _ _ _ h
      · rw [key_rr] at h; exact wpAny_eqBool_str h
  «strs» := fun k x t v h => by
    rcases keyIs_shape h with ⟨i, u, rfl, e⟩ | ⟨y, u, rfl, e⟩
    · exact nomatch e
    · injection e with e1 _
      subst e1
      cases v <;> rfl

theorem mixKind_int (prog : Program) (w : World) (i : Int) (t : Tok) : (mixKind prog w).is (.inl i) (.int i t) = true := keyIs_int i t
theorem mixKind_str (prog : Program) (w : World) (x : Str) (t : Tok) : (mixKind prog w).is (.inr x) (.str x t) = true := keyIs_str x t
end L2

namespace L2
open PySem PySem.Spec PyProof.Rows

/-- a value, without the heap -/
inductive V where
  | non | bl (b : Bool) | int (i : Int) | str (x : Str) | byt (b : Array UInt8) | flt (b : UInt64) | ref (a : Addr) | ty (n : String)
  deriving DecidableEq

def RelV : V → Value → Prop
  | .non, u => u = Value.none
  | .bl b, u => u = Value.bool b
  | .int i, u => ∃ t, u = Value.int i t
  | .str x, u => ∃ t, u = Value.str x t
  | .byt b, u => ∃ t, u = Value.bytes b t
  | .flt b, u => ∃ t, u = Value.float b t
  | .ref a, u => u = Value.ref a
  | .ty n, u => u = Value.type n

abbrev Vals : List V → List Value → Prop := Paired RelV
theorem Vals.length {xs : List V} {us : List Value} (r : Vals xs us) : xs.length = us.length := Paired.length r
theorem Vals.get : ∀ {xs : List V} {us : List Value} {i : Nat} {x : V}, Vals xs us → xs[i]? = some x → ∃ u, us[i]? = some u ∧ RelV x u
  | _, _, _, _, .nil, e => by simp at e
  | _, _, 0, _, .cons r _, e => by simp at e; subst e; exact ⟨_, rfl, r⟩
  | _, _, i + 1, x, .cons _ t, e => by
    obtain ⟨u, h1, h2⟩ := Vals.get (i := i) (x := x) t (by simpa using e)
    exact ⟨u, by simpa using h1, h2⟩
theorem Vals.set {x : V} {u : Value} (r : RelV x u) : ∀ {xs : List V} {us : List Value} (i : Nat), Vals xs us → Vals (xs.set i x) (us.set i u)
  | _, _, _, .nil => .nil
  | _, _, 0, .cons _ t => .cons r t
  | _, _, i + 1, .cons q t => .cons q (Vals.set r i t)
theorem Vals.append : ∀ {xs ys : List V} {us ws : List Value}, Vals xs us → Vals ys ws → Vals (xs ++ ys) (us ++ ws)
  | _, _, _, _, .nil, s => s
  | _, _, _, _, .cons r t, s => .cons r (Vals.append t s)
theorem Vals.take : ∀ {xs : List V} {us : List Value} (n : Nat), Vals xs us → Vals (xs.take n) (us.take n)
  | _, _, 0, _ => .nil
  | _, _, _ + 1, .nil => .nil
  | _, _, n + 1, .cons r t => .cons r (Vals.take n t)
theorem Vals.drop : ∀ {xs : List V} {us : List Value} (n : Nat), Vals xs us → Vals (xs.drop n) (us.drop n)
  | _, _, 0, r => r
  | _, _, _ + 1, .nil => .nil
  | _, _, n + 1, .cons _ t => Vals.drop n t
def RelO : Option V → Option Value → Prop
  | some v, some u => RelV v u
  | none, none => True
  | _, _ => False
def KV {κ : Type} : List (κ × V) → List (κ × Value) → Prop := Paired fun (p : κ × V) (q : κ × Value) => p.1 = q.1 ∧ RelV p.2 q.2

/-- a key of a dict (00_mix): an int or a text -/
def kV : Key → V
  | .inl i => .int i
  | .inr x => .str x

/-- what stands at a tracked address -/
inductive HO where
  /-- a list -/
  | lst (xs : List V)
  /-- a tuple (never changes) -/
  | tup (xs : List V)
  /-- a dict whose keys are ints and texts; one whose keys are tuples of ints and texts (the empty one is both) -/
  | dK (kvs : List (Key × V)) | dT (kvs : List (List Key × V))
  /-- a set of ints: its members, its size -/
  | set (S : Int → Bool) (n : Nat)
  /-- an instance of the class at C, its dict at dx, its attributes -/
  | ins (C dx : Addr) (fs : List (Str × V))
  /-- the dict of the instance at x -/
  | own (x : Addr)
  /-- the dict of an exception -/
  | xd (fs : List (Str × V))
  /-- a bound method, f of x -/
  | met (f x : Addr)
  /-- a range object lo, lo + 1, .. below hi -/
  | rng (lo hi : Int)
  /-- a thing that is known to the object (the script; a dict while a loop walks it): read, never written while it is so -/
  | frz (o : Obj) (u : HO)
  /-- a code object's table -/
  | tbl (ps : Array Value)
  /-- any other thing, by what is true of its one object (a def of one's own: SetO a S n := HO.ext fun h => ..) -/
  | ext (φ : Heap → Prop)

abbrev Hp := Addr → Option HO
def upd (H : Hp) (a : Addr) (o : HO) : Hp := fun b => if b = a then some o else H b
theorem upd_same {H : Hp} {a : Addr} {o : HO} : upd H a o a = some o := by unfold upd; rw [if_pos rfl]
theorem upd_ne {H : Hp} {a b : Addr} {o : HO} (h : b ≠ a) : upd H a o b = H b := by unfold upd; rw [if_neg h]
/-- two objects of different content stand apart -/
theorem ne_of {H : Hp} {a b : Addr} {o u : HO} (h : H a = some o) (h' : H b = some u) (d : o ≠ u) : a ≠ b := by
  intro e; subst e; rw [h] at h'; exact d (Option.some.inj h')
theorem ne_of_none {H : Hp} {a b : Addr} {o : HO} (h : H a = some o) (h' : H b = none) : a ≠ b := by
  intro e; subst e; rw [h] at h'; cases h'

section
variable (P : Program) (w : World)
def ObjOk (H : Hp) (h : Heap) (a : Addr) : HO → Prop
  | .lst xs => xs.length ≤ sizeLine ∧ ∃ (its : List Value) (n : Nat), Vals xs its ∧ h.get? a = some { cls := .type "list", data := .seq its.toArray n }
  | .tup xs => xs.length ≤ sizeLine ∧ ∃ its : List Value, Vals xs its ∧ IsTup h a its.toArray
  | .dK kvs => kvs.length ≤ sizeLine ∧ (a == sysModules) = false ∧ ∃ vs, KV kvs vs ∧ h.DictOf (mixKind P w) a vs
  | .dT kvs => kvs.length ≤ sizeLine ∧ (a == sysModules) = false ∧ ∃ xs : List (List Key × Addr × Value),
      Paired (fun (p : List Key × V) (q : List Key × Addr × Value) => p.1 = q.1 ∧ H q.2.1 = some (.tup (p.1.map kV)) ∧ RelV p.2 q.2.2) kvs xs ∧
      ∃ o es ep, h.get? a = some o ∧ o.ExactDict ∧ o.data = .dict es ep ∧ es.toList = xs.map (entryOfKey (tupleKind (mixKind P w))) ∧ (xs.map (·.1)).Nodup
  | .set S n => h.SetOf (intKind P w) a S n
  | .ins C dx fs => H dx = some (.own a) ∧ fs.length ≤ 1000 ∧ dx ≠ a ∧ h.get? a = some (PySem.W.instObj C dx) ∧
      ∃ mA, h.Ns1 dx mA ∧ (∀ f, RelO (fs.lookup f) (mA f)) ∧ PySem.Within mA (fs.map (·.1))
  | .own _ => ∃ o, h.get? a = some o
  | .xd fs => ∃ mA, h.Ns1 a mA ∧ ∀ f, RelO (fs.lookup f) (mA f)
  | .rng lo hi => ∃ t u v, h.get? a = some { cls := .type "range", data := .fields #[.int lo t, .int hi u, .int 1 v] }
  | .frz o u => h.get? a = some o ∧ ObjOk H h a u
  | .tbl ps => h.get? a = some { cls := .none, data := .fields ps }
  | .met f x => h.get? a = some (PySem.W.methodObj (.ref f) (.ref x))
  | .ext φ => φ h ∧ (∃ o, h.get? a = some o) ∧ ∀ h1 h2 : Heap, φ h1 → (∀ o, h1.get? a = some o → h2.get? a = some o) → φ h2
/-- the abstract heap is held -/
def HOk (H : Hp) (h : Heap) : Prop := ∀ a o, H a = some o → ObjOk P w H h a o
end

section
variable {P : Program} {w : World} {H H' : Hp} {h h' : Heap} {a : Addr} {o : HO}
theorem ObjOk.lt (x : ObjOk P w H h a o) : a < h.objs.size := by
  cases o with
  | lst xs => obtain ⟨_, _, _, _, e⟩ := x; exact Heap.lt_size e
  | tup xs => obtain ⟨_, _, _, p⟩ := x; exact p.lt
  | dK kvs => obtain ⟨_, _, _, _, o, _, _, e, _⟩ := x; exact Heap.lt_size e
  | dT kvs => obtain ⟨_, _, _, _, o, _, _, e, _⟩ := x; exact Heap.lt_size e
  | set S n => obtain ⟨o, _, _, _, e, _⟩ := x; exact Heap.lt_size e
  | ins C dx fs => obtain ⟨_, _, _, e, _⟩ := x; exact Heap.lt_size e
  | own y => obtain ⟨_, e⟩ := x; exact Heap.lt_size e
  | xd fs => obtain ⟨_, ⟨_, _, _, e, _⟩, _⟩ := x; exact Heap.lt_size e
  | rng lo hi => obtain ⟨_, _, _, e⟩ := x; exact Heap.lt_size e
  | frz ob u => obtain ⟨e, _⟩ := x; exact Heap.lt_size e
  | tbl ps => exact Heap.lt_size (show h.get? a = some _ from x)
  | met f y => exact Heap.lt_size (show h.get? a = some _ from x)
  | ext φ => obtain ⟨_, ⟨_, e⟩, _⟩ := x; exact Heap.lt_size e
theorem Paired.mapP {α β : Type} {F G : α → β → Prop} : ∀ {l₁ : List α} {l₂ : List β}, Paired F l₁ l₂ → (∀ a b, F a b → G a b) → Paired G l₁ l₂
  | _, _, .nil, _ => .nil
  | _, _, .cons r t, f => .cons (f _ _ r) (Paired.mapP t f)
/-- what an object's description leans on: its own object, its own dict, the tuples -/
theorem ObjOk.stay (x : ObjOk P w H h a o) (k : ∀ b u, (b = a ∨ H b = some (.own a)) → h.get? b = some u → h'.get? b = some u)
    (ho : ∀ b, H b = some (.own a) → H' b = some (.own a)) (ht : ∀ b xs, H b = some (.tup xs) → H' b = some (.tup xs)) : ObjOk P w H' h' a o := by
  induction o with
  | lst xs => obtain ⟨z, its, n, r, e⟩ := x; exact ⟨z, its, n, r, k _ _ (.inl rfl) e⟩
  | tup xs => obtain ⟨z, its, r, ob, e, c⟩ := x; exact ⟨z, its, r, ob, k _ _ (.inl rfl) e, c⟩
  | dK kvs => obtain ⟨z, y, vs, r, ob, es, ep, e, c⟩ := x; exact ⟨z, y, vs, r, ob, es, ep, k _ _ (.inl rfl) e, c⟩
  | dT kvs =>
    obtain ⟨z, y, xs, r, ob, es, ep, e, c⟩ := x
    exact ⟨z, y, xs, Paired.mapP r fun p q z => ⟨z.1, ht _ _ z.2.1, z.2.2⟩, ob, es, ep, k _ _ (.inl rfl) e, c⟩
  | set S n => obtain ⟨ob, es, ep, t, e, c⟩ := x; exact ⟨ob, es, ep, t, k _ _ (.inl rfl) e, c⟩
  | ins C dx fs =>
    obtain ⟨d, z, ne, e, mA, ⟨od, es, ep, e2, c⟩, r⟩ := x
    exact ⟨ho _ d, z, ne, k _ _ (.inl rfl) e, mA, ⟨od, es, ep, k _ _ (.inr d) e2, c⟩, r⟩
  | own y => obtain ⟨ob, e⟩ := x; exact ⟨ob, k _ _ (.inl rfl) e⟩
  | xd fs => obtain ⟨mA, ⟨od, es, ep, e, c⟩, r⟩ := x; exact ⟨mA, ⟨od, es, ep, k _ _ (.inl rfl) e, c⟩, r⟩
  | rng lo hi => obtain ⟨t, u, v, e⟩ := x; exact ⟨t, u, v, k _ _ (.inl rfl) e⟩
  | frz ob u ih => obtain ⟨e, q⟩ := x; exact ⟨k _ _ (.inl rfl) e, ih q⟩
  | tbl ps =>
    have e : h.get? a = some { cls := .none, data := .fields ps } := x
    show h'.get? a = some { cls := .none, data := .fields ps }
    exact k a _ (.inl rfl) e
  | met f y =>
    have e : h.get? a = some (PySem.W.methodObj (.ref f) (.ref y)) := x
    show h'.get? a = some (PySem.W.methodObj (.ref f) (.ref y))
    exact k a _ (.inl rfl) e
  | ext φ => obtain ⟨p, ⟨o, e⟩, st⟩ := x; exact ⟨st _ _ p fun o q => k _ _ (.inl rfl) q, ⟨o, k _ _ (.inl rfl) e⟩, st⟩
theorem HOk.lt (x : HOk P w H h) (e : H a = some o) : a < h.objs.size := (x a o e).lt
theorem HOk.fresh (x : HOk P w H h) (e : h.objs.size ≤ a) : H a = none := by
  cases q : H a with
  | none => rfl
  | some u => exact absurd (Nat.lt_of_lt_of_le (x.lt q) e) (Nat.lt_irrefl _)
/-- every object of the heap is kept -/
theorem HOk.kept (x : HOk P w H h) (k : ∀ b u, h.get? b = some u → h'.get? b = some u) : HOk P w H h' := fun a o e =>
  (x a o e).stay (fun b u _ q => k b u q) (fun _ q => q) fun _ _ q => q
/-- a new object is laid and tracked -/
theorem HOk.laid (x : HOk P w H h) (k : ∀ b u, h.get? b = some u → h'.get? b = some u) (hp : h.objs.size ≤ a) (new : ObjOk P w (upd H a o) h' a o) : HOk P w (upd H a o) h' := fun b u e => by
  have hn := x.fresh hp
  by_cases hb : b = a
  · subst hb; rw [upd_same] at e; cases e; exact new
  · rw [upd_ne hb] at e
    exact (x b u e).stay (fun c v _ q => k c v q) (fun c q => by rw [upd_ne (ne_of_none q hn)]; exact q) fun c xs q => by rw [upd_ne (ne_of_none q hn)]; exact q
end

/-- what may be read as u: it is u, or a known u -/
def Rd (H : Hp) (a : Addr) (u : HO) : Prop := H a = some u ∨ ∃ o, H a = some (.frz o u)
theorem Rd.ok {P : Program} {w : World} {H : Hp} {h : Heap} {a : Addr} {u : HO} (r : Rd H a u) (x : HOk P w H h) : ObjOk P w H h a u := by
  rcases r with r | ⟨o, r⟩
  · exact x a u r
  · obtain ⟨_, q⟩ := x a _ r
    exact q
/-- what may be written -/
def Mut : Option HO → Prop
  | some (.lst _) => True
  | some (.dK _) => True
  | some (.dT _) => True
  | some (.set _ _) => True
  | some (.ins _ _ _) => True
  | some (.ext _) => True
  | _ => False
section
variable {P : Program} {w : World} {H : Hp} {h h' : Heap} {x e : Addr} {o' : HO}
/-- the object at e is changed: x itself, or the dict of the instance x -/
theorem HOk.write (ok : HOk P w H h) (mu : Mut (H x)) (he : e = x ∨ H e = some (.own x)) (k : ∀ b u, b ≠ e → h.get? b = some u → h'.get? b = some u) (heo : ∃ u, h'.get? e = some u)
    (new : ObjOk P w (upd H x o') h' x o') : HOk P w (upd H x o') h' := fun b u q => by
  have nown : ∀ c y, H c = some (.own y) → c ≠ x := fun c y r z => by subst z; rw [r] at mu; exact mu
  have ntup : ∀ c xs, H c = some (.tup xs) → c ≠ x := fun c xs r z => by subst z; rw [r] at mu; exact mu
  by_cases hb : b = x
  · subst hb; rw [upd_same] at q; cases q; exact new
  · rw [upd_ne hb] at q
    by_cases hbe : b = e
    · have q' : H b = some (.own x) := by
        rcases he with z | z
        · exact absurd (hbe.trans z) hb
        · rw [hbe]; exact z
      rw [q] at q'; cases q'
      obtain ⟨v, hv⟩ := heo
      exact ⟨v, by rw [hbe]; exact hv⟩
    · refine (ok b u q).stay (fun c v hc r => k c v ?_ r) (fun c r => by rw [upd_ne (nown c b r)]; exact r) fun c xs r => by rw [upd_ne (ntup c xs r)]; exact r
      rcases hc with rfl | hc
      · exact hbe
      · rintro rfl
        rcases he with z | z
        · exact nown c b hc z
        · rw [hc] at z; cases z; exact hb rfl
end

/-! ### kept unless tracked; of the frames at fs (the callers') the slots may change (an exception that passes writes there); of the records at ex (iterators) nothing is said -/
structure Un (fs ex : List Addr) (H H' : Hp) (h h' : Heap) : Prop where
  keep : ∀ b o, h.get? b = some o → H b = none → b ∉ fs → b ∉ ex → h'.get? b = some o
  slot : ∀ b o, h.get? b = some o → H b = none → b ∈ fs → b ∉ ex → ∃ sl, h'.get? b = some { o with slots := sl }
  free : ∀ b o, h.get? b = some o → H b = none → b ∉ ex → H' b = none
  there : ∀ b o, h.get? b = some o → b ∉ ex → ∃ o', h'.get? b = some o'
  tups : ∀ b xs, H b = some (.tup xs) → H' b = some (.tup xs)
  frzs : ∀ b o u, H b = some (.frz o u) → H' b = some (.frz o u)
  tbls : ∀ b ps, H b = some (.tbl ps) → ∃ more, H' b = some (.tbl (ps ++ more))
section
variable {fs fs' ex ex' : List Addr} {H H1 H2 : Hp} {h h1 h2 h' : Heap} {a x e : Addr} {o : HO}
theorem Un.any (u : Un fs ex H H1 h h1) {b : Addr} {ob : Obj} (q : h.get? b = some ob) (n : H b = none) (hx : b ∉ ex) : ∃ sl, h1.get? b = some { ob with slots := sl } := by
  by_cases hb : b ∈ fs
  · exact u.slot b ob q n hb hx
  · exact ⟨ob.slots, u.keep b ob q n hb hx⟩
theorem Un.kept (k : ∀ b u, h.get? b = some u → h'.get? b = some u) : Un fs ex H H h h' :=
  ⟨fun b ob q _ _ _ => k b ob q, fun b ob q _ _ _ => ⟨ob.slots, k b ob q⟩, fun _ _ _ n _ => n, fun b ob q _ => ⟨ob, k b ob q⟩, fun _ _ q => q, fun _ _ _ q => q, fun _ ps q => ⟨#[], by rw [q]; simp⟩⟩
theorem Un.refl : Un fs ex H H h h := Un.kept fun _ _ q => q
theorem Un.laid (k : ∀ b u, h.get? b = some u → h'.get? b = some u) (hp : h.objs.size ≤ a) (hn : H a = none) : Un fs ex H (upd H a o) h h' where
  keep := fun b u q _ _ _ => k b u q
  slot := fun b u q _ _ _ => ⟨u.slots, k b u q⟩
  free := fun b u q n _ => by rw [upd_ne (Nat.ne_of_lt (Nat.lt_of_lt_of_le (Heap.lt_size q) hp))]; exact n
  there := fun b u q _ => ⟨u, k b u q⟩
  tups := fun b xs q => by rw [upd_ne (ne_of_none q hn)]; exact q
  frzs := fun b u xs q => by rw [upd_ne (ne_of_none q hn)]; exact q
  tbls := fun b ps q => ⟨#[], by rw [upd_ne (ne_of_none q hn), q]; simp⟩
theorem Un.write (mu : Mut (H x)) (he : e = x ∨ H e = some (.own x)) (k : ∀ b u, b ≠ e → h.get? b = some u → h'.get? b = some u) (heo : ∃ u, h'.get? e = some u) : Un fs ex H (upd H x o) h h' := by
  have hx : ∀ b, H b = none → b ≠ x := fun b n z => by subst z; rw [n] at mu; exact mu
  have hb : ∀ b, H b = none → b ≠ e := fun b n z => by
    subst z
    rcases he with r | r
    · exact hx b n r
    · rw [n] at r; cases r
  have hm : ∀ b u, H b = some u → ¬ Mut (some u) → b ≠ x := fun b u q nm z => by subst z; rw [q] at mu; exact nm mu
  refine ⟨fun b u q n _ _ => k b u (hb b n) q, fun b u q n _ _ => ⟨u.slots, k b u (hb b n) q⟩, fun b u q n _ => by rw [upd_ne (hx b n)]; exact n, fun b u q _ => ?_,
    fun b xs q => by rw [upd_ne (hm b _ q fun z => z)]; exact q, fun b u xs q => by rw [upd_ne (hm b _ q fun z => z)]; exact q, fun b ps q => ⟨#[], by rw [upd_ne (hm b _ q fun z => z), q]; simp⟩⟩
  by_cases hbe : b = e
  · subst hbe; exact heo
  · exact ⟨u, k b u hbe q⟩
end

/-! ### the heap without what is tracked -/
def trk (h : Heap) (H : Hp) : List Addr := (List.range h.objs.size).filter fun a => (H a).isSome
def hidT (h : Heap) (H : Hp) : Heap := PySem.W.hideAll h (trk h H)
theorem hidT_size (h : Heap) (H : Hp) : (hidT h H).objs.size = h.objs.size := PySem.W.hideAll_size _ _
theorem hidT_get {h : Heap} {H : Hp} {b : Addr} {o : Obj} (e : h.get? b = some o) (n : H b = none) : (hidT h H).get? b = some o :=
  PySem.W.hideAll_get _ e fun hm => by
    have q : (H b).isSome = true := (List.mem_filter.mp hm).2
    rw [n] at q; simp at q
theorem of_hidT {h : Heap} {H : Hp} {b : Addr} {o : Obj} (e : (hidT h H).get? b = some o) : h.get? b = some o ∧ H b = none := by
  have e' : h.get? b = some o := PySem.W.of_hideAll (trk h H) e
  refine ⟨e', ?_⟩
  cases q : H b with
  | none => rfl
  | some x =>
    have hm : b ∈ trk h H := List.mem_filter.mpr ⟨List.mem_range.mpr (Heap.lt_size e'), by simp [q]⟩
    have z : (hidT h H).get? b = none := PySem.W.hideAll_none (trk h H) hm
    rw [z] at e; cases e

/-! ### OpenK's ledger, filled with every new object but one -/
def allNews (g h : Heap) (L : Addr) : List (Addr × Obj) := (List.range h.objs.size).filterMap fun a => if a = L ∨ (g.get? a).isSome = true then none else (h.get? a).map fun o => (a, o)
def rest (g h : Heap) (L d : Addr) : List (Addr × Obj) := (allNews g h L).filter fun p => decide (p.1 ≠ d)
end L2

namespace L2
open PySem PySem.Spec PyProof.Rows

/-- the module's facts, over the base: the heap at the law's entry without what is tracked there -/
structure Mod (K : PySem.W.Frag) (mg : Str → Option Value) (base : Heap) : Prop where
  kin : K.In base
  glob : base.Ns mainGlobals mg
  blt : ∃ mb, base.Ns builtinsNs mb ∧ ∀ x : Str, x ≠ "__name__" → mb x = bootBuiltins x
  nolimit : base.NoLimit

/-- the context: a def's body (or a comprehension's block) running. base: fixed through the whole law; s₀, H₀: the entry; outer: the frames whose slots others may change (a def's callers); stack: all frames that run;
   ex: iterators that were made ahead of the entry and are walked here (a comprehension's); fn: the names whose cells were made at the entry (a def: all; a comprehension's block: its own); calm: not within an except suite; pn: pins that every state bears; xe: what is wanted of an exception that leaves the code -/
structure Cx where
  prog : Program
  w : World
  K : PySem.W.Frag
  mg : Str → Option Value
  base : Heap
  A : Around
  N : List Str
  s₀ : Shared
  H₀ : Hp
  env : Env
  outer : List Env
  stack : List Env
  ex : List Addr
  fn : Str → Bool
  calm : Bool
  pn : List (Addr × Obj)
  xe : Value → Shared → Prop
/-- the callers' frames -/
def frs (l : List Env) : List Addr := l.filterMap (·.frame)
abbrev Cx.fs (X : Cx) : List Addr := frs X.outer

def Vis (sc : Scope) (x : Str) : Prop := sc.names.lookup x = some .local ∨ sc.names.lookup x = some .cell ∨ sc.names.lookup x = some .free
def Loc (sc : Scope) (x : Str) : Prop := sc.names.lookup x = some .local ∨ sc.names.lookup x = some .cell
def Look (env : Env) (h : Heap) (m : Str → Option Value) (x : Str) (u : Value) : Prop :=
  (env.kindOf x = some .local ∧ m x = some u) ∨ ((env.kindOf x = some .cell ∨ env.kindOf x = some .free) ∧ ∃ c, env.cells.lookup x = some c ∧ h.IsCell c (some u))

structure Cx.Ok (X : Cx) : Prop where
  mod : Mod X.K X.mg X.base
  kind : X.env.scope.kind = .function
  glob : X.env.globals = mainGlobals
  blt : X.env.builtins = builtinsNs
  above : X.s₀.heap.objs.size ≤ X.env.locals
  inj : ∀ x y c, X.env.cells.lookup x = some c → X.env.cells.lookup y = some c → x = y
  has : ∀ x, (X.env.kindOf x = some .cell ∨ X.env.kindOf x = some .free) → ∃ c, X.env.cells.lookup x = some c
  cab : ∀ x c, X.fn x = true → X.env.cells.lookup x = some c → X.s₀.heap.objs.size ≤ c
  hd : X.calm = true → X.A.handled = none
  frames : X.A.frames = some X.stack
  stk : X.stack = X.outer ∨ (X.stack = X.env :: X.outer ∧ X.env.frame = some X.env.locals)
  exf : ∀ b ∈ X.ex, b ≠ X.env.locals ∧ ∀ x c, X.env.cells.lookup x = some c → c ≠ b
  bs : ∀ b o, X.base.get? b = some o → X.s₀.heap.get? b = some o ∧ X.H₀ b = none
  bsz : X.base.objs.size ≤ X.s₀.heap.objs.size
  noex : ∀ b o, X.base.get? b = some o → b ∉ X.ex
  exfs : ∀ b ∈ X.ex, b ∉ X.fs
  funs : X.s₀.heap.FunFrames X.base X.outer
  frf : ∀ b ∈ X.fs, X.H₀ b = none

structure Inv (X : Cx) (pins : List (Addr × Obj)) (σ : List (Option V)) (H : Hp) (s : Shared) : Prop where
  ok : X.Ok
  os : s.os = X.s₀.os
  bare : AllBare s.gens
  base : Un X.fs X.ex X.H₀ H X.s₀.heap s.heap
  loc : ∃ m, s.heap.Ns X.env.locals m ∧ ∀ (i : Nat) (x : Str) (v : V), X.N[i]? = some x → σ[i]? = some (some v) → Vis X.env.scope x → ∃ u, RelV v u ∧ Look X.env s.heap m x u
  cell : ∀ x c, X.env.cells.lookup x = some c → ∃ v, s.heap.IsCell c v
  free : H X.env.locals = none
  freeC : ∀ x c, X.env.cells.lookup x = some c → H c = none
  pin : ∀ p ∈ X.pn ++ pins, s.heap.get? p.1 = some p.2 ∧ H p.1 = none ∧ p.1 ≠ X.env.locals ∧ p.1 ∉ X.fs ∧ ∀ v, p.2.data ≠ .cell v
  hok : HOk X.prog X.w H s.heap
  len : σ.length = X.N.length

section
variable {X : Cx} {pins : List (Addr × Obj)} {σ : List (Option V)} {H H' : Hp} {s : Shared} {h' : Heap}

theorem Cx.Ok.nofr (ok : X.Ok) {b : Addr} {o : Obj} (e : X.base.get? b = some o) : b ∉ X.fs := fun hb => by
  have := (ok.funs.mem hb).1
  rw [e] at this; cases this
theorem Inv.bs (I : Inv X pins σ H s) : ∀ b o, X.base.get? b = some o → s.heap.get? b = some o ∧ H b = none := fun b o e =>
  ⟨I.base.keep b o (I.ok.bs b o e).1 (I.ok.bs b o e).2 (I.ok.nofr e) (I.ok.noex b o e), I.base.free b o (I.ok.bs b o e).1 (I.ok.bs b o e).2 (I.ok.noex b o e)⟩
theorem Inv.bk (I : Inv X pins σ H s) : ∀ b o, X.base.get? b = some o → s.heap.get? b = some o := fun b o e => (I.bs b o e).1
theorem Inv.mod (I : Inv X pins σ H s) : Mod X.K X.mg X.base := I.ok.mod
theorem Inv.kIn (I : Inv X pins σ H s) : X.K.In s.heap := I.ok.mod.kin.keeps I.bk
theorem Inv.lt (I : Inv X pins σ H s) : X.env.locals < s.heap.objs.size := let ⟨_, hn, _⟩ := I.loc; hn.lt
theorem Inv.sz (I : Inv X pins σ H s) : X.s₀.heap.objs.size ≤ s.heap.objs.size := Nat.le_trans I.ok.above (Nat.le_of_lt I.lt)
theorem Inv.nofs (I : Inv X pins σ H s) {a : Addr} (h : s.heap.objs.size ≤ a) : a ∉ X.fs := fun hb => by
  obtain ⟨_, o, ho, _⟩ := I.ok.funs.mem hb
  exact absurd (Nat.lt_of_lt_of_le (Heap.lt_size ho) (Nat.le_trans I.sz h)) (Nat.lt_irrefl _)
theorem Inv.cne (I : Inv X pins σ H s) : ∀ x c, X.env.cells.lookup x = some c → c ≠ X.env.locals := fun x c e z => by
  obtain ⟨v, o, ho, hd⟩ := I.cell x c e
  obtain ⟨m, ⟨o', es, ep, ho', hd', _⟩, _⟩ := I.loc
  rw [z, ho'] at ho; cases ho; rw [hd'] at hd; cases hd
theorem Inv.funs (I : Inv X pins σ H s) : s.heap.FunFrames X.base X.outer := by
  have all : ∀ (l : List Env), (∀ b ∈ frs l, b ∈ X.fs) → X.s₀.heap.FunFrames X.base l → s.heap.FunFrames X.base l := by
    intro l
    induction l with
    | nil => intro _ _; trivial
    | cons env r ih =>
      intro hs hl
      obtain ⟨hk, ⟨L, o, hf, hn, ho, hd⟩, hr⟩ := hl
      have hL : L ∈ X.fs := hs L (by unfold frs; rw [List.filterMap_cons, hf]; exact List.mem_cons_self)
      obtain ⟨sl, e⟩ := I.base.slot L o ho (I.ok.frf L hL) hL fun z => I.ok.exfs L z hL
      exact ⟨hk, ⟨L, _, hf, hn, e, hd⟩, ih (fun b hb => hs b (by unfold frs; rw [List.filterMap_cons, hf]; exact List.mem_cons_of_mem _ hb)) hr⟩
  exact all X.outer (fun _ hb => hb) I.ok.funs

/-- the frames that run, for a call -/
theorem Inv.stack (I : Inv X pins σ H s) : s.heap.FunFrames X.base X.stack := by
  rcases I.ok.stk with e | ⟨e, hf⟩
  · rw [e]; exact I.funs
  · rw [e]
    obtain ⟨m, hn, _⟩ := I.loc
    refine .cons (by rw [I.ok.kind]; decide) hf hn ?_ I.funs
    exact Heap.get?_none_of_le (Nat.le_trans I.ok.bsz I.ok.above)
theorem Inv.stkSub (I : Inv X pins σ H s) : ∀ b ∈ frs X.stack, b ∈ X.env.locals :: X.fs := fun b hb => by
  rcases I.ok.stk with e | ⟨e, hf⟩
  · rw [e] at hb; exact List.mem_cons_of_mem _ hb
  · rw [e] at hb
    unfold frs at hb
    rw [List.filterMap_cons, hf] at hb
    exact hb
theorem Inv.stkFree (I : Inv X pins σ H s) : ∀ b ∈ frs X.stack, H b = none := fun b hb => by
  rcases List.mem_cons.mp (I.stkSub b hb) with e | hb
  · rw [e]; exact I.free
  · obtain ⟨_, o, ho, _⟩ := I.ok.funs.mem hb
    exact I.base.free b o ho (I.ok.frf b hb) fun z => I.ok.exfs b z hb

/-- THE STEP: the untracked objects but the frame and the records at ch are kept (the callers' frames up to slots), the frame's map is kept, the new abstract heap is held -/
theorem Inv.step {g' : Array GenState} {t' : Nat} {d' : Drawn} {ch : List Addr} (I : Inv X pins σ H s)
    (hch : ∀ b ∈ ch, (b ∈ X.ex ∨ X.s₀.heap.objs.size ≤ b) ∧ b ≠ X.env.locals ∧ (∀ x c, X.env.cells.lookup x = some c → c ≠ b) ∧ ∀ p ∈ X.pn ++ pins, p.1 ≠ b)
    (keep : ∀ b o, b ≠ X.env.locals → b ∉ X.fs → b ∉ ch → s.heap.get? b = some o → H b = none → h'.get? b = some o)
    (slot : ∀ b o, b ≠ X.env.locals → b ∈ X.fs → b ∉ ch → s.heap.get? b = some o → H b = none → ∃ sl, h'.get? b = some { o with slots := sl }) (free : ∀ b o, b ∉ ch → s.heap.get? b = some o → H b = none → H' b = none)
    (there : ∀ b o, b ∉ ch → s.heap.get? b = some o → ∃ o', h'.get? b = some o')
    (tups : ∀ b xs, H b = some (.tup xs) → H' b = some (.tup xs)) (frzs : ∀ b o u, H b = some (.frz o u) → H' b = some (.frz o u)) (tbls : ∀ b ps, H b = some (.tbl ps) → ∃ more, H' b = some (.tbl (ps ++ more)))
    (ns : ∀ m, s.heap.Ns X.env.locals m → h'.Ns X.env.locals m) (hok : HOk X.prog X.w H' h') (hg : AllBare g') :
    Inv X pins σ H' { s with heap := h', gens := g', drawn := d', toks := t' } := by
  have neL : ∀ b o, X.s₀.heap.get? b = some o → b ≠ X.env.locals := fun b o e => Nat.ne_of_lt (Nat.lt_of_lt_of_le (Heap.lt_size e) I.ok.above)
  have neC : ∀ b o, X.s₀.heap.get? b = some o → b ∉ X.ex → b ∉ ch := fun b o e hx hb => by
    rcases (hch b hb).1 with z | z
    · exact hx z
    · exact absurd (Nat.lt_of_lt_of_le (Heap.lt_size e) z) (Nat.lt_irrefl _)
  have cellK : ∀ x c, X.env.cells.lookup x = some c → ∀ v, s.heap.IsCell c v → h'.IsCell c v := fun x c e v ⟨o, ho, hd⟩ => by
    have nch : c ∉ ch := fun z => (hch c z).2.2.1 x c e rfl
    by_cases hc : c ∈ X.fs
    · obtain ⟨sl, q⟩ := slot c o (I.cne x c e) hc nch ho (I.freeC x c e)
      exact ⟨_, q, hd⟩
    · exact ⟨o, keep c o (I.cne x c e) hc nch ho (I.freeC x c e), hd⟩
  refine ⟨I.ok, I.os, hg, ⟨fun b o e n hb hx => ?_, fun b o e n hb hx => ?_, fun b o e n hx => ?_, fun b o e hx => ?_, fun b xs e => tups b xs (I.base.tups b xs e), fun b o xs e => frzs b o xs (I.base.frzs b o xs e), fun b ps e => ?_⟩, ?_, fun x c e => ?_, ?_, fun x c e => ?_, fun p hp => ?_, hok, I.len⟩
  · exact keep b o (neL b o e) hb (neC b o e hx) (I.base.keep b o e n hb hx) (I.base.free b o e n hx)
  · obtain ⟨sl, e1⟩ := I.base.slot b o e n hb hx
    obtain ⟨sl', e2⟩ := slot b _ (neL b o e) hb (neC b o e hx) e1 (I.base.free b o e n hx)
    exact ⟨sl', e2⟩
  · obtain ⟨o', e1⟩ := I.base.there b o e hx
    exact free b o' (neC b o e hx) e1 (I.base.free b o e n hx)
  · obtain ⟨o', e1⟩ := I.base.there b o e hx
    exact there b o' (neC b o e hx) e1
  · obtain ⟨m1, e1⟩ := I.base.tbls b ps e
    obtain ⟨m2, e2⟩ := tbls b _ e1
    exact ⟨m1 ++ m2, by rw [e2, Array.append_assoc]⟩
  · obtain ⟨m, hn, hl⟩ := I.loc
    refine ⟨m, ns m hn, fun i x v e1 e2 e3 => ?_⟩
    obtain ⟨u, r, l⟩ := hl i x v e1 e2 e3
    refine ⟨u, r, ?_⟩
    rcases l with l | ⟨k, c, e, z⟩
    · exact .inl l
    · exact .inr ⟨k, c, e, cellK x c e _ z⟩
  · obtain ⟨v, z⟩ := I.cell x c e
    exact ⟨v, cellK x c e v z⟩
  · obtain ⟨m, ⟨o, _, _, ho, _⟩, _⟩ := I.loc
    exact free _ o (fun z => (hch _ z).2.1 rfl) ho I.free
  · obtain ⟨v, o, ho, hd⟩ := I.cell x c e
    exact free c o (fun z => (hch c z).2.2.1 x c e rfl) ho (I.freeC x c e)
  · obtain ⟨e, n, ne, nf, d⟩ := I.pin p hp
    have nch : p.1 ∉ ch := fun z => (hch p.1 z).2.2.2 p hp rfl
    exact ⟨keep p.1 p.2 ne nf nch e n, free p.1 p.2 nch e n, ne, nf, d⟩
/-- .. where the frame's own object is kept too -/
theorem Inv.un {t' : Nat} (I : Inv X pins σ H s) (u : Un X.fs [] H H' s.heap h') (hok : HOk X.prog X.w H' h') : Inv X pins σ H' { s with heap := h', toks := t' } := by
  obtain ⟨m, ⟨o, es, ep, ho, r⟩, _⟩ := id I.loc
  obtain ⟨sl, hL⟩ := u.any ho I.free (by simp)
  exact I.step (g' := s.gens) (d' := s.drawn) (ch := []) (fun _ z => nomatch z) (fun b o _ hb _ e n => u.keep b o e n hb (by simp)) (fun b o _ hb _ e n => u.slot b o e n hb (by simp)) (fun b o _ e n => u.free b o e n (by simp)) (fun b o _ e => u.there b o e (by simp)) u.tups u.frzs u.tbls (fun m' hm => by
    obtain ⟨o', es', ep', ho', r'⟩ := hm
    rw [ho] at ho'; cases ho'
    exact ⟨_, es', ep', hL, r'⟩) hok I.bare
/-- behind a call (or a comprehension's block): the slots of this frame may have changed too, the records at ch may have turned -/
theorem Inv.call {g' : Array GenState} {t' : Nat} {d' : Drawn} {ch : List Addr} (I : Inv X pins σ H s) (u : Un (frs X.stack) ch H H' s.heap h') (hok : HOk X.prog X.w H' h') (hg : AllBare g')
    (hch : ∀ b ∈ ch, (b ∈ X.ex ∨ X.s₀.heap.objs.size ≤ b) ∧ b ≠ X.env.locals ∧ (∀ x c, X.env.cells.lookup x = some c → c ≠ b) ∧ ∀ p ∈ X.pn ++ pins, p.1 ≠ b) :
    Inv X pins σ H' { s with heap := h', gens := g', drawn := d', toks := t' } := by
  obtain ⟨m, ⟨o, es, ep, ho, r⟩, _⟩ := id I.loc
  obtain ⟨sl, hL⟩ := u.any ho I.free fun z => (hch _ z).2.1 rfl
  exact I.step (ch := ch) hch (fun b o hL hb hc e n => u.keep b o e n (fun z => (List.mem_cons.mp (I.stkSub b z)).elim hL hb) hc) (fun b o _ _ hc e n => u.any e n hc) (fun b o hc e n => u.free b o e n hc) (fun b o hc e => u.there b o e hc) u.tups u.frzs u.tbls (fun m' hm => by
    obtain ⟨o', es', ep', ho', r'⟩ := hm
    rw [ho] at ho'; cases ho'
    exact ⟨_, es', ep', hL, r'⟩) hok hg
/-- an untracked record of ours (an iterator) has turned -/
theorem Inv.turned {t' : Nat} {it : Addr} (I : Inv X pins σ H s) (k : ∀ b o, b ≠ it → s.heap.get? b = some o → h'.get? b = some o) (hn : H it = none) (hL : it ≠ X.env.locals)
    (h1 : it ∈ X.ex ∨ X.s₀.heap.objs.size ≤ it) (h2 : ∀ x c, X.env.cells.lookup x = some c → c ≠ it) (h3 : ∀ p ∈ X.pn ++ pins, p.1 ≠ it) : Inv X pins σ H { s with heap := h', toks := t' } := by
  have nit : ∀ b u, H b = some u → b ≠ it := fun b u e z => by rw [z, hn] at e; cases e
  refine I.step (g' := s.gens) (d' := s.drawn) (ch := [it]) (fun b hb => ?_) (fun b o _ _ hc e _ => k b o (fun z => hc (by simp [z])) e) (fun b o _ _ hc e _ => ⟨o.slots, k b o (fun z => hc (by simp [z])) e⟩) (fun _ _ _ _ n => n)
    (fun b o hc e => ⟨o, k b o (fun z => hc (by simp [z])) e⟩) (fun _ _ e => e) (fun _ _ _ e => e) (fun b ps e => ⟨#[], by rw [e]; simp⟩) (fun m hm => ?_) (fun b u e => ?_) I.bare
  · have e : b = it := by simpa using hb
    subst e
    exact ⟨h1, hL, h2, h3⟩
  · obtain ⟨o, es, ep, ho, r⟩ := hm
    exact ⟨o, es, ep, k _ o (Ne.symm hL) ho, r⟩
  · refine (I.hok b u e).stay (fun c v hc q => k c v ?_ q) (fun _ q => q) fun _ _ q => q
    rcases hc with z | z
    · rw [z]; exact nit b u e
    · exact nit c _ z
theorem Inv.tok (I : Inv X pins σ H s) (t : Nat) : Inv X pins σ H { s with toks := t } := I.un (h' := s.heap) (t' := t) Un.refl I.hok
/-- all objects kept -/
theorem Inv.kept {t' : Nat} (I : Inv X pins σ H s) (k : ∀ b u, s.heap.get? b = some u → h'.get? b = some u) : Inv X pins σ H { s with heap := h', toks := t' } := I.un (Un.kept k) (I.hok.kept k)
/-- a new object laid and tracked -/
theorem Inv.laid {a : Addr} {o : HO} {t' : Nat} (I : Inv X pins σ H s) (k : ∀ b u, s.heap.get? b = some u → h'.get? b = some u) (hp : s.heap.objs.size ≤ a) (new : ObjOk X.prog X.w (upd H a o) h' a o) :
    Inv X pins σ (upd H a o) { s with heap := h', toks := t' } := I.un (Un.laid k hp (I.hok.fresh hp)) (I.hok.laid k hp new)
/-- an object written -/
theorem Inv.write {x e : Addr} {o : HO} {t' : Nat} (I : Inv X pins σ H s) (mu : Mut (H x)) (he : e = x ∨ H e = some (.own x)) (k : ∀ b u, b ≠ e → s.heap.get? b = some u → h'.get? b = some u) (heo : ∃ u, h'.get? e = some u)
    (new : ObjOk X.prog X.w (upd H x o) h' x o) : Inv X pins σ (upd H x o) { s with heap := h', toks := t' } := I.un (Un.write mu he k heo) (I.hok.write mu he k heo new)
theorem Inv.pins_of {pins' : List (Addr × Obj)} (I : Inv X pins σ H s) (h : ∀ p ∈ pins', s.heap.get? p.1 = some p.2 ∧ H p.1 = none ∧ p.1 ≠ X.env.locals ∧ p.1 ∉ X.fs ∧ ∀ v, p.2.data ≠ .cell v) : Inv X pins' σ H s :=
  ⟨I.ok, I.os, I.bare, I.base, I.loc, I.cell, I.free, I.freeC, fun p hp => (List.mem_append.mp hp).elim (fun z => I.pin p (List.mem_append_left _ z)) (h p), I.hok, I.len⟩

theorem nodup_ix {N : List Str} (hN : N.Nodup) {i j : Nat} {x : Str} (a : N[i]? = some x) (b : N[j]? = some x) : i = j := by
  obtain ⟨h1, e1⟩ := List.getElem?_eq_some_iff.mp a
  obtain ⟨h2, e2⟩ := List.getElem?_eq_some_iff.mp b
  exact (List.getElem_inj hN).mp (e1.trans e2.symm)

/-- a name is stored; what changed -/
theorem store_ok2 {M : Model} {A : Around} {E : Value → Shared → Prop} {i : Nat} {x : Str} {v : V} {u : Value} {Q : Unit → Shared → Prop} (I : Inv X pins σ H s) (hN : X.N.Nodup) (hi : X.N[i]? = some x) (hx : Loc X.env.scope x) (r : RelV v u)
    (h : ∀ s', Inv X pins (σ.set i (some v)) H s' → (∃ a, Heap.SameBut a s.heap s'.heap ∧ (a = X.env.locals ∨ X.env.cells.lookup x = some a)) → Q () s') (hf : X.fn x = true ∨ X.env.scope.names.lookup x = some .local := by first | exact .inl rfl | exact .inr rfl | assumption) : wpAny M A (storeName X.env x u) Q E s := by
  obtain ⟨m, hn, hl⟩ := id I.loc
  have hcls : (X.env.scope.kind == .class || (X.env.scope.kind == .module && X.env.locals != X.env.globals)) = false := by rw [I.ok.kind]; rfl
  have hiσ : i < σ.length := by rw [I.len]; exact (List.getElem?_eq_some_iff.mp hi).1
  have cne := I.cne
  have tracked : ∀ {a : Addr} {h' : Heap}, (∃ o, s.heap.get? a = some o ∧ H a = none) → Heap.SameBut a s.heap h' → HOk X.prog X.w H h' := fun {a h'} ha hs b ob e => by
    obtain ⟨_, _, hfree⟩ := ha
    refine (I.hok b ob e).stay (fun c w' hc q => (hs.2 c ?_).trans q) (fun _ q => q) fun _ _ q => q
    rintro rfl
    rcases hc with rfl | hc
    · rw [hfree] at e; cases e
    · rw [hfree] at hc; cases hc
  rcases hx with hk | hk
  · refine wpAny_storeName_local hk hn (fun h' hn' hs => ?_) hcls
    obtain ⟨oL, _, _, hoL, _⟩ := id hn
    refine h _ ⟨I.ok, I.os, I.bare, ⟨fun b o e n hb hx => ?_, fun b o e n hb hx => ?_, I.base.free, fun b o e hx => ?_, I.base.tups, I.base.frzs, I.base.tbls⟩, ⟨_, hn', fun j y v' e1 e2 e3 => ?_⟩, fun y c e => ?_, I.free, I.freeC, fun p hp => ?_, tracked ⟨oL, hoL, I.free⟩ hs, by simpa using I.len⟩ ⟨_, hs, .inl rfl⟩
    · exact (hs.2 b (Nat.ne_of_lt (Nat.lt_of_lt_of_le (Heap.lt_size e) I.ok.above))).trans (I.base.keep b o e n hb hx)
    · obtain ⟨sl, e1⟩ := I.base.slot b o e n hb hx
      exact ⟨sl, (hs.2 b (Nat.ne_of_lt (Nat.lt_of_lt_of_le (Heap.lt_size e) I.ok.above))).trans e1⟩
    · obtain ⟨o', e1⟩ := I.base.there b o e hx
      exact ⟨o', (hs.2 b (Nat.ne_of_lt (Nat.lt_of_lt_of_le (Heap.lt_size e) I.ok.above))).trans e1⟩
    · by_cases hj : j = i
      · subst hj
        rw [hi] at e1; cases e1
        rw [List.getElem?_set_self hiσ] at e2
        cases e2
        exact ⟨u, r, .inl ⟨hk, by simp⟩⟩
      · rw [List.getElem?_set_ne (Ne.symm hj)] at e2
        obtain ⟨u', r', q⟩ := hl j y v' e1 e2 e3
        refine ⟨u', r', ?_⟩
        rcases q with ⟨k, e⟩ | ⟨k, c, e, z⟩
        · refine .inl ⟨k, ?_⟩
          have : y ≠ x := fun e => hj (nodup_ix hN e1 (e ▸ hi))
          simp [this, e]
        · exact .inr ⟨k, c, e, z.sameBut hs (cne y c e)⟩
    · obtain ⟨w', z⟩ := I.cell y c e
      exact ⟨w', z.sameBut hs (cne y c e)⟩
    · obtain ⟨e, n, ne, nf, d⟩ := I.pin p hp
      exact ⟨(hs.2 p.1 ne).trans e, n, ne, nf, d⟩
  · have hfn : X.fn x = true := by
      rcases hf with z | z
      · exact z
      · rw [z] at hk; cases hk
    obtain ⟨c, hc⟩ := I.ok.has x (.inl hk)
    obtain ⟨w', z⟩ := I.cell x c hc
    refine wpAny_storeName_cell I.ok.kind hk hc z (fun h' hc' hs => ?_)
    obtain ⟨oc, hoc, hocd⟩ := id z
    refine h { s with heap := h' } ⟨I.ok, I.os, I.bare, ⟨fun b o e n hb hx => ?_, fun b o e n hb hx => ?_, I.base.free, fun b o e hx => ?_, I.base.tups, I.base.frzs, I.base.tbls⟩, ⟨m, hn.sameBut hs (Ne.symm (cne x c hc)), fun j y v' e1 e2 e3 => ?_⟩, fun y c' e => ?_, I.free, I.freeC, fun p hp => ?_, tracked ⟨oc, hoc, I.freeC x c hc⟩ hs, by simpa using I.len⟩ ⟨c, hs, .inr hc⟩
    · exact (hs.2 b (Nat.ne_of_lt (Nat.lt_of_lt_of_le (Heap.lt_size e) (I.ok.cab x c hfn hc)))).trans (I.base.keep b o e n hb hx)
    · obtain ⟨sl, e1⟩ := I.base.slot b o e n hb hx
      exact ⟨sl, (hs.2 b (Nat.ne_of_lt (Nat.lt_of_lt_of_le (Heap.lt_size e) (I.ok.cab x c hfn hc)))).trans e1⟩
    · obtain ⟨o', e1⟩ := I.base.there b o e hx
      exact ⟨o', (hs.2 b (Nat.ne_of_lt (Nat.lt_of_lt_of_le (Heap.lt_size e) (I.ok.cab x c hfn hc)))).trans e1⟩
    · by_cases hj : j = i
      · subst hj
        rw [hi] at e1; cases e1
        rw [List.getElem?_set_self hiσ] at e2
        cases e2
        exact ⟨u, r, .inr ⟨.inl hk, c, hc, hc'⟩⟩
      · rw [List.getElem?_set_ne (Ne.symm hj)] at e2
        obtain ⟨u', r', q⟩ := hl j y v' e1 e2 e3
        refine ⟨u', r', ?_⟩
        rcases q with q | ⟨k, c', e, z'⟩
        · exact .inl q
        · refine .inr ⟨k, c', e, z'.sameBut hs ?_⟩
          rintro rfl
          exact hj (nodup_ix hN e1 (I.ok.inj _ _ _ e hc ▸ hi))
    · by_cases hcc : c' = c
      · subst hcc; exact ⟨_, hc'⟩
      · obtain ⟨w2, z2⟩ := I.cell y c' e
        exact ⟨w2, z2.sameBut hs hcc⟩
    · obtain ⟨e, n, ne, nf, d⟩ := I.pin p hp
      refine ⟨(hs.2 p.1 ?_).trans e, n, ne, nf, d⟩
      intro q
      rw [q, hoc] at e
      have q' : oc = p.2 := Option.some.inj e
      exact d w' (by rw [← q']; exact hocd)
theorem store_ok {M : Model} {A : Around} {E : Value → Shared → Prop} {i : Nat} {x : Str} {v : V} {u : Value} {Q : Unit → Shared → Prop} (I : Inv X pins σ H s) (hN : X.N.Nodup) (hi : X.N[i]? = some x) (hx : Loc X.env.scope x) (r : RelV v u)
    (h : ∀ s', Inv X pins (σ.set i (some v)) H s' → Q () s') (hf : X.fn x = true ∨ X.env.scope.names.lookup x = some .local := by first | exact .inl rfl | exact .inr rfl | assumption) : wpAny M A (storeName X.env x u) Q E s :=
  store_ok2 I hN hi hx r (fun s' I' _ => h s' I') hf
/-- behind a call or a block, the state as it is -/
theorem Inv.call' {s' : Shared} {ch : List Addr} (I : Inv X pins σ H s) (ho : s'.os = s.os) (u : Un (frs X.stack) ch H H' s.heap s'.heap) (hok : HOk X.prog X.w H' s'.heap) (hg : AllBare s'.gens)
    (hch : ∀ b ∈ ch, (b ∈ X.ex ∨ X.s₀.heap.objs.size ≤ b) ∧ b ≠ X.env.locals ∧ (∀ x c, X.env.cells.lookup x = some c → c ≠ b) ∧ ∀ p ∈ X.pn ++ pins, p.1 ≠ b) : Inv X pins σ H' s' := by
  obtain ⟨h', g', d', t', o'⟩ := s'
  have e : o' = s.os := ho
  subst e
  exact I.call (g' := g') (t' := t') (d' := d') u hok hg hch
end

/-! ### the judgements -/
/-- an exception: its class, its own dict's address (where it has one), the abstract heap behind it -/
abbrev XK := Value → Option Addr → Hp → Prop
abbrev St := List (Option V)
abbrev VK := V → Hp → Prop
/-- an expression's reading; a test's; an argument list's -/
abbrev TE := St → Hp → VK → Prop
abbrev TT := St → Hp → (Bool → Hp → Prop) → Prop
abbrev TA := St → Hp → (List V → Hp → Prop) → Prop
/-- what is wanted behind a statement -/
structure Ends where
  nx : St → Hp → Prop
  rt : VK
  bk : St → Hp → Prop := fun _ _ => False
  ct : St → Hp → Prop := fun _ _ => False
abbrev TS := Ends → St → Hp → Prop

def EP (X : Cx) (pins : List (Addr × Obj)) (σ : St) (Q : VK) (u : Value) (s' : Shared) : Prop := ∃ v H', Inv X pins σ H' s' ∧ RelV v u ∧ Q v H'
def TP (X : Cx) (pins : List (Addr × Obj)) (σ : St) (Q : Bool → Hp → Prop) (b : Bool) (s' : Shared) : Prop := ∃ H', Inv X pins σ H' s' ∧ Q b H'
def AP (X : Cx) (pins : List (Addr × Obj)) (σ : St) (Q : List V → Hp → Prop) (us : List Value) (s' : Shared) : Prop := ∃ vs H', Inv X pins σ H' s' ∧ Vals vs us ∧ Q vs H'
def SP (X : Cx) (pins : List (Addr × Obj)) (D : Ends) (f : Flow) (s' : Shared) : Prop :=
  match f with
  | .next => ∃ σ' H', Inv X pins σ' H' s' ∧ D.nx σ' H'
  | .brk => ∃ σ' H', Inv X pins σ' H' s' ∧ D.bk σ' H'
  | .cont => ∃ σ' H', Inv X pins σ' H' s' ∧ D.ct σ' H'
  | .ret u => ∃ v σ' H', Inv X pins σ' H' s' ∧ RelV v u ∧ D.rt v H'

def PE (X : Cx) (e : Expr) (t : TE) : Prop :=
  ∀ (pins : List (Addr × Obj)) (s : Shared) (σ : St) (H : Hp) (Q : VK), Inv X pins σ H s → t σ H Q → wpAny (model X.prog X.w) X.A (eval e X.env) (EP X pins σ Q) X.xe s
def PT (X : Cx) (e : Expr) (t : TT) : Prop :=
  ∀ (pins : List (Addr × Obj)) (s : Shared) (σ : St) (H : Hp) (Q : Bool → Hp → Prop), Inv X pins σ H s → t σ H Q → wpAny (model X.prog X.w) X.A (isTrue e X.env (eval e X.env)) (TP X pins σ Q) X.xe s
/-- a test whatever its 'whole' is (and, or) -/
def PW (X : Cx) (e : Expr) (t : TT) : Prop :=
  ∀ (whole : Sem Value) (pins : List (Addr × Obj)) (s : Shared) (σ : St) (H : Hp) (Q : Bool → Hp → Prop), Inv X pins σ H s → t σ H Q → wpAny (model X.prog X.w) X.A (isTrue e X.env whole) (TP X pins σ Q) X.xe s
theorem PW.pt {X : Cx} {e : Expr} {t : TT} (h : PW X e t) : PT X e t := h _
/-- an argument list (no star), from the left -/
def PA (X : Cx) (es : List Expr) (t : TA) : Prop :=
  ∀ (pos : Pos) (pins : List (Addr × Obj)) (s : Shared) (σ : St) (H : Hp) (Q : List V → Hp → Prop), Inv X pins σ H s → t σ H Q → wpAny (model X.prog X.w) X.A (spliced (backTo pos (starEach es X.env))) (AP X pins σ Q) X.xe s
def PS (X : Cx) (st : Stmt) (t : TS) : Prop :=
  ∀ (pins : List (Addr × Obj)) (s : Shared) (σ : St) (H : Hp) (D : Ends), Inv X pins σ H s → t D σ H → wpAny (model X.prog X.w) X.A (exec st X.env) (SP X pins D) X.xe s
def PSs (X : Cx) (st : List Stmt) (t : TS) : Prop :=
  ∀ (pins : List (Addr × Obj)) (s : Shared) (σ : St) (H : Hp) (D : Ends), Inv X pins σ H s → t D σ H → wpAny (model X.prog X.w) X.A (execs st X.env) (SP X pins D) X.xe s
/-- weaken the end -/
theorem thn {α : Type} {t : Sem α} {Q Q' : α → Shared → Prop} {M : Model} {A : Around} {E : Value → Shared → Prop} {s : Shared} (h : wpAny M A t Q E s) (hQ : ∀ a s, Q a s → Q' a s) : wpAny M A t Q' E s := wpAny_mono h hQ fun _ _ x => x
end L2

namespace L2
open PySem PySem.Spec PyProof.Rows
section
variable {X : Cx}

/-! ### names and constants -/
def tVar (i : Nat) : TE := fun σ H Q => ∃ v, σ[i]? = some (some v) ∧ Q v H
def tC (v : V) : TE := fun _ H Q => Q v H
theorem pe_var {i : Nat} {x : Str} {pos : Pos} (hN : X.N[i]? = some x) (hv : Vis X.env.scope x) (hd : (x == ("__debug__" : Str)) = false := by decide) (hcd : (x == ("__classdict__" : Str)) = false := by decide) : PE X (.Name x pos) (tVar i) := by
  intro pins s σ H Q I h
  obtain ⟨v, e, h⟩ := h
  obtain ⟨m, hn, hl⟩ := I.loc
  obtain ⟨u, r, l⟩ := hl i x v hN e hv
  have fin : EP X pins σ Q u s := ⟨v, H, I, r, h⟩
  rcases l with ⟨hk, hm⟩ | ⟨hk, c, hc, hcell⟩
  · exact wpAny_Name (wpAny_loadName_local I.ok.kind hk hn hm fin) hd
  · rcases hk with hk | hk
    · exact wpAny_Name (wpAny_loadName_cell I.ok.kind hk hc hcell fin) hd
    · exact wpAny_Name (wpAny_loadName_free I.ok.kind hk hc hcell fin hcd) hd
theorem pe_int {i j pos} : PE X (.Constant (.int i) j pos) (tC (.int i)) := fun _ _ _ H _ I h => wpAny_Constant_int ⟨.int i, H, I.tok _, ⟨_, rfl⟩, h⟩
theorem pe_bl {b j pos} : PE X (.Constant (.bool b) j pos) (tC (.bl b)) := fun _ _ _ H _ I h => Constant_bool ⟨.bl b, H, I, rfl, h⟩
theorem pe_non {j pos} : PE X (.Constant .none j pos) (tC .non) := fun _ _ _ H _ I h => Constant_none ⟨.non, H, I, rfl, h⟩
theorem pe_str {x j pos} : PE X (.Constant (.str x) j pos) (tC (.str x)) := fun _ _ _ H _ I h => Calls.Constant_str ⟨.str x, H, I.tok _, ⟨_, rfl⟩, h⟩

/-- a global name of the def -/
def Gl (X : Cx) (x : Str) : Prop := X.env.kindOf x = some .globalImplicit
theorem ld_glob {E : Value → Shared → Prop} {pins : List (Addr × Obj)} {s : Shared} {σ : St} {H : Hp} {x : Str} {u : Value} {pos : Pos} {Q : Value → Shared → Prop} (I : Inv X pins σ H s) (hg : Gl X x) (hm : X.mg x = some u) (h : Q u s)
    (hd : (x == ("__debug__" : Str)) = false := by decide) : wpAny (model X.prog X.w) X.A (eval (.Name x pos) X.env) Q E s :=
  Calls.Name_function_global I.ok.kind hg (Calls.loadGlobal_global (by rw [I.ok.glob]; exact I.mod.glob.keeps I.bk) hm h) hd
theorem ld_blt {E : Value → Shared → Prop} {pins : List (Addr × Obj)} {s : Shared} {σ : St} {H : Hp} {x : Str} {u : Value} {pos : Pos} {Q : Value → Shared → Prop} (I : Inv X pins σ H s) (hg : Gl X x) (hm : X.mg x = none) (hv : bootBuiltins x = some u) (h : Q u s)
    (hn : x ≠ "__name__" := by decide) (hd : (x == ("__debug__" : Str)) = false := by decide) : wpAny (model X.prog X.w) X.A (eval (.Name x pos) X.env) Q E s := by
  obtain ⟨mb, h1, h2⟩ := I.mod.blt
  exact Calls.Name_function_global I.ok.kind hg (Calls.loadGlobal_builtin (by rw [I.ok.glob]; exact I.mod.glob.keeps I.bk) hm (by rw [I.ok.blt]; exact h1.keeps I.bk) ((h2 x hn).trans hv) h) hd
/-- a module's constant, a class, a function, as a value -/
theorem pe_glob {x : Str} {v : V} {u : Value} {pos : Pos} (hg : Gl X x) (hm : X.mg x = some u) (r : RelV v u) (hd : (x == ("__debug__" : Str)) = false := by decide) : PE X (.Name x pos) (tC v) :=
  fun _ _ _ H _ I h => ld_glob I hg hm ⟨v, H, I, r, h⟩ hd
theorem pe_bltn {x : Str} {v : V} {u : Value} {pos : Pos} (hg : Gl X x) (hm : X.mg x = none) (hv : bootBuiltins x = some u) (r : RelV v u) (hn : x ≠ "__name__" := by decide) (hd : (x == ("__debug__" : Str)) = false := by decide) : PE X (.Name x pos) (tC v) :=
  fun _ _ _ H _ I h => ld_blt I hg hm hv ⟨v, H, I, r, h⟩ hn hd

/-! ### arithmetic -/
/-- two ints -/
def t2I (ta tb : TE) (k : Int → Int → Hp → Prop) : St → Hp → Prop := fun σ H => ta σ H fun x H1 => tb σ H1 fun y H2 => ∃ i j, x = .int i ∧ y = .int j ∧ k i j H2
def tAdd (ta tb : TE) : TE := fun σ H Q => t2I ta tb (fun i j H2 => Q (.int (i + j)) H2) σ H
def tSub (ta tb : TE) : TE := fun σ H Q => t2I ta tb (fun i j H2 => Q (.int (i - j)) H2) σ H
/-- the left factor below 2^64 -/
def tMul (ta tb : TE) : TE := fun σ H Q => t2I ta tb (fun i j H2 => (-(2 ^ 64) < i ∧ i < 2 ^ 64) ∧ Q (.int (i * j)) H2) σ H
variable {a b : Expr} {ta tb : TE} {pos : Pos}
/-! ### comparisons -/
def PC (X : Cx) (op : CmpOp) (a b : Expr) (t : TE) : Prop :=
  ∀ (pins : List (Addr × Obj)) (s : Shared) (σ : St) (H : Hp) (Q : VK), Inv X pins σ H s → t σ H Q →
    wpAny (model X.prog X.w) X.A (eval a X.env) (fun v s₁ => wpAny (model X.prog X.w) X.A (eval b X.env) (fun u s₂ => wpAny (model X.prog X.w) X.A (compareOp op v u) (EP X pins σ Q) X.xe s₂) X.xe s₁) X.xe s
theorem nobehind (b : Expr) {op : CmpOp} (h : op ≠ .In) (h2 : op ≠ .NotIn) : behindInMarks op b = false := by
  have e1 : (op == CmpOp.In) = false := by cases op <;> first | rfl | exact absurd rfl h
  have e2 : (op == CmpOp.NotIn) = false := by cases op <;> first | rfl | exact absurd rfl h2
  cases b <;> simp [behindInMarks, e1, e2]
def tCmp (p : Int → Int → Bool) (ta tb : TE) : TE := fun σ H Q => t2I ta tb (fun i j H2 => Q (.bl (p i j)) H2) σ H
abbrev tLt : TE → TE → TE := tCmp fun i j => decide (i < j)
abbrev tLe : TE → TE → TE := tCmp fun i j => decide (i ≤ j)
abbrev tGt : TE → TE → TE := tCmp fun i j => decide (j < i)
abbrev tGe : TE → TE → TE := tCmp fun i j => decide (j ≤ i)
abbrev tEqI : TE → TE → TE := tCmp fun i j => decide (i = j)
abbrev tNeI : TE → TE → TE := tCmp fun i j => !decide (i = j)
/-- is None -/
def tIsN (ta : TE) : TE := fun σ H Q => ta σ H fun x H1 => Q (.bl (decide (x = .non))) H1
def tNotN (ta : TE) : TE := fun σ H Q => ta σ H fun x H1 => Q (.bl (!decide (x = .non))) H1
/-- a comparison as a value, as a test -/
def tB (t : TE) : TT := fun σ H Q => t σ H fun x H1 => ∃ c, x = .bl c ∧ Q c H1
theorem pt_cmp {op : CmpOp} {t : TE} (h : PC X op a b t) (h1 : behindInMarks op b = false := by first | exact nobehind _ (by decide) (by decide) | rfl) : PT X (.Compare a [op] [b] pos) (tB t) := by
  intro pins s σ H Q I hw
  refine wpAny_isTrue_Compare1 (thn (h pins s σ H _ I hw) fun v s1 h1 => thn h1 fun u s2 h2 => thn h2 fun c s3 ⟨x, H1, I1, r1, q1⟩ => ?_) h1
  obtain ⟨d, rfl, q⟩ := q1
  cases r1
  exact wpAny_truthy_bool ⟨H1, I1, q⟩
/-- an expression whose value is a bool, as a test -/
theorem pt_val {e : Expr} {t : TE} (h : PE X e t) (he : ∀ whole, isTrue e X.env whole = (do let v ← whole; standAt e.pos; holding [v] (truthy v)) := by intro _; rfl) : PT X e (tB t) := by
  intro pins s σ H Q I hw
  refine isTrue_plain (thn (h pins s σ H _ I hw) fun v s1 ⟨x, H1, I1, r1, q1⟩ => ?_) (he _)
  obtain ⟨d, rfl, q⟩ := q1
  cases r1
  exact wpAny_truthy_bool ⟨H1, I1, q⟩

/-! ### and, or, not -/
variable {tA tB' : TT} {rest : List Expr}
def tAnd (t u : TT) : TT := fun σ H Q => t σ H fun c H1 => if c = true then u σ H1 Q else Q false H1
def tOr (t u : TT) : TT := fun σ H Q => t σ H fun c H1 => if c = true then Q true H1 else u σ H1 Q
def tNot (t : TT) : TT := fun σ H Q => t σ H fun c H1 => Q (!c) H1
theorem pw_and1 (ha : PT X a tA) : PW X (.BoolOp .And [a] pos) tA := by
  intro wh pins s σ H Q I h
  refine isTrue_and (thn (ha pins s σ H Q I h) fun c s1 e => ?_)
  cases c with
  | true => exact isTrue_and_nil e
  | false => exact e
theorem pw_or1 (ha : PT X a tA) : PW X (.BoolOp .Or [a] pos) tA := by
  intro wh pins s σ H Q I h
  refine isTrue_or (thn (ha pins s σ H Q I h) fun c s1 e => ?_)
  cases c with
  | false => exact isTrue_or_nil e
  | true => exact e
theorem pw_and (ha : PT X a tA) (hb : PW X (.BoolOp .And (b :: rest) pos) tB') : PW X (.BoolOp .And (a :: b :: rest) pos) (tAnd tA tB') := by
  intro wh pins s σ H Q I h
  refine isTrue_and (thn (ha pins s σ H _ I h) fun c s1 ⟨H1, I1, q1⟩ => ?_)
  cases c with
  | true => exact hb wh pins s1 σ H1 Q I1 q1
  | false => exact ⟨H1, I1, q1⟩
theorem pw_or (ha : PT X a tA) (hb : PW X (.BoolOp .Or (b :: rest) pos) tB') : PW X (.BoolOp .Or (a :: b :: rest) pos) (tOr tA tB') := by
  intro wh pins s σ H Q I h
  refine isTrue_or (thn (ha pins s σ H _ I h) fun c s1 ⟨H1, I1, q1⟩ => ?_)
  cases c with
  | true => exact ⟨H1, I1, q1⟩
  | false => exact hb wh pins s1 σ H1 Q I1 q1
theorem pt_not (ha : PT X a tA) : PT X (.UnaryOp .Not a pos) (tNot tA) := by
  intro pins s σ H Q I h
  exact isTrue_not (ha pins s σ H (fun c H1 => Q (!c) H1) I h)
/-- .. as values (bools) -/
def tAndV (ta tb : TE) : TE := fun σ H Q => ta σ H fun x H1 => ∃ c, x = .bl c ∧ if c = true then tb σ H1 Q else Q (.bl false) H1
def tOrV (ta tb : TE) : TE := fun σ H Q => ta σ H fun x H1 => ∃ c, x = .bl c ∧ if c = true then Q (.bl true) H1 else tb σ H1 Q
def tNotV (ta : TE) : TE := fun σ H Q => ta σ H fun x H1 => ∃ c, x = .bl c ∧ Q (.bl (!c)) H1
theorem pe_one {op} {t : TE} (h : PE X a t) : PE X (.BoolOp op [a] pos) t := fun pins s σ H Q I hw => BoolOp_one (h pins s σ H Q I hw)
theorem pe_and (ha : PE X a ta) (hb : PE X (.BoolOp .And (b :: rest) pos) tb) : PE X (.BoolOp .And (a :: b :: rest) pos) (tAndV ta tb) := by
  intro pins s σ H Q I h
  refine BoolOp_and (thn (ha pins s σ H _ I h) fun v s1 ⟨x, H1, I1, r1, q1⟩ => ?_)
  obtain ⟨c, rfl, q1⟩ := q1
  cases r1
  refine wpAny_truthy_bool ?_
  cases c with
  | true => exact hb pins s1 σ H1 Q I1 q1
  | false => exact ⟨.bl false, H1, I1, rfl, q1⟩
/-- a if t else b -/
def tIf (t : TT) (ta tb : TE) : TE := fun σ H Q => t σ H fun c H1 => if c = true then ta σ H1 Q else tb σ H1 Q
theorem pe_ifExp {c : Expr} (hc : PT X c tA) (ha : PE X a ta) (hb : PE X b tb) : PE X (.IfExp c a b pos) (tIf tA ta tb) := by
  intro pins s σ H Q I h
  refine wpAny_IfExp (thn (hc pins s σ H _ I h) fun d s1 ⟨H1, I1, q1⟩ => ?_)
  cases d with
  | true => exact ha pins s1 σ H1 Q I1 q1
  | false => exact hb pins s1 σ H1 Q I1 q1
end
end L2

namespace L2
open PySem PySem.Spec PyProof.Rows

/-! ### a list, a tuple that is read: tracked, frozen, or an object of the module -/
def SqL (K : PySem.W.Frag) (H : Hp) (a : Addr) (xs : List V) : Prop :=
  Rd H a (.lst xs) ∨
    ∃ (o : Obj) (its : Array Value) (n : Nat), K.lookup a = some o ∧ o.cls = .type "list" ∧ o.dict = none ∧ o.data = .seq its n ∧ its.size ≤ sizeLine ∧ Vals xs its.toList
def SqT (K : PySem.W.Frag) (H : Hp) (a : Addr) (xs : List V) : Prop :=
  Rd H a (.tup xs) ∨
    ∃ (o : Obj) (its : Array Value) (n : Nat), K.lookup a = some o ∧ o.cls = .type "tuple" ∧ o.data = .seq its n ∧ its.size ≤ sizeLine ∧ Vals xs its.toList
def absV : Value → Option V
  | .none => some .non
  | .bool b => some (.bl b)
  | .int i _ => some (.int i)
  | .str x _ => some (.str x)
  | .bytes b _ => some (.byt b)
  | .float b _ => some (.flt b)
  | .ref a => some (.ref a)
  | .type n => some (.ty n)
  | _ => none
theorem RelV.abs {x : V} {u : Value} (r : RelV x u) : absV u = some x := by
  cases x with
  | non => cases r; rfl
  | bl _ => cases r; rfl
  | int _ => obtain ⟨t, rfl⟩ := r; rfl
  | str _ => obtain ⟨t, rfl⟩ := r; rfl
  | byt _ => obtain ⟨t, rfl⟩ := r; rfl
  | flt _ => obtain ⟨t, rfl⟩ := r; rfl
  | ref _ => cases r; rfl
  | ty _ => cases r; rfl
theorem RelV.inj {x y : V} {u : Value} (r : RelV x u) (q : RelV y u) : x = y := Option.some.inj (r.abs.symm.trans q.abs)
theorem Vals.inj : ∀ {xs ys : List V} {us : List Value}, Vals xs us → Vals ys us → xs = ys
  | _, _, _, .nil, .nil => rfl
  | _, _, _, .cons r t, .cons r' t' => by rw [r.inj r', Vals.inj t t']
section
variable {X : Cx} {pins : List (Addr × Obj)} {σ : St} {H : Hp} {s : Shared} {a : Addr} {xs ys : List V}
theorem SqL.of {K : PySem.W.Frag} (h : H a = some (.lst xs)) : SqL K H a xs := .inl (.inl h)
theorem SqT.of {K : PySem.W.Frag} (h : H a = some (.tup xs)) : SqT K H a xs := .inl (.inl h)
theorem Inv.list (I : Inv X pins σ H s) (h : SqL X.K H a xs) : ∃ its : List Value, Vals xs its ∧ PlainL s.heap a its.toArray ∧ xs.length ≤ sizeLine := by
  rcases h with h | ⟨o, its, n, hk, hc, hd, hs, hz, r⟩
  · obtain ⟨z, its, n, r, e⟩ := h.ok I.hok
    exact ⟨its, r, ⟨_, n, e, rfl, rfl, rfl⟩, z⟩
  · refine ⟨its.toList, r, ⟨o, n, I.kIn a o hk, hc, hd, by simpa using hs⟩, ?_⟩
    have e := r.length
    simp only [Array.length_toList] at e
    omega
theorem Inv.tuple (I : Inv X pins σ H s) (h : SqT X.K H a xs) : ∃ its : List Value, Vals xs its ∧ IsTup s.heap a its.toArray ∧ xs.length ≤ sizeLine := by
  rcases h with h | ⟨o, its, n, hk, hc, hs, hz, r⟩
  · obtain ⟨z, its, r, p⟩ := h.ok I.hok
    exact ⟨its, r, p, z⟩
  · refine ⟨its.toList, r, ⟨o, I.kIn a o hk, hc, n, by simpa using hs⟩, ?_⟩
    have e := r.length
    simp only [Array.length_toList] at e
    omega
theorem Inv.list_inj (I : Inv X pins σ H s) (h : SqL X.K H a xs) (h' : SqL X.K H a ys) : xs = ys := by
  obtain ⟨its, r, ⟨o, n, e, _, _, d⟩, _⟩ := I.list h
  obtain ⟨its', r', ⟨o', n', e', _, _, d'⟩, _⟩ := I.list h'
  rw [e] at e'; cases e'
  rw [d] at d'
  injection d' with d1 _
  have : its = its' := by simpa using congrArg Array.toList d1
  subst this
  exact r.inj r'
end

/-! ### another wish about exceptions -/
abbrev Cx.wish (X : Cx) (E : Value → Shared → Prop) : Cx := { X with xe := E }
/-- no exception leaves -/
abbrev Cx.nox (X : Cx) : Cx := X.wish fun _ _ => False
theorem Cx.Ok.wish {X : Cx} (ok : X.Ok) (E : Value → Shared → Prop) : (X.wish E).Ok :=
  ⟨ok.mod, ok.kind, ok.glob, ok.blt, ok.above, ok.inj, ok.has, ok.cab, ok.hd, ok.frames, ok.stk, ok.exf, ok.bs, ok.bsz, ok.noex, ok.exfs, ok.funs, ok.frf⟩
theorem Cx.Ok.unwish {X : Cx} {E : Value → Shared → Prop} (ok : (X.wish E).Ok) : X.Ok :=
  ⟨ok.mod, ok.kind, ok.glob, ok.blt, ok.above, ok.inj, ok.has, ok.cab, ok.hd, ok.frames, ok.stk, ok.exf, ok.bs, ok.bsz, ok.noex, ok.exfs, ok.funs, ok.frf⟩
section
variable {X : Cx} {pins : List (Addr × Obj)} {σ : St} {H : Hp} {s : Shared} {E : Value → Shared → Prop}
theorem Inv.wish (I : Inv X pins σ H s) (E : Value → Shared → Prop) : Inv (X.wish E) pins σ H s := ⟨I.ok.wish E, I.os, I.bare, I.base, I.loc, I.cell, I.free, I.freeC, I.pin, I.hok, I.len⟩
theorem Inv.unwish (I : Inv (X.wish E) pins σ H s) : Inv X pins σ H s := ⟨I.ok.unwish, I.os, I.bare, I.base, I.loc, I.cell, I.free, I.freeC, I.pin, I.hok, I.len⟩
theorem SP.unwish {D : Ends} {f : Flow} {s' : Shared} (h : SP (X.wish E) pins D f s') : SP X pins D f s' := by
  cases f with
  | next => obtain ⟨σ', H', I, q⟩ := h; exact ⟨σ', H', I.unwish, q⟩
  | brk => obtain ⟨σ', H', I, q⟩ := h; exact ⟨σ', H', I.unwish, q⟩
  | cont => obtain ⟨σ', H', I, q⟩ := h; exact ⟨σ', H', I.unwish, q⟩
  | ret u => obtain ⟨v, σ', H', I, r, q⟩ := h; exact ⟨v, σ', H', I.unwish, r, q⟩
theorem PSs.nox {st : List Stmt} {t : TS} (h : PSs X.nox st t) : PSs X st t := fun pins s σ H D I hw =>
  wpAny_mono (h pins s σ H D (I.wish _) hw) (fun _ _ q => q.unwish) fun _ _ z => False.elim z
end

/-! ### blocks and small statements -/
section
variable {X : Cx} {st : Stmt} {rest : List Stmt} {t u : TS} {e : Expr} {te : TE} {pos : Pos}
def tNext : TS := fun D σ H => D.nx σ H
def tSeq (t u : TS) : TS := fun D σ H => t { D with nx := u D } σ H
theorem pss_nil : PSs X [] tNext := fun _ _ σ H _ I h => wpAny_execs_nil ⟨σ, H, I, h⟩
theorem pss_cons (h1 : PS X st t) (h2 : PSs X rest u) : PSs X (st :: rest) (tSeq t u) := by
  intro pins s σ H D I h
  refine wpAny_execs_cons (thn (h1 pins s σ H { D with nx := u D } I h) fun f s1 q => ?_)
  cases f with
  | next =>
    obtain ⟨σ', H', I', q⟩ := q
    exact h2 pins s1 σ' H' D I' q
  | ret v => exact q
  | brk => exact q
  | cont => exact q
theorem pss_one (h1 : PS X st t) : PSs X [st] t := by
  intro pins s σ H D I h
  refine wpAny_execs_cons (thn (h1 pins s σ H D I h) fun f s1 q => ?_)
  cases f with
  | next => exact wpAny_execs_nil q
  | ret v => exact q
  | brk => exact q
  | cont => exact q
def tBreak : TS := fun D σ H => D.bk σ H
def tCont : TS := fun D σ H => D.ct σ H
/-- in a def's body nothing is shown -/
theorem Inv.quiet {pins : List (Addr × Obj)} {σ : St} {H : Hp} {s : Shared} (I : Inv X pins σ H s) : interactive X.env = false := by simp [interactive, I.ok.kind]
/-- an expression whose value is dropped -/
def tDrop (te : TE) : TS := fun D σ H => te σ H fun _ H1 => D.nx σ H1
theorem ps_expr (he : PE X e te) (hs : swapsWith e none pos.line X.env = pure false := by rfl) : PS X (.Expr e pos) (tDrop te) := by
  intro pins s σ H D I h
  exact wpAny_Expr_any (thn (he pins s σ H _ I h) fun v s1 ⟨x, H1, I1, r1, q1⟩ => ⟨σ, H1, I1, q1⟩) I.quiet hs
def tRet (te : TE) : TS := fun D σ H => te σ H D.rt
theorem ps_ret (he : PE X e te) : PS X (.Return (some e) pos) (tRet te) := by
  intro pins s σ H D I h
  exact wpAny_Return_some (thn (he pins s σ H _ I h) fun v s1 ⟨x, H1, I1, r1, q1⟩ => ⟨x, σ, H1, I1, r1, q1⟩)
def tRetN : TS := fun D _ H => D.rt .non H
def tIfS (c : TT) (t u : TS) : TS := fun D σ H => c σ H fun b H1 => if b = true then t D σ H1 else u D σ H1
theorem ps_if {c : Expr} {a b : List Stmt} {tc : TT} (hc : PT X c tc) (ha : PSs X a t) (hb : PSs X b u) : PS X (.If c a b pos) (tIfS tc t u) := by
  intro pins s σ H D I h
  refine wpAny_If (thn (hc pins s σ H _ I h) fun d s1 ⟨H1, I1, q1⟩ => ?_)
  cases d with
  | true => exact ha pins s1 σ H1 D I1 q1
  | false => exact hb pins s1 σ H1 D I1 q1
/-- code that the proof never comes to -/
def tNever : TS := fun _ _ _ => False
theorem ps_never : PS X st tNever := fun _ _ _ _ _ _ h => h.elim
end

/-! ### targets -/
abbrev TG := V → St → Hp → (St → Hp → Prop) → Prop
abbrev TGs := List V → St → Hp → (St → Hp → Prop) → Prop
def PG (X : Cx) (target : Expr) (t : TG) : Prop :=
  ∀ (pins : List (Addr × Obj)) (s : Shared) (σ : St) (H : Hp) (v : V) (u : Value) (Q : St → Hp → Prop), Inv X pins σ H s → RelV v u → t v σ H Q →
    wpAny (model X.prog X.w) X.A (assign target X.env u) (fun _ s' => ∃ σ' H', Inv X pins σ' H' s' ∧ Q σ' H') X.xe s
/-- several targets, one after another -/
def PGs (X : Cx) (ts : List Expr) (t : TGs) : Prop :=
  ∀ (pins : List (Addr × Obj)) (s : Shared) (σ : St) (H : Hp) (vs : List V) (us : List Value) (Q : St → Hp → Prop), Inv X pins σ H s → Vals vs us → t vs σ H Q →
    wpAny (model X.prog X.w) X.A (assignInOrder ((assignEach ts X.env).map (·.2)) us) (fun _ s' => ∃ σ' H', Inv X pins σ' H' s' ∧ Q σ' H') X.xe s
/-- o[i] = v, by values -/
abbrev TSet := V → V → V → Hp → (Hp → Prop) → Prop
def PSet (X : Cx) (t : TSet) : Prop :=
  ∀ (pins : List (Addr × Obj)) (s : Shared) (σ : St) (H : Hp) (o i v : V) (ov iv u : Value) (Q : Hp → Prop), Inv X pins σ H s → RelV o ov → RelV i iv → RelV v u → t o i v H Q →
    wpAny (model X.prog X.w) X.A (setItem ov iv u) (fun _ s' => ∃ H', Inv X pins σ H' s' ∧ Q H') X.xe s
/-- a op= b, by values -/
abbrev TIp := V → V → Hp → VK → Prop
def PIp (X : Cx) (op : Operator) (t : TIp) : Prop :=
  ∀ (pins : List (Addr × Obj)) (s : Shared) (σ : St) (H : Hp) (x y : V) (v u : Value) (Q : VK), Inv X pins σ H s → RelV x v → RelV y u → t x y H Q →
    wpAny (model X.prog X.w) X.A (inplaceOp op v u) (EP X pins σ Q) X.xe s
section
variable {X : Cx} {pos : Pos}
def gName (i : Nat) : TG := fun v σ H Q => Q (σ.set i (some v)) H
theorem pg_name {i : Nat} {x : Str} (hN : X.N.Nodup) (hi : X.N[i]? = some x) (hx : Loc X.env.scope x) (hf : X.fn x = true ∨ X.env.scope.names.lookup x = some .local := by first | exact .inl rfl | exact .inr rfl | assumption) : PG X (.Name x pos) (gName i) := by
  intro pins s σ H v u Q I r h
  exact wpAny_assign_Name (store_ok I hN hi hx r (fun s' I' => ⟨_, H, I', h⟩) hf)
def gNil : TGs := fun vs σ H Q => vs = [] ∧ Q σ H
def gCons (t : TG) (u : TGs) : TGs := fun vs σ H Q => ∃ v r, vs = v :: r ∧ t v σ H fun σ' H' => u r σ' H' Q
/-- (a, b, ..) = a tuple of that length -/
def gTup (K : PySem.W.Frag) (n : Nat) (t : TGs) : TG := fun v σ H Q => ∃ a xs, v = .ref a ∧ SqT K H a xs ∧ xs.length = n ∧ t xs σ H Q
/-- o[i] = .. -/
def gSub (to ti : TE) (t : TSet) : TG := fun v σ H Q => to σ H fun o H1 => ti σ H1 fun i H2 => t o i v H2 fun H3 => Q σ H3
theorem pg_sub {o i : Expr} {to ti : TE} {t : TSet} (ho : PE X o to) (hi : PE X i ti) (hs : PSet X t)
    (ha : ∀ v, assign (.Subscript o i pos) X.env v = (do
      let ov ← holding [v] (eval o X.env)
      let iv ← holding [v, ov] (eval i X.env)
      standAt pos
      holding [v, ov, iv] (setItem ov iv v)
      release [v, ov, iv] []) := by intro _; rfl) : PG X (.Subscript o i pos) (gSub to ti t) := by
  intro pins s σ H v u Q I r h
  rw [ha]
  refine wpAny_bind (wpAny_holding (thn (ho pins s σ H _ I h) fun ov s1 ⟨x, H1, I1, r1, q1⟩ => ?_))
  refine wpAny_bind (wpAny_holding (thn (hi pins s1 σ H1 _ I1 q1) fun iv s2 ⟨y, H2, I2, r2, q2⟩ => ?_))
  refine wpAny_bind (wpAny_standAt (wpAny_bind (wpAny_holding (thn (hs pins s2 σ H2 x y v ov iv u _ I2 r1 r2 r q2) fun _ s3 ⟨H3, I3, q3⟩ => ?_))))
  exact wpAny_release ⟨σ, H3, I3, q3⟩
/-- target = value -/
def tAsg (te : TE) (g : TG) : TS := fun D σ H => te σ H fun x H1 => g x σ H1 D.nx
theorem ps_asg {tg e : Expr} {te : TE} {g : TG} (he : PE X e te) (hg : PG X tg g) (hs : swapsWithSole [tg] e pos.line X.env = pure false := by rfl) (hw : swappedStores [tg] e X.env = pure none := by rfl)
    (h1 : (assignEach [tg] X.env).map (·.2) = [assign tg X.env] := by rfl) : PS X (.Assign [tg] e pos) (tAsg te g) := by
  intro pins s σ H D I h
  refine wpAny_Assign_stores (thn (he pins s σ H _ I h) fun v s1 ⟨x, H1, I1, r1, q1⟩ => ?_) hs hw
  rw [h1]
  exact thn (hg pins s1 σ H1 x v _ I1 r1 q1) fun _ s2 q => q
/-- name = value -/
theorem ps_set {i : Nat} {x : Str} {e : Expr} {te : TE} {pos' : Pos} (hN : X.N.Nodup) (hi : X.N[i]? = some x) (hx : Loc X.env.scope x) (he : PE X e te) (hs : swapsWith e (some (.Name x pos')) pos.line X.env = pure false := by rfl) (hf : X.fn x = true ∨ X.env.scope.names.lookup x = some .local := by first | exact .inl rfl | exact .inr rfl | assumption) :
    PS X (.Assign [.Name x pos'] e pos) (tAsg te (gName i)) := by
  intro pins s σ H D I h
  refine wpAny_Assign_Name (thn (he pins s σ H _ I h) fun v s1 ⟨y, H1, I1, r1, q1⟩ => ?_) hs
  exact store_ok I1 hN hi hx r1 (fun s2 I2 => ⟨_, H1, I2, q1⟩) hf
/-- a, b = x, y with plain local names: stored from the right; the pair itself is not tracked (the opening rows as in PyProof/Rows/TupAssign.lean:23) -/
def tPar (i j : Nat) (ta : TA) : TS := fun D σ H => ta σ H fun vs H1 => ∃ v w, vs = [v, w] ∧ D.nx ((σ.set i (some v)).set j (some w)) H1
/-- name op= e -/
def tAug (i : Nat) (te : TE) (ti : TIp) : TS := fun D σ H => ∃ x, σ[i]? = some (some x) ∧ te σ H fun y H1 => ti x y H1 fun z H2 => D.nx (σ.set i (some z)) H2
theorem ps_aug {i : Nat} {x : Str} {e : Expr} {te : TE} {op : Operator} {ti : TIp} {pos' : Pos} (hN : X.N.Nodup) (hi : X.N[i]? = some x) (hx : Loc X.env.scope x) (he : PE X e te) (ho : PIp X op ti) (hf : X.fn x = true ∨ X.env.scope.names.lookup x = some .local := by first | exact .inl rfl | exact .inr rfl | assumption) :
    PS X (.AugAssign (.Name x pos') op e pos) (tAug i te ti) := by
  intro pins s σ H D I h
  obtain ⟨v, e1, h⟩ := h
  obtain ⟨m, hn, hl⟩ := I.loc
  have vis : Vis X.env.scope x := by rcases hx with k | k; exact .inl k; exact .inr (.inl k)
  obtain ⟨u, r, l⟩ := hl i x v hi e1 vis
  refine wpAny_AugAssign_Name ?_
  have go : wpAny (model X.prog X.w) X.A (eval e X.env) (fun w s₂ => wpAny (model X.prog X.w) X.A (inplaceOp op u w) (fun r s₃ => wpAny (model X.prog X.w) X.A (storeName X.env x r) (fun _ => SP X pins D .next) X.xe s₃) X.xe s₂) X.xe s := by
    refine thn (he pins s σ H _ I h) fun w s1 ⟨y, H1, I1, r1, q1⟩ => ?_
    refine thn (ho pins s1 σ H1 v y u w _ I1 r r1 q1) fun z s2 ⟨zv, H2, I2, r2, q2⟩ => ?_
    exact store_ok I2 hN hi hx r2 (fun s3 I3 => ⟨_, H2, I3, q2⟩) hf
  rcases l with ⟨hk, hm⟩ | ⟨hk, c, hc, hcell⟩
  · exact wpAny_loadName_local I.ok.kind hk hn hm go
  · rcases hk with hk | hk
    · exact wpAny_loadName_cell I.ok.kind hk hc hcell go
    · rcases hx with k | k
      · have : X.env.scope.names.lookup x = some .free := hk
        rw [k] at this; cases this
      · have : X.env.scope.names.lookup x = some .free := hk
        rw [k] at this; cases this
/-- o[i] op= e -/
def tAugS (to ti te : TE) (tget : V → V → Hp → VK → Prop) (tip : TIp) (tset : TSet) : TS := fun D σ H => to σ H fun o H1 => ti σ H1 fun i H2 => tget o i H2 fun x H3 => te σ H3 fun y H4 => tip x y H4 fun z H5 => tset o i z H5 fun H6 => D.nx σ H6
/-- o[i], by values -/
def PGet (X : Cx) (t : V → V → Hp → VK → Prop) : Prop :=
  ∀ (pins : List (Addr × Obj)) (s : Shared) (σ : St) (H : Hp) (o i : V) (ov iv : Value) (Q : VK), Inv X pins σ H s → RelV o ov → RelV i iv → t o i H Q →
    wpAny (model X.prog X.w) X.A (getItem ov iv) (EP X pins σ Q) X.xe s
/-- ints -/
def ipI (f : Int → Int → Int) : TIp := fun x y H Q => ∃ i j, x = .int i ∧ y = .int j ∧ Q (.int (f i j)) H
theorem ip_add : PIp X .Add (ipI fun i j => i + j) := by
  intro pins s σ H x y v u Q I r1 r2 h
  obtain ⟨i, j, e1, e2, q⟩ := h
  subst e1; subst e2
  obtain ⟨t, rfl⟩ := r1
  obtain ⟨t', rfl⟩ := r2
  exact iadd_int ⟨.int _, H, I.tok _, ⟨_, rfl⟩, q⟩
end

/-! ### while -/
section
variable {X : Cx} {pos : Pos}
/-- the invariant W with its measure -/
def tWhile (c : TT) (tb : TS) : TS := fun D σ H => ∃ W : Nat → St → Hp → Prop, (∃ m, W m σ H) ∧ ∀ m σ H, W m σ H →
  c σ H fun b H1 => if b = true then ∃ N : St → Hp → Prop, (∀ σ' H', N σ' H' → ∃ m', m' < m ∧ W m' σ' H') ∧ tb { D with nx := N, ct := N, bk := D.nx } σ H1 else D.nx σ H1
theorem ps_while {c : Expr} {body : List Stmt} {tc : TT} {tb : TS} (hp : PassesOwn (model X.prog X.w) X.A X.env X.xe) (hc : PT X c tc) (hb : PSs X body tb) : PS X (.While c body [] pos) (tWhile tc tb) := by
  intro pins s σ H D I h
  obtain ⟨W, ⟨m0, w0⟩, turn⟩ := h
  refine wpAny_While (codeAny_whileLoop (fun n s' => ∃ σ' H', Inv X pins σ' H' s' ∧ W n σ' H') ?_ m0 ⟨σ, H, I, w0⟩)
  rintro n s1 ⟨σ1, H1, I1, w1⟩
  refine wpAny_passesOwn hp (thn (hc pins s1 σ1 H1 _ I1 (turn n σ1 H1 w1)) fun b s2 ⟨H2, I2, q2⟩ => ?_)
  cases b with
  | true =>
    obtain ⟨N, hN, q2⟩ := q2
    rw [if_pos rfl]
    refine wpAny_passesOwn hp (thn (hb pins s2 σ1 H2 _ I2 q2) fun f s3 q3 => ?_)
    cases f with
    | next =>
      obtain ⟨σ3, H3, I3, n3⟩ := q3
      obtain ⟨m', hm, w3⟩ := hN σ3 H3 n3
      exact ⟨m', hm, σ3, H3, I3, w3⟩
    | cont =>
      obtain ⟨σ3, H3, I3, n3⟩ := q3
      obtain ⟨m', hm, w3⟩ := hN σ3 H3 n3
      exact ⟨m', hm, σ3, H3, I3, w3⟩
    | brk => exact q3
    | ret v => exact q3
  | false =>
    rw [if_neg Bool.false_ne_true]
    exact wpAny_execs_nil ⟨σ1, H2, I2, q2⟩
end

/-! ### what a loop or a comprehension walks -/
/-- at turn i: it yields x (the heap may grow), or it stops -/
structure It where
  go : Nat → Hp → Prop
  yld : Nat → Hp → V → Hp → Prop
  stop : Nat → Hp → Prop
/-- the iterator's own objects may turn: they are not the frame's, not pinned, younger than the entry (or a comprehension's own) -/
def FpOk (X : Cx) (pins : List (Addr × Obj)) (H : Hp) (b : Addr) : Prop :=
  H b = none ∧ b ≠ X.env.locals ∧ b ∉ X.fs ∧ (b ∈ X.ex ∨ X.s₀.heap.objs.size ≤ b) ∧ (∀ x c, X.env.cells.lookup x = some c → c ≠ b) ∧ ∀ p ∈ X.pn ++ pins, p.1 ≠ b
theorem Inv.fpOk {X : Cx} {pins : List (Addr × Obj)} {σ : St} {H H' : Hp} {s : Shared} {b : Addr} (I : Inv X pins σ H s) (hb : s.heap.objs.size ≤ b) (hn : H' b = none) : FpOk X pins H' b := by
  refine ⟨hn, Nat.ne_of_gt (Nat.lt_of_lt_of_le I.lt hb), I.nofs hb, .inr (Nat.le_trans I.sz hb), fun x c e z => ?_, fun p hp z => ?_⟩
  · obtain ⟨v, q⟩ := I.cell x c e
    exact absurd (Nat.lt_of_lt_of_le q.lt (by rw [z]; exact hb)) (Nat.lt_irrefl _)
  · exact absurd (Nat.lt_of_lt_of_le (Heap.lt_size (I.pin p hp).1) (by rw [z]; exact hb)) (Nat.lt_irrefl _)
structure Turn (P : Program) (w : World) (K : PySem.W.Frag) (tg : Expr) (J : It) (fp : List Addr) (it : Addr) (tn : Nat → Heap → Prop) : Prop where
  mem : it ∈ fp
  obj : ∀ i h, tn i h → ∀ b ∈ fp, ∃ o, h.get? b = some o ∧ ∀ v, o.data ≠ .cell v
  keep : ∀ i h h', tn i h → (∀ b ∈ fp, ∀ o, h.get? b = some o → h'.get? b = some o) → tn i h'
  item : ∀ (X : Cx), X.prog = P → X.w = w → X.K = K → X.calm = true → ∀ (i : Nat) (pins : List (Addr × Obj)) (s : Shared) (σ : St) (H : Hp) (E : Value → Shared → Prop), Inv X pins σ H s → (∀ b ∈ fp, FpOk X pins H b) → tn i s.heap → J.go i H →
    wpAny (model P w) X.A (pyNext (.ref it)) (fun r s1 => ∃ u, r = some u ∧
      wpAny (model P w) X.A (letOwnedTupleGo tg (.ref it) u) (fun _ s2 => ∃ x H', Inv X pins σ H' s2 ∧ RelV x u ∧ J.yld i H x H' ∧ tn (i + 1) s2.heap ∧ ∀ b ∈ fp, H' b = none) E s1) E s
  done : ∀ (X : Cx), X.prog = P → X.w = w → X.K = K → X.calm = true → ∀ (i : Nat) (pins : List (Addr × Obj)) (s : Shared) (σ : St) (H : Hp) (E : Value → Shared → Prop), Inv X pins σ H s → (∀ b ∈ fp, FpOk X pins H b) → tn i s.heap → J.stop i H →
    wpAny (model P w) X.A (pyNext (.ref it)) (fun r s1 => r = none ∧ Inv X pins σ H s1) E s
  self : ∀ (A : Around) (i : Nat) (s : Shared) (Q : Value → Shared → Prop) (E : Value → Shared → Prop), tn i s.heap → Q (.ref it) s → wpAny (model P w) A (pyIter (.ref it)) Q E s
abbrev TI := St → Hp → (It → Hp → Prop) → Prop
/-- an iterator has come -/
def PIE (X : Cx) (pins : List (Addr × Obj)) (σ : St) (tg : Expr) (R : It → Hp → Prop) (itv : Value) (s2 : Shared) : Prop :=
  ∃ (it : Addr) (fp : List Addr) (tn : Nat → Heap → Prop) (J : It) (H' : Hp), itv = .ref it ∧ Inv X pins σ H' s2 ∧ Turn X.prog X.w X.K tg J fp it tn ∧ tn 0 s2.heap ∧ (∀ b ∈ fp, FpOk X pins H' b) ∧ R J H'
def PI (X : Cx) (tg iter : Expr) (wi : TI) : Prop :=
  ∀ (pins : List (Addr × Obj)) (s : Shared) (σ : St) (H : Hp) (R : It → Hp → Prop), Inv X pins σ H s → wi σ H R →
    wpAny (model X.prog X.w) X.A (eval iter X.env) (fun v s1 => wpAny (model X.prog X.w) X.A (pyIter v) (PIE X pins σ tg R) X.xe s1) X.xe s

/-- the step ahead of the store is nothing for an iterator that keeps no tuple -/
theorem go_of {M : Model} {A : Around} {E : Value → Shared → Prop} {s : Shared} {tg : Expr} {it : Addr} {u : Value} {o : Obj} {n : String} {vs : Array Value} {Q : Unit → Shared → Prop} (ho : s.heap.get? it = some o) (hc : o.cls = .type n) (hd : o.data = .fields vs)
    (hn : ["enumerate", "zip", "dict_itemiterator", "dict_reverseitemiterator", "odict_iterator", "itertools.zip_longest", "itertools.pairwise"].contains n = false) (hQ : Q () s) : wpAny M A (letOwnedTupleGo tg (.ref it) u) Q E s := by
  unfold letOwnedTupleGo
  cases tg <;> first
    | exact wpAny_pure hQ
    | (cases u <;> first
        | exact wpAny_pure hQ
        | (refine wpAny_bind (wpAny_load ho ?_)
           rw [hc, hd]
           show wpAny M A (if (["enumerate", "zip", "dict_itemiterator", "dict_reverseitemiterator", "odict_iterator", "itertools.zip_longest", "itertools.pairwise"].contains n && vs[0]? == some (rawInt _)) = true then _ else _) Q E s
           rw [if_neg (by intro h; rw [hn, Bool.false_and] at h; cases h)]
           exact wpAny_pure hQ))

/-- the list at a, as it stands at each turn (a loop may append to it) -/
def Itl (K : PySem.W.Frag) (a : Addr) : It :=
  ⟨fun i H => ∃ xs x, SqL K H a xs ∧ xs[i]? = some x, fun i H x H' => H' = H ∧ ∀ xs, SqL K H a xs → xs[i]? = some x, fun i H => ∃ xs, SqL K H a xs ∧ xs.length ≤ i⟩
def Itt (K : PySem.W.Frag) (a : Addr) : It :=
  ⟨fun i H => ∃ xs x, SqT K H a xs ∧ xs[i]? = some x, fun i H x H' => H' = H ∧ ∀ xs, SqT K H a xs → xs[i]? = some x, fun i H => ∃ xs, SqT K H a xs ∧ xs.length ≤ i⟩
/-- lo, lo + 1, .. (n of them) -/
def Itr (lo : Int) (n : Nat) : It := ⟨fun i _ => i < n, fun i H x H' => H' = H ∧ x = .int (lo + i), fun i _ => n ≤ i⟩
theorem turn_list {P : Program} {w : World} {K : PySem.W.Frag} {tg : Expr} (a it : Addr) : Turn P w K tg (Itl K a) [it] it (fun i h => h.IsListIter it a i) where
  mem := by simp
  obj := fun i h st b hb => by
    have e : b = it := by simpa using hb
    subst e
    obtain ⟨o, e, c, d⟩ := st
    exact ⟨o, e, fun v z => by rw [d] at z; cases z⟩
  keep := fun i h h' st k => st.at fun o e => k it (by simp) o e
  item := by
    intro X hP hw hK hc i pins s σ H E I hf st hg
    subst hP hw hK
    obtain ⟨xs, x, hq, hx⟩ := hg
    obtain ⟨its, rv, p, hz⟩ := I.list hq
    obtain ⟨u, hu, ru⟩ := rv.get hx
    obtain ⟨f0, f1, f2, f3, f4, f5⟩ := hf it (by simp)
    refine wpAny_pyNext_list_item st p.isList (x := u) (by simpa using hu) fun h' st' sb => ?_
    have I1 : Inv X pins σ H { s with heap := h' } := I.turned (t' := s.toks) (fun b o hb e => (sb.2 b hb).trans e) f0 f1 f3 f4 f5
    obtain ⟨o, e, c, d⟩ := id st'
    exact ⟨u, rfl, go_of (s := { s with heap := h' }) e c d (by decide) ⟨x, H, I1, ru, ⟨rfl, fun ys hy => by rw [I.list_inj hy hq]; exact hx⟩, st', fun b hb => (hf b hb).1⟩⟩
  done := by
    intro X hP hw hK hc i pins s σ H E I hf st hg
    subst hP hw hK
    obtain ⟨xs, hq, hx⟩ := hg
    obtain ⟨its, rv, p, hz⟩ := I.list hq
    obtain ⟨f0, f1, f2, f3, f4, f5⟩ := hf it (by simp)
    have hl := rv.length
    exact wpAny_pyNext_list_end (I.ok.hd hc) st p.isList (by simp; omega) fun h' eb => ⟨rfl, I.turned (t' := s.toks) (fun b o hb e => eb b o hb e) f0 f1 f3 f4 f5⟩
  self := fun _ _ _ _ _ st h => wpAny_pyIter_listiter st h
theorem turn_range {P : Program} {w : World} {K : PySem.W.Frag} {tg : Expr} (it : Addr) (lo : Int) (n : Nat) : Turn P w K tg (Itr lo n) [it] it (fun i h => IsRangeIter h it (lo + (i : Nat) * 1) ((n : Int) - (i : Nat)) 1) where
  mem := by simp
  obj := fun i h st b hb => by
    have e : b = it := by simpa using hb
    subst e
    exact ⟨_, st, fun v z => by
      have z' : Data.fields _ = Data.cell v := z
      cases z'⟩
  keep := fun i h h' st k => k it (by simp) _ st
  item := by
    intro X hP hw hK hc i pins s σ H E I hf st hg
    subst hP hw hK
    obtain ⟨f0, f1, f2, f3, f4, f5⟩ := hf it (by simp)
    have W := Walks.range (prog := X.prog) (w := X.w) (I.ok.hd hc) it lo 1 n
    refine W.item i s _ _ hg st fun v h' tk hv st' kk => ?_
    obtain ⟨t, rfl⟩ := hv
    have I1 : Inv X pins σ H { s with heap := h', toks := tk } := I.turned (fun b o hb e => kk b o (by simpa using hb) e) f0 f1 f3 f4 f5
    refine ⟨_, rfl, go_of (s := { s with heap := h', toks := tk }) (n := "range_iterator") st' rfl rfl (by decide) ⟨.int (lo + i), H, I1, ⟨t, ?_⟩, ⟨rfl, rfl⟩, st', fun b hb => (hf b hb).1⟩⟩
    rw [Int.mul_one]
  done := by
    intro X hP hw hK hc i pins s σ H E I hf st hg
    subst hP hw hK
    obtain ⟨f0, f1, f2, f3, f4, f5⟩ := hf it (by simp)
    exact wpAny_pyNext_range_end (I.ok.hd hc) st (by have : n ≤ i := hg; omega) fun h' eb => ⟨rfl, I.turned (t' := s.toks) (fun b o hb e => eb b o hb e) f0 f1 f3 f4 f5⟩
  self := fun _ _ _ _ _ st h => wpAny_pyIter_rangeiter st h
end L2

namespace L2
open PySem PySem.Spec PyProof.Rows
section
variable {X : Cx} {tg : Expr}
def iList (K : PySem.W.Frag) (tl : TE) : TI := fun σ H R => tl σ H fun x H1 => ∃ a, x = .ref a ∧ (∃ xs, SqL K H1 a xs) ∧ R (Itl K a) H1
def iTup (K : PySem.W.Frag) (tl : TE) : TI := fun σ H R => tl σ H fun x H1 => ∃ a, x = .ref a ∧ (∃ xs, SqT K H1 a xs) ∧ R (Itt K a) H1
theorem pi_list {l : Expr} {tl : TE} (hl : PE X l tl) : PI X tg l (iList X.K tl) := by
  intro pins s σ H R I h
  refine thn (hl pins s σ H _ I h) fun v s1 ⟨x, H1, I1, r1, q1⟩ => ?_
  obtain ⟨a, e, ⟨xs, hq⟩, q⟩ := q1
  subst e
  cases r1
  obtain ⟨its, rv, p, hz⟩ := I1.list hq
  refine wpAny_pyIter_list p.isList ?_
  refine ⟨s1.heap.objs.size, [s1.heap.objs.size], _, _, H1, rfl, I1.kept (t' := s1.toks) fun b o e => Heap.get?_push_of_some _ e, turn_list a _, ⟨_, Heap.get?_push_size _ rfl, rfl, rfl⟩, fun b hb => ?_, q⟩
  have e : b = s1.heap.objs.size := by simpa using hb
  subst e
  exact I1.fpOk (Nat.le_refl _) (I1.hok.fresh (Nat.le_refl _))
/-- a range object just made, walked -/
theorem range_it {pins : List (Addr × Obj)} {σ : St} {H : Hp} {s : Shared} {R : It → Hp → Prop} {E : Value → Shared → Prop} {lo hi : Int} {t u v : Tok} {tk : Nat} (I : Inv X pins σ H s) (h1 : -(2 ^ 62) ≤ lo) (h2 : lo < 2 ^ 62) (h3 : -(2 ^ 62) ≤ hi) (h4 : hi < 2 ^ 62)
    (q : R (Itr lo (hi - lo).toNat) H) : wpAny (model X.prog X.w) X.A (pyIter (.ref s.heap.objs.size)) (PIE X pins σ tg R) E { s with heap := s.heap.push { cls := .type "range", data := .fields #[.int lo t, .int hi u, .int 1 v] }, toks := tk } := by
  refine wpAny_pyIter_range (IsRange.new ..) (small_one h1 h2 h3 h4) ?_
  have I1 : Inv X pins σ H { s with heap := s.heap.push { cls := .type "range", data := .fields #[.int lo t, .int hi u, .int 1 v] }, toks := tk } := I.kept fun b o e => Heap.get?_push_of_some _ e
  refine ⟨(s.heap.push { cls := .type "range", data := .fields #[.int lo t, .int hi u, .int 1 v] }).objs.size, [(s.heap.push { cls := .type "range", data := .fields #[.int lo t, .int hi u, .int 1 v] }).objs.size], _, _, H, rfl,
    I1.kept (t' := tk) fun b o e => Heap.get?_push_of_some _ e, turn_range _ lo (hi - lo).toNat, ?_, fun b hb => ?_, q⟩
  · have e1 : lo + ((0 : Nat) : Int) * 1 = lo := by simp
    have e2 : (((hi - lo).toNat : Nat) : Int) - ((0 : Nat) : Int) = Builtin.Range.rangeSize lo hi 1 := by rw [rangeSize_one]; split <;> omega
    show IsRangeIter _ _ (lo + ((0 : Nat) : Int) * 1) ((((hi - lo).toNat : Nat) : Int) - ((0 : Nat) : Int)) 1
    rw [e1, e2]
    exact Heap.get?_push_size _ rfl
  · have e : b = (s.heap.push { cls := .type "range", data := .fields #[.int lo t, .int hi u, .int 1 v] }).objs.size := by simpa using hb
    subst e
    exact I1.fpOk (Nat.le_refl _) (I1.hok.fresh (Nat.le_refl _))
def iRng1 (ta : TA) : TI := fun σ H R => ta σ H fun vs H1 => ∃ j : Int, vs = [.int j] ∧ -(2 ^ 62) ≤ j ∧ j < 2 ^ 62 ∧ R (Itr 0 j.toNat) H1
def iRng2 (ta : TA) : TI := fun σ H R => ta σ H fun vs H1 => ∃ i j : Int, vs = [.int i, .int j] ∧ (-(2 ^ 62) ≤ i ∧ i < 2 ^ 62 ∧ -(2 ^ 62) ≤ j ∧ j < 2 ^ 62) ∧ R (Itr i (j - i).toNat) H1
theorem pi_range1 {a : Expr} {ta : TA} {p pos : Pos} (hg : Gl X "range") (hm : X.mg "range" = none) (ha : PA X [a] ta) (hs : starEach [a] X.env = [(false, eval a X.env)] := by rfl) : PI X tg (.Call (.Name "range" p) [a] [] pos) (iRng1 ta) := by
  intro pins s σ H R I h
  refine Call_ (ld_blt I hg hm boot_range (PyProof.Rows.callWith_type1 (thn (ha pos pins s σ H _ I h) fun us s1 ⟨vs, H1, I1, r1, q1⟩ => ?_) hs rfl))
  obtain ⟨j, e, q1, q2, q⟩ := q1
  subst e
  cases r1 with
  | cons r rr =>
    cases rr
    obtain ⟨t, rfl⟩ := r
    exact call_range_1 (range_it I1 (by omega) (by omega) q1 q2 (by simpa using q))
theorem pi_range2 {a b : Expr} {ta : TA} {p pos : Pos} (hg : Gl X "range") (hm : X.mg "range" = none) (ha : PA X [a, b] ta) (hs : starEach [a, b] X.env = [(false, eval a X.env), (false, eval b X.env)] := by rfl) (hs2 : starEach [b] X.env = [(false, eval b X.env)] := by rfl) :
    PI X tg (.Call (.Name "range" p) [a, b] [] pos) (iRng2 ta) := by
  intro pins s σ H R I h
  refine Call_ (ld_blt I hg hm boot_range (PyProof.Rows.callWith_type1 (thn (ha pos pins s σ H _ I h) fun us s1 ⟨vs, H1, I1, r1, q1⟩ => ?_) (by rw [hs, hs2]) (by rw [hs2]; rfl)))
  obtain ⟨i, j, e, ⟨q1, q2, q3, q4⟩, q⟩ := q1
  subst e
  cases r1 with
  | cons r rr =>
    cases rr with
    | cons r' rr =>
      cases rr
      obtain ⟨t, rfl⟩ := r
      obtain ⟨t', rfl⟩ := r'
      exact call_range_2 (range_it I1 q1 q2 q3 q4 q)

/-! ### for -/
/-- W: the invariant by the turn and a measure; N: what the body is to reach -/
def tFor (wi : TI) (g : TG) (tb : TS) : TS := fun D σ H => wi σ H fun J H1 => ∃ W : Nat → Nat → St → Hp → Prop, (∃ m, W 0 m σ H1) ∧ ∀ i m σ H, W i m σ H →
  (J.stop i H ∧ D.nx σ H) ∨ (J.go i H ∧ ∃ N : St → Hp → Prop, (∀ σ' H', N σ' H' → ∃ m', m' < m ∧ W (i + 1) m' σ' H') ∧ ∀ x H', J.yld i H x H' → g x σ H' fun σ2 H2 => tb { D with nx := N, ct := N, bk := D.nx } σ2 H2)
/-- the records at fp as they stand -/
def pinsAt (fp : List Addr) (h : Heap) : List (Addr × Obj) := fp.filterMap fun b => (h.get? b).map fun o => (b, o)
theorem mem_pinsAt {fp : List Addr} {h : Heap} {b : Addr} {o : Obj} (hb : b ∈ fp) (e : h.get? b = some o) : (b, o) ∈ pinsAt fp h := List.mem_filterMap.mpr ⟨b, hb, by rw [e]; rfl⟩
theorem of_pinsAt {fp : List Addr} {h : Heap} {p : Addr × Obj} (hp : p ∈ pinsAt fp h) : p.1 ∈ fp ∧ h.get? p.1 = some p.2 := by
  obtain ⟨b, hb, e⟩ := List.mem_filterMap.mp hp
  cases q : h.get? b with
  | none => rw [q] at e; cases e
  | some o =>
    rw [q] at e
    have e' : (b, o) = p := Option.some.inj e
    subst e'
    exact ⟨hb, q⟩
theorem Inv.pinned {pins : List (Addr × Obj)} {σ : St} {H : Hp} {s : Shared} {fp : List Addr} (I : Inv X pins σ H s) (hf : ∀ b ∈ fp, FpOk X pins H b) (ho : ∀ b ∈ fp, ∃ o, s.heap.get? b = some o ∧ ∀ v, o.data ≠ .cell v) : Inv X (pins ++ pinsAt fp s.heap) σ H s :=
  I.pins_of fun p hp => (List.mem_append.mp hp).elim (fun z => I.pin p (List.mem_append_right _ z)) fun z => by
    obtain ⟨hb, e⟩ := of_pinsAt z
    obtain ⟨f0, f1, f2, _⟩ := hf p.1 hb
    obtain ⟨o, e', d⟩ := ho p.1 hb
    rw [e] at e'; cases e'
    exact ⟨e, f0, f1, f2, d⟩
theorem Inv.unpinned {pins pl : List (Addr × Obj)} {σ : St} {H : Hp} {s : Shared} (I : Inv X (pins ++ pl) σ H s) : Inv X pins σ H s := I.pins_of fun p hp => I.pin p (List.mem_append_right _ (List.mem_append_left _ hp))
theorem ps_for {iter : Expr} {body : List Stmt} {wi : TI} {g : TG} {tb : TS} {pos : Pos} (hp : PassesOwn (model X.prog X.w) X.A X.env X.xe) (hc : X.calm = true) (hi : PI X tg iter wi) (hg : PG X tg g) (hb : PSs X body tb)
    (hs : ∀ x, foldedSetIterable iter X.env x = pure x := by intro _; rfl) : PS X (.For tg iter body [] pos) (tFor wi g tb) := by
  intro pins s σ H D I h
  refine wpAny_For (thn (hi pins s σ H _ I h) fun v s1 h1 => thn h1 fun itv s2 h2 => ?_) hs
  obtain ⟨it, fp, tn, J, H2, e, I2, T, st2, f2, W, ⟨m0, w0⟩, turn⟩ := h2
  subst e
  -- what stays true of the iterator's objects through the loop
  have stat : ∀ {H' : Hp}, (∀ b ∈ fp, H' b = none) → ∀ b ∈ fp, FpOk X pins H' b := fun hn b hb => ⟨hn b hb, (f2 b hb).2⟩
  refine codeAny_forLoop_any (fun n s' => ∃ i σ' H', Inv X pins σ' H' s' ∧ tn i s'.heap ∧ (∀ b ∈ fp, H' b = none) ∧ W i n σ' H') ?_ m0 ⟨0, σ, H2, I2, st2, fun b hb => (f2 b hb).1, w0⟩
  rintro n s3 ⟨i, σ3, H3, I3, st3, fr3, w3⟩
  rcases turn i n σ3 H3 w3 with ⟨stop, qn⟩ | ⟨go, N, hN, step⟩
  · refine wpAny_passesOwn hp (thn (T.done X rfl rfl rfl hc i pins s3 σ3 H3 X.xe I3 (stat fr3) st3 stop) fun r s4 ⟨hr, I4⟩ => ?_)
    subst hr
    exact wpAny_execs_nil ⟨σ3, H3, I4, qn⟩
  · refine wpAny_passesOwn hp (thn (T.item X rfl rfl rfl hc i pins s3 σ3 H3 X.xe I3 (stat fr3) st3 go) fun r s4 ⟨u, hr, h4⟩ => ?_)
    subst hr
    refine wpAny_passesOwn hp (thn h4 fun _ s5 ⟨x, H5, I5, r5, y5, st5, fr5⟩ => ?_)
    have I5' := I5.pinned (stat fr5) (T.obj _ _ st5)
    refine wpAny_passesOwn hp (thn (hg _ s5 σ3 H5 x u _ I5' r5 (step x H5 y5)) fun _ s6 ⟨σ6, H6, I6, q6⟩ => ?_)
    refine wpAny_passesOwn hp (thn (hb _ s6 σ6 H6 _ I6 q6) fun f s7 q7 => ?_)
    have again : ∀ {σ7 : St} {H7 : Hp}, Inv X (pins ++ pinsAt fp s5.heap) σ7 H7 s7 → N σ7 H7 → ∃ m, m < n ∧ ∃ i σ' H', Inv X pins σ' H' s7 ∧ tn i s7.heap ∧ (∀ b ∈ fp, H' b = none) ∧ W i m σ' H' := fun {σ7 H7} I7 n7 => by
      obtain ⟨m', hm, w7⟩ := hN σ7 H7 n7
      refine ⟨m', hm, i + 1, σ7, H7, I7.unpinned, T.keep _ _ _ st5 fun b hb o e => (I7.pin (b, o) (List.mem_append_right _ (List.mem_append_right _ (mem_pinsAt hb e)))).1, fun b hb => ?_, w7⟩
      obtain ⟨o, e, d⟩ := T.obj _ _ st5 b hb
      exact (I7.pin (b, o) (List.mem_append_right _ (List.mem_append_right _ (mem_pinsAt hb e)))).2.1
    cases f with
    | next => obtain ⟨σ7, H7, I7, n7⟩ := q7; exact again I7 n7
    | cont => obtain ⟨σ7, H7, I7, n7⟩ := q7; exact again I7 n7
    | brk => obtain ⟨σ7, H7, I7, q7⟩ := q7; exact ⟨σ7, H7, I7.unpinned, q7⟩
    | ret v => obtain ⟨x7, σ7, H7, I7, r7, q7⟩ := q7; exact ⟨x7, σ7, H7, I7.unpinned, r7, q7⟩
end

/-! ### the forms one uses -/
/-- over a list that the body leaves as it is -/
theorem for_list {K : PySem.W.Frag} {a : Addr} {xs : List V} {g : TG} {tb : TS} {D : Ends} {σ : St} {H : Hp} (Pv : Nat → St → Hp → Prop) (h0 : Pv 0 σ H) (hl : ∀ i σ H, i ≤ xs.length → Pv i σ H → SqL K H a xs)
    (hs : ∀ i x σ H, xs[i]? = some x → Pv i σ H → g x σ H fun σ2 H2 => tb { D with nx := Pv (i + 1), ct := Pv (i + 1), bk := D.nx } σ2 H2) (hd : ∀ σ H, Pv xs.length σ H → D.nx σ H) :
    ∃ W : Nat → Nat → St → Hp → Prop, (∃ m, W 0 m σ H) ∧ ∀ i m σ H, W i m σ H →
      ((Itl K a).stop i H ∧ D.nx σ H) ∨ ((Itl K a).go i H ∧ ∃ N : St → Hp → Prop, (∀ σ' H', N σ' H' → ∃ m', m' < m ∧ W (i + 1) m' σ' H') ∧ ∀ x H', (Itl K a).yld i H x H' → g x σ H' fun σ2 H2 => tb { D with nx := N, ct := N, bk := D.nx } σ2 H2) := by
  refine ⟨fun i m σ H => m = xs.length - i ∧ i ≤ xs.length ∧ Pv i σ H, ⟨xs.length, by simp, Nat.zero_le _, h0⟩, ?_⟩
  rintro i m σ H ⟨rfl, hi, p⟩
  have q := hl i σ H hi p
  by_cases hlt : i < xs.length
  · refine .inr ⟨⟨xs, xs[i], q, by simp [hlt]⟩, Pv (i + 1), fun σ' H' p' => ⟨xs.length - (i + 1), by omega, rfl, hlt, p'⟩, fun x H' y => ?_⟩
    obtain ⟨e, y⟩ := y
    subst e
    exact hs i x σ _ (y xs q) p
  · have e : i = xs.length := by omega
    subst e
    exact .inl ⟨⟨xs, q, Nat.le_refl _⟩, hd σ H p⟩
theorem for_range {lo : Int} {n : Nat} {g : TG} {tb : TS} {D : Ends} {σ : St} {H : Hp} (Pv : Nat → St → Hp → Prop) (h0 : Pv 0 σ H)
    (hs : ∀ i σ H, i < n → Pv i σ H → g (.int (lo + i)) σ H fun σ2 H2 => tb { D with nx := Pv (i + 1), ct := Pv (i + 1), bk := D.nx } σ2 H2) (hd : ∀ σ H, Pv n σ H → D.nx σ H) :
    ∃ W : Nat → Nat → St → Hp → Prop, (∃ m, W 0 m σ H) ∧ ∀ i m σ H, W i m σ H →
      ((Itr lo n).stop i H ∧ D.nx σ H) ∨ ((Itr lo n).go i H ∧ ∃ N : St → Hp → Prop, (∀ σ' H', N σ' H' → ∃ m', m' < m ∧ W (i + 1) m' σ' H') ∧ ∀ x H', (Itr lo n).yld i H x H' → g x σ H' fun σ2 H2 => tb { D with nx := N, ct := N, bk := D.nx } σ2 H2) := by
  refine ⟨fun i m σ H => m = n - i ∧ i ≤ n ∧ Pv i σ H, ⟨n, by simp, Nat.zero_le _, h0⟩, ?_⟩
  rintro i m σ H ⟨rfl, hi, p⟩
  by_cases hlt : i < n
  · refine .inr ⟨hlt, Pv (i + 1), fun σ' H' p' => ⟨n - (i + 1), by omega, rfl, hlt, p'⟩, fun x H' y => ?_⟩
    obtain ⟨e, y⟩ := y
    subst e y
    exact hs i σ _ hlt p
  · have e : i = n := by omega
    subst e
    exact .inl ⟨Nat.le_refl _, hd σ H p⟩
end L2

namespace L2
open PySem PySem.Spec PyProof.Rows

abbrev R2 := V → V → Hp → VK → Prop
/-- a two-place operation on values: f is binaryOp op, inplaceOp op or compareOp op -/
def OpR (X : Cx) (f : Value → Value → Sem Value) (r : R2) : Prop :=
  ∀ (pins : List (Addr × Obj)) (s : Shared) (σ : St) (H : Hp) (x y : V) (v u : Value) (Q : VK), Inv X pins σ H s → RelV x v → RelV y u → r x y H Q →
    wpAny (model X.prog X.w) X.A (f v u) (EP X pins σ Q) X.xe s
/-- a one-place operation -/
def UnR (X : Cx) (f : Value → Sem Value) (r : V → Hp → VK → Prop) : Prop :=
  ∀ (pins : List (Addr × Obj)) (s : Shared) (σ : St) (H : Hp) (x : V) (v : Value) (Q : VK), Inv X pins σ H s → RelV x v → r x H Q →
    wpAny (model X.prog X.w) X.A (f v) (EP X pins σ Q) X.xe s
/-- a call of a value that is known (a builtin, a type) with values -/
def CallR (X : Cx) (f : Value) (r : List V → Hp → VK → Prop) : Prop :=
  ∀ (pins : List (Addr × Obj)) (s : Shared) (σ : St) (H : Hp) (xs : List V) (us : List Value) (Q : VK), Inv X pins σ H s → Vals xs us → r xs H Q →
    wpAny (model X.prog X.w) X.A (call f us) (EP X pins σ Q) X.xe s
/-- a value's truth -/
def TruR (X : Cx) (r : V → Hp → (Bool → Hp → Prop) → Prop) : Prop :=
  ∀ (pins : List (Addr × Obj)) (s : Shared) (σ : St) (H : Hp) (x : V) (v : Value) (Q : Bool → Hp → Prop), Inv X pins σ H s → RelV x v → r x H Q →
    wpAny (model X.prog X.w) X.A (truthy v) (TP X pins σ Q) X.xe s

def tOp (r : R2) (ta tb : TE) : TE := fun σ H Q => ta σ H fun x H1 => tb σ H1 fun y H2 => r x y H2 Q
def tUn (r : V → Hp → VK → Prop) (ta : TE) : TE := fun σ H Q => ta σ H fun x H1 => r x H1 Q
/-- ints in, under C, and a value out -/
def rI (C : Int → Int → Prop) (g : Int → Int → V) : R2 := fun x y H Q => ∃ i j, x = .int i ∧ y = .int j ∧ C i j ∧ Q (g i j) H
def rI0 (g : Int → Int → V) : R2 := fun x y H Q => ∃ i j, x = .int i ∧ y = .int j ∧ Q (g i j) H
def rU (g : Int → V) : V → Hp → VK → Prop := fun x H Q => ∃ i, x = .int i ∧ Q (g i) H

section
variable {X : Cx} {a b c : Expr} {ta tb tc : TE} {pos : Pos}

theorem binT (ha : PE X a ta) (hb : PE X b tb) {pins : List (Addr × Obj)} {s : Shared} {σ : St} {H : Hp} {R : V → V → Hp → Prop} (I : Inv X pins σ H s)
    (h : ta σ H fun x H1 => tb σ H1 fun y H2 => R x y H2) {Q : Value → Shared → Prop} {f : Value → Value → Sem Value}
    (hf : ∀ v u s2 x y H2, Inv X pins σ H2 s2 → RelV x v → RelV y u → R x y H2 → wpAny (model X.prog X.w) X.A (f v u) Q X.xe s2) :
    wpAny (model X.prog X.w) X.A (eval a X.env) (fun v s₁ => wpAny (model X.prog X.w) X.A (eval b X.env) (fun u s₂ => wpAny (model X.prog X.w) X.A (f v u) Q X.xe s₂) X.xe s₁) X.xe s := by
  refine thn (ha pins s σ H _ I h) fun v s1 ⟨x, H1, I1, r1, q1⟩ => ?_
  refine thn (hb pins s1 σ H1 _ I1 q1) fun u s2 ⟨y, H2, I2, r2, q2⟩ => ?_
  exact hf v u s2 x y H2 I2 r1 r2 q2

theorem pe_op {op : Operator} {r : R2} (ho : OpR X (binaryOp op) r) (ha : PE X a ta) (hb : PE X b tb) : PE X (.BinOp a op b pos) (tOp r ta tb) := by
  intro pins s σ H Q I h
  exact wpAny_BinOp (binT ha hb I h fun v u s2 x y H2 I2 rx ry q => ho pins s2 σ H2 x y v u Q I2 rx ry q)
theorem pe_un {op : UnaryOp} {r : V → Hp → VK → Prop} (ho : UnR X (unaryOp op) r) (ha : PE X a ta) : PE X (.UnaryOp op a pos) (tUn r ta) := by
  intro pins s σ H Q I h
  exact UnaryOp_ (thn (ha pins s σ H _ I h) fun v s1 ⟨x, H1, I1, r1, q1⟩ => ho pins s1 σ H1 x v Q I1 r1 q1)
/-! ### ints -/
theorem opI {f : Value → Value → Sem Value} {C : Int → Int → Prop} {g : Int → Int → Int}
    (rule : ∀ (i j : Int) (t u : Tok) (s : Shared) (Q : Value → Shared → Prop) (E : Value → Shared → Prop), C i j → Q (.int (g i j) s.toks) { s with toks := s.toks + 1 } → wpAny (model X.prog X.w) X.A (f (.int i t) (.int j u)) Q E s) :
    OpR X f (rI C fun i j => .int (g i j)) := by
  intro pins s σ H x y v u Q I rx ry h
  obtain ⟨i, j, rfl, rfl, hc, q⟩ := h
  obtain ⟨t, rfl⟩ := rx
  obtain ⟨t', rfl⟩ := ry
  exact rule i j t t' s _ _ hc ⟨.int (g i j), H, I.tok _, ⟨_, rfl⟩, q⟩
theorem opI0 {f : Value → Value → Sem Value} {g : Int → Int → Int}
    (rule : ∀ (i j : Int) (t u : Tok) (s : Shared) (Q : Value → Shared → Prop) (E : Value → Shared → Prop), Q (.int (g i j) s.toks) { s with toks := s.toks + 1 } → wpAny (model X.prog X.w) X.A (f (.int i t) (.int j u)) Q E s) :
    OpR X f (rI0 fun i j => .int (g i j)) := by
  intro pins s σ H x y v u Q I rx ry h
  obtain ⟨i, j, rfl, rfl, q⟩ := h
  obtain ⟨t, rfl⟩ := rx
  obtain ⟨t', rfl⟩ := ry
  exact rule i j t t' s _ _ ⟨.int (g i j), H, I.tok _, ⟨_, rfl⟩, q⟩
theorem opB0 {f : Value → Value → Sem Value} {g : Int → Int → Bool}
    (rule : ∀ (i j : Int) (t u : Tok) (s : Shared) (Q : Value → Shared → Prop) (E : Value → Shared → Prop), Q (.bool (g i j)) s → wpAny (model X.prog X.w) X.A (f (.int i t) (.int j u)) Q E s) :
    OpR X f (rI0 fun i j => .bl (g i j)) := by
  intro pins s σ H x y v u Q I rx ry h
  obtain ⟨i, j, rfl, rfl, q⟩ := h
  obtain ⟨t, rfl⟩ := rx
  obtain ⟨t', rfl⟩ := ry
  exact rule i j t t' s _ _ ⟨.bl (g i j), H, I, rfl, q⟩

def CDiv (i j : Int) : Prop := 0 < j ∧ j < 1073741824
def CDivN (i j : Int) : Prop := j ≠ 0 ∧ j.natAbs < 1073741824
def CPow (i j : Int) : Prop := 0 ≤ j ∧ j ≤ 1000000 ∧ i.natAbs < 2 ^ 64
def CMul (i j : Int) : Prop := (-(2 ^ 64) < i ∧ i < 2 ^ 64) ∨ (-(2 ^ 64) < j ∧ j < 2 ^ 64)
theorem CMul.ok {i j : Int} (h : CMul i j) : IntMulOk i j := by
  rcases h with ⟨h1, h2⟩ | ⟨h1, h2⟩
  · exact .of_left (intBits_le_64 h1 h2)
  · exact .of_right (intBits_le_64 h1 h2)
theorem op_add : OpR X (binaryOp .Add) (rI0 fun i j => .int (i + j)) := opI0 fun _ _ _ _ _ _ _ q => add_int q
theorem op_sub : OpR X (binaryOp .Sub) (rI0 fun i j => .int (i - j)) := opI0 fun _ _ _ _ _ _ _ q => sub_int q
theorem op_mul : OpR X (binaryOp .Mult) (rI CMul fun i j => .int (i * j)) := opI fun _ _ _ _ _ _ _ hc q => mul_int q hc.ok
/-- // by a positive divisor -/
theorem op_fdiv : OpR X (binaryOp .FloorDiv) (rI CDiv fun i j => .int (i / j)) := opI fun i j _ _ _ _ _ hc q => by
  have h1 : (0 : Int) < j := hc.1
  have h2 : j < 1073741824 := hc.2
  exact floordiv_int (by omega) (by rw [Int.fdiv_eq_ediv_of_nonneg i (by omega)]; exact q) (.inl (PyProof.noPylong_small (by omega)))
/-- % by a positive divisor of any size -/
theorem op_mod : OpR X (binaryOp .Mod) (rI (fun _ j => 0 < j) fun i j => .int (i % j)) := opI fun i j _ _ _ _ _ hc q => by
  have h1 : (0 : Int) < j := hc
  exact mod_int' (by omega) (by rw [Int.fmod_eq_emod_of_nonneg i (by omega)]; exact q)
theorem op_pow : OpR X (binaryOp .Pow) (rI CPow fun i j => .int (i ^ j.toNat)) := opI fun _ _ _ _ _ _ _ hc q => pow_int_small hc.1 hc.2.1 hc.2.2 q
theorem unI {f : Value → Sem Value} {g : Int → Int}
    (rule : ∀ (i : Int) (t : Tok) (s : Shared) (Q : Value → Shared → Prop) (E : Value → Shared → Prop), Q (.int (g i) s.toks) { s with toks := s.toks + 1 } → wpAny (model X.prog X.w) X.A (f (.int i t)) Q E s) :
    UnR X f (rU fun i => .int (g i)) := by
  intro pins s σ H x v Q I rx h
  obtain ⟨i, rfl, q⟩ := h
  obtain ⟨t, rfl⟩ := rx
  exact rule i t s _ _ ⟨.int (g i), H, I.tok _, ⟨_, rfl⟩, q⟩
theorem un_neg : UnR X (unaryOp .USub) (rU fun i => .int (-i)) := unI fun _ _ _ _ _ q => neg_int q
/-! ### bools among ints: n += (a < b) -/
end

/-! ### comparisons -/
/-- the scalars that == tells apart as data does -/
def scal : V → V → Bool
  | .non, .non => true | .non, .int _ => true | .int _, .non => true | .non, .bl _ => true | .bl _, .non => true | .non, .str _ => true | .str _, .non => true
  | .int _, .int _ => true | .bl _, .bl _ => true | .str _, .str _ => true | .byt _, .byt _ => true
  | .int _, .str _ => true | .str _, .int _ => true | .bl _, .str _ => true | .str _, .bl _ => true
  | _, _ => false
def rEq : R2 := fun x y H Q => scal x y = true ∧ Q (.bl (decide (x = y))) H
def rNe : R2 := fun x y H Q => scal x y = true ∧ Q (.bl (!decide (x = y))) H

theorem dec_int {i j : Int} : decide (V.int i = V.int j) = (i == j) := by
  rw [Bool.eq_iff_iff]
  simp
theorem dec_bl {i j : Bool} : decide (V.bl i = V.bl j) = (i == j) := by
  rw [Bool.eq_iff_iff]
  simp
theorem dec_str {i j : Str} : decide (V.str i = V.str j) = (i == j) := by
  rw [Bool.eq_iff_iff]
  simp
theorem dec_byt {i j : Array UInt8} : decide (V.byt i = V.byt j) = (i.toList == j.toList) := by
  rw [Bool.eq_iff_iff]
  cases i
  cases j
  simp

section
variable {X : Cx} {a b c : Expr} {ta tb tc : TE} {pos : Pos}
theorem fin_bl {pins : List (Addr × Obj)} {σ : St} {H : Hp} {s : Shared} {Q : VK} {k k' : Bool} (I : Inv X pins σ H s) (q : Q (.bl k) H) (e : k = k') : EP X pins σ Q (.bool k') s := by
  subst e
  exact ⟨.bl k, H, I, rfl, q⟩
theorem op_eq : OpR X (compareOp .Eq) rEq := by
  intro pins s σ H x y v u Q I rx ry h
  obtain ⟨hs, q⟩ := h
  cases x with
  | non =>
    cases rx
    cases y with
    | non => cases ry; exact PySem.EqNone.eq_none_none (fin_bl I q (by simp))
    | bl j => cases ry; exact PySem.EqNone.eq_none_bool (fin_bl I q (by simp))
    | int j => obtain ⟨t', rfl⟩ := ry; exact PySem.EqNone.eq_none_int (fin_bl I q (by simp))
    | str j => obtain ⟨t', rfl⟩ := ry; exact PySem.EqNone.eq_none_str (fin_bl I q (by simp))
    | _ => exact absurd (show false = true from hs) Bool.false_ne_true
  | bl i =>
    cases rx
    cases y with
    | non => cases ry; exact PySem.EqNone.eq_bool_none (fin_bl I q (by simp))
    | bl j => cases ry; exact eq_bool (fin_bl I q dec_bl)
    | str j => obtain ⟨t', rfl⟩ := ry; exact PySem.EqMixed.eq_bool_str (fin_bl I q (by simp))
    | _ => exact absurd (show false = true from hs) Bool.false_ne_true
  | int i =>
    obtain ⟨t, rfl⟩ := rx
    cases y with
    | non => cases ry; exact PySem.EqNone.eq_int_none (fin_bl I q (by simp))
    | int j => obtain ⟨t', rfl⟩ := ry; exact eq_int (fin_bl I q dec_int)
    | str j => obtain ⟨t', rfl⟩ := ry; exact PySem.EqMixed.eq_int_str (fin_bl I q (by simp))
    | _ => exact absurd (show false = true from hs) Bool.false_ne_true
  | str i =>
    obtain ⟨t, rfl⟩ := rx
    cases y with
    | non => cases ry; exact PySem.EqNone.eq_str_none (fin_bl I q (by simp))
    | bl j => cases ry; exact PySem.EqMixed.eq_str_bool (fin_bl I q (by simp))
    | int j => obtain ⟨t', rfl⟩ := ry; exact PySem.EqMixed.eq_str_int (fin_bl I q (by simp))
    | str j => obtain ⟨t', rfl⟩ := ry; exact eq_str (fin_bl I q dec_str)
    | _ => exact absurd (show false = true from hs) Bool.false_ne_true
  | byt i =>
    obtain ⟨t, rfl⟩ := rx
    cases y with
    | byt j => obtain ⟨t', rfl⟩ := ry; exact PySem.W.eq_bytes (fin_bl I q dec_byt)
    | _ => exact absurd (show false = true from hs) Bool.false_ne_true
  | _ => cases y <;> exact absurd (show false = true from hs) Bool.false_ne_true
theorem op_ne : OpR X (compareOp .NotEq) rNe := by
  intro pins s σ H x y v u Q I rx ry h
  obtain ⟨hs, q⟩ := h
  cases x with
  | non =>
    cases rx
    cases y with
    | non => cases ry; exact PySem.EqNone.ne_none_none (fin_bl I q (by simp))
    | bl j => cases ry; exact PySem.EqNone.ne_none_bool (fin_bl I q (by simp))
    | int j => obtain ⟨t', rfl⟩ := ry; exact PySem.EqNone.ne_none_int (fin_bl I q (by simp))
    | str j => obtain ⟨t', rfl⟩ := ry; exact PySem.EqNone.ne_none_str (fin_bl I q (by simp))
    | _ => exact absurd (show false = true from hs) Bool.false_ne_true
  | bl i =>
    cases rx
    cases y with
    | non => cases ry; exact PySem.EqNone.ne_bool_none (fin_bl I q (by simp))
    | bl j => cases ry; exact ne_bool (fin_bl I q (congrArg not dec_bl))
    | str j => obtain ⟨t', rfl⟩ := ry; exact PySem.EqMixed.ne_bool_str (fin_bl I q (by simp))
    | _ => exact absurd (show false = true from hs) Bool.false_ne_true
  | int i =>
    obtain ⟨t, rfl⟩ := rx
    cases y with
    | non => cases ry; exact PySem.EqNone.ne_int_none (fin_bl I q (by simp))
    | int j => obtain ⟨t', rfl⟩ := ry; exact ne_int (fin_bl I q (congrArg not dec_int))
    | str j => obtain ⟨t', rfl⟩ := ry; exact PySem.EqMixed.ne_int_str (fin_bl I q (by simp))
    | _ => exact absurd (show false = true from hs) Bool.false_ne_true
  | str i =>
    obtain ⟨t, rfl⟩ := rx
    cases y with
    | non => cases ry; exact PySem.EqNone.ne_str_none (fin_bl I q (by simp))
    | bl j => cases ry; exact PySem.EqMixed.ne_str_bool (fin_bl I q (by simp))
    | int j => obtain ⟨t', rfl⟩ := ry; exact PySem.EqMixed.ne_str_int (fin_bl I q (by simp))
    | str j => obtain ⟨t', rfl⟩ := ry; exact ne_str (fin_bl I q (congrArg not dec_str))
    | _ => exact absurd (show false = true from hs) Bool.false_ne_true
  | byt i =>
    obtain ⟨t, rfl⟩ := rx
    cases y with
    | byt j => obtain ⟨t', rfl⟩ := ry; exact PySem.W.ne_bytes (fin_bl I q (congrArg not dec_byt))
    | _ => exact absurd (show false = true from hs) Bool.false_ne_true
  | _ => cases y <;> exact absurd (show false = true from hs) Bool.false_ne_true

theorem op_lt : OpR X (compareOp .Lt) (rI0 fun i j => .bl (decide (i < j))) := opB0 fun _ _ _ _ _ _ _ q => lt_int q
theorem op_le : OpR X (compareOp .LtE) (rI0 fun i j => .bl (decide (i ≤ j))) := opB0 fun _ _ _ _ _ _ _ q => le_int q
theorem op_gt : OpR X (compareOp .Gt) (rI0 fun i j => .bl (decide (j < i))) := opB0 fun _ _ _ _ _ _ _ q => gt_int q
theorem op_ge : OpR X (compareOp .GtE) (rI0 fun i j => .bl (decide (j ≤ i))) := opB0 fun _ _ _ _ _ _ _ q => ge_int q
/-- is None, is not None: the right side a value none -/
theorem op_isN : OpR X (compareOp .Is) (fun x y H Q => y = .non ∧ Q (.bl (decide (x = .non))) H) := by
  intro pins s σ H x y v u Q I rx ry h
  obtain ⟨rfl, q⟩ := h
  cases ry
  refine is_none_gen (fin_bl I q ?_)
  cases x <;> first
    | (cases rx; rfl)
    | (obtain ⟨t, rfl⟩ := rx; rfl)
theorem op_notN : OpR X (compareOp .IsNot) (fun x y H Q => y = .non ∧ Q (.bl (!decide (x = .non))) H) := by
  intro pins s σ H x y v u Q I rx ry h
  obtain ⟨rfl, q⟩ := h
  cases ry
  refine isnot_none_gen (fin_bl I q ?_)
  cases x <;> first
    | (cases rx; rfl)
    | (obtain ⟨t, rfl⟩ := rx; rfl)

theorem op_notin_str : OpR X (compareOp .NotIn) (fun x y H Q => ∃ i j, x = .str i ∧ y = .str j ∧ Q (.bl (!(!(Builtin.Str.occurrences j i 0 j.length 1).isEmpty))) H) := by
  intro pins s σ H x y v u Q I rx ry h
  obtain ⟨i, j, rfl, rfl, q⟩ := h
  obtain ⟨t, rfl⟩ := rx
  obtain ⟨t', rfl⟩ := ry
  exact notIn_str (fin_bl I q rfl)
/-- is, is not of two objects that are tracked lists or instances -/
def isObj : HO → Bool
  | .lst _ => true
  | .ins _ _ _ => true
  | _ => false
theorem nomark (b : Expr) {op : CmpOp} (h : op ≠ .In := by decide) (h2 : op ≠ .NotIn := by decide) : behindInMarks op b = false := by
  have e1 : (op == CmpOp.In) = false := by cases op <;> first | rfl | exact absurd rfl h
  have e2 : (op == CmpOp.NotIn) = false := by cases op <;> first | rfl | exact absurd rfl h2
  cases b <;> simp [behindInMarks, e1, e2]
/-- a comparison as a value; hm: nomark b, or (for in, not in) by with_unfolding_all rfl -/
theorem pe_cmpR {op : CmpOp} {r : R2} (ho : OpR X (compareOp op) r) (ha : PE X a ta) (hb : PE X b tb) (hm : behindInMarks op b = false) : PE X (.Compare a [op] [b] pos) (tOp r ta tb) := by
  intro pins s σ H Q I h
  exact wpAny_Compare1 (binT ha hb I h fun v u s2 x y H2 I2 rx ry q => ho pins s2 σ H2 x y v u Q I2 rx ry q) hm
/-- a reading of a value as a test -/
def tTest (t : TE) : TT := fun σ H Q => t σ H fun x H' => ∃ k, x = .bl k ∧ Q k H'
theorem pt_cmpR {op : CmpOp} {r : R2} (ho : OpR X (compareOp op) r) (ha : PE X a ta) (hb : PE X b tb) (hm : behindInMarks op b = false) : PT X (.Compare a [op] [b] pos) (tTest (tOp r ta tb)) := by
  intro pins s σ H Q I h
  refine wpAny_isTrue_Compare1 (thn (ha pins s σ H _ I h) fun v s1 ⟨x, H1, I1, r1, q1⟩ => thn (hb pins s1 σ H1 _ I1 q1) fun u s2 ⟨y, H2, I2, r2, q2⟩ =>
    thn (ho pins s2 σ H2 x y v u _ I2 r1 r2 q2) fun c s3 ⟨z, H3, I3, r3, k, e, q3⟩ => ?_) hm
  subst e
  cases r3
  exact wpAny_truthy_bool ⟨H3, I3, q3⟩
/-- a op1 b op2 c -/
def tChain (r r' : R2) (ta tb tc : TE) : TE := fun σ H Q => ta σ H fun x H1 => tb σ H1 fun y H2 => r x y H2 fun z H3 => ∃ k, z = .bl k ∧
  (if k = true then tc σ H3 fun w' H4 => r' y w' H4 Q else Q (.bl false) H3)
/-! ### truth -/
/-- a value's truth by the abstract heap -/
def TruV (K : PySem.W.Frag) (x : V) (H : Hp) (k : Bool) : Prop :=
  match x with
  | .non => k = false
  | .bl b => k = b
  | .int i => k = (i != 0)
  | .str y => y.length ≤ sizeLine ∧ k = ((y.length : Int) != 0)
  | .byt y => y.size ≤ sizeLine ∧ k = ((y.size : Int) != 0)
  | .ref p => (∃ xs, SqL K H p xs ∧ k = !xs.isEmpty) ∨ (∃ xs, SqT K H p xs ∧ k = !xs.isEmpty) ∨ ∃ kvs, H p = some (.dK kvs) ∧ k = !kvs.isEmpty
  | _ => False
theorem isEmpty_kv {κ : Type} {kvs : List (κ × V)} {vs : List (κ × Value)} (r : KV kvs vs) : (!vs.isEmpty) = !kvs.isEmpty := by
  cases r <;> rfl
theorem isEmpty_of {xs : List V} {its : List Value} (r : Vals xs its) : (!its.toArray.isEmpty) = !xs.isEmpty := by
  cases r <;> simp
theorem line63 : (sizeLine : Nat) < 2 ^ 63 := by rw [sizeLine_eq]; decide
theorem tru_ok : TruR X (fun x H Q => ∃ k, TruV X.K x H k ∧ Q k H) := by
  intro pins s σ H x v Q I rx h
  obtain ⟨k, e, q⟩ := h
  have hl := line63
  have hs : sizeLine = 16777216 := sizeLine_eq
  cases x with
  | non =>
    cases rx
    have e' : k = false := e
    subst e'
    exact truthy_none ⟨H, I, q⟩
  | bl b =>
    cases rx
    have e' : k = b := e
    subst e'
    exact wpAny_truthy_bool ⟨H, I, q⟩
  | int i =>
    obtain ⟨t, rfl⟩ := rx
    have e' : k = (i != 0) := e
    subst e'
    exact PySem.P.truthy_int ⟨H, I, q⟩
  | str y =>
    obtain ⟨t, rfl⟩ := rx
    obtain ⟨hy, e'⟩ : y.length ≤ sizeLine ∧ k = ((y.length : Int) != 0) := e
    subst e'
    exact PySem.P.truthy_str (by omega) ⟨H, I.tok _, q⟩
  | byt y =>
    obtain ⟨t, rfl⟩ := rx
    obtain ⟨hy, e'⟩ : y.size ≤ sizeLine ∧ k = ((y.size : Int) != 0) := e
    subst e'
    exact PySem.W.truthy_bytes (by omega) ⟨H, I.tok _, q⟩
  | ref p =>
    cases rx
    have e' : (∃ xs, SqL X.K H p xs ∧ k = !xs.isEmpty) ∨ (∃ xs, SqT X.K H p xs ∧ k = !xs.isEmpty) ∨ ∃ kvs, H p = some (.dK kvs) ∧ k = !kvs.isEmpty := e
    rcases e' with ⟨xs, hx, e'⟩ | ⟨xs, hx, e'⟩ | ⟨kvs, hx, e'⟩
    · subst e'
      obtain ⟨its, r, pl, hz⟩ := I.list hx
      have hlen := r.length
      exact wpAny_truthy_list pl.isList (by simp only [List.size_toArray]; omega) ⟨H, I.tok _, by rw [isEmpty_of r]; exact q⟩
    · subst e'
      obtain ⟨its, r, pl, hz⟩ := I.tuple hx
      have hlen := r.length
      exact truthy_tuple pl (by simp only [List.size_toArray]; omega) ⟨H, I.tok _, by rw [isEmpty_of r]; exact q⟩
    · subst e'
      obtain ⟨hz, hS, vs, r, m⟩ : kvs.length ≤ sizeLine ∧ (p == sysModules) = false ∧ ∃ vs, KV kvs vs ∧ s.heap.DictOf (mixKind X.prog X.w) p vs := I.hok p _ hx
      have hlen : kvs.length = vs.length := Paired.length r
      exact wpAny_truthy_dict hS m (by omega) ⟨H, I.tok _, by rw [isEmpty_kv r]; exact q⟩
  | _ => exact (show False from e).elim
/-- any expression whose test is its value's truth (a name, a call, a subscript, a field ..: he by fun _ => rfl) -/
theorem pt_truth (ha : PE X a ta) (he : ∀ whole, isTrue a X.env whole = (do let v ← whole; standAt a.pos; holding [v] (truthy v))) :
    PT X a (fun σ H Q => ta σ H fun x H' => ∃ k, TruV X.K x H' k ∧ Q k H') := by
  intro pins s σ H Q I h
  exact isTrue_plain (thn (ha pins s σ H _ I h) fun v s1 ⟨x, H1, I1, r1, q1⟩ => tru_ok pins s1 σ H1 x v Q I1 r1 q1) (he _)

/-! ### strs and bytes -/
theorem op_add_str : OpR X (binaryOp .Add) (fun x y H Q => ∃ i j, x = .str i ∧ y = .str j ∧ i.length + j.length ≤ sizeLine ∧ Q (.str (i ++ j)) H) := by
  intro pins s σ H x y v u Q I rx ry h
  obtain ⟨i, j, rfl, rfl, hz, q⟩ := h
  obtain ⟨t, rfl⟩ := rx
  obtain ⟨t', rfl⟩ := ry
  exact add_str (fun t' tk => ⟨.str (i ++ j), H, I.tok _, ⟨_, rfl⟩, q⟩) hz
def PlainIxT (b : Expr) : Prop := ∀ o i, subscripted b false o i = operate [o, i] (getItem o i)
/-! ### scalar builtins, by CallR -/
theorem vals1 {x : V} {us : List Value} (r : Vals [x] us) : ∃ u, us = [u] ∧ RelV x u := by
  cases r with
  | cons r1 r2 => cases r2; exact ⟨_, rfl, r1⟩
theorem vals2 {x y : V} {us : List Value} (r : Vals [x, y] us) : ∃ u w', us = [u, w'] ∧ RelV x u ∧ RelV y w' := by
  cases r with
  | cons r1 r2 =>
    cases r2 with
    | cons r3 r4 => cases r4; exact ⟨_, _, rfl, r1, r3⟩
theorem call_max2 (hc : X.calm = true) : CallR X (.builtin "max") (fun xs H Q => ∃ i j, xs = [.int i, .int j] ∧ Q (.int (if j > i then j else i)) H) := by
  intro pins s σ H xs us Q I r h
  obtain ⟨i, j, rfl, q⟩ := h
  obtain ⟨u, w', rfl, ⟨t, rfl⟩, ⟨t', rfl⟩⟩ := vals2 r
  refine max_two_ints (I.ok.hd hc) fun h' tk k => ⟨_, H, I.kept k, ?_, q⟩
  by_cases hj : j > i
  · rw [if_pos hj, if_pos hj]; exact ⟨_, rfl⟩
  · rw [if_neg hj, if_neg hj]; exact ⟨_, rfl⟩
theorem call_min2 (hc : X.calm = true) : CallR X (.builtin "min") (fun xs H Q => ∃ i j, xs = [.int i, .int j] ∧ Q (.int (if j < i then j else i)) H) := by
  intro pins s σ H xs us Q I r h
  obtain ⟨i, j, rfl, q⟩ := h
  obtain ⟨u, w', rfl, ⟨t, rfl⟩, ⟨t', rfl⟩⟩ := vals2 r
  refine min_two_ints (I.ok.hd hc) fun h' tk k => ⟨_, H, I.kept k, ?_, q⟩
  by_cases hj : j < i
  · rw [if_pos hj, if_pos hj]; exact ⟨_, rfl⟩
  · rw [if_neg hj, if_neg hj]; exact ⟨_, rfl⟩
/-- len of a str, a bytes, a list, a tuple -/
def LenV (K : PySem.W.Frag) (x : V) (H : Hp) (n : Nat) : Prop :=
  match x with
  | .str y => y.length ≤ sizeLine ∧ n = y.length
  | .byt y => y.size ≤ sizeLine ∧ n = y.size
  | .ref p => (∃ xs, SqL K H p xs ∧ n = xs.length) ∨ ∃ xs, SqT K H p xs ∧ n = xs.length
  | _ => False
end
end L2

namespace L2
open PySem PySem.Spec PyProof.Rows

/-! ### an instance, its attributes a map -/
structure ObjM (h : Heap) (x dx C : Addr) (mA : Str → Option Value) : Prop where
  obj : h.get? x = some (PySem.W.instObj C dx)
  ns : h.Ns1 dx mA
  ne : dx ≠ x

theorem lookIn_ns {h : Heap} {dx : Addr} {mA : Str → Option Value} (n : h.Ns1 dx mA) : ∃ od, h.get? dx = some od ∧ ∀ name, PySem.W.lookIn name od = some (mA name) := by
  obtain ⟨o, es, ep, ho, hd, hk, _, hm⟩ := n
  refine ⟨o, ho, fun name => ?_⟩
  have e := hm name
  unfold nsFind findBy at e
  rw [← Array.find?_toList] at e
  unfold PySem.W.lookIn
  rw [hd]
  dsimp only
  split
  · rename_i y q
    rw [q] at e
    exact congrArg some e
  · rename_i q
    rw [q] at e
    have a : es.toList.any (·.refKey) = false := by
      rw [List.any_eq_false]
      intro y hy
      obtain ⟨z, t, hkey⟩ := hk y (Array.mem_toList_iff.mp hy)
      simp [DictEntry.refKey, hkey]
    have a' : ¬ es.toList.any (·.refKey) = true := by rw [a]; exact Bool.false_ne_true
    rw [if_neg a']
    exact congrArg some e

theorem ObjM.look {h : Heap} {x dx C : Addr} {mA : Str → Option Value} (I : ObjM h x dx C mA) : ∃ od, PySem.W.InstAt h x (PySem.W.instObj C dx) C (some od) ∧ ∀ name, PySem.W.lookIn name od = some (mA name) :=
  let ⟨od, ho, hl⟩ := lookIn_ns I.ns
  ⟨od, ⟨I.obj, rfl, rfl, ho⟩, hl⟩

section
variable {prog : Program} {w : World} {A : Around} {E : Value → Shared → Prop} {s : Shared} {K : PySem.W.Frag} {x dx C f : Addr} {mA : Str → Option Value} {name : Str} {v : Value}

end

/-! ### the attributes as a list of pairs -/
def putF (f : Str) (v : V) : List (Str × V) → List (Str × V)
  | [] => [(f, v)]
  | (g, x) :: r => if g = f then (g, v) :: r else (g, x) :: putF f v r
section
variable {P : Program} {w : World} {H H' : Hp} {h h' : Heap} {a C dx : Addr} {fs fs' : List (Str × V)}
theorem ins_get (hok : HOk P w H h) (e : H a = some (.ins C dx fs)) : ∃ mA, ObjM h a dx C mA ∧ (∀ f, RelO (fs.lookup f) (mA f)) ∧ PySem.Within mA (fs.map (·.1)) ∧ fs.length ≤ 1000 ∧ H dx = some (.own a) := by
  obtain ⟨d, z, ne, ob, mA, n, r, q⟩ := (show ObjOk P w H h a (.ins C dx fs) from hok a _ e)
  exact ⟨mA, ⟨ob, n, ne⟩, r, q, z, d⟩
end

/-! ### what of the text a class must have -/
structure Cls (K : PySem.W.Frag) (C : Addr) : Prop where
  pg : PySem.W.plainGet K C Str.empty = true
  hd : PySem.W.hasDictIn K C = true
  po : PySem.W.plainOver K C = true
  sa : PySem.W.findIn K (.ref C) "__setattr__" = some (some (.builtin "object.__setattr__"))
theorem Cls.get {K : PySem.W.Frag} {C : Addr} (c : Cls K C) (f : Str) : PySem.W.plainGet K C f = true := c.pg
/-- no class of it has the name -/
def NoAttr (K : PySem.W.Frag) (C : Addr) (f : Str) : Prop := PySem.W.findIn K (.ref C) f = some none
/-- a constant of the class -/
structure Con (K : PySem.W.Frag) (C : Addr) (f : Str) (v : V) (u : Value) : Prop where
  at_ : PySem.W.findIn K (.ref C) f = some (some u)
  rel : RelV v u
  get : PySem.W.specialIn K u "__get__" = some none
  cp : PySem.W.copiedNames.contains f = false
/-- a method: a plain def of the class or of one above it -/
structure Meth (K : PySem.W.Frag) (C : Addr) (m : Str) (f : Addr) : Prop where
  at_ : PySem.W.findIn K (.ref C) m = some (some (.ref f))
  fn : PySem.W.isFn K (.ref f) = true
  kp : PySem.W.keepIn K (.ref f) = true

section
variable {X : Cx} {pins : List (Addr × Obj)} {σ : St} {H : Hp} {s : Shared} {a C dx : Addr} {fs : List (Str × V)} {f : Str} {v : V} {A : Around} {E : Value → Shared → Prop}

end

/-! ### readings and rules -/
/-- e.f, an attribute of the instance -/
def tFld (K : PySem.W.Frag) (ta : TE) (f : Str) : TE := fun σ H Q => ta σ H fun x H1 => ∃ a C dx fs v, x = .ref a ∧ H1 a = some (.ins C dx fs) ∧ Cls K C ∧ NoAttr K C f ∧ fs.lookup f = some v ∧ Q v H1
/-- e.f, a constant of the class -/
def tCon (K : PySem.W.Frag) (ta : TE) (f : Str) : TE := fun σ H Q => ta σ H fun x H1 => ∃ a C dx fs v u, x = .ref a ∧ H1 a = some (.ins C dx fs) ∧ Cls K C ∧ Con K C f v u ∧ fs.lookup f = none ∧ Q v H1
/-- e.f = value -/
def sFld (K : PySem.W.Frag) (ta tv : TE) (f : Str) : TS := fun D σ H => tv σ H fun y H1 => ta σ H1 fun x H2 => ∃ a C dx fs, x = .ref a ∧ H2 a = some (.ins C dx fs) ∧ Cls K C ∧ NoAttr K C f ∧ fs.length < 1000 ∧
  D.nx σ (upd H2 a (.ins C dx (putF f y fs)))
/-- an augmented operator on two values -/
def InOp (X : Cx) (op : Operator) (rd : V → V → Hp → VK → Prop) : Prop :=
  ∀ (pins : List (Addr × Obj)) (s : Shared) (σ : St) (H : Hp) (x y : V) (u v : Value) (Q : VK), Inv X pins σ H s → RelV x u → RelV y v → rd x y H Q → wpAny (model X.prog X.w) X.A (inplaceOp op u v) (EP X pins σ Q) X.xe s
/-- e.f op= value -/
def sFldAug (K : PySem.W.Frag) (ta tv : TE) (rd : V → V → Hp → VK → Prop) (f : Str) : TS := fun D σ H => ta σ H fun x H1 => ∃ a C dx fs v, x = .ref a ∧ H1 a = some (.ins C dx fs) ∧ Cls K C ∧ NoAttr K C f ∧ fs.lookup f = some v ∧
  tv σ H1 fun y H2 => rd v y H2 fun z H3 => ∃ dx' fs', H3 a = some (.ins C dx' fs') ∧ fs'.length < 1000 ∧ D.nx σ (upd H3 a (.ins C dx' (putF f z fs')))

section
variable {X : Cx} {o e value : Expr} {f : Str} {pos pos' tpos : Pos} {ta tv : TE}
def rAdd : V → V → Hp → VK → Prop := fun x y H Q => ∃ i j, x = .int i ∧ y = .int j ∧ Q (.int (i + j)) H
def rSub : V → V → Hp → VK → Prop := fun x y H Q => ∃ i j, x = .int i ∧ y = .int j ∧ Q (.int (i - j)) H
end

/-! ### isinstance -/
section
variable {X : Cx} {pins : List (Addr × Obj)} {σ : St} {H : Hp} {s : Shared} {A : Around} {E : Value → Shared → Prop} {Q : Value → Shared → Prop} {c : Value} {b : Bool}
/-- the type of a value, as the fragment's deciders take it; for an instance its class -/
inductive TyOf (K : PySem.W.Frag) (H : Hp) : V → Value → Prop where
  | non : TyOf K H .non (.type "NoneType")
  | bl (x : Bool) : TyOf K H (.bl x) (.type "bool")
  | int (i : Int) : TyOf K H (.int i) (.type "int")
  | str (x : Str) : TyOf K H (.str x) (.type "str")
  | flt (x : UInt64) : TyOf K H (.flt x) (.type "float")
  | lst {a : Addr} {xs : List V} (e : H a = some (.lst xs)) : TyOf K H (.ref a) (.type "list")
  | frz {a : Addr} {o : Obj} {xs : List V} (e : H a = some (.frz o (.lst xs))) : TyOf K H (.ref a) (.type "list")
  | tup {a : Addr} {xs : List V} (e : H a = some (.tup xs)) : TyOf K H (.ref a) (.type "tuple")
  | dK {a : Addr} {kvs : List (Key × V)} (e : H a = some (.dK kvs)) : TyOf K H (.ref a) (.type "dict")
  | dT {a : Addr} {kvs : List (List Key × V)} (e : H a = some (.dT kvs)) : TyOf K H (.ref a) (.type "dict")
  | ins {a C dx : Addr} {fs : List (Str × V)} (e : H a = some (.ins C dx fs)) (cl : Cls K C) (ha : PySem.W.findIn K (.ref C) "__class__" = some (some (.builtin "object.__class__")))
      (hn : PySem.W.specialIn K (.builtin "object.__class__") "__get__" = some (some (.builtin "getset_descriptor.__get__"))) (htk : PySem.W.takesIn K (.builtin "object.__class__") = some true)
      (hm : PySem.W.mroIn K C (.type "object") = some true) : TyOf K H (.ref a) (.ref C)
/-- isinstance(x, c) for one class c, a built-in or an own one: kitOne's answer -/
theorem isinst_ok {x : V} {u t : Value} (I : Inv X pins σ H s) (rx : RelV x u) (ty : TyOf X.K H x t) (e : PySem.W.kitOne X.K t c = some b) (h : ∀ tk, Q (.bool b) { s with toks := tk }) :
    wpAny (model X.prog X.w) A (call (.builtin "isinstance") [u, c]) Q E s := by
  cases ty with
  | non => cases (show u = Value.none from rx); exact PySem.W.kia_one PySem.W.kitx_none I.kIn True.intro e (fun z => nomatch z) h
  | bl y => cases (show u = Value.bool y from rx); exact PySem.W.kia_one PySem.W.kitx_bool I.kIn True.intro e (fun z => nomatch z) h
  | int i => obtain ⟨t, q⟩ := (show ∃ t, u = Value.int i t from rx); cases q; exact PySem.W.kia_one PySem.W.kitx_int I.kIn True.intro e (fun z => nomatch z) h
  | str y => obtain ⟨t, q⟩ := (show ∃ t, u = Value.str y t from rx); cases q; exact PySem.W.kia_one PySem.W.kitx_str I.kIn True.intro e (fun z => nomatch z) h
  | flt y => obtain ⟨t, q⟩ := (show ∃ t, u = Value.float y t from rx); cases q; exact PySem.W.kia_one PySem.W.kitx_float I.kIn True.intro e (fun z => nomatch z) h
  | @lst a xs ea =>
    cases (show u = Value.ref a from rx)
    obtain ⟨_, _, n, _, h1⟩ := (show ObjOk X.prog X.w H s.heap a (.lst xs) from I.hok a _ ea)
    exact PySem.W.kia_one PySem.W.kitx_list I.kIn ⟨_, h1, rfl⟩ e (fun z => nomatch z) h
  | @frz a ob xs ea =>
    cases (show u = Value.ref a from rx)
    obtain ⟨_, _, _, n, _, h1⟩ := (show ObjOk X.prog X.w H s.heap a (.frz ob (.lst xs)) from I.hok a _ ea)
    exact PySem.W.kia_one PySem.W.kitx_list I.kIn ⟨_, h1, rfl⟩ e (fun z => nomatch z) h
  | @tup a xs ea =>
    cases (show u = Value.ref a from rx)
    obtain ⟨_, _, _, p⟩ := (show ObjOk X.prog X.w H s.heap a (.tup xs) from I.hok a _ ea)
    obtain ⟨o, h1, h2, _⟩ := p
    exact PySem.W.kia_one PySem.W.kitx_tuple I.kIn ⟨o, h1, h2⟩ e (fun z => nomatch z) h
  | @dK a kvs ea =>
    cases (show u = Value.ref a from rx)
    obtain ⟨_, _, vs, _, p⟩ := (show ObjOk X.prog X.w H s.heap a (.dK kvs) from I.hok a _ ea)
    obtain ⟨o, es, ep, h1, h2, _⟩ := p
    exact PySem.W.kia_one PySem.W.kitx_dict I.kIn ⟨o, h1, h2.1⟩ e (fun z => nomatch z) h
  | @dT a kvs ea =>
    cases (show u = Value.ref a from rx)
    obtain ⟨_, _, xs, _, o, es, ep, h1, h2, _⟩ := (show ObjOk X.prog X.w H s.heap a (.dT kvs) from I.hok a _ ea)
    exact PySem.W.kia_one PySem.W.kitx_dict I.kIn ⟨o, h1, h2.1⟩ e (fun z => nomatch z) h
  | @ins a C dx fs ea cl ha hn htk hm =>
    cases (show u = Value.ref a from rx)
    obtain ⟨mA, O, _⟩ := ins_get I.hok ea
    obtain ⟨od, J, _⟩ := O.look
    exact PySem.W.kia_one (PySem.W.kitx_own (cl.get _) cl.hd ha hn htk hm) I.kIn J e (fun z => nomatch z) h
end
end L2

namespace L2
open PySem PySem.Spec PyProof.Rows

/-! ### room -/
structure Room (k : Nat) (A : Around) : Prop where
  hd : A.handled = none
  dp : A.depth + 3 * k + 5 < recursionLimit
  un : A.units + 16 * k + 200 < cLine
theorem Room.mono {j k : Nat} {A : Around} (r : Room k A) (h : j ≤ k) : Room j A := ⟨r.hd, by have := r.dp; omega, by have := r.un; omega⟩
theorem Room.deeper {k : Nat} {A : Around} (r : Room (k + 1) A) (env : Env) : Room k (A.deeper env) :=
  ⟨r.hd, by have := r.dp; show A.depth + 1 + 3 * k + 5 < _; omega, by have := r.un; show A.units + 3 + 16 * k + 200 < _; omega⟩
theorem Room.depth {k : Nat} {A : Around} (r : Room k A) : A.depth < recursionLimit := by have := r.dp; omega
theorem Room.units {k : Nat} {A : Around} (r : Room k A) : A.units + 64 < cLine := by have := r.un; omega
theorem Room.units0 {k : Nat} {A : Around} (r : Room k A) : A.units < cLine := by have := r.un; omega

/-! ### argument lists and displays -/
def tNil : TA := fun _ H Q => Q [] H
def tCons (ta : TE) (tr : TA) : TA := fun σ H Q => ta σ H fun x H1 => tr σ H1 fun xs H2 => Q (x :: xs) H2
section
variable {X : Cx} {e : Expr} {es : List Expr} {te : TE} {t : TA} {pos : Pos}
theorem pa_nil : PA X [] tNil := fun _ _ _ _ H Q I h => Calls.spliced_nil ⟨[], H, I, .nil, h⟩
theorem pa_cons (ha : PE X e te) (hr : PA X es t) (hs : starEach (e :: es) X.env = (false, eval e X.env) :: starEach es X.env := by rfl) : PA X (e :: es) (tCons te t) := by
  intro pos pins s σ H Q I h
  rw [hs]
  show wpAny _ _ (spliced ((false, eval e X.env) :: backTo pos (starEach es X.env))) _ _ s
  refine Calls.spliced_cons (thn (ha pins s σ H _ I h) fun u s1 ⟨x, H1, I1, r1, q1⟩ => ?_)
  exact thn (hr pos pins s1 σ H1 _ I1 q1) fun us s2 ⟨xs, H2, I2, r2, q2⟩ => ⟨x :: xs, H2, I2, .cons r1 r2, q2⟩

/-- a tuple, a list of written items -/
def tTup (t : TA) : TE := fun σ H Q => t σ H fun xs H1 => xs.length ≤ sizeLine ∧ ∀ p, H1 p = none → Q (.ref p) (upd H1 p (.tup xs))
def tLst (t : TA) : TE := fun σ H Q => t σ H fun xs H1 => xs.length ≤ sizeLine ∧ ∀ p, H1 p = none → Q (.ref p) (upd H1 p (.lst xs))
theorem pe_tup {x1} (h : PA X es t) : PE X (.Tuple es x1 pos) (tTup t) := by
  intro pins s σ H Q I hq
  refine wpAny_Tuple_spliced (thn (h pos pins s σ H _ I hq) fun us s1 ⟨xs, H1, I1, r, z, q⟩ => ⟨by rw [← r.length]; exact z, ?_⟩)
  have hf : H1 s1.heap.objs.size = none := I1.hok.fresh (Nat.le_refl _)
  refine ⟨.ref s1.heap.objs.size, upd H1 s1.heap.objs.size (.tup xs), I1.laid (t' := s1.toks) (fun b u e => Heap.get?_push_of_some _ e) (Nat.le_refl _) ?_, rfl, q _ hf⟩
  exact ⟨z, us, r, ⟨_, Heap.get?_push_size _ rfl, rfl, _, rfl⟩⟩
theorem pe_lst (h : PA X es t) : PE X (.List es pos) (tLst t) := by
  intro pins s σ H Q I hq
  refine wpAny_List_spliced (thn (h pos pins s σ H _ I hq) fun us s1 ⟨xs, H1, I1, r, z, q⟩ => ⟨by rw [← r.length]; exact z, ?_⟩)
  have hf : H1 s1.heap.objs.size = none := I1.hok.fresh (Nat.le_refl _)
  refine ⟨.ref s1.heap.objs.size, upd H1 s1.heap.objs.size (.lst xs), I1.laid (t' := s1.toks) (fun b u e => Heap.get?_push_of_some _ e) (Nat.le_refl _) ?_, rfl, q _ hf⟩
  exact ⟨z, us, 0, r, Heap.get?_push_size _ rfl⟩
end

/-! ### what a def promises -/
/-- a def's promise: the bound arguments in the parameters' order, the heap, the wanted end, the wanted exception -/
abbrev Sp := List V → Hp → VK → XK → Prop
/-- how an exception lies behind a call (file 08 gives it): the callers' frames, abstract heap and state ahead of the call, the wish, the exception, the state -/
abbrev CXT := List Env → Hp → Shared → XK → Value → Shared → Prop

/-- the state at a call -/
structure Env0 (P : Program) (w : World) (K : PySem.W.Frag) (mg : Str → Option Value) (base : Heap) (A : Around) (outer : List Env) (s : Shared) (H : Hp) : Prop where
  frames : A.frames = some outer
  mod : Mod K mg base
  bs : ∀ b o, base.get? b = some o → s.heap.get? b = some o ∧ H b = none
  bsz : base.objs.size ≤ s.heap.objs.size
  funs : s.heap.FunFrames base outer
  frf : ∀ b ∈ frs outer, H b = none
  hok : HOk P w H s.heap
  bare : AllBare s.gens
/-- a call's end -/
def CE (outer : List Env) (P : Program) (w : World) (H : Hp) (s : Shared) (Q : VK) (u : Value) (s' : Shared) : Prop :=
  ∃ v H', s'.os = s.os ∧ AllBare s'.gens ∧ Un (frs outer) [] H H' s.heap s'.heap ∧ HOk P w H' s'.heap ∧ RelV v u ∧ Q v H'
def CR (CX : CXT) (outer : List Env) (P : Program) (w : World) (H : Hp) (s : Shared) (Q : VK) (E : XK) (r : Result) (s' : Shared) : Prop :=
  match r with
  | .ok (.ret u) => CE outer P w H s Q u s'
  | .ok _ => False
  | .error e => CX outer H s E e s'
structure FnOk (P : Program) (w : World) (K : PySem.W.Frag) (mg : Str → Option Value) (base : Heap) (CX : CXT) (k : Nat) (f : Addr) (fd : FuncData) (ps : List Str) (sp : Sp) : Prop where
  len : ∀ vs H Q E, sp vs H Q E → vs.length = ps.length
  run : ∀ (A : Around) (outer : List Env) (s : Shared) (H : Hp) (args : Args) (us : List Value) (vs : List V) (Q : VK) (E : XK), Room k A → Env0 P w K mg base A outer s H → BindsTo s fd args (ps.zip us) → Vals vs us → sp vs H Q E →
    codeAny (model P w) A (.call (.ref f) args) (CR CX outer P w H s Q E) s
theorem FnOk.mono {P : Program} {w : World} {K : PySem.W.Frag} {mg : Str → Option Value} {base : Heap} {CX : CXT} {j k : Nat} {f : Addr} {fd : FuncData} {ps : List Str} {sp : Sp} (F : FnOk P w K mg base CX j f fd ps sp) (h : j ≤ k) :
    FnOk P w K mg base CX k f fd ps sp := ⟨F.len, fun A outer s H args us vs Q E hr => F.run A outer s H args us vs Q E (hr.mono h)⟩
section
variable {X : Cx} {pins : List (Addr × Obj)} {σ : St} {H : Hp} {s s' : Shared}
/-- from a body: what a callee wants -/
theorem Inv.env0 (I : Inv X pins σ H s) : Env0 X.prog X.w X.K X.mg X.base X.A X.stack s H :=
  ⟨I.ok.frames, I.ok.mod, I.bs, Nat.le_trans I.ok.bsz I.sz, I.stack, I.stkFree, I.hok, I.bare⟩
/-- behind a call -/
theorem Inv.after {Q : VK} {u : Value} (I : Inv X pins σ H s) (h : CE X.stack X.prog X.w H s Q u s') : EP X pins σ Q u s' := by
  obtain ⟨v, H', os, bare, un, hok, r, q⟩ := h
  obtain ⟨hh, g, d, t, os'⟩ := s'
  obtain rfl : os' = s.os := os
  exact ⟨v, H', I.call (h' := hh) (g' := g) (d' := d) (t' := t) (ch := []) un hok bare (fun b z => absurd z (by simp)), r, q⟩
end

/-! ### calls -/
/-- f(..): the written arguments, then the defaults dvs; E: what is wanted of an exception -/
def tCall (sp : Sp) (dvs : List V) (E : XK) (t : TA) : TE := fun σ H Q => t σ H fun vs H1 => sp (vs ++ dvs) H1 Q E
/-- o.m(..) of an instance of the class at C -/
def tMeth (C : Addr) (m : Str) (sp : Sp) (dvs : List V) (E : XK) (ta : TE) (t : TA) : TE := fun σ H Q => ta σ H fun x H1 => ∃ a dx fs, x = .ref a ∧ H1 a = some (.ins C dx fs) ∧ fs.lookup m = none ∧
  t σ H1 fun vs H2 => sp (x :: (vs ++ dvs)) H2 Q E
/-- C(..): a new instance and its dict, then __init__ -/
def tMake (C : Addr) (sp : Sp) (dvs : List V) (E : XK) (t : TA) : TE := fun σ H Q => t σ H fun vs H1 => ∀ x dx, H1 x = none → H1 dx = none → dx ≠ x →
  sp (.ref x :: (vs ++ dvs)) (upd (upd H1 dx (.own x)) x (.ins C dx [])) (fun v H2 => v = .non ∧ Q (.ref x) H2) E

/-- how the parameters are bound: us the positional arguments, kw the keywords' values by name, ds the defaults that fill up -/
def Binds (K : PySem.W.Frag) (fd : FuncData) (ps : List Str) (ds : List Value) : Prop :=
  ∀ (s : Shared) (us : List Value), K.In s.heap → (us ++ ds).length = ps.length → BindsTo s fd ⟨us, []⟩ (ps.zip (us ++ ds))
/-- every parameter is given -/
theorem Binds.all {K : PySem.W.Frag} {fd : FuncData} {ps : List Str} (h : ∀ us : List Value, us.length = ps.length → bindArgs fd ⟨us, []⟩ = pure (ps.zip us)) : Binds K fd ps [] := fun s us _ hl => by
  rw [List.append_nil] at hl ⊢
  exact .of_eq (h us hl)

/-- an exception of a callee reaches what this body wants of exceptions -/
def Passes (CX : CXT) (X : Cx) (E : XK) : Prop := ∀ (pins : List (Addr × Obj)) (σ : St) (H : Hp) (s : Shared) (e : Value) (s' : Shared), Inv X pins σ H s → CX X.stack H s E e s' → X.xe e s'

section
variable {X : Cx} {CX : CXT} {k : Nat} {f C : Addr} {fd : FuncData} {ps : List Str} {sp : Sp} {dvs : List V} {ds : List Value} {E : XK} {x m : Str} {p pos apos : Pos} {e o : Expr} {es : List Expr} {ta : TE} {t : TA}

/-- the callee runs -/
theorem run_fn {pins : List (Addr × Obj)} {σ : St} {H : Hp} {s : Shared} {Q : VK} {us : List Value} {vs : List V} (F : FnOk X.prog X.w X.K X.mg X.base CX k f fd ps sp) (hr : Room k X.A) (hb : Binds X.K fd ps ds) (hd : Vals dvs ds) (hx : Passes CX X E)
    (I : Inv X pins σ H s) (r : Vals vs us) (h : sp (vs ++ dvs) H Q E) : wpAny (model X.prog X.w) X.A (call (.ref f) us) (EP X pins σ Q) X.xe s := by
  have r2 : Vals (vs ++ dvs) (us ++ ds) := r.append hd
  have hl : (us ++ ds).length = ps.length := by rw [← r2.length]; exact F.len _ _ _ _ h
  refine wpAny_call (codeAny_mono (F.run X.A X.stack s H ⟨us, []⟩ (us ++ ds) (vs ++ dvs) Q E hr I.env0 (hb s us I.kIn hl) r2 h) fun r s' hq => ?_)
  cases r with
  | error e => exact hx pins σ H s e s' I hq
  | ok fl =>
    cases fl with
    | ret u => exact I.after hq
    | next => exact False.elim hq
    | brk => exact False.elim hq
    | cont => exact False.elim hq

theorem pe_call (F : FnOk X.prog X.w X.K X.mg X.base CX k f fd ps sp) (hr : Room k X.A) (hg : Gl X x) (hm : X.mg x = some (.ref f)) (hk : PySem.W.keepIn X.K (.ref f) = true) (hb : Binds X.K fd ps ds) (hd : Vals dvs ds) (hx : Passes CX X E)
    (ha : PA X (e :: es) t) (hdb : (x == ("__debug__" : Str)) = false := by decide) (he : starEach (e :: es) X.env = (false, eval e X.env) :: starEach es X.env := by rfl) (hpl : (backTo pos (starEach es X.env)).any (·.1) = false := by rfl) :
    PE X (.Call (.Name x p) (e :: es) [] pos) (tCall sp dvs E t) := by
  intro pins s σ H Q I h
  refine wpAny_Call_Name_kw (ld_glob I hg hm ?_ hdb)
  refine PySem.W.callWith_K (h₀ := X.base) I.ok.mod.kin hk (thn (ha pos pins s σ H _ I h) fun us s1 ⟨vs, H1, I1, r, q⟩ => ⟨I1.kIn, ?_⟩) he hpl
  exact run_fn F hr hb hd hx I1 r q
/-- what a class must have to be made -/
structure Mk (K : PySem.W.Frag) (C f : Addr) : Prop where
  makes : PySem.W.makesIn K C = true
  init : PySem.W.findIn K (.ref C) "__init__" = some (some (.ref f))
  fn : PySem.W.isFn K (.ref f) = true
  kp : PySem.W.keepIn K (.ref C) = true

end

/-! ### keywords -/
/-- the values of the keywords, from the left -/
def PK (X : Cx) (kws : List Keyword) (t : TA) : Prop :=
  ∀ (pos : Pos) (pins : List (Addr × Obj)) (s : Shared) (σ : St) (H : Hp) (Q : List V → Hp → Prop), Inv X pins σ H s → t σ H Q → wpAny (model X.prog X.w) X.A (evalAll ((backToKw pos (keywordEach kws X.env)).map (·.2))) (AP X pins σ Q) X.xe s
section
variable {X : Cx} {CX : CXT} {k : Nat} {f C : Addr} {fd : FuncData} {ps ks : List Str} {sp : Sp} {E : XK} {x m : Str} {p pos apos kpos : Pos} {e o : Expr} {es : List Expr} {kws : List Keyword} {te ta : TE} {t tk : TA} {nm : Option Str}
/-- how a call with keywords binds: g puts the positional values us and the keywords' values ws (names ks) in the parameters' order, defaults among them -/
structure KBinds (K : PySem.W.Frag) (fd : FuncData) (ps ks : List Str) (g : List Value → List Value → List Value) (gV : List V → List V → List V) : Prop where
  to : ∀ (s : Shared) (us ws : List Value), K.In s.heap → (g us ws).length = ps.length → BindsTo s fd ⟨us, ks.zip ws⟩ (ps.zip (g us ws))
  rel : ∀ {vs : List V} {us : List Value} {zs : List V} {ws : List Value}, Vals vs us → Vals zs ws → Vals (gV vs zs) (g us ws)
def tCallK (sp : Sp) (gV : List V → List V → List V) (E : XK) (t tk : TA) : TE := fun σ H Q => t σ H fun vs H1 => tk σ H1 fun zs H2 => sp (gV vs zs) H2 Q E
variable {g : List Value → List Value → List Value} {gV : List V → List V → List V}
end

/-! ### a def's body keeps its promise -/
/-- names: the parameters first -/
structure FnScope (N P : List Str) (sc : Scope) : Prop where
  kind : sc.kind = .function
  co : sc.isCoroutine = false
  gen : sc.isGenerator = false
  nd : N.Nodup
  pre : N.take P.length = P
  par : ∀ x ∈ P, sc.names.lookup x = some .local ∨ sc.names.lookup x = some .cell
  nofree : ∀ y ∈ sc.names, y.2 ≠ .free

theorem bindL_out {kindOf : Str → Option NameKind} {x : Str} : ∀ {binds : List (Str × Value)} {m : Str → Option Value}, (∀ v, (x, v) ∉ binds) → bindL kindOf binds m x = m x
  | [], _, _ => rfl
  | (n, v) :: r, m, h => by
    unfold bindL
    rw [bindL_out fun w hw => h w (List.mem_cons_of_mem _ hw)]
    split
    · have : x ≠ n := by rintro rfl; exact h v List.mem_cons_self
      simp [this]
    · rfl
theorem bindC_out {kindOf : Str → Option NameKind} {x : Str} : ∀ {binds : List (Str × Value)} {m : Str → Option Value}, (∀ v, (x, v) ∉ binds) → bindC kindOf binds m x = m x
  | [], _, _ => rfl
  | (n, v) :: r, m, h => by
    unfold bindC
    rw [bindC_out fun w hw => h w (List.mem_cons_of_mem _ hw)]
    split
    · rfl
    · have : x ≠ n := by rintro rfl; exact h v List.mem_cons_self
      simp [this]
theorem bindL_get {kindOf : Str → Option NameKind} {x : Str} {v : Value} : ∀ {P : List Str} {vs : List Value} {i : Nat} {m : Str → Option Value}, P.Nodup → P[i]? = some x → vs[i]? = some v → kindOf x = some .local →
    bindL kindOf (P.zip vs) m x = some v
  | [], _, _, _, _, h, _, _ => by simp at h
  | _ :: _, [], _, _, _, _, h, _ => by simp at h
  | p :: P, w :: vs, 0, m, nd, h1, h2, hk => by
    simp at h1 h2; subst h1; subst h2
    show bindL kindOf ((p, w) :: P.zip vs) m p = _
    unfold bindL
    rw [bindL_out fun v hv => (List.nodup_cons.mp nd).1 (List.of_mem_zip hv).1, if_pos hk]
    simp
  | p :: P, w :: vs, i + 1, m, nd, h1, h2, hk => by
    show bindL kindOf ((p, w) :: P.zip vs) m x = _
    unfold bindL
    exact bindL_get (i := i) (List.nodup_cons.mp nd).2 (by simpa using h1) (by simpa using h2) hk
theorem bindC_get {kindOf : Str → Option NameKind} {x : Str} {v : Value} : ∀ {P : List Str} {vs : List Value} {i : Nat} {m : Str → Option Value}, P.Nodup → P[i]? = some x → vs[i]? = some v → kindOf x ≠ some .local →
    bindC kindOf (P.zip vs) m x = some v
  | [], _, _, _, _, h, _, _ => by simp at h
  | _ :: _, [], _, _, _, _, h, _ => by simp at h
  | p :: P, w :: vs, 0, m, nd, h1, h2, hk => by
    simp at h1 h2; subst h1; subst h2
    show bindC kindOf ((p, w) :: P.zip vs) m p = _
    unfold bindC
    rw [bindC_out fun v hv => (List.nodup_cons.mp nd).1 (List.of_mem_zip hv).1, if_neg hk]
    simp
  | p :: P, w :: vs, i + 1, m, nd, h1, h2, hk => by
    show bindC kindOf ((p, w) :: P.zip vs) m x = _
    unfold bindC
    exact bindC_get (i := i) (List.nodup_cons.mp nd).2 (by simpa using h1) (by simpa using h2) hk

/-- the names' values at the entry -/
def start (N : List Str) (vs : List V) : St := vs.map some ++ List.replicate (N.length - vs.length) none

/-- the context of a def's body, at its entry; an exception leaves the frame, then lies as CX says -/
def cxOf (CX : CXT) (P : Program) (w : World) (K : PySem.W.Frag) (mg : Str → Option Value) (base : Heap) (N : List Str) (qual : Str) (scope : Scope) (f : Addr) (cd : Value) (A : Around) (outer : List Env) (s : Shared) (H : Hp) (E : XK) : Cx where
  prog := P
  w := w
  K := K
  mg := mg
  base := base
  A := A.deeper (envOfC qual scope s.heap.objs.size f cd)
  N := N
  s₀ := s
  H₀ := H
  env := envOfC qual scope s.heap.objs.size f cd
  outer := outer
  stack := envOfC qual scope s.heap.objs.size f cd :: outer
  ex := []
  calm := true
  fn := fun _ => true
  pn := []
  xe := fun e s' => wpAny (model P w) (A.deeper (envOfC qual scope s.heap.objs.size f cd)) (leaving (envOfC qual scope s.heap.objs.size f cd) e) (fun _ s'' => CX outer H s E e s'') (fun e' s'' => CX outer H s E e' s'') s'

theorem cell_has {sc : Scope} {n : Nat} {x : Str} (h : sc.names.lookup x = some .cell) : ∃ c, (cellsFrom n sc.names []).lookup x = some c := by
  have q := PySem.W.cellsFrom_some sc.names n [] (.inl h)
  exact Option.isSome_iff_exists.mp q

theorem inv_start {CX : CXT} {P : Program} {w : World} {K : PySem.W.Frag} {mg : Str → Option Value} {base : Heap} {N ps : List Str} {qual : Str} {scope : Scope} {f : Addr} {cd : Value} {A : Around} {outer : List Env} {s s1 : Shared} {H : Hp} {E : XK} {us : List Value} {vs : List V}
    (S : FnScope N ps scope) (hd : A.handled = none) (e0 : Env0 P w K mg base A outer s H) (hl : vs.length = ps.length) (r : Vals vs us)
    (x : InCallC s s.heap.objs.size (bindL (envOfC qual scope s.heap.objs.size f cd).kindOf (ps.zip us) fun _ => none) (cellsFrom (s.heap.objs.size + 1) scope.names []) (bindC (envOfC qual scope s.heap.objs.size f cd).kindOf (ps.zip us) fun _ => none) s1) :
    Inv (cxOf CX P w K mg base N qual scope f cd A outer s H E) [] (start N vs) H s1 := by
  have hpl : ps.length ≤ N.length := by have := congrArg List.length S.pre; rw [List.length_take] at this; omega
  obtain ⟨h1, tk, rfl, hk⟩ := x.done
  have noA : ∀ b : Addr, b ∉ (cxOf CX P w K mg base N qual scope f cd A outer s H E).ex := fun b z => absurd (show b ∈ ([] : List Addr) from z) (by simp)
  refine ⟨⟨e0.mod, S.kind, rfl, rfl, Nat.le_refl _, fun y z c h1 h2 => ?_, fun y hy => ?_, fun y c _ h => ?_, fun _ => hd, Around.frames_deeper e0.frames, .inr ⟨rfl, rfl⟩, fun b z => absurd z (noA b), e0.bs, e0.bsz, fun b _ _ => noA b, fun b z => absurd z (noA b), e0.funs, e0.frf⟩,
    rfl, e0.bare, Un.kept hk, ⟨_, x.toInCall.ns, fun i y v h1 h2 h3 => ?_⟩, fun y c h => ⟨_, x.cell y c h⟩, e0.hok.fresh (Nat.le_refl _), fun y c h => ?_, fun p hp => absurd (show p ∈ ([] : List (Addr × Obj)) from hp) (by simp), e0.hok.kept hk, ?_⟩
  · exact name_of_addr x.apart (PySem.mem_of_lookup h1) (PySem.mem_of_lookup h2)
  · have hy : scope.names.lookup y = some .cell ∨ scope.names.lookup y = some .free := hy
    rcases hy with hy | hy
    · exact cell_has hy
    · exact absurd rfl (S.nofree _ (PySem.mem_of_lookup hy))
  · exact Nat.le_of_lt (x.above y c (PySem.mem_of_lookup h))
  · have hi : i < vs.length := by
      unfold start at h2
      by_cases hi : i < vs.length
      · exact hi
      · rw [List.getElem?_append_right (by simpa using hi)] at h2
        rw [List.getElem?_replicate] at h2
        split at h2 <;> cases h2
    have ha : vs[i]? = some v := by
      unfold start at h2
      rw [List.getElem?_append_left (by simpa using hi), List.getElem?_map] at h2
      cases e : vs[i]? with
      | none => rw [e] at h2; cases h2
      | some a => rw [e] at h2; cases h2; rfl
    obtain ⟨u, hu, rv⟩ := r.get ha
    have hp : ps[i]? = some y := by
      rw [← S.pre, List.getElem?_take_of_lt (by omega)]; exact h1
    have ndP : ps.Nodup := by rw [← S.pre]; exact S.nd.sublist (List.take_sublist _ _)
    refine ⟨u, rv, ?_⟩
    rcases S.par y (List.mem_of_getElem? hp) with k | k
    · exact .inl ⟨k, bindL_get ndP hp hu k⟩
    · obtain ⟨c, e⟩ := cell_has (n := s.heap.objs.size + 1) k
      refine .inr ⟨.inl k, c, e, ?_⟩
      have q := x.cell y c e
      rw [bindC_get ndP hp hu (by show scope.names.lookup y ≠ _; rw [k]; decide)] at q
      exact q
  · exact e0.hok.fresh (Nat.le_of_lt (x.above y c (PySem.mem_of_lookup h)))
  · unfold start
    show _ = N.length
    rw [List.length_append, List.length_map, List.length_replicate]
    omega

/-- THE RULE: a def (or a method) of the text, by its body. The body's reading t is chosen for each entry; it is run at the parameters' values -/
theorem fn_of {CX : CXT} {P : Program} {w : World} {K : PySem.W.Frag} {mg : Str → Option Value} {base : Heap} {k : Nat} {f : Addr} {name qual : Str} {params : Arguments} {body : List Stmt} {scope : Scope} {dV kV doc pm cdv ct oc : Value} {an od : Option Addr}
    {osl : Array (Option Value)} {N ps : List Str} {sp : Sp} (lk : K.lookup f = some ⟨oc, od, .func (PySem.W.fnOf name qual params body scope dV kV doc pm an cdv ct), osl⟩) (hcd : PySem.W.codeIn K cdv qual = true) (S : FnScope N ps scope)
    (len : ∀ vs H Q E, sp vs H Q E → vs.length = ps.length)
    (hbody : ∀ (A : Around) (outer : List Env) (s : Shared) (H : Hp) (vs : List V) (Q : VK) (E : XK), Room k (A.deeper (envOfC qual scope s.heap.objs.size f cdv)) → sp vs H Q E →
      ∃ t, PSs (cxOf CX P w K mg base N qual scope f cdv A outer s H E) body t ∧ t { nx := fun _ H' => Q .non H', rt := Q } (start N vs) H) :
    FnOk P w K mg base CX (k + 1) f (PySem.W.fnOf name qual params body scope dV kV doc pm an cdv ct) ps sp := by
  refine ⟨len, fun A outer s H args us vs Q E hr e0 hb r hsp => ?_⟩
  have hl := len _ _ _ _ hsp
  have KX : K.In s.heap := e0.mod.kin.keeps fun b o e => (e0.bs b o e).1
  have lim : s.heap.NoLimit := e0.mod.nolimit.keeps fun b o e => (e0.bs b o e).1
  have hkind : ∀ y ∈ ps.zip us, scope.names.lookup y.1 = some .local ∨ (scope.names.lookup y.1 = some .cell ∧ ((cellsFrom (s.heap.objs.size + 1) scope.names []).lookup y.1).isSome = true) := fun ⟨n, v⟩ hy => by
    rcases S.par n (List.of_mem_zip hy).1 with q | q
    · exact .inl q
    · exact .inr ⟨q, PySem.W.cellsFrom_some _ _ _ (.inl q)⟩
  refine codeAny_call_function hr.depth (KX _ _ lk) rfl S.co S.gen rfl (PySem.W.codeRec_of KX hcd) (hb _ _ _ _ ?_)
  refine wpAny_newFunctionEnv_cells S.kind hkind fun env he s1 x => ?_
  subst he
  refine ⟨lim.keeps x.toInCall.keep, codeAny_func ?_⟩
  obtain ⟨t, ht, hq⟩ := hbody A outer s H vs Q E (hr.deeper _) hsp
  have I : Inv (cxOf CX P w K mg base N qual scope f cdv A outer s H E) [] (start N vs) H s1 := inv_start S hr.hd e0 hl r x
  refine wpAny_mono (ht [] s1 (start N vs) H _ I hq) (fun fl s' hs => ?_) fun e s' hs => hs
  have fin : ∀ {σ' : St} {H' : Hp} {v : V} {u : Value}, Inv (cxOf CX P w K mg base N qual scope f cdv A outer s H E) [] σ' H' s' → RelV v u → Q v H' → CE outer P w H s Q u s' :=
    fun {σ' H' v u} J rv q => ⟨v, H', J.os, J.bare, J.base, J.hok, rv, q⟩
  cases fl with
  | ret u =>
    obtain ⟨v, σ', H', J, rv, q⟩ := hs
    exact fin J rv q
  | next =>
    obtain ⟨σ', H', J, q⟩ := hs
    exact fin (v := V.non) (u := Value.none) J rfl q
  | brk =>
    obtain ⟨_, _, _, q⟩ := hs
    exact False.elim q
  | cont =>
    obtain ⟨_, _, _, q⟩ := hs
    exact False.elim q
end L2

namespace L2
open PySem PySem.Spec PyProof.Rows
section
variable {X : Cx} {x : Str} {p pos : Pos} {e : Expr} {es : List Expr} {t : TA} {id T : String} {r : List V → Hp → VK → Prop}

def tCB (r : List V → Hp → VK → Prop) (t : TA) : TE := fun σ H Q => t σ H fun vs H1 => r vs H1 Q
/-- f(e, ..), f a built-in function -/
theorem pe_callB (hc : CallR X (.builtin id) r) (hg : Gl X x) (hm : X.mg x = none) (hv : bootBuiltins x = some (.builtin id)) (ha : PA X (e :: es) t) (hn : x ≠ "__name__" := by decide) (hdb : (x == ("__debug__" : Str)) = false := by decide)
    (he : starEach (e :: es) X.env = (false, eval e X.env) :: starEach es X.env := by rfl) (hpl : (backTo pos (starEach es X.env)).any (·.1) = false := by rfl) : PE X (.Call (.Name x p) (e :: es) [] pos) (tCB r t) := by
  intro pins s σ H Q I h
  refine wpAny_Call_Name_kw (ld_blt I hg hm hv ?_ hn hdb)
  exact PyProof.Rows.callWith_builtin1 (thn (ha pos pins s σ H _ I h) fun us s1 ⟨vs, H1, I1, r1, q1⟩ => hc pins s1 σ H1 vs us Q I1 r1 q1) he hpl
/-- T(e, ..), T a built-in type -/
theorem pe_callTy (hc : CallR X (.type T) r) (hg : Gl X x) (hm : X.mg x = none) (hv : bootBuiltins x = some (.type T)) (ha : PA X (e :: es) t) (hn : x ≠ "__name__" := by decide) (hdb : (x == ("__debug__" : Str)) = false := by decide)
    (he : starEach (e :: es) X.env = (false, eval e X.env) :: starEach es X.env := by rfl) (hpl : (backTo pos (starEach es X.env)).any (·.1) = false := by rfl) : PE X (.Call (.Name x p) (e :: es) [] pos) (tCB r t) := by
  intro pins s σ H Q I h
  refine wpAny_Call_Name_kw (ld_blt I hg hm hv ?_ hn hdb)
  exact PyProof.Rows.callWith_type1 (thn (ha pos pins s σ H _ I h) fun us s1 ⟨vs, H1, I1, r1, q1⟩ => hc pins s1 σ H1 vs us Q I1 r1 q1) he hpl
end
end L2

namespace HT
open PySem PyProof.Rows

/-- t < u of tuples of ints -/
def lexLt : List Int → List Int → Bool
  | [], [] => false
  | [], _ :: _ => true
  | _ :: _, [] => false
  | x :: xs, y :: ys => if x = y then lexLt xs ys else decide (x < y)
section
open PySem.SeqAt
open PySem.AutoSeq1 (wpAny_loadPart')
open PySem.MeetsSeq PySem.MeetsSeq2 PySem.MeetsSeq3

end

section
variable {prog : Program} {w : World} {A : Around} {E : Value → Shared → Prop} {s : Shared}

/-! ### t[a:b], not the whole -/
/-- a slice's bound as a place among n (d where it is left out) -/
def sIx (n d : Nat) : Option Int → Nat
  | none => d
  | some v => if v < 0 then (v + (n : Int)).toNat else min v.toNat n
theorem sIx_none (n d : Nat) : sIx n d none = d := rfl
theorem sIx_nat (n d k : Nat) : sIx n d (some (k : Int)) = min k n := by
  show (if (k : Int) < 0 then ((k : Int) + (n : Int)).toNat else min (k : Int).toNat n) = min k n
  rw [if_neg (by omega), Int.toNat_natCast]
theorem sIx_le (n d : Nat) (hd : d ≤ n) (o : Option Int) : sIx n d o ≤ n := by
  cases o with
  | none => exact hd
  | some v =>
    show (if v < 0 then (v + (n : Int)).toNat else min v.toNat n) ≤ n
    by_cases hv : v < 0
    · rw [if_pos hv]; omega
    · rw [if_neg hv]; exact Nat.min_le_right _ _
end
end HT

namespace L2
open PySem PySem.Spec PyProof.Rows

/-! ### the parts of a slice -/
abbrev TO := St → Hp → (Option Int → Hp → Prop) → Prop
/-- a slice's part (left out, or an int) -/
def PO (X : Cx) (e : Option Expr) (t : TO) : Prop :=
  ∀ (pins : List (Addr × Obj)) (s : Shared) (σ : St) (H : Hp) (Q : Option Int → Hp → Prop), Inv X pins σ H s → t σ H Q →
    wpAny (model X.prog X.w) X.A (evalPart e X.env) (fun u s' => ∃ o H', Inv X pins σ H' s' ∧ IsPart u o ∧ Q o H') X.xe s
def tNoPart : TO := fun _ H Q => Q none H
def tPart (t : TE) : TO := fun σ H Q => t σ H fun x H1 => ∃ i, x = .int i ∧ Q (some i) H1

section
variable {X : Cx} {e : Expr} {te : TE} {lo hi : Option Expr} {tl th : TO} {pos p2 : Pos}

theorem po_none : PO X none tNoPart := by
  intro pins s σ H Q I h
  rw [evalPart_none]
  exact wpAny_pure ⟨none, H, I, .none, h⟩
theorem po_some (h : PE X e te) : PO X (some e) (tPart te) := by
  intro pins s σ H Q I hw
  rw [evalPart_some]
  refine thn (h pins s σ H _ I hw) fun u s1 ⟨x, H1, I1, r1, q1⟩ => ?_
  obtain ⟨i, rfl, q⟩ := q1
  obtain ⟨t, rfl⟩ := r1
  exact ⟨some i, H1, I1, .int i t, q⟩

/-- what a slice of a value is, by values: the slice object stands at sl -/
def SlR (X : Cx) (r : V → Option Int → Option Int → Hp → VK → Prop) : Prop :=
  ∀ (pins : List (Addr × Obj)) (s : Shared) (σ : St) (H : Hp) (x : V) (v vl vu : Value) (lo hi : Option Int) (sl : Addr) (Q : VK), Inv X pins σ H s → RelV x v → s.heap.IsSliceOf sl vl vu .none → IsPart vl lo → IsPart vu hi → r x lo hi H Q →
    ∃ T id, typeLookup (.type T) "__getitem__" = pure (some (.builtin id)) ∧ s.TypeIs v T ∧ wpAny (model X.prog X.w) X.A (getItem v (.ref sl)) (EP X pins σ Q) X.xe s
def tSl (r : V → Option Int → Option Int → Hp → VK → Prop) (te : TE) (tl th : TO) : TE := fun σ H Q => te σ H fun x H1 => tl σ H1 fun l H2 => th σ H2 fun u H3 => r x l u H3 Q
/-- a[lo:hi], any a -/
theorem pe_slice {r : V → Option Int → Option Int → Hp → VK → Prop} (hr : SlR X r) (he : PE X e te) (hl : PO X lo tl) (hu : PO X hi th) : PE X (.Subscript e (.Slice lo hi none p2) pos) (tSl r te tl th) := by
  intro pins s σ H Q I h
  refine Subscript_ (thn (he pins s σ H _ I h) fun v s1 ⟨x, H1, I1, r1, q1⟩ => ?_)
  refine wpAny_Slice (thn (hl pins s1 σ H1 _ I1 q1) fun vl s2 ⟨l, H2, I2, pl, q2⟩ => thn (hu pins s2 σ H2 _ I2 q2) fun vu s3 ⟨u, H3, I3, pu, q3⟩ => ?_)
  rw [evalPart_none]
  refine wpAny_pure ?_
  have I4 : Inv X pins σ H3 { s3 with heap := s3.heap.push { cls := .type "slice", data := .fields #[vl, vu, .none] } } := I3.kept (t' := s3.toks) fun b ob q => Heap.get?_push_of_some _ q
  obtain ⟨T, id, hT, ht, hg⟩ := hr pins { s3 with heap := s3.heap.push { cls := .type "slice", data := .fields #[vl, vu, .none] } } σ H3 x v vl vu l u s3.heap.objs.size Q I4 r1 (Heap.IsSliceOf.new ..) pl pu q3
  show wpAny (model X.prog X.w) X.A (subscriptTail e (.Slice lo hi none p2) v (.ref s3.heap.objs.size)) (EP X pins σ Q) X.xe { s3 with heap := s3.heap.push { cls := .type "slice", data := .fields #[vl, vu, .none] } }
  exact tail_any (ops := [.ref s3.heap.objs.size, v]) ht hT hg (by with_unfolding_all rfl)

/-- the items of xs[lo:hi] -/
def cutV (xs : List V) (lo hi : Option Int) : List V := (xs.drop (HT.sIx xs.length 0 lo)).take (HT.sIx xs.length xs.length hi - HT.sIx xs.length 0 lo)
theorem cutV_length (xs : List V) (lo hi : Option Int) : (cutV xs lo hi).length ≤ xs.length := by
  unfold cutV
  rw [List.length_take, List.length_drop]
  omega
/-- t[lo:hi], not the whole of it (the whole would be t itself) -/
def rSlT (K : PySem.W.Frag) : V → Option Int → Option Int → Hp → VK → Prop := fun x lo hi H Q => ∃ a xs, x = .ref a ∧ SqT K H a xs ∧
  ¬ (HT.sIx xs.length 0 lo = 0 ∧ HT.sIx xs.length xs.length hi = xs.length) ∧ ∀ p, H p = none → Q (.ref p) (upd H p (.tup (cutV xs lo hi)))
/-! ### t < u, t + u -/
def rLtT (K : PySem.W.Frag) : R2 := fun x y H Q => ∃ a b ns ms, x = .ref a ∧ y = .ref b ∧ SqT K H a (ns.map V.int) ∧ SqT K H b (ms.map V.int) ∧ Q (.bl (HT.lexLt ns ms)) H
/-- t + u, t not empty: u empty gives t itself -/
def rCatT (K : PySem.W.Frag) : R2 := fun x y H Q => ∃ a b xs ys, x = .ref a ∧ y = .ref b ∧ SqT K H a xs ∧ SqT K H b ys ∧ xs ≠ [] ∧ xs.length + ys.length ≤ sizeLine ∧
  (ys = [] → Q (.ref a) H) ∧ (ys ≠ [] → ∀ p, H p = none → Q (.ref p) (upd H p (.tup (xs ++ ys))))
end
end L2

namespace L2
open PySem PySem.Spec PyProof.Rows

/-! ### places -/
/-- the place that an index of any sign means -/
def ixN (n : Nat) (i : Int) : Option Nat := if 0 ≤ i then (if i < n then some i.toNat else none) else if -(n : Int) ≤ i then some (i + n).toNat else none
def atI {α : Type} (xs : List α) (i : Int) : Option α := (ixN xs.length i).bind fun j => xs[j]?
theorem ixN_seq {n : Nat} {i : Int} {j : Nat} (h : ixN n i = some j) : seqIndex? i n = some j ∧ j < n ∧ -(n : Int) ≤ i ∧ i < n := by
  unfold ixN at h
  by_cases h0 : 0 ≤ i
  · rw [if_pos h0] at h
    by_cases h1 : i < n
    · rw [if_pos h1] at h
      have e : i.toNat = j := Option.some.inj h
      exact ⟨by rw [seqIndex_of h0 h1, e], by omega, by omega, h1⟩
    · rw [if_neg h1] at h; cases h
  · rw [if_neg h0] at h
    by_cases h1 : -(n : Int) ≤ i
    · rw [if_pos h1] at h
      have e : (i + n).toNat = j := Option.some.inj h
      exact ⟨by rw [seqIndex_neg (by omega) h1, e], by omega, h1, by omega⟩
    · rw [if_neg h1] at h; cases h
theorem atI_get {α : Type} {xs : List α} {i : Int} {v : α} (h : atI xs i = some v) : ∃ j, seqIndex? i xs.length = some j ∧ xs[j]? = some v ∧ j < xs.length ∧ -(xs.length : Int) ≤ i ∧ i < xs.length := by
  unfold atI at h
  cases e : ixN xs.length i with
  | none => rw [e] at h; cases h
  | some j =>
    rw [e] at h
    obtain ⟨h1, h2, h3, h4⟩ := ixN_seq e
    exact ⟨j, h1, h, h2, h3, h4⟩
theorem atI_nat {α : Type} {xs : List α} {j : Nat} {v : α} (h : xs[j]? = some v) : atI xs (j : Int) = some v := by
  have hj : j < xs.length := (List.getElem?_eq_some_iff.mp h).1
  have e : ixN xs.length (j : Int) = some j := by
    unfold ixN
    rw [if_pos (by omega), if_pos (by omega)]; simp
  unfold atI; rw [e]; exact h
/-! ### what may be subscripted -/
/-- what stands as an index of a plain subscript -/
def PlainIx (b : Expr) : Prop := ∀ o i, subscripted b false o i = operate [o, i] (getItem o i)
/-- a subscript by values -/
def IxR (X : Cx) (r : R2) : Prop :=
  ∀ (value slice : Expr) (pins : List (Addr × Obj)) (s : Shared) (σ : St) (H : Hp) (x y : V) (v u : Value) (Q : VK), Inv X pins σ H s → RelV x v → RelV y u → r x y H Q →
    subscripted slice false v u = operate [v, u] (getItem v u) → wpAny (model X.prog X.w) X.A (subscriptTail value slice v u) (EP X pins σ Q) X.xe s
/-- a call of a builtin's method by values: the receiver, the arguments -/
def MtR (X : Cx) (id : String) (r : V → List V → Hp → VK → Prop) : Prop :=
  ∀ (pins : List (Addr × Obj)) (s : Shared) (σ : St) (H : Hp) (x : V) (xs : List V) (v : Value) (us : List Value) (Q : VK), Inv X pins σ H s → RelV x v → Vals xs us → r x xs H Q →
    wpAny (model X.prog X.w) X.A (call (.builtin id) (v :: us)) (EP X pins σ Q) X.xe s
section
variable {X : Cx} {a b : Expr} {ta tb : TE} {pos : Pos}
/-- a[b] -/
theorem pe_ix {r : R2} (hr : IxR X r) (ha : PE X a ta) (hb : PE X b tb) (hs : PlainIx b) : PE X (.Subscript a b pos) (tOp r ta tb) := by
  intro pins s σ H Q I h
  exact Subscript_ (binT ha hb I h fun v u s2 x y H2 I2 rx ry q => hr a b pins s2 σ H2 x y v u Q I2 rx ry q (hs _ _))

def rIxL (K : PySem.W.Frag) : R2 := fun x y H Q => ∃ p xs i v, x = .ref p ∧ y = .int i ∧ SqL K H p xs ∧ atI xs i = some v ∧ Q v H
def rIxT (K : PySem.W.Frag) : R2 := fun x y H Q => ∃ p xs i v, x = .ref p ∧ y = .int i ∧ SqT K H p xs ∧ atI xs i = some v ∧ Q v H
def rIxS : R2 := fun x y H Q => ∃ z i c, x = .str z ∧ y = .int i ∧ z.length ≤ sizeLine ∧ atI z.cps.toList i = some c ∧ Q (.str ⟨#[c]⟩) H
theorem ix_list : IxR X (rIxL X.K) := by
  intro value slice pins s σ H x y v u Q I rx ry h hs
  obtain ⟨p, xs, i, z, rfl, rfl, hq, he, q⟩ := h
  cases rx
  obtain ⟨t, rfl⟩ := ry
  obtain ⟨its, r, pl, hz⟩ := I.list hq
  obtain ⟨j, h1, h2, h3, h4, h5⟩ := atI_get he
  obtain ⟨w, ew, rw'⟩ := r.get h2
  have hl := r.length
  have hn := line63
  have fin : EP X pins σ Q w s := ⟨z, H, I, rw', q⟩
  by_cases h0 : 0 ≤ i
  · have hj : i.toNat = j := by
      rw [seqIndex_of h0 h5] at h1
      exact Option.some.inj h1
    exact item_listR pl.isList h0 (by omega) (by rw [hj]; simpa using ew) fin hs
  · have hj : (i + (its.toArray.size : Int)).toNat = j := by
      rw [seqIndex_neg (by omega) h4] at h1
      rw [List.size_toArray, ← hl]
      exact Option.some.inj h1
    exact subscriptTail_builtinR (x := w) pl.isList.typeIs slot_list_getitem.lookup
      (wpAny_getItem_list_neg (Q := fun r s' => r = w ∧ EP X pins σ Q r s') pl.isList (by omega) (by rw [List.size_toArray] <;> omega) (by omega) (by rw [hj]; simpa using ew) ⟨rfl, fin⟩) hs
theorem ix_tup : IxR X (rIxT X.K) := by
  intro value slice pins s σ H x y v u Q I rx ry h hs
  obtain ⟨p, xs, i, z, rfl, rfl, hq, he, q⟩ := h
  cases rx
  obtain ⟨t, rfl⟩ := ry
  obtain ⟨its, r, pl, hz⟩ := I.tuple hq
  obtain ⟨j, h1, h2, h3, h4, h5⟩ := atI_get he
  obtain ⟨w, ew, rw'⟩ := r.get h2
  have hl := r.length
  have hn := line63
  have fin : EP X pins σ Q w s := ⟨z, H, I, rw', q⟩
  exact subscriptTail_builtinR (x := w) pl.typeIs slot_tuple_getitem.lookup
    (getItem_tuple (j := j) (Q := fun r s' => r = w ∧ EP X pins σ Q r s') pl (by omega) (by omega) (by rw [List.size_toArray, ← hl]; exact h1) (by simpa using ew) ⟨rfl, fin⟩) hs
theorem ix_str : IxR X rIxS := by
  intro value slice pins s σ H x y v u Q I rx ry h hs
  obtain ⟨z, i, c, rfl, rfl, hz, he, q⟩ := h
  obtain ⟨t, rfl⟩ := rx
  obtain ⟨t', rfl⟩ := ry
  obtain ⟨j, h1, h2, h3, h4, h5⟩ := atI_get he
  have hl : z.cps.toList.length = z.length := by simp [Str.length]
  rw [hl] at h1 h4 h5
  have hn := line63
  exact tail_any (typeIs_str s z t) slot_str_getitem.lookup (getItem_str (c := c) (by
    have e1 : decide (i < -(2 ^ 63 : Int)) = false := decide_eq_false (by omega)
    have e2 : decide (i ≥ 2 ^ 63) = false := decide_eq_false (by omega)
    rw [e1, e2, Bool.or_false]) (by rw [h1]; simpa using h2) ⟨.str ⟨#[c]⟩, H, I.tok _, ⟨_, rfl⟩, q⟩) hs
/-- list, tuple or str -/
def rIx (K : PySem.W.Frag) : R2 := fun x y H Q => rIxL K x y H Q ∨ rIxT K x y H Q ∨ rIxS x y H Q
/-! ### xs[i] = v, any sign -/
/-- the list's object behind a store -/
theorem mapSeq_set (its : List Value) (n j : Nat) (u : Value) : Obj.mapSeq (·.setIfInBounds j u) { cls := .type "list", data := .seq its.toArray n } = { cls := .type "list", data := .seq (its.set j u).toArray n } := by
  simp [Obj.mapSeq]
theorem Inv.lst {pins : List (Addr × Obj)} {σ : St} {H : Hp} {s : Shared} {p : Addr} {xs : List V} (I : Inv X pins σ H s) (h : H p = some (.lst xs)) :
    ∃ (its : List Value) (n : Nat), Vals xs its ∧ s.heap.get? p = some { cls := .type "list", data := .seq its.toArray n } ∧ xs.length ≤ sizeLine := by
  obtain ⟨z, its, n, r, e⟩ := I.hok p _ h
  exact ⟨its, n, r, e, z⟩
/-- the list at p is written by an update of its object -/
theorem Inv.lstUpd {pins : List (Addr × Obj)} {σ : St} {H : Hp} {s : Shared} {p : Addr} {xs ys : List V} {its its' : List Value} {n n' : Nat} {f : Obj → Obj} (I : Inv X pins σ H s) (h : H p = some (.lst xs))
    (ho : s.heap.get? p = some { cls := .type "list", data := .seq its.toArray n }) (hf : f { cls := .type "list", data := .seq its.toArray n } = { cls := .type "list", data := .seq its'.toArray n' }) (r : Vals ys its') (hz : ys.length ≤ sizeLine) (t : Nat) :
    Inv X pins σ (upd H p (.lst ys)) { s with heap := s.heap.update p f, toks := t } := by
  have e : (s.heap.update p f).get? p = some { cls := .type "list", data := .seq its'.toArray n' } := by
    rw [Heap.get?_update_self f ho (by rw [hf] <;> rfl), hf]
  refine I.write (x := p) (e := p) (by rw [h]; trivial) (.inl rfl) (fun b u hb q => (Heap.get?_update_other _ _ (Ne.symm hb)).trans q) ⟨_, e⟩ ?_
  exact ⟨hz, its', n', r, e⟩
def rSetL : V → V → V → Hp → (Hp → Prop) → Prop := fun o i v H Q => ∃ p xs k j, o = .ref p ∧ i = .int k ∧ H p = some (.lst xs) ∧ ixN xs.length k = some j ∧ Q (upd H p (.lst (xs.set j v)))
theorem set_list : PSet X rSetL := by
  intro pins s σ H o i v ov iv u Q I ro ri rv h
  obtain ⟨p, xs, k, j, rfl, rfl, hp, hj, q⟩ := h
  cases ro
  obtain ⟨t, rfl⟩ := ri
  obtain ⟨its, n, r, ho, hz⟩ := I.lst hp
  obtain ⟨h1, h2, h3, h4⟩ := ixN_seq hj
  have hl := r.length
  have hn := line63
  have I' : Inv X pins σ (upd H p (.lst (xs.set j v))) { s with heap := s.heap.update p (Obj.mapSeq (·.setIfInBounds j u)) } :=
    I.lstUpd hp ho (mapSeq_set its n j u) (r.set rv j) (by rw [List.length_set]; exact hz) s.toks
  by_cases h0 : 0 ≤ k
  · have hk : k.toNat = j := by
      rw [seqIndex_of h0 h4] at h1
      exact Option.some.inj h1
    exact PySem.W.ki_setAt ho h0 (by omega) (by rw [List.size_toArray, ← hl]; exact h4) (by rw [hk]; exact ⟨_, I', q⟩)
  · have hk : (k + (its.toArray.size : Int)).toNat = j := by
      rw [seqIndex_neg (by omega) h3] at h1
      rw [List.size_toArray, ← hl]
      exact Option.some.inj h1
    exact PySem.W.ki_setBack ho (by omega) (by rw [List.size_toArray, ← hl]; exact h3) (by omega) (by rw [hk]; exact ⟨_, I', q⟩)

/-! ### slices -/
theorem slice_bounds (lo hi : Option Int) (n : Nat) : (sliceBounds lo hi none n).1 = ((HT.sIx n 0 lo : Nat) : Int) ∧ (sliceBounds lo hi none n).2.1 = ((HT.sIx n n hi : Nat) : Int) ∧ (sliceBounds lo hi none n).2.2 = 1 := by
  refine ⟨?_, ?_, rfl⟩
  · cases lo with
    | none => simp [sliceBounds, HT.sIx]
    | some i =>
      simp only [sliceBounds, HT.sIx, Option.getD_none, show (1 : Int) > 0 by decide, if_true]
      by_cases h : i < 0
      · simp only [h, if_true] <;> omega
      · simp only [h, if_false] <;> omega
  · cases hi with
    | none => simp [sliceBounds, HT.sIx]
    | some i =>
      simp only [sliceBounds, HT.sIx, Option.getD_none, show (1 : Int) > 0 by decide, if_true]
      by_cases h : i < 0
      · simp only [h, if_true] <;> omega
      · simp only [h, if_false] <;> omega
theorem slicePick_cut (its : List Value) (lo hi : Option Int) : slicePick its.toArray lo hi none = ((its.drop (HT.sIx its.length 0 lo)).take (HT.sIx its.length its.length hi - HT.sIx its.length 0 lo)).toArray := by
  obtain ⟨h1, h2, h3⟩ := slice_bounds lo hi its.toArray.size
  unfold slicePick
  rw [h1, h2, h3]
  simp only [sliceRange_one, pick_run, List.size_toArray] <;> rfl
/-- xs[lo:hi] of a list: a new list -/
def rSlL (K : PySem.W.Frag) : V → Option Int → Option Int → Hp → VK → Prop := fun x lo hi H Q => ∃ a xs, x = .ref a ∧ SqL K H a xs ∧ ∀ p, H p = none → Q (.ref p) (upd H p (.lst (cutV xs lo hi)))
theorem sl_list : SlR X (rSlL X.K) := by
  intro pins s σ H x v vl vu lo hi sl Q I rx hs pl pu h
  obtain ⟨a, xs, rfl, hx, q⟩ := h
  cases rx
  obtain ⟨its, r, ht, hz⟩ := I.list hx
  have hlen := r.length
  refine ⟨"list", _, slot_list_getitem.lookup, ht.isList.typeIs, ?_⟩
  refine wpAny_getItem_list_slice ht.isList hs pl pu .none (by simp) ?_ (by rw [List.size_toArray] <;> omega)
  rw [slicePick_cut, ← hlen]
  refine ⟨.ref s.heap.objs.size, _, I.laid (t' := s.toks) (o := .lst (cutV xs lo hi)) (fun b ob q => Heap.get?_push_of_some _ q) (Nat.le_refl _) ?_, rfl, q _ (I.hok.fresh (Nat.le_refl _))⟩
  exact ⟨Nat.le_trans (cutV_length xs lo hi) hz, _, 0, (r.drop (HT.sIx xs.length 0 lo)).take (HT.sIx xs.length xs.length hi - HT.sIx xs.length 0 lo), Heap.get?_push_size _ rfl⟩

/-! ### in, not in: flat items -/
def flatV : V → Bool
  | .non => true
  | .bl _ => true
  | .int _ => true
  | .str _ => true
  | _ => false
/-- == of flat values -/
def eqV : V → V → Bool
  | .non, .non => true
  | .bl a, .bl b => a == b
  | .bl a, .int b => (if a then 1 else 0) == b
  | .int a, .bl b => a == (if b then 1 else 0)
  | .int a, .int b => a == b
  | .str a, .str b => a == b
  | _, _ => false
theorem eqAt_V {A : Around} {s : Shared} {y x : V} {u v : Value} (ry : RelV y u) (rx : RelV x v) (fy : flatV y = true) (fx : flatV x = true) : SeqAt.EqAt A s u v (eqV y x) := by
  cases y with
  | non =>
    cases ry
    cases x with
    | non => cases rx; exact SeqAt.EqAt.same _
    | bl b => cases rx; exact SeqAt.EqAt.none_bool b
    | int b => obtain ⟨t, rfl⟩ := rx; exact SeqAt.EqAt.none_int b t
    | str b => obtain ⟨t, rfl⟩ := rx; exact SeqAt.EqAt.none_str b t
    | _ => exact absurd (show false = true from fx) Bool.false_ne_true
  | bl a =>
    cases ry
    cases x with
    | non => cases rx; exact SeqAt.EqAt.bool_none a
    | bl b => cases rx; exact SeqAt.EqAt.bool_bool a b
    | int b => obtain ⟨t, rfl⟩ := rx; exact SeqAt.EqAt.bool_int a b t
    | str b => obtain ⟨t, rfl⟩ := rx; exact SeqAt.EqAt.bool_str a b t
    | _ => exact absurd (show false = true from fx) Bool.false_ne_true
  | int a =>
    obtain ⟨t', rfl⟩ := ry
    cases x with
    | non => cases rx; exact SeqAt.EqAt.int_none a t'
    | bl b => cases rx; exact SeqAt.EqAt.int_bool a t' b
    | int b => obtain ⟨t, rfl⟩ := rx; exact SeqAt.EqAt.int_int a t' b t
    | str b => obtain ⟨t, rfl⟩ := rx; exact SeqAt.EqAt.int_str a t' b t
    | _ => exact absurd (show false = true from fx) Bool.false_ne_true
  | str a =>
    obtain ⟨t', rfl⟩ := ry
    cases x with
    | non => cases rx; exact SeqAt.EqAt.str_none a t'
    | bl b => cases rx; exact SeqAt.EqAt.str_bool a t' b
    | int b => obtain ⟨t, rfl⟩ := rx; exact SeqAt.EqAt.str_int a t' b t
    | str b => obtain ⟨t, rfl⟩ := rx; exact SeqAt.EqAt.str_str a t' b t
    | _ => exact absurd (show false = true from fx) Bool.false_ne_true
  | _ => exact absurd (show false = true from fy) Bool.false_ne_true
/-- the items' answers, read off the values (a value's own answer does not lean on its token) -/
def eqU (x : V) (u : Value) : Bool := match u with
  | .none => eqV .non x
  | .bool b => eqV (.bl b) x
  | .int i _ => eqV (.int i) x
  | .str z _ => eqV (.str z) x
  | _ => false
theorem eqU_of {x y : V} {u : Value} (r : RelV y u) (f : flatV y = true) : eqU x u = eqV y x := by
  cases y with
  | non => cases r; rfl
  | bl b => cases r; rfl
  | int i => obtain ⟨t, rfl⟩ := r; rfl
  | str z => obtain ⟨t, rfl⟩ := r; rfl
  | _ => exact absurd (show false = true from f) Bool.false_ne_true
theorem any_eqU {x : V} : ∀ {xs : List V} {us : List Value}, Vals xs us → xs.all flatV = true → us.any (eqU x) = xs.any fun y => eqV y x
  | _, _, .nil, _ => rfl
  | y :: xs, u :: us, .cons r t, f => by
    rw [List.all_cons, Bool.and_eq_true] at f
    rw [List.any_cons, List.any_cons, eqU_of r f.1, any_eqU t f.2]
theorem mem_eqAt {A : Around} {s : Shared} {x : V} {v : Value} (rx : RelV x v) (fx : flatV x = true) : ∀ {xs : List V} {us : List Value}, Vals xs us → xs.all flatV = true → ∀ u ∈ us, SeqAt.EqAt A s u v (eqU x u)
  | _, _, .nil, _ => fun u hu => by cases hu
  | y :: xs, u :: us, .cons r t, f => fun u' hu => by
    rw [List.all_cons, Bool.and_eq_true] at f
    rcases List.mem_cons.mp hu with rfl | hu
    · rw [eqU_of r f.1]; exact eqAt_V r rx f.1 fx
    · exact mem_eqAt rx fx t f.2 u' hu
def inV (x : V) (xs : List V) : Bool := xs.any fun y => eqV y x
/-- x in a list or tuple of flat items -/
def rIn (K : PySem.W.Frag) (neg : Bool) : R2 := fun x y H Q => ∃ p xs, y = .ref p ∧ (SqL K H p xs ∨ SqT K H p xs) ∧ flatV x = true ∧ xs.all flatV = true ∧ Q (.bl (if neg then !inV x xs else inV x xs)) H
theorem op_in_seq : OpR X (compareOp .In) (rIn X.K false) := by
  intro pins s σ H x y v u Q I rx ry h
  obtain ⟨p, xs, rfl, hq, fx, fs, q⟩ := h
  cases ry
  rcases hq with hq | hq
  · obtain ⟨its, r, pl, hz⟩ := I.list hq
    refine SeqAt.in_listAt (eqU x) pl.isList (fun w hw => mem_eqAt rx fx r fs w (by simpa using hw)) ⟨.bl _, H, I, rfl, ?_⟩
    rw [show its.toArray.any (eqU x) = its.any (eqU x) by simp, any_eqU r fs]
    exact q
  · obtain ⟨its, r, pl, hz⟩ := I.tuple hq
    refine SeqAt.in_tupleAt (eqU x) pl (fun w hw => mem_eqAt rx fx r fs w (by simpa using hw)) ⟨.bl _, H, I, rfl, ?_⟩
    rw [show its.toArray.any (eqU x) = its.any (eqU x) by simp, any_eqU r fs]
    exact q
theorem op_notIn_seq : OpR X (compareOp .NotIn) (rIn X.K true) := by
  intro pins s σ H x y v u Q I rx ry h
  obtain ⟨p, xs, rfl, hq, fx, fs, q⟩ := h
  cases ry
  rcases hq with hq | hq
  · obtain ⟨its, r, pl, hz⟩ := I.list hq
    refine SeqAt.notIn_listAt (eqU x) pl.isList (fun w hw => mem_eqAt rx fx r fs w (by simpa using hw)) ⟨.bl _, H, I, rfl, ?_⟩
    rw [show its.toArray.any (eqU x) = its.any (eqU x) by simp, any_eqU r fs]
    exact q
  · obtain ⟨its, r, pl, hz⟩ := I.tuple hq
    refine SeqAt.notIn_tupleAt (eqU x) pl (fun w hw => mem_eqAt rx fx r fs w (by simpa using hw)) ⟨.bl _, H, I, rfl, ?_⟩
    rw [show its.toArray.any (eqU x) = its.any (eqU x) by simp, any_eqU r fs]
    exact q
/-! ### len, list(x), tuple(x) of any list or tuple that is read -/
theorem call_len_seq : CallR X (.builtin "len") (fun xs H Q => ∃ p ys, xs = [.ref p] ∧ (SqL X.K H p ys ∨ SqT X.K H p ys) ∧ Q (.int ys.length) H) := by
  intro pins s σ H xs us Q I r h
  obtain ⟨p, ys, rfl, hq, q⟩ := h
  obtain ⟨u, rfl, rx⟩ := vals1 r
  cases rx
  have hn := line63
  rcases hq with hq | hq
  · obtain ⟨its, r', pl, hz⟩ := I.list hq
    have hlen := r'.length
    exact Calls.call_len_list pl.isList (by simp only [List.size_toArray] <;> omega) ⟨.int ys.length, H, I.tok _, ⟨s.toks + 1, by rw [List.size_toArray, hlen]⟩, q⟩
  · obtain ⟨its, r', pl, hz⟩ := I.tuple hq
    have hlen := r'.length
    exact len_tuple pl (by simp only [List.size_toArray] <;> omega) ⟨.int ys.length, H, I.tok _, ⟨s.toks + 1, by rw [List.size_toArray, hlen]⟩, q⟩
theorem call_len_str : CallR X (.builtin "len") (fun xs H Q => ∃ z, xs = [.str z] ∧ z.length ≤ sizeLine ∧ Q (.int z.length) H) := by
  intro pins s σ H xs us Q I r h
  obtain ⟨z, rfl, hz, q⟩ := h
  obtain ⟨u, rfl, t, rfl⟩ := vals1 r
  have hn := line63
  exact len_str (by omega) ⟨.int z.length, H, I.tok _, ⟨_, rfl⟩, q⟩
theorem call_list_of : CallR X (.type "list") (fun xs H Q => ∃ p ys, xs = [.ref p] ∧ (SqL X.K H p ys ∨ SqT X.K H p ys) ∧ ∀ l, H l = none → Q (.ref l) (upd H l (.lst ys))) := by
  intro pins s σ H xs us Q I r h
  obtain ⟨p, ys, rfl, hq, q⟩ := h
  obtain ⟨u, rfl, rx⟩ := vals1 r
  cases rx
  have fin : ∀ (its : List Value), Vals ys its → ys.length ≤ sizeLine → ∀ (h' : Heap) (c' : Nat), (∀ b o', s.heap.get? b = some o' → h'.get? b = some o') →
      h'.get? s.heap.objs.size = some { cls := .type "list", dict := none, data := .seq its.toArray c', slots := #[] } → EP X pins σ Q (.ref s.heap.objs.size) { s with heap := h' } := fun its r' hz h' c' kp e =>
    ⟨.ref s.heap.objs.size, _, I.laid (t' := s.toks) kp (Nat.le_refl _) (show ObjOk X.prog X.w _ h' _ (.lst ys) from ⟨hz, its, c', r', e⟩), rfl, q _ (I.hok.fresh (Nat.le_refl _))⟩
  rcases hq with hq | hq
  · obtain ⟨its, r', pl, hz⟩ := I.list hq
    have hlen := r'.length
    obtain ⟨o, ho, hc, n, hd⟩ := pl.isList
    exact call_list_seq p (.inl rfl) ho hc hd (fun h' c' kp e => fin its r' hz h' c' kp e) (by simp only [List.size_toArray] <;> omega)
  · obtain ⟨its, r', pl, hz⟩ := I.tuple hq
    have hlen := r'.length
    obtain ⟨o, ho, hc, n, hd⟩ := pl
    exact call_list_seq p (.inr rfl) ho hc hd (fun h' c' kp e => fin its r' hz h' c' kp e) (by simp only [List.size_toArray] <;> omega)
/-! ### the call of a builtin's method: o.m(..) -/
/-- the value is of that builtin type -/
def tyV (K : PySem.W.Frag) (T : String) (x : V) (H : Hp) : Prop := match x with
  | .str _ => T = "str"
  | .int _ => T = "int"
  | .ref p => (T = "list" ∧ ∃ xs, SqL K H p xs) ∨ (T = "tuple" ∧ ∃ o, K.lookup p = some o ∧ o.cls = .type "tuple" ∧ o.dict = none) ∨
      (T = "dict" ∧ ((∃ kvs, H p = some (.dK kvs)) ∨ ∃ kvs, H p = some (.dT kvs))) ∨ (T = "set" ∧ ∃ S n, H p = some (.set S n))
  | _ => False
theorem tyV_is {pins : List (Addr × Obj)} {σ : St} {H : Hp} {s : Shared} {T : String} {x : V} {v : Value} (I : Inv X pins σ H s) (r : RelV x v) (ty : tyV X.K T x H) :
    s.TypeIs v T ∧ ∀ a, v = .ref a → ∃ ob, s.heap.get? a = some ob ∧ ob.dict = none := by
  cases x with
  | str z =>
    obtain ⟨t, rfl⟩ := r
    cases (show T = "str" from ty)
    exact ⟨typeIs_str s z t, fun _ e => nomatch e⟩
  | int i =>
    obtain ⟨t, rfl⟩ := r
    cases (show T = "int" from ty)
    exact ⟨typeIs_int s i t, fun _ e => nomatch e⟩
  | ref p =>
    cases r
    rcases ty with ⟨rfl, xs, hq⟩ | ⟨rfl, o, hk, hc, hd⟩ | ⟨rfl, hk⟩ | ⟨rfl, S, n, hk⟩
    · obtain ⟨its, _, pl, _⟩ := I.list hq
      refine ⟨pl.isList.typeIs, fun a e => ?_⟩
      cases e
      obtain ⟨o, n, e, c, hd, _⟩ := pl
      exact ⟨o, e, hd⟩
    · refine ⟨⟨o, I.kIn p o hk, hc⟩, fun a e => ?_⟩
      cases e
      exact ⟨o, I.kIn _ o hk, hd⟩
    · have z : ∃ o, s.heap.get? p = some o ∧ o.ExactDict := by
        rcases hk with ⟨kvs, hk⟩ | ⟨kvs, hk⟩
        · obtain ⟨_, _, _, _, o, _, _, e, ex, _⟩ := I.hok p _ hk
          exact ⟨o, e, ex⟩
        · obtain ⟨_, _, _, _, o, _, _, e, ex, _⟩ := I.hok p _ hk
          exact ⟨o, e, ex⟩
      obtain ⟨o, e, ex⟩ := z
      refine ⟨⟨o, e, ex.1⟩, fun a e2 => ?_⟩
      cases e2
      exact ⟨o, e, ex.2.1⟩
    · obtain ⟨o, _, _, _, e, ex, _⟩ := I.hok p _ hk
      refine ⟨⟨o, e, ex.1⟩, fun a e2 => ?_⟩
      cases e2
      exact ⟨o, e, ex.2.1⟩
  | _ => exact False.elim ty
def tBM0 (K : PySem.W.Frag) (T : String) (r : V → List V → Hp → VK → Prop) (to : TE) : TE := fun σ H Q => to σ H fun x H1 => tyV K T x H1 ∧ r x [] H1 Q
def tBM (K : PySem.W.Frag) (T : String) (r : V → List V → Hp → VK → Prop) (to : TE) (t : TA) : TE := fun σ H Q => to σ H fun x H1 => tyV K T x H1 ∧ t σ H1 fun xs H2 => r x xs H2 Q
variable {o e : Expr} {es : List Expr} {to : TE} {t : TA} {name : Str} {apos cpos : Pos} {T id : String} {r : V → List V → Hp → VK → Prop}
theorem pe_bm (pa : PlainAttrs T) (slot : Slot T name id) (hty : typeOf (.builtin id) = pure (.type "method_descriptor")) (hm : MtR X id r) (ho : PE X o to) (ha : PA X (e :: es) t)
    (hbase : attributeBase o name X.env (eval o X.env) = eval o X.env := by rfl)
    (hfew : ((backTo cpos (starEach (e :: es) X.env)).all (fun x => !x.1) && (backToKw cpos (keywordEach [] X.env)).all (fun x => x.1.isSome)
      && decide ((e :: es).length + ([] : List Keyword).length + (if ([] : List Keyword).isEmpty then 0 else 1) < 30)) = true := by rfl)
    (hline : (apos.endLine == cpos.line) = true := by rfl) (hs : starEach (e :: es) X.env = (false, eval e X.env) :: starEach es X.env := by rfl) (hplain : (backTo cpos (starEach es X.env)).any (·.1) = false := by rfl) :
    PE X (.Call (.Attribute o name apos) (e :: es) [] cpos) (tBM X.K T r to t) := by
  intro pins s σ H Q I h
  refine wpAny_Call_method_late hbase hfew hline rfl (thn (ho pins s σ H _ I h) fun v s1 ⟨x, H1, I1, r1, ty, q1⟩ => ?_)
  obtain ⟨h1, h2⟩ := tyV_is I1 r1 ty
  refine ⟨T, id, pa, slot, hty, h1, h2, ?_⟩
  have hA := ha cpos pins s1 σ H1 _ I1 q1
  rw [hs] at hA ⊢
  refine Calls.callWith_builtin (by show (false || (backTo cpos (starEach es X.env)).any (·.1)) = false; rw [hplain] <;> rfl) (Calls.evalArgs_plain ?_)
  exact thn hA fun us s2 ⟨vs, H2, I2, r2, q2⟩ => hm pins s2 σ H2 x vs v us Q I2 r1 r2 q2
/- xs.append(e), list.index on a module's tuple .. are MtR facts of 06m -/
end
end L2

namespace L2
open PySem PySem.Spec PyProof.Rows

def MtM (X : Cx) (id : String) (r : V → List V → Hp → VK → Prop) : Prop :=
  ∀ (pins : List (Addr × Obj)) (s : Shared) (σ : St) (H : Hp) (x : V) (xs : List V) (v : Value) (us : List Value) (Q : VK), Inv X pins σ H s → RelV x v → Vals xs us → r x xs H Q →
    wpAny (model X.prog X.w) X.A (call (.builtin id) (v :: us)) (EP X pins σ Q) X.xe s

/-! ### lists of values -/
theorem Vals.one : ∀ {x : V} {us : List Value}, Vals [x] us → ∃ u, us = [u] ∧ RelV x u
  | _, _, .cons r .nil => ⟨_, rfl, r⟩
theorem Vals.two : ∀ {x y : V} {us : List Value}, Vals [x, y] us → ∃ u v, us = [u, v] ∧ RelV x u ∧ RelV y v
  | _, _, _, .cons r (.cons q .nil) => ⟨_, _, rfl, r, q⟩
theorem Vals.eraseIdx : ∀ {xs : List V} {us : List Value} (i : Nat), Vals xs us → Vals (xs.eraseIdx i) (us.eraseIdx i)
  | _, _, _, .nil => .nil
  | _, _, 0, .cons _ t => t
  | _, _, i + 1, .cons r t => .cons r (Vals.eraseIdx i t)
theorem len_erase {α : Type} : ∀ (l : List α) (i : Nat), (l.eraseIdx i).length ≤ l.length
  | [], _ => Nat.le_refl _
  | _ :: _, 0 => Nat.le_succ _
  | _ :: r, i + 1 => Nat.succ_le_succ (len_erase r i)
section
variable {X : Cx} {pins : List (Addr × Obj)} {σ : St} {H : Hp} {s : Shared} {l b : Addr} {xs ys zs : List V}

/-! ### the two steps: a tracked list is rewritten, a new list is laid -/
theorem Inv.lset {its its' : List Value} {n : Nat} {f : Array Value → Array Value} {t' : Nat} (I : Inv X pins σ H s) (hH : H l = some (.lst xs))
    (e : s.heap.get? l = some { cls := .type "list", data := .seq its.toArray n }) (hf : f its.toArray = its'.toArray) (hv : Vals ys its') (hz : ys.length ≤ sizeLine) :
    Inv X pins σ (upd H l (.lst ys)) { s with heap := s.heap.update l (Obj.mapSeq f), toks := t' } := by
  have q := PySem.IsL.update e f
  rw [hf] at q
  refine I.write (x := l) (e := l) (by rw [hH]; exact trivial) (.inl rfl) (fun b' u hb hu => (Heap.get?_update_other s.heap (Obj.mapSeq f) (Ne.symm hb)).trans hu) ⟨_, q⟩ ?_
  exact ⟨hz, its', _, hv, q⟩
theorem Inv.lnew {its : List Value} {t' : Nat} (I : Inv X pins σ H s) (hv : Vals ys its) (hz : ys.length ≤ sizeLine) :
    Inv X pins σ (upd H s.heap.objs.size (.lst ys)) { s with heap := s.heap.push { cls := .type "list", data := .seq its.toArray }, toks := t' } :=
  I.laid (fun _ _ q => Heap.get?_push_of_some _ q) (Nat.le_refl _) ⟨hz, its, 0, hv, Heap.get?_push_size _ rfl⟩
theorem Inv.fresh (I : Inv X pins σ H s) : H s.heap.objs.size = none := I.hok.fresh (Nat.le_refl _)
theorem Inv.lstM (I : Inv X pins σ H s) (hH : H l = some (.lst xs)) : xs.length ≤ sizeLine ∧ ∃ (its : List Value) (n : Nat), Vals xs its ∧ xs.length = its.length ∧ s.heap.get? l = some { cls := .type "list", data := .seq its.toArray n } := by
  obtain ⟨z, its, n, r, e⟩ := I.hok l _ hH
  exact ⟨z, its, n, r, r.length, e⟩

end

section
variable {X : Cx}

/-! ### methods -/
def rAppend : V → List V → Hp → VK → Prop := fun x vs H Q => ∃ l xs y, x = .ref l ∧ vs = [y] ∧ H l = some (.lst xs) ∧ xs.length < sizeLine ∧ Q .non (upd H l (.lst (xs ++ [y])))
theorem mt_append : MtM X "list.append" rAppend := by
  intro pins s σ H x vs v us Q I rx rv h
  obtain ⟨l, xs, y, rfl, rfl, hH, hz, q⟩ := h
  cases rx
  obtain ⟨u, rfl, ru⟩ := rv.one
  obtain ⟨z, its, n, r, hl, e⟩ := I.lstM hH
  refine call_meets F.slot_list_append ⟨_, e, rfl⟩ F.entry_list_append (F.args_list_append_2 _ _) (PySem.list_append l its.toArray n u (by rw [List.size_toArray]; omega)) ⟨e, ?_⟩
  refine ⟨.non, _, I.lset (its' := its ++ [u]) hH e (by simp) (r.append (.cons ru .nil)) ?_, rfl, q⟩
  rw [List.length_append, List.length_singleton]
  omega

def rExtend : V → List V → Hp → VK → Prop := fun x vs H Q => ∃ l b xs zs, x = .ref l ∧ vs = [.ref b] ∧ H l = some (.lst xs) ∧ H b = some (.lst zs) ∧ xs.length + zs.length ≤ sizeLine ∧ Q .non (upd H l (.lst (xs ++ zs)))
def rPop : V → List V → Hp → VK → Prop := fun x vs H Q => ∃ l xs y, x = .ref l ∧ vs = [] ∧ H l = some (.lst xs) ∧ xs[xs.length - 1]? = some y ∧ Q y (upd H l (.lst xs.dropLast))
def rPopAt : V → List V → Hp → VK → Prop := fun x vs H Q => ∃ l xs i k y, x = .ref l ∧ vs = [.int i] ∧ H l = some (.lst xs) ∧ -(2 ^ 63) ≤ i ∧ i < 2 ^ 63 ∧ seqIndex? i xs.length = some k ∧ xs[k]? = some y ∧ Q y (upd H l (.lst (xs.eraseIdx k)))
def rReverse : V → List V → Hp → VK → Prop := fun x vs H Q => ∃ l xs, x = .ref l ∧ vs = [] ∧ H l = some (.lst xs) ∧ Q .non (upd H l (.lst xs.reverse))
def rClear : V → List V → Hp → VK → Prop := fun x vs H Q => ∃ l xs, x = .ref l ∧ vs = [] ∧ H l = some (.lst xs) ∧ Q .non (upd H l (.lst []))
/-! ### list + list, list += list, list * int -/
def rCat : R2 := fun x y H Q => ∃ l b xs zs, x = .ref l ∧ y = .ref b ∧ H l = some (.lst xs) ∧ H b = some (.lst zs) ∧ xs.length + zs.length ≤ sizeLine ∧ ∀ p, H p = none → Q (.ref p) (upd H p (.lst (xs ++ zs)))
theorem op_cat : OpR X (binaryOp .Add) rCat := by
  intro pins s σ H x y v u Q I rx ry h
  obtain ⟨l, b, xs, zs, rfl, rfl, hH, hB, hz, q⟩ := h
  cases rx
  cases ry
  obtain ⟨z, its, n, r, hl, e⟩ := I.lstM hH
  obtain ⟨z2, its2, n2, r2, hl2, e2⟩ := I.lstM hB
  refine PySem.P.add_list e e2 ?_ (by rw [List.size_toArray, List.size_toArray]; omega)
  have ea : its.toArray ++ its2.toArray = (its ++ its2).toArray := by simp
  rw [ea]
  exact ⟨.ref _, _, I.lnew (t' := s.toks) (r.append r2) (by rw [List.length_append]; omega), rfl, q _ I.fresh⟩
/-- a list times an int (a negative one is nothing) -/
def rRep : R2 := fun x y H Q => ∃ l k xs, x = .ref l ∧ y = .int k ∧ H l = some (.lst xs) ∧ -(2 ^ 63) ≤ k ∧ k < 2 ^ 63 ∧ xs.length * k.toNat ≤ sizeLine ∧
  ∀ p, H p = none → Q (.ref p) (upd H p (.lst (List.replicate k.toNat xs).flatten))
/-! ### del xs[i] -/
end

/-! ### xs[a:b] = ys -/
section
variable {prog : Program} {w : World} {A : Around} {E : Value → Shared → Prop} {s : Shared}
end

section
variable {X : Cx}
end
end L2

namespace Att
open PySem PySem.W PySem.Calls PyProof.Rows

/-! ### the script -/
theorem ints_of_wellAll {P : Params} {h : Heap} : ∀ (ns : List Int) (vs : List Value), WellAll P h vs (ns.map WData.int) → IntsAre vs ns := by
  intro ns
  induction ns with
  | nil =>
    intro vs w
    rw [List.map_nil] at w
    cases w
    exact .nil
  | cons n ns ih =>
    intro vs w
    rw [List.map_cons] at w
    cases w with
    | cons a b =>
      cases a
      exact .cons _ _ (ih _ b)

theorem script_of {l : OpenLaw} {n : Nat} (hn : l.most = some n) {P : Params} {h : Heap} {args : List WData} {vals : List Value}
    (hpre : l.row.toRowW.claim.pre args = true) (hwl : WellAll P h vals args) :
    ∃ a vs ns, vals = [Value.ref a] ∧ args = [WData.list (ns.map WData.int)] ∧ h.get? a = some { cls := .type "list", data := .seq vs.toArray } ∧ IntsAre vs ns ∧ ns.length ≤ n := by
  have hsh : WShape.hasAll [] args [.list .int] = true := (pre_splitW hpre).1
  have hc : l.pre.holds [] { args := args } = true := (pre_splitW hpre).2
  obtain ⟨d, r, rfl, h1, h2⟩ := hasAllW_cons hsh
  obtain rfl := hasAllW_nil h2
  obtain ⟨xs, rfl, h3⟩ := hasW_list h1
  obtain ⟨ns, rfl⟩ := items_int h3
  have hlen : ns.length ≤ n := by
    unfold OpenLaw.pre at hc
    have h4 : (WTm.not (.lt (.lit (.int (n : Int))) (.len (.arg 0)))).holds [] { args := [.list (ns.map .int)] } = true := by
      have h4 := (holds_andW hc).1
      rw [hn] at h4
      exact h4
    have h5 := condW_of h4 (w_not (w_lt w_lit (w_len_list (w_arg rfl))))
    rw [List.length_map] at h5
    refine Nat.le_of_not_lt fun q => ?_
    have q' : (n : Int) < ((ns.length : Nat) : Int) := by omega
    first
      | (rw [decide_eq_true q'] at h5; exact absurd h5 (by decide))
      | (simp at h5; omega)
  cases hwl with
  | cons w1 w2 =>
    cases w2
    cases w1 with
    | list ho hall => exact ⟨_, _, ns, rfl, rfl, ho, ints_of_wellAll ns _ hall, hlen⟩

theorem post_true (l : OpenLaw) (args : List WData) : l.row.toRowW.claim.post args (.bool true) args = true :=
  postW_of (r := l.row.toRowW) (X := (true == true))
    (show WShape.has [] (.bool true) .bool = true by first | rfl | decide | simp [WShape.has, WShape.arms, WShape.armsAll])
    (show (WTm.eq .res (.lit (.bool true))).value [] { args := args, res := some (.bool true), after := args } = some (.bool (true == true)) from w_eq_bool (w_res rfl) w_lit) rfl

/-! ### the attachment: holds_open's last premise (the goal 'hc' behind k_head) from a wpAny of the law's body -/
/-- the same from a codeAny of the CALL (for a layer whose function contracts speak of calls) -/
theorem attach_call {l : OpenLaw} {n : Nat} {q : Program} {loose : List Str} {XP : (Str → Option Value) → Heap → Prop} {YP : World → Heap → Prop} {d : DefRec}
    (hn : l.most = some n) (hdf : d.params.defaults = [])
    (call : ∀ (w : World) (s₀ s₁ : Shared) (mg mb : Str → Option Value) (fa : Addr) (o : Obj) (pm cd doc : Value) (a : Addr) (vs : List Value) (ns : List Int),
      Ground q loose [] XP w s₀ mg mb s₁.heap → YP w s₁.heap →
      s₁.heap.get? fa = some o → o.data = .func (docDef d.name d.params d.body d.scope pm cd doc) → s₁.heap.CodeRec cd d.name → mg d.name = some (.ref fa) →
      s₁.heap.get? a = some { cls := .type "list", data := .seq vs.toArray } → IntsAre vs ns → ns.length ≤ n → s₁.gens = #[] →
      codeAny (model l.prog w) callerA (.call (.ref fa) ⟨[.ref a], []⟩) (fun r s' => r = .ok (.ret (.bool true)) ∧ OldK s₁.heap s'.heap ∧ s'.os = s₁.os ∧ AllBare s'.gens) s₁) :
    WalkO q loose XP YP l.row.toRowW d [] (fun f vs => PySem.call f vs) := by
  intro w s₀ s₁ mg mb G Y fa o pm cd doc dV kV ho hd hcd hD hmg hg args vals as hpre hlay hrd hwl hlo
  obtain rfl : dV = .none := Dflts.none hD hdf
  obtain rfl : kV = .none := Dflts.noKw hD
  obtain ⟨a, vs, ns, rfl, rfl, hobj, hints, hlen⟩ := script_of hn hpre hwl
  refine enter_call (codeAny_mono (call w s₀ s₁ mg mb fa o pm cd doc a vs ns G Y ho (fd_plain hd) hcd hmg hobj hints hlen hg) fun r s' hq => ?_)
  obtain ⟨rfl, h2, h3, h4⟩ := hq
  exact ⟨.inl ⟨.bool true, .bool true, [], rfl, fun _ => rfl, .bool true, post_true l _, fun _ => ⟨List.Pairwise.nil, fun _ hm => (nomatch hm)⟩⟩, h2, h3, h4⟩

/-! ### rules over ANY heap (no ledger) from facts about the written part K: the library's own take a ledger (News) for what they write -/
section
variable {prog : Program} {w : World} {A : Around} {E : Value → Shared → Prop} {s : Shared} {K : Frag}

/-! the whole heap as the ledger: makes every rule that writes through a ledger a rule over any heap -/
def noObjs (h : Heap) : Heap := { h with objs := #[] }
def ledger (h : Heap) (L d : Addr) : List (Addr × Obj) := (List.range h.objs.size).filterMap fun a => if a = L ∨ a = d then none else (h.get? a).map fun o => (a, o)
end
end Att

namespace L2
open PySem PySem.Spec PyProof.Rows

theorem vals_ints : ∀ {vs : List Value} {ns : List Int}, IntsAre vs ns → Vals (ns.map V.int) vs
  | _, _, .nil => .nil
  | _, _, .cons n t h => .cons ⟨t, rfl⟩ (vals_ints h)

/-- nothing is tracked but the script, known to the object (or it is an object of the module) -/
def Only (H : Hp) : Prop := ∀ b, H b = none ∨ ∃ o xs, H b = some (.frz o (.lst xs))

/-- THE HEAD: the law's promise, at the heap behind the top. F, the promise of the law's def, may use that base is part of the heap (so K.In base, base.Ns mainGlobals mg stand in Mod) -/
theorem law_call {P : Program} {w : World} {K : PySem.W.Frag} {mg mb : Str → Option Value} {CX : CXT} {k : Nat} {fa a : Addr} {fd : FuncData} {x : Str} {sp : Sp} {s₁ : Shared} {vs : List Value} {ns : List Int}
    (KX : K.In s₁.heap) (hns : s₁.heap.Ns mainGlobals mg) (hb : s₁.heap.Ns builtinsNs mb) (hbb : ∀ x : Str, x ≠ "__name__" → mb x = bootBuiltins x) (hlim : s₁.heap.NoLimit) (hg : s₁.gens = #[])
    (ha : s₁.heap.get? a = some { cls := .type "list", data := .seq vs.toArray }) (hi : IntsAre vs ns) (hl : ns.length ≤ sizeLine) (hr : Room k callerA)
    (F : ∀ base : Heap, K.In base → base.Ns mainGlobals mg → FnOk P w K mg base CX k fa fd [x] sp) (hbind : ∀ (s : Shared) (u : Value), BindsTo s fd ⟨[u], []⟩ [(x, u)])
    (hsp : ∀ H : Hp, Only H → SqL K H a (ns.map V.int) → sp [.ref a] H (fun v _ => v = .bl true) fun _ _ _ => False)
    (hCX : ∀ H e s', CX [] H s₁ (fun _ _ _ => False) e s' → False) :
    codeAny (model P w) callerA (.call (.ref fa) ⟨[.ref a], []⟩) (fun r s' => r = .ok (.ret (.bool true)) ∧ OldK s₁.heap s'.heap ∧ s'.os = s₁.os ∧ AllBare s'.gens) s₁ := by
  have rv := vals_ints hi
  have lenV := hi.length
  -- from an abstract heap in which nothing but the script may be tracked
  have core : ∀ H : Hp, Only H → SqL K H a (ns.map V.int) → HOk P w H s₁.heap → (∀ b, H b ≠ none → b = a) → (H a ≠ none → K.lookup a = none) →
      codeAny (model P w) callerA (.call (.ref fa) ⟨[.ref a], []⟩) (fun r s' => r = .ok (.ret (.bool true)) ∧ OldK s₁.heap s'.heap ∧ s'.os = s₁.os ∧ AllBare s'.gens) s₁ := by
    intro H hO hS hok hA hK
    have base_of : ∀ {b : Addr} {o : Obj}, s₁.heap.get? b = some o → H b = none → (hidT s₁.heap H).get? b = some o := fun e n => hidT_get e n
    have noA : ∀ {b : Addr} {o : Obj} {es : Array DictEntry} {ep : Nat}, s₁.heap.get? b = some o → o.data = .dict es ep → H b = none := fun {b o es ep} e d => by
      cases q : H b with
      | none => rfl
      | some u =>
        have e' : b = a := hA b (by rw [q]; simp)
        subst e'
        rw [ha] at e; cases e
        have d' : Data.seq vs.toArray _ = Data.dict es ep := d
        cases d'
    have nsK : ∀ {b : Addr} {m : Str → Option Value}, s₁.heap.Ns b m → (hidT s₁.heap H).Ns b m := fun {b m} ⟨o, es, ep, e, d, r⟩ => ⟨o, es, ep, base_of e (noA e d), d, r⟩
    have hKb : K.In (hidT s₁.heap H) := fun b o e => base_of (KX b o e) (by
      cases q : H b with
      | none => rfl
      | some u =>
        have e' : b = a := hA b (by rw [q]; simp)
        subst e'
        rw [hK (by rw [q]; simp)] at e; cases e)
    have hM : Mod K mg (hidT s₁.heap H) := ⟨hKb, nsK hns, ⟨mb, nsK hb, hbb⟩, let ⟨mc, h1, h2⟩ := hlim; ⟨mc, nsK h1, h2⟩⟩
    have e0 : Env0 P w K mg (hidT s₁.heap H) callerA [] s₁ H := ⟨rfl, hM, fun b o e => of_hidT e, Nat.le_of_eq (hidT_size _ _), trivial, fun b hb => absurd (show b ∈ ([] : List Addr) from hb) (by simp), hok, .of_eq hg⟩
    refine codeAny_mono ((F _ hKb (nsK hns)).run callerA [] s₁ H ⟨[.ref a], []⟩ [.ref a] [.ref a] _ _ hr e0 (hbind s₁ (.ref a)) (.cons rfl .nil) (hsp H hO hS)) fun r s' h => ?_
    cases r with
    | error e => exact (hCX H e s' h).elim
    | ok fl =>
      cases fl with
      | next => exact False.elim h
      | brk => exact False.elim h
      | cont => exact False.elim h
      | ret u =>
        obtain ⟨v, H', os, bare, un, hok', r', q⟩ := h
        have q' : v = .bl true := q
        subst q'
        obtain rfl : u = Value.bool true := r'
        refine ⟨rfl, OldK.of_keep fun b o e => ?_, os, bare⟩
        cases q : H b with
        | none => exact un.keep b o e q (by intro z; exact absurd (show b ∈ ([] : List Addr) from z) (by simp)) (by simp)
        | some u =>
          rcases hO b with z | ⟨ob, xs, z⟩
          · rw [q] at z; cases z
          · have z2 := un.frzs b ob _ z
            obtain ⟨e1, _⟩ := hok b _ z
            obtain ⟨e2, _⟩ := hok' b _ z2
            rw [e] at e1; cases e1
            exact e2
  cases hk : K.lookup a with
  | some o =>
    -- the script is one of the module's own objects
    have e := KX a o hk
    rw [ha] at e
    cases e
    refine core (fun _ => none) (fun _ => .inl rfl) (.inr ⟨_, vs.toArray, _, hk, rfl, rfl, rfl, by rw [List.size_toArray, lenV]; exact hl, by simpa using rv⟩) (fun b u z => by have z' : (none : Option HO) = some u := z; cases z') (fun b z => absurd rfl z) fun z => absurd rfl z
  | none =>
    refine core (fun b => if b = a then some (.frz { cls := .type "list", data := .seq vs.toArray } (.lst (ns.map V.int))) else none) (fun b => ?_) (.inl (.inr ⟨{ cls := .type "list", data := .seq vs.toArray }, if_pos rfl⟩)) (fun b u z => ?_) (fun b z => ?_) fun _ => hk
    · by_cases hb : b = a
      · exact .inr ⟨_, _, if_pos hb⟩
      · exact .inl (if_neg hb)
    · by_cases hb : b = a
      · have z' := (if_pos hb).symm.trans z
        cases z'
        subst hb
        exact ⟨ha, by rw [List.length_map]; exact hl, vs, _, rv, ha⟩
      · have z' := (if_neg hb).symm.trans z
        cases z'
    · by_cases hb : b = a
      · exact hb
      · exact absurd (if_neg hb) z
end L2

namespace L2
open PySem PySem.Spec PyProof.Rows

abbrev KOf {K : PySem.W.Frag} {h : Heap} (_ : K.In h) : PySem.W.Frag := K

/-- the goal that k_head leaves (case hc), from the law's promise. F gives the function object fd (K's own) once, then the promise over every base -/
theorem walk_of {l : PySem.W.OpenLaw} {n k : Nat} {q : Program} {loose : List Str} {XP : (Str → Option Value) → Heap → Prop} {YP : World → Heap → Prop} {d : DefRec} {K : Params → PySem.W.Frag} {CX : World → CXT} {sp : World → Sp} {x : Str}
    (hn : l.most = some n) (hn2 : n ≤ sizeLine) (hdf : d.params.defaults = []) (hr : Room k callerA)
    (hY : ∀ (w : World) (h : Heap), YP w h → (K w.params).In h)
    (F : ∀ (w : World) (mg : Str → Option Value) (fa : Addr) (h : Heap), (K w.params).In h → h.Ns mainGlobals mg → mg d.name = some (.ref fa) →
      ∃ fd : FuncData, (∀ (s : Shared) (u : Value), BindsTo s fd ⟨[u], []⟩ [(x, u)]) ∧
        ∀ base : Heap, (K w.params).In base → base.Ns mainGlobals mg → FnOk l.prog w (K w.params) mg base (CX w) k fa fd [x] (sp w))
    (hsp : ∀ (w : World) (H : Hp) (a : Addr) (ns : List Int), ns.length ≤ n → Only H → SqL (K w.params) H a (ns.map V.int) → sp w [.ref a] H (fun v _ => v = .bl true) fun _ _ _ => False)
    (hCX : ∀ (w : World) (H : Hp) (s : Shared) (e : Value) (s' : Shared), CX w [] H s (fun _ _ _ => False) e s' → False) :
    PySem.W.WalkO q loose XP YP l.row.toRowW d [] (fun f vs => PySem.call f vs) := by
  refine Att.attach_call hn hdf fun w s₀ s₁ mg mb fa o pm cd doc a vs ns G Y ho hd hcd hmg hobj hints hlen hg => ?_
  have KX := hY w _ Y
  obtain ⟨fd, hb, hF⟩ := F w mg fa _ KX G.T.g hmg
  exact law_call KX G.T.g G.T.b G.T.builtins G.T.nolimit hg hobj hints (Nat.le_trans hlen hn2) hr hF hb (fun H hO hS => hsp w H a ns hlen hO hS) fun H e s' => hCX w H s₁ e s'
/-- the same where the promise hangs on the written part alone: (sp := My.sp_law), no hole under a binder -/
theorem walk_ofK {l : PySem.W.OpenLaw} {n k : Nat} {q : Program} {loose : List Str} {XP : (Str → Option Value) → Heap → Prop} {YP : World → Heap → Prop} {d : DefRec} {K : Params → PySem.W.Frag} {CX : CXT} {sp : PySem.W.Frag → Sp} {x : Str}
    (hn : l.most = some n) (hn2 : n ≤ sizeLine) (hdf : d.params.defaults = []) (hr : Room k callerA)
    (hY : ∀ (w : World) (h : Heap), YP w h → (K w.params).In h)
    (F : ∀ (w : World) (mg : Str → Option Value) (fa : Addr) (h : Heap), (K w.params).In h → h.Ns mainGlobals mg → mg d.name = some (.ref fa) →
      ∃ fd : FuncData, (∀ (s : Shared) (u : Value), BindsTo s fd ⟨[u], []⟩ [(x, u)]) ∧
        ∀ base : Heap, (K w.params).In base → base.Ns mainGlobals mg → FnOk l.prog w (K w.params) mg base CX k fa fd [x] (sp (K w.params)))
    (hsp : ∀ (K : PySem.W.Frag) (H : Hp) (a : Addr) (ns : List Int), ns.length ≤ n → Only H → SqL K H a (ns.map V.int) → sp K [.ref a] H (fun v _ => v = .bl true) fun _ _ _ => False)
    (hCX : ∀ (H : Hp) (s : Shared) (e : Value) (s' : Shared), CX [] H s (fun _ _ _ => False) e s' → False) :
    PySem.W.WalkO q loose XP YP l.row.toRowW d [] (fun f vs => PySem.call f vs) :=
  walk_of (K := K) (CX := fun _ => CX) (sp := fun w => sp (K w.params)) hn hn2 hdf hr hY F (fun w H a ns h1 h2 h3 => hsp (K w.params) H a ns h1 h2 h3) fun _ H s e s' => hCX H s e s'
end L2

/- THE LAST THEOREM (shape; LID, My.* are yours):
   My.Adr: a structure of the addresses that your layer names (classes, functions); My.Txt K t: a structure (Prop) of the equations over K;
   My.txt_mk : {K} {implicit addresses ..} (e1 : nsIn K mainGlobals "law" = some (some (.ref f))) (e2 : K.lookup f = some ⟨oc, od, .func (fnOf "law" "law" params body scope dV kV doc pm an cdv ct), sl⟩) (e3 : codeIn K cdv "law" = true) .. : ∃ t, My.Txt K t

set_option maxRecDepth 100000 in
set_option maxHeartbeats 0 in
theorem PySem.Challenge.cw_LID_holds : PySem.Challenge.rw_LID.Holds := by
  w_on; o_law; k_head; (case hw => w_witness2)
  k_fill
  refine L2.walk_of (l := PySem.Challenge.rw_LID) (n := 63) (k := 40) (x := "script") (CX := fun w => ..) (sp := fun _ => My.sp_law) rfl (by decide) rfl ⟨rfl, by decide, by decide⟩ (fun w h Y => PySem.W.kIn_of Y) ?F ?S ?C
  case F =>
    intro w mg fa h KX G hmg
    have T : ∃ t, My.Txt (L2.KOf KX) t := by
      dsimp only [L2.KOf]                          -- K must stand as «<heap const> w.params» for k_is
      refine' My.txt_mk ?e1 ?e2 ?e3 ..
      (case e1 => PySem.W.k_is)                    -- in the order: a name -> its address -> its object -> its parts
      (case e2 => PySem.W.k_is)
      ..
    obtain ⟨t, T⟩ := T
    have e0 := hmg.symm.trans (PySem.W.mg_of KX G T.law)
    cases e0                                       -- fa is the law's own address
    exact ⟨_, fun s u => .of_eq rfl, fun base kb nb => My.law_fn T kb nb⟩     -- if «.of_eq rfl» comes too early: refine' ⟨_, ?b, fun base kb nb => My.law_fn T kb nb⟩; exact fun s u => .of_eq rfl
  case S => exact fun w H a ns hl hO hS => ..
  case C => exact ..
(the tactic k_is has no namespace: write k_is) -/

/-! SHORT WORDS over the layer: a def of the text, its body, what a loop and a test want. -/
namespace L2
open PySem PySem.Spec PyProof.Rows

/-! ### the text by places -/
/-- the j-th statement of a class's body -/
def inClass (s : Stmt) (j : Nat) : Stmt := match s with
  | .ClassDef _ _ _ body _ _ _ _ _ _ _ => body.getD j (.Pass ⟨0, 0, 0, 0⟩)
  | _ => .Pass ⟨0, 0, 0, 0⟩
def defArgs (s : Stmt) : Arguments := match s with
  | .FunctionDef _ a _ _ _ _ _ _ _ _ => a
  | _ => { posonlyargs := [], args := [], vararg := none, kwonlyargs := [], kw_defaults := [], kwarg := none, defaults := [] }
def defBody (s : Stmt) : List Stmt := match s with
  | .FunctionDef _ _ b _ _ _ _ _ _ _ => b
  | _ => []
def defScope (s : Stmt) : Scope := match s with
  | .FunctionDef _ _ _ _ _ _ sc _ _ _ => sc
  | _ => { kind := .function, names := [], isGenerator := false, isCoroutine := false }

/-! ### no exception leaves a def -/
abbrev CX0 : CXT := fun _ _ _ _ _ _ => False
abbrev E0 : XK := fun _ _ _ => False
theorem pass0 {X : Cx} : Passes CX0 X E0 := fun _ _ _ _ _ _ _ h => h.elim

/-! ### a def (or method) of the text as it stands behind the top -/
structure Fun (K : PySem.W.Frag) (x qual : Str) (st : Stmt) (f : Addr) (fd : FuncData) : Prop where
  ex : ∃ (oc : Value) (od : Option Addr) (kV doc pm : Value) (an : Option Addr) (cdv ct : Value) (osl : Array (Option Value)),
    fd = PySem.W.fnOf x qual (defArgs st) (defBody st) (defScope st) .none kV doc pm an cdv ct ∧ K.lookup f = some ⟨oc, od, .func fd, osl⟩ ∧ PySem.W.codeIn K cdv qual = true
  kp : PySem.W.keepIn K (.ref f) = true
section
variable {P : Program} {w : World} {K : PySem.W.Frag} {mg : Str → Option Value} {base : Heap}
/-- THE RULE for a def: its body as a term of rules, and the reading of that term -/
theorem Fun.ok {x qual : Str} {st : Stmt} {f : Addr} {fd : FuncData} {N ps : List Str} {k : Nat} {sp : Sp} (F : Fun K x qual st f fd) (S : FnScope N ps (defScope st)) (len : ∀ vs H Q E, sp vs H Q E → vs.length = ps.length)
    (hbody : ∀ (cdv : Value) (A : Around) (outer : List Env) (s : Shared) (H : Hp) (vs : List V) (Q : VK) (E : XK), Room k (A.deeper (envOfC qual (defScope st) s.heap.objs.size f cdv)) → sp vs H Q E →
      ∃ t, PSs (cxOf CX0 P w K mg base N qual (defScope st) f cdv A outer s H E).nox (defBody st) t ∧ t { nx := fun _ H' => Q .non H', rt := Q } (start N vs) H) : FnOk P w K mg base CX0 (k + 1) f fd ps sp := by
  obtain ⟨oc, od, kV, doc, pm, an, cdv, ct, osl, rfl, lk, hcd⟩ := F.ex
  refine fn_of lk hcd S len fun A outer s H vs Q E hr hsp => ?_
  obtain ⟨t, h, q⟩ := hbody cdv A outer s H vs Q E hr hsp
  exact ⟨t, h.nox, q⟩
/-- how its arguments bind (no defaults): h is «fun _ _ _ _ _ _ us hl => match us, hl with | [_, _], _ => rfl», one _ a parameter -/
theorem Fun.binds {x qual : Str} {st : Stmt} {f : Addr} {fd : FuncData} {ps : List Str} (F : Fun K x qual st f fd)
    (h : ∀ (kV doc pm : Value) (an : Option Addr) (cdv ct : Value) (us : List Value), us.length = ps.length → bindArgs (PySem.W.fnOf x qual (defArgs st) (defBody st) (defScope st) .none kV doc pm an cdv ct) ⟨us, []⟩ = pure (ps.zip us)) : Binds K fd ps [] := by
  obtain ⟨oc, od, kV, doc, pm, an, cdv, ct, osl, rfl, lk, hcd⟩ := F.ex
  exact .all (h kV doc pm an cdv ct)
theorem fun_mk {x qual : Str} {st : Stmt} {f : Addr} {oc : Value} {od an : Option Addr} {osl : Array (Option Value)} {kV doc pm cdv ct : Value} (l : K.lookup f = some ⟨oc, od, .func (PySem.W.fnOf x qual (defArgs st) (defBody st) (defScope st) .none kV doc pm an cdv ct), osl⟩)
    (c : PySem.W.codeIn K cdv qual = true) (k : PySem.W.keepIn K (.ref f) = true) : Fun K x qual st f (PySem.W.fnOf x qual (defArgs st) (defBody st) (defScope st) .none kV doc pm an cdv ct) := ⟨⟨oc, od, kV, doc, pm, an, cdv, ct, osl, rfl, l, c⟩, k⟩
end
theorem hu_of {A : Around} {k : Nat} (hr : Room k A) : A.units + 1 < cLine := Nat.lt_of_le_of_lt (Nat.add_le_add_left (by decide : 1 ≤ 64) _) hr.units
theorem small1000 {n : Nat} (h : n ≤ 1000) : n < sizeLine := Nat.lt_of_le_of_lt h (by decide)

/-! ### expressions in short: the name that stands in the i-th slot -/
section
variable {X : Cx}
theorem pv (i : Nat) {x : Str} {pos : Pos} (hN : X.N[i]? = some x := by rfl) (hv : Vis X.env.scope x := by first | exact Or.inl rfl | exact Or.inr (Or.inl rfl) | exact Or.inr (Or.inr rfl)) (hd : (x == ("__debug__" : Str)) = false := by decide)
    (hcd : (x == ("__classdict__" : Str)) = false := by decide) : PE X (.Name x pos) (tVar i) := pe_var hN hv hd hcd
end

/-! ### tests -/
theorem iteF {A B : Prop} (h : B) : if false = true then A else B := by
  rw [if_neg Bool.false_ne_true]
  exact h
theorem iteT {A B : Prop} (h : A) : if true = true then A else B := by
  rw [if_pos rfl]
  exact h
theorem iteNS {c A B : Prop} [Decidable c] (hc : c) (h : B) : if (!decide c) = true then A else B := by
  rw [decide_eq_true hc]
  exact iteF h

/-! ### heaps -/
/-- all that was tracked is as it was -/
def Same (H H' : Hp) : Prop := ∀ b o, H b = some o → H' b = some o
theorem Same.refl (H : Hp) : Same H H := fun _ _ h => h
theorem Same.trans {H H1 H2 : Hp} (a : Same H H1) (b : Same H1 H2) : Same H H2 := fun c o h => b c o (a c o h)
theorem Same.free {H H' : Hp} (e : Same H H') {l : Addr} (h : H' l = Option.none) : H l = Option.none := by
  cases q : H l with
  | none => rfl
  | some o =>
    rw [e l o q] at h
    cases h
theorem Same.seq {K : PySem.W.Frag} {H H' : Hp} {a : Addr} {xs : List V} (e : Same H H') (h : SqL K H a xs) : SqL K H' a xs := by
  rcases h with (h | ⟨o, h⟩) | h
  · exact .inl (.inl (e _ _ h))
  · exact .inl (.inr ⟨o, e _ _ h⟩)
  · exact .inr h

end L2

set_option Elab.async false
set_option linter.all false
set_option maxRecDepth 100000
namespace L2
open PySem PySem.Spec PyProof.Rows

/-! ### list comprehensions: one clause, a name as its target, at most one test; no exception leaves it -/
theorem closure_is {scope : Scope} {env : Env} (h : ∀ y ∈ scope.names, y.2 = .free → ∃ c, env.cells.lookup y.1 = some c) :
    ∃ cl, closureFor scope env = pure cl ∧ (∀ x c, cl.lookup x = some c → env.cells.lookup x = some c ∧ (x, NameKind.free) ∈ scope.names) ∧
      ∀ x, (x, NameKind.free) ∈ scope.names → cl.lookup x = env.cells.lookup x := by
  have key : ∀ (l : List (Str × NameKind)) (cs : List (Str × Addr)), (∀ y ∈ l, y.2 = .free → ∃ c, env.cells.lookup y.1 = some c) →
      ∃ cl, (forIn l cs (fun (x : Str × NameKind) (cs : List (Str × Addr)) => do
          if x.2 == .free then
            let c ← cellOf env x.1
            pure (ForInStep.yield ((x.1, c) :: cs))
          else pure (ForInStep.yield cs)) : Sem (List (Str × Addr))) = pure cl ∧
        (∀ x c, cl.lookup x = some c → (env.cells.lookup x = some c ∧ (x, NameKind.free) ∈ l) ∨ cs.lookup x = some c) ∧
        ∀ x, ((x, NameKind.free) ∈ l → cl.lookup x = env.cells.lookup x) ∧ ((cs.lookup x = env.cells.lookup x) → cl.lookup x = env.cells.lookup x) := by
    intro l
    induction l with
    | nil => intro cs _; exact ⟨cs, rfl, fun x c e => .inr e, fun x => ⟨fun z => absurd z (by simp), fun z => z⟩⟩
    | cons y r ih =>
      intro cs hl
      obtain ⟨n, k⟩ := y
      by_cases hk : k = .free
      · subst hk
        obtain ⟨c, hc⟩ := hl (n, .free) List.mem_cons_self rfl
        obtain ⟨cl, e1, e2, e3⟩ := ih ((n, c) :: cs) fun y hy => hl y (List.mem_cons_of_mem _ hy)
        refine ⟨cl, ?_, fun x d e => ?_, fun x => ⟨fun z => ?_, fun z => ?_⟩⟩
        · rw [List.forIn_cons]
          simp only [beq_self_eq_true, if_true, cellOf, hc]
          exact e1
        · rcases e2 x d e with ⟨z1, z2⟩ | z
          · exact .inl ⟨z1, List.mem_cons_of_mem _ z2⟩
          · rw [List.lookup_cons] at z
            by_cases hx : x == n
            · rw [hx] at z
              have hx' : x = n := by simpa using hx
              subst hx'
              refine .inl ⟨?_, List.mem_cons_self⟩
              rw [hc]; exact z
            · have hx' : (x == n) = false := by simpa using hx
              rw [hx'] at z
              exact .inr z
        · rcases List.mem_cons.mp z with z | z
          · injection z with z1 _
            subst z1
            refine (e3 x).2 ?_
            rw [List.lookup_cons, hc]
            simp
          · exact (e3 x).1 z
        · by_cases hx : x = n
          · subst hx
            refine (e3 x).2 ?_
            rw [List.lookup_cons, hc]
            simp
          · refine (e3 x).2 ?_
            rw [List.lookup_cons]
            have hx' : (x == n) = false := by simpa using hx
            rw [hx']
            exact z
      · obtain ⟨cl, e1, e2, e3⟩ := ih cs fun y hy => hl y (List.mem_cons_of_mem _ hy)
        have hb : (k == NameKind.free) = false := by simpa using hk
        refine ⟨cl, ?_, fun x d e => ?_, fun x => ⟨fun z => ?_, (e3 x).2⟩⟩
        · rw [List.forIn_cons]
          simp only [hb, Bool.false_eq_true, if_false]
          exact e1
        · rcases e2 x d e with ⟨z1, z2⟩ | z
          · exact .inl ⟨z1, List.mem_cons_of_mem _ z2⟩
          · exact .inr z
        · rcases List.mem_cons.mp z with z | z
          · injection z with _ z2
            exact absurd z2.symm hk
          · exact (e3 x).1 z
  obtain ⟨cl, e1, e2, e3⟩ := key scope.names [] h
  refine ⟨cl, ?_, fun x c e => ?_, fun x z => (e3 x).1 z⟩
  · unfold closureFor
    have := e1
    simpa using this
  · rcases e2 x c e with z | z
    · exact z
    · simp at z

theorem lookup_relabel {env : Env} (hk : env.scope.kind = .function) : ∀ {names : List (Str × NameKind)} {x : Str} {k : NameKind}, names.lookup x = some k → k ≠ .free →
    (names.map fun (n, k) => if (k == NameKind.free && env.scope.kind == .function && env.kindOf n == some .cell) then (n, NameKind.cell) else (n, k)).lookup x = some k
  | [], _, _, h, _ => by simp at h
  | (n, k') :: r, x, k, h, hf => by
    have ih := @lookup_relabel env hk r x k
    show List.lookup x ((if (k' == NameKind.free && env.scope.kind == .function && env.kindOf n == some .cell) = true then (n, NameKind.cell) else (n, k')) :: _) = _
    cases hx : x == n with
    | true =>
      simp only [List.lookup_cons, hx] at h
      cases h
      have : (k' == NameKind.free) = false := by simpa using hf
      simp [List.lookup_cons, hx, this]
    | false =>
      simp only [List.lookup_cons, hx] at h
      by_cases hc : (k' == NameKind.free && env.scope.kind == .function && env.kindOf n == some .cell) = true
      · rw [if_pos hc]; simp only [List.lookup_cons, hx]; exact ih h hf
      · rw [if_neg hc]; simp only [List.lookup_cons, hx]; exact ih h hf
theorem lookup_relabel_free {env : Env} (hk : env.scope.kind = .function) : ∀ {names : List (Str × NameKind)} {x : Str}, names.lookup x = some .free → env.kindOf x = some .cell →
    (names.map fun (n, k) => if (k == NameKind.free && env.scope.kind == .function && env.kindOf n == some .cell) then (n, NameKind.cell) else (n, k)).lookup x = some .cell
  | [], _, h, _ => by simp at h
  | (n, k') :: r, x, h, hc => by
    have ih := @lookup_relabel_free env hk r x
    show List.lookup x ((if (k' == NameKind.free && env.scope.kind == .function && env.kindOf n == some .cell) = true then (n, NameKind.cell) else (n, k')) :: _) = _
    cases hx : x == n with
    | true =>
      simp only [List.lookup_cons, hx] at h
      cases h
      have hxn : x = n := by simpa using hx
      subst hxn
      simp [List.lookup_cons, hk, hc]
    | false =>
      simp only [List.lookup_cons, hx] at h
      by_cases hd : (k' == NameKind.free && env.scope.kind == .function && env.kindOf n == some .cell) = true
      · rw [if_pos hd]; simp only [List.lookup_cons, hx]; exact ih h hc
      · rw [if_neg hd]; simp only [List.lookup_cons, hx]; exact ih h hc

/-- the context of a comprehension's block; Nc: its own name, then the names it takes from around it -/
def cxComp (X : Cx) (Nc : List Str) (scope : Scope) (cl : List (Str × Addr)) (C : Addr) (fp : List Addr) (s : Shared) (H : Hp) : Cx where
  prog := X.prog
  w := X.w
  K := X.K
  mg := X.mg
  base := X.base
  A := X.A
  N := Nc
  s₀ := s
  H₀ := H
  env := compEnvC scope cl C X.env
  outer := X.stack
  stack := X.stack
  ex := fp
  fn := fun _ => false
  calm := X.calm
  pn := []
  xe := fun _ _ => False

/-- the slots of the names that are taken from around: their values -/
def capV (σ : St) (caps : List Nat) : St := caps.map fun j => (σ[j]?).join

structure CompOk (X : Cx) (x : Str) (Nc : List Str) (caps : List Nat) (scope : Scope) : Prop where
  kind : scope.kind = .function
  cell : ∀ y ∈ scope.names, y.2 ≠ .cell
  names : ∀ y ∈ scope.names, y.2 = .local → scope.names.lookup y.1 = some .local
  fr : ∀ y ∈ scope.names, y.2 = .free → X.env.scope.names.lookup y.1 = some .cell ∧ scope.names.lookup y.1 = some .free
  loc : scope.names.lookup x = some .local
  len : Nc.length = caps.length + 1
  hd : Nc[0]? = some x
  nd : Nc.Nodup
  cap : ∀ k j, caps[k]? = some j → ∃ y, Nc[k + 1]? = some y ∧ X.N[j]? = some y ∧ scope.names.lookup y = some .free

theorem compLoop_any {prog : Program} {w : World} {A : Around} {R : Result → Shared → Prop} {s : Shared} {elt target iter : Expr} {ifs : List Expr} {scope : Scope} {pos : Pos} {it acc : Value} {env : Env} (I : Nat → Shared → Prop)
    (turn : ∀ n s, I n s → wpAny (model prog w) A (pyNext it) (fun r s₁ => match r with
      | none => R (.ok .next) s₁
      | some v => wpAny (model prog w) A (letOwnedTupleGo target it v) (fun _ s1' => wpAny (model prog w) A (assign target env v) (fun _ s₂ =>
          wpAny (model prog w) A (forIn ifs true fun c r => if r = true then do let ok ← isTrue c env (eval c env); pure (ForInStep.yield ok) else pure (ForInStep.yield r)) (fun ok s₃ =>
            if ok = true then wpAny (model prog w) A (eval elt env) (fun x s₄ =>
              wpAny (model prog w) A (call (.builtin "list.append") [acc, x]) (fun _ s₅ => ∃ m, m < n ∧ I m s₅) (notedBy (model prog w) A env fun e s' => R (.error e) s') s₄) (notedBy (model prog w) A env fun e s' => R (.error e) s') s₃
            else ∃ m, m < n ∧ I m s₃) (notedBy (model prog w) A env fun e s' => R (.error e) s') s₂) (notedBy (model prog w) A env fun e s' => R (.error e) s') s1') (notedBy (model prog w) A env fun e s' => R (.error e) s') s₁) (notedBy (model prog w) A env fun e s' => R (.error e) s') s)
    (n : Nat) (h : I n s) :
    codeAny (model prog w) A (.compLoop (.ListComp elt [⟨target, iter, ifs, 0⟩] scope pos) 0 it acc env) R s := by
  refine codeAny_loop rfl I (fun n s hI => ?_) n h
  show wpAny _ A ((compTurn (.ListComp elt [⟨target, iter, ifs, 0⟩] scope pos) 0 it acc env).onRaise (fun x => do noteFrame x env; theTreesLotGoes x)) _ _ s
  refine wpAny_noted ?_
  rw [compTurn_list]
  refine wpAny_bind (wpAny_standAt (wpAny_bind (wpAny_mono (turn n s hI) (fun r s₁ h₁ => ?_) fun _ _ h' => h')))
  cases r with
  | none => exact wpAny_pure h₁
  | some v =>
    refine wpAny_bind (wpAny_mono h₁ (fun _ s1' h₁ => ?_) fun _ _ h' => h')
    refine wpAny_bind (wpAny_mono h₁ (fun _ s₂ h₂ => wpAny_bind (wpAny_mono h₂ (fun ok s₃ h₃ => ?_) fun _ _ h' => h')) fun _ _ h' => h')
    cases ok with
    | false => exact wpAny_pure ⟨rfl, h₃⟩
    | true =>
      exact wpAny_bind (wpAny_bind (wpAny_mono h₃ (fun x s₄ h₄ => wpAny_bind (wpAny_mono h₄ (fun _ s₅ h₅ => wpAny_pure (wpAny_pure ⟨rfl, h₅⟩)) fun _ _ h' => h')) fun _ _ h' => h'))

/-- the test, where there is one -/
def tNoTest : TT := fun _ H Q => Q true H
inductive PIf (X : Cx) : List Expr → TT → Prop where
  | nil : PIf X [] tNoTest
  | one {c : Expr} {t : TT} (h : PT X c t) : PIf X [c] t
theorem PIf.run {X : Cx} {ifs : List Expr} {t : TT} (h : PIf X ifs t) {pins : List (Addr × Obj)} {s : Shared} {σ : St} {H : Hp} {Q : Bool → Hp → Prop} (I : Inv X pins σ H s) (ht : t σ H Q) :
    wpAny (model X.prog X.w) X.A (forIn ifs true fun c r => if r = true then do let ok ← isTrue c X.env (eval c X.env); pure (ForInStep.yield ok) else pure (ForInStep.yield r)) (TP X pins σ Q) X.xe s := by
  cases h with
  | nil => exact wpAny_tests_nil ⟨H, I, ht⟩
  | one h => exact wpAny_tests_one (h pins s σ H Q I ht)

/-- the reading: W by the turn, a measure, what is made so far -/
def tCompW (caps : List Nat) (tc : TT) (te : TE) (J : It) (σ : St) (H : Hp) (Q : VK) : Prop :=
  ∃ W : Nat → Nat → List V → Hp → Prop, (∃ m, W 0 m [] H) ∧ ∀ i m ys H, W i m ys H →
    (J.stop i H ∧ ys.length ≤ sizeLine ∧ ∀ p, H p = none → Q (.ref p) (upd H p (.lst ys))) ∨
    (J.go i H ∧ ys.length < sizeLine ∧ ∀ x H', J.yld i H x H' → tc (some x :: capV σ caps) H' fun b H2 =>
      if b = true then te (some x :: capV σ caps) H2 fun y H3 => ∃ m', m' < m ∧ W (i + 1) m' (ys ++ [y]) H3 else ∃ m', m' < m ∧ W (i + 1) m' ys H2)
def tComp (wi : TI) (caps : List Nat) (tc : TT) (te : TE) : TE := fun σ H Q => wi σ H fun J H1 => tCompW caps tc te J σ H1 Q

section
variable {X : Cx} {pins : List (Addr × Obj)} {σ : St} {H : Hp} {s : Shared}

theorem Un.track {fs ex : List Addr} {H H' : Hp} {h h' : Heap} {a : Addr} {o : HO} (u : Un fs ex H H' h h') (ha : h.objs.size ≤ a) (hn : H' a = none) : Un fs ex H (upd H' a o) h h' where
  keep := u.keep
  slot := u.slot
  free := fun b ob q n hx => by rw [upd_ne (Nat.ne_of_lt (Nat.lt_of_lt_of_le (Heap.lt_size q) ha))]; exact u.free b ob q n hx
  there := u.there
  tups := fun b xs q => by rw [upd_ne (ne_of_none (u.tups b xs q) hn)]; exact u.tups b xs q
  frzs := fun b ob xs q => by rw [upd_ne (ne_of_none (u.frzs b ob xs q) hn)]; exact u.frzs b ob xs q
  tbls := fun b ps q => by
    obtain ⟨m, e⟩ := u.tbls b ps q
    exact ⟨m, by rw [upd_ne (ne_of_none e hn)]; exact e⟩
theorem HOk.track {P : Program} {w : World} {H : Hp} {h : Heap} {a : Addr} {o : HO} (x : HOk P w H h) (hn : H a = none) (new : ObjOk P w (upd H a o) h a o) : HOk P w (upd H a o) h := fun b u e => by
  by_cases hb : b = a
  · subst hb; rw [upd_same] at e; cases e; exact new
  · rw [upd_ne hb] at e
    exact (x b u e).stay (fun c v _ q => q) (fun c q => by rw [upd_ne (ne_of_none q hn)]; exact q) fun c xs q => by rw [upd_ne (ne_of_none q hn)]; exact q

/-- the block's context is good -/
theorem comp_ok {x : Str} {Nc : List Str} {caps : List Nat} {scope : Scope} {cl : List (Str × Addr)} {C : Addr} {fp : List Addr} (I : Inv X pins σ H s) (O : CompOk X x Nc caps scope)
    (hcl : ∀ x c, cl.lookup x = some c → X.env.cells.lookup x = some c ∧ (x, NameKind.free) ∈ scope.names) (hcl2 : ∀ x, (x, NameKind.free) ∈ scope.names → cl.lookup x = X.env.cells.lookup x)
    (hC : s.heap.objs.size ≤ C) (hfp : ∀ b ∈ fp, FpOk X pins H b) (hfo : ∀ b ∈ fp, b < s.heap.objs.size) : (cxComp X Nc scope cl C fp s H).Ok where
  mod := I.ok.mod
  kind := O.kind
  glob := I.ok.glob
  blt := I.ok.blt
  above := hC
  inj := fun a b c e1 e2 => I.ok.inj a b c (hcl a c e1).1 (hcl b c e2).1
  has := fun y hy => by
    have mem : (y, NameKind.free) ∈ scope.names := by
      have hy' : ((relabel scope X.env).names.lookup y = some .cell) ∨ ((relabel scope X.env).names.lookup y = some .free) := hy
      have hm : ∃ k, (y, k) ∈ (relabel scope X.env).names ∧ (k = .cell ∨ k = .free) := by
        rcases hy' with h | h
        · exact ⟨_, PySem.mem_of_lookup h, .inl rfl⟩
        · exact ⟨_, PySem.mem_of_lookup h, .inr rfl⟩
      obtain ⟨k, hm, hk⟩ := hm
      obtain ⟨⟨n, k'⟩, hm', e⟩ := List.mem_map.mp hm
      dsimp only at e
      by_cases hc : (k' == NameKind.free && X.env.scope.kind == .function && X.env.kindOf n == some .cell) = true
      · rw [if_pos hc] at e
        injection e with e1 _
        subst e1
        have : k' = .free := by
          have := (Bool.and_eq_true _ _ ▸ (Bool.and_eq_true _ _ ▸ hc).1).1
          simpa using this
        subst this
        exact hm'
      · rw [if_neg hc] at e
        injection e with e1 e2
        subst e1 e2
        rcases hk with hk | hk
        · subst hk; exact absurd rfl (O.cell _ hm')
        · subst hk; exact hm'
    obtain ⟨c, e⟩ := I.ok.has y (.inl (O.fr _ mem rfl).1)
    exact ⟨c, (hcl2 y mem).trans e⟩
  cab := fun _ _ z => nomatch z
  hd := I.ok.hd
  frames := I.ok.frames
  stk := .inl rfl
  exf := fun b hb => ⟨Nat.ne_of_lt (Nat.lt_of_lt_of_le (hfo b hb) hC), fun y c e => (hfp b hb).2.2.2.2.1 y c (hcl y c e).1⟩
  bs := I.bs
  bsz := Nat.le_trans I.ok.bsz I.sz
  noex := fun b o e hb => by
    rcases (hfp b hb).2.2.2.1 with z | z
    · exact I.ok.noex b o e z
    · exact absurd (Nat.lt_of_lt_of_le (Heap.lt_size e) (Nat.le_trans I.ok.bsz z)) (Nat.lt_irrefl _)
  exfs := fun b hb z => by
    rcases List.mem_cons.mp (I.stkSub b z) with e | e
    · exact (hfp b hb).2.1 e
    · exact (hfp b hb).2.2.1 e
  funs := I.stack
  frf := I.stkFree
end
end L2

set_option Elab.async false
set_option linter.all false
set_option maxRecDepth 100000
namespace L2
open PySem PySem.Spec PyProof.Rows
section
variable {X : Cx} {pins : List (Addr × Obj)} {σ : St} {H : Hp} {s : Shared}

theorem capV_len (σ : St) (caps : List Nat) : (capV σ caps).length = caps.length := by unfold capV; rw [List.length_map]
theorem capV_get {σ : St} {caps : List Nat} {k : Nat} {v : V} (e : (capV σ caps)[k]? = some (some v)) : ∃ j, caps[k]? = some j ∧ σ[j]? = some (some v) := by
  unfold capV at e
  rw [List.getElem?_map] at e
  cases hk : caps[k]? with
  | none => rw [hk] at e; cases e
  | some j =>
    rw [hk] at e
    have e' : (σ[j]?).join = some v := Option.some.inj e
    refine ⟨j, rfl, ?_⟩
    cases hj : σ[j]? with
    | none => rw [hj] at e'; cases e'
    | some o => rw [hj] at e'; rw [show o = some v from e']

theorem Un.but {fs ex : List Addr} {H H' : Hp} {h h1 h2 : Heap} {C : Addr} (u : Un fs ex H H' h h1) (hs : Heap.SameBut C h1 h2) (hC : h.objs.size ≤ C) : Un fs ex H H' h h2 where
  keep := fun b o q n hb hx => (hs.2 b (Nat.ne_of_lt (Nat.lt_of_lt_of_le (Heap.lt_size q) hC))).trans (u.keep b o q n hb hx)
  slot := fun b o q n hb hx => by
    obtain ⟨sl, e⟩ := u.slot b o q n hb hx
    exact ⟨sl, (hs.2 b (Nat.ne_of_lt (Nat.lt_of_lt_of_le (Heap.lt_size q) hC))).trans e⟩
  free := u.free
  there := fun b o q hx => by
    obtain ⟨o', e⟩ := u.there b o q hx
    exact ⟨o', (hs.2 b (Nat.ne_of_lt (Nat.lt_of_lt_of_le (Heap.lt_size q) hC))).trans e⟩
  tups := u.tups
  frzs := u.frzs
  tbls := u.tbls
/-- the block's state at its start -/
theorem comp_start {x : Str} {Nc : List Str} {caps : List Nat} {scope : Scope} {cl : List (Str × Addr)} {C : Addr} {fp : List Addr} {h' : Heap} {tk : Nat} {m0 : Str → Option Value} (I : Inv X pins σ H s) (O : CompOk X x Nc caps scope)
    (hcl : ∀ x c, cl.lookup x = some c → X.env.cells.lookup x = some c ∧ (x, NameKind.free) ∈ scope.names) (hcl2 : ∀ x, (x, NameKind.free) ∈ scope.names → cl.lookup x = X.env.cells.lookup x)
    (hC : s.heap.objs.size ≤ C) (hfp : ∀ b ∈ fp, FpOk X pins H b) (hfo : ∀ b ∈ fp, b < s.heap.objs.size)
    (old : ∀ b o, s.heap.get? b = some o → h'.get? b = some o) (hns : h'.Ns C m0) :
    Inv (cxComp X Nc scope cl C fp s H) [] (none :: capV σ caps) H { s with heap := h', toks := tk } where
  ok := comp_ok I O hcl hcl2 hC hfp hfo
  os := rfl
  bare := I.bare
  base := Un.kept old
  loc := by
    refine ⟨m0, hns, fun i y v hN hσ hv => ?_⟩
    cases i with
    | zero => simp at hσ
    | succ k =>
      rw [List.getElem?_cons_succ] at hσ
      obtain ⟨j, hj, hs⟩ := capV_get hσ
      obtain ⟨z, hz1, hz2, hz3⟩ := O.cap k j hj
      have hN' : Nc[k + 1]? = some y := hN
      rw [hz1] at hN'
      cases hN'
      have mem : (y, NameKind.free) ∈ scope.names := PySem.mem_of_lookup hz3
      have hk := (O.fr _ mem rfl).1
      obtain ⟨m, hn, hl⟩ := I.loc
      obtain ⟨u, r, l⟩ := hl j y v hz2 hs (.inr (.inl hk))
      refine ⟨u, r, ?_⟩
      rcases l with ⟨k', _⟩ | ⟨_, c, hc, z⟩
      · have k'' : X.env.scope.names.lookup y = some .local := k'
        rw [hk] at k''; cases k''
      · obtain ⟨o, ho, hd⟩ := z
        exact .inr ⟨.inl (lookup_relabel_free I.ok.kind hz3 hk), c, (hcl2 y mem).trans hc, o, old _ _ ho, hd⟩
  cell := fun y c e => by
    obtain ⟨v, o, ho, hd⟩ := I.cell y c (hcl y c e).1
    exact ⟨v, o, old _ _ ho, hd⟩
  free := I.hok.fresh hC
  freeC := fun y c e => I.freeC y c (hcl y c e).1
  pin := fun p hp => absurd (show p ∈ ([] : List (Addr × Obj)) from hp) (by simp)
  hok := I.hok.kept old
  len := by
    show (none :: capV σ caps).length = Nc.length
    rw [List.length_cons, capV_len, O.len]

/-- a list that only the block knows, as it stands -/
abbrev rawL (us : List Value) (n : Nat) : Obj := { cls := .type "list", data := .seq us.toArray n }

theorem comp_fr {X : Cx} {sc0 scope : Scope} (h : X.env.scope = sc0) (hd : ∀ y ∈ scope.names, y.2 = .free → sc0.names.lookup y.1 = some .cell ∧ scope.names.lookup y.1 = some .free) :
    ∀ y ∈ scope.names, y.2 = .free → X.env.scope.names.lookup y.1 = some .cell ∧ scope.names.lookup y.1 = some .free := by
  rw [h]
  exact hd

/-- THE BLOCK: the list is made, the variables live, the turns go; RR is what is wanted at the block's end -/
theorem comp_block {x : Str} {px : Pos} {Nc : List Str} {caps : List Nat} {scope : Scope} {cl : List (Str × Addr)} {iter elt : Expr} {ifs : List Expr} {pos : Pos} {tc : TT} {te : TE} {Q : VK} {it : Addr} {fp : List Addr} {tn : Nat → Heap → Prop} {J : It}
    {RR : Value → Addr → Result → Shared → Prop} {E : Value → Shared → Prop}
    (O : CompOk X x Nc caps scope) (hc : X.calm = true)
    (hcl : ∀ x c, cl.lookup x = some c → X.env.cells.lookup x = some c ∧ (x, NameKind.free) ∈ scope.names) (hcl2 : ∀ x, (x, NameKind.free) ∈ scope.names → cl.lookup x = X.env.cells.lookup x)
    (hte : ∀ C fp s H, PE (cxComp X Nc scope cl C fp s H) elt te) (htc : ∀ C fp s H, PIf (cxComp X Nc scope cl C fp s H) ifs tc)
    (I : Inv X pins σ H s) (T : Turn X.prog X.w X.K (.Name x px) J fp it tn) (st : tn 0 s.heap) (hfp : ∀ b ∈ fp, FpOk X pins H b) (h : tCompW caps tc te J σ H Q)
    (hRR : ∀ (D C : Addr) (s' : Shared) (m : Str → Option Value), s'.heap.Ns C m → (∀ h', Heap.SameBut C s'.heap h' → ∃ H', Inv X pins σ H' { s' with heap := h' } ∧ H' C = none ∧ Q (.ref D) H') →
      s.heap.objs.size ≤ C → RR (.ref D) C (.ok .next) s') :
    wpAny (model X.prog X.w) X.A (newList []) (fun acc s₃ => wpAny (model X.prog X.w) X.A (newFunctionEnv scope X.env.globals cl [] X.env.qual none .none (some X.env)) (fun cenv s₄ =>
      codeAny (model X.prog X.w) X.A (.compStart (.ListComp elt [⟨.Name x px, iter, ifs, 0⟩] scope pos) 0 (.ref it) acc { cenv with scope := relabel scope X.env }) (RR acc cenv.locals) s₄) E s₃) E s := by
  refine wpAny_newObj_type (wpAny_newFunctionEnv O.cell (by intro y hy; simp at hy) (fun h₁ hns₁ hsb₁ => ?_) O.kind)
  dsimp only at hns₁ hsb₁ ⊢
  generalize hH2 : s.heap.push { cls := .type "list", dict := none, data := .seq ([] : List Value).toArray } = H2 at hns₁ hsb₁ ⊢
  have hC : H2.objs.size = s.heap.objs.size + 1 := by rw [← hH2, Heap.size_push]
  have hCle : s.heap.objs.size ≤ H2.objs.size := by rw [hC]; exact Nat.le_succ _
  have hDC : s.heap.objs.size ≠ H2.objs.size := by rw [hC]; exact Nat.ne_of_lt (Nat.lt_succ_self _)
  have below : ∀ b, b < s.heap.objs.size → b ≠ H2.objs.size ∧ b ≠ s.heap.objs.size := fun b hb => ⟨by rw [hC]; exact Nat.ne_of_lt (Nat.lt_succ_of_lt hb), Nat.ne_of_lt hb⟩
  have old : ∀ b o, s.heap.get? b = some o → h₁.get? b = some o := fun b o e => hsb₁.extBut b o (below b (Heap.lt_size e)).1 (Heap.get?_push_of_some _ (hH2 ▸ Heap.get?_push_of_some _ e))
  have hacc : h₁.get? s.heap.objs.size = some (rawL [] 0) := hsb₁.extBut _ _ hDC (Heap.get?_push_of_some _ (hH2 ▸ Heap.get?_push_size _ rfl))
  have hfo : ∀ b ∈ fp, b < s.heap.objs.size := fun b hb => by
    obtain ⟨o, e, _⟩ := T.obj _ _ st b hb
    exact Heap.lt_size e
  have st1 : tn 0 h₁ := T.keep _ _ _ st fun b _ o e => old b o e
  generalize hDD : s.heap.objs.size = D at *
  generalize hCC : H2.objs.size = C at *
  have DleC : D ≤ C := hCle
  let Y : Cx := cxComp X Nc scope cl C fp s H
  have I0 : Inv Y [] (none :: capV σ caps) H { s with heap := h₁, toks := s.toks + ([] : List (Str × Value)).length } := comp_start I O hcl hcl2 (by rw [hDD]; exact hCle) hfp (fun b hb => by rw [hDD]; exact hfo b hb) old hns₁
  have Dfree : H D = none := by rw [← hDD]; exact I.hok.fresh (Nat.le_refl _)
  have DneC : D ≠ C := hDC
  -- what stays true of D, of the iterator's objects
  have Dfs : D ∉ Y.fs := fun z => by
    have := I.stack.mem (show D ∈ frs X.stack from z)
    obtain ⟨_, o, e, _⟩ := this
    have := Heap.lt_size e
    rw [hDD] at this
    exact Nat.lt_irrefl _ this
  have Dcell : ∀ y c, Y.env.cells.lookup y = some c → c ≠ D := fun y c e z => by
    obtain ⟨v, q⟩ := I.cell y c (hcl y c e).1
    have := q.lt
    rw [z, hDD] at this
    exact Nat.lt_irrefl _ this
  have Dfp : ∀ b ∈ fp, b ≠ D := fun b hb => Nat.ne_of_lt (hfo b hb)
  have fpY : ∀ {H' : Hp}, (∀ b ∈ fp, H' b = none) → ∀ b ∈ fp, FpOk Y [] H' b := fun hn b hb =>
    ⟨hn b hb, Nat.ne_of_lt (Nat.lt_of_lt_of_le (hfo b hb) DleC), fun z => I0.ok.exfs b hb z, .inl hb, fun y c e => (I0.ok.exf b hb).2 y c e, fun p hp => absurd (show p ∈ ([] : List (Addr × Obj)) from hp) (by simp)⟩
  obtain ⟨W, ⟨m0, w0⟩, turn⟩ := h
  have loop : ∀ s₃ : Shared, s₃ = { s with heap := h₁, toks := s.toks + ([] : List (Str × Value)).length } →
      codeAny (model X.prog X.w) X.A (.compLoop (.ListComp elt [⟨.Name x px, iter, ifs, 0⟩] scope pos) 0 (.ref it) (.ref D) (compEnvC scope cl C X.env)) (RR (.ref D) C) s₃ := by
    rintro s₃ rfl
    refine compLoop_any (fun n s' => ∃ (i : Nat) (o : Option V) (H' : Hp) (ys : List V) (us : List Value) (k : Nat), Inv Y [] (o :: capV σ caps) H' s' ∧ tn i s'.heap ∧ (∀ b ∈ fp, H' b = none) ∧ s'.heap.get? D = some (rawL us k) ∧ H' D = none ∧ Vals ys us ∧ W i n ys H')
      ?_ m0 ⟨0, none, H, [], [], 0, I0, st1, fun b hb => (hfp b hb).1, hacc, Dfree, .nil, w0⟩
    rintro n s3 ⟨i, o3, H3, ys, us, k, I3, st3, fr3, hD3, nD3, rv, w3⟩
    have fpP : ∀ {H' : Hp} {ob : Obj}, (∀ b ∈ fp, H' b = none) → ∀ b ∈ fp, FpOk Y [(D, ob)] H' b := fun hn b hb => by
      obtain ⟨g0, g1, g2, g3, g4, _⟩ := fpY hn b hb
      refine ⟨g0, g1, g2, g3, g4, fun p hp => ?_⟩
      have e : p = (D, _) := List.mem_singleton.mp (show p ∈ [(D, _)] from hp)
      rw [e]
      exact Ne.symm (Dfp b hb)
    have IP : Inv Y [(D, rawL us k)] (o3 :: capV σ caps) H3 s3 := I3.pins_of fun p hp => by
      have e : p = (D, rawL us k) := List.mem_singleton.mp hp
      subst e
      exact ⟨hD3, nD3, DneC, Dfs, fun v z => by cases z⟩
    have pinD : ∀ {σ' : St} {H' : Hp} {s' : Shared} {pl : List (Addr × Obj)}, Inv Y ([(D, rawL us k)] ++ pl) σ' H' s' → s'.heap.get? D = some (rawL us k) ∧ H' D = none := fun I' => by
      have z := I'.pin (D, rawL us k) (List.mem_append_right _ (List.mem_append_left _ List.mem_cons_self))
      exact ⟨z.1, z.2.1⟩
    rcases turn i n ys H3 w3 with ⟨stop, hlen, fin⟩ | ⟨go, hlen, step⟩
    · -- the end
      refine wpAny_mono (T.done Y rfl rfl rfl hc i _ s3 _ H3 (fun _ _ => False) IP (fpP fr3) st3 stop) (fun r s4 hr => ?_) fun _ _ z => z.elim
      obtain ⟨hr, I4⟩ := hr
      subst hr
      obtain ⟨gD, nD⟩ := pinD (pl := []) (by simpa using I4)
      obtain ⟨m, hn, _⟩ := I4.loc
      refine hRR D C s4 m hn (fun h' hs' => ⟨upd H3 D (.lst ys), ?_, (upd_ne (Ne.symm DneC)).trans I4.free, fin D nD⟩) hCle
      have nt : ∀ b ob, H3 b = some ob → b ≠ C := fun b ob e z => by
        have := I4.free
        rw [z] at e
        rw [show H3 C = none from this] at e
        cases e
      have u1 : Un (frs X.stack) fp H H3 s.heap h' := Un.but I4.base hs' (show s.heap.objs.size ≤ C by rw [hDD]; exact hCle)
      have ok1 : HOk X.prog X.w H3 h' := fun b ob e => (I4.hok b ob e).stay (fun c v hc q => (hs'.2 c (by
        rcases hc with z | z
        · rw [z]; exact nt b ob e
        · exact nt c _ z)).trans q) (fun _ q => q) fun _ _ q => q
      have gD' : h'.get? D = some (rawL us k) := (hs'.2 D DneC).trans gD
      exact I.call' (s' := { s4 with heap := h' }) (ch := fp) I4.os (u1.track (Nat.le_of_eq hDD) nD) (ok1.track nD ⟨hlen, us, k, rv, gD'⟩) I4.bare fun b hb => by
        obtain ⟨_, g1, _, g3, g4, g5⟩ := hfp b hb
        exact ⟨g3, g1, g4, g5⟩
    · -- a turn
      refine wpAny_mono (T.item Y rfl rfl rfl hc i _ s3 _ H3 (fun _ _ => False) IP (fpP fr3) st3 go) (fun r s4 hr => ?_) fun _ _ z => z.elim
      obtain ⟨u0, hr, h4⟩ := hr
      subst hr
      refine wpAny_mono h4 (fun _ s5 h5 => ?_) fun _ _ z => z.elim
      obtain ⟨x5, H5, I5, r5, y5, st5, fr5⟩ := h5
      have I5' := I5.pinned (fpP fr5) (T.obj _ _ st5)
      have tgt : PG Y (.Name x px) (gName 0) := pg_name (i := 0) O.nd O.hd (.inl (lookup_relabel I.ok.kind O.loc (by intro z; cases z))) (.inr (lookup_relabel I.ok.kind O.loc (by intro z; cases z)))
      refine wpAny_mono (tgt _ s5 _ H5 x5 u0 (fun σ2 H2 => σ2 = some x5 :: capV σ caps ∧ H2 = H5) I5' r5 ⟨rfl, rfl⟩) (fun _ s6 h6 => ?_) fun _ _ z => z.elim
      obtain ⟨_, _, I6, rfl, rfl⟩ := h6
      refine wpAny_mono ((htc C fp s H).run I6 (step x5 _ y5)) (fun b s7 h7 => ?_) fun _ _ z => z.elim
      obtain ⟨H7, I7, q7⟩ := h7
      have keepT : ∀ {σ' : St} {H' : Hp} {s' : Shared}, Inv Y ([(D, rawL us k)] ++ pinsAt fp s5.heap) σ' H' s' → tn (i + 1) s'.heap ∧ ∀ b ∈ fp, H' b = none := fun I' =>
        ⟨T.keep _ _ _ st5 fun b hb o e => (I'.pin (b, o) (List.mem_append_right _ (List.mem_append_right _ (mem_pinsAt hb e)))).1, fun b hb => by
          obtain ⟨o, e, d⟩ := T.obj _ _ st5 b hb
          exact (I'.pin (b, o) (List.mem_append_right _ (List.mem_append_right _ (mem_pinsAt hb e)))).2.1⟩
      cases b with
      | false =>
        rw [if_neg Bool.false_ne_true] at q7
        rw [if_neg Bool.false_ne_true]
        obtain ⟨m', hm, w7⟩ := q7
        obtain ⟨gD, nD⟩ := pinD I7
        obtain ⟨k1, k2⟩ := keepT I7
        exact ⟨m', hm, i + 1, some x5, H7, ys, us, k, I7.pins_of (fun p hp => nomatch hp), k1, k2, gD, nD, rv, w7⟩
      | true =>
        rw [if_pos rfl] at q7
        rw [if_pos rfl]
        refine wpAny_mono (hte C fp s H _ s7 _ H7 _ I7 q7) (fun u8 s8 h8 => ?_) fun _ _ z => z.elim
        obtain ⟨y8, H8, I8, r8, m', hm, w8⟩ := h8
        obtain ⟨gD, nD⟩ := pinD I8
        obtain ⟨k1, k2⟩ := keepT I8
        refine call_meets F.slot_list_append ⟨_, gD, rfl⟩ F.entry_list_append (F.args_list_append_2 _ _) (PySem.list_append D us.toArray k u8 (by rw [List.size_toArray, ← rv.length]; omega)) ⟨gD, ?_⟩
        have q := PySem.IsL.update gD (·.push u8)
        have e1 : us.toArray.push u8 = (us ++ [u8]).toArray := by simp
        rw [e1] at q
        have I8' : Inv Y [] (some x5 :: capV σ caps) H8 s8 := I8.pins_of (fun p hp => nomatch hp)
        have I9 : Inv Y [] (some x5 :: capV σ caps) H8 { s8 with heap := s8.heap.update D (Obj.mapSeq (·.push u8)), toks := s8.toks } :=
          I8'.turned (it := D) (fun b o hb e => (Heap.get?_update_other s8.heap (Obj.mapSeq (·.push u8)) (Ne.symm hb)).trans e) nD DneC (.inr (Nat.le_of_eq hDD)) Dcell (fun p hp => nomatch hp)
        refine ⟨m', hm, i + 1, some x5, H8, ys ++ [y8], us ++ [u8], _, I9, T.keep _ _ _ k1 fun b hb o e => (Heap.get?_update_other s8.heap (Obj.mapSeq (·.push u8)) (Ne.symm (Dfp b hb))).trans e, k2, q, nD, rv.append (.cons r8 .nil), w8⟩
  exact codeAny_compStart_list (loop _ rfl) (T.self X.A 0 _ _ _ st1 (loop _ rfl))

/-- [elt for x in iter if test] -/
theorem pe_comp {x : Str} {px pos : Pos} {Nc : List Str} {caps : List Nat} {scope : Scope} {iter elt : Expr} {ifs : List Expr} {wi : TI} {tc : TT} {te : TE} (O : CompOk X x Nc caps scope) (hc : X.calm = true) (hi : PI X (.Name x px) iter wi)
    (htc : ∀ cl C fp s H, PIf (cxComp X Nc scope cl C fp s H) ifs tc) (hte : ∀ cl C fp s H, PE (cxComp X Nc scope cl C fp s H) elt te) (hs : ∀ x, foldedSetIterable iter X.env x = pure x := by intro _; rfl) :
    PE X (.ListComp elt [⟨.Name x px, iter, ifs, 0⟩] scope pos) (tComp wi caps tc te) := by
  intro pins s σ H Q I h
  rw [eval_ListComp]
  obtain ⟨cl, e1, e2, e3⟩ := closure_is (scope := scope) (env := X.env) fun y hy hf => I.ok.has y.1 (.inl (O.fr y hy hf).1)
  refine wpAny_comprehension_free (use := none) rfl hs e1 O.kind O.names (thn (hi pins s σ H _ I h) fun v s1 h1 => thn h1 fun itv s2 h2 => ?_)
  obtain ⟨it, fp, tn, J, H2, e, I2, T, st2, f2, w2⟩ := h2
  subst e
  refine comp_block (RR := fun acc C => compPost (model X.prog X.w) X.A X.xe none (EP X pins σ Q) acc C) O hc e2 e3 (hte cl) (htc cl) I2 T st2 f2 w2 ?_
  intro D C s' m hn hq hC
  refine ⟨m, hn, fun h' hs' => ?_⟩
  obtain ⟨H', I', _, q⟩ := hq h' hs'
  exact ⟨.ref D, H', I', rfl, q⟩

/-- y = [elt for x in iter if test], where the value is stored ahead of the variables' going -/
theorem ps_setC {i : Nat} {y x : Str} {px py pos spos : Pos} {Nc : List Str} {caps : List Nat} {scope : Scope} {iter elt : Expr} {ifs : List Expr} {wi : TI} {tc : TT} {te : TE} (O : CompOk X x Nc caps scope) (hc : X.calm = true)
    (hN : X.N.Nodup) (hy : X.N[i]? = some y) (hx : X.env.scope.names.lookup y = some .local) (hi : PI X (.Name x px) iter wi)
    (htc : ∀ cl C fp s H, PIf (cxComp X Nc scope cl C fp s H) ifs tc) (hte : ∀ cl C fp s H, PE (cxComp X Nc scope cl C fp s H) elt te)
    (hsw : swapsWith (.ListComp elt [⟨.Name x px, iter, ifs, 0⟩] scope pos) (some (.Name y py)) spos.line X.env = pure true) (hs : ∀ x, foldedSetIterable iter X.env x = pure x := by intro _; rfl) :
    PS X (.Assign [.Name y py] (.ListComp elt [⟨.Name x px, iter, ifs, 0⟩] scope pos) spos) (tAsg (tComp wi caps tc te) (gName i)) := by
  intro pins s σ H Dn I h
  rw [exec_Assign_Name_used _ _ _ _ hsw]
  refine wpAny_bind (wpAny_standAt (wpAny_bind ?_))
  obtain ⟨cl, e1, e2, e3⟩ := closure_is (scope := scope) (env := X.env) fun y hy hf => I.ok.has y.1 (.inl (O.fr y hy hf).1)
  show wpAny _ X.A (do let _ ← comprehension (.ListComp elt [⟨.Name x px, iter, ifs, 0⟩] scope pos) scope X.env _ (newList []) false (eval iter X.env) (some (assign (.Name y py) X.env))) _ _ s
  refine wpAny_bind (wpAny_mono (wpAny_comprehension_free (use := some (assign (.Name y py) X.env)) (Q := fun _ s' => SP X pins Dn .next s') rfl hs e1 O.kind O.names
    (thn (hi pins s σ H _ I h) fun v s1 h1 => thn h1 fun itv s2 h2 => ?_)) (fun _ s' hq => wpAny_pure (wpAny_pure hq)) fun _ _ e => e)
  obtain ⟨it, fp, tn, J, H2, e, I2, T, st2, f2, w2⟩ := h2
  subst e
  refine comp_block (RR := fun acc C => compPost (model X.prog X.w) X.A X.xe (some (assign (.Name y py) X.env)) (fun _ s' => SP X pins Dn .next s') acc C) O hc e2 e3 (hte cl) (htc cl) I2 T st2 f2 w2 ?_
  intro D C s' m hn hq hC
  show wpAny _ X.A (assign (.Name y py) X.env (.ref D)) _ _ _
  obtain ⟨H', I', nC, q⟩ := hq s'.heap (.refl ..)
  have I'' : Inv X pins σ H' s' := I'
  have CL : C ≠ X.env.locals := Nat.ne_of_gt (Nat.lt_of_lt_of_le I2.lt hC)
  have Ccell : ∀ y c, X.env.cells.lookup y = some c → c ≠ C := fun y c e z => by
    obtain ⟨v, q⟩ := I2.cell y c e
    have := Nat.lt_of_lt_of_le q.lt hC
    rw [z] at this
    exact Nat.lt_irrefl _ this
  refine wpAny_assign_Name (store_ok2 I'' hN hy (.inl hx) (show RelV (.ref D) (.ref D) from rfl) (fun s3 I3 hsb => ?_) (.inr hx))
  obtain ⟨a, hsb, ha⟩ := hsb
  have aC : C ≠ a := by
    rcases ha with z | z
    · rw [z]; exact CL
    · exact Ne.symm (Ccell _ _ z)
  refine ⟨m, hn.sameBut hsb aC, fun h4 hs4 => ?_⟩
  refine ⟨_, H', I3.turned (it := C) (t' := s3.toks) (fun b o hb e => (hs4.2 b hb).trans e) nC CL (.inr (Nat.le_trans I2.sz hC)) Ccell (fun p hp z => ?_), q⟩
  · have := Nat.lt_of_lt_of_le (Heap.lt_size (I2.pin p hp).1) hC
    rw [z] at this
    exact Nat.lt_irrefl _ this
end
end L2

set_option Elab.async false
set_option linter.all false
set_option maxRecDepth 100000
namespace L2
open PySem PySem.Spec PyProof.Rows

/-! ### for c in text -/
def Its (x : Str) : It := ⟨fun i _ => i < x.cps.size, fun i H v H' => H' = H ∧ ∃ c, x.cps[i]? = some c ∧ v = .str ⟨#[c]⟩, fun i _ => x.cps.size ≤ i⟩
theorem turn_strA {P : Program} {w : World} {K : PySem.W.Frag} {tg : Expr} (it : Addr) (x : Str) (t : Tok) : Turn P w K tg (Its x) [it] it (fun i h => i ≤ x.cps.size ∧ h.IsStrIter it "str_ascii_iterator" x t i) where
  mem := by simp
  obj := fun i h st b hb => by
    have e : b = it := by simpa using hb
    subst e
    obtain ⟨_, o, e, c, d⟩ := st
    exact ⟨o, e, fun v z => by rw [d] at z; cases z⟩
  keep := fun i h h' st k => by
    obtain ⟨hl, o, e, c, d⟩ := st
    exact ⟨hl, o, k it (by simp) o e, c, d⟩
  item := by
    intro X hP hw hK hc i pins s σ H E I hf st hg
    subst hP hw hK
    obtain ⟨hl, st⟩ := st
    have hg : i < x.cps.size := hg
    obtain ⟨f0, f1, f2, f3, f4, f5⟩ := hf it (by simp)
    have hx : x.cps[i]? = some x.cps[i] := by simp [hg]
    refine wpAny_pyNext_ascii_item st hx fun h' st' sb => ?_
    have I1 : Inv X pins σ H { s with heap := h', toks := s.toks + 1 } := I.turned (fun b o hb e => (sb.2 b hb).trans e) f0 f1 f3 f4 f5
    obtain ⟨o, e, c, d⟩ := id st'
    exact ⟨_, rfl, go_of (s := { s with heap := h', toks := s.toks + 1 }) e c d (by decide) ⟨.str ⟨#[x.cps[i]]⟩, H, I1, ⟨_, rfl⟩, ⟨rfl, _, hx, rfl⟩, ⟨hg, st'⟩, fun b hb => (hf b hb).1⟩⟩
  done := by
    intro X hP hw hK hc i pins s σ H E I hf st hg
    subst hP hw hK
    obtain ⟨hl, st⟩ := st
    have hg : x.cps.size ≤ i := hg
    obtain ⟨f0, f1, f2, f3, f4, f5⟩ := hf it (by simp)
    exact wpAny_pyNext_ascii_end (I.ok.hd hc) st (by simp; omega) fun h' eb => ⟨rfl, I.turned (t' := s.toks) (fun b o hb e => eb b o hb e) f0 f1 f3 f4 f5⟩
  self := fun _ _ _ _ _ st h => wpAny_pyIter_striter_ascii st.2 h
theorem turn_strW {P : Program} {w : World} {K : PySem.W.Frag} {tg : Expr} (it : Addr) (x : Str) (t : Tok) : Turn P w K tg (Its x) [it] it (fun i h => i ≤ x.cps.size ∧ h.IsStrIter it "str_iterator" x t i) where
  mem := by simp
  obj := fun i h st b hb => by
    have e : b = it := by simpa using hb
    subst e
    obtain ⟨_, o, e, c, d⟩ := st
    exact ⟨o, e, fun v z => by rw [d] at z; cases z⟩
  keep := fun i h h' st k => by
    obtain ⟨hl, o, e, c, d⟩ := st
    exact ⟨hl, o, k it (by simp) o e, c, d⟩
  item := by
    intro X hP hw hK hc i pins s σ H E I hf st hg
    subst hP hw hK
    obtain ⟨hl, st⟩ := st
    have hg : i < x.cps.size := hg
    obtain ⟨f0, f1, f2, f3, f4, f5⟩ := hf it (by simp)
    have hx : x.cps[i]? = some x.cps[i] := by simp [hg]
    refine wpAny_pyNext_wide_item st hx fun h' st' sb => ?_
    have I1 : Inv X pins σ H { s with heap := h', toks := s.toks + 1 } := I.turned (fun b o hb e => (sb.2 b hb).trans e) f0 f1 f3 f4 f5
    obtain ⟨o, e, c, d⟩ := id st'
    exact ⟨_, rfl, go_of (s := { s with heap := h', toks := s.toks + 1 }) e c d (by decide) ⟨.str ⟨#[x.cps[i]]⟩, H, I1, ⟨_, rfl⟩, ⟨rfl, _, hx, rfl⟩, ⟨hg, st'⟩, fun b hb => (hf b hb).1⟩⟩
  done := by
    intro X hP hw hK hc i pins s σ H E I hf st hg
    subst hP hw hK
    obtain ⟨hl, st⟩ := st
    have hg : x.cps.size ≤ i := hg
    obtain ⟨f0, f1, f2, f3, f4, f5⟩ := hf it (by simp)
    exact wpAny_pyNext_wide_end (I.ok.hd hc) st (by simp; omega) fun h' eb => ⟨rfl, I.turned (t' := s.toks) (fun b o hb e => eb b o hb e) f0 f1 f3 f4 f5⟩
  self := fun _ _ _ _ _ st h => wpAny_pyIter_striter_wide st.2 h
section
variable {X : Cx} {tg : Expr}
def iStr (tl : TE) : TI := fun σ H R => tl σ H fun x H1 => ∃ z, x = .str z ∧ R (Its z) H1
theorem pi_str {l : Expr} {tl : TE} (hl : PE X l tl) : PI X tg l (iStr tl) := by
  intro pins s σ H R I h
  refine thn (hl pins s σ H _ I h) fun v s1 ⟨x, H1, I1, r1, q1⟩ => ?_
  obtain ⟨z, e, q⟩ := q1
  subst e
  obtain ⟨t, rfl⟩ := r1
  have fpn : ∀ b ∈ [s1.heap.objs.size], FpOk X pins H1 b := fun b hb => by
    have e : b = s1.heap.objs.size := by simpa using hb
    subst e
    exact I1.fpOk (Nat.le_refl _) (I1.hok.fresh (Nat.le_refl _))
  cases ha : z.cps.all (· < 128)
  · refine wpAny_pyIter_wide ha ?_
    exact ⟨s1.heap.objs.size, [s1.heap.objs.size], _, _, H1, rfl, I1.kept (t' := s1.toks) fun b o e => Heap.get?_push_of_some _ e, turn_strW _ z t, ⟨Nat.zero_le _, _, Heap.get?_push_size _ rfl, rfl, rfl⟩, fpn, q⟩
  · refine wpAny_pyIter_ascii ha ?_
    exact ⟨s1.heap.objs.size, [s1.heap.objs.size], _, _, H1, rfl, I1.kept (t' := s1.toks) fun b o e => Heap.get?_push_of_some _ e, turn_strA _ z t, ⟨Nat.zero_le _, _, Heap.get?_push_size _ rfl, rfl, rfl⟩, fpn, q⟩
end
/-- over a text -/
theorem for_str {z : Str} {g : TG} {tb : TS} {D : Ends} {σ : St} {H : Hp} (Pv : Nat → St → Hp → Prop) (h0 : Pv 0 σ H)
    (hs : ∀ i c σ H, z.cps[i]? = some c → Pv i σ H → g (.str ⟨#[c]⟩) σ H fun σ2 H2 => tb { D with nx := Pv (i + 1), ct := Pv (i + 1), bk := D.nx } σ2 H2) (hd : ∀ σ H, Pv z.cps.size σ H → D.nx σ H) :
    ∃ W : Nat → Nat → St → Hp → Prop, (∃ m, W 0 m σ H) ∧ ∀ i m σ H, W i m σ H →
      ((Its z).stop i H ∧ D.nx σ H) ∨ ((Its z).go i H ∧ ∃ N : St → Hp → Prop, (∀ σ' H', N σ' H' → ∃ m', m' < m ∧ W (i + 1) m' σ' H') ∧ ∀ x H', (Its z).yld i H x H' → g x σ H' fun σ2 H2 => tb { D with nx := N, ct := N, bk := D.nx } σ2 H2) := by
  refine ⟨fun i m σ H => m = z.cps.size - i ∧ i ≤ z.cps.size ∧ Pv i σ H, ⟨z.cps.size, by simp, Nat.zero_le _, h0⟩, ?_⟩
  rintro i m σ H ⟨rfl, hi, p⟩
  by_cases hlt : i < z.cps.size
  · refine .inr ⟨hlt, Pv (i + 1), fun σ' H' p' => ⟨z.cps.size - (i + 1), by omega, rfl, hlt, p'⟩, fun x H' y => ?_⟩
    obtain ⟨e, c, hc, rfl⟩ := y
    subst e
    exact hs i c σ _ hc p
  · have e : i = z.cps.size := by omega
    subst e
    exact .inl ⟨Nat.le_refl _, hd σ H p⟩

/-! ### the forms of a comprehension that one uses: what stands behind i items -/
/-- one item more is behind -/
def CN (n : Nat) (Pv : Nat → List V → Hp → Prop) (i : Nat) (ys : List V) (H : Hp) : Prop := ∃ m', m' < n - i ∧ m' = n - (i + 1) ∧ i + 1 ≤ n ∧ Pv (i + 1) ys H
theorem CN.of {n : Nat} {Pv : Nat → List V → Hp → Prop} {i : Nat} {ys : List V} {H : Hp} (h : i < n) (p : Pv (i + 1) ys H) : CN n Pv i ys H := ⟨n - (i + 1), by omega, rfl, h, p⟩
/-- a turn: the test, then the element -/
def CTurn (n : Nat) (Pv : Nat → List V → Hp → Prop) (tc : TT) (te : TE) (σ : St) (i : Nat) (ys : List V) (H : Hp) : Prop :=
  tc σ H fun b H2 => if b = true then te σ H2 fun y H3 => CN n Pv i (ys ++ [y]) H3 else CN n Pv i ys H2
theorem CTurn.no {n : Nat} {Pv : Nat → List V → Hp → Prop} {te : TE} {σ : St} {i : Nat} {ys : List V} {H : Hp} (h : te σ H fun y H3 => CN n Pv i (ys ++ [y]) H3) : CTurn n Pv tNoTest te σ i ys H := by
  unfold CTurn tNoTest
  exact iteT h
theorem comp_list {K : PySem.W.Frag} {a : Addr} {xs : List V} {caps : List Nat} {tc : TT} {te : TE} {σ : St} {H : Hp} {Q : VK} (Pv : Nat → List V → Hp → Prop) (h0 : Pv 0 [] H) (hl : ∀ i ys H, i ≤ xs.length → Pv i ys H → SqL K H a xs ∧ ys.length ≤ i)
    (hz : xs.length ≤ sizeLine) (hs : ∀ i x ys H, i < xs.length → xs[i]? = some x → Pv i ys H → CTurn xs.length Pv tc te (some x :: capV σ caps) i ys H)
    (hd : ∀ ys H p, Pv xs.length ys H → H p = none → Q (.ref p) (upd H p (.lst ys))) : tCompW caps tc te (Itl K a) σ H Q := by
  refine ⟨fun i m ys H => m = xs.length - i ∧ i ≤ xs.length ∧ Pv i ys H, ⟨xs.length, by simp, Nat.zero_le _, h0⟩, ?_⟩
  rintro i m ys H ⟨rfl, hi, p⟩
  obtain ⟨q, hy⟩ := hl i ys H hi p
  by_cases hlt : i < xs.length
  · refine .inr ⟨⟨xs, xs[i], q, by simp [hlt]⟩, by omega, fun x H' y => ?_⟩
    obtain ⟨e, y⟩ := y
    subst e
    exact hs i x ys _ hlt (y xs q) p
  · have e : i = xs.length := by omega
    subst e
    exact .inl ⟨⟨xs, q, Nat.le_refl _⟩, by omega, fun p' hp => hd ys H p' p hp⟩
theorem comp_range {lo : Int} {n : Nat} {caps : List Nat} {tc : TT} {te : TE} {σ : St} {H : Hp} {Q : VK} (Pv : Nat → List V → Hp → Prop) (h0 : Pv 0 [] H) (hl : ∀ i ys H, i ≤ n → Pv i ys H → ys.length ≤ i)
    (hz : n ≤ sizeLine) (hs : ∀ i ys H, i < n → Pv i ys H → CTurn n Pv tc te (some (.int (lo + i)) :: capV σ caps) i ys H)
    (hd : ∀ ys H p, Pv n ys H → H p = none → Q (.ref p) (upd H p (.lst ys))) : tCompW caps tc te (Itr lo n) σ H Q := by
  refine ⟨fun i m ys H => m = n - i ∧ i ≤ n ∧ Pv i ys H, ⟨n, by simp, Nat.zero_le _, h0⟩, ?_⟩
  rintro i m ys H ⟨rfl, hi, p⟩
  have hy := hl i ys H hi p
  by_cases hlt : i < n
  · refine .inr ⟨hlt, by omega, fun x H' y => ?_⟩
    obtain ⟨e, y⟩ := y
    subst e y
    exact hs i ys _ hlt p
  · have e : i = n := by omega
    subst e
    exact .inl ⟨Nat.le_refl _, by omega, fun p' hp => hd ys H p' p hp⟩
/-! ### sep.join(list of texts) -/
theorem strsAre_of {ys : List Str} : ∀ {us : List Value}, Vals (ys.map V.str) us → StrsAre us ys := by
  induction ys with
  | nil => intro us r; rw [List.map_nil] at r; cases r; exact .nil
  | cons n ns ih =>
    intro us r
    rw [List.map_cons] at r
    cases r with
    | cons r1 r2 =>
      obtain ⟨t, e⟩ := r1
      subst e
      exact .cons n t (ih r2)
def rJoin (K : PySem.W.Frag) : V → List V → Hp → VK → Prop := fun x vs H Q => ∃ z a ys, x = .str z ∧ vs = [.ref a] ∧ SqL K H a (ys.map V.str) ∧ (ys.map (·.length)).sum + ys.length * z.length ≤ 16777216 ∧ Q (.str (Txt.join z ys)) H
section
variable {X : Cx}
theorem mt_join : MtR X "str.join" (rJoin X.K) := by
  intro pins s σ H x vs v us Q I rx rv h
  obtain ⟨z, a, ys, rfl, rfl, hq, hz, q⟩ := h
  obtain ⟨t, rfl⟩ := rx
  obtain ⟨u, rfl, ru⟩ := rv.one
  cases ru
  obtain ⟨its, r, pl, hl⟩ := I.list hq
  exact join_list pl.isList (strsAre_of (by simpa using r)) hz fun t' k => ⟨.str _, H, I.tok _, ⟨_, rfl⟩, q⟩

/-! ### isinstance(x, C) -/
def rIsi (K : PySem.W.Frag) : List V → Hp → VK → Prop := fun vs H Q => ∃ x t b, TyOf K H x t ∧
  ((∃ n, vs = [x, .ty n] ∧ PySem.W.kitOne K t (.type n) = some b) ∨ (∃ a, vs = [x, .ref a] ∧ PySem.W.kitOne K t (.ref a) = some b)) ∧ Q (.bl b) H
theorem call_isi : CallR X (.builtin "isinstance") (rIsi X.K) := by
  intro pins s σ H xs us Q I rv h
  obtain ⟨x, t, b, ty, hv, q⟩ := h
  rcases hv with ⟨n, rfl, e⟩ | ⟨a, rfl, e⟩
  · obtain ⟨u1, u2, rfl, r1, r2⟩ := rv.two
    cases r2
    exact isinst_ok I r1 ty e fun tk => ⟨.bl b, H, I.tok _, rfl, q⟩
  · obtain ⟨u1, u2, rfl, r1, r2⟩ := rv.two
    cases r2
    exact isinst_ok I r1 ty e fun tk => ⟨.bl b, H, I.tok _, rfl, q⟩

/-! ### == of two lists of flat values -/
def eqL : List V → List V → Bool
  | [], [] => true
  | x :: xs, y :: ys => eqV x y && eqL xs ys
  | _, _ => false
theorem eqV_refl {x : V} (h : flatV x = true) : eqV x x = true := by
  cases x with
  | non => rfl
  | bl b => simp [eqV]
  | int i => simp [eqV]
  | str z => simp [eqV]
  | _ => exact absurd (show false = true from h) Bool.false_ne_true
theorem eqL_refl : ∀ {xs : List V}, xs.all flatV = true → eqL xs xs = true
  | [], _ => rfl
  | x :: xs, h => by
    rw [List.all_cons, Bool.and_eq_true] at h
    rw [eqL, eqV_refl h.1, eqL_refl h.2]
    rfl
theorem eqL_len : ∀ {xs ys : List V}, xs.length ≠ ys.length → eqL xs ys = false
  | [], [], h => absurd rfl h
  | [], _ :: _, _ => rfl
  | _ :: _, [], _ => rfl
  | x :: xs, y :: ys, h => by
    rw [eqL, eqL_len (xs := xs) (ys := ys) (fun z => h (by rw [List.length_cons, List.length_cons, z])), Bool.and_false]
theorem eqL_range : ∀ {xs ys : List V}, xs.length = ys.length → (List.range xs.length).all (fun j => eqV (xs.getD j .non) (ys.getD j .non)) = eqL xs ys
  | [], [], _ => rfl
  | [], _ :: _, h => by simp at h
  | _ :: _, [], h => by simp at h
  | x :: xs, y :: ys, h => by
    have h' : xs.length = ys.length := by simpa using h
    rw [List.length_cons, List.range_succ_eq_map, List.all_cons, List.all_map]
    rw [eqL, ← eqL_range h']
    rfl
def rEqL (K : PySem.W.Frag) : R2 := fun x y H Q => ∃ p q xs ys, x = .ref p ∧ y = .ref q ∧ SqL K H p xs ∧ SqL K H q ys ∧ xs.all flatV = true ∧ ys.all flatV = true ∧ Q (.bl (eqL xs ys)) H
end
end L2

namespace L2
open PySem
/-- a text by its codes -/
def tx (l : List Nat) : Str := ⟨l.toArray⟩
theorem tx_len (l : List Nat) : (tx l).length = l.length := by simp [tx, Str.length]
theorem tx_list (l : List Nat) : (tx l).cps.toList = l := by simp [tx]
theorem tx_get (l : List Nat) (i : Nat) : (tx l).cps[i]? = l[i]? := by simp [tx]
theorem tx_app (a b : List Nat) : tx a ++ tx b = tx (a ++ b) := by
  show Str.append (tx a) (tx b) = _
  simp [tx, Str.append]
theorem tx_inj {a b : List Nat} (h : tx a = tx b) : a = b := by
  have := congrArg (fun z : Str => z.cps.toList) h
  simpa [tx] using this
theorem tx_one (c : Nat) : (⟨#[c]⟩ : Str) = tx [c] := rfl
theorem glue_fold : ∀ (ys : List (List Nat)) (acc : Array Nat), (ys.map tx).foldl (fun acc p => acc ++ (tx []).cps ++ p.cps) acc = acc ++ ys.flatten.toArray
  | [], acc => by simp
  | y :: ys, acc => by
    rw [List.map_cons, List.foldl_cons, glue_fold ys]
    simp [tx]
theorem tx_join : ∀ (ys : List (List Nat)), Txt.join (tx []) (ys.map tx) = tx ys.flatten
  | [] => by simp [Txt.join, Builtin.Str.glued, tx, Str.empty]
  | y :: ys => by
    show Str.mk _ = _
    simp only [List.map_cons, List.drop_one, List.tail_cons, List.headD_cons]
    rw [glue_fold]
    simp [tx]
end L2

set_option maxRecDepth 100000
set_option linter.all false
namespace PySem
open Sem (wp)
open Builtin Builtin.Str Builtin.Int
namespace RV
end RV
def revS (x : Str) (t : Tok) (i : Int) : Obj := { cls := .type "reversed", data := .fields #[.str x t, rawInt i] }
def Heap.IsRevS (h : Heap) (a : Addr) (x : Str) (t : Tok) (i : Int) : Prop := ∃ o, h.get? a = some o ∧ o.cls = .type "reversed" ∧ o.data = .fields #[.str x t, rawInt i]
section
variable {prog : Program} {w : World} {A : Around} {E : Value → Shared → Prop} {s : Shared}
end
end PySem

set_option Elab.async false
set_option linter.all false
set_option maxRecDepth 100000
namespace L2
open PySem PySem.Spec PyProof.Rows
/-! ### sep.join(reversed(text)) -/
def revO (p : Addr) (x : Str) : HO := .ext fun h => ∃ t, h.IsRevS p x t ((x.length : Int) - 1)
def anyO (p : Addr) : HO := .ext fun h => ∃ o, h.get? p = some o
section
variable {X : Cx}
theorem call_max2R (hc : X.calm = true := by rfl) : CallR X (.builtin "max") (fun xs H Q => ∃ i j, xs = [.int i, .int j] ∧ Q (.int (if j > i then j else i)) H) := call_max2 hc
theorem call_min2R (hc : X.calm = true := by rfl) : CallR X (.builtin "min") (fun xs H Q => ∃ i j, xs = [.int i, .int j] ∧ Q (.int (if j < i then j else i)) H) := call_min2 hc
end
end L2

set_option Elab.async false
set_option linter.all false
set_option maxRecDepth 100000
namespace L2
open PySem PySem.Spec PyProof.Rows
/-! ### tests that are known -/
theorem iteDn {c A B : Prop} [Decidable c] (h : ¬ c) (k : B) : if decide c = true then A else B := by rw [decide_eq_false h]; exact iteF k
theorem iteDp {c A B : Prop} [Decidable c] (h : c) (k : A) : if decide c = true then A else B := by rw [decide_eq_true h]; exact iteT k
theorem iteNp {c A B : Prop} [Decidable c] (h : ¬ c) (k : A) : if (!decide c) = true then A else B := by rw [decide_eq_false h]; exact iteT k
theorem ite2D {c A B : Prop} [Decidable c] (h1 : c → A) (h2 : ¬ c → B) : if decide c = true then A else B := by
  by_cases h : c
  · exact iteDp h (h1 h)
  · exact iteDn h (h2 h)
/-! ### heaps -/
theorem Same.upd {H : Hp} {p : Addr} {o : HO} (h : H p = none) : Same H (L2.upd H p o) := fun b o' e => by rw [upd_ne (ne_of_none e h)]; exact e
theorem Same.new {H H1 : Hp} {p : Addr} {o : HO} (e : Same H H1) (h : H1 p = none) : Same H (L2.upd H1 p o) := e.trans (.upd h)
/-- a write at p, which was not there at H -/
theorem Same.over {H H1 : Hp} {p : Addr} {o : HO} (e : Same H H1) (h : H p = none) : Same H (L2.upd H1 p o) := fun b o' q => by rw [upd_ne (ne_of_none q h)]; exact e b o' q
/-! ### Python's own names -/
theorem bt_len : bootBuiltins "len" = some (.builtin "len") := by decide +kernel
theorem bt_isinstance : bootBuiltins "isinstance" = some (.builtin "isinstance") := by decide +kernel
theorem bt_min : bootBuiltins "min" = some (.builtin "min") := by decide +kernel
theorem bt_max : bootBuiltins "max" = some (.builtin "max") := by decide +kernel
theorem bt_list : bootBuiltins "list" = some (.type "list") := by decide +kernel
theorem bt_str : bootBuiltins "str" = some (.type "str") := by decide +kernel
theorem bt_int : bootBuiltins "int" = some (.type "int") := by decide +kernel
theorem bt_tuple : bootBuiltins "tuple" = some (.type "tuple") := by decide +kernel
theorem bt_bool : bootBuiltins "bool" = some (.type "bool") := by decide +kernel
theorem bt_range : bootBuiltins "range" = some (.type "range") := by decide +kernel
/-! ### a def of the text, its name, its parameters -/
structure Df (K : PySem.W.Frag) (mg : Str → Option Value) (x : Str) (st : Stmt) (ps : List Str) (f : Addr) (fd : FuncData) : Prop where
  F : Fun K x x st f fd
  m : mg x = some (.ref f)
  b : Binds K fd ps []
/-! ### lists of texts, of ints -/
def vS (cl : List (List Nat)) : List V := cl.map fun t => V.str (tx t)
def vI (ns : List Int) : List V := ns.map V.int
theorem vS_len (cl : List (List Nat)) : (vS cl).length = cl.length := by unfold vS; rw [List.length_map]
theorem vI_len (ns : List Int) : (vI ns).length = ns.length := by unfold vI; rw [List.length_map]
theorem vS_get {cl : List (List Nat)} {i : Nat} {t : List Nat} (h : cl[i]? = some t) : (vS cl)[i]? = some (.str (tx t)) := by unfold vS; rw [List.getElem?_map, h]; rfl
theorem vI_get {ns : List Int} {i : Nat} {n : Int} (h : ns[i]? = some n) : (vI ns)[i]? = some (.int n) := by unfold vI; rw [List.getElem?_map, h]; rfl
theorem vS_got {cl : List (List Nat)} {i : Nat} {v : V} (h : (vS cl)[i]? = some v) : ∃ t, cl[i]? = some t ∧ v = .str (tx t) := by
  unfold vS at h
  rw [List.getElem?_map] at h
  cases e : cl[i]? with
  | none => rw [e] at h; cases h
  | some t => rw [e] at h; exact ⟨t, rfl, (Option.some.inj h).symm⟩
theorem vI_got {ns : List Int} {i : Nat} {v : V} (h : (vI ns)[i]? = some v) : ∃ t, ns[i]? = some t ∧ v = .int t := by
  unfold vI at h
  rw [List.getElem?_map] at h
  cases e : ns[i]? with
  | none => rw [e] at h; cases h
  | some t => rw [e] at h; exact ⟨t, rfl, (Option.some.inj h).symm⟩
theorem vI_flat (ns : List Int) : (vI ns).all flatV = true := by unfold vI; rw [List.all_map]; exact List.all_eq_true.mpr fun _ _ => rfl
theorem vS_flat (cl : List (List Nat)) : (vS cl).all flatV = true := by unfold vS; rw [List.all_map]; exact List.all_eq_true.mpr fun _ _ => rfl
theorem vS_map (cl : List (List Nat)) : vS cl = (cl.map tx).map V.str := by unfold vS; rw [List.map_map]; rfl
theorem vI_set (ns : List Int) (j : Nat) (n : Int) : (vI ns).set j (.int n) = vI (ns.set j n) := by unfold vI; rw [List.map_set]
theorem vI_app (ns : List Int) (n : Int) : vI ns ++ [.int n] = vI (ns ++ [n]) := by unfold vI; rw [List.map_append]; rfl
theorem vS_app (cl : List (List Nat)) (t : List Nat) : vS cl ++ [.str (tx t)] = vS (cl ++ [t]) := by unfold vS; rw [List.map_append]; rfl
/-- the item at a place that is there -/
theorem atI_of {α : Type} {xs : List α} {i : Int} {v : α} (h0 : 0 ≤ i) (h : xs[i.toNat]? = some v) : atI xs i = some v := by
  have e : i = (i.toNat : Int) := by omega
  rw [e]
  exact atI_nat h
theorem ixN_of {n : Nat} {i : Int} (h0 : 0 ≤ i) (h : i < n) : ixN n i = some i.toNat := by unfold ixN; rw [if_pos h0, if_pos h]
end L2

set_option Elab.async false
set_option linter.all false
set_option maxRecDepth 100000
namespace L2
open PySem PySem.Spec PyProof.Rows
/-! ### the rules that name the written part, with its name given (within a comprehension's block the reading may not lean on the block) -/
section
variable {X : Cx} {K : PySem.W.Frag} {tg : Expr}
theorem ix_listK (hK : X.K = K := by rfl) : IxR X (rIxL K) := by subst hK; exact ix_list
theorem ix_tupK (hK : X.K = K := by rfl) : IxR X (rIxT K) := by subst hK; exact ix_tup
theorem op_in_seqK (hK : X.K = K := by rfl) : OpR X (compareOp .In) (rIn K false) := by subst hK; exact op_in_seq
theorem op_notIn_seqK (hK : X.K = K := by rfl) : OpR X (compareOp .NotIn) (rIn K true) := by subst hK; exact op_notIn_seq
theorem call_len_seqK (hK : X.K = K := by rfl) : CallR X (.builtin "len") (fun xs H Q => ∃ p ys, xs = [.ref p] ∧ (SqL K H p ys ∨ SqT K H p ys) ∧ Q (.int ys.length) H) := by subst hK; exact call_len_seq
theorem call_list_ofK (hK : X.K = K := by rfl) : CallR X (.type "list") (fun xs H Q => ∃ p ys, xs = [.ref p] ∧ (SqL K H p ys ∨ SqT K H p ys) ∧ ∀ l, H l = none → Q (.ref l) (upd H l (.lst ys))) := by subst hK; exact call_list_of
theorem call_isiK (hK : X.K = K := by rfl) : CallR X (.builtin "isinstance") (rIsi K) := by subst hK; exact call_isi
theorem mt_joinK (hK : X.K = K := by rfl) : MtR X "str.join" (rJoin K) := by subst hK; exact mt_join
theorem sl_listK (hK : X.K = K := by rfl) : SlR X (rSlL K) := by subst hK; exact sl_list
theorem pi_listK {l : Expr} {tl : TE} (hl : PE X l tl) (hK : X.K = K := by rfl) : PI X tg l (iList K tl) := by subst hK; exact pi_list hl
theorem pt_truthK {a : Expr} {ta : TE} (ha : PE X a ta) (he : ∀ whole, isTrue a X.env whole = (do let v ← whole; standAt a.pos; holding [v] (truthy v))) (hK : X.K = K := by rfl) :
    PT X a (fun σ H Q => ta σ H fun x H' => ∃ k, TruV K x H' k ∧ Q k H') := by subst hK; exact pt_truth ha he
variable {o e : Expr} {es : List Expr} {to : TE} {t : TA} {name : Str} {apos cpos : Pos} {T id : String} {r : V → List V → Hp → VK → Prop}
theorem pe_bmK (pa : PlainAttrs T) (slot : Slot T name id) (hty : typeOf (.builtin id) = pure (.type "method_descriptor")) (hm : MtR X id r) (ho : PE X o to) (ha : PA X (e :: es) t)
    (hbase : attributeBase o name X.env (eval o X.env) = eval o X.env := by rfl)
    (hfew : ((backTo cpos (starEach (e :: es) X.env)).all (fun x => !x.1) && (backToKw cpos (keywordEach [] X.env)).all (fun x => x.1.isSome)
      && decide ((e :: es).length + ([] : List Keyword).length + (if ([] : List Keyword).isEmpty then 0 else 1) < 30)) = true := by rfl)
    (hline : (apos.endLine == cpos.line) = true := by rfl) (hs : starEach (e :: es) X.env = (false, eval e X.env) :: starEach es X.env := by rfl) (hplain : (backTo cpos (starEach es X.env)).any (·.1) = false := by rfl) (hK : X.K = K := by rfl) :
    PE X (.Call (.Attribute o name apos) (e :: es) [] cpos) (tBM K T r to t) := by
  subst hK
  exact pe_bm pa slot hty hm ho ha hbase hfew hline hs hplain
end
end L2

set_option Elab.async false
set_option linter.all false
set_option maxRecDepth 100000
namespace L2
open PySem PySem.Spec PyProof.Rows

/-! ### an exception of an own class, on its way through the frames: its whole record is known but for where its trace stands -/
abbrev exO (C t : Addr) (tb : Value) : Obj := { cls := .ref C, data := .fields #[.ref t, tb, .none, .none, .bool false, .none] }
/-- B: all that stood at the raise but the frames; fl: what the newest entry of the trace says of the flight -/
structure Fx (B : Heap) (l : List Env) (e C t : Addr) (fl : Value) (h : Heap) : Prop where
  st : B.StaysIn h
  ne : B.get? e = none
  fr : h.FunFrames B l
  ob : ∃ (T : Addr) (oT : Obj) (ts : Array Value), h.get? e = some (exO C t (.ref T)) ∧ B.get? T = none ∧ T ≠ e ∧ h.get? T = some oT ∧ oT.data = .fields ts ∧ ts[3]? = some fl
section
variable {M : Model} {A : Around} {E : Value → Shared → Prop} {s : Shared} {B : Heap} {env : Env} {l : List Env} {e C t L : Addr}
end
end L2

set_option Elab.async false
set_option linter.all false
set_option maxRecDepth 100000
namespace L2
open PySem PySem.Spec PyProof.Rows

section
variable {M : Model} {A : Around} {E : Value → Shared → Prop} {s : Shared} {B : Heap} {env : Env} {l : List Env} {e C t L : Addr}
end

/-! ### what an exception leaves behind: B (all but the frames) holds the abstract heap -/
structure Bk (P : Program) (w : World) (outer : List Env) (H : Hp) (h : Heap) (H' : Hp) (B h' : Heap) : Prop where
  ok : HOk P w H' B
  keep : ∀ b o, h.get? b = some o → H b = none → b ∉ frs outer → B.get? b = some o
  slot : ∀ b o, h.get? b = some o → b ∈ frs outer → ∃ sl, h'.get? b = some { o with slots := sl }
  free : ∀ b o, h.get? b = some o → H b = none → H' b = none
  there : ∀ b o, h.get? b = some o → b ∉ frs outer → ∃ o', B.get? b = some o'
  tups : ∀ b xs, H b = some (.tup xs) → H' b = some (.tup xs)
  frzs : ∀ b o u, H b = some (.frz o u) → H' b = some (.frz o u)
  tbls : ∀ b ps, H b = some (.tbl ps) → ∃ more, H' b = some (.tbl (ps ++ more))
/-- behind a call that raised -/
def CX1 (P : Program) (w : World) : CXT := fun outer H s E e s' => ∃ ea C t H' B, e = .ref ea ∧ Fx B outer ea C t .none s'.heap ∧ s'.os = s.os ∧ AllBare s'.gens ∧ Bk P w outer H s.heap H' B s'.heap ∧ E (.ref C) none H'
/-- how an exception lies in a body -/
inductive Fly (B : Heap) (l : List Env) (L ea C t : Addr) (h : Heap) : Prop where
  | new (st : B.StaysIn h) (ne : B.get? ea = none) (fr : h.FunFrames B l) (ob : h.get? ea = some (exO C t .none))
  | came (x : Fx B l ea C t .none h)
  | seen (x : Fx B l ea C t (rawInt L) h)
def FlX (X : Cx) (E : XK) : Value → Shared → Prop := fun e s' => ∃ ea C t H' B, e = .ref ea ∧ Fly B X.stack X.env.locals ea C t s'.heap ∧ s'.os = X.s₀.os ∧ AllBare s'.gens ∧ Bk X.prog X.w X.outer X.H₀ X.s₀.heap H' B s'.heap ∧ E (.ref C) none H'
/-- a body, not a comprehension's block -/
structure Body (X : Cx) : Prop where
  stack : X.stack = X.env :: X.outer
  frame : X.env.frame = some X.env.locals
  ex : X.ex = []

section
variable {X : Cx} {pins : List (Addr × Obj)} {σ : St} {H : Hp} {s s' : Shared} {E : XK} {e : Value}
end
end L2

set_option Elab.async false
set_option linter.all false
set_option maxRecDepth 100000
namespace L2
open PySem PySem.Spec PyProof.Rows

/-! ### own exception classes -/
def mroK (K : PySem.W.Frag) (C : Addr) : List Value := match K.lookup C with
  | some ⟨_, _, .cls cd, _⟩ => cd.mro
  | _ => []
/-! ### raise C(e, ..) -/
def tRaise (C : Addr) (E : XK) (t : TA) : TS := fun _ σ H => t σ H fun vs H1 => vs.length ≤ sizeLine ∧ E (.ref C) none H1
section
variable {X : Cx} {x : Str} {C : Addr} {bmB bmN : List Value} {B Bn nid nid' iid iid' : String} {E : XK} {e : Expr} {es : List Expr} {t : TA} {np cpos pos : Pos}
end

/-! ### a def whose exceptions matter -/
abbrev cx1 (P : Program) (w : World) (K : PySem.W.Frag) (mg : Str → Option Value) (base : Heap) (N : List Str) (qual : Str) (scope : Scope) (f : Addr) (cd : Value) (A : Around) (outer : List Env) (s : Shared) (H : Hp) (E : XK) : Cx :=
  (cxOf (CX1 P w) P w K mg base N qual scope f cd A outer s H E).wish (FlX (cxOf (CX1 P w) P w K mg base N qual scope f cd A outer s H E) E)
section
variable {P : Program} {w : World} {K : PySem.W.Frag} {mg : Str → Option Value} {base : Heap}
end
/-! ### an expression that may raise, tried -/
def PEX (X : Cx) (e : Expr) (t : XK → TE) : Prop := ∀ (pins : List (Addr × Obj)) (s : Shared) (σ : St) (H : Hp) (Q : VK) (E : XK), Inv X pins σ H s → t E σ H Q →
  wpAny (model X.prog X.w) X.A (eval e X.env) (EP X pins σ Q) (fun ex s' => ∃ H1 s1, Inv X pins σ H1 s1 ∧ CX1 X.prog X.w X.stack H1 s1 E ex s') s
section
variable {X : Cx} {k : Nat} {f C : Addr} {fd : FuncData} {ps : List Str} {sp : Sp} {dvs : List V} {ds : List Value} {x m : Str} {p pos apos : Pos} {e o : Expr} {es : List Expr} {ta : TE} {t : TA}
end
end L2

set_option Elab.async false
set_option linter.all false
set_option maxRecDepth 100000
namespace L2
open PySem PySem.Spec PyProof.Rows

/-! ### an exception that was caught, as a tracked thing -/
def exH (C a : Addr) : HO := .ext fun h => ∃ t tb, h.get? a = some (exO C t tb)
section
variable {X : Cx} {pins : List (Addr × Obj)} {σ : St} {H H' : Hp} {s s' : Shared} {B h2 : Heap} {ea C t : Addr} {fl : Value}
/-! ### the handler's context -/
abbrev Cx.hdl (X : Cx) (e : Addr) : Cx := { X with A := X.A.mark (some (.ref e)), calm := false, xe := fun _ _ => False }
end
end L2

set_option Elab.async false
set_option linter.all false
set_option maxRecDepth 100000
namespace L2
open PySem PySem.Spec PyProof.Rows

section
variable {M : Model} {A : Around} {E : Value → Shared → Prop} {h : Heap} {g : Array GenState} {d : Drawn} {t : Nat} {os : OsState}
end

/-! ### a statement that may raise, tried: where it raises the names are as they were -/
abbrev WX (X : Cx) (pins : List (Addr × Obj)) (σ : St) (E : XK) : Value → Shared → Prop := fun ex s' => ∃ H1 s1, Inv X pins σ H1 s1 ∧ CX1 X.prog X.w X.stack H1 s1 E ex s'
def PSX (X : Cx) (st : Stmt) (t : XK → TS) : Prop := ∀ (pins : List (Addr × Obj)) (s : Shared) (σ : St) (H : Hp) (D : Ends) (E : XK), Inv X pins σ H s → t E D σ H → wpAny (model X.prog X.w) X.A (exec st X.env) (SP X pins D) (WX X pins σ E) s
def PSXs (X : Cx) (st : List Stmt) (t : XK → TS) : Prop := ∀ (pins : List (Addr × Obj)) (s : Shared) (σ : St) (H : Hp) (D : Ends) (E : XK), Inv X pins σ H s → t E D σ H → wpAny (model X.prog X.w) X.A (execs st X.env) (SP X pins D) (WX X pins σ E) s
section
variable {X : Cx} {e : Expr} {t u : XK → TS} {te : XK → TE} {pos : Pos} {st : Stmt}
/-! ### try: .. except D as n: .. -/
abbrev Ends.un (D : Ends) (j : Nat) : Ends := { nx := fun σ H => D.nx (σ.set j none) H, rt := D.rt, bk := fun σ H => D.bk (σ.set j none) H, ct := fun σ H => D.ct (σ.set j none) H }
/-- the class C is one that D's name catches -/
def Sub (K : PySem.W.Frag) (C D : Addr) : Prop := (∃ bm nid, PySem.W.excIn K C bm nid = true) ∧ (mroK K C).contains (.ref D) = true
def tTry (K : PySem.W.Frag) (Ch : Addr) (j : Nat) (t : XK → TS) (ts : TS) : TS := fun D σ H => t (fun c _ H' => ∃ C, c = .ref C ∧ Sub K C Ch ∧ ∀ ea, H' ea = none → ts (D.un j) (σ.set j (some (.ref ea))) (upd H' ea (exH C ea))) D σ H
end
end L2

set_option Elab.async false
set_option linter.all false
set_option maxRecDepth 100000
namespace L2
open PySem PySem.Spec PyProof.Rows

/-! ### an own exception class that was made of a built-in one: what is asked of its things -/
structure ExC (K : PySem.W.Frag) (C : Addr) : Prop where
  ga : PySem.W.findIn K (.ref C) "__getattribute__" = some (some (.builtin "BaseException.__getattribute__"))
  gt : PySem.W.findIn K (.ref C) "__getattr__" = some none
  cl : PySem.W.findIn K (.ref C) "__class__" = some (some (.builtin "object.__class__"))
  gc : PySem.W.specialIn K (.builtin "object.__class__") "__get__" = some (some (.builtin "getset_descriptor.__get__"))
  tk : PySem.W.takesIn K (.builtin "object.__class__") = some true
  ob : PySem.W.mroIn K C (.type "object") = some true
  be : PySem.W.mroIn K C (.type "BaseException") = some true
  is : (PySem.W.clsIn K C).isSome = true

section
variable {prog : Program} {w : World} {A : Around} {E : Value → Shared → Prop} {s : Shared} {K : PySem.W.Frag} {x C t : Addr} {tb : Value}
end

/-! ### isinstance(e, D) and e.m() of a caught one -/
def rIsX (K : PySem.W.Frag) : List V → Hp → VK → Prop := fun vs H Q => ∃ a C b, H a = some (exH C a) ∧ ExC K C ∧
  ((∃ n, vs = [.ref a, .ty n] ∧ PySem.W.kitOne K (.ref C) (.type n) = some b) ∨ (∃ D, vs = [.ref a, .ref D] ∧ PySem.W.kitOne K (.ref C) (.ref D) = some b)) ∧ Q (.bl b) H
section
variable {X : Cx} {K : PySem.W.Frag}
variable {CX : CXT} {k : Nat} {ps : List Str} {sp : Addr → Sp} {E : XK} {m : Str} {pos apos : Pos} {o : Expr} {ta : TE}
/-- e.m(), the class being known by the heap -/
def tMethX (K : PySem.W.Frag) (m : Str) (sp : Addr → Sp) (E : XK) (ta : TE) : TE := fun σ H Q => ta σ H fun x H1 => ∃ a C, x = .ref a ∧ H1 a = some (exH C a) ∧ sp C [x] H1 Q E
end
end L2

set_option Elab.async false
set_option linter.all false
set_option maxRecDepth 100000
namespace L2
open PySem PySem.Spec PyProof.Rows

/-! ### the refusals of a text: classes under ValueError, each with a called() -/
abbrev vE : List Value := [.type "ValueError", .type "Exception", .type "BaseException", .type "object"]
abbrev vN : String := "ValueError.__new__"
structure Exn (K : PySem.W.Frag) (C : Addr) : Prop where
  q : PySem.W.excIn K C vE vN = true
  c : ExC K C
  ty : PySem.W.typeIn K (.ref C) = some (.type "type")
  ve : PySem.W.mroIn K C (.type "ValueError") = some true
theorem exn_mk {K : PySem.W.Frag} {C : Addr} (q : PySem.W.excIn K C vE vN = true) (ga : PySem.W.findIn K (.ref C) "__getattribute__" = some (some (.builtin "BaseException.__getattribute__"))) (gt : PySem.W.findIn K (.ref C) "__getattr__" = some none)
    (cl : PySem.W.findIn K (.ref C) "__class__" = some (some (.builtin "object.__class__"))) (gc : PySem.W.specialIn K (.builtin "object.__class__") "__get__" = some (some (.builtin "getset_descriptor.__get__"))) (tk : PySem.W.takesIn K (.builtin "object.__class__") = some true)
    (ob : PySem.W.mroIn K C (.type "object") = some true) (be : PySem.W.mroIn K C (.type "BaseException") = some true) (is : PySem.W.isClsIn K C = true) (ty : PySem.W.typeIn K (.ref C) = some (.type "type")) (ve : PySem.W.mroIn K C (.type "ValueError") = some true) : Exn K C :=
  ⟨q, ⟨ga, gt, cl, gc, tk, ob, be, is⟩, ty, ve⟩
section
variable {X : Cx} {CX : CXT} {k : Nat} {C f : Addr} {fd : FuncData} {ps : List Str} {sp : Sp} {E : XK} {m : Str} {pos apos : Pos} {o : Expr} {ta : TE}
/-- e.m(), e of the class C -/
def tMethE (C : Addr) (sp : Sp) (E : XK) (ta : TE) : TE := fun σ H Q => ta σ H fun x H1 => ∃ a, x = .ref a ∧ H1 a = some (exH C a) ∧ sp [x] H1 Q E
end
/-! ### a method of the text -/
def clsBody (s : Stmt) : List Stmt := match s with
  | .ClassDef _ _ _ b _ _ _ _ _ _ _ => b
  | _ => []
structure Mf (K : PySem.W.Frag) (x q : Str) (st : Stmt) (ps : List Str) (C f : Addr) (fd : FuncData) : Prop where
  F : Fun K x q st f fd
  m : Meth K C x f
  b : Binds K fd ps []
theorem kit_ib (K : PySem.W.Frag) : PySem.W.kitOne K (.type "int") (.type "bool") = some false := by
  unfold PySem.W.kitOne PySem.W.kitCls PySem.W.subIn
  rw [if_neg (by simp)]
  show (if _ then _ else _) = _
  rw [if_pos (by decide +kernel)]
  show Option.map (fun x => x.contains (Value.type "bool")) (fastBuiltinMro "int") = some false
  decide +kernel
end L2

set_option Elab.async false
set_option linter.all false
set_option maxRecDepth 100000
namespace L2
open PySem PySem.Spec PyProof.Rows
open Builtin Builtin.Str
/-! ### slices of texts -/
def cutT (u : List Nat) (lo hi : Option Int) : List Nat := (u.drop (HT.sIx u.length 0 lo)).take (HT.sIx u.length u.length hi - HT.sIx u.length 0 lo)
theorem rng_eq (a b : Nat) : sliceRange (a : Int) (b : Int) 1 = (List.range (b - a)).map fun k => a + k := by
  unfold sliceRange
  simp only [show (1 : Int) > 0 by decide, if_true]
  by_cases h : (a : Int) < (b : Int)
  · rw [if_pos h, Int.ediv_one, show (b : Int) - (a : Int) + 1 - 1 = ((b - a : Nat) : Int) by omega, Int.toNat_natCast]
    exact List.map_congr_left fun k _ => by omega
  · rw [if_neg h, show b - a = 0 by omega]
    rfl
theorem clip_some (n d : Nat) (i : Int) : max 0 (min (if i < 0 then i + (n : Int) else i) (n : Int)) = (HT.sIx n d (some i) : Int) := by
  show _ = (((if i < 0 then (i + (n : Int)).toNat else min i.toNat n) : Nat) : Int)
  by_cases h : i < 0
  · rw [if_pos h, if_pos h]; omega
  · rw [if_neg h, if_neg h]; omega
theorem idx_eq (n : Nat) (lo hi : Option Int) : strSliceIndices lo hi 1 n = (List.range (HT.sIx n n hi - HT.sIx n 0 lo)).map fun k => HT.sIx n 0 lo + k := by
  rw [← rng_eq]
  cases lo with
  | none =>
    cases hi with
    | none => rfl
    | some j => rw [← clip_some]; rfl
  | some i =>
    cases hi with
    | none => rw [← clip_some n 0 i]; rfl
    | some j => rw [← clip_some n 0 i, ← clip_some n n j]; rfl
theorem tx_slice (u : List Nat) (lo hi : Option Int) : Txt.slice (tx u) lo hi = tx (cutT u lo hi) := by
  unfold Txt.slice cutT
  rw [tx_len, idx_eq]
  have hle : HT.sIx u.length u.length hi ≤ u.length := HT.sIx_le _ _ (Nat.le_refl _) _
  have key : ∀ (a k : Nat), a + k ≤ u.length → ((List.range k).map fun j => a + j).filterMap (fun i => (tx u).cps[i]?) = (u.drop a).take k := by
    intro a k
    induction k with
    | zero => intro _; simp
    | succ k ih =>
      intro h
      rw [List.range_succ, List.map_append, List.filterMap_append, ih (by omega)]
      have : a + k < u.length := by omega
      simp only [List.map_cons, List.map_nil, List.filterMap_cons, List.filterMap_nil, tx_get, List.getElem?_eq_getElem this]
      rw [List.take_succ, List.getElem?_drop, List.getElem?_eq_getElem this]
      rfl
  split
  next h =>
    simp only [List.length_map, List.length_range, Bool.and_eq_true, beq_iff_eq] at h
    have h2 := h.2
    have : HT.sIx u.length 0 lo = 0 ∨ u.length = 0 := by omega
    rcases this with e | e
    · rw [e, List.drop_zero, List.take_of_length_le (by omega)]
    · rw [List.eq_nil_of_length_eq_zero e]; simp
  next h =>
    by_cases hlt : HT.sIx u.length 0 lo ≤ HT.sIx u.length u.length hi
    · show (Str.mk _) = _
      rw [key _ _ (by omega)]
      rfl
    · have e : HT.sIx u.length u.length hi - HT.sIx u.length 0 lo = 0 := by omega
      rw [e]
      simp [tx]
theorem cut_to {u : List Nat} {k : Nat} (h : k ≤ u.length) : cutT u none (some (k : Int)) = u.take k := by
  unfold cutT
  rw [HT.sIx_none, HT.sIx_nat, List.drop_zero, Nat.min_eq_left h, Nat.sub_zero]
section
variable {X : Cx}
theorem sl_str : SlR X (fun x lo hi H Q => ∃ u : List Nat, x = .str (tx u) ∧ u.length ≤ sizeLine ∧ Q (.str (tx (cutT u lo hi))) H) := by
  intro pins s σ H x v vl vu lo hi sl Q I rx hs pl pu h
  obtain ⟨u, rfl, hz, q⟩ := h
  obtain ⟨t, rfl⟩ := rx
  rw [← tx_slice] at q
  refine ⟨"str", _, F.slot_str_getitem.lookup, typeIs_str _ _ _, ?_⟩
  have hsz : (tx u).length ≤ sizeLine := by rw [tx_len]; exact hz
  obtain ⟨os, hos, hcs, hds⟩ := id hs
  have fin : ∀ (l u' : Option (Int × Tok)), s.heap.IsSlice sl l u' none → Q (.str (Txt.slice (tx u) (l.map (·.1)) (u'.map (·.1)))) H → wpAny (model X.prog X.w) X.A (getItem (.str (tx u) t) (.ref sl)) (EP X pins σ Q) X.xe s := fun l u' z q' =>
    wpAny_getItem_str_slice z rfl (post_val_or_str ⟨Nat.le_trans (Txt.slice_le (tx u) _ _) hsz, fun t' k => ⟨.str _, H, I.tok _, ⟨t', rfl⟩, q'⟩⟩)
  cases pl with
  | none => cases pu with
    | none => exact fin none none ⟨os, hos, hcs, hds⟩ q
    | int j tj => exact fin none (some (j, tj)) ⟨os, hos, hcs, hds⟩ q
  | int i ti => cases pu with
    | none => exact fin (some (i, ti)) none ⟨os, hos, hcs, hds⟩ q
    | int j tj => exact fin (some (i, ti)) (some (j, tj)) ⟨os, hos, hcs, hds⟩ q
end
end L2

set_option Elab.async false
set_option linter.all false
set_option maxRecDepth 100000
namespace L2
open PySem PySem.Spec PyProof.Rows
theorem vals_ptw : ∀ (xs : List V) (us : List Value), xs.length = us.length → (∀ (i : Nat) x u, xs[i]? = some x → us[i]? = some u → RelV x u) → Vals xs us
  | [], [], _, _ => .nil
  | [], _ :: _, h, _ => by simp at h
  | _ :: _, [], h, _ => by simp at h
  | x :: xs, u :: us, h, p => .cons (p 0 x u rfl rfl) (vals_ptw xs us (by simpa using h) fun i y v e1 e2 => p (i + 1) y v e1 e2)
/-! ### range objects as values, list(range(..)) -/
def rngO (p : Addr) (a b c : Int) : HO := .ext fun h => ∃ t u v, IsRange h p a b c t u v
def rngL (a c : Int) (n : Nat) : List Int := (List.range n).map fun (i : Nat) => a + (i : Int) * c
section
variable {X : Cx} {K : PySem.W.Frag}
theorem laid_rng {pins : List (Addr × Obj)} {σ : St} {H : Hp} {s : Shared} {a b c : Int} {t u v : Tok} {Q : VK} {tk : Nat} (I : Inv X pins σ H s) (q : ∀ p, H p = none → Q (.ref p) (upd H p (rngO p a b c))) :
    EP X pins σ Q (.ref s.heap.objs.size) { s with heap := s.heap.push { cls := .type "range", data := .fields #[.int a t, .int b u, .int c v] }, toks := tk } := by
  have hg : (s.heap.push { cls := .type "range", data := .fields #[.int a t, .int b u, .int c v] }).get? s.heap.objs.size = some { cls := .type "range", data := .fields #[.int a t, .int b u, .int c v] } := Heap.get?_push_size _ rfl
  refine ⟨.ref s.heap.objs.size, _, I.laid (o := rngO s.heap.objs.size a b c) (fun b o e => Heap.get?_push_of_some _ e) (Nat.le_refl _) ?_, rfl, q _ (I.hok.fresh (Nat.le_refl _))⟩
  exact ⟨⟨t, u, v, hg⟩, ⟨_, hg⟩, fun h1 h2 y k => by
    obtain ⟨t', u', v', y⟩ := y
    exact ⟨t', u', v', k _ y⟩⟩
theorem call_listR (hc : X.calm = true := by rfl) : CallR X (.type "list") (fun xs H Q => ∃ (p : Addr) (a b c : Int) (n : Nat), xs = [.ref p] ∧ H p = some (rngO p a b c) ∧ Builtin.Range.small a b c = true ∧ Builtin.Range.rangeSize a b c = n ∧ n ≤ 1000 ∧
    ∀ l, H l = none → Q (.ref l) (upd H l (.lst (vI (rngL a c n))))) := by
  intro pins s σ H xs us Q I rv h
  obtain ⟨p, a, b, c, n, rfl, hp, hs, hn, hz, q⟩ := h
  obtain ⟨u, rfl, ru⟩ := rv.one
  cases ru
  obtain ⟨⟨t, u, v, hr⟩, _, _⟩ := I.hok p _ hp
  refine call_list_range (I.ok.hd hc) hr hs hn (Nat.le_trans hz (by decide)) fun h' tk acc c' hk hl hi => ?_
  refine ⟨.ref s.heap.objs.size, _, I.laid (t' := tk) (o := .lst (vI (rngL a c n))) hk (Nat.le_refl _) ?_, rfl, q _ (I.hok.fresh (Nat.le_refl _))⟩
  have hlen : (vI (rngL a c n)).length = n := by rw [vI_len]; unfold rngL; rw [List.length_map, List.length_range]
  refine ⟨by rw [hlen]; exact Nat.le_of_lt (small1000 hz), acc.toList, c', ?_, hl⟩
  refine vals_ptw _ _ (by rw [hlen, Array.length_toList, hi.1]) fun i x u e1 e2 => ?_
  obtain ⟨z, hz1, rfl⟩ := vI_got e1
  obtain ⟨t', rfl⟩ := hi.2 i u (by rw [← Array.getElem?_toList]; exact e2)
  have hin : i < n := by
    have := (List.getElem?_eq_some_iff.mp e1).1
    rwa [hlen] at this
  unfold rngL at hz1
  rw [List.getElem?_map, List.getElem?_range hin] at hz1
  cases hz1
  exact ⟨t', rfl⟩
/-! ### int(text), sum(list) -/
/-! ### a sign among signs -/
end
end L2

set_option Elab.async false
set_option linter.all false
set_option maxRecDepth 100000
namespace L2
open PySem PySem.Spec PyProof.Rows
/-! ### range(a, b) of ints of any size -/
section
variable {X : Cx} {tg : Expr}
def iRng2L (ta : TA) : TI := fun σ H R => ta σ H fun vs H1 => ∃ i j : Int, vs = [.int i, .int j] ∧ R (Itr i (j - i).toNat) H1
end
section
variable {X : Cx}
/-! ### a * b of ints of up to 250 bits -/
/-! ### text * n -/
def rRepS : R2 := fun x y H Q => ∃ u n, x = .str (tx u) ∧ y = .int n ∧ 0 ≤ n ∧ n ≤ 1000000 ∧ u.length * n.toNat ≤ sizeLine ∧ Q (.str (tx (List.replicate n.toNat u).flatten)) H
/-! ### text.count(sign) -/
def rCount : V → List V → Hp → VK → Prop := fun x vs H Q => ∃ u c, x = .str (tx u) ∧ vs = [.str ⟨#[c]⟩] ∧ Q (.int (u.count c : Nat)) H
end
end L2

set_option Elab.async false
set_option linter.all false
set_option maxRecDepth 100000
namespace L2
open PySem PySem.Spec PyProof.Rows
/-! ### isinstance(e, (C, D, ..)) of a caught one -/
section
variable {X : Cx} {K : PySem.W.Frag}
def rIsXT (K : PySem.W.Frag) : List V → Hp → VK → Prop := fun vs H Q => ∃ (a C p : Addr) (Ds : List Addr) (b : Bool), vs = [.ref a, .ref p] ∧ H a = some (exH C a) ∧ ExC K C ∧ H p = some (.tup (Ds.map V.ref)) ∧ PySem.W.kitAny K (.ref C) (Ds.map Value.ref) = some b ∧ Q (.bl b) H
end
end L2

set_option Elab.async false
set_option linter.all false
set_option maxRecDepth 100000
namespace L2
open PySem PySem.Spec PyProof.Rows
section
variable {X : Cx} {K : PySem.W.Frag}
/-! ### != of two lists of flat values -/
def rNeL (K : PySem.W.Frag) : R2 := fun x y H Q => ∃ p q xs ys, x = .ref p ∧ y = .ref q ∧ SqL K H p xs ∧ SqL K H q ys ∧ xs.all flatV = true ∧ ys.all flatV = true ∧ Q (.bl (!eqL xs ys)) H
theorem op_neLK (hu : X.A.units < cLine) (hK : X.K = K := by rfl) : OpR X (compareOp .NotEq) (rNeL K) := by
  subst hK
  intro pins s σ H x y v u Q I rx ry h
  obtain ⟨p, q, xs, ys, rfl, rfl, hx, hy, fx, fy, k⟩ := h
  cases rx
  cases ry
  obtain ⟨its, r, pl, hz⟩ := I.list hx
  obtain ⟨its2, r2, pl2, hz2⟩ := I.list hy
  have l1 := r.length
  have l2 := r2.length
  by_cases hl : xs.length = ys.length
  · refine SeqAt.RcNeAt.lists (e := fun j => eqV (xs.getD j .non) (ys.getD j .non)) pl.isList pl2.isList (by simp only [List.size_toArray]; omega) hu (fun j h1 h2 => ?_) _ _ _ _ ?_
    · have j1 : j < xs.length := by simp only [List.size_toArray] at h1; omega
      have j2 : j < ys.length := by omega
      obtain ⟨w1, e1, q1⟩ := r.get (i := j) (x := xs[j]) (by simp [j1])
      obtain ⟨w2, e2, q2⟩ := r2.get (i := j) (x := ys[j]) (by simp [j2])
      have g1 : its.toArray[j] = w1 := by
        have : its.toArray[j]? = some w1 := by simpa using e1
        exact Option.some.inj ((Array.getElem?_eq_getElem h1).symm.trans this)
      have g2 : its2.toArray[j] = w2 := by
        have : its2.toArray[j]? = some w2 := by simpa using e2
        exact Option.some.inj ((Array.getElem?_eq_getElem h2).symm.trans this)
      rw [g1, g2]
      have d1 : xs.getD j .non = xs[j] := by simp [List.getD, j1]
      have d2 : ys.getD j .non = ys[j] := by simp [List.getD, j2]
      show SeqAt.EqAt _ _ _ _ (eqV (xs.getD j .non) (ys.getD j .non))
      rw [d1, d2]
      exact eqAt_V q1 q2 (List.all_eq_true.mp fx _ (List.getElem_mem j1)) (List.all_eq_true.mp fy _ (List.getElem_mem j2))
    · refine ⟨.bl (!eqL xs ys), H, I, ?_, k⟩
      show Value.bool _ = Value.bool _
      rw [List.size_toArray, ← l1, eqL_range hl]
  · refine SeqAt.RcNeAt.lists_lengths pl.isList pl2.isList (by simp only [List.size_toArray, bne_iff_ne]; omega) hu _ _ _ _ ?_
    exact ⟨.bl (!eqL xs ys), H, I, by rw [eqL_len hl]; rfl, k⟩
end
end L2

set_option Elab.async false
set_option linter.all false
set_option maxRecDepth 100000
namespace L2
open PySem PySem.Spec PyProof.Rows
/-! ### lists of lists with the same contents -/
def SamL (K : PySem.W.Frag) (H : Hp) (p q : Addr) : Prop := ∃ as bs : List Addr, SqL K H p (as.map V.ref) ∧ SqL K H q (bs.map V.ref) ∧ as.length = bs.length ∧
  ∀ (i : Nat) (a b : Addr), as[i]? = some a → bs[i]? = some b → ∃ xs : List V, xs.all flatV = true ∧ SqL K H a xs ∧ SqL K H b xs
section
variable {X : Cx} {K : PySem.W.Frag}
def rNeLL (K : PySem.W.Frag) : R2 := fun x y H Q => ∃ p q, x = .ref p ∧ y = .ref q ∧ SamL K H p q ∧ Q (.bl false) H
def rEqLL (K : PySem.W.Frag) : R2 := fun x y H Q => ∃ p q, x = .ref p ∧ y = .ref q ∧ SamL K H p q ∧ Q (.bl true) H
/-! ### a number in a list of numbers -/
theorem inV_vI (z : Int) : ∀ ks : List Int, inV (.int z) (vI ks) = decide (z ∈ ks)
  | [] => by simp [inV, vI]
  | k :: ks => by
    have ih := inV_vI z ks
    unfold inV vI at ih ⊢
    rw [List.map_cons, List.any_cons, ih]
    by_cases h : k = z
    · subst h
      have : eqV (V.int k) (V.int k) = true := eqV_refl rfl
      rw [this]
      simp
    · have : eqV (V.int k) (V.int z) = false := by simp [eqV, h]
      rw [this, Bool.false_or]
      exact decide_eq_decide.mpr (by simp [Ne.symm h])
end
end L2

set_option Elab.async false
set_option linter.all false
set_option maxRecDepth 100000
namespace L2
open PySem PySem.Spec PyProof.Rows
def vB (bs : List Bool) : List V := bs.map V.bl
section
variable {X : Cx} {K : PySem.W.Frag}
/-! ### x is not False -/
end
end L2

set_option Elab.async false
set_option linter.all false
set_option maxRecDepth 100000
namespace L2
open PySem PySem.Spec PyProof.Rows
section
variable {X : Cx} {K : PySem.W.Frag} {o e value : Expr} {f : Str} {pos pos' tpos : Pos} {ta tv : TE} {st : Stmt} {t : TS}
end
/-! ### own classes -/
structure Own (K : PySem.W.Frag) (C f : Addr) : Prop where
  c : Cls K C
  m : Mk K C f
end L2

set_option Elab.async false
set_option linter.all false
set_option maxRecDepth 100000
namespace L2
open PySem PySem.Spec PyProof.Rows
section
variable {X : Cx} {K : PySem.W.Frag}
theorem call_rng1 : CallR X (.type "range") (fun xs H Q => ∃ b, xs = [.int b] ∧ ∀ p, H p = none → Q (.ref p) (upd H p (rngO p 0 b 1))) := by
  intro pins s σ H xs us Q I rv h
  obtain ⟨b, rfl, q⟩ := h
  obtain ⟨u1, rfl, r1⟩ := rv.one
  obtain ⟨t, rfl⟩ := r1
  exact call_range_1 (laid_rng I q)
end
theorem rng_nat {n : Nat} (h : n ≤ 1000) : Builtin.Range.rangeSize 0 (n : Int) 1 = (n : Int) ∧ Builtin.Range.small 0 (n : Int) 1 = true ∧ rngL 0 1 n = (List.range n).map fun (i : Nat) => ((i : Nat) : Int) := by
  have rs : Builtin.Range.rangeSize 0 (n : Int) 1 = (n : Int) := by
    unfold Builtin.Range.rangeSize
    rw [if_pos (by decide)]
    by_cases h : (0 : Int) < (n : Int)
    · rw [if_pos h, Int.ediv_one]
      omega
    · rw [if_neg h]
      omega
  refine ⟨rs, ?_, ?_⟩
  · have fits : ∀ {z : Int}, -1000000 ≤ z → z ≤ 1000000 → Builtin.Range.rangeFitsLong z = true := fun {z} h1 h2 => by
      unfold Builtin.Range.rangeFitsLong
      simp only [Bool.and_eq_true, decide_eq_true_eq]
      omega
    unfold Builtin.Range.small
    rw [rs, fits (by omega) (by omega), fits (by omega) (by omega), fits (by omega) (by omega), fits (by omega) (by omega)]
    simp only [show (1 : Int) > 0 by decide, if_true, Bool.true_and, Bool.or_eq_true]
    exact .inr trivial
  · unfold rngL
    refine List.map_congr_left fun i _ => ?_
    omega
end L2

set_option Elab.async false
set_option linter.all false
set_option maxRecDepth 100000
namespace L2
open PySem PySem.Spec PyProof.Rows
section
variable {X : Cx}
/-! ### list.remove of a number that is there -/
def isNum (z : Int) : Value → Bool
  | .int a _ => a == z
  | _ => false
theorem vals_int {ks : List Int} {us : List Value} (r : Vals (vI ks) us) {j : Nat} {u : Value} (h : us[j]? = some u) : ∃ k t, ks[j]? = some k ∧ u = .int k t := by
  have hj := (List.getElem?_eq_some_iff.mp h).1
  have l := r.length
  rw [vI_len] at l
  have hk : j < ks.length := by omega
  obtain ⟨u', e, q⟩ := r.get (i := j) (x := .int ks[j]) (vI_get (List.getElem?_eq_getElem hk))
  rw [h] at e
  cases e
  obtain ⟨t, rfl⟩ := q
  exact ⟨ks[j], t, List.getElem?_eq_getElem hk, rfl⟩
theorem vI_erase (ks : List Int) (j : Nat) : (vI ks).eraseIdx j = vI (ks.eraseIdx j) := by
  unfold vI
  induction ks generalizing j with
  | nil => rfl
  | cons a ks ih =>
    cases j with
    | zero => rfl
    | succ j => exact congrArg (_ :: ·) (ih j)
def rRemove : V → List V → Hp → VK → Prop := fun x vs H Q => ∃ l ks z j, x = .ref l ∧ vs = [.int z] ∧ H l = some (.lst (vI ks)) ∧ ks[j]? = some z ∧ (∀ i, i < j → ks[i]? ≠ some z) ∧ ks.length ≤ 1000 ∧ Q .non (upd H l (.lst (vI (ks.eraseIdx j))))
theorem mt_remove : MtM X "list.remove" rRemove := by
  intro pins s σ H x vs v us Q I rx rv h
  obtain ⟨l, ks, z, j, rfl, rfl, hH, hj, hno, hz, q⟩ := h
  cases rx
  obtain ⟨u, rfl, ru⟩ := rv.one
  obtain ⟨t, rfl⟩ := ru
  obtain ⟨zz, its, n, r, hl, e⟩ := I.lstM hH
  have hsz : sizeLine = 16777216 := sizeLine_eq
  have lr := r.length
  rw [vI_len] at lr
  have jl : j < its.length := by have := (List.getElem?_eq_some_iff.mp hj).1; omega
  have ja : j < its.toArray.size := by rw [List.size_toArray]; exact jl
  have hit : isNum z its.toArray[j] = true := by
    obtain ⟨k', t', e1, e2⟩ := vals_int r (List.getElem?_eq_getElem jl)
    rw [hj] at e1
    cases e1
    rw [List.getElem_toArray, e2]
    exact beq_self_eq_true z
  have hn : ∀ m (hm : m < its.toArray.size), m < j → isNum z its.toArray[m] = false := fun m hm hmj => by
    have ml : m < its.length := by rw [List.size_toArray] at hm; exact hm
    obtain ⟨k', t', e1, e2⟩ := vals_int r (List.getElem?_eq_getElem ml)
    have := hno m hmj
    rw [List.getElem_toArray, e2]
    show (k' == z) = false
    rw [beq_eq_false_iff_ne]
    intro ez
    rw [ez] at e1
    exact this e1
  have he : ∀ y, y ∈ its.toArray → MeetsSeq.EqGives y (.int z t) (isNum z y) := fun y hy => by
    have hy : y ∈ its := by simpa using hy
    obtain ⟨m, hm, em⟩ := List.getElem_of_mem hy
    obtain ⟨k', t', e1, e2⟩ := vals_int r (List.getElem?_eq_getElem hm)
    rw [← em, e2]
    exact MeetsSeq.EqGives.int k' z t' t
  refine call_meets F.slot_list_remove ⟨_, e, rfl⟩ F.entry_list_remove (F.args_list_remove_2 _ _)
    (MeetsSeq.list_remove l its.toArray n (.int z t) (isNum z) he j ja hit hn (by rw [List.size_toArray]; omega)) ⟨e, ?_⟩
  refine ⟨.non, _, I.lset (its' := its.eraseIdx j) (ys := (vI ks).eraseIdx j) hH e ?_ (r.eraseIdx j) ?_, rfl, ?_⟩
  · show its.toArray.eraseIdxIfInBounds j = (its.eraseIdx j).toArray
    rw [List.eraseIdxIfInBounds_toArray]
  · have := len_erase (vI ks) j
    rw [vI_len] at this
    omega
  · rw [vI_erase]; exact q
end
end L2

set_option Elab.async false
set_option linter.all false
set_option maxRecDepth 100000
namespace L2
open PySem PySem.Spec PyProof.Rows

/-! ### lists of pairs as tables -/
section
variable {κ : Type} [DecidableEq κ]
def valV (kvs : List (κ × V)) (k : κ) : Option V := (kvs.find? fun kv => decide (kv.1 = k)).map (·.2)
/-- in its place, or at the end -/
def putK (kvs : List (κ × V)) (k : κ) (v : V) : List (κ × V) :=
  if (kvs.any fun kv => decide (kv.1 = k)) = true then kvs.map (fun kv => if kv.1 = k then (kv.1, v) else kv) else kvs ++ [(k, v)]
def dropK (kvs : List (κ × V)) (k : κ) : List (κ × V) := kvs.filter fun kv => decide (kv.1 ≠ k)

theorem valV_nil {k : κ} : valV ([] : List (κ × V)) k = none := rfl
theorem valV_pos {p : κ × V} {r : List (κ × V)} {k : κ} (e : p.1 = k) : valV (p :: r) k = some p.2 := by simp [valV, List.find?_cons, e]
theorem valV_neg {p : κ × V} {r : List (κ × V)} {k : κ} (e : ¬ p.1 = k) : valV (p :: r) k = valV r k := by simp [valV, List.find?_cons, e]
theorem valV_any (k : κ) : ∀ kvs : List (κ × V), (kvs.any fun kv => decide (kv.1 = k)) = (valV kvs k).isSome
  | [] => rfl
  | p :: r => by
    rw [List.any_cons]
    by_cases e : p.1 = k
    · simp only [valV_pos e, decide_eq_true e, Bool.true_or, Option.isSome_some]
    · rw [valV_neg e, decide_eq_false e, Bool.false_or]; exact valV_any k r
theorem length_putK (kvs : List (κ × V)) (k : κ) (v : V) : (putK kvs k v).length ≤ kvs.length + 1 := by
  unfold putK
  split
  · rw [List.length_map]; omega
  · rw [List.length_append, List.length_cons, List.length_nil]; omega
theorem putK_new {kvs : List (κ × V)} {k : κ} (v : V) (h : valV kvs k = none) : putK kvs k v = kvs ++ [(k, v)] := by
  unfold putK
  rw [valV_any, h]
  exact if_neg (by decide)

theorem RelO.isSome_eq {o : Option V} {u : Option Value} (r : RelO o u) : o.isSome = u.isSome := by
  cases o with
  | none => cases u with
    | none => rfl
    | some _ => exact (show False from r).elim
  | some _ => cases u with
    | none => exact (show False from r).elim
    | some _ => rfl
/-- raw tables of the same keys -/
theorem KV.val {kvs : List (κ × V)} {vs : List (κ × Value)} (r : KV kvs vs) (k : κ) : RelO (valV kvs k) (valueAt vs k) := by
  unfold KV at r
  induction r with
  | nil => exact True.intro
  | @cons p q ps qs h t ih =>
    obtain ⟨h1, h2⟩ := h
    by_cases e : p.1 = k
    · have e' : q.1 = k := h1.symm.trans e
      have b : valueAt (q :: qs) k = some q.2 := by simp [valueAt, List.find?_cons, e']
      rw [valV_pos e, b]; exact h2
    · have e' : ¬ q.1 = k := fun z => e (h1.trans z)
      have b : valueAt (q :: qs) k = valueAt qs k := by simp [valueAt, List.find?_cons, e']
      rw [valV_neg e, b]; exact ih
theorem KV.any {kvs : List (κ × V)} {vs : List (κ × Value)} (r : KV kvs vs) (k : κ) : (kvs.any fun kv => decide (kv.1 = k)) = vs.any fun kv => decide (kv.1 = k) := by
  unfold KV at r
  induction r with
  | nil => rfl
  | cons h t ih => rw [List.any_cons, List.any_cons, ih, h.1]
theorem KV.repl {kvs : List (κ × V)} {vs : List (κ × Value)} (r : KV kvs vs) (k : κ) {y : V} {u : Value} (ry : RelV y u) :
    KV (kvs.map fun kv => if kv.1 = k then (kv.1, y) else kv) (vs.map fun kv => if kv.1 = k then (kv.1, u) else kv) := by
  unfold KV at r ⊢
  induction r with
  | nil => exact .nil
  | @cons p q ps qs h t ih =>
    rw [List.map_cons, List.map_cons]
    refine .cons ?_ ih
    obtain ⟨h1, h2⟩ := h
    by_cases e : p.1 = k
    · rw [if_pos e, if_pos (h1.symm.trans e)]; exact ⟨h1, ry⟩
    · rw [if_neg e, if_neg (fun z => e (h1.trans z))]; exact ⟨h1, h2⟩
theorem KV.put {kvs : List (κ × V)} {vs : List (κ × Value)} (r : KV kvs vs) (k : κ) {y : V} {u : Value} (ry : RelV y u) : KV (putK kvs k y) (stored vs k u) := by
  unfold putK stored
  rw [r.any k]
  by_cases e : (vs.any fun kv => decide (kv.1 = k)) = true
  · rw [if_pos e, if_pos e]; exact r.repl k ry
  · rw [if_neg e, if_neg e]; exact Paired.snoc r ⟨rfl, ry⟩
theorem KV.length {kvs : List (κ × V)} {vs : List (κ × Value)} (r : KV kvs vs) : kvs.length = vs.length := Paired.length r
end

/-! ### a tracked dict, its keys ints and texts or tuples of these -/
theorem kV_is {P : Program} {w : World} {k : Key} {u : Value} (r : RelV (kV k) u) : (mixKind P w).is k u = true := by
  cases k with
  | inl i => obtain ⟨t, e⟩ := (show ∃ t, u = Value.int i t from r); subst e; exact mixKind_int P w i t
  | inr x => obtain ⟨t, e⟩ := (show ∃ t, u = Value.str x t from r); subst e; exact mixKind_str P w x t
theorem items_are {P : Program} {w : World} : ∀ {ks : List Key} {us : List Value}, Vals (ks.map kV) us → ItemsAre (mixKind P w) ks us
  | [], _, r => by rw [List.map_nil] at r; cases r; exact .nil
  | k :: ks, _, r => by
    rw [List.map_cons] at r
    cases r with
    | cons h t => exact .cons (kV_is h) (items_are t)

/-- raw entries of a dict with tuple keys -/
abbrev KT (H : Hp) : List (List Key × V) → List (List Key × Addr × Value) → Prop := Paired fun p q => p.1 = q.1 ∧ H q.2.1 = some (.tup (p.1.map kV)) ∧ RelV p.2 q.2.2
theorem KT.val {H : Hp} {kvs : List (List Key × V)} {xs : List (List Key × Addr × Value)} (r : KT H kvs xs) (k : List Key) : RelO (valV kvs k) ((atKey xs k).map (·.2)) := by
  induction r with
  | nil => exact True.intro
  | @cons p q ps qs h t ih =>
    obtain ⟨h1, _, h2⟩ := h
    by_cases e : p.1 = k
    · have e' : q.1 = k := h1.symm.trans e
      have b : atKey (q :: qs) k = some q.2 := by simp [atKey, List.find?_cons, e']
      rw [valV_pos e, b]; exact h2
    · have e' : ¬ q.1 = k := fun z => e (h1.trans z)
      have b : atKey (q :: qs) k = atKey qs k := by simp [atKey, List.find?_cons, e']
      rw [valV_neg e, b]; exact ih
theorem KT.repl {H : Hp} {kvs : List (List Key × V)} {xs : List (List Key × Addr × Value)} (r : KT H kvs xs) (k : List Key) {y : V} {u : Value} (ry : RelV y u) :
    KT H (kvs.map fun kv => if kv.1 = k then (kv.1, y) else kv) (xs.map (putAt k u)) := by
  induction r with
  | nil => exact .nil
  | @cons p q ps qs h t ih =>
    rw [List.map_cons, List.map_cons]
    refine .cons ?_ ih
    obtain ⟨h1, h2, h3⟩ := h
    unfold putAt
    by_cases e : p.1 = k
    · rw [if_pos e, if_pos (h1.symm.trans e)]; exact ⟨h1, h2, ry⟩
    · rw [if_neg e, if_neg (fun z => e (h1.trans z))]; exact ⟨h1, h2, h3⟩
theorem KT.put {H : Hp} {kvs : List (List Key × V)} {xs : List (List Key × Addr × Value)} (r : KT H kvs xs) (k : List Key) {b : Addr} {y : V} {u : Value} (hb : H b = some (.tup (k.map kV))) (ry : RelV y u) :
    KT H (putK kvs k y) (storedH xs k b u) := by
  have e : (kvs.any fun kv => decide (kv.1 = k)) = (atKey xs k).isSome := by
    rw [valV_any, (r.val k).isSome_eq, Option.isSome_map]
  unfold putK storedH
  rw [e]
  by_cases q : (atKey xs k).isSome = true
  · rw [if_pos q, if_pos q]; exact r.repl k ry
  · rw [if_neg q, if_neg q]; exact Paired.snoc r ⟨rfl, hb, ry⟩
theorem KT.keeps {H H' : Hp} {kvs : List (List Key × V)} {xs : List (List Key × Addr × Value)} (r : KT H kvs xs) (ht : ∀ b ys, H b = some (.tup ys) → H' b = some (.tup ys)) : KT H' kvs xs :=
  Paired.mapP r fun _ _ z => ⟨z.1, ht _ _ z.2.1, z.2.2⟩

section
variable {P : Program} {w : World} {H : Hp} {h : Heap} {a : Addr}
theorem rd_of {u : HO} (ok : HOk P w H h) (e : Rd H a u) : ObjOk P w H h a u := e.ok ok
theorem dk_rd {kvs : List (Key × V)} (ok : HOk P w H h) (e : Rd H a (.dK kvs)) : kvs.length ≤ sizeLine ∧ (a == sysModules) = false ∧ ∃ vs, KV kvs vs ∧ h.DictOf (mixKind P w) a vs :=
  show ObjOk P w H h a (.dK kvs) from rd_of ok e
theorem dk_of {kvs : List (Key × V)} (ok : HOk P w H h) (e : H a = some (.dK kvs)) : kvs.length ≤ sizeLine ∧ (a == sysModules) = false ∧ ∃ vs, KV kvs vs ∧ h.DictOf (mixKind P w) a vs := dk_rd ok (.inl e)
/-- a tracked tuple of ints and texts is a key -/
theorem key_of {ks : List Key} (ok : HOk P w H h) (e : H a = some (.tup (ks.map kV))) : (tupleKind (mixKind P w)).is h ks a := by
  obtain ⟨_, its, r, o, h1, h2, n, h3⟩ := (show ObjOk P w H h a (.tup (ks.map kV)) from ok a _ e)
  exact ⟨o, its.toArray, n, h1, h2, h3, by simpa using items_are r⟩
theorem dt_rd {kvs : List (List Key × V)} (ok : HOk P w H h) (e : Rd H a (.dT kvs)) : kvs.length ≤ sizeLine ∧ (a == sysModules) = false ∧
    ∃ xs, KT H kvs xs ∧ h.DictOfH (tupleKind (mixKind P w)) a xs := by
  obtain ⟨z, y, xs, r, o, es, ep, h1, h2, h3, h4, h5⟩ := (show ObjOk P w H h a (.dT kvs) from rd_of ok e)
  refine ⟨z, y, xs, r, o, es, ep, h1, h2, h3, h4, fun x hx => ?_, h5⟩
  have all : ∀ {l : List (List Key × V)} {m : List (List Key × Addr × Value)}, KT H l m → ∀ x ∈ m, (tupleKind (mixKind P w)).is h x.1 x.2.1 := by
    intro l m q
    induction q with
    | nil => intro x hx; exact nomatch hx
    | @cons p q ps qs hq t ih =>
      intro x hx
      rcases List.mem_cons.mp hx with e | hx
      · subst e
        exact key_of ok (by rw [← hq.1]; exact hq.2.1)
      · exact ih x hx
  exact all r x hx
theorem dt_of {kvs : List (List Key × V)} (ok : HOk P w H h) (e : H a = some (.dT kvs)) : kvs.length ≤ sizeLine ∧ (a == sysModules) = false ∧
    ∃ xs, KT H kvs xs ∧ h.DictOfH (tupleKind (mixKind P w)) a xs := dt_rd ok (.inl e)
end

/-- what the dict at a holds at the key y -/
def DGet (H : Hp) (a : Addr) (y : V) (r : Option V) : Prop :=
  (∃ kvs k, Rd H a (.dK kvs) ∧ y = kV k ∧ r = valV kvs k) ∨ ∃ kvs k b, Rd H a (.dT kvs) ∧ y = .ref b ∧ H b = some (.tup (k.map kV)) ∧ r = valV kvs k
/-- the heap behind a[y] = v -/
def DPut (H : Hp) (a : Addr) (y v : V) (H' : Hp) : Prop :=
  (∃ kvs k, H a = some (.dK kvs) ∧ y = kV k ∧ kvs.length < sizeLine ∧ H' = upd H a (.dK (putK kvs k v))) ∨
  ∃ kvs k b, H a = some (.dT kvs) ∧ y = .ref b ∧ H b = some (.tup (k.map kV)) ∧ kvs.length < sizeLine ∧ H' = upd H a (.dT (putK kvs k v))
theorem DGet.k {H : Hp} {a : Addr} {kvs : List (Key × V)} {k : Key} (e : H a = some (.dK kvs)) : DGet H a (kV k) (valV kvs k) := .inl ⟨kvs, k, .inl e, rfl, rfl⟩
theorem DPut.k {H : Hp} {a : Addr} {kvs : List (Key × V)} {k : Key} {v : V} (e : H a = some (.dK kvs)) (hl : kvs.length < sizeLine) : DPut H a (kV k) v (upd H a (.dK (putK kvs k v))) := .inl ⟨kvs, k, e, rfl, hl, rfl⟩
section
variable {X : Cx} {pins : List (Addr × Obj)} {σ : St} {H : Hp} {s : Shared} {a : Addr} {y v : V} {u r : Value} {o : Option V} {A : Around} {E : Value → Shared → Prop}

theorem Inv.big (I : Inv X pins σ H s) : sysModules < s.heap.objs.size := by
  have h : mainGlobals < s.heap.objs.size := (I.mod.glob.keeps I.bk).lt
  exact Nat.lt_trans (by decide) h

/-- y in d -/
theorem d_in {Q : Value → Shared → Prop} (hu : A.units + 1 < cLine) (I : Inv X pins σ H s) (g : DGet H a y o) (ry : RelV y u) (h : ∀ s', Inv X pins σ H s' → Q (.bool o.isSome) s') :
    wpAny (model X.prog X.w) A (compareOp .In u (.ref a)) Q E s := by
  rcases g with ⟨kvs, k, e, ey, l⟩ | ⟨kvs, k, b, e, ey, eb, l⟩
  · subst ey
    obtain ⟨z, hd, vs, rel, dd⟩ := dk_rd I.hok e
    refine wpAny_in_of (kV_is ry) hd dd.mapOf ?_
    rw [← (rel.val k).isSome_eq, ← l]
    exact h _ (I.tok _)
  · subst ey
    cases (show u = Value.ref b from ry)
    obtain ⟨z, hd, xs, rel, dd⟩ := dt_rd I.hok e
    refine wpAny_in_heap (tupleKind_room_in1 hu) (key_of I.hok eb) hd dd ?_
    have q := (rel.val k).isSome_eq
    rw [Option.isSome_map] at q
    rw [← q, ← l]
    exact h _ (I.tok _)
theorem d_notIn {Q : Value → Shared → Prop} (hu : A.units + 1 < cLine) (I : Inv X pins σ H s) (g : DGet H a y o) (ry : RelV y u) (h : ∀ s', Inv X pins σ H s' → Q (.bool (!o.isSome)) s') :
    wpAny (model X.prog X.w) A (compareOp .NotIn u (.ref a)) Q E s := by
  rcases g with ⟨kvs, k, e, ey, l⟩ | ⟨kvs, k, b, e, ey, eb, l⟩
  · subst ey
    obtain ⟨z, hd, vs, rel, dd⟩ := dk_rd I.hok e
    refine wpAny_notIn_of (kV_is ry) hd dd.mapOf ?_
    rw [← (rel.val k).isSome_eq, ← l]
    exact h _ (I.tok _)
  · subst ey
    cases (show u = Value.ref b from ry)
    obtain ⟨z, hd, xs, rel, dd⟩ := dt_rd I.hok e
    refine wpAny_notIn_heap (tupleKind_room_in1 hu) (key_of I.hok eb) hd dd ?_
    have q := (rel.val k).isSome_eq
    rw [Option.isSome_map] at q
    rw [← q, ← l]
    exact h _ (I.tok _)
/-- a dict's object is replaced -/
theorem d_write {h' : Heap} {t' : Nat} {ob : HO} (I : Inv X pins σ H s) (mu : Mut (H a)) (hs : Heap.SameBut a s.heap h') (he : ∃ q, h'.get? a = some q) (new : ObjOk X.prog X.w (upd H a ob) h' a ob) :
    Inv X pins σ (upd H a ob) { s with heap := h', toks := t' } :=
  I.write (x := a) (e := a) mu (.inl rfl) (fun b q hb z => (hs.2 b hb).trans z) he new
theorem dk_new {P : Program} {w : World} {H' : Hp} {h' : Heap} {kvs : List (Key × V)} {vs : List (Key × Value)} (z : kvs.length ≤ sizeLine) (hd : (a == sysModules) = false) (rel : KV kvs vs) (dd : h'.DictOf (mixKind P w) a vs) :
    ObjOk P w H' h' a (.dK kvs) := ⟨z, hd, vs, rel, dd⟩
/-- d[y] = v -/
theorem d_setItem {H' : Hp} {Q : Unit → Shared → Prop} (hu : A.units + 1 < cLine) (I : Inv X pins σ H s) (g : DPut H a y v H') (ry : RelV y u) (rv : RelV v r) (h : ∀ s', Inv X pins σ H' s' → Q () s') :
    wpAny (model X.prog X.w) A (setItem (.ref a) u r) Q E s := by
  rcases g with ⟨kvs, k, e, ey, l, eH⟩ | ⟨kvs, k, b, e, ey, eb, l, eH⟩
  · subst ey eH
    obtain ⟨z, hd, vs, rel, dd⟩ := dk_of I.hok e
    have hz : vs.length ≤ sizeLine := by rw [← rel.length]; exact z
    have hl : (putK kvs k v).length ≤ sizeLine := by have := length_putK kvs k v; omega
    refine wpAny_setItem_pairs (hsz := hz) (kV_is ry) dd fun h' dd' hs => h _ ?_
    have he : ∃ q, h'.get? a = some q := let ⟨q, _, _, hq, _⟩ := dd'; ⟨q, hq⟩
    exact d_write I (by rw [e]; exact True.intro) hs he (dk_new hl hd (rel.put k rv) dd')
  · subst ey eH
    cases (show u = Value.ref b from ry)
    obtain ⟨z, hd, xs, rel, dd⟩ := dt_of I.hok e
    have hz : xs.length ≤ sizeLine := by rw [← Paired.length rel]; exact z
    have hl : (putK kvs k v).length ≤ sizeLine := by have := length_putK kvs k v; omega
    refine wpAny_setItem_heap (hsz := hz) (tupleKind_room_in1 hu) (key_of I.hok eb) dd fun h' dd' hs => h _ ?_
    obtain ⟨q, es, ep, hq, h2, h3, h4, _, h5⟩ := dd'
    refine d_write I (by rw [e]; exact True.intro) hs ⟨q, hq⟩ ⟨hl, hd, _, (rel.put k eb rv).keeps fun c ys ec => ?_, q, es, ep, hq, h2, h3, h4, h5⟩
    rw [upd_ne (ne_of ec e (fun z => nomatch z))]
    exact ec
end

section
variable {X : Cx} {pins : List (Addr × Obj)} {σ : St} {H : Hp} {s : Shared} {a : Addr} {kvs : List (Key × V)} {k : Key} {u : Value} {A : Around} {E : Value → Shared → Prop}
/-- len(d) -/
theorem d_len {Q : Value → Shared → Prop} (I : Inv X pins σ H s) (e : Rd H a (.dK kvs)) (h : ∀ t s', Inv X pins σ H s' → Q (.int kvs.length t) s') : wpAny (model X.prog X.w) A (call (.builtin "len") [.ref a]) Q E s := by
  obtain ⟨z, hd, vs, rel, dd⟩ := dk_rd I.hok e
  refine call_len_dict hd dd (by rw [← rel.length]; rw [sizeLine_eq] at z; omega) ?_
  rw [← rel.length]
  exact h _ _ (I.tok _)
end

/-! ### readings and rules -/
/-- the element of a subscription, not a slice -/
def NoSl (i : Expr) : Prop := ∀ ov iv, subscripted i false ov iv = operate [ov, iv] (getItem ov iv)
/-- d[y] -/
def tDGet (td ty : TE) : TE := fun σ H Q => td σ H fun x H1 => ty σ H1 fun y H2 => ∃ a v, x = .ref a ∧ DGet H2 a y (some v) ∧ Q v H2
/-- y in d, y not in d -/
def tDIn (ty td : TE) : TE := fun σ H Q => ty σ H fun y H1 => td σ H1 fun x H2 => ∃ a o, x = .ref a ∧ DGet H2 a y o ∧ Q (.bl o.isSome) H2
def tDNotIn (ty td : TE) : TE := fun σ H Q => ty σ H fun y H1 => td σ H1 fun x H2 => ∃ a o, x = .ref a ∧ DGet H2 a y o ∧ Q (.bl (!o.isSome)) H2
/-- d[y] = v -/
def sDPut (td ty tv : TE) : TS := fun D σ H => tv σ H fun v H1 => td σ H1 fun x H2 => ty σ H2 fun y H3 => ∃ a H4, x = .ref a ∧ DPut H3 a y v H4 ∧ D.nx σ H4
/-- d[y] op= v -/
def sDAug (td ty tv : TE) (rd : V → V → Hp → VK → Prop) : TS := fun D σ H => td σ H fun x H1 => ty σ H1 fun y H2 => ∃ a v, x = .ref a ∧ DGet H2 a y (some v) ∧
  tv σ H2 fun y2 H3 => rd v y2 H3 fun z H4 => ∃ H5, DPut H4 a y z H5 ∧ D.nx σ H5
/-- del d[y] -/
def sDDel (td ty : TE) : TS := fun D σ H => td σ H fun x H1 => ty σ H1 fun y H2 => ∃ a kvs k, x = .ref a ∧ H2 a = some (.dK kvs) ∧ y = kV k ∧ (valV kvs k).isSome = true ∧ D.nx σ (upd H2 a (.dK (dropK kvs k)))

section
variable {X : Cx} {o i e value : Expr} {pos pos' tpos : Pos} {td ty tv : TE}
theorem pc_din (hu : X.A.units + 1 < cLine) (hi : PE X i ty) (ho : PE X o td) : PC X .In i o (tDIn ty td) := by
  intro pins s σ H Q I h
  refine thn (hi pins s σ H _ I h) fun iv s1 ⟨y, H1, I1, ry, q1⟩ => thn (ho pins s1 σ H1 _ I1 q1) fun u s2 ⟨x, H2, I2, rx, a, ov, ex, g, q2⟩ => ?_
  subst ex
  obtain rfl : u = Value.ref a := rx
  exact d_in hu I2 g ry fun s3 I3 => ⟨.bl ov.isSome, H2, I3, rfl, q2⟩
theorem pc_dnotin (hu : X.A.units + 1 < cLine) (hi : PE X i ty) (ho : PE X o td) : PC X .NotIn i o (tDNotIn ty td) := by
  intro pins s σ H Q I h
  refine thn (hi pins s σ H _ I h) fun iv s1 ⟨y, H1, I1, ry, q1⟩ => thn (ho pins s1 σ H1 _ I1 q1) fun u s2 ⟨x, H2, I2, rx, a, ov, ex, g, q2⟩ => ?_
  subst ex
  obtain rfl : u = Value.ref a := rx
  exact d_notIn hu I2 g ry fun s3 I3 => ⟨.bl (!ov.isSome), H2, I3, rfl, q2⟩
theorem ps_dput (hu : X.A.units + 1 < cLine) (ho : PE X o td) (hi : PE X i ty) (hv : PE X value tv) (hs : swapsWith value (some (.Subscript o i pos')) pos.line X.env = pure false) :
    PS X (.Assign [.Subscript o i pos'] value pos) (sDPut td ty tv) := by
  intro pins s σ H D I h
  refine wpAny_Assign_Subscript (thn (hv pins s σ H _ I h) fun r s1 ⟨v, H1, I1, rv, q1⟩ => thn (ho pins s1 σ H1 _ I1 q1) fun u s2 ⟨x, H2, I2, rx, q2⟩ => thn (hi pins s2 σ H2 _ I2 q2) fun iv s3 ⟨y, H3, I3, ry, a, H4, ex, g, q3⟩ => ?_) hs
  subst ex
  obtain rfl : u = Value.ref a := rx
  exact d_setItem hu I3 g ry rv fun s4 I4 => ⟨σ, H4, I4, q3⟩
end

/-! ### displays -/
theorem dk_empty {P : Program} {w : World} {H : Hp} (h : Heap) (hb : sysModules < h.objs.size) : ObjOk P w H (h.push { cls := .type "dict", data := .dict #[] }) h.objs.size (.dK []) :=
  ⟨Nat.zero_le _, beq_eq_false_iff_ne.mpr (Ne.symm (Nat.ne_of_lt hb)), [], .nil, Heap.DictOf.new h⟩
/-- {}, to be a dict of the kind that is wanted -/
def tDNewK : TE := fun _ H Q => ∀ p, H p = none → Q (.ref p) (upd H p (.dK []))
def tDNewT : TE := fun _ H Q => ∀ p, H p = none → Q (.ref p) (upd H p (.dT []))
section
variable {X : Cx} {pos : Pos}
end

/-- the pairs of a display, from the left -/
def tPairs : List (TE × TE) → St → Hp → (List (V × V) → Hp → Prop) → Prop
  | [], _, H, Q => Q [] H
  | (tk, tv) :: r, σ, H, Q => tk σ H fun x H1 => tv σ H1 fun y H2 => tPairs r σ H2 fun ps H3 => Q ((x, y) :: ps) H3
abbrev VV : List (V × V) → List (Value × Value) → Prop := Paired fun p q => RelV p.1 q.1 ∧ RelV p.2 q.2
def PPs (X : Cx) (pos : Pos) (keys : List (Option Expr)) (values : List Expr) (trs : List (TE × TE)) : Prop :=
  ∀ (pins : List (Addr × Obj)) (s : Shared) (σ : St) (H : Hp) (Q : List (V × V) → Hp → Prop), Inv X pins σ H s → tPairs trs σ H Q →
    wpAny (model X.prog X.w) X.A (evalPairs (pairTrees keys values X.env pos)) (fun vs s' => ∃ ps H', Inv X pins σ H' s' ∧ VV ps vs ∧ Q ps H') X.xe s
theorem pps_nil {X : Cx} {pos : Pos} : PPs X pos [] [] [] := fun pins s σ H Q I h => pairTrees_nil_walk ⟨[], H, I, .nil, h⟩
theorem pps_cons {X : Cx} {pos : Pos} {k v : Expr} {ks : List (Option Expr)} {vs : List Expr} {tk tv : TE} {trs : List (TE × TE)} (hk : PE X k tk) (hv : PE X v tv) (hr : PPs X pos ks vs trs) :
    PPs X pos (some k :: ks) (v :: vs) ((tk, tv) :: trs) := fun pins s σ H Q I h =>
  pairTrees_cons_walk (thn (hk pins s σ H _ I h) fun u s1 ⟨x, H1, I1, rx, q1⟩ => thn (hv pins s1 σ H1 _ I1 q1) fun w2 s2 ⟨y, H2, I2, ry, q2⟩ =>
    thn (hr pins s2 σ H2 _ I2 q2) fun ws s3 ⟨ps, H3, I3, rel, q3⟩ => ⟨(x, y) :: ps, H3, I3, .cons ⟨rx, ry⟩ rel, q3⟩)

def mergeK (kvs more : List (Key × V)) : List (Key × V) := more.foldl (fun acc kv => putK acc kv.1 kv.2) kvs
theorem KV.merge : ∀ {more : List (Key × V)} {rs : List (Key × Value)} {kvs : List (Key × V)} {vs : List (Key × Value)}, KV more rs → KV kvs vs → KV (mergeK kvs more) (merged vs rs) := by
  intro more rs kvs vs r
  unfold KV at r
  induction r generalizing kvs vs with
  | nil => intro q; exact q
  | @cons p q ps qs h t ih =>
    intro r0
    have e : KV (putK kvs p.1 p.2) (stored vs q.1 q.2) := by
      have := r0.put p.1 h.2
      rw [← h.1]; exact this
    exact ih e
theorem length_mergeK : ∀ (more kvs : List (Key × V)), (mergeK kvs more).length ≤ kvs.length + more.length
  | [], kvs => by show kvs.length ≤ kvs.length + 0; omega
  | p :: r, kvs => by
    have h1 := length_mergeK r (putK kvs p.1 p.2)
    have h2 := length_putK kvs p.1 p.2
    show (mergeK (putK kvs p.1 p.2) r).length ≤ _
    rw [List.length_cons]; omega
theorem carries_of {P : Program} {w : World} : ∀ {kvs : List (Key × V)} {ws : List (Value × Value)}, VV (kvs.map fun kv => (kV kv.1, kv.2)) ws → ∃ rs, Carries (mixKind P w) ws rs ∧ KV kvs rs
  | [], _, r => by rw [List.map_nil] at r; cases r; exact ⟨[], True.intro, .nil⟩
  | p :: kvs, _, r => by
    rw [List.map_cons] at r
    cases r with
    | @cons a b as bs h t =>
      obtain ⟨rs, c, q⟩ := carries_of (P := P) (w := w) t
      obtain ⟨b1, b2⟩ := b
      exact ⟨(p.1, b2) :: rs, ⟨kV_is h.1, rfl, c⟩, .cons ⟨rfl, h.2⟩ q⟩
/-- {k: v, ..} with keys ints and texts; the new dict stands empty while the pairs are made -/
def tDisp (trs : List (TE × TE)) : TE := fun σ H Q => ∀ p, H p = none → tPairs trs σ (upd H p (.dK [])) fun ps H2 => H2 p = some (.dK []) ∧ ∃ kvs : List (Key × V), ps = kvs.map (fun kv => (kV kv.1, kv.2)) ∧ kvs.length ≤ 15 ∧ Q (.ref p) (upd H2 p (.dK (mergeK [] kvs)))
theorem pe_disp {X : Cx} {pos : Pos} {keys : List (Option Expr)} {values : List Expr} {trs : List (TE × TE)} (h : PPs X pos keys values trs) (hall : keys.all (·.isSome) = true) (hl : keys.length = values.length) (h0 : keys ≠ [])
    (h15 : keys.length ≤ 15) : PE X (.Dict keys values pos) (tDisp trs) := by
  intro pins s σ H Q I q
  have hn := I.hok.fresh (Nat.le_refl s.heap.objs.size)
  have I1 := I.laid (a := s.heap.objs.size) (o := .dK []) (h' := s.heap.push { cls := .type "dict", data := .dict #[] }) (t' := s.toks) (fun _ _ q => Heap.get?_push_of_some _ q) (Nat.le_refl _) (dk_empty s.heap I.big)
  refine wpAny_Dict_walk (knd := mixKind X.prog X.w) hall hl h0 h15 (thn (h pins _ σ _ _ I1 (q _ hn)) fun ws s2 ⟨ps, H2, I2, rel, e, kvs, ep, lk, q2⟩ => ?_)
  subst ep
  obtain ⟨rs, c, rk⟩ := carries_of (P := X.prog) (w := X.w) rel
  obtain ⟨z, hd, vs0, r0, dd⟩ := dk_of I2.hok e
  cases r0
  refine ⟨rs, c, dd, fun h' dd' hs => ⟨.ref s.heap.objs.size, _, ?_, rfl, q2⟩⟩
  have hz : (mergeK [] kvs).length ≤ sizeLine := by
    have h1 := length_mergeK kvs []
    rw [List.length_nil] at h1
    rw [sizeLine_eq]; omega
  have he : ∃ q, h'.get? s.heap.objs.size = some q := let ⟨q, _, _, hq, _⟩ := dd'; ⟨q, hq⟩
  exact d_write I2 (by rw [e]; exact True.intro) hs he (dk_new hz hd (rk.merge .nil) dd')

/-! ### methods -/
/-- a method call o.m(e) of a built-in, with one argument: what must be seen of the text -/
structure M1 (X : Cx) (o : Expr) (m : Str) (apos : Pos) (e : Expr) (cpos : Pos) : Prop where
  base : attributeBase o m X.env (eval o X.env) = eval o X.env
  few : ((backTo cpos (starEach [e] X.env)).all (fun x => !x.1) && (backToKw cpos (keywordEach [] X.env)).all (fun x => x.1.isSome)
    && decide (([e] : List Expr).length + ([] : List Keyword).length + (if ([] : List Keyword).isEmpty then 0 else 1) < 30)) = true
  line : (apos.endLine == cpos.line) = true
  trees : backTo cpos (starEach [e] X.env) = [(false, eval e X.env)]
structure M2 (X : Cx) (o : Expr) (m : Str) (apos : Pos) (e f : Expr) (cpos : Pos) : Prop where
  base : attributeBase o m X.env (eval o X.env) = eval o X.env
  few : ((backTo cpos (starEach [e, f] X.env)).all (fun x => !x.1) && (backToKw cpos (keywordEach [] X.env)).all (fun x => x.1.isSome)
    && decide (([e, f] : List Expr).length + ([] : List Keyword).length + (if ([] : List Keyword).isEmpty then 0 else 1) < 30)) = true
  line : (apos.endLine == cpos.line) = true
  trees : backTo cpos (starEach [e, f] X.env) = [(false, eval e X.env), (false, eval f X.env)]

/-- a is a dict, whatever its keys -/
def IsD (H : Hp) (a : Addr) : Prop := (∃ kvs, Rd H a (.dK kvs)) ∨ ∃ kvs, Rd H a (.dT kvs)
section
variable {X : Cx} {pins : List (Addr × Obj)} {σ : St} {H : Hp} {s : Shared} {a : Addr} {y d : V} {u r : Value} {o : Option V} {A : Around} {E : Value → Shared → Prop}
end

def tDGet1 (td ty : TE) : TE := fun σ H Q => td σ H fun x H1 => ∃ a, x = .ref a ∧ IsD H1 a ∧ ty σ H1 fun y H2 => ∃ o, DGet H2 a y o ∧ Q (o.getD .non) H2
def tDGet2 (td ty tx : TE) : TE := fun σ H Q => td σ H fun x H1 => ∃ a, x = .ref a ∧ IsD H1 a ∧ ty σ H1 fun y H2 => tx σ H2 fun z H3 => ∃ o, DGet H3 a y o ∧ Q (o.getD z) H3
/-- d.pop(k): there; d.pop(k, x): there or not -/
def tDPop1 (td ty : TE) : TE := fun σ H Q => td σ H fun x H1 => ∃ a, x = .ref a ∧ IsD H1 a ∧ ty σ H1 fun y H2 => ∃ kvs k v, H2 a = some (.dK kvs) ∧ y = kV k ∧ valV kvs k = some v ∧ Q v (upd H2 a (.dK (dropK kvs k)))
def tDPop2 (td ty tx : TE) : TE := fun σ H Q => td σ H fun x H1 => ∃ a, x = .ref a ∧ IsD H1 a ∧ ty σ H1 fun y H2 => tx σ H2 fun z H3 => ∃ kvs k, H3 a = some (.dK kvs) ∧ y = kV k ∧
  (∀ v, valV kvs k = some v → Q v (upd H3 a (.dK (dropK kvs k)))) ∧ (valV kvs k = none → Q z H3)
section
variable {X : Cx} {o e f : Expr} {apos cpos : Pos} {td ty tx : TE}
end

/-! ### dict(d): a copy -/
section
variable {X : Cx} {pins : List (Addr × Obj)} {σ : St} {H : Hp} {s : Shared} {a : Addr} {kvs : List (Key × V)} {A : Around} {E : Value → Shared → Prop}
end

section
variable {X : Cx} {pins : List (Addr × Obj)} {σ : St} {H : Hp} {s : Shared} {a : Addr} {y : V} {u : Value} {A : Around} {E : Value → Shared → Prop}
end
end L2

namespace L2
open PySem PySem.Spec PyProof.Rows
section
variable {X : Cx}
/-- len of a dict -/
theorem call_lenD : CallR X (.builtin "len") (fun xs H Q => ∃ a kvs, xs = [V.ref a] ∧ H a = some (.dK kvs) ∧ Q (.int kvs.length) H) := by
  intro pins s σ H xs us Q I r h
  obtain ⟨a, kvs, rfl, ha, q⟩ := h
  obtain ⟨u, rfl, ru⟩ := vals1 r
  cases ru
  exact d_len I (.inl ha) fun t s' I' => ⟨.int kvs.length, H, I', ⟨t, rfl⟩, q⟩
end
/-! ### a dict's pairs: keys that differ -/
section
variable {κ : Type} [DecidableEq κ]
end

end L2

set_option Elab.async false
set_option linter.all false
set_option maxRecDepth 100000
namespace L2
open PySem PySem.Spec PyProof.Rows
/-! ### several records turned at once -/
/-! ### zip(a, b) of two lists, its pairs unpacked -/
def Itz (K : PySem.W.Frag) (a b : Addr) : It where
  go := fun i H => ∃ xs ys x y, SqL K H a xs ∧ SqL K H b ys ∧ xs[i]? = some x ∧ ys[i]? = some y
  yld := fun i H x H' => ∃ T, x = .ref T ∧ H T = none ∧ ∀ xs ys u v, SqL K H a xs → SqL K H b ys → xs[i]? = some u → ys[i]? = some v → H' = upd H T (.tup [u, v])
  stop := fun i H => ∃ xs ys, SqL K H a xs ∧ SqL K H b ys ∧ (xs.length ≤ i ∨ ys.length ≤ i)
def ZipSt (z TI TO i1 i2 a b : Addr) (i : Nat) (h : Heap) : Prop := IsZip h z TI TO .none ∧ IsPair h TI (.ref i1) (.ref i2) ∧ (∃ p q, IsPair h TO p q) ∧ h.IsListIter i1 a i ∧ h.IsListIter i2 b i
section
variable {X : Cx} {es : List Expr} {kx : Nat} {tp : Pos}
def iZip (K : PySem.W.Frag) (ta : TA) : TI := fun σ H R => ta σ H fun vs H1 => ∃ a b, vs = [.ref a, .ref b] ∧ (∃ xs, SqL K H1 a xs) ∧ (∃ ys, SqL K H1 b ys) ∧ R (Itz K a b) H1
end
end L2

set_option Elab.async false
set_option linter.all false
set_option maxRecDepth 100000
namespace L2
open PySem PySem.Spec PyProof.Rows
/-! ### a tuple of numbers in a list of such tuples, one of which has the same contents -/
def rInT (K : PySem.W.Frag) : R2 := fun x y H Q => ∃ (p q : Addr) (as : List Addr) (ks : List Int), x = .ref p ∧ y = .ref q ∧ SqL K H q (as.map V.ref) ∧ SqT K H p (vI ks) ∧
  (∀ a ∈ as, ∃ js : List Int, SqT K H a (vI js)) ∧ (∃ a ∈ as, SqT K H a (vI ks)) ∧ Q (.bl true) H
section
variable {X : Cx} {K : PySem.W.Frag}
end
end L2

set_option Elab.async false
set_option linter.all false
set_option maxRecDepth 100000
namespace L2
open PySem PySem.Spec PyProof.Rows
/-! ### zip of lists and texts: each side draws by itself -/
section
variable {prog : Program} {w : World} {A : Around} {E : Value → Shared → Prop} {s : Shared}
structure Apart2 (z TI TO i1 i2 : Addr) : Prop where
  TIz : TI ≠ z
  TOz : TO ≠ z
  i1z : i1 ≠ z
  i2z : i2 ≠ z
  TITO : TI ≠ TO
  TIi1 : TI ≠ i1
  TIi2 : TI ≠ i2
  TOi1 : TO ≠ i1
  TOi2 : TO ≠ i2
  i12 : i1 ≠ i2
/-! ### the making -/
abbrev strIt (x : Str) (t : Tok) : Obj := { cls := .type (strIterType x), data := .fields #[.str x t, .int 0 0] }
abbrev lstIt (l : Addr) : Obj := { cls := .type "list_iterator", data := .fields #[.ref l, .int 0 0] }
abbrev zHeap (h : Heap) (o1 o2 : Obj) : Heap := ((((h.push o1).push o2).push { cls := .type "tuple", data := .seq #[.ref h.objs.size, .ref (h.push o1).objs.size] }).push { cls := .type "tuple", data := .seq #[.none, .none] }).push
  { cls := .type "zip", data := .fields #[.none, .bool false, .bool false, .ref ((h.push o1).push o2).objs.size, .ref (((h.push o1).push o2).push { cls := .type "tuple", data := .seq #[.ref h.objs.size, .ref (h.push o1).objs.size] }).objs.size] }
abbrev zAddr (h : Heap) (o1 o2 : Obj) : Addr := ((((h.push o1).push o2).push { cls := .type "tuple", data := .seq #[.ref h.objs.size, .ref (h.push o1).objs.size] }).push { cls := .type "tuple", data := .seq #[.none, .none] }).objs.size
end
end L2

set_option Elab.async false
set_option linter.all false
set_option maxRecDepth 100000
namespace L2
open PySem PySem.Spec PyProof.Rows
/-- a side of zip: a list or a text -/
inductive Src where
  | l (a : Addr)
  | s (z : Str)
def srcV : Src → V
  | .l a => .ref a
  | .s z => .str z
def srcOk (K : PySem.W.Frag) (H : Hp) : Src → Prop
  | .l a => ∃ xs, SqL K H a xs
  | .s _ => True
def srcAt (K : PySem.W.Frag) (H : Hp) : Src → Nat → V → Prop
  | .l a, i, v => ∃ xs, SqL K H a xs ∧ xs[i]? = some v
  | .s z, i, v => ∃ c, z.cps[i]? = some c ∧ v = .str ⟨#[c]⟩
def srcEnd (K : PySem.W.Frag) (H : Hp) : Src → Nat → Prop
  | .l a, i => ∃ xs, SqL K H a xs ∧ xs.length = i
  | .s z, i => z.cps.size = i
def srcSt (it : Addr) (t : Tok) : Src → Nat → Heap → Prop
  | .l a, i, h => h.IsListIter it a i
  | .s z, i, h => h.IsStrIter it (strIterType z) z t i
def srcFp (it : Addr) : Src → List Addr
  | .l a => [it, a]
  | .s _ => [it]
def srcIt (t : Tok) : Src → Obj
  | .l a => lstIt a
  | .s z => strIt z t
def Itz2 (K : PySem.W.Frag) (S1 S2 : Src) : It where
  go := fun i H => (∃ u, srcAt K H S1 i u) ∧ ∃ v, srcAt K H S2 i v
  yld := fun i H x H' => ∃ T, x = .ref T ∧ H T = none ∧ ∀ u v, srcAt K H S1 i u → srcAt K H S2 i v → H' = upd H T (.tup [u, v])
  stop := fun i H => srcOk K H S1 ∧ srcOk K H S2 ∧ (srcEnd K H S1 i ∨ ((∃ u, srcAt K H S1 i u) ∧ srcEnd K H S2 i))
def Zip2St (z TI TO i1 i2 : Addr) (t1 t2 : Tok) (S1 S2 : Src) (i : Nat) (h : Heap) : Prop := IsZip h z TI TO .none ∧ IsPair h TI (.ref i1) (.ref i2) ∧ (∃ p q, IsPair h TO p q) ∧ srcSt i1 t1 S1 i h ∧ srcSt i2 t2 S2 i h
section
variable {X : Cx} {es : List Expr} {kx : Nat} {tp : Pos}
/-- which pairs there is a rule for -/
def zOk : Src → Src → Prop
  | .s _, .l _ => False
  | _, _ => True
def iZip2 (K : PySem.W.Frag) (ta : TA) : TI := fun σ H R => ta σ H fun vs H1 => ∃ S1 S2, vs = [srcV S1, srcV S2] ∧ zOk S1 S2 ∧ srcOk K H1 S1 ∧ srcOk K H1 S2 ∧ R (Itz2 K S1 S2) H1
end
end L2

set_option Elab.async false
set_option linter.all false
set_option maxRecDepth 100000
namespace L2
open PySem PySem.Spec PyProof.Rows
/-! ### a comprehension whose target is a pair of names -/
structure CompOk2 (X : Cx) (x x' : Str) (Nc : List Str) (caps : List Nat) (scope : Scope) : Prop where
  kind : scope.kind = .function
  cell : ∀ y ∈ scope.names, y.2 ≠ .cell
  names : ∀ y ∈ scope.names, y.2 = .local → scope.names.lookup y.1 = some .local
  fr : ∀ y ∈ scope.names, y.2 = .free → X.env.scope.names.lookup y.1 = some .cell ∧ scope.names.lookup y.1 = some .free
  loc : scope.names.lookup x = some .local
  loc2 : scope.names.lookup x' = some .local
  len : Nc.length = caps.length + 2
  hd : Nc[0]? = some x
  hd2 : Nc[1]? = some x'
  nd : Nc.Nodup
  cap : ∀ k j, caps[k]? = some j → ∃ y, Nc[k + 2]? = some y ∧ X.N[j]? = some y ∧ scope.names.lookup y = some .free
def tCompW2 (K : PySem.W.Frag) (caps : List Nat) (tc : TT) (te : TE) (J : It) (σ : St) (H : Hp) (Q : VK) : Prop :=
  ∃ W : Nat → Nat → List V → Hp → Prop, (∃ m, W 0 m [] H) ∧ ∀ i m ys H, W i m ys H →
    (J.stop i H ∧ ys.length ≤ sizeLine ∧ ∀ p, H p = none → Q (.ref p) (upd H p (.lst ys))) ∨
    (J.go i H ∧ ys.length < sizeLine ∧ ∀ x H', J.yld i H x H' → ∃ a u v, x = .ref a ∧ SqT K H' a [u, v] ∧ tc (some u :: some v :: capV σ caps) H' fun b H2 =>
      if b = true then te (some u :: some v :: capV σ caps) H2 fun y H3 => ∃ m', m' < m ∧ W (i + 1) m' (ys ++ [y]) H3 else ∃ m', m' < m ∧ W (i + 1) m' ys H2)
def tComp2 (K : PySem.W.Frag) (wi : TI) (caps : List Nat) (tc : TT) (te : TE) : TE := fun σ H Q => wi σ H fun J H1 => tCompW2 K caps tc te J σ H1 Q
section
variable {X : Cx} {pins : List (Addr × Obj)} {σ : St} {H : Hp} {s : Shared}
end
end L2

set_option Elab.async false
set_option linter.all false
set_option maxRecDepth 100000
namespace L2
open PySem PySem.Spec PyProof.Rows
/-! ### list.count of a number -/
section
variable {X : Cx}
def rCountL (K : PySem.W.Frag) : V → List V → Hp → VK → Prop := fun x vs H Q => ∃ a ns k, x = .ref a ∧ vs = [.int k] ∧ SqL K H a (vI ns) ∧ Q (.int (ns.count k : Nat)) H
end
/-! ### enumerate(list), its pairs unpacked -/
def Ite (K : PySem.W.Frag) (a : Addr) : It where
  go := fun i H => ∃ xs x, SqL K H a xs ∧ xs[i]? = some x
  yld := fun i H x H' => ∃ T, x = .ref T ∧ H T = none ∧ ∀ xs u, SqL K H a xs → xs[i]? = some u → H' = upd H T (.tup [.int (i : Int), u])
  stop := fun i H => ∃ xs, SqL K H a xs ∧ xs.length = i
def EnSt (e it a : Addr) (i : Nat) (h : Heap) : Prop := (∃ old, IsEnum h e it i old) ∧ h.IsListIter it a i
section
variable {X : Cx} {es : List Expr} {kx : Nat} {tp : Pos}
def iEnum (K : PySem.W.Frag) (ta : TA) : TI := fun σ H R => ta σ H fun vs H1 => ∃ a, vs = [.ref a] ∧ (∃ xs, SqL K H1 a xs) ∧ R (Ite K a) H1
end
end L2

set_option Elab.async false
set_option linter.all false
set_option maxRecDepth 100000
namespace L2
open PySem PySem.Spec PyProof.Rows
/-! ### values of the same contents, lists and tuples within one another -/
inductive SamV (K : PySem.W.Frag) (H : Hp) : Nat → V → V → Prop where
  | flat {n : Nat} {x : V} (h : flatV x = true) : SamV K H n x x
  | lst {n : Nat} {p q : Addr} {xs ys : List V} (hp : SqL K H p xs) (hq : SqL K H q ys) (hl : xs.length = ys.length) (hi : ∀ (i : Nat) (x y : V), xs[i]? = some x → ys[i]? = some y → SamV K H n x y) : SamV K H (n + 1) (.ref p) (.ref q)
  | tup {n : Nat} {p q : Addr} {xs ys : List V} (hp : SqT K H p xs) (hq : SqT K H q ys) (hl : xs.length = ys.length) (hi : ∀ (i : Nat) (x y : V), xs[i]? = some x → ys[i]? = some y → SamV K H n x y) : SamV K H (n + 1) (.ref p) (.ref q)
section
variable {X : Cx} {K : PySem.W.Frag}
def SamS (K : PySem.W.Frag) (H : Hp) (p q : Addr) : Prop := ∃ xs ys : List V, SqL K H p xs ∧ SqL K H q ys ∧ xs.length = ys.length ∧ ∀ (i : Nat) (x y : V), xs[i]? = some x → ys[i]? = some y → SamV K H 50 x y
def rEqS (K : PySem.W.Frag) : R2 := fun x y H Q => ∃ p q, x = .ref p ∧ y = .ref q ∧ SamS K H p q ∧ Q (.bl true) H
def rNeS (K : PySem.W.Frag) : R2 := fun x y H Q => ∃ p q, x = .ref p ∧ y = .ref q ∧ SamS K H p q ∧ Q (.bl false) H
end
end L2

namespace Mine
open L2
/-- the signs of a cloth: # is 35, . is 46 -/
def Sg (c : Nat) : Prop := c = 35 ∨ c = 46
structure Cl (cl : List (List Nat)) (m n : Nat) : Prop where
  hn : cl.length = n
  hm : ∀ t ∈ cl, t.length = m
  sg : ∀ t ∈ cl, ∀ c ∈ t, Sg c
  m1 : 1 ≤ m
  m40 : m ≤ 40
  n1 : 1 ≤ n
  n40 : n ≤ 40
def flip (c : Nat) : Nat := if c = 35 then 46 else 35
def back (cl : List (List Nat)) : List (List Nat) := cl.map fun t => t.reverse.map flip
def col (cl : List (List Nat)) (e : Nat) : List Nat := cl.map fun t => t.getD e 0
def quart (cl : List (List Nat)) (m : Nat) : List (List Nat) := (List.range m).map fun e => (col cl e).map flip
/-- the sign at a place of the cloth without end -/
def sgn (cl : List (List Nat)) (m n : Nat) (x y : Int) : Nat := (cl.getD (y % (n : Int)).toNat []).getD (x % (m : Int)).toNat 0
end Mine

set_option linter.all false
namespace Mine
open L2
/-- how often a stretch of ln places from st on meets the rest s of c -/
def met (st ln c s : Int) : Int := ln / c + (if (s - st) % c < ln % c then 1 else 0)
/-! ### sums -/
def sumN (f : Nat → Int) : Nat → Int
  | 0 => 0
  | k + 1 => sumN f k + f k
/-- the sum of g at the rests of n places from st on -/
def runS (g : Nat → Int) (st : Int) (c : Nat) : Nat → Int
  | 0 => 0
  | n + 1 => runS g st c n + g ((st + (n : Int)) % (c : Int)).toNat
/-- 1 where an end lies over -/
def isH (cl : List (List Nat)) (p e : Nat) : Int := if (cl.getD p []).getD e 0 = 35 then 1 else 0
/-- the answer of the program -/
def inPick (cl : List (List Nat)) (m : Nat) (left wide : Int) (p : Nat) : Int := sumN (fun e => if (cl.getD p []).getD e 0 = 35 then met left wide (m : Int) (e : Int) else 0) m
def overs (cl : List (List Nat)) (m n : Nat) (left first wide high : Int) : Int := sumN (fun p => inPick cl m left wide p * met first high (n : Int) (p : Int)) n
/-- the count, place by place -/
def cnt (cl : List (List Nat)) (m n : Nat) (left first : Int) (wide high : Nat) : Int := runS (fun p => runS (isH cl p) left m wide) first n high
end Mine

set_option linter.all false
namespace Mine
open L2
/-- the scores of a cloth's strands -/
def scores (cl : List (List Nat)) (m : Nat) : List Int := ((List.range m).map fun e => (((col cl e).count 35 : Nat) : Int)) ++ cl.map fun t => ((t.count 46 : Nat) : Int)
end Mine

set_option linter.all false
namespace Mine
open L2
/-- a cloth repeated ac times side by side and al times one above the other -/
def wid (cl : List (List Nat)) (ac : Nat) : List (List Nat) := cl.map fun t => (List.replicate ac t).flatten
def til (cl : List (List Nat)) (ac al : Nat) : List (List Nat) := (List.replicate al (wid cl ac)).flatten
end Mine

set_option linter.all false
namespace Mine
open L2
/-- the signs of a half cloth: ? is 63 -/
def Sq3 (c : Nat) : Prop := c = 35 ∨ c = 46 ∨ c = 63
structure Hc (cl : List (List Nat)) (m n : Nat) : Prop where
  hn : cl.length = n
  hm : ∀ t ∈ cl, t.length = m
  sg : ∀ t ∈ cl, ∀ c ∈ t, Sq3 c
  m2 : 2 ≤ m
  m40 : m ≤ 40
  n2 : 2 ≤ n
  n40 : n ≤ 40
def sg2 (cl : List (List Nat)) (p e : Nat) : Nat := (cl.getD p []).getD e 0
/-- a rising list of numbers from 0 to below N -/
def Up (N : Int) (ks : List Int) : Prop := (∀ (i : Nat) (a b : Int), ks[i]? = some a → ks[i + 1]? = some b → a < b) ∧ ∀ k ∈ ks, 0 ≤ k ∧ k < N
def GoodSet (N : Int) (ks : List Int) : Prop := ks ≠ [] ∧ Up N ks
/-! ### what lies below -/
def lowE (cl : List (List Nat)) (m e : Nat) (k : Nat) : List Int := ((List.range k).filter fun p => decide (sg2 cl p e ≠ 46)).map fun p => (m : Int) + ((p : Nat) : Int)
def lowP (t : List Nat) (k : Nat) : List Int := ((List.range k).filter fun e => decide (t.getD e 0 ≠ 35)).map fun e => ((e : Nat) : Int)
def lows (cl : List (List Nat)) (m : Nat) : List (List Int) := ((List.range m).map fun e => lowE cl m e cl.length) ++ cl.map fun t => lowP t m
theorem lows_len (cl : List (List Nat)) (m : Nat) : (lows cl m).length = m + cl.length := by
  unfold lows
  rw [List.length_append, List.length_map, List.length_map, List.length_range]
theorem lows_end {cl : List (List Nat)} {m e : Nat} (h : e < m) : (lows cl m)[e]? = some (lowE cl m e cl.length) := by
  unfold lows
  rw [List.getElem?_append_left (by rw [List.length_map, List.length_range]; exact h), List.getElem?_map, List.getElem?_range h]
  rfl
theorem lows_pick {cl : List (List Nat)} {m p : Nat} (h : p < cl.length) : (lows cl m)[m + p]? = some (lowP cl[p] m) := by
  unfold lows
  rw [List.getElem?_append_right (by rw [List.length_map, List.length_range]; omega), List.length_map, List.length_range, Nat.add_sub_cancel_left, List.getElem?_map, List.getElem?_eq_getElem h]
  rfl
theorem mem_lowE {cl : List (List Nat)} {m e k : Nat} {x : Int} : x ∈ lowE cl m e k ↔ ∃ p, p < k ∧ sg2 cl p e ≠ 46 ∧ x = (m : Int) + (p : Int) := by
  unfold lowE
  simp only [List.mem_map, List.mem_filter, List.mem_range, decide_eq_true_eq]
  constructor
  · rintro ⟨p, ⟨h1, h2⟩, h3⟩; exact ⟨p, h1, h2, h3.symm⟩
  · rintro ⟨p, h1, h2, h3⟩; exact ⟨p, ⟨h1, h2⟩, h3.symm⟩
theorem mem_lowP {t : List Nat} {k : Nat} {x : Int} : x ∈ lowP t k ↔ ∃ e, e < k ∧ t.getD e 0 ≠ 35 ∧ x = (e : Int) := by
  unfold lowP
  simp only [List.mem_map, List.mem_filter, List.mem_range, decide_eq_true_eq]
  constructor
  · rintro ⟨p, ⟨h1, h2⟩, h3⟩; exact ⟨p, h1, h2, h3.symm⟩
  · rintro ⟨p, h1, h2, h3⟩; exact ⟨p, ⟨h1, h2⟩, h3.symm⟩
theorem lowE_step (cl : List (List Nat)) (m e k : Nat) : lowE cl m e (k + 1) = if sg2 cl k e ≠ 46 then lowE cl m e k ++ [(m : Int) + (k : Int)] else lowE cl m e k := by
  unfold lowE
  rw [List.range_succ, List.filter_append, List.map_append]
  by_cases h : sg2 cl k e ≠ 46
  · rw [if_pos h, List.filter_cons_of_pos (by exact decide_eq_true h)]; rfl
  · rw [if_neg h, List.filter_cons_of_neg (by rw [decide_eq_false h]; decide)]; simp
theorem lowP_step (t : List Nat) (k : Nat) : lowP t (k + 1) = if t.getD k 0 ≠ 35 then lowP t k ++ [(k : Int)] else lowP t k := by
  unfold lowP
  rw [List.range_succ, List.filter_append, List.map_append]
  by_cases h : t.getD k 0 ≠ 35
  · rw [if_pos h, List.filter_cons_of_pos (by exact decide_eq_true h)]; rfl
  · rw [if_neg h, List.filter_cons_of_neg (by rw [decide_eq_false h]; decide)]; simp
theorem lowE_len (cl : List (List Nat)) (m e k : Nat) : (lowE cl m e k).length ≤ k := by
  unfold lowE
  rw [List.length_map]
  exact Nat.le_trans (List.length_filter_le _ _) (by rw [List.length_range]; exact Nat.le_refl _)
theorem lowP_len (t : List Nat) (k : Nat) : (lowP t k).length ≤ k := by
  unfold lowP
  rw [List.length_map]
  exact Nat.le_trans (List.length_filter_le _ _) (by rw [List.length_range]; exact Nat.le_refl _)
/-- no strand that is not in the set lies, or may lie, over one of it -/
def NoWay (cl : List (List Nat)) (m n : Nat) (ks : List Int) : Prop := ∀ (s : Nat) (l : List Int), s < m + n → (s : Int) ∉ ks → (lows cl m)[s]? = some l → ∀ r ∈ l, r ∉ ks
def CutAt (cl : List (List Nat)) (m : Nat) (ks : List Int) (p e : Nat) : Prop := ((e : Int) ∈ ks → ((m : Int) + (p : Int)) ∉ ks → sg2 cl p e = 35) ∧ (((m : Int) + (p : Int)) ∈ ks → (e : Int) ∉ ks → sg2 cl p e = 46)
end Mine

set_option linter.all false
namespace Mine
open L2
/-- a way of so many steps -/
inductive Wy (tss : List (List Int)) (s : Nat) : Nat → Nat → Prop where
  | nil : Wy tss s 0 s
  | snoc {v w L : Nat} (h : Wy tss s L v) (e : (w : Int) ∈ tss.getD v []) : Wy tss s (L + 1) w
theorem Wy.last {tss : List (List Int)} {s L w : Nat} (h : Wy tss s (L + 1) w) : ∃ v, Wy tss s L v ∧ (w : Int) ∈ tss.getD v [] := by
  cases h with
  | snoc h e => exact ⟨_, h, e⟩
theorem Wy.first {tss : List (List Int)} {s w : Nat} (h : Wy tss s 0 w) : w = s := by
  cases h
  rfl
/-- what a search has found: each strand with the one ahead of it, and how far it is -/
structure Bf (tss : List (List Int)) (s : Nat) (ps : List (Nat × Option Nat)) (dp : List Nat) : Prop where
  len : dp.length = ps.length
  st : ps[0]? = some (s, none) ∧ dp[0]? = some 0
  nd : ∀ (i j v : Nat) (a b : Option Nat), ps[i]? = some (v, a) → ps[j]? = some (v, b) → i = j
  lt : ∀ (v : Nat) (a : Option Nat), (v, a) ∈ ps → v < tss.length
  par : ∀ (i v : Nat) (a : Option Nat), 0 < i → ps[i]? = some (v, a) → ∃ (j u : Nat) (b : Option Nat) (d : Nat), a = some u ∧ j < i ∧ ps[j]? = some (u, b) ∧ dp[j]? = some d ∧ dp[i]? = some (d + 1) ∧ (v : Int) ∈ tss.getD u []
  mono : ∀ (i j a b : Nat), i ≤ j → dp[i]? = some a → dp[j]? = some b → a ≤ b
theorem Bf.one {tss : List (List Int)} {s : Nat} (h : s < tss.length) : Bf tss s [(s, none)] [0] := by
  refine ⟨rfl, ⟨rfl, rfl⟩, fun i j v a b h1 h2 => ?_, fun v a h1 => ?_, fun i v a h0 h1 => ?_, fun i j a b _ h1 h2 => ?_⟩
  · have g1 := (List.getElem?_eq_some_iff.mp h1).1
    have g2 := (List.getElem?_eq_some_iff.mp h2).1
    simp at g1 g2
    omega
  · have : (v, a) = (s, none) := by simpa using h1
    cases this
    exact h
  · have g1 := (List.getElem?_eq_some_iff.mp h1).1
    simp at g1
    omega
  · have g1 := (List.getElem?_eq_some_iff.mp h1).1
    have g2 := (List.getElem?_eq_some_iff.mp h2).1
    simp at g1 g2
    subst g1
    subst g2
    rw [h1] at h2
    cases h2
    exact Nat.le_refl _
theorem app_old {α : Type} {l : List α} {x y : α} {i : Nat} (h : (l ++ [x])[i]? = some y) : (i < l.length ∧ l[i]? = some y) ∨ (i = l.length ∧ y = x) := by
  by_cases hi : i < l.length
  · rw [List.getElem?_append_left hi] at h
    exact .inl ⟨hi, h⟩
  · have hlt := (List.getElem?_eq_some_iff.mp h).1
    rw [List.length_append] at hlt
    have hlt : i < l.length + 1 := hlt
    have e : i = l.length := by omega
    subst e
    rw [List.getElem?_append_right (Nat.le_refl _), Nat.sub_self] at h
    cases h
    exact .inr ⟨rfl, rfl⟩
theorem app_in {α : Type} {l : List α} {x y : α} {i : Nat} (h : l[i]? = some y) : (l ++ [x])[i]? = some y := by
  rw [List.getElem?_append_left (List.getElem?_eq_some_iff.mp h).1]
  exact h
theorem app_last {α : Type} (l : List α) (x : α) : (l ++ [x])[l.length]? = some x := by
  rw [List.getElem?_append_right (Nat.le_refl _), Nat.sub_self]
  rfl
theorem Bf.add {tss : List (List Int)} {s : Nat} {ps : List (Nat × Option Nat)} {dp : List Nat} (B : Bf tss s ps dp) {pl u v d : Nat} {b : Option Nat} (hp : ps[pl]? = some (u, b)) (hd : dp[pl]? = some d) (near : ∀ j x : Nat, dp[j]? = some x → x ≤ d + 1)
    (he : (v : Int) ∈ tss.getD u []) (hv : v < tss.length) (new : ∀ (i : Nat) (a : Option Nat), ps[i]? ≠ some (v, a)) : Bf tss s (ps ++ [(v, some u)]) (dp ++ [d + 1]) := by
  have pl1 := (List.getElem?_eq_some_iff.mp hp).1
  refine ⟨by rw [List.length_append, List.length_append, B.len]; rfl, ⟨app_in B.st.1, app_in B.st.2⟩, fun i j w a c h1 h2 => ?_, fun w a h1 => ?_, fun i w a h0 h1 => ?_, fun i j a c hij h1 h2 => ?_⟩
  · rcases app_old h1 with ⟨i1, g1⟩ | ⟨i1, g1⟩ <;> rcases app_old h2 with ⟨j1, g2⟩ | ⟨j1, g2⟩
    · exact B.nd i j w a c g1 g2
    · cases g2; exact absurd g1 (new i a)
    · cases g1; exact absurd g2 (new j c)
    · omega
  · rcases List.mem_append.mp h1 with h | h
    · exact B.lt w a h
    · have : (w, a) = (v, some u) := by simpa using h
      cases this
      exact hv
  · rcases app_old h1 with ⟨i1, g1⟩ | ⟨i1, g1⟩
    · obtain ⟨j, x, c, e, q1, q2, q3, q4, q5, q6⟩ := B.par i w a h0 g1
      exact ⟨j, x, c, e, q1, q2, app_in q3, app_in q4, app_in q5, q6⟩
    · cases g1
      refine ⟨pl, u, b, d, rfl, by omega, app_in hp, app_in hd, ?_, he⟩
      rw [i1, ← B.len]
      exact app_last _ _
  · rcases app_old h1 with ⟨i1, g1⟩ | ⟨i1, g1⟩ <;> rcases app_old h2 with ⟨j1, g2⟩ | ⟨j1, g2⟩
    · exact B.mono i j a c hij g1 g2
    · rw [g2]; exact near i a g1
    · omega
    · rw [g1, g2]; exact Nat.le_refl _
/-- of those ahead of a place all that lies below is found -/
def Dn (tss : List (List Int)) (ps : List (Nat × Option Nat)) (dp : List Nat) (pl : Nat) : Prop :=
  ∀ (i u : Nat) (b : Option Nat) (a : Nat), i < pl → ps[i]? = some (u, b) → dp[i]? = some a → ∀ w : Nat, (w : Int) ∈ tss.getD u [] → ∃ (j : Nat) (c : Option Nat) (x : Nat), ps[j]? = some (w, c) ∧ dp[j]? = some x ∧ x ≤ a + 1
theorem Dn.zero {tss : List (List Int)} {ps : List (Nat × Option Nat)} {dp : List Nat} : Dn tss ps dp 0 := fun i u b a h => absurd h (Nat.not_lt_zero _)
theorem Dn.app {tss : List (List Int)} {ps : List (Nat × Option Nat)} {dp : List Nat} {pl : Nat} (D : Dn tss ps dp pl) (hl : dp.length = ps.length) (hp : pl ≤ ps.length) (q : Nat × Option Nat) (e : Nat) : Dn tss (ps ++ [q]) (dp ++ [e]) pl := fun i u b a hi h1 h2 w hw => by
  rcases app_old h1 with ⟨_, g1⟩ | ⟨i1, _⟩
  · rcases app_old h2 with ⟨_, g2⟩ | ⟨i2, _⟩
    · obtain ⟨j, c, x, q1, q2, q3⟩ := D i u b a hi g1 g2 w hw
      exact ⟨j, c, x, app_in q1, app_in q2, q3⟩
    · omega
  · omega
theorem Bf.sound {tss : List (List Int)} {s : Nat} {ps : List (Nat × Option Nat)} {dp : List Nat} (B : Bf tss s ps dp) : ∀ (j v : Nat) (c : Option Nat) (x : Nat), ps[j]? = some (v, c) → dp[j]? = some x → Wy tss s x v ∧ x ≤ j := by
  intro j
  induction j using Nat.strongRecOn with
  | ind j ih =>
    intro v c x h1 h2
    by_cases h0 : j = 0
    · subst h0
      rw [B.st.1] at h1
      rw [B.st.2] at h2
      cases h1
      cases h2
      exact ⟨.nil, Nat.le_refl _⟩
    · obtain ⟨i, u, b, d, e1, hi, e3, e4, e5, e6⟩ := B.par j v c (by omega) h1
      rw [e5] at h2
      cases h2
      obtain ⟨w1, w2⟩ := ih i hi u b d e3 e4
      exact ⟨.snoc w1 e6, by omega⟩
theorem Bf.reach {tss : List (List Int)} {s : Nat} {ps : List (Nat × Option Nat)} {dp : List Nat} (B : Bf tss s ps dp) (D : Dn tss ps dp ps.length) : ∀ (L v : Nat), Wy tss s L v → ∃ (j : Nat) (c : Option Nat) (x : Nat), ps[j]? = some (v, c) ∧ dp[j]? = some x ∧ x ≤ L := by
  intro L
  induction L with
  | zero =>
    intro v h
    rw [h.first]
    exact ⟨0, none, 0, B.st.1, B.st.2, Nat.le_refl _⟩
  | succ L ih =>
    intro v h
    obtain ⟨u, hu, e⟩ := h.last
    obtain ⟨j, c, x, h1, h2, h3⟩ := ih u hu
    obtain ⟨k, c', y, g1, g2, g3⟩ := D j u c x (List.getElem?_eq_some_iff.mp h1).1 h1 h2 v e
    exact ⟨k, c', y, g1, g2, by omega⟩
/-- numbers below N that differ are at most N -/
theorem nodup_le : ∀ (N : Nat) (l : List Nat), l.Nodup → (∀ v ∈ l, v < N) → l.length ≤ N := by
  intro N
  induction N with
  | zero =>
    intro l _ h
    cases l with
    | nil => simp
    | cons a l => exact absurd (h a List.mem_cons_self) (Nat.not_lt_zero _)
  | succ N ih =>
    intro l nd h
    by_cases m : N ∈ l
    · have h1 := ih (l.erase N) (nd.erase N) fun v hv => by
        have h2 := h v (List.mem_of_mem_erase hv)
        have h3 : v ≠ N := fun e => by
          rw [e] at hv
          exact (List.Nodup.not_mem_erase nd) hv
        omega
      rw [List.length_erase_of_mem m] at h1
      omega
    · have h1 := ih l nd fun v hv => by
        have h2 := h v hv
        have h3 : v ≠ N := fun e => m (e ▸ hv)
        omega
      omega
theorem Bf.small {tss : List (List Int)} {s : Nat} {ps : List (Nat × Option Nat)} {dp : List Nat} (B : Bf tss s ps dp) : ps.length ≤ tss.length := by
  have h := nodup_le tss.length (ps.map (·.1)) ?_ ?_
  · rwa [List.length_map] at h
  · rw [List.nodup_iff_pairwise_ne, List.pairwise_iff_getElem]
    intro i j hi hj hij e
    rw [List.length_map] at hi hj
    simp only [List.getElem_map] at e
    have g1 : ps[i]? = some (ps[i].1, ps[i].2) := List.getElem?_eq_getElem hi
    have g2 : ps[j]? = some (ps[i].1, ps[j].2) := by rw [e]; exact List.getElem?_eq_getElem hj
    have := B.nd i j _ _ _ g1 g2
    omega
  · intro v hv
    obtain ⟨p, hp, rfl⟩ := List.mem_map.mp hv
    exact B.lt p.1 p.2 hp
/-- a list of strands, each above the next -/
def Pth (tss : List (List Int)) (l : List Nat) : Prop := ∀ (i a b : Nat), l[i]? = some a → l[i + 1]? = some b → (b : Int) ∈ tss.getD a []
end Mine

set_option linter.all false
namespace Mine
open L2
/-- a set of strands, as the program has it -/
structure NS (N : Nat) (ws : List Nat) : Prop where
  ne : ws ≠ []
  up : ws.Pairwise (· < ·)
  lt : ∀ v ∈ ws, v < N
def cI (ws : List Nat) : List Int := ws.map fun v => ((v : Nat) : Int)
theorem cI_mem {ws : List Nat} {v : Nat} : (v : Int) ∈ cI ws ↔ v ∈ ws := by
  unfold cI
  rw [List.mem_map]
  constructor
  · rintro ⟨u, hu, e⟩
    have : u = v := by omega
    rw [← this]; exact hu
  · exact fun h => ⟨v, h, rfl⟩
theorem cI_len (ws : List Nat) : (cI ws).length = ws.length := by unfold cI; rw [List.length_map]
theorem NS.nodup {N : Nat} {ws : List Nat} (h : NS N ws) : ws.Nodup := by
  rw [List.nodup_iff_pairwise_ne]
  exact h.up.imp fun {a b} h => Nat.ne_of_lt h
theorem nodup_sub : ∀ (l ws : List Nat), l.Nodup → (∀ v ∈ l, v ∈ ws) → l.length ≤ ws.length
  | [], ws, _, _ => Nat.zero_le _
  | a :: l, ws, nd, h => by
    obtain ⟨na, nl⟩ := List.nodup_cons.mp nd
    have ha := h a List.mem_cons_self
    have := nodup_sub l (ws.erase a) nl fun v hv => by
      refine (List.mem_erase_of_ne (fun (e : v = a) => na (by rw [← e]; exact hv))).mpr (h v (List.mem_cons_of_mem _ hv))
    rw [List.length_erase_of_mem ha] at this
    have : 0 < ws.length := List.length_pos_of_mem ha
    rw [List.length_cons]
    omega
theorem NS.len {N : Nat} {ws : List Nat} (h : NS N ws) : ws.length ≤ N := nodup_le N ws h.nodup h.lt
/-- what lies below, within the set -/
def narR (tss : List (List Int)) (ws : List Nat) (v : Nat) : List Int := (tss.getD v []).filter fun z => decide (z ∈ cI ws)
def narK (tss : List (List Int)) (ws us : List Nat) : List (List Int) := (List.range tss.length).map fun v => if v ∈ us then narR tss ws v else []
def nar (tss : List (List Int)) (ws : List Nat) : List (List Int) := narK tss ws ws
theorem narK_len (tss : List (List Int)) (ws us : List Nat) : (narK tss ws us).length = tss.length := by unfold narK; rw [List.length_map, List.length_range]
theorem narK_get {tss : List (List Int)} {ws us : List Nat} {v : Nat} (h : v < tss.length) : (narK tss ws us)[v]? = some (if v ∈ us then narR tss ws v else []) := by
  unfold narK
  rw [List.getElem?_map, List.getElem?_range h]
  rfl
theorem mem_nar {tss : List (List Int)} {ws : List Nat} {v : Nat} {z : Int} : z ∈ (nar tss ws).getD v [] ↔ v ∈ ws ∧ z ∈ cI ws ∧ z ∈ tss.getD v [] := by
  by_cases h : v < tss.length
  · rw [List.getD_eq_getElem?_getD, nar, narK_get h, Option.getD_some]
    by_cases hv : v ∈ ws
    · rw [if_pos hv, narR, List.mem_filter, decide_eq_true_iff]
      exact ⟨fun z => ⟨hv, z.2, z.1⟩, fun z => ⟨z.2.2, z.2.1⟩⟩
    · rw [if_neg hv]
      exact ⟨fun z => (by cases z), fun z => absurd z.1 hv⟩
  · rw [List.getD_eq_getElem?_getD, List.getElem?_eq_none (by rw [nar, narK_len]; omega), List.getD_eq_getElem?_getD, List.getElem?_eq_none (by omega : tss.length ≤ v)]
    exact ⟨fun z => (by cases z), fun z => (by cases z.2.2)⟩
theorem wy_in {tss : List (List Int)} {ws : List Nat} {s : Nat} (hs : s ∈ ws) : ∀ {L v : Nat}, Wy (nar tss ws) s L v → v ∈ ws
  | _, _, .nil => hs
  | _, _, .snoc _ e => cI_mem.mp (mem_nar.mp e).2.1
theorem Bf.keys {tss : List (List Int)} {s : Nat} {ps : List (Nat × Option Nat)} {dp : List Nat} (B : Bf tss s ps dp) : (ps.map (·.1)).Nodup := by
  rw [List.nodup_iff_pairwise_ne, List.pairwise_iff_getElem]
  intro i j hi hj hij e
  rw [List.length_map] at hi hj
  simp only [List.getElem_map] at e
  have g1 : ps[i]? = some (ps[i].1, ps[i].2) := List.getElem?_eq_getElem hi
  have g2 : ps[j]? = some (ps[i].1, ps[j].2) := by rw [e]; exact List.getElem?_eq_getElem hj
  have := B.nd i j _ _ _ g1 g2
  omega
theorem key_at {ps : List (Nat × Option Nat)} {v : Nat} (h : v ∈ ps.map (·.1)) : ∃ (j : Nat) (c : Option Nat), ps[j]? = some (v, c) := by
  obtain ⟨p, hp, rfl⟩ := List.mem_map.mp h
  obtain ⟨j, hj, e⟩ := List.getElem_of_mem hp
  exact ⟨j, p.2, by rw [List.getElem?_eq_getElem hj, e]⟩
theorem Bf.sub {tss : List (List Int)} {ws : List Nat} {s : Nat} {ps : List (Nat × Option Nat)} {dp : List Nat} (B : Bf (nar tss ws) s ps dp) (hs : s ∈ ws) : ∀ v ∈ ps.map (·.1), v ∈ ws := fun v hv => by
  obtain ⟨j, c, g⟩ := key_at hv
  have hj : j < dp.length := by rw [B.len]; exact (List.getElem?_eq_some_iff.mp g).1
  exact wy_in hs (B.sound j v c dp[j] g (List.getElem?_eq_getElem hj)).1
theorem Bf.full {tss : List (List Int)} {ws : List Nat} {s : Nat} {ps : List (Nat × Option Nat)} {dp : List Nat} (B : Bf (nar tss ws) s ps dp) (hs : s ∈ ws) (h : ws.length ≤ ps.length) : ∀ v ∈ ws, ∃ (j : Nat) (c : Option Nat), ps[j]? = some (v, c) := fun v hv => by
  by_cases hin : v ∈ ps.map (·.1)
  · exact key_at hin
  · have := nodup_sub _ (ws.erase v) B.keys fun u hu => (List.mem_erase_of_ne (fun (e : u = v) => hin (by rw [← e]; exact hu))).mpr (B.sub hs u hu)
    rw [List.length_map, List.length_erase_of_mem hv] at this
    have : 0 < ws.length := List.length_pos_of_mem hv
    omega
theorem Bf.miss {tss : List (List Int)} {ws : List Nat} {s N : Nat} {ps : List (Nat × Option Nat)} {dp : List Nat} (hw : NS N ws) (h : ps.length < ws.length) : ∃ v ∈ ws, v ∉ ps.map (·.1) := by
  refine Classical.byContradiction fun hc => ?_
  have := nodup_sub ws (ps.map (·.1)) hw.nodup fun v hv => Classical.byContradiction fun hn => hc ⟨v, hv, hn⟩
  rw [List.length_map] at this
  omega
/-- each strand of the set reaches each other -/
def Conn (tss : List (List Int)) (ws : List Nat) : Prop := ∀ u ∈ ws, ∀ v ∈ ws, ∃ L, Wy (nar tss ws) u L v
/-- a part that can be lifted off -/
structure Lf (tss : List (List Int)) (ws fs : List Nat) : Prop where
  ne : fs ≠ []
  len : fs.length < ws.length
  sub : ∀ v ∈ fs, v ∈ ws
  up : fs.Pairwise (· < ·)
  off : ∀ o ∈ ws, o ∉ fs → ∀ v ∈ fs, (v : Int) ∉ tss.getD o []
theorem filter_lt {ws : List Nat} {p : Nat → Bool} {s : Nat} (hs : s ∈ ws) (hp : p s = false) : (ws.filter p).length < ws.length := by
  have h1 := List.length_filter_le p ws
  refine Nat.lt_of_le_of_ne h1 fun e => ?_
  have := List.length_filter_eq_length_iff.mp e s hs
  rw [hp] at this
  cases this
theorem Bf.lift {tss : List (List Int)} {ws : List Nat} {s N : Nat} {ps : List (Nat × Option Nat)} {dp : List Nat} (B : Bf (nar tss ws) s ps dp) (D : Dn (nar tss ws) ps dp ps.length) (hw : NS N ws) (hs : s ∈ ws) (h : ps.length < ws.length) :
    ¬ Conn tss ws ∧ Lf tss ws (ws.filter fun v => decide (v ∉ ps.map (·.1))) := by
  obtain ⟨v, hv, hn⟩ := Bf.miss (tss := tss) (s := s) (dp := dp) hw h
  have s0 : s ∈ ps.map (·.1) := List.mem_map.mpr ⟨(s, none), List.mem_of_getElem? B.st.1, rfl⟩
  refine ⟨fun hc => ?_, fun e => ?_, filter_lt hs (by simp only [decide_eq_false_iff_not, Classical.not_not]; exact s0), fun u hu => (List.mem_filter.mp hu).1, hw.up.filter _, fun o ho hno u hu e => ?_⟩
  · obtain ⟨L, hL⟩ := hc s hs v hv
    obtain ⟨j, c, x, g, _⟩ := B.reach D L v hL
    exact hn (List.mem_map.mpr ⟨(v, c), List.mem_of_getElem? g, rfl⟩)
  · have : v ∈ ws.filter fun v => decide (v ∉ ps.map (·.1)) := List.mem_filter.mpr ⟨hv, decide_eq_true hn⟩
    rw [e] at this
    cases this
  · obtain ⟨hu1, hu2⟩ := List.mem_filter.mp hu
    have hu2 := of_decide_eq_true hu2
    have ho2 : o ∈ ps.map (·.1) := Classical.byContradiction fun hn => hno (List.mem_filter.mpr ⟨ho, decide_eq_true hn⟩)
    obtain ⟨j, c, g⟩ := key_at ho2
    have hj : j < dp.length := by rw [B.len]; exact (List.getElem?_eq_some_iff.mp g).1
    obtain ⟨w1, _⟩ := B.sound j o c dp[j] g (List.getElem?_eq_getElem hj)
    obtain ⟨j', c', x', g', _⟩ := B.reach D _ u (.snoc w1 (mem_nar.mpr ⟨ho, cI_mem.mpr hu1, e⟩))
    exact hu2 (List.mem_map.mpr ⟨(u, c'), List.mem_of_getElem? g', rfl⟩)
/-- a way round -/
structure Rd (tss : List (List Int)) (ws found : List Nat) : Prop where
  fst : found[0]? = ws[0]?
  ins : ∀ v ∈ found, v ∈ ws
  all : ∀ v ∈ ws, v ∈ found
  len : found.length ≤ ws.length * ws.length
  one : ws.length = 1 → found = ws
  nxt : 1 < ws.length → ∀ i a b : Nat, found[i]? = some a → found[(i + 1) % found.length]? = some b → (b : Int) ∈ tss.getD a []
/-- the way round, as far as it has been gone -/
structure Wk (tss : List (List Int)) (ws : List Nat) (f i : Nat) (as bs : List Nat) (c : Nat) : Prop where
  e : as = bs ++ [c]
  fst : as[0]? = some f
  ins : ∀ v ∈ as, v ∈ ws
  has : ∀ v ∈ ws.take (i + 1), v ∈ as
  pth : Pth (nar tss ws) as
  len : as.length ≤ 1 + i * (ws.length - 1)
  lst : (i = 0 ∧ as = [f]) ∨ (0 < i ∧ c ≠ f)
end Mine

set_option linter.all false
namespace Mine
open L2
/-- what can be reached -/
inductive Rc (E : Nat → Nat → Prop) (s : Nat) : Nat → Prop where
  | nil : Rc E s s
  | snoc {v w : Nat} (h : Rc E s v) (e : E v w) : Rc E s w
theorem Rc.trans {E : Nat → Nat → Prop} {a b c : Nat} (h1 : Rc E a b) (h2 : Rc E b c) : Rc E a c := by
  induction h2 with
  | nil => exact h1
  | snoc _ e ih => exact .snoc ih e
theorem Rc.mono {E F : Nat → Nat → Prop} (h : ∀ u v, E u v → F u v) {a b : Nat} (r : Rc E a b) : Rc F a b := by
  induction r with
  | nil => exact .nil
  | snoc _ e ih => exact .snoc ih (h _ _ e)
/-- each reaches each -/
def SC (N : Nat) (E : Nat → Nat → Prop) : Prop := ∀ u v : Nat, u < N → v < N → Rc E u v
/-- without one step -/
def del (E : Nat → Nat → Prop) (a b : Nat) : Nat → Nat → Prop := fun u v => E u v ∧ ¬ (u = a ∧ v = b)
theorem sc_mono {N : Nat} {E F : Nat → Nat → Prop} (h : ∀ u v, E u v → F u v) (s : SC N E) : SC N F := fun u v hu hv => (s u v hu hv).mono h
theorem sc_del {N : Nat} {E : Nat → Nat → Prop} {a b : Nat} (s : SC N E) (r : Rc (del E a b) a b) : SC N (del E a b) := fun u v hu hv => by
  have key : ∀ {x : Nat}, Rc E u x → Rc (del E a b) u x := fun {x} h => by
    induction h with
    | nil => exact .nil
    | @snoc y z _ e ih =>
      by_cases q : y = a ∧ z = b
      · rw [q.2]
        rw [q.1] at ih
        exact ih.trans r
      · exact .snoc ih ⟨e, q⟩
  exact key (s u v hu hv)
/-- in a cloth of two ends and two picks at the least one of the two ways of a place keeps all together -/
theorem sc_other {m n : Nat} {E : Nat → Nat → Prop} (hm : 2 ≤ m) (hn : 2 ≤ n) (full : ∀ e p : Nat, e < m → p < n → E e (m + p) ∨ E (m + p) e) (s : SC (m + n) E) {e p : Nat} (he : e < m) (hp : p < n)
    (no : ¬ Rc (del E (m + p) e) (m + p) e) : SC (m + n) (del E e (m + p)) := by
  refine sc_del s (Classical.byContradiction fun hT => ?_)
  obtain ⟨u, eu⟩ : ∃ u, u = m + p := ⟨_, rfl⟩
  rw [← eu] at no hT
  have lS : ∀ {x y : Nat}, Rc (del E u e) u x → E x y → Rc (del E u e) u y ∨ (x = u ∧ y = e) := fun {x y} h g => by
    by_cases q : x = u ∧ y = e
    · exact .inr q
    · exact .inl (.snoc h ⟨g, q⟩)
  have lT : ∀ {x y : Nat}, Rc (del E e u) e x → E x y → Rc (del E e u) e y ∨ (x = e ∧ y = u) := fun {x y} h g => by
    by_cases q : x = e ∧ y = u
    · exact .inr q
    · exact .inl (.snoc h ⟨g, q⟩)
  have both : ∀ {x : Nat}, x < m + n → Rc (del E u e) u x → Rc (del E e u) e x → False := fun {x} hx h1 h2 => by
    have key : ∀ {y : Nat}, Rc E x y → Rc (del E u e) u y ∧ Rc (del E e u) e y := fun {y} h => by
      induction h with
      | nil => exact ⟨h1, h2⟩
      | @snoc y z _ g ih =>
        obtain ⟨i1, i2⟩ := ih
        refine ⟨?_, ?_⟩
        · rcases lS i1 g with q | q
          · exact q
          · rw [q.1] at i2; exact absurd i2 hT
        · rcases lT i2 g with q | q
          · exact q
          · rw [q.1] at i1; exact absurd i1 no
    exact hT (key (s x u hx (by omega))).2
  have all : ∀ {y : Nat}, y < m + n → Rc (del E u e) u y ∨ Rc (del E e u) e y := fun {y} hy => by
    have key : ∀ {y : Nat}, Rc E u y → Rc (del E u e) u y ∨ Rc (del E e u) e y := fun {y} h => by
      induction h with
      | nil => exact .inl .nil
      | @snoc y z _ g ih =>
        rcases ih with i | i
        · rcases lS i g with q | q
          · exact .inl q
          · rw [q.2]; exact .inr .nil
        · rcases lT i g with q | q
          · exact .inr q
          · rw [q.2]; exact .inl .nil
    exact key (s u y (by omega) hy)
  obtain ⟨e', he', hee⟩ : ∃ e', e' < m ∧ e' ≠ e := by
    by_cases h : e = 0
    · exact ⟨1, by omega, by omega⟩
    · exact ⟨0, by omega, by omega⟩
  obtain ⟨p', hp', hpp⟩ : ∃ p', p' < n ∧ p' ≠ p := by
    by_cases h : p = 0
    · exact ⟨1, by omega, by omega⟩
    · exact ⟨0, by omega, by omega⟩
  have Se : Rc (del E u e) u e' := by
    rcases all (y := e') (by omega) with h | h
    · exact h
    · rcases full e' p he' hp with g | g
      · rw [← eu] at g
        rcases lT h g with q | q
        · exact absurd q hT
        · exact absurd q.1 hee
      · rw [← eu] at g
        rcases lS .nil g with q | q
        · exact q
        · exact absurd q.2 hee
  have Tp : Rc (del E e u) e (m + p') := by
    rcases all (y := m + p') (by omega) with h | h
    · rcases full e p' he hp' with g | g
      · rcases lT .nil g with q | q
        · exact q
        · omega
      · rcases lS h g with q | q
        · exact absurd q no
        · omega
    · exact h
  rcases full e' p' he' hp' with g | g
  · rcases lS Se g with q | q
    · exact both (by omega) q Tp
    · omega
  · rcases lT Tp g with q | q
    · exact both (by omega) Se q
    · omega
end Mine

set_option linter.all false
namespace Mine
open L2
/-- what lies over what, by the signs: 35 the end over the pick, 46 the pick over the end, 63 both -/
def Ed (m n : Nat) (sg : Nat → Nat → Nat) (u v : Nat) : Prop := (∃ p, p < n ∧ u < m ∧ v = m + p ∧ sg p u ≠ 46) ∨ (∃ p, p < n ∧ v < m ∧ u = m + p ∧ sg p v ≠ 35)
/-- ahead of a place the one, from it on the other -/
def mix (a b : Nat → Nat → Nat) (i j : Nat) : Nat → Nat → Nat := fun p e => if p < i ∨ (p = i ∧ e < j) then a p e else b p e
theorem Ed.mono {m n : Nat} {a b : Nat → Nat → Nat} (h : ∀ p e, p < n → e < m → (a p e ≠ 46 → b p e ≠ 46) ∧ (a p e ≠ 35 → b p e ≠ 35)) {u v : Nat} (g : Ed m n a u v) : Ed m n b u v := by
  rcases g with ⟨p, h1, h2, h3, h4⟩ | ⟨p, h1, h2, h3, h4⟩
  · exact .inl ⟨p, h1, h2, h3, (h p u h1 h2).1 h4⟩
  · exact .inr ⟨p, h1, h2, h3, (h p v h1 h2).2 h4⟩
theorem Ed.full {m n : Nat} (a : Nat → Nat → Nat) {e p : Nat} (he : e < m) (hp : p < n) : Ed m n a e (m + p) ∨ Ed m n a (m + p) e := by
  by_cases h : a p e = 46
  · exact .inr (.inr ⟨p, hp, he, rfl, by rw [h]; decide⟩)
  · exact .inl (.inl ⟨p, hp, he, rfl, h⟩)
/-- the finished cloth f of a half cloth h -/
structure Fnd (m n : Nat) (h f : Nat → Nat → Nat) : Prop where
  sg : ∀ p e, p < n → e < m → f p e = 35 ∨ f p e = 46
  eq : ∀ p e, p < n → e < m → h p e ≠ 63 → f p e = h p e
  at' : ∀ p e, p < n → e < m → h p e = 63 → (f p e = 35 ↔ Rc (del (Ed m n (mix f h p e)) (m + p) e) (m + p) e)
  sc : SC (m + n) (Ed m n f)
theorem rc_congr {m n : Nat} {a b : Nat → Nat → Nat} (h : ∀ p e, p < n → e < m → a p e = b p e) {x y u v : Nat} (r : Rc (del (Ed m n a) x y) u v) : Rc (del (Ed m n b) x y) u v :=
  r.mono fun _ _ g => ⟨Ed.mono (fun p e hp he => by rw [h p e hp he]; exact ⟨fun z => z, fun z => z⟩) g.1, g.2⟩
end Mine

set_option linter.all false
namespace Mine
open L2
/-- a place set -/
def set2 (a : Nat → Nat → Nat) (i j c : Nat) : Nat → Nat → Nat := fun p e => if p = i ∧ e = j then c else a p e
theorem set2_at (a : Nat → Nat → Nat) (i j c : Nat) : set2 a i j c i j = c := if_pos ⟨rfl, rfl⟩
theorem set2_ne {a : Nat → Nat → Nat} {i j c p e : Nat} (h : ¬ (p = i ∧ e = j)) : set2 a i j c p e = a p e := if_neg h
/-- as far as (i, j) has been gone -/
structure Prc (m n : Nat) (h f : Nat → Nat → Nat) (i j : Nat) : Prop where
  sg : ∀ p e, p < n → e < m → (p < i ∨ (p = i ∧ e < j)) → f p e = 35 ∨ f p e = 46
  eq : ∀ p e, p < n → e < m → (p < i ∨ (p = i ∧ e < j)) → h p e ≠ 63 → f p e = h p e
  at' : ∀ p e, p < n → e < m → (p < i ∨ (p = i ∧ e < j)) → h p e = 63 → (f p e = 35 ↔ Rc (del (Ed m n (mix f h p e)) (m + p) e) (m + p) e)
  sc : SC (m + n) (Ed m n (mix f h i j))
theorem Ed.congr {m n : Nat} {a b : Nat → Nat → Nat} (h : ∀ p e, p < n → e < m → a p e = b p e) {u v : Nat} : Ed m n a u v ↔ Ed m n b u v :=
  ⟨Ed.mono fun p e hp he => (by rw [h p e hp he]; exact ⟨fun z => z, fun z => z⟩), Ed.mono fun p e hp he => (by rw [h p e hp he]; exact ⟨fun z => z, fun z => z⟩)⟩
/-- signs set from the place on change nothing of what is ahead of it -/
theorem mix_set {f h : Nat → Nat → Nat} {i j c p e : Nat} (hb : p < i ∨ (p = i ∧ e ≤ j)) (p' e' : Nat) : mix (set2 f i j c) h p e p' e' = mix f h p e p' e' := by
  unfold mix
  by_cases q : p' < p ∨ (p' = p ∧ e' < e)
  · rw [if_pos q, if_pos q]
    exact set2_ne (by omega)
  · rw [if_neg q, if_neg q]
theorem mix_next (f h : Nat → Nat → Nat) (i j c p e : Nat) : mix (set2 f i j c) h i (j + 1) p e = set2 (mix f h i j) i j c p e := by
  by_cases q : p = i ∧ e = j
  · obtain ⟨rfl, rfl⟩ := q
    rw [set2_at]
    unfold mix
    rw [if_pos (.inr ⟨rfl, by omega⟩), set2_at]
  · rw [set2_ne q]
    unfold mix
    by_cases r : p < i ∨ (p = i ∧ e < j)
    · rw [if_pos r, if_pos (by omega), set2_ne q]
    · rw [if_neg r, if_neg (by omega)]
theorem mix_here (f h : Nat → Nat → Nat) (i j : Nat) : mix f h i j i j = h i j := if_neg (by omega)
theorem ed35 {m n : Nat} {a : Nat → Nat → Nat} {i j : Nat} (hi : i < n) (hj : j < m) (h : a i j = 63) (u v : Nat) : Ed m n (set2 a i j 35) u v ↔ del (Ed m n a) (m + i) j u v := by
  constructor
  · intro g
    refine ⟨g.mono fun p e hp he => ?_, fun c => ?_⟩
    · by_cases q : p = i ∧ e = j
      · rw [q.1, q.2, h]; exact ⟨fun _ => by decide, fun _ => by decide⟩
      · rw [set2_ne q]; exact ⟨fun z => z, fun z => z⟩
    · rcases g with ⟨p, h1, h2, h3, h4⟩ | ⟨p, h1, h2, h3, h4⟩
      · omega
      · have e1 : p = i := by omega
        rw [e1, c.2, set2_at] at h4
        exact h4 rfl
  · rintro ⟨g, c⟩
    rcases g with ⟨p, h1, h2, h3, h4⟩ | ⟨p, h1, h2, h3, h4⟩
    · refine .inl ⟨p, h1, h2, h3, ?_⟩
      by_cases q : p = i ∧ u = j
      · rw [q.1, q.2, set2_at]; decide
      · rw [set2_ne q]; exact h4
    · refine .inr ⟨p, h1, h2, h3, ?_⟩
      rw [set2_ne fun q => c ⟨by omega, q.2⟩]
      exact h4
theorem ed46 {m n : Nat} {a : Nat → Nat → Nat} {i j : Nat} (hi : i < n) (hj : j < m) (h : a i j = 63) (u v : Nat) : Ed m n (set2 a i j 46) u v ↔ del (Ed m n a) j (m + i) u v := by
  constructor
  · intro g
    refine ⟨g.mono fun p e hp he => ?_, fun c => ?_⟩
    · by_cases q : p = i ∧ e = j
      · rw [q.1, q.2, h]; exact ⟨fun _ => by decide, fun _ => by decide⟩
      · rw [set2_ne q]; exact ⟨fun z => z, fun z => z⟩
    · rcases g with ⟨p, h1, h2, h3, h4⟩ | ⟨p, h1, h2, h3, h4⟩
      · have e1 : p = i := by omega
        rw [e1, c.1, set2_at] at h4
        exact h4 rfl
      · omega
  · rintro ⟨g, c⟩
    rcases g with ⟨p, h1, h2, h3, h4⟩ | ⟨p, h1, h2, h3, h4⟩
    · refine .inl ⟨p, h1, h2, h3, ?_⟩
      rw [set2_ne fun q => c ⟨q.2, by omega⟩]
      exact h4
    · refine .inr ⟨p, h1, h2, h3, ?_⟩
      by_cases q : p = i ∧ v = j
      · rw [q.1, q.2, set2_at]; decide
      · rw [set2_ne q]; exact h4
/-- one place more -/
theorem Prc.step {m n : Nat} {h f : Nat → Nat → Nat} {i j c : Nat} (P : Prc m n h f i j) (hi : i < n) (hj : j < m) (hc : c = 35 ∨ c = 46) (he : h i j ≠ 63 → c = h i j)
    (ha : h i j = 63 → (c = 35 ↔ Rc (del (Ed m n (mix f h i j)) (m + i) j) (m + i) j)) (hs : SC (m + n) (Ed m n (set2 (mix f h i j) i j c))) : Prc m n h (set2 f i j c) i (j + 1) := by
  have old : ∀ {p e : Nat}, (p < i ∨ (p = i ∧ e < j + 1)) → ¬ (p = i ∧ e = j) → p < i ∨ (p = i ∧ e < j) := fun {p e} h1 h2 => by omega
  refine ⟨fun p e hp hee b => ?_, fun p e hp hee b q => ?_, fun p e hp hee b q => ?_, sc_mono (fun u v g => (Ed.congr fun p e _ _ => (mix_next f h i j c p e).symm).mp g) hs⟩
  · by_cases z : p = i ∧ e = j
    · rw [z.1, z.2, set2_at]; exact hc
    · rw [set2_ne z]; exact P.sg p e hp hee (old b z)
  · by_cases z : p = i ∧ e = j
    · rw [z.1, z.2, set2_at]; rw [z.1, z.2] at q; exact he q
    · rw [set2_ne z]; exact P.eq p e hp hee (old b z) q
  · have cg : ∀ p' e', p' < n → e' < m → mix (set2 f i j c) h p e p' e' = mix f h p e p' e' := fun p' e' _ _ => mix_set (by omega) p' e'
    have r : Rc (del (Ed m n (mix (set2 f i j c) h p e)) (m + p) e) (m + p) e ↔ Rc (del (Ed m n (mix f h p e)) (m + p) e) (m + p) e := ⟨rc_congr cg, rc_congr fun p' e' h1 h2 => (cg p' e' h1 h2).symm⟩
    rw [r]
    by_cases z : p = i ∧ e = j
    · obtain ⟨rfl, rfl⟩ := z
      rw [set2_at]
      exact ha q
    · rw [set2_ne z]
      exact P.at' p e hp hee (old b z) q
theorem Prc.row {m n : Nat} {h f : Nat → Nat → Nat} {i : Nat} (P : Prc m n h f i m) : Prc m n h f (i + 1) 0 := by
  refine ⟨fun p e hp he b => P.sg p e hp he (by omega), fun p e hp he b => P.eq p e hp he (by omega), fun p e hp he b => P.at' p e hp he (by omega), sc_mono (fun u v g => (Ed.congr fun p e _ he => ?_).mp g) P.sc⟩
  unfold mix
  by_cases q : p < i ∨ (p = i ∧ e < m)
  · rw [if_pos q, if_pos (by omega)]
  · rw [if_neg q, if_neg (by omega)]
theorem Prc.start {m n : Nat} {h : Nat → Nat → Nat} (s : SC (m + n) (Ed m n h)) (f : Nat → Nat → Nat) : Prc m n h f 0 0 := by
  refine ⟨fun p e _ _ b => absurd b (by omega), fun p e _ _ b => absurd b (by omega), fun p e _ _ b => absurd b (by omega), sc_mono (fun u v g => (Ed.congr fun p e _ _ => ?_).mp g) s⟩
  unfold mix
  rw [if_neg (by omega)]
theorem Prc.done {m n : Nat} {h f : Nat → Nat → Nat} (P : Prc m n h f n 0) : Fnd m n h f := by
  refine ⟨fun p e hp he => P.sg p e hp he (.inl hp), fun p e hp he => P.eq p e hp he (.inl hp), fun p e hp he => P.at' p e hp he (.inl hp), sc_mono (fun u v g => (Ed.congr fun p e hp _ => ?_).mp g) P.sc⟩
  unfold mix
  rw [if_pos (.inl hp)]
end Mine

set_option linter.all false
namespace Mine
open L2
theorem mix_cong {f f' h : Nat → Nat → Nat} {i j : Nat} (hf : ∀ p e, (p < i ∨ (p = i ∧ e < j)) → f p e = f' p e) (p e : Nat) : mix f h i j p e = mix f' h i j p e := by
  unfold mix
  by_cases q : p < i ∨ (p = i ∧ e < j)
  · rw [if_pos q, if_pos q]; exact hf p e q
  · rw [if_neg q, if_neg q]
theorem Prc.cong {m n : Nat} {h f f' : Nat → Nat → Nat} {i j : Nat} (P : Prc m n h f i j) (hf : ∀ p e, (p < i ∨ (p = i ∧ e < j)) → f p e = f' p e) : Prc m n h f' i j := by
  refine ⟨fun p e hp he b => by rw [← hf p e b]; exact P.sg p e hp he b, fun p e hp he b q => by rw [← hf p e b]; exact P.eq p e hp he b q, fun p e hp he b q => ?_, sc_mono (fun u v g => (Ed.congr fun p e _ _ => mix_cong hf p e).mp g) P.sc⟩
  have cg : ∀ p' e', p' < n → e' < m → mix f h p e p' e' = mix f' h p e p' e' := fun p' e' _ _ => mix_cong (fun a c hb => hf a c (by omega)) p' e'
  rw [← hf p e b, P.at' p e hp he b q]
  exact ⟨rc_congr cg, rc_congr fun p' e' h1 h2 => (cg p' e' h1 h2).symm⟩
/-- rows done, and the row under way -/
def cur (cf : List (List Nat)) (us : List Nat) : Nat → Nat → Nat := sg2 (cf ++ [us])
theorem cur_row {cf : List (List Nat)} {us : List Nat} {p : Nat} (h : p < cf.length) (e : Nat) : cur cf us p e = (cf.getD p []).getD e 0 := by
  have e1 : (cf ++ [us]).getD p [] = cf.getD p [] := by rw [List.getD_eq_getElem?_getD, List.getElem?_append_left h, ← List.getD_eq_getElem?_getD]
  unfold cur sg2
  rw [e1]
theorem cur_now {cf : List (List Nat)} {us : List Nat} (e : Nat) : cur cf us cf.length e = us.getD e 0 := by
  have e1 : (cf ++ [us]).getD cf.length [] = us := by
    rw [List.getD_eq_getElem?_getD, List.getElem?_append_right (Nat.le_refl _), Nat.sub_self]
    rfl
  unfold cur sg2
  rw [e1]
theorem cur_add {cf : List (List Nat)} {us : List Nat} {c : Nat} (p e : Nat) (b : p < cf.length ∨ (p = cf.length ∧ e < us.length + 1)) : set2 (cur cf us) cf.length us.length c p e = cur cf (us ++ [c]) p e := by
  rcases b with b | ⟨rfl, b⟩
  · rw [set2_ne (by omega), cur_row b, cur_row b]
  · rw [cur_now]
    by_cases q : e = us.length
    · subst q
      rw [set2_at, List.getD_eq_getElem?_getD, List.getElem?_append_right (Nat.le_refl _), Nat.sub_self]
      rfl
    · rw [set2_ne (by omega), cur_now, List.getD_eq_getElem?_getD, List.getD_eq_getElem?_getD, List.getElem?_append_left (by omega)]
theorem cur_end {cf : List (List Nat)} {us : List Nat} (vs : List Nat) (p e : Nat) (b : p < cf.length + 1) : cur cf us p e = cur (cf ++ [us]) vs p e := by
  rw [cur_row (cf := cf ++ [us]) (by rw [List.length_append]; exact b)]
  rfl
/-- the places that the answer sets to the pick's side, in their order -/
def plR (h f : Nat → Nat → Nat) (p j : Nat) : List (Nat × Nat) := ((List.range j).filter fun e => decide (h p e = 63 ∧ f p e = 46)).map fun e => (p, e)
def plS (h f : Nat → Nat → Nat) (m : Nat) : Nat → List (Nat × Nat)
  | 0 => []
  | i + 1 => plS h f m i ++ plR h f i m
theorem plR_step (h f : Nat → Nat → Nat) (p j : Nat) : plR h f p (j + 1) = plR h f p j ++ (if h p j = 63 ∧ f p j = 46 then [(p, j)] else []) := by
  unfold plR
  rw [List.range_succ, List.filter_append, List.map_append]
  by_cases q : h p j = 63 ∧ f p j = 46
  · rw [if_pos q, List.filter_cons_of_pos (by exact decide_eq_true q)]; rfl
  · rw [if_neg q, List.filter_cons_of_neg (by rw [decide_eq_false q]; simp)]; rfl
theorem plR_cong {h f f' : Nat → Nat → Nat} {p : Nat} : ∀ {j : Nat}, (∀ e, e < j → f p e = f' p e) → plR h f p j = plR h f' p j
  | 0, _ => rfl
  | j + 1, hf => by rw [plR_step, plR_step, plR_cong fun e he => hf e (by omega), hf j (by omega)]
theorem plS_cong {h f f' : Nat → Nat → Nat} {m : Nat} : ∀ {i : Nat}, (∀ p e, p < i → e < m → f p e = f' p e) → plS h f m i = plS h f' m i
  | 0, _ => rfl
  | i + 1, hf => by
    show plS h f m i ++ plR h f i m = plS h f' m i ++ plR h f' i m
    rw [plS_cong fun p e hp he => hf p e (by omega) he, plR_cong fun e he => hf i e (by omega) he]
end Mine

set_option linter.all false
namespace Mine
open L2
/-- the one has the other's signs, or a gap -/
def Sub2 (m n : Nat) (h c : Nat → Nat → Nat) : Prop := ∀ p e, p < n → e < m → h p e = 63 ∨ h p e = c p e
def Cl2 (m n : Nat) (c : Nat → Nat → Nat) : Prop := ∀ p e, p < n → e < m → c p e = 35 ∨ c p e = 46
/-- ends below a and picks below b hang together, whatever lies outside -/
def Jn (m n : Nat) (f : Nat → Nat → Nat) (a b : Nat) : Prop := ∀ g : Nat → Nat → Nat, (∀ p e, p < b → e < a → g p e = f p e) →
  (∀ e, e < a → Rc (Ed m n g) 0 e ∧ Rc (Ed m n g) e 0) ∧ ∀ p, p < b → Rc (Ed m n g) 0 (m + p) ∧ Rc (Ed m n g) (m + p) 0
/-- turned round -/
def rot (x m e : Nat) : Nat := if e + x < m then e + x else e + x - m
def unr (x m e : Nat) : Nat := if x ≤ e then e - x else e + m - x
def trn (cl : List (List Nat)) (x y : Nat) : List (List Nat) := (cl.drop y ++ cl.take y).map fun t => t.drop x ++ t.take x
end Mine

set_option Elab.async false
set_option linter.all false
set_option maxRecDepth 100000
set_option maxHeartbeats 4000000
namespace Mine
open PySem L2
def top (i : Nat) : Stmt := PySem.Challenge.pw_heddle_k42_whole_finishing.main.body.getD i (.Pass ⟨0, 0, 0, 0⟩)
abbrev s_measured_texts : Stmt := top 5
theorem sc_measured_texts : FnScope ["texts", "least", "signs", "ends", "text"] ["texts", "least", "signs"] (defScope s_measured_texts) := ⟨rfl, rfl, rfl, by decide +kernel, rfl, by decide +kernel, by decide +kernel⟩
abbrev s_check_pick : Stmt := top 6
theorem sc_check_pick : FnScope ["text", "ends", "signs", "sign"] ["text", "ends", "signs"] (defScope s_check_pick) := ⟨rfl, rfl, rfl, by decide +kernel, rfl, by decide +kernel, by decide +kernel⟩
abbrev s_lower_strands : Stmt := top 8
theorem sc_lower_strands : FnScope ["texts", "ends", "lower", "end", "text"] ["texts"] (defScope s_lower_strands) := ⟨rfl, rfl, rfl, by decide +kernel, rfl, by decide +kernel, by decide +kernel⟩
abbrev s_ways_from : Stmt := top 9
theorem sc_ways_from : FnScope ["lower", "start", "ahead", "found", "place", "one", "other"] ["lower", "start"] (defScope s_ways_from) := ⟨rfl, rfl, rfl, by decide +kernel, rfl, by decide +kernel, by decide +kernel⟩
abbrev s_upper_part : Stmt := top 10
theorem sc_upper_part : FnScope ["lower", "strands", "start", "ahead"] ["lower", "strands"] (defScope s_upper_part) := ⟨rfl, rfl, rfl, by decide +kernel, rfl, by decide +kernel, by decide +kernel⟩
abbrev s_measured_half : Stmt := top 12
theorem sc_measured_half : FnScope ["half"] ["half"] (defScope s_measured_half) := ⟨rfl, rfl, rfl, by decide +kernel, rfl, by decide +kernel, by decide +kernel⟩
abbrev s_finished_cloth : Stmt := top 14
theorem sc_finished_cloth : FnScope ["half", "size", "lower", "cut", "rows", "forced", "pick", "signs", "end", "sign", "strands"] ["half"] (defScope s_finished_cloth) := ⟨rfl, rfl, rfl, by decide +kernel, rfl, by decide +kernel, by decide +kernel⟩
abbrev s_settle : Stmt := top 15
theorem sc_settle : FnScope ["lower", "end", "pick", "ahead"] ["lower", "end", "pick"] (defScope s_settle) := ⟨rfl, rfl, rfl, by decide +kernel, rfl, by decide +kernel, by decide +kernel⟩
abbrev s_law_cell_at : Stmt := top 17
theorem sc_law_cell_at : FnScope ["script", "k"] ["script", "k"] (defScope s_law_cell_at) := ⟨rfl, rfl, rfl, by decide +kernel, rfl, by decide +kernel, by decide +kernel⟩
abbrev s_law_sums : Stmt := top 18
theorem sc_law_sums : FnScope ["script", "behind", "many", "sums", "k", "at"] ["script", "behind", "many"] (defScope s_law_sums) := ⟨rfl, rfl, rfl, by decide +kernel, rfl, by decide +kernel, by decide +kernel⟩
abbrev s_law_sides : Stmt := top 19
theorem sc_law_sides : FnScope ["cell", "rest"] ["cell"] (defScope s_law_sides) := ⟨rfl, rfl, rfl, by decide +kernel, rfl, by decide +kernel, by decide +kernel⟩
abbrev s_law_half : Stmt := top 20
theorem sc_law_half : FnScope ["script", "sides", "some", "start", "sums", "rows", "k", "number", "row", "end"] ["script", "sides"] (defScope s_law_half) := ⟨rfl, rfl, rfl, by decide +kernel, rfl, by decide +kernel, by decide +kernel⟩
abbrev s_law_put : Stmt := top 21
theorem sc_law_put : FnScope ["rows", "pick", "end", "sign", "row"] ["rows", "pick", "end", "sign"] (defScope s_law_put) := ⟨rfl, rfl, rfl, by decide +kernel, rfl, by decide +kernel, by decide +kernel⟩
abbrev s_law_cuts : Stmt := top 22
theorem sc_law_cuts : FnScope ["half", "strands", "ends", "pick", "end", "here", "there"] ["half", "strands"] (defScope s_law_cuts) := ⟨rfl, rfl, rfl, by decide +kernel, rfl, by decide +kernel, by decide +kernel⟩
abbrev s_law_set : Stmt := top 23
theorem sc_law_set : FnScope ["strands", "many", "before", "strand"] ["strands", "many"] (defScope s_law_set) := ⟨rfl, rfl, rfl, by decide +kernel, rfl, by decide +kernel, by decide +kernel⟩
abbrev s_law_met : Stmt := top 24
theorem sc_law_met : FnScope ["rows", "back", "ends", "many", "met", "way", "at", "one", "other", "sign"] ["rows", "back"] (defScope s_law_met) := ⟨rfl, rfl, rfl, by decide +kernel, rfl, by decide +kernel, by decide +kernel⟩
abbrev s_law_rows_fit : Stmt := top 25
theorem sc_law_rows_fit : FnScope ["rows", "half", "pick", "end"] ["rows", "half"] (defScope s_law_rows_fit) := ⟨rfl, rfl, rfl, by decide +kernel, rfl, by decide +kernel, by decide +kernel⟩
abbrev s_law_forced_there : Stmt := top 26
theorem sc_law_forced_there : FnScope ["one", "half", "pick", "end", "k"] ["one", "half", "pick", "end"] (defScope s_law_forced_there) := ⟨rfl, rfl, rfl, by decide +kernel, rfl, by decide +kernel, by decide +kernel⟩
abbrev s_law_forced : Stmt := top 27
theorem sc_law_forced : FnScope ["forced", "rows", "half", "at", "pick", "end"] ["forced", "rows", "half"] (defScope s_law_forced) := ⟨rfl, rfl, rfl, by decide +kernel, rfl, by decide +kernel, by decide +kernel⟩
abbrev s_law : Stmt := top 28
theorem sc_law : FnScope ["script", "half", "handed", "told"] ["script"] (defScope s_law) := ⟨rfl, rfl, rfl, by decide +kernel, rfl, by decide +kernel, by decide +kernel⟩
structure Adr where
  f_measured_texts : Addr
  d_measured_texts : FuncData
  f_check_pick : Addr
  d_check_pick : FuncData
  f_lower_strands : Addr
  d_lower_strands : FuncData
  f_ways_from : Addr
  d_ways_from : FuncData
  f_upper_part : Addr
  d_upper_part : FuncData
  f_measured_half : Addr
  d_measured_half : FuncData
  f_finished_cloth : Addr
  d_finished_cloth : FuncData
  f_settle : Addr
  d_settle : FuncData
  f_law_cell_at : Addr
  d_law_cell_at : FuncData
  f_law_sums : Addr
  d_law_sums : FuncData
  f_law_sides : Addr
  d_law_sides : FuncData
  f_law_half : Addr
  d_law_half : FuncData
  f_law_put : Addr
  d_law_put : FuncData
  f_law_cuts : Addr
  d_law_cuts : FuncData
  f_law_set : Addr
  d_law_set : FuncData
  f_law_met : Addr
  d_law_met : FuncData
  f_law_rows_fit : Addr
  d_law_rows_fit : FuncData
  f_law_forced_there : Addr
  d_law_forced_there : FuncData
  f_law_forced : Addr
  d_law_forced : FuncData
  f_law : Addr
  d_law : FuncData
  e_WeaveError : Addr
  e_NoCloth : Addr
structure Txt (K : PySem.W.Frag) (mg : Str → Option Value) (t : Adr) : Prop where
  measured_texts : Df K mg "measured_texts" s_measured_texts ["texts", "least", "signs"] t.f_measured_texts t.d_measured_texts
  check_pick : Df K mg "check_pick" s_check_pick ["text", "ends", "signs"] t.f_check_pick t.d_check_pick
  lower_strands : Df K mg "lower_strands" s_lower_strands ["texts"] t.f_lower_strands t.d_lower_strands
  ways_from : Df K mg "ways_from" s_ways_from ["lower", "start"] t.f_ways_from t.d_ways_from
  upper_part : Df K mg "upper_part" s_upper_part ["lower", "strands"] t.f_upper_part t.d_upper_part
  measured_half : Df K mg "measured_half" s_measured_half ["half"] t.f_measured_half t.d_measured_half
  finished_cloth : Df K mg "finished_cloth" s_finished_cloth ["half"] t.f_finished_cloth t.d_finished_cloth
  settle : Df K mg "settle" s_settle ["lower", "end", "pick"] t.f_settle t.d_settle
  law_cell_at : Df K mg "_law_cell_at" s_law_cell_at ["script", "k"] t.f_law_cell_at t.d_law_cell_at
  law_sums : Df K mg "_law_sums" s_law_sums ["script", "behind", "many"] t.f_law_sums t.d_law_sums
  law_sides : Df K mg "_law_sides" s_law_sides ["cell"] t.f_law_sides t.d_law_sides
  law_half : Df K mg "_law_half" s_law_half ["script", "sides"] t.f_law_half t.d_law_half
  law_put : Df K mg "_law_put" s_law_put ["rows", "pick", "end", "sign"] t.f_law_put t.d_law_put
  law_cuts : Df K mg "_law_cuts" s_law_cuts ["half", "strands"] t.f_law_cuts t.d_law_cuts
  law_set : Df K mg "_law_set" s_law_set ["strands", "many"] t.f_law_set t.d_law_set
  law_met : Df K mg "_law_met" s_law_met ["rows", "back"] t.f_law_met t.d_law_met
  law_rows_fit : Df K mg "_law_rows_fit" s_law_rows_fit ["rows", "half"] t.f_law_rows_fit t.d_law_rows_fit
  law_forced_there : Df K mg "_law_forced_there" s_law_forced_there ["one", "half", "pick", "end"] t.f_law_forced_there t.d_law_forced_there
  law_forced : Df K mg "_law_forced" s_law_forced ["forced", "rows", "half"] t.f_law_forced t.d_law_forced
  law : Df K mg "law" s_law ["script"] t.f_law t.d_law
  b_bool : mg "bool" = none
  b_int : mg "int" = none
  b_isinstance : mg "isinstance" = none
  b_len : mg "len" = none
  b_list : mg "list" = none
  b_max : mg "max" = none
  b_min : mg "min" = none
  b_range : mg "range" = none
  b_str : mg "str" = none
  b_tuple : mg "tuple" = none
  c_MOST_STRANDS : ∃ tk, mg "MOST_STRANDS" = some (.int 40 tk)
  k_WeaveError : mg "WeaveError" = some (.ref t.e_WeaveError)
  x_WeaveError : Exn K t.e_WeaveError
  r_WeaveError_WeaveError : PySem.W.mroIn K t.e_WeaveError (.ref t.e_WeaveError) = some true
  r_WeaveError_NoCloth : PySem.W.mroIn K t.e_WeaveError (.ref t.e_NoCloth) = some false
  k_NoCloth : mg "NoCloth" = some (.ref t.e_NoCloth)
  x_NoCloth : Exn K t.e_NoCloth
  r_NoCloth_WeaveError : PySem.W.mroIn K t.e_NoCloth (.ref t.e_WeaveError) = some true
  r_NoCloth_NoCloth : PySem.W.mroIn K t.e_NoCloth (.ref t.e_NoCloth) = some true
theorem txt_mk {K : PySem.W.Frag} {h : Heap} {mg : Str → Option Value} {f_measured_texts : Addr} {od_measured_texts an_measured_texts : Option Addr} {sl_measured_texts : Array (Option Value)} {oc_measured_texts kV_measured_texts dc_measured_texts pm_measured_texts cd_measured_texts ct_measured_texts : Value}
    {f_check_pick : Addr} {od_check_pick an_check_pick : Option Addr} {sl_check_pick : Array (Option Value)} {oc_check_pick kV_check_pick dc_check_pick pm_check_pick cd_check_pick ct_check_pick : Value}
    {f_lower_strands : Addr} {od_lower_strands an_lower_strands : Option Addr} {sl_lower_strands : Array (Option Value)} {oc_lower_strands kV_lower_strands dc_lower_strands pm_lower_strands cd_lower_strands ct_lower_strands : Value}
    {f_ways_from : Addr} {od_ways_from an_ways_from : Option Addr} {sl_ways_from : Array (Option Value)} {oc_ways_from kV_ways_from dc_ways_from pm_ways_from cd_ways_from ct_ways_from : Value}
    {f_upper_part : Addr} {od_upper_part an_upper_part : Option Addr} {sl_upper_part : Array (Option Value)} {oc_upper_part kV_upper_part dc_upper_part pm_upper_part cd_upper_part ct_upper_part : Value}
    {f_measured_half : Addr} {od_measured_half an_measured_half : Option Addr} {sl_measured_half : Array (Option Value)} {oc_measured_half kV_measured_half dc_measured_half pm_measured_half cd_measured_half ct_measured_half : Value}
    {f_finished_cloth : Addr} {od_finished_cloth an_finished_cloth : Option Addr} {sl_finished_cloth : Array (Option Value)} {oc_finished_cloth kV_finished_cloth dc_finished_cloth pm_finished_cloth cd_finished_cloth ct_finished_cloth : Value}
    {f_settle : Addr} {od_settle an_settle : Option Addr} {sl_settle : Array (Option Value)} {oc_settle kV_settle dc_settle pm_settle cd_settle ct_settle : Value}
    {f_law_cell_at : Addr} {od_law_cell_at an_law_cell_at : Option Addr} {sl_law_cell_at : Array (Option Value)} {oc_law_cell_at kV_law_cell_at dc_law_cell_at pm_law_cell_at cd_law_cell_at ct_law_cell_at : Value}
    {f_law_sums : Addr} {od_law_sums an_law_sums : Option Addr} {sl_law_sums : Array (Option Value)} {oc_law_sums kV_law_sums dc_law_sums pm_law_sums cd_law_sums ct_law_sums : Value}
    {f_law_sides : Addr} {od_law_sides an_law_sides : Option Addr} {sl_law_sides : Array (Option Value)} {oc_law_sides kV_law_sides dc_law_sides pm_law_sides cd_law_sides ct_law_sides : Value}
    {f_law_half : Addr} {od_law_half an_law_half : Option Addr} {sl_law_half : Array (Option Value)} {oc_law_half kV_law_half dc_law_half pm_law_half cd_law_half ct_law_half : Value}
    {f_law_put : Addr} {od_law_put an_law_put : Option Addr} {sl_law_put : Array (Option Value)} {oc_law_put kV_law_put dc_law_put pm_law_put cd_law_put ct_law_put : Value}
    {f_law_cuts : Addr} {od_law_cuts an_law_cuts : Option Addr} {sl_law_cuts : Array (Option Value)} {oc_law_cuts kV_law_cuts dc_law_cuts pm_law_cuts cd_law_cuts ct_law_cuts : Value}
    {f_law_set : Addr} {od_law_set an_law_set : Option Addr} {sl_law_set : Array (Option Value)} {oc_law_set kV_law_set dc_law_set pm_law_set cd_law_set ct_law_set : Value}
    {f_law_met : Addr} {od_law_met an_law_met : Option Addr} {sl_law_met : Array (Option Value)} {oc_law_met kV_law_met dc_law_met pm_law_met cd_law_met ct_law_met : Value}
    {f_law_rows_fit : Addr} {od_law_rows_fit an_law_rows_fit : Option Addr} {sl_law_rows_fit : Array (Option Value)} {oc_law_rows_fit kV_law_rows_fit dc_law_rows_fit pm_law_rows_fit cd_law_rows_fit ct_law_rows_fit : Value}
    {f_law_forced_there : Addr} {od_law_forced_there an_law_forced_there : Option Addr} {sl_law_forced_there : Array (Option Value)} {oc_law_forced_there kV_law_forced_there dc_law_forced_there pm_law_forced_there cd_law_forced_there ct_law_forced_there : Value}
    {f_law_forced : Addr} {od_law_forced an_law_forced : Option Addr} {sl_law_forced : Array (Option Value)} {oc_law_forced kV_law_forced dc_law_forced pm_law_forced cd_law_forced ct_law_forced : Value}
    {f_law : Addr} {od_law an_law : Option Addr} {sl_law : Array (Option Value)} {oc_law kV_law dc_law pm_law cd_law ct_law : Value}
    {q_MOST_STRANDS : Tok}
    {e_WeaveError : Addr}
    {e_NoCloth : Addr}
    (X : K.In h) (G : h.Ns mainGlobals mg)
    (a_measured_texts : PySem.W.nsIn K mainGlobals "measured_texts" = some (some (.ref f_measured_texts)))
    (l_measured_texts : K.lookup f_measured_texts = some ⟨oc_measured_texts, od_measured_texts, .func (PySem.W.fnOf "measured_texts" "measured_texts" (defArgs s_measured_texts) (defBody s_measured_texts) (defScope s_measured_texts) .none kV_measured_texts dc_measured_texts pm_measured_texts an_measured_texts cd_measured_texts ct_measured_texts), sl_measured_texts⟩)
    (c_measured_texts : PySem.W.codeIn K cd_measured_texts "measured_texts" = true)
    (k_measured_texts : PySem.W.keepIn K (.ref f_measured_texts) = true)
    (a_check_pick : PySem.W.nsIn K mainGlobals "check_pick" = some (some (.ref f_check_pick)))
    (l_check_pick : K.lookup f_check_pick = some ⟨oc_check_pick, od_check_pick, .func (PySem.W.fnOf "check_pick" "check_pick" (defArgs s_check_pick) (defBody s_check_pick) (defScope s_check_pick) .none kV_check_pick dc_check_pick pm_check_pick an_check_pick cd_check_pick ct_check_pick), sl_check_pick⟩)
    (c_check_pick : PySem.W.codeIn K cd_check_pick "check_pick" = true)
    (k_check_pick : PySem.W.keepIn K (.ref f_check_pick) = true)
    (a_lower_strands : PySem.W.nsIn K mainGlobals "lower_strands" = some (some (.ref f_lower_strands)))
    (l_lower_strands : K.lookup f_lower_strands = some ⟨oc_lower_strands, od_lower_strands, .func (PySem.W.fnOf "lower_strands" "lower_strands" (defArgs s_lower_strands) (defBody s_lower_strands) (defScope s_lower_strands) .none kV_lower_strands dc_lower_strands pm_lower_strands an_lower_strands cd_lower_strands ct_lower_strands), sl_lower_strands⟩)
    (c_lower_strands : PySem.W.codeIn K cd_lower_strands "lower_strands" = true)
    (k_lower_strands : PySem.W.keepIn K (.ref f_lower_strands) = true)
    (a_ways_from : PySem.W.nsIn K mainGlobals "ways_from" = some (some (.ref f_ways_from)))
    (l_ways_from : K.lookup f_ways_from = some ⟨oc_ways_from, od_ways_from, .func (PySem.W.fnOf "ways_from" "ways_from" (defArgs s_ways_from) (defBody s_ways_from) (defScope s_ways_from) .none kV_ways_from dc_ways_from pm_ways_from an_ways_from cd_ways_from ct_ways_from), sl_ways_from⟩)
    (c_ways_from : PySem.W.codeIn K cd_ways_from "ways_from" = true)
    (k_ways_from : PySem.W.keepIn K (.ref f_ways_from) = true)
    (a_upper_part : PySem.W.nsIn K mainGlobals "upper_part" = some (some (.ref f_upper_part)))
    (l_upper_part : K.lookup f_upper_part = some ⟨oc_upper_part, od_upper_part, .func (PySem.W.fnOf "upper_part" "upper_part" (defArgs s_upper_part) (defBody s_upper_part) (defScope s_upper_part) .none kV_upper_part dc_upper_part pm_upper_part an_upper_part cd_upper_part ct_upper_part), sl_upper_part⟩)
    (c_upper_part : PySem.W.codeIn K cd_upper_part "upper_part" = true)
    (k_upper_part : PySem.W.keepIn K (.ref f_upper_part) = true)
    (a_measured_half : PySem.W.nsIn K mainGlobals "measured_half" = some (some (.ref f_measured_half)))
    (l_measured_half : K.lookup f_measured_half = some ⟨oc_measured_half, od_measured_half, .func (PySem.W.fnOf "measured_half" "measured_half" (defArgs s_measured_half) (defBody s_measured_half) (defScope s_measured_half) .none kV_measured_half dc_measured_half pm_measured_half an_measured_half cd_measured_half ct_measured_half), sl_measured_half⟩)
    (c_measured_half : PySem.W.codeIn K cd_measured_half "measured_half" = true)
    (k_measured_half : PySem.W.keepIn K (.ref f_measured_half) = true)
    (a_finished_cloth : PySem.W.nsIn K mainGlobals "finished_cloth" = some (some (.ref f_finished_cloth)))
    (l_finished_cloth : K.lookup f_finished_cloth = some ⟨oc_finished_cloth, od_finished_cloth, .func (PySem.W.fnOf "finished_cloth" "finished_cloth" (defArgs s_finished_cloth) (defBody s_finished_cloth) (defScope s_finished_cloth) .none kV_finished_cloth dc_finished_cloth pm_finished_cloth an_finished_cloth cd_finished_cloth ct_finished_cloth), sl_finished_cloth⟩)
    (c_finished_cloth : PySem.W.codeIn K cd_finished_cloth "finished_cloth" = true)
    (k_finished_cloth : PySem.W.keepIn K (.ref f_finished_cloth) = true)
    (a_settle : PySem.W.nsIn K mainGlobals "settle" = some (some (.ref f_settle)))
    (l_settle : K.lookup f_settle = some ⟨oc_settle, od_settle, .func (PySem.W.fnOf "settle" "settle" (defArgs s_settle) (defBody s_settle) (defScope s_settle) .none kV_settle dc_settle pm_settle an_settle cd_settle ct_settle), sl_settle⟩)
    (c_settle : PySem.W.codeIn K cd_settle "settle" = true)
    (k_settle : PySem.W.keepIn K (.ref f_settle) = true)
    (a_law_cell_at : PySem.W.nsIn K mainGlobals "_law_cell_at" = some (some (.ref f_law_cell_at)))
    (l_law_cell_at : K.lookup f_law_cell_at = some ⟨oc_law_cell_at, od_law_cell_at, .func (PySem.W.fnOf "_law_cell_at" "_law_cell_at" (defArgs s_law_cell_at) (defBody s_law_cell_at) (defScope s_law_cell_at) .none kV_law_cell_at dc_law_cell_at pm_law_cell_at an_law_cell_at cd_law_cell_at ct_law_cell_at), sl_law_cell_at⟩)
    (c_law_cell_at : PySem.W.codeIn K cd_law_cell_at "_law_cell_at" = true)
    (k_law_cell_at : PySem.W.keepIn K (.ref f_law_cell_at) = true)
    (a_law_sums : PySem.W.nsIn K mainGlobals "_law_sums" = some (some (.ref f_law_sums)))
    (l_law_sums : K.lookup f_law_sums = some ⟨oc_law_sums, od_law_sums, .func (PySem.W.fnOf "_law_sums" "_law_sums" (defArgs s_law_sums) (defBody s_law_sums) (defScope s_law_sums) .none kV_law_sums dc_law_sums pm_law_sums an_law_sums cd_law_sums ct_law_sums), sl_law_sums⟩)
    (c_law_sums : PySem.W.codeIn K cd_law_sums "_law_sums" = true)
    (k_law_sums : PySem.W.keepIn K (.ref f_law_sums) = true)
    (a_law_sides : PySem.W.nsIn K mainGlobals "_law_sides" = some (some (.ref f_law_sides)))
    (l_law_sides : K.lookup f_law_sides = some ⟨oc_law_sides, od_law_sides, .func (PySem.W.fnOf "_law_sides" "_law_sides" (defArgs s_law_sides) (defBody s_law_sides) (defScope s_law_sides) .none kV_law_sides dc_law_sides pm_law_sides an_law_sides cd_law_sides ct_law_sides), sl_law_sides⟩)
    (c_law_sides : PySem.W.codeIn K cd_law_sides "_law_sides" = true)
    (k_law_sides : PySem.W.keepIn K (.ref f_law_sides) = true)
    (a_law_half : PySem.W.nsIn K mainGlobals "_law_half" = some (some (.ref f_law_half)))
    (l_law_half : K.lookup f_law_half = some ⟨oc_law_half, od_law_half, .func (PySem.W.fnOf "_law_half" "_law_half" (defArgs s_law_half) (defBody s_law_half) (defScope s_law_half) .none kV_law_half dc_law_half pm_law_half an_law_half cd_law_half ct_law_half), sl_law_half⟩)
    (c_law_half : PySem.W.codeIn K cd_law_half "_law_half" = true)
    (k_law_half : PySem.W.keepIn K (.ref f_law_half) = true)
    (a_law_put : PySem.W.nsIn K mainGlobals "_law_put" = some (some (.ref f_law_put)))
    (l_law_put : K.lookup f_law_put = some ⟨oc_law_put, od_law_put, .func (PySem.W.fnOf "_law_put" "_law_put" (defArgs s_law_put) (defBody s_law_put) (defScope s_law_put) .none kV_law_put dc_law_put pm_law_put an_law_put cd_law_put ct_law_put), sl_law_put⟩)
    (c_law_put : PySem.W.codeIn K cd_law_put "_law_put" = true)
    (k_law_put : PySem.W.keepIn K (.ref f_law_put) = true)
    (a_law_cuts : PySem.W.nsIn K mainGlobals "_law_cuts" = some (some (.ref f_law_cuts)))
    (l_law_cuts : K.lookup f_law_cuts = some ⟨oc_law_cuts, od_law_cuts, .func (PySem.W.fnOf "_law_cuts" "_law_cuts" (defArgs s_law_cuts) (defBody s_law_cuts) (defScope s_law_cuts) .none kV_law_cuts dc_law_cuts pm_law_cuts an_law_cuts cd_law_cuts ct_law_cuts), sl_law_cuts⟩)
    (c_law_cuts : PySem.W.codeIn K cd_law_cuts "_law_cuts" = true)
    (k_law_cuts : PySem.W.keepIn K (.ref f_law_cuts) = true)
    (a_law_set : PySem.W.nsIn K mainGlobals "_law_set" = some (some (.ref f_law_set)))
    (l_law_set : K.lookup f_law_set = some ⟨oc_law_set, od_law_set, .func (PySem.W.fnOf "_law_set" "_law_set" (defArgs s_law_set) (defBody s_law_set) (defScope s_law_set) .none kV_law_set dc_law_set pm_law_set an_law_set cd_law_set ct_law_set), sl_law_set⟩)
    (c_law_set : PySem.W.codeIn K cd_law_set "_law_set" = true)
    (k_law_set : PySem.W.keepIn K (.ref f_law_set) = true)
    (a_law_met : PySem.W.nsIn K mainGlobals "_law_met" = some (some (.ref f_law_met)))
    (l_law_met : K.lookup f_law_met = some ⟨oc_law_met, od_law_met, .func (PySem.W.fnOf "_law_met" "_law_met" (defArgs s_law_met) (defBody s_law_met) (defScope s_law_met) .none kV_law_met dc_law_met pm_law_met an_law_met cd_law_met ct_law_met), sl_law_met⟩)
    (c_law_met : PySem.W.codeIn K cd_law_met "_law_met" = true)
    (k_law_met : PySem.W.keepIn K (.ref f_law_met) = true)
    (a_law_rows_fit : PySem.W.nsIn K mainGlobals "_law_rows_fit" = some (some (.ref f_law_rows_fit)))
    (l_law_rows_fit : K.lookup f_law_rows_fit = some ⟨oc_law_rows_fit, od_law_rows_fit, .func (PySem.W.fnOf "_law_rows_fit" "_law_rows_fit" (defArgs s_law_rows_fit) (defBody s_law_rows_fit) (defScope s_law_rows_fit) .none kV_law_rows_fit dc_law_rows_fit pm_law_rows_fit an_law_rows_fit cd_law_rows_fit ct_law_rows_fit), sl_law_rows_fit⟩)
    (c_law_rows_fit : PySem.W.codeIn K cd_law_rows_fit "_law_rows_fit" = true)
    (k_law_rows_fit : PySem.W.keepIn K (.ref f_law_rows_fit) = true)
    (a_law_forced_there : PySem.W.nsIn K mainGlobals "_law_forced_there" = some (some (.ref f_law_forced_there)))
    (l_law_forced_there : K.lookup f_law_forced_there = some ⟨oc_law_forced_there, od_law_forced_there, .func (PySem.W.fnOf "_law_forced_there" "_law_forced_there" (defArgs s_law_forced_there) (defBody s_law_forced_there) (defScope s_law_forced_there) .none kV_law_forced_there dc_law_forced_there pm_law_forced_there an_law_forced_there cd_law_forced_there ct_law_forced_there), sl_law_forced_there⟩)
    (c_law_forced_there : PySem.W.codeIn K cd_law_forced_there "_law_forced_there" = true)
    (k_law_forced_there : PySem.W.keepIn K (.ref f_law_forced_there) = true)
    (a_law_forced : PySem.W.nsIn K mainGlobals "_law_forced" = some (some (.ref f_law_forced)))
    (l_law_forced : K.lookup f_law_forced = some ⟨oc_law_forced, od_law_forced, .func (PySem.W.fnOf "_law_forced" "_law_forced" (defArgs s_law_forced) (defBody s_law_forced) (defScope s_law_forced) .none kV_law_forced dc_law_forced pm_law_forced an_law_forced cd_law_forced ct_law_forced), sl_law_forced⟩)
    (c_law_forced : PySem.W.codeIn K cd_law_forced "_law_forced" = true)
    (k_law_forced : PySem.W.keepIn K (.ref f_law_forced) = true)
    (a_law : PySem.W.nsIn K mainGlobals "law" = some (some (.ref f_law)))
    (l_law : K.lookup f_law = some ⟨oc_law, od_law, .func (PySem.W.fnOf "law" "law" (defArgs s_law) (defBody s_law) (defScope s_law) .none kV_law dc_law pm_law an_law cd_law ct_law), sl_law⟩)
    (c_law : PySem.W.codeIn K cd_law "law" = true)
    (k_law : PySem.W.keepIn K (.ref f_law) = true)
    (z_bool : PySem.W.nsIn K mainGlobals "bool" = some none)
    (z_int : PySem.W.nsIn K mainGlobals "int" = some none)
    (z_isinstance : PySem.W.nsIn K mainGlobals "isinstance" = some none)
    (z_len : PySem.W.nsIn K mainGlobals "len" = some none)
    (z_list : PySem.W.nsIn K mainGlobals "list" = some none)
    (z_max : PySem.W.nsIn K mainGlobals "max" = some none)
    (z_min : PySem.W.nsIn K mainGlobals "min" = some none)
    (z_range : PySem.W.nsIn K mainGlobals "range" = some none)
    (z_str : PySem.W.nsIn K mainGlobals "str" = some none)
    (z_tuple : PySem.W.nsIn K mainGlobals "tuple" = some none)
    (x_MOST_STRANDS : PySem.W.nsIn K mainGlobals "MOST_STRANDS" = some (some (.int 40 q_MOST_STRANDS)))
    (n_WeaveError : PySem.W.nsIn K mainGlobals "WeaveError" = some (some (.ref e_WeaveError)))
    (n_NoCloth : PySem.W.nsIn K mainGlobals "NoCloth" = some (some (.ref e_NoCloth)))
    (y1_WeaveError : PySem.W.excIn K e_WeaveError vE vN = true)
    (y2_WeaveError : PySem.W.findIn K (.ref e_WeaveError) "__getattribute__" = some (some (.builtin "BaseException.__getattribute__")))
    (y3_WeaveError : PySem.W.findIn K (.ref e_WeaveError) "__getattr__" = some none)
    (y4_WeaveError : PySem.W.findIn K (.ref e_WeaveError) "__class__" = some (some (.builtin "object.__class__")))
    (y5_WeaveError : PySem.W.specialIn K (.builtin "object.__class__") "__get__" = some (some (.builtin "getset_descriptor.__get__")))
    (y6_WeaveError : PySem.W.takesIn K (.builtin "object.__class__") = some true)
    (y7_WeaveError : PySem.W.mroIn K e_WeaveError (.type "object") = some true)
    (y8_WeaveError : PySem.W.mroIn K e_WeaveError (.type "BaseException") = some true)
    (y9_WeaveError : PySem.W.isClsIn K e_WeaveError = true)
    (y10_WeaveError : PySem.W.typeIn K (.ref e_WeaveError) = some (.type "type"))
    (y11_WeaveError : PySem.W.mroIn K e_WeaveError (.type "ValueError") = some true)
    (r_WeaveError_WeaveError : PySem.W.mroIn K e_WeaveError (.ref e_WeaveError) = some true)
    (r_WeaveError_NoCloth : PySem.W.mroIn K e_WeaveError (.ref e_NoCloth) = some false)
    (y1_NoCloth : PySem.W.excIn K e_NoCloth vE vN = true)
    (y2_NoCloth : PySem.W.findIn K (.ref e_NoCloth) "__getattribute__" = some (some (.builtin "BaseException.__getattribute__")))
    (y3_NoCloth : PySem.W.findIn K (.ref e_NoCloth) "__getattr__" = some none)
    (y4_NoCloth : PySem.W.findIn K (.ref e_NoCloth) "__class__" = some (some (.builtin "object.__class__")))
    (y7_NoCloth : PySem.W.mroIn K e_NoCloth (.type "object") = some true)
    (y8_NoCloth : PySem.W.mroIn K e_NoCloth (.type "BaseException") = some true)
    (y9_NoCloth : PySem.W.isClsIn K e_NoCloth = true)
    (y10_NoCloth : PySem.W.typeIn K (.ref e_NoCloth) = some (.type "type"))
    (y11_NoCloth : PySem.W.mroIn K e_NoCloth (.type "ValueError") = some true)
    (r_NoCloth_WeaveError : PySem.W.mroIn K e_NoCloth (.ref e_WeaveError) = some true)
    (r_NoCloth_NoCloth : PySem.W.mroIn K e_NoCloth (.ref e_NoCloth) = some true) :
    Txt K mg ⟨f_measured_texts, PySem.W.fnOf "measured_texts" "measured_texts" (defArgs s_measured_texts) (defBody s_measured_texts) (defScope s_measured_texts) .none kV_measured_texts dc_measured_texts pm_measured_texts an_measured_texts cd_measured_texts ct_measured_texts, f_check_pick, PySem.W.fnOf "check_pick" "check_pick" (defArgs s_check_pick) (defBody s_check_pick) (defScope s_check_pick) .none kV_check_pick dc_check_pick pm_check_pick an_check_pick cd_check_pick ct_check_pick, f_lower_strands, PySem.W.fnOf "lower_strands" "lower_strands" (defArgs s_lower_strands) (defBody s_lower_strands) (defScope s_lower_strands) .none kV_lower_strands dc_lower_strands pm_lower_strands an_lower_strands cd_lower_strands ct_lower_strands, f_ways_from, PySem.W.fnOf "ways_from" "ways_from" (defArgs s_ways_from) (defBody s_ways_from) (defScope s_ways_from) .none kV_ways_from dc_ways_from pm_ways_from an_ways_from cd_ways_from ct_ways_from, f_upper_part, PySem.W.fnOf "upper_part" "upper_part" (defArgs s_upper_part) (defBody s_upper_part) (defScope s_upper_part) .none kV_upper_part dc_upper_part pm_upper_part an_upper_part cd_upper_part ct_upper_part, f_measured_half, PySem.W.fnOf "measured_half" "measured_half" (defArgs s_measured_half) (defBody s_measured_half) (defScope s_measured_half) .none kV_measured_half dc_measured_half pm_measured_half an_measured_half cd_measured_half ct_measured_half, f_finished_cloth, PySem.W.fnOf "finished_cloth" "finished_cloth" (defArgs s_finished_cloth) (defBody s_finished_cloth) (defScope s_finished_cloth) .none kV_finished_cloth dc_finished_cloth pm_finished_cloth an_finished_cloth cd_finished_cloth ct_finished_cloth, f_settle, PySem.W.fnOf "settle" "settle" (defArgs s_settle) (defBody s_settle) (defScope s_settle) .none kV_settle dc_settle pm_settle an_settle cd_settle ct_settle, f_law_cell_at, PySem.W.fnOf "_law_cell_at" "_law_cell_at" (defArgs s_law_cell_at) (defBody s_law_cell_at) (defScope s_law_cell_at) .none kV_law_cell_at dc_law_cell_at pm_law_cell_at an_law_cell_at cd_law_cell_at ct_law_cell_at, f_law_sums, PySem.W.fnOf "_law_sums" "_law_sums" (defArgs s_law_sums) (defBody s_law_sums) (defScope s_law_sums) .none kV_law_sums dc_law_sums pm_law_sums an_law_sums cd_law_sums ct_law_sums, f_law_sides, PySem.W.fnOf "_law_sides" "_law_sides" (defArgs s_law_sides) (defBody s_law_sides) (defScope s_law_sides) .none kV_law_sides dc_law_sides pm_law_sides an_law_sides cd_law_sides ct_law_sides, f_law_half, PySem.W.fnOf "_law_half" "_law_half" (defArgs s_law_half) (defBody s_law_half) (defScope s_law_half) .none kV_law_half dc_law_half pm_law_half an_law_half cd_law_half ct_law_half, f_law_put, PySem.W.fnOf "_law_put" "_law_put" (defArgs s_law_put) (defBody s_law_put) (defScope s_law_put) .none kV_law_put dc_law_put pm_law_put an_law_put cd_law_put ct_law_put, f_law_cuts, PySem.W.fnOf "_law_cuts" "_law_cuts" (defArgs s_law_cuts) (defBody s_law_cuts) (defScope s_law_cuts) .none kV_law_cuts dc_law_cuts pm_law_cuts an_law_cuts cd_law_cuts ct_law_cuts, f_law_set, PySem.W.fnOf "_law_set" "_law_set" (defArgs s_law_set) (defBody s_law_set) (defScope s_law_set) .none kV_law_set dc_law_set pm_law_set an_law_set cd_law_set ct_law_set, f_law_met, PySem.W.fnOf "_law_met" "_law_met" (defArgs s_law_met) (defBody s_law_met) (defScope s_law_met) .none kV_law_met dc_law_met pm_law_met an_law_met cd_law_met ct_law_met, f_law_rows_fit, PySem.W.fnOf "_law_rows_fit" "_law_rows_fit" (defArgs s_law_rows_fit) (defBody s_law_rows_fit) (defScope s_law_rows_fit) .none kV_law_rows_fit dc_law_rows_fit pm_law_rows_fit an_law_rows_fit cd_law_rows_fit ct_law_rows_fit, f_law_forced_there, PySem.W.fnOf "_law_forced_there" "_law_forced_there" (defArgs s_law_forced_there) (defBody s_law_forced_there) (defScope s_law_forced_there) .none kV_law_forced_there dc_law_forced_there pm_law_forced_there an_law_forced_there cd_law_forced_there ct_law_forced_there, f_law_forced, PySem.W.fnOf "_law_forced" "_law_forced" (defArgs s_law_forced) (defBody s_law_forced) (defScope s_law_forced) .none kV_law_forced dc_law_forced pm_law_forced an_law_forced cd_law_forced ct_law_forced, f_law, PySem.W.fnOf "law" "law" (defArgs s_law) (defBody s_law) (defScope s_law) .none kV_law dc_law pm_law an_law cd_law ct_law, e_WeaveError, e_NoCloth⟩ :=
  ⟨⟨fun_mk (st := s_measured_texts) l_measured_texts c_measured_texts k_measured_texts, PySem.W.mg_of X G a_measured_texts, (fun_mk (st := s_measured_texts) l_measured_texts c_measured_texts k_measured_texts).binds (ps := ["texts", "least", "signs"]) fun _ _ _ _ _ _ us hl => match us, hl with | [_, _, _], _ => rfl⟩,
   ⟨fun_mk (st := s_check_pick) l_check_pick c_check_pick k_check_pick, PySem.W.mg_of X G a_check_pick, (fun_mk (st := s_check_pick) l_check_pick c_check_pick k_check_pick).binds (ps := ["text", "ends", "signs"]) fun _ _ _ _ _ _ us hl => match us, hl with | [_, _, _], _ => rfl⟩,
   ⟨fun_mk (st := s_lower_strands) l_lower_strands c_lower_strands k_lower_strands, PySem.W.mg_of X G a_lower_strands, (fun_mk (st := s_lower_strands) l_lower_strands c_lower_strands k_lower_strands).binds (ps := ["texts"]) fun _ _ _ _ _ _ us hl => match us, hl with | [_], _ => rfl⟩,
   ⟨fun_mk (st := s_ways_from) l_ways_from c_ways_from k_ways_from, PySem.W.mg_of X G a_ways_from, (fun_mk (st := s_ways_from) l_ways_from c_ways_from k_ways_from).binds (ps := ["lower", "start"]) fun _ _ _ _ _ _ us hl => match us, hl with | [_, _], _ => rfl⟩,
   ⟨fun_mk (st := s_upper_part) l_upper_part c_upper_part k_upper_part, PySem.W.mg_of X G a_upper_part, (fun_mk (st := s_upper_part) l_upper_part c_upper_part k_upper_part).binds (ps := ["lower", "strands"]) fun _ _ _ _ _ _ us hl => match us, hl with | [_, _], _ => rfl⟩,
   ⟨fun_mk (st := s_measured_half) l_measured_half c_measured_half k_measured_half, PySem.W.mg_of X G a_measured_half, (fun_mk (st := s_measured_half) l_measured_half c_measured_half k_measured_half).binds (ps := ["half"]) fun _ _ _ _ _ _ us hl => match us, hl with | [_], _ => rfl⟩,
   ⟨fun_mk (st := s_finished_cloth) l_finished_cloth c_finished_cloth k_finished_cloth, PySem.W.mg_of X G a_finished_cloth, (fun_mk (st := s_finished_cloth) l_finished_cloth c_finished_cloth k_finished_cloth).binds (ps := ["half"]) fun _ _ _ _ _ _ us hl => match us, hl with | [_], _ => rfl⟩,
   ⟨fun_mk (st := s_settle) l_settle c_settle k_settle, PySem.W.mg_of X G a_settle, (fun_mk (st := s_settle) l_settle c_settle k_settle).binds (ps := ["lower", "end", "pick"]) fun _ _ _ _ _ _ us hl => match us, hl with | [_, _, _], _ => rfl⟩,
   ⟨fun_mk (st := s_law_cell_at) l_law_cell_at c_law_cell_at k_law_cell_at, PySem.W.mg_of X G a_law_cell_at, (fun_mk (st := s_law_cell_at) l_law_cell_at c_law_cell_at k_law_cell_at).binds (ps := ["script", "k"]) fun _ _ _ _ _ _ us hl => match us, hl with | [_, _], _ => rfl⟩,
   ⟨fun_mk (st := s_law_sums) l_law_sums c_law_sums k_law_sums, PySem.W.mg_of X G a_law_sums, (fun_mk (st := s_law_sums) l_law_sums c_law_sums k_law_sums).binds (ps := ["script", "behind", "many"]) fun _ _ _ _ _ _ us hl => match us, hl with | [_, _, _], _ => rfl⟩,
   ⟨fun_mk (st := s_law_sides) l_law_sides c_law_sides k_law_sides, PySem.W.mg_of X G a_law_sides, (fun_mk (st := s_law_sides) l_law_sides c_law_sides k_law_sides).binds (ps := ["cell"]) fun _ _ _ _ _ _ us hl => match us, hl with | [_], _ => rfl⟩,
   ⟨fun_mk (st := s_law_half) l_law_half c_law_half k_law_half, PySem.W.mg_of X G a_law_half, (fun_mk (st := s_law_half) l_law_half c_law_half k_law_half).binds (ps := ["script", "sides"]) fun _ _ _ _ _ _ us hl => match us, hl with | [_, _], _ => rfl⟩,
   ⟨fun_mk (st := s_law_put) l_law_put c_law_put k_law_put, PySem.W.mg_of X G a_law_put, (fun_mk (st := s_law_put) l_law_put c_law_put k_law_put).binds (ps := ["rows", "pick", "end", "sign"]) fun _ _ _ _ _ _ us hl => match us, hl with | [_, _, _, _], _ => rfl⟩,
   ⟨fun_mk (st := s_law_cuts) l_law_cuts c_law_cuts k_law_cuts, PySem.W.mg_of X G a_law_cuts, (fun_mk (st := s_law_cuts) l_law_cuts c_law_cuts k_law_cuts).binds (ps := ["half", "strands"]) fun _ _ _ _ _ _ us hl => match us, hl with | [_, _], _ => rfl⟩,
   ⟨fun_mk (st := s_law_set) l_law_set c_law_set k_law_set, PySem.W.mg_of X G a_law_set, (fun_mk (st := s_law_set) l_law_set c_law_set k_law_set).binds (ps := ["strands", "many"]) fun _ _ _ _ _ _ us hl => match us, hl with | [_, _], _ => rfl⟩,
   ⟨fun_mk (st := s_law_met) l_law_met c_law_met k_law_met, PySem.W.mg_of X G a_law_met, (fun_mk (st := s_law_met) l_law_met c_law_met k_law_met).binds (ps := ["rows", "back"]) fun _ _ _ _ _ _ us hl => match us, hl with | [_, _], _ => rfl⟩,
   ⟨fun_mk (st := s_law_rows_fit) l_law_rows_fit c_law_rows_fit k_law_rows_fit, PySem.W.mg_of X G a_law_rows_fit, (fun_mk (st := s_law_rows_fit) l_law_rows_fit c_law_rows_fit k_law_rows_fit).binds (ps := ["rows", "half"]) fun _ _ _ _ _ _ us hl => match us, hl with | [_, _], _ => rfl⟩,
   ⟨fun_mk (st := s_law_forced_there) l_law_forced_there c_law_forced_there k_law_forced_there, PySem.W.mg_of X G a_law_forced_there, (fun_mk (st := s_law_forced_there) l_law_forced_there c_law_forced_there k_law_forced_there).binds (ps := ["one", "half", "pick", "end"]) fun _ _ _ _ _ _ us hl => match us, hl with | [_, _, _, _], _ => rfl⟩,
   ⟨fun_mk (st := s_law_forced) l_law_forced c_law_forced k_law_forced, PySem.W.mg_of X G a_law_forced, (fun_mk (st := s_law_forced) l_law_forced c_law_forced k_law_forced).binds (ps := ["forced", "rows", "half"]) fun _ _ _ _ _ _ us hl => match us, hl with | [_, _, _], _ => rfl⟩,
   ⟨fun_mk (st := s_law) l_law c_law k_law, PySem.W.mg_of X G a_law, (fun_mk (st := s_law) l_law c_law k_law).binds (ps := ["script"]) fun _ _ _ _ _ _ us hl => match us, hl with | [_], _ => rfl⟩,
   PySem.W.mg_none_of X G z_bool,
   PySem.W.mg_none_of X G z_int,
   PySem.W.mg_none_of X G z_isinstance,
   PySem.W.mg_none_of X G z_len,
   PySem.W.mg_none_of X G z_list,
   PySem.W.mg_none_of X G z_max,
   PySem.W.mg_none_of X G z_min,
   PySem.W.mg_none_of X G z_range,
   PySem.W.mg_none_of X G z_str,
   PySem.W.mg_none_of X G z_tuple,
   ⟨_, PySem.W.mg_of X G x_MOST_STRANDS⟩,
   PySem.W.mg_of X G n_WeaveError,
   exn_mk y1_WeaveError y2_WeaveError y3_WeaveError y4_WeaveError y5_WeaveError y6_WeaveError y7_WeaveError y8_WeaveError y9_WeaveError y10_WeaveError y11_WeaveError,
   r_WeaveError_WeaveError,
   r_WeaveError_NoCloth,
   PySem.W.mg_of X G n_NoCloth,
   exn_mk y1_NoCloth y2_NoCloth y3_NoCloth y4_NoCloth y5_WeaveError y6_WeaveError y7_NoCloth y8_NoCloth y9_NoCloth y10_NoCloth y11_NoCloth,
   r_NoCloth_WeaveError,
   r_NoCloth_NoCloth⟩
section
variable {P : Program} {w : World} {K : PySem.W.Frag} {mg : Str → Option Value} {base : Heap} {t : Adr}
def sp_called (z : Str) : Sp := fun vs H Q _ => ∃ v, vs = [v] ∧ Q (.str z) H
end
section
variable {P : Program} {w : World} {K : PySem.W.Frag} {mg : Str → Option Value} {base : Heap} {t : Adr}
theorem z0 (i : Nat) : (0 + (i : Int)).toNat = i := by omega
theorem kit_same (K : PySem.W.Frag) (n : String) : PySem.W.kitOne K (.type n) (.type n) = some true := if_pos (beq_self_eq_true _)
theorem sg_eq {c d : Nat} : (V.str ⟨#[c]⟩ : V) = V.str ⟨#[d]⟩ ↔ c = d :=
  ⟨fun z => by injection z with z; exact (List.cons.inj (tx_inj (a := [c]) (b := [d]) z)).1, fun z => by rw [z]⟩
theorem e35 : (V.str ⟨#[35]⟩ : V) = V.str "#" := congrArg V.str (by decide +kernel)
theorem e46 : (V.str ⟨#[46]⟩ : V) = V.str "." := congrArg V.str (by decide +kernel)
theorem small40 {n : Nat} (h : n ≤ 40) : n ≤ sizeLine := Nat.le_trans h (by decide)
theorem occ3 {c : Nat} (h : Sq3 c) : (!(!(Builtin.Str.occurrences "#.?" ⟨#[c]⟩ 0 (Str.length "#.?") 1).isEmpty)) = false := by
  rcases h with h | h | h <;> subst h <;> decide +kernel
def sp_check_pick : Sp := fun vs H Q _ => ∃ (t : List Nat), vs = [.str (tx t), .int (t.length : Int), .str "#.?"] ∧ (∀ c ∈ t, Sq3 c) ∧ t.length ≤ 40 ∧ Q .non H
theorem ok_check_pick (T : Txt K mg t) : FnOk P w K mg base CX0 1 t.f_check_pick t.d_check_pick ["text", "ends", "signs"] sp_check_pick := by
  refine T.check_pick.F.ok sc_check_pick (fun vs H Q E h => ?_) (fun cdv A outer s H vs Q E hr h => ?_)
  · obtain ⟨t, rfl, _⟩ := h
    rfl
  · obtain ⟨t, rfl, hsg, hl, k⟩ := h
    refine ⟨_, (pss_cons (ps_if (pt_cmpR op_ne (pe_callB call_len_str rfl T.b_len bt_len (pa_cons (pv 0) pa_nil)) (pv 1) (nomark _))
        (pss_one ps_never)
        pss_nil)
      (pss_one (ps_for PassesOwn.never rfl (pi_str (pv 0)) (pg_name (i := 3) sc_check_pick.nd rfl (Or.inl rfl))
        (pss_one (ps_if (pt_cmpR op_notin_str (pv 3) (pv 2) rfl)
          (pss_one ps_never)
          pss_nil))))), ?_⟩
    refine ⟨_, rfl, _, rfl, (by rw [tx_len]; exact small40 hl), _, rfl, rfl, _, rfl, ?_⟩
    refine iteNS (by rw [tx_len]) ?_
    refine ⟨_, rfl, _, rfl, for_str (z := tx t) (fun i σ H2 => ∃ v, σ = [some (.str (tx t)), some (.int (t.length : Int)), some (.str "#.?"), v] ∧ H2 = H) ⟨none, rfl, rfl⟩ ?_ ?_⟩
    · rintro i c σ H2 hc ⟨v, rfl, rfl⟩
      rw [tx_get] at hc
      refine ⟨_, rfl, _, rfl, _, _, rfl, rfl, _, rfl, ?_⟩
      rw [occ3 (hsg c (List.mem_of_getElem? hc))]
      exact iteF ⟨_, rfl, rfl⟩
    · rintro σ H2 ⟨v, rfl, rfl⟩
      exact k
def sp_measured_texts (K : PySem.W.Frag) : Sp := fun vs H Q _ => ∃ (a : Addr) (cl : List (List Nat)) (m n : Nat), vs = [.ref a, .int 2, .str "#.?"] ∧ SqL K H a (vS cl) ∧ Hc cl m n ∧ ∀ p, H p = none → Q (.ref p) (upd H p (.tup [.int (m : Int), .int (n : Int)]))
theorem ok_measured_texts (T : Txt K mg t) : FnOk P w K mg base CX0 2 t.f_measured_texts t.d_measured_texts ["texts", "least", "signs"] (sp_measured_texts K) := by
  have G_check_pick : FnOk P w K mg base CX0 1 t.f_check_pick t.d_check_pick _ _ := ok_check_pick T
  refine T.measured_texts.F.ok sc_measured_texts (fun vs H Q E h => ?_) (fun cdv A outer s H vs Q E hr h => ?_)
  · obtain ⟨a, cl, m, n, rfl, _⟩ := h
    rfl
  · obtain ⟨a, cl, m, n, rfl, hS, C, k⟩ := h
    have hlen : (vS cl).length = n := by rw [vS_len, C.hn]
    have c1 := C.n2
    have h0 : 0 < cl.length := by rw [C.hn]; omega
    have hm0 := C.hm cl[0] (List.getElem_mem h0)
    have c2 := C.n40
    have c3 := C.m2
    have c4 := C.m40
    refine ⟨_, (pss_cons (ps_if (PW.pt (pw_or (pt_cmpR op_lt (pe_callB (call_len_seqK (K := K)) rfl T.b_len bt_len (pa_cons (pv 0) pa_nil)) (pv 1) (nomark _)) (pw_or1 (pt_cmpR op_gt (pe_callB (call_len_seqK (K := K)) rfl T.b_len bt_len (pa_cons (pv 0) pa_nil)) (pe_glob (v := .int 40) rfl T.c_MOST_STRANDS.choose_spec ⟨_, rfl⟩) (nomark _)))))
        (pss_one ps_never)
        pss_nil)
      (pss_cons (ps_set (i := 3) sc_measured_texts.nd rfl (Or.inl rfl) (pe_callB call_len_str rfl T.b_len bt_len (pa_cons (pe_ix (ix_listK (K := K)) (pv 0) pe_int (fun _ _ => rfl)) pa_nil)))
      (pss_cons (ps_if (PW.pt (pw_or (pt_cmpR op_lt (pv 3) (pv 1) (nomark _)) (pw_or1 (pt_cmpR op_gt (pv 3) (pe_glob (v := .int 40) rfl T.c_MOST_STRANDS.choose_spec ⟨_, rfl⟩) (nomark _)))))
        (pss_one ps_never)
        pss_nil)
      (pss_cons (ps_for PassesOwn.never rfl (pi_listK (K := K) (pv 0)) (pg_name (i := 4) sc_measured_texts.nd rfl (Or.inl rfl))
        (pss_one (ps_expr (pe_call (G_check_pick.mono (by decide)) hr rfl T.check_pick.m T.check_pick.F.kp T.check_pick.b .nil pass0 (pa_cons (pv 4) (pa_cons (pv 3) (pa_cons (pv 2) pa_nil)))))))
      (pss_one (ps_ret (pe_tup (pa_cons (pv 3) (pa_cons (pe_callB (call_len_seqK (K := K)) rfl T.b_len bt_len (pa_cons (pv 0) pa_nil)) pa_nil))))))))), ?_⟩
    refine ⟨_, rfl, _, _, rfl, .inl hS, _, rfl, _, _, rfl, rfl, _, rfl, ?_⟩
    refine iteDn (by rw [hlen]; omega) ?_
    refine ⟨_, rfl, _, _, rfl, .inl hS, _, _, rfl, rfl, _, rfl, ?_⟩
    refine iteDn (by rw [hlen]; omega) ?_
    refine ⟨_, rfl, _, _, _, _, rfl, rfl, hS, atI_of (by decide) (vS_get (List.getElem?_eq_getElem h0)), _, rfl, (by rw [tx_len, hm0]; exact small40 c4), ?_⟩
    rw [tx_len, hm0]
    refine ⟨_, rfl, _, rfl, _, _, rfl, rfl, _, rfl, ?_⟩
    refine iteDn (by omega) ?_
    refine ⟨_, rfl, _, _, rfl, rfl, _, rfl, ?_⟩
    refine iteDn (by omega) ?_
    refine ⟨_, rfl, _, rfl, ⟨_, hS⟩, for_list (K := K) (a := a) (xs := vS cl) (fun i σ H2 => ∃ v, σ = [some (.ref a), some (.int 2), some (.str "#.?"), some (.int (m : Int)), v] ∧ H2 = H) ⟨none, rfl, rfl⟩ (fun i σ H2 _ ⟨_, _, e⟩ => e ▸ hS) ?_ ?_⟩
    · rintro i x σ H2 hx ⟨v, rfl, rfl⟩
      obtain ⟨t, ht, rfl⟩ := vS_got hx
      have htm := List.mem_of_getElem? ht
      refine ⟨_, rfl, _, rfl, _, rfl, t, ?_, C.sg t htm, ?_, ⟨_, rfl, rfl⟩⟩
      · rw [C.hm t htm]; rfl
      · rw [C.hm t htm]; exact c4
    · rintro σ H2 ⟨v, rfl, rfl⟩
      refine ⟨_, rfl, _, rfl, _, _, rfl, .inl hS, (by show 2 ≤ sizeLine; decide), fun p hp => ?_⟩
      rw [hlen]
      exact k p hp
def sp_measured_half (K : PySem.W.Frag) : Sp := fun vs H Q _ => ∃ (a : Addr) (cl : List (List Nat)) (m n : Nat), vs = [.ref a] ∧ SqL K H a (vS cl) ∧ Hc cl m n ∧ ∀ p, H p = none → Q (.ref p) (upd H p (.tup [.int (m : Int), .int (n : Int)]))
theorem ok_measured_half (T : Txt K mg t) : FnOk P w K mg base CX0 3 t.f_measured_half t.d_measured_half ["half"] (sp_measured_half K) := by
  have G_measured_texts : FnOk P w K mg base CX0 2 t.f_measured_texts t.d_measured_texts _ _ := ok_measured_texts T
  refine T.measured_half.F.ok sc_measured_half (fun vs H Q E h => ?_) (fun cdv A outer s H vs Q E hr h => ?_)
  · obtain ⟨a, cl, m, n, rfl, _⟩ := h
    rfl
  · obtain ⟨a, cl, m, n, rfl, hS, C, k⟩ := h
    exact ⟨_, (pss_one (ps_ret (pe_call (G_measured_texts.mono (by decide)) hr rfl T.measured_texts.m T.measured_texts.F.kp T.measured_texts.b .nil pass0 (pa_cons (pv 0) (pa_cons pe_int (pa_cons pe_str pa_nil)))))), _, rfl, a, cl, m, n, rfl, hS, C, k⟩
theorem e63 : (V.str ⟨#[63]⟩ : V) = V.str "?" := congrArg V.str (by decide +kernel)
/-- a list of lists of numbers -/
structure NL (H : Hp) (y : Addr) (rs : List Addr) (tss : List (List Int)) : Prop where
  h : H y = some (.lst (rs.map V.ref))
  l : rs.length = tss.length
  r : ∀ (i : Nat) (a : Addr) (ks : List Int), rs[i]? = some a → tss[i]? = some ks → H a = some (.lst (vI ks))
theorem NL.same {H H' : Hp} {y : Addr} {rs : List Addr} {tss : List (List Int)} (N : NL H y rs tss) (s : Same H H') : NL H' y rs tss := ⟨s _ _ N.h, N.l, fun i a ks h1 h2 => s _ _ (N.r i a ks h1 h2)⟩
theorem dec46n (c : Nat) : (!decide ((V.str ⟨#[c]⟩ : V) = V.str ".")) = decide (c ≠ 46) := by
  by_cases h : c = 46
  · subst h; rw [decide_eq_true e46]; rfl
  · rw [decide_eq_false (fun z => h (sg_eq.mp (z.trans e46.symm))), decide_eq_true h]; rfl
theorem dec35n (c : Nat) : (!decide ((V.str ⟨#[c]⟩ : V) = V.str "#")) = decide (c ≠ 35) := by
  by_cases h : c = 35
  · subst h; rw [decide_eq_true e35]; rfl
  · rw [decide_eq_false (fun z => h (sg_eq.mp (z.trans e35.symm))), decide_eq_true h]; rfl
theorem NL.grow {H : Hp} {y l : Addr} {rs : List Addr} {tss : List (List Int)} {ks : List Int} (N : NL H y rs tss) (hl : H l = none) : NL (upd (upd H l (.lst (vI ks))) y (.lst (rs.map V.ref ++ [.ref l]))) y (rs ++ [l]) (tss ++ [ks]) := by
  have nly : l ≠ y := fun e => by rw [e, N.h] at hl; cases hl
  refine ⟨by rw [List.map_append]; exact upd_same, by rw [List.length_append, List.length_append, N.l]; rfl, fun i a ks' h1 h2 => ?_⟩
  by_cases hi : i < rs.length
  · rw [List.getElem?_append_left hi] at h1
    rw [List.getElem?_append_left (by rw [← N.l]; exact hi)] at h2
    have ha := N.r i a ks' h1 h2
    have nay : a ≠ y := fun e => by
      rw [e, N.h] at ha
      have e2 : rs.map V.ref = vI ks' := by injection ha with ha; injection ha
      have h0 : 0 < rs.length := by omega
      have g1 : (rs.map V.ref)[0]? = some (.ref rs[0]) := by rw [List.getElem?_map, List.getElem?_eq_getElem h0]; rfl
      rw [e2] at g1
      obtain ⟨z, _, e3⟩ := vI_got g1
      cases e3
    rw [upd_ne nay]
    exact (Same.upd hl) _ _ ha
  · rw [List.getElem?_append_right (by omega)] at h1
    rw [List.getElem?_append_right (by rw [← N.l]; omega)] at h2
    have hi0 : i - rs.length = 0 := by
      have := (List.getElem?_eq_some_iff.mp h1).1
      simp at this
      omega
    rw [hi0] at h1
    rw [show i - tss.length = 0 by rw [← N.l]; exact hi0] at h2
    have e1 : l = a := by simpa using h1
    have e2 : ks = ks' := by simpa using h2
    rw [← e1, ← e2, upd_ne nly]
    exact upd_same
theorem hc_at {cl : List (List Nat)} {m n p : Nat} (C : Hc cl m n) (hp : p < n) : atI (vS cl) (0 + (p : Int)) = some (.str (tx (cl.getD p []))) ∧ (cl.getD p []).length = m := by
  have hl : p < cl.length := by rw [C.hn]; exact hp
  have e : cl.getD p [] = cl[p] := by rw [List.getD_eq_getElem?_getD, List.getElem?_eq_getElem hl]; rfl
  rw [e]
  exact ⟨atI_of (by omega) (by rw [z0]; exact vS_get (List.getElem?_eq_getElem hl)), C.hm _ (List.getElem_mem hl)⟩
theorem sign_at2 {u : List Nat} {e : Nat} (h : e < u.length) : atI (tx u).cps.toList (0 + (e : Int)) = some (u.getD e 0) := atI_of (by omega) (by
  rw [z0, tx_list, List.getElem?_eq_getElem h, List.getD_eq_getElem?_getD, List.getElem?_eq_getElem h]
  rfl)
theorem NL.isS {H : Hp} {y : Addr} {rs : List Addr} {tss : List (List Int)} (N : NL H y rs tss) {r : Addr} (h : r ∈ rs) : H r ≠ none := fun e => by
  obtain ⟨i, hi, er⟩ := List.getElem_of_mem h
  have ht : i < tss.length := by rw [← N.l]; exact hi
  have := N.r i r tss[i] (by rw [List.getElem?_eq_getElem hi, er]) (List.getElem?_eq_getElem ht)
  rw [e] at this
  cases this
/-- all of them new, and each another -/
def Frs (H : Hp) (rs : List Addr) : Prop := rs.Nodup ∧ ∀ r ∈ rs, H r = none
theorem Frs.add {H H2 : Hp} {y l : Addr} {rs : List Addr} {tss : List (List Int)} (F : Frs H rs) (N : NL H2 y rs tss) (s : Same H H2) (hl : H2 l = none) : Frs H (rs ++ [l]) := by
  refine ⟨List.nodup_append.mpr ⟨F.1, by simp, fun a ha b hb => ?_⟩, fun r hr => ?_⟩
  · rw [List.mem_singleton.mp hb]
    exact fun e => N.isS ha (by rw [e]; exact hl)
  · rcases List.mem_append.mp hr with h | h
    · exact F.2 r h
    · rw [List.mem_singleton.mp h]; exact s.free hl
def sp_lower (K : PySem.W.Frag) : Sp := fun vs H Q _ => ∃ (a : Addr) (cl : List (List Nat)) (m n : Nat), vs = [.ref a] ∧ SqL K H a (vS cl) ∧ Hc cl m n ∧ ∀ (y : Addr) (rs : List Addr) (H' : Hp), Same H H' → NL H' y rs (lows cl m) → Frs H rs → H y = none → Q (.ref y) H'
theorem ok_lower_strands (T : Txt K mg t) : FnOk P w K mg base CX0 1 t.f_lower_strands t.d_lower_strands ["texts"] (sp_lower K) := by
  refine T.lower_strands.F.ok sc_lower_strands (fun vs H Q E h => ?_) (fun cdv A outer s H vs Q E hr h => ?_)
  · obtain ⟨a, cl, m, n, rfl, _⟩ := h
    rfl
  · obtain ⟨a, cl, m, n, rfl, hS, C, k⟩ := h
    have hsz : sizeLine = 16777216 := sizeLine_eq
    have c1 := C.n2
    have c2 := C.n40
    have c3 := C.m2
    have c4 := C.m40
    have hlen : (vS cl).length = n := by rw [vS_len, C.hn]
    have h0 : 0 < cl.length := by rw [C.hn]; omega
    have hm0 := C.hm cl[0] (List.getElem_mem h0)
    refine ⟨_, (pss_cons (ps_set (i := 1) sc_lower_strands.nd rfl (Or.inr rfl) (pe_callB call_len_str rfl T.b_len bt_len (pa_cons (pe_ix (ix_listK (K := K)) (pv 0) pe_int (fun _ _ => rfl)) pa_nil)))
      (pss_cons (ps_set (i := 2) sc_lower_strands.nd rfl (Or.inl rfl) (pe_lst pa_nil))
      (pss_cons (ps_for PassesOwn.never rfl (pi_range1 rfl T.b_range (pa_cons (pv 1) pa_nil)) (pg_name (i := 3) sc_lower_strands.nd rfl (Or.inr rfl))
        (pss_one (ps_expr (pe_bmK (K := K) PySem.F.plainAttrs_list PySem.F.slot_list_append PySem.F.type_list_append mt_append (pv 2) (pa_cons (pe_comp (CompOk.mk (caps := [0, 1, 3]) (Nc := ["pick", "texts", "ends", "end"]) rfl (by decide +kernel) (by decide +kernel) (comp_fr (sc0 := defScope s_lower_strands) rfl (by decide +kernel)) rfl rfl rfl (by decide +kernel) (fun k j h => match k, h with | 0, h => by obtain rfl := Option.some.inj h; exact ⟨_, rfl, rfl, rfl⟩ | 1, h => by obtain rfl := Option.some.inj h; exact ⟨_, rfl, rfl, rfl⟩ | 2, h => by obtain rfl := Option.some.inj h; exact ⟨_, rfl, rfl, rfl⟩ | _ + 3, h => by simp at h)) rfl (pi_range1 rfl T.b_range (pa_cons (pe_callB (call_len_seqK (K := K)) rfl T.b_len bt_len (pa_cons (pv 0) pa_nil)) pa_nil)) (fun _ _ _ _ _ => .one (pt_cmpR op_ne (pe_ix ix_str (pe_ix (ix_listK (K := K)) (pv 1) (pv 0) (fun _ _ => rfl)) (pv 3) (fun _ _ => rfl)) pe_str (nomark _))) (fun _ _ _ _ _ => (pe_op op_add (pv 2) (pv 0)))) pa_nil)))))
      (pss_cons (ps_for PassesOwn.never rfl (pi_listK (K := K) (pv 0)) (pg_name (i := 4) sc_lower_strands.nd rfl (Or.inr rfl))
        (pss_one (ps_expr (pe_bmK (K := K) PySem.F.plainAttrs_list PySem.F.slot_list_append PySem.F.type_list_append mt_append (pv 2) (pa_cons (pe_comp (CompOk.mk (caps := [4]) (Nc := ["end", "text"]) rfl (by decide +kernel) (by decide +kernel) (comp_fr (sc0 := defScope s_lower_strands) rfl (by decide +kernel)) rfl rfl rfl (by decide +kernel) (fun k j h => match k, h with | 0, h => by obtain rfl := Option.some.inj h; exact ⟨_, rfl, rfl, rfl⟩ | _ + 1, h => by simp at h)) rfl (pi_range1 rfl T.b_range (pa_cons (pv 1) pa_nil)) (fun _ _ _ _ _ => .one (pt_cmpR op_ne (pe_ix ix_str (pv 1) (pv 0) (fun _ _ => rfl)) pe_str (nomark _))) (fun _ _ _ _ _ => (pv 0))) pa_nil)))))
      (pss_one (ps_ret (pv 2))))))), ?_⟩
    refine ⟨_, rfl, _, _, _, _, rfl, rfl, hS, atI_of (by decide) (vS_get (List.getElem?_eq_getElem h0)), _, rfl, (by rw [tx_len, hm0]; exact small40 c4), ?_⟩
    rw [tx_len, hm0]
    refine ⟨Nat.zero_le _, fun q hq => ?_⟩
    refine ⟨_, rfl, _, rfl, (by omega), (by omega), ?_⟩
    rw [Int.toNat_natCast]
    refine for_range (lo := 0) (n := m) (fun i σ H2 => ∃ (rs : List Addr) (v1 v2 : Option V), σ = [some (.ref a), some (.int (m : Int)), some (.ref q), v1, v2] ∧ Same H H2 ∧ NL H2 q rs ((List.range i).map fun e => lowE cl m e cl.length) ∧ Frs H rs)
      ⟨[], none, none, rfl, .upd hq, ⟨upd_same, rfl, fun i a ks h => by simp at h⟩, ⟨List.nodup_nil, fun r h => (by cases h)⟩⟩ ?_ ?_
    · rintro i σ H2 hi ⟨rs, v1, v2, rfl, s2, N, F⟩
      refine ⟨_, rfl, .inl ⟨rfl, _, SqL.of N.h⟩, _, rfl, _, _, rfl, .inl (s2.seq hS), _, rfl, (by omega), (by rw [hlen]; omega), ?_⟩
      rw [Int.toNat_natCast, hlen]
      refine comp_range (lo := 0) (n := n) (fun j ys H3 => H3 = H2 ∧ ys = vI (lowE cl m i j)) ⟨rfl, rfl⟩ ?_ ?_ ?_ ?_
      · rintro j ys H3 hj ⟨rfl, rfl⟩
        rw [vI_len]
        exact lowE_len cl m i j
      · exact small40 c2
      · rintro j ys H3 hj ⟨rfl, rfl⟩
        obtain ⟨e1, l1⟩ := hc_at C hj
        have e2 := sign_at2 (u := cl.getD j []) (e := i) (by rw [l1]; exact hi)
        refine ⟨_, rfl, _, rfl, _, _, _, _, rfl, rfl, s2.seq hS, e1, _, rfl, _, _, _, rfl, rfl, (by rw [tx_len, l1]; exact small40 c4), e2, rfl, _, rfl, ?_⟩
        have st := lowE_step cl m i j
        rw [dec46n]
        refine ite2D (fun h => ?_) (fun h => ?_)
        · refine ⟨_, rfl, _, rfl, _, _, rfl, rfl, ?_⟩
          refine CN.of hj ⟨rfl, ?_⟩
          rw [Int.zero_add, st, if_pos (show sg2 cl j i ≠ 46 from h)]
          exact vI_app _ _
        · refine CN.of hj ⟨rfl, ?_⟩
          rw [st, if_neg (show ¬ sg2 cl j i ≠ 46 from h)]
      · rintro ys H3 l ⟨rfl, rfl⟩ hl
        have hq3 := (Same.upd (o := .lst (vI (lowE cl m i n))) hl) _ _ N.h
        refine ⟨_, _, _, rfl, rfl, hq3, (by rw [List.length_map, N.l, List.length_map, List.length_range]; omega), ?_⟩
        refine ⟨rs ++ [l], _, _, rfl, (s2.new hl).over hq, ?_, F.add N s2 hl⟩
        rw [List.range_succ, List.map_append]
        have := N.grow (ks := lowE cl m i cl.length) hl
        rw [C.hn] at this ⊢
        exact this
    · rintro σ H2 ⟨rs, v1, v2, rfl, s2, N, F⟩
      refine ⟨_, rfl, _, rfl, ⟨_, s2.seq hS⟩, for_list (K := K) (a := a) (xs := vS cl) (fun i σ H3 => ∃ (rs : List Addr) (v1 v2 : Option V), σ = [some (.ref a), some (.int (m : Int)), some (.ref q), v1, v2] ∧ Same H H3 ∧ NL H3 q rs (((List.range m).map fun e => lowE cl m e cl.length) ++ (cl.take i).map fun t => lowP t m) ∧ Frs H rs)
        ⟨rs, v1, v2, rfl, s2, by rw [List.take_zero, List.map_nil, List.append_nil]; exact N, F⟩ (fun i σ H3 _ ⟨_, _, _, _, s3, _⟩ => s3.seq hS) ?_ ?_⟩
      · rintro i x σ H3 hx ⟨rs, v1, v2, rfl, s3, N3, F3⟩
        obtain ⟨u, hu, rfl⟩ := vS_got hx
        have hil : i < n := by
          have := (List.getElem?_eq_some_iff.mp hu).1
          rwa [C.hn] at this
        have lu := C.hm u (List.mem_of_getElem? hu)
        refine ⟨_, rfl, .inl ⟨rfl, _, SqL.of N3.h⟩, _, rfl, _, rfl, (by omega), (by omega), ?_⟩
        rw [Int.toNat_natCast]
        refine comp_range (lo := 0) (n := m) (fun j ys H4 => H4 = H3 ∧ ys = vI (lowP u j)) ⟨rfl, rfl⟩ ?_ ?_ ?_ ?_
        · rintro j ys H4 hj ⟨rfl, rfl⟩
          rw [vI_len]
          exact lowP_len u j
        · exact small40 c4
        · rintro j ys H4 hj ⟨rfl, rfl⟩
          have e2 := sign_at2 (u := u) (e := j) (by rw [lu]; exact hj)
          refine ⟨_, rfl, _, rfl, _, _, _, rfl, rfl, (by rw [tx_len, lu]; exact small40 c4), e2, rfl, _, rfl, ?_⟩
          have st := lowP_step u j
          rw [dec35n]
          refine ite2D (fun h => ?_) (fun h => ?_)
          · refine ⟨_, rfl, ?_⟩
            refine CN.of hj ⟨rfl, ?_⟩
            rw [Int.zero_add, st, if_pos h]
            exact vI_app _ _
          · refine CN.of hj ⟨rfl, ?_⟩
            rw [st, if_neg h]
        · rintro ys H4 l ⟨rfl, rfl⟩ hl
          have hq4 := (Same.upd (o := .lst (vI (lowP u m))) hl) _ _ N3.h
          refine ⟨_, _, _, rfl, rfl, hq4, (by rw [List.length_map, N3.l, List.length_append, List.length_map, List.length_range, List.length_map, List.length_take]; omega), ?_⟩
          refine ⟨rs ++ [l], _, _, rfl, (s3.new hl).over hq, ?_, F3.add N3 s3 hl⟩
          rw [List.take_add_one, hu, List.map_append, ← List.append_assoc]
          exact N3.grow (ks := lowP u m) hl
      · rintro σ H3 ⟨rs, v1, v2, rfl, s3, N3, F3⟩
        rw [vS_len, List.take_length] at N3
        exact ⟨_, rfl, k q rs H3 s3 N3 F3 hq⟩
/-- the strand ahead, as the program tells it -/
def pvO : Option Nat → V
  | none => .non
  | some u => .int (u : Int)
def kvs (ps : List (Nat × Option Nat)) : List (Key × V) := ps.map fun p => (Sum.inl (p.1 : Int), pvO p.2)
def vF (ps : List (Nat × Option Nat)) : List V := vI (ps.map fun p => ((p.1 : Nat) : Int))
theorem vF_len (ps : List (Nat × Option Nat)) : (vF ps).length = ps.length := by unfold vF; rw [vI_len, List.length_map]
theorem vF_at {ps : List (Nat × Option Nat)} {i v : Nat} {a : Option Nat} (h : ps[i]? = some (v, a)) : atI (vF ps) (i : Int) = some (.int (v : Int)) := atI_of (by omega) (by
  rw [Int.toNat_natCast]
  exact vI_get (by rw [List.getElem?_map, h]; rfl))
theorem vF_app (ps : List (Nat × Option Nat)) (v : Nat) (a : Option Nat) : vF ps ++ [.int (v : Int)] = vF (ps ++ [(v, a)]) := by unfold vF; rw [vI_app, List.map_append]; rfl
theorem kvs_none {v : Nat} : ∀ {ps : List (Nat × Option Nat)}, (∀ a, (v, a) ∉ ps) → valV (kvs ps) (Sum.inl (v : Int)) = none
  | [], _ => valV_nil
  | p :: ps, h => by
    unfold kvs
    rw [List.map_cons, valV_neg (fun e => ?_)]
    · exact kvs_none fun a ha => h a (List.mem_cons_of_mem _ ha)
    · have e : ((p.1 : Nat) : Int) = (v : Int) := Sum.inl.inj e
      have e : p.1 = v := by omega
      exact h p.2 (by rw [← e]; exact List.mem_cons_self)
theorem kvs_some {v : Nat} {a : Option Nat} : ∀ {ps : List (Nat × Option Nat)}, (v, a) ∈ ps → (∀ b, (v, b) ∈ ps → b = a) → valV (kvs ps) (Sum.inl (v : Int)) = some (pvO a)
  | [], h, _ => by cases h
  | p :: ps, h, hu => by
    unfold kvs
    rw [List.map_cons]
    by_cases e : p.1 = v
    · have ea := hu p.2 (by rw [← e]; exact List.mem_cons_self)
      rw [valV_pos (by show Sum.inl ((p.1 : Nat) : Int) = Sum.inl ((v : Nat) : Int); rw [e])]
      show some (pvO p.2) = _
      rw [ea]
    · rw [valV_neg (fun z => e (by have z : ((p.1 : Nat) : Int) = (v : Int) := Sum.inl.inj z; omega))]
      rcases List.mem_cons.mp h with h | h
      · exact absurd (by rw [← h]) e
      · exact kvs_some h fun b hb => hu b (List.mem_cons_of_mem _ hb)
theorem Bf.val {tss : List (List Int)} {s : Nat} {ps : List (Nat × Option Nat)} {dp : List Nat} (B : Bf tss s ps dp) {i v : Nat} {a : Option Nat} (h : ps[i]? = some (v, a)) : valV (kvs ps) (Sum.inl (v : Int)) = some (pvO a) := by
  refine kvs_some (List.mem_of_getElem? h) fun b hb => ?_
  obtain ⟨j, hj, e⟩ := List.getElem_of_mem hb
  have g : ps[j]? = some (v, b) := by rw [← e]; exact List.getElem?_eq_getElem hj
  have := B.nd i j v a b h g
  subst this
  rw [h] at g
  cases g
  rfl
theorem kvs_app (ps : List (Nat × Option Nat)) (v u : Nat) (h : valV (kvs ps) (Sum.inl (v : Int)) = none) : putK (kvs ps) (Sum.inl (v : Int)) (.int (u : Int)) = kvs (ps ++ [(v, some u)]) := by
  rw [putK_new _ h]
  unfold kvs
  rw [List.map_append]
  rfl
theorem kvs_len (ps : List (Nat × Option Nat)) : (kvs ps).length = ps.length := by unfold kvs; rw [List.length_map]
/-- strands that lie below are strands -/
def Gd (tss : List (List Int)) : Prop := ∀ v, ∀ z ∈ tss.getD v [], 0 ≤ z ∧ z < (tss.length : Int)
def sp_ways : Sp := fun vs H Q _ => ∃ (y : Addr) (rs : List Addr) (tss : List (List Int)) (s0 : Nat), vs = [.ref y, .int (s0 : Int)] ∧ NL H y rs tss ∧ Gd tss ∧ tss.length ≤ 200 ∧ s0 < tss.length ∧
  ∀ (d : Addr) (ps : List (Nat × Option Nat)) (dp : List Nat) (H' : Hp), Same H H' → H d = none → H' d = some (.dK (kvs ps)) → Bf tss s0 ps dp → Dn tss ps dp ps.length → Q (.ref d) H'
theorem ok_ways_from (T : Txt K mg t) : FnOk P w K mg base CX0 1 t.f_ways_from t.d_ways_from ["lower", "start"] sp_ways := by
  refine T.ways_from.F.ok sc_ways_from (fun vs H Q E h => ?_) (fun cdv A outer s H vs Q E hr h => ?_)
  · obtain ⟨y, rs, tss, s0, rfl, _⟩ := h
    rfl
  · obtain ⟨y, rs, tss, s0, rfl, N, G, t200, hs0, k⟩ := h
    have hsz : sizeLine = 16777216 := sizeLine_eq
    refine ⟨_, (pss_cons (ps_set (i := 2) sc_ways_from.nd rfl (Or.inl rfl) (pe_disp (pps_cons (pv 1) pe_non pps_nil) rfl rfl (by simp) (by decide)))
      (pss_cons (ps_set (i := 3) sc_ways_from.nd rfl (Or.inl rfl) (pe_lst (pa_cons (pv 1) pa_nil)))
      (pss_cons (ps_set (i := 4) sc_ways_from.nd rfl (Or.inl rfl) pe_int)
      (pss_cons (ps_while PassesOwn.never (pt_cmpR op_lt (pv 4) (pe_callB (call_len_seqK (K := K)) rfl T.b_len bt_len (pa_cons (pv 3) pa_nil)) (nomark _))
        (pss_cons (ps_set (i := 5) sc_ways_from.nd rfl (Or.inl rfl) (pe_ix (ix_listK (K := K)) (pv 3) (pv 4) (fun _ _ => rfl)))
        (pss_cons (ps_for PassesOwn.never rfl (pi_listK (K := K) (pe_ix (ix_listK (K := K)) (pv 0) (pv 5) (fun _ _ => rfl))) (pg_name (i := 6) sc_ways_from.nd rfl (Or.inl rfl))
          (pss_one (ps_if (pt_cmp (pc_dnotin (hu_of hr) (pv 6) (pv 2)))
            (pss_cons (ps_dput (hu_of hr) (pv 2) (pv 6) (pv 5) rfl)
            (pss_one (ps_expr (pe_bmK (K := K) PySem.F.plainAttrs_list PySem.F.slot_list_append PySem.F.type_list_append mt_append (pv 3) (pa_cons (pv 6) pa_nil)))))
            pss_nil)))
        (pss_one (ps_aug (i := 4) sc_ways_from.nd rfl (Or.inl rfl) pe_int ip_add)))))
      (pss_one (ps_ret (pv 2))))))), ?_⟩
    refine fun d nd => ⟨_, rfl, upd_same, [(Sum.inl (s0 : Int), .non)], rfl, (by show 1 ≤ 15; decide), ?_⟩
    have s1 : Same H (upd (upd H d (.dK [])) d (.dK (mergeK [] [(Sum.inl (s0 : Int), .non)]))) := (Same.upd nd).over nd
    have hd1 : (upd (upd H d (.dK [])) d (.dK (mergeK [] [(Sum.inl (s0 : Int), .non)]))) d = some (.dK (kvs [(s0, none)])) := upd_same
    generalize upd (upd H d (.dK [])) d (.dK (mergeK [] [(Sum.inl (s0 : Int), .non)])) = H1 at s1 hd1 ⊢
    refine ⟨_, rfl, (by show 1 ≤ sizeLine; decide), fun f nf => ?_⟩
    have nfH : H f = none := s1.free nf
    have dnf : d ≠ f := fun e => by rw [e, nf] at hd1; cases hd1
    have s2 : Same H (upd H1 f (.lst [.int (s0 : Int)])) := s1.new nf
    have hd2 := (Same.upd (o := .lst [.int (s0 : Int)]) nf) _ _ hd1
    have hf2 : (upd H1 f (.lst [.int (s0 : Int)])) f = some (.lst (vF [(s0, none)])) := upd_same
    generalize upd H1 f (.lst [.int (s0 : Int)]) = H2 at s2 hd2 hf2 ⊢
    refine ⟨fun m σ H3 => ∃ (pl : Nat) (ps : List (Nat × Option Nat)) (dp : List Nat) (v5 v6 : Option V), σ = [some (.ref y), some (.int (s0 : Int)), some (.ref d), some (.ref f), some (.int (pl : Int)), v5, v6] ∧ Same H H3 ∧ H3 d = some (.dK (kvs ps)) ∧ H3 f = some (.lst (vF ps)) ∧ Bf tss s0 ps dp ∧ Dn tss ps dp pl ∧ pl ≤ ps.length ∧ (∀ j x a : Nat, dp[j]? = some x → dp[pl]? = some a → x ≤ a + 1) ∧ m = tss.length - pl,
      ⟨_, 0, [(s0, none)], [0], none, none, rfl, s2, hd2, hf2, Bf.one hs0, Dn.zero, Nat.zero_le _, fun j x a h1 h2 => ?_, rfl⟩, ?_⟩
    · have := (Bf.one hs0).mono
      have g1 := (List.getElem?_eq_some_iff.mp h1).1
      have g0 : j = 0 := by simpa using g1
      rw [g0] at h1
      rw [h1] at h2
      cases h2
      omega
    rintro m σ H3 ⟨pl, ps, dp, v5, v6, rfl, s3, hd3, hf3, B, D, hpl, near, rfl⟩
    refine ⟨_, rfl, _, rfl, _, _, rfl, .inl (SqL.of hf3), _, _, rfl, rfl, _, rfl, ?_⟩
    rw [vF_len]
    refine ite2D (fun h => ?_) (fun h => ?_)
    · have plt : pl < ps.length := by omega
      refine ⟨_, fun _ _ z => z, ?_⟩
      obtain ⟨⟨u, b⟩, hu⟩ : ∃ q, ps[pl]? = some q := ⟨_, List.getElem?_eq_getElem plt⟩
      obtain ⟨a0, ha0⟩ : ∃ a, dp[pl]? = some a := ⟨_, List.getElem?_eq_getElem (by rw [B.len]; exact plt)⟩
      have uN : u < tss.length := B.lt u b (List.mem_of_getElem? hu)
      have urs : u < rs.length := by rw [N.l]; exact uN
      refine ⟨_, rfl, _, rfl, _, _, _, _, rfl, rfl, SqL.of hf3, vF_at hu, ?_⟩
      have N3 := N.same s3
      have hrow := N3.r u rs[u] tss[u] (List.getElem?_eq_getElem urs) (List.getElem?_eq_getElem uN)
      have eg : tss.getD u [] = tss[u] := by rw [List.getD_eq_getElem?_getD, List.getElem?_eq_getElem uN]; rfl
      have au : atI (rs.map V.ref) (u : Int) = some (.ref rs[u]) := atI_of (by omega) (by rw [Int.toNat_natCast, List.getElem?_map, List.getElem?_eq_getElem urs]; rfl)
      refine ⟨_, rfl, _, rfl, _, _, _, _, rfl, rfl, SqL.of N3.h, au, _, rfl, ⟨_, SqL.of hrow⟩, for_list (K := K) (a := rs[u]) (xs := vI tss[u])
        (fun i σ H4 => ∃ (ps : List (Nat × Option Nat)) (dp : List Nat) (v6 : Option V), σ = [some (.ref y), some (.int (s0 : Int)), some (.ref d), some (.ref f), some (.int (pl : Int)), some (.int (u : Int)), v6] ∧ Same H H4 ∧ H4 d = some (.dK (kvs ps)) ∧ H4 f = some (.lst (vF ps)) ∧ Bf tss s0 ps dp ∧ Dn tss ps dp pl ∧ pl < ps.length ∧ ps[pl]? = some (u, b) ∧ dp[pl]? = some a0 ∧ (∀ j x : Nat, dp[j]? = some x → x ≤ a0 + 1) ∧
          ∀ z ∈ (tss[u]).take i, ∃ (j : Nat) (c : Option Nat), ps[j]? = some (z.toNat, c))
        ⟨ps, dp, v6, rfl, s3, hd3, hf3, B, D, plt, hu, ha0, fun j x h1 => near j x a0 h1 ha0, fun z hz => (by simp at hz)⟩ (fun i σ H4 _ ⟨_, _, _, _, s4, _⟩ => SqL.of ((N.same s4).r u rs[u] tss[u] (List.getElem?_eq_getElem urs) (List.getElem?_eq_getElem uN))) ?_ ?_⟩
      · rintro i x σ H4 hx ⟨ps, dp, v6, rfl, s4, hd4, hf4, B, D, plt, hu, ha0, near, hall⟩
        obtain ⟨z, hz, rfl⟩ := vI_got hx
        have hzm : z ∈ tss.getD u [] := by rw [eg]; exact List.mem_of_getElem? hz
        obtain ⟨z0', z1⟩ := G u z hzm
        obtain ⟨v, rfl⟩ : ∃ v : Nat, z = (v : Int) := ⟨z.toNat, by omega⟩
        have step : ∀ {ps' : List (Nat × Option Nat)}, (∀ (j : Nat) q, ps[j]? = some q → ps'[j]? = some q) → (∃ (j : Nat) (c : Option Nat), ps'[j]? = some (v, c)) → ∀ z ∈ (tss[u]).take (i + 1), ∃ (j : Nat) (c : Option Nat), ps'[j]? = some (z.toNat, c) := fun {ps'} mono hv z hz' => by
          rw [List.take_add_one, hz] at hz'
          rcases List.mem_append.mp hz' with h | h
          · obtain ⟨j, c, g⟩ := hall z h
            exact ⟨j, c, mono j _ g⟩
          · have e : z = (v : Int) := by simpa using h
            rw [e, Int.toNat_natCast]
            exact hv
        refine ⟨_, rfl, _, rfl, d, _, rfl, DGet.k (k := Sum.inl (v : Int)) hd4, _, rfl, ?_⟩
        by_cases hin : ∃ (j : Nat) (c : Option Nat), ps[j]? = some (v, c)
        · obtain ⟨j, c, g⟩ := hin
          rw [B.val g]
          refine iteF ?_
          exact ⟨ps, dp, _, rfl, s4, hd4, hf4, B, D, plt, hu, ha0, near, step (fun _ _ h => h) ⟨j, c, g⟩⟩
        · have new : ∀ (i : Nat) (a : Option Nat), ps[i]? ≠ some (v, a) := fun i a e => hin ⟨i, a, e⟩
          have hno : valV (kvs ps) (Sum.inl (v : Int)) = none := kvs_none fun a ha => by
            obtain ⟨j, hj, e⟩ := List.getElem_of_mem ha
            exact new j a (by rw [← e]; exact List.getElem?_eq_getElem hj)
          have sm := B.small
          rw [hno]
          refine iteT ?_
          refine ⟨_, rfl, _, rfl, _, rfl, d, _, rfl, DPut.k (k := Sum.inl (v : Int)) hd4 (by rw [kvs_len]; omega), ?_⟩
          rw [kvs_app ps v u hno]
          have s5 : Same H (upd H4 d (.dK (kvs (ps ++ [(v, some u)])))) := s4.over nd
          have hf5 : (upd H4 d (.dK (kvs (ps ++ [(v, some u)])))) f = some (.lst (vF ps)) := by rw [upd_ne dnf.symm]; exact hf4
          have hd5 : (upd H4 d (.dK (kvs (ps ++ [(v, some u)])))) d = some (.dK (kvs (ps ++ [(v, some u)]))) := upd_same
          generalize upd H4 d (.dK (kvs (ps ++ [(v, some u)]))) = H5 at s5 hf5 hd5 ⊢
          refine ⟨_, rfl, .inl ⟨rfl, _, SqL.of hf5⟩, _, rfl, _, _, _, rfl, rfl, hf5, (by rw [vF_len]; omega), ?_⟩
          rw [vF_app ps v (some u)]
          refine ⟨ps ++ [(v, some u)], dp ++ [a0 + 1], _, rfl, s5.over nfH, by rw [upd_ne dnf]; exact hd5, upd_same, B.add hu ha0 near hzm (by omega) new, D.app B.len (by omega) _ _, by rw [List.length_append]; omega, app_in hu, app_in ha0, fun j x h1 => ?_, step (fun _ _ h => app_in h) ⟨_, _, app_last _ _⟩⟩
          rcases app_old h1 with ⟨_, g⟩ | ⟨_, g⟩
          · exact near j x g
          · omega
      · rintro σ H4 ⟨ps, dp, v6, rfl, s4, hd4, hf4, B, D, plt, hu, ha0, nearB, hall⟩
        rw [vI_len, List.take_length] at hall
        have sm := B.small
        refine ⟨_, rfl, _, _, rfl, rfl, ?_⟩
        refine ⟨tss.length - (pl + 1), by omega, pl + 1, ps, dp, _, _, rfl, s4, hd4, hf4, B, fun i u' b' a' hi h1 h2 w hw => ?_, by omega, fun j x a h1 h2 => ?_, rfl⟩
        · by_cases e : i < pl
          · exact D i u' b' a' e h1 h2 w hw
          · have e : i = pl := by omega
            subst e
            rw [hu] at h1
            rw [ha0] at h2
            cases h1
            cases h2
            rw [eg] at hw
            obtain ⟨j, c, g⟩ := hall _ hw
            rw [Int.toNat_natCast] at g
            have hj : j < dp.length := by rw [B.len]; exact (List.getElem?_eq_some_iff.mp g).1
            exact ⟨j, c, dp[j], g, List.getElem?_eq_getElem hj, nearB j dp[j] (List.getElem?_eq_getElem hj)⟩
        · have h3 := nearB j x h1
          have h4 := B.mono pl (pl + 1) a0 a (by omega) ha0 h2
          omega
    · have e : pl = ps.length := by omega
      subst e
      exact ⟨_, rfl, k d ps dp H3 s3 nd hd3 B D⟩
theorem filt_step {α : Type} {l : List α} {p : α → Bool} {j : Nat} {z : α} (h : l[j]? = some z) : (l.take (j + 1)).filter p = (l.take j).filter p ++ (if p z = true then [z] else []) := by
  rw [List.take_add_one, h, List.filter_append]
  congr 1
  show List.filter p [z] = _
  by_cases h : p z = true
  · rw [if_pos h, List.filter_cons_of_pos h]; rfl
  · rw [if_neg h, List.filter_cons_of_neg h]; rfl
theorem kvs_isN {tss : List (List Int)} {s : Nat} {ps : List (Nat × Option Nat)} {dp : List Nat} (B : Bf tss s ps dp) (v : Nat) : (!(valV (kvs ps) (Sum.inl (v : Int))).isSome) = decide (v ∉ ps.map (·.1)) := by
  by_cases h : v ∈ ps.map (·.1)
  · obtain ⟨j, c, g⟩ := key_at h
    rw [B.val g, decide_eq_false (fun z => z h)]
    rfl
  · rw [kvs_none fun a ha => h (List.mem_map.mpr ⟨(v, a), ha, rfl⟩), decide_eq_true h]
    rfl
theorem cI_got {ws : List Nat} {i : Nat} {x : V} (h : (vI (cI ws))[i]? = some x) : ∃ v, ws[i]? = some v ∧ x = .int (v : Int) := by
  obtain ⟨z, hz, rfl⟩ := vI_got h
  unfold cI at hz
  rw [List.getElem?_map] at hz
  cases e : ws[i]? with
  | none => rw [e] at hz; cases hz
  | some v => rw [e] at hz; cases hz; exact ⟨v, rfl, rfl⟩
theorem nar_gd {tss : List (List Int)} {ws : List Nat} (h : ∀ v ∈ ws, v < tss.length) : Gd (nar tss ws) := fun v z hz => by
  obtain ⟨_, h1, _⟩ := mem_nar.mp hz
  obtain ⟨u, hu, rfl⟩ := List.mem_map.mp h1
  have := h u hu
  rw [nar, narK_len]
  show (0 : Int) ≤ (u : Int) ∧ (u : Int) < _
  omega
def sp_upper (K : PySem.W.Frag) : Sp := fun vs H Q _ => ∃ (y b : Addr) (rs : List Addr) (tss : List (List Int)) (ws : List Nat), vs = [.ref y, .ref b] ∧ NL H y rs (nar tss ws) ∧ SqL K H b (vI (cI ws)) ∧ tss.length ≤ 200 ∧ NS tss.length ws ∧
  (Conn tss ws → ∀ H', Same H H' → Q .non H') ∧ (¬ Conn tss ws → ∀ (l : Addr) (fs : List Nat) (H' : Hp), Same H H' → H l = none → H' l = some (.lst (vI (cI fs))) → Lf tss ws fs → Q (.ref l) H')
theorem ok_upper_part (T : Txt K mg t) : FnOk P w K mg base CX0 2 t.f_upper_part t.d_upper_part ["lower", "strands"] (sp_upper K) := by
  have G_ways_from : FnOk P w K mg base CX0 1 t.f_ways_from t.d_ways_from _ _ := ok_ways_from T
  refine T.upper_part.F.ok sc_upper_part (fun vs H Q E h => ?_) (fun cdv A outer s H vs Q E hr h => ?_)
  · obtain ⟨y, b, rs, tss, ws, rfl, _⟩ := h
    rfl
  · obtain ⟨y, b, rs, tss, ws, rfl, N, hB, t200, W, k1, k2⟩ := h
    have hsz : sizeLine = 16777216 := sizeLine_eq
    have wl := W.len
    have nl : (nar tss ws).length = tss.length := by rw [nar, narK_len]
    refine ⟨_, (pss_cons (ps_for PassesOwn.never rfl (pi_listK (K := K) (pv 1)) (pg_name (i := 2) sc_upper_part.nd rfl (Or.inl rfl))
        (pss_cons (ps_set (i := 3) sc_upper_part.nd rfl (Or.inr rfl) (pe_call (G_ways_from.mono (by decide)) hr rfl T.ways_from.m T.ways_from.F.kp T.ways_from.b .nil pass0 (pa_cons (pv 0) (pa_cons (pv 2) pa_nil))))
        (pss_one (ps_if (pt_cmpR op_lt (pe_callB call_lenD rfl T.b_len bt_len (pa_cons (pv 3) pa_nil)) (pe_callB (call_len_seqK (K := K)) rfl T.b_len bt_len (pa_cons (pv 1) pa_nil)) (nomark _))
          (pss_one (ps_ret (pe_comp (CompOk.mk (caps := [3]) (Nc := ["strand", "ahead"]) rfl (by decide +kernel) (by decide +kernel) (comp_fr (sc0 := defScope s_upper_part) rfl (by decide +kernel)) rfl rfl rfl (by decide +kernel) (fun k j h => match k, h with | 0, h => by obtain rfl := Option.some.inj h; exact ⟨_, rfl, rfl, rfl⟩ | _ + 1, h => by simp at h)) rfl (pi_listK (K := K) (pv 1)) (fun _ _ _ _ _ => .one (pt_cmp (pc_dnotin (hu_of hr) (pv 0) (pv 1)))) (fun _ _ _ _ _ => (pv 0)))))
          pss_nil))))
      (pss_one (ps_ret pe_non))), ?_⟩
    refine ⟨_, rfl, _, rfl, ⟨_, hB⟩, for_list (K := K) (a := b) (xs := vI (cI ws)) (fun i σ H5 => ∃ (v2 v3 : Option V), σ = [some (.ref y), some (.ref b), v2, v3] ∧ Same H H5 ∧ ∀ u ∈ ws.take i, ∀ v ∈ ws, ∃ L, Wy (nar tss ws) u L v)
      ⟨none, none, rfl, .refl _, fun u h => (by simp at h)⟩ (fun i σ H5 _ ⟨_, _, _, s5, _⟩ => s5.seq hB) ?_ ?_⟩
    · rintro i x σ H5 hx ⟨v2, v3, rfl, s5, hall⟩
      obtain ⟨u, hu, rfl⟩ := cI_got hx
      have um := List.mem_of_getElem? hu
      refine ⟨_, rfl, _, rfl, y, rs, nar tss ws, u, rfl, N.same s5, nar_gd W.lt, by omega, by rw [nl]; exact W.lt u um, fun d ps dp H6 s6 nd hd B D => ?_⟩
      have u6 := s5.trans s6
      refine ⟨_, rfl, d, _, rfl, hd, _, rfl, _, _, rfl, .inl (u6.seq hB), _, _, rfl, rfl, _, rfl, ?_⟩
      rw [kvs_len, vI_len, cI_len]
      refine ite2D (fun h => ?_) (fun h => ?_)
      · obtain ⟨nc, L⟩ := B.lift D W um (by omega)
        refine ⟨_, rfl, _, rfl, ⟨_, u6.seq hB⟩, comp_list (K := K) (a := b) (xs := vI (cI ws)) (fun j ys H7 => H7 = H6 ∧ ys = vI (cI ((ws.take j).filter fun v => decide (v ∉ ps.map (·.1))))) ⟨rfl, rfl⟩ ?_ ?_ ?_ ?_⟩
        · rintro j ys H7 hj ⟨rfl, rfl⟩
          refine ⟨u6.seq hB, ?_⟩
          rw [vI_len, cI_len]
          have := List.length_filter_le (fun v => decide (v ∉ ps.map (·.1))) (ws.take j)
          rw [List.length_take] at this
          omega
        · rw [vI_len, cI_len]; omega
        · rintro j xw ys H7 hj hxw ⟨rfl, rfl⟩
          obtain ⟨v, hv, rfl⟩ := cI_got hxw
          refine ⟨_, rfl, _, rfl, d, _, rfl, DGet.k (k := Sum.inl (v : Int)) hd, _, rfl, ?_⟩
          rw [kvs_isN B]
          have st := filt_step (p := fun v => decide (v ∉ ps.map (·.1))) hv
          refine ite2D (fun h => ?_) (fun h => ?_)
          · refine ⟨_, rfl, ?_⟩
            refine CN.of hj ⟨rfl, ?_⟩
            rw [st, if_pos (decide_eq_true h)]
            unfold cI
            rw [List.map_append]
            exact vI_app _ _
          · refine CN.of hj ⟨rfl, ?_⟩
            rw [st, decide_eq_false h, if_neg (by simp), List.append_nil]
        · rintro ys H7 q ⟨rfl, rfl⟩ hq
          rw [vI_len, cI_len, List.take_length]
          exact k2 nc q _ _ (u6.new hq) (u6.free hq) upd_same L
      · refine ⟨_, _, rfl, u6, fun u' hu' v hv => ?_⟩
        rw [List.take_add_one, hu] at hu'
        rcases List.mem_append.mp hu' with h' | h'
        · exact hall u' h' v hv
        · have e : u' = u := by simpa using h'
          subst e
          obtain ⟨j, c, g⟩ := B.full um (by omega) v hv
          have hj : j < dp.length := by rw [B.len]; exact (List.getElem?_eq_some_iff.mp g).1
          exact ⟨_, (B.sound j v c dp[j] g (List.getElem?_eq_getElem hj)).1⟩
    · rintro σ H5 ⟨v2, v3, rfl, s5, hall⟩
      rw [vI_len, cI_len, List.take_length] at hall
      exact k1 hall H5 s5
end
end Mine

set_option Elab.async false
set_option linter.all false
set_option maxRecDepth 100000
set_option maxHeartbeats 4000000
namespace Mine
open PySem L2
section
variable {P : Program} {w : World} {K : PySem.W.Frag} {mg : Str → Option Value} {base : Heap} {t : Adr}
theorem cI_app (ks : List Nat) (v : Nat) : vI (cI ks) ++ [.int (v : Int)] = vI (cI (ks ++ [v])) := by
  rw [vI_app]
  unfold cI
  rw [List.map_append]
  rfl
theorem getD_set {tss : List (List Int)} {u v : Nat} {k : List Int} (hu : u < tss.length) : (tss.set u k).getD v [] = if u = v then k else tss.getD v [] := by
  rw [List.getD_eq_getElem?_getD, List.getElem?_set]
  by_cases h : u = v
  · subst h
    rw [if_pos rfl, if_pos rfl, if_pos hu]
    rfl
  · rw [if_neg h, if_neg h, List.getD_eq_getElem?_getD]
theorem first_at {z : Int} : ∀ {ks : List Int}, z ∈ ks → ∃ j : Nat, ks[j]? = some z ∧ ∀ i : Nat, i < j → ks[i]? ≠ some z
  | a :: ks, h => by
    by_cases e : a = z
    · exact ⟨0, by rw [e]; rfl, fun i hi => absurd hi (Nat.not_lt_zero _)⟩
    · rcases List.mem_cons.mp h with h | h
      · exact absurd h.symm e
      · obtain ⟨j, h1, h2⟩ := first_at h
        refine ⟨j + 1, h1, fun i hi => ?_⟩
        cases i with
        | zero => exact fun z => e (Option.some.inj z)
        | succ i => exact h2 i (by omega)
theorem erase_keep {ks : List Int} {j : Nat} {z z' : Int} (hj : ks[j]? = some z) (h : z' ∈ ks) (hn : z' ≠ z) : z' ∈ ks.eraseIdx j := by
  rw [List.mem_eraseIdx_iff_getElem?]
  obtain ⟨i, hi, e⟩ := List.getElem_of_mem h
  refine ⟨i, fun z0 => ?_, by rw [List.getElem?_eq_getElem hi, e]⟩
  rw [← z0, List.getElem?_eq_getElem hi, e] at hj
  exact hn (Option.some.inj hj)
theorem erase_len {ks : List Int} {j : Nat} {z : Int} (hj : ks[j]? = some z) : (ks.eraseIdx j).length + 1 = ks.length := by
  have h := (List.getElem?_eq_some_iff.mp hj).1
  rw [List.length_eraseIdx, if_pos h]
  omega
theorem NL.ne_y {H : Hp} {y : Addr} {rs : List Addr} {tss : List (List Int)} (N : NL H y rs tss) {v : Nat} (hv : v < rs.length) : rs[v] ≠ y := fun e => by
  have ht : v < tss.length := by rw [← N.l]; exact hv
  have ha := N.r v rs[v] tss[v] (List.getElem?_eq_getElem hv) (List.getElem?_eq_getElem ht)
  rw [e, N.h] at ha
  have e2 : rs.map V.ref = vI tss[v] := by injection ha with ha; injection ha
  have g1 : (rs.map V.ref)[0]? = some (.ref rs[0]) := by rw [List.getElem?_map, List.getElem?_eq_getElem (by omega)]; rfl
  rw [e2] at g1
  obtain ⟨z, _, e3⟩ := vI_got g1
  cases e3
theorem NL.mut {H : Hp} {y : Addr} {rs : List Addr} {tss : List (List Int)} {ks : List Int} {v : Nat} (N : NL H y rs tss) (nd : rs.Nodup) (hv : v < rs.length) : NL (upd H rs[v] (.lst (vI ks))) y rs (tss.set v ks) := by
  refine ⟨by rw [upd_ne (N.ne_y hv).symm]; exact N.h, by rw [List.length_set]; exact N.l, fun i a ks' h1 h2 => ?_⟩
  have ht : v < tss.length := by rw [← N.l]; exact hv
  by_cases e : v = i
  · subst e
    rw [List.getElem?_set_self ht] at h2
    rw [List.getElem?_eq_getElem hv] at h1
    cases h1
    cases h2
    exact upd_same
  · rw [List.getElem?_set_ne e] at h2
    have hne : a ≠ rs[v] := fun ea => by
      have hi := (List.getElem?_eq_some_iff.mp h1).1
      rw [List.getElem?_eq_getElem hi] at h1
      have h1 := Option.some.inj h1
      rw [← h1] at ea
      exact e ((List.getElem_inj nd).mp ea.symm)
    rw [upd_ne hne]
    exact N.r i a ks' h1 h2
/-- all but these stay -/
def Frm (rs : List Addr) (H H' : Hp) : Prop := ∀ (b : Addr) (o : HO), b ∉ rs → H b = some o → H' b = some o
theorem Frm.same {rs : List Addr} {H H1 H2 : Hp} (F : Frm rs H H1) (s : Same H1 H2) : Frm rs H H2 := fun b o hb e => s _ _ (F b o hb e)
theorem Frm.mut {rs : List Addr} {H H1 : Hp} {v : Nat} {o : HO} (F : Frm rs H H1) (hv : v < rs.length) : Frm rs H (upd H1 rs[v] o) := fun b o' hb e => by
  rw [upd_ne fun z => hb (by rw [z]; exact List.getElem_mem hv)]
  exact F b o' hb e
/-- what a settled place leaves of the strands below -/
structure Stl (tss tss' : List (List Int)) (e pk : Nat) : Prop where
  len : tss'.length = tss.length
  sub : ∀ (u : Nat) (z : Int), z ∈ tss'.getD u [] → z ∈ tss.getD u []
  sh : ∀ u : Nat, (tss'.getD u []).length ≤ (tss.getD u []).length
  keep : ∀ (u : Nat) (z : Int), z ∈ tss.getD u [] → (u = pk ∧ z = (e : Int)) ∨ (u = e ∧ z = (pk : Int)) ∨ z ∈ tss'.getD u []
def Rl (tss : List (List Int)) (u v : Nat) : Prop := (v : Int) ∈ tss.getD u []
theorem erase_iff {ks : List Int} {j : Nat} {z z' : Int} (nd : ks.Nodup) (hj : ks[j]? = some z) : z' ∈ ks.eraseIdx j ↔ z' ∈ ks ∧ z' ≠ z := by
  refine ⟨fun h => ⟨List.mem_of_mem_eraseIdx h, fun e => ?_⟩, fun h => erase_keep hj h.1 h.2⟩
  rw [List.mem_eraseIdx_iff_getElem?] at h
  obtain ⟨i, hi, g⟩ := h
  rw [e] at g
  obtain ⟨i1, g1⟩ := List.getElem?_eq_some_iff.mp g
  obtain ⟨j1, g2⟩ := List.getElem?_eq_some_iff.mp hj
  exact hi ((List.getElem_inj nd).mp (g1.trans g2.symm))
theorem wy_rc {tss : List (List Int)} {s : Nat} : ∀ {L v : Nat}, Wy tss s L v → Rc (Rl tss) s v
  | _, _, .nil => .nil
  | _, _, .snoc h e => .snoc (wy_rc h) e
theorem rc_wy {tss : List (List Int)} {s v : Nat} (h : Rc (Rl tss) s v) : ∃ L, Wy tss s L v := by
  induction h with
  | nil => exact ⟨0, .nil⟩
  | snoc _ e ih =>
    obtain ⟨L, w⟩ := ih
    exact ⟨L + 1, .snoc w e⟩
def sp_settle (K : PySem.W.Frag) : Sp := fun vs H Q _ => ∃ (y : Addr) (rs : List Addr) (tss : List (List Int)) (e pk : Nat), vs = [.ref y, .int (e : Int), .int (pk : Int)] ∧ NL H y rs tss ∧ rs.Nodup ∧ Gd tss ∧ tss.length ≤ 200 ∧ (∀ u : Nat, (tss.getD u []).length ≤ 200) ∧ e < tss.length ∧ pk < tss.length ∧ e ≠ pk ∧ (e : Int) ∈ tss.getD pk [] ∧ (pk : Int) ∈ tss.getD e [] ∧ (∀ u : Nat, (tss.getD u []).Nodup) ∧
  ∀ (tss' : List (List Int)) (H' : Hp) (v : V), NL H' y rs tss' → Frm rs H H' → Stl tss tss' e pk → (∀ u : Nat, (tss'.getD u []).Nodup) → ((v = .non ∧ Rc (del (Rl tss) pk e) pk e ∧ ∀ u v : Nat, Rl tss' u v ↔ del (Rl tss) pk e u v) ∨ (∃ (l : Addr) (fs : List Nat), v = .ref l ∧ ¬ Rc (del (Rl tss) pk e) pk e ∧ (∀ u v : Nat, Rl tss' u v ↔ del (Rl tss) e pk u v) ∧ H' l = some (.lst (vI (cI fs))) ∧ l ∉ rs ∧ H l = none ∧ fs.Pairwise (· < ·) ∧ ∀ u : Nat, u ∈ fs ↔ u < tss.length ∧ ¬ Rc (del (Rl tss) pk e) pk u)) → Q v H'
theorem ok_settle (T : Txt K mg t) : FnOk P w K mg base CX0 2 t.f_settle t.d_settle ["lower", "end", "pick"] (sp_settle K) := by
  have G_ways_from : FnOk P w K mg base CX0 1 t.f_ways_from t.d_ways_from _ _ := ok_ways_from T
  refine T.settle.F.ok sc_settle (fun vs H Q E h => ?_) (fun cdv A outer s H vs Q E hr h => ?_)
  · obtain ⟨y, rs, tss, e, pk, rfl, _⟩ := h
    rfl
  · obtain ⟨y, rs, tss, e, pk, rfl, N, nd, G, t200, r200, he, hpk, hne, m1, m2, dn, k⟩ := h
    have hsz : sizeLine = 16777216 := sizeLine_eq
    have lrs := N.l
    have pr : pk < rs.length := by omega
    have er : e < rs.length := by omega
    have apk : atI (rs.map V.ref) (pk : Int) = some (.ref rs[pk]) := atI_of (by omega) (by rw [Int.toNat_natCast, List.getElem?_map, List.getElem?_eq_getElem pr]; rfl)
    have ae : atI (rs.map V.ref) (e : Int) = some (.ref rs[e]) := atI_of (by omega) (by rw [Int.toNat_natCast, List.getElem?_map, List.getElem?_eq_getElem er]; rfl)
    have rowAt : ∀ {H' : Hp} {ts : List (List Int)} {u : Nat} (hu : u < rs.length), NL H' y rs ts → H' rs[u] = some (.lst (vI (ts.getD u []))) := fun {H' ts u} hu N' => by
      have ht : u < ts.length := by rw [← N'.l]; exact hu
      have := N'.r u rs[u] ts[u] (List.getElem?_eq_getElem hu) (List.getElem?_eq_getElem ht)
      rw [this, List.getD_eq_getElem?_getD, List.getElem?_eq_getElem ht]
      rfl
    obtain ⟨j, hj, hno⟩ := first_at m1
    have hrow := rowAt pr N
    have el := erase_len hj
    have rl := r200 pk
    refine ⟨_, (pss_cons (ps_expr (pe_bmK (K := K) PySem.F.plainAttrs_list PySem.F.slot_list_remove PySem.F.type_list_remove mt_remove (pe_ix (ix_listK (K := K)) (pv 0) (pv 2) (fun _ _ => rfl)) (pa_cons (pv 1) pa_nil)))
      (pss_cons (ps_set (i := 3) sc_settle.nd rfl (Or.inr rfl) (pe_call (G_ways_from.mono (by decide)) hr rfl T.ways_from.m T.ways_from.F.kp T.ways_from.b .nil pass0 (pa_cons (pv 0) (pa_cons (pv 2) pa_nil))))
      (pss_cons (ps_if (pt_cmp (pc_din (hu_of hr) (pv 1) (pv 3)))
        (pss_one (ps_ret pe_non))
        pss_nil)
      (pss_cons (ps_expr (pe_bmK (K := K) PySem.F.plainAttrs_list PySem.F.slot_list_append PySem.F.type_list_append mt_append (pe_ix (ix_listK (K := K)) (pv 0) (pv 2) (fun _ _ => rfl)) (pa_cons (pv 1) pa_nil)))
      (pss_cons (ps_expr (pe_bmK (K := K) PySem.F.plainAttrs_list PySem.F.slot_list_remove PySem.F.type_list_remove mt_remove (pe_ix (ix_listK (K := K)) (pv 0) (pv 1) (fun _ _ => rfl)) (pa_cons (pv 2) pa_nil)))
      (pss_one (ps_ret (pe_comp (CompOk.mk (caps := [3]) (Nc := ["strand", "ahead"]) rfl (by decide +kernel) (by decide +kernel) (comp_fr (sc0 := defScope s_settle) rfl (by decide +kernel)) rfl rfl rfl (by decide +kernel) (fun k j h => match k, h with | 0, h => by obtain rfl := Option.some.inj h; exact ⟨_, rfl, rfl, rfl⟩ | _ + 1, h => by simp at h)) rfl (pi_range1 rfl T.b_range (pa_cons (pe_callB (call_len_seqK (K := K)) rfl T.b_len bt_len (pa_cons (pv 0) pa_nil)) pa_nil)) (fun _ _ _ _ _ => .one (pt_cmp (pc_dnotin (hu_of hr) (pv 0) (pv 1)))) (fun _ _ _ _ _ => (pv 0)))))))))), ?_⟩
    refine ⟨_, rfl, _, rfl, _, _, _, _, rfl, rfl, SqL.of N.h, apk, .inl ⟨rfl, _, SqL.of hrow⟩, _, rfl, rs[pk], tss.getD pk [], (e : Int), j, rfl, rfl, hrow, hj, hno, by omega, ?_⟩
    have N1 := N.mut (ks := (tss.getD pk []).eraseIdx j) nd pr
    have F1 : Frm rs H (upd H rs[pk] (.lst (vI ((tss.getD pk []).eraseIdx j)))) := Frm.mut (fun _ _ _ z => z) pr
    obtain ⟨ts1, e1⟩ : ∃ x, x = tss.set pk ((tss.getD pk []).eraseIdx j) := ⟨_, rfl⟩
    have g1 : ∀ v, ts1.getD v [] = if pk = v then (tss.getD pk []).eraseIdx j else tss.getD v [] := fun v => by rw [e1]; exact getD_set hpk
    have l1 : ts1.length = tss.length := by rw [e1, List.length_set]
    rw [← e1] at N1
    generalize upd H rs[pk] (.lst (vI ((tss.getD pk []).eraseIdx j))) = H1 at N1 F1 ⊢
    have S1 : Stl tss ts1 e pk := by
      refine ⟨l1, fun u z hz => ?_, fun u => ?_, fun u z hz => ?_⟩
      · rw [g1] at hz
        by_cases h : pk = u
        · rw [if_pos h] at hz; rw [← h]; exact List.mem_of_mem_eraseIdx hz
        · rw [if_neg h] at hz; exact hz
      · rw [g1]
        by_cases h : pk = u
        · rw [if_pos h, ← h]; omega
        · rw [if_neg h]; exact Nat.le_refl _
      · by_cases h : pk = u
        · subst h
          by_cases hz' : z = (e : Int)
          · exact .inl ⟨rfl, hz'⟩
          · refine .inr (.inr ?_)
            rw [g1, if_pos rfl]
            exact erase_keep hj hz hz'
        · refine .inr (.inr ?_)
          rw [g1, if_neg h]
          exact hz
    have X1 : ∀ u v : Nat, Rl ts1 u v ↔ del (Rl tss) pk e u v := fun u v => by
      unfold Rl del
      rw [g1]
      by_cases h : pk = u
      · subst h
        rw [if_pos rfl, erase_iff (dn pk) hj]
        exact ⟨fun z => ⟨z.1, fun q => z.2 (by omega)⟩, fun z => ⟨z.1, fun q => z.2 ⟨rfl, by omega⟩⟩⟩
      · rw [if_neg h]
        exact ⟨fun z => ⟨z, fun q => h q.1.symm⟩, fun z => z.1⟩
    have d1 : ∀ u : Nat, (ts1.getD u []).Nodup := fun u => by
      rw [g1]
      by_cases h : pk = u
      · rw [if_pos h]; exact (dn pk).sublist (List.eraseIdx_sublist ..)
      · rw [if_neg h]; exact dn u
    have rcX : Rc (Rl ts1) pk e ↔ Rc (del (Rl tss) pk e) pk e := ⟨fun r => r.mono fun u v g => (X1 u v).mp g, fun r => r.mono fun u v g => (X1 u v).mpr g⟩
    have G1 : Gd ts1 := fun u z hz => by
      have := G u z (S1.sub u z hz)
      rw [l1]
      exact this
    refine ⟨_, rfl, _, rfl, y, rs, ts1, pk, rfl, N1, G1, by omega, by omega, fun d ps dp H2 s2 ndd hd B D => ?_⟩
    have N2 := N1.same s2
    have F2 := F1.same s2
    have dnot : ∀ {v : Nat} (hv : v < rs.length), d ≠ rs[v] := fun {v} hv z => N1.isS (List.getElem_mem hv) (by rw [← z]; exact ndd)
    refine ⟨_, rfl, _, rfl, d, _, rfl, DGet.k (k := Sum.inl (e : Int)) hd, _, rfl, ?_⟩
    cases hval : valV (kvs ps) (Sum.inl (e : Int)) with
    | some o =>
      refine iteT ?_
      have hin : ∃ (jj : Nat) (c : Option Nat), ps[jj]? = some (e, c) := Classical.byContradiction fun hn => by
        have : valV (kvs ps) (Sum.inl (e : Int)) = none := kvs_none fun a ha => by
          obtain ⟨j', hj', e'⟩ := List.getElem_of_mem ha
          exact hn ⟨j', a, by rw [← e']; exact List.getElem?_eq_getElem hj'⟩
        rw [hval] at this
        cases this
      obtain ⟨jj, cc, gg⟩ := hin
      have hjj : jj < dp.length := by rw [B.len]; exact (List.getElem?_eq_some_iff.mp gg).1
      exact k ts1 H2 .non N2 F2 S1 d1 (.inl ⟨rfl, rcX.mp (wy_rc (B.sound jj e cc dp[jj] gg (List.getElem?_eq_getElem hjj)).1), X1⟩)
    | none =>
      refine iteF ?_
      have hrow2 := rowAt pr N2
      have rl1 := S1.sh pk
      refine ⟨_, rfl, _, rfl, _, _, _, _, rfl, rfl, SqL.of N2.h, apk, .inl ⟨rfl, _, SqL.of hrow2⟩, _, rfl, _, _, _, rfl, rfl, hrow2, (by rw [vI_len]; omega), ?_⟩
      rw [vI_app]
      have N3 := N2.mut (ks := ts1.getD pk [] ++ [(e : Int)]) nd pr
      have F3 := F2.mut (o := .lst (vI (ts1.getD pk [] ++ [(e : Int)]))) pr
      have hd3 : (upd H2 rs[pk] (.lst (vI (ts1.getD pk [] ++ [(e : Int)])))) d = some (.dK (kvs ps)) := by rw [upd_ne (dnot pr)]; exact hd
      obtain ⟨ts2, e2⟩ : ∃ x, x = ts1.set pk (ts1.getD pk [] ++ [(e : Int)]) := ⟨_, rfl⟩
      have g2 : ∀ v, ts2.getD v [] = if pk = v then ts1.getD pk [] ++ [(e : Int)] else ts1.getD v [] := fun v => by rw [e2]; exact getD_set (by omega)
      have l2 : ts2.length = tss.length := by rw [e2, List.length_set]; exact l1
      rw [← e2] at N3
      generalize upd H2 rs[pk] (.lst (vI (ts1.getD pk [] ++ [(e : Int)]))) = H3 at N3 F3 hd3 ⊢
      have pe : ¬ pk = e := fun z => hne z.symm
      have ge : ts2.getD e [] = tss.getD e [] := by rw [g2, if_neg pe, g1, if_neg pe]
      have m3 : (pk : Int) ∈ ts2.getD e [] := by rw [ge]; exact m2
      obtain ⟨j', hj', hno'⟩ := first_at m3
      have hrow3 := rowAt er N3
      have el' := erase_len hj'
      have re := r200 e
      rw [← ge] at re
      refine ⟨_, rfl, _, rfl, _, _, _, _, rfl, rfl, SqL.of N3.h, ae, .inl ⟨rfl, _, SqL.of hrow3⟩, _, rfl, rs[e], ts2.getD e [], (pk : Int), j', rfl, rfl, hrow3, hj', hno', by omega, ?_⟩
      have N4 := N3.mut (ks := (ts2.getD e []).eraseIdx j') nd er
      have F4 := F3.mut (o := .lst (vI ((ts2.getD e []).eraseIdx j'))) er
      have hd4 : (upd H3 rs[e] (.lst (vI ((ts2.getD e []).eraseIdx j')))) d = some (.dK (kvs ps)) := by rw [upd_ne (dnot er)]; exact hd3
      obtain ⟨ts3, e3⟩ : ∃ x, x = ts2.set e ((ts2.getD e []).eraseIdx j') := ⟨_, rfl⟩
      have g3 : ∀ v, ts3.getD v [] = if e = v then (ts2.getD e []).eraseIdx j' else ts2.getD v [] := fun v => by rw [e3]; exact getD_set (by omega)
      have l3 : ts3.length = tss.length := by rw [e3, List.length_set]; exact l2
      rw [← e3] at N4
      generalize upd H3 rs[e] (.lst (vI ((ts2.getD e []).eraseIdx j'))) = H4 at N4 F4 hd4 ⊢
      have S3 : Stl tss ts3 e pk := by
        refine ⟨l3, fun u z hz => ?_, fun u => ?_, fun u z hz => ?_⟩
        · rw [g3] at hz
          by_cases h : e = u
          · rw [if_pos h] at hz; rw [← h, ← ge]; exact List.mem_of_mem_eraseIdx hz
          · rw [if_neg h, g2] at hz
            by_cases h' : pk = u
            · rw [if_pos h'] at hz
              rw [← h']
              rcases List.mem_append.mp hz with q | q
              · exact S1.sub pk z q
              · rw [List.mem_singleton.mp q]; exact m1
            · rw [if_neg h'] at hz
              exact S1.sub u z hz
        · rw [g3]
          by_cases h : e = u
          · rw [if_pos h, ← h, ← ge]; omega
          · rw [if_neg h, g2]
            by_cases h' : pk = u
            · rw [if_pos h', ← h', List.length_append, g1, if_pos rfl, List.length_singleton]
              omega
            · rw [if_neg h']
              exact S1.sh u
        · by_cases h : e = u
          · subst h
            by_cases hz' : z = (pk : Int)
            · exact .inr (.inl ⟨rfl, hz'⟩)
            · refine .inr (.inr ?_)
              rw [g3, if_pos rfl]
              exact erase_keep hj' (by rw [ge]; exact hz) hz'
          · rcases S1.keep u z hz with q | q | q
            · refine .inr (.inr ?_)
              rw [g3, if_neg h, g2, if_pos q.1.symm, q.2]
              exact List.mem_append_right _ List.mem_cons_self
            · exact absurd q.1.symm h
            · refine .inr (.inr ?_)
              rw [g3, if_neg h, g2]
              by_cases h' : pk = u
              · rw [if_pos h', h']; exact List.mem_append_left _ q
              · rw [if_neg h']; exact q
      have noR : ¬ Rc (del (Rl tss) pk e) pk e := fun r => by
        obtain ⟨L, w'⟩ := rc_wy (rcX.mpr r)
        obtain ⟨j1, c1, x1, g1', _⟩ := B.reach D L e w'
        rw [B.val g1'] at hval
        cases hval
      have X3 : ∀ u v : Nat, Rl ts3 u v ↔ del (Rl tss) e pk u v := fun u v => by
        unfold Rl del
        rw [g3]
        by_cases h : e = u
        · subst h
          rw [if_pos rfl, erase_iff (by rw [ge]; exact dn e) hj', ge]
          exact ⟨fun z => ⟨z.1, fun q => z.2 (by omega)⟩, fun z => ⟨z.1, fun q => z.2 ⟨rfl, by omega⟩⟩⟩
        · rw [if_neg h, g2]
          by_cases h' : pk = u
          · subst h'
            rw [if_pos rfl]
            refine ⟨fun z => ⟨?_, fun q => h q.1.symm⟩, fun z => ?_⟩
            · rcases List.mem_append.mp z with q | q
              · exact S1.sub pk _ q
              · rw [List.mem_singleton.mp q]; exact m1
            · by_cases q : v = e
              · rw [q]; exact List.mem_append_right _ List.mem_cons_self
              · exact List.mem_append_left _ ((X1 pk v).mpr ⟨z.1, fun w' => q w'.2⟩)
          · rw [if_neg h', g1, if_neg h']
            exact ⟨fun z => ⟨z, fun q => h q.1.symm⟩, fun z => z.1⟩
      have d3 : ∀ u : Nat, (ts3.getD u []).Nodup := fun u => by
        rw [g3]
        by_cases h : e = u
        · rw [if_pos h, ge]; exact (dn e).sublist (List.eraseIdx_sublist ..)
        · rw [if_neg h, g2]
          by_cases h' : pk = u
          · rw [if_pos h']
            refine List.nodup_append.mpr ⟨d1 pk, by simp, fun a ha b hb => ?_⟩
            rw [List.mem_singleton.mp hb]
            intro q
            rw [q] at ha
            exact ((X1 pk e).mp ha).2 ⟨rfl, rfl⟩
          · rw [if_neg h']; exact d1 u
      have lN : (rs.map V.ref).length = tss.length := by rw [List.length_map]; exact lrs
      refine ⟨_, rfl, _, _, rfl, .inl (SqL.of N4.h), _, rfl, (by omega), (by rw [lN]; omega), ?_⟩
      rw [Int.toNat_natCast, lN]
      have inP : ∀ u : Nat, u ∈ ps.map (·.1) ↔ Rc (del (Rl tss) pk e) pk u := fun u => by
        constructor
        · intro hu
          obtain ⟨jj, cc, gg⟩ := key_at hu
          have hjj : jj < dp.length := by rw [B.len]; exact (List.getElem?_eq_some_iff.mp gg).1
          exact (wy_rc (B.sound jj u cc dp[jj] gg (List.getElem?_eq_getElem hjj)).1).mono fun u v g => (X1 u v).mp g
        · intro r
          obtain ⟨L, w'⟩ := rc_wy (r.mono fun u v g => (X1 u v).mpr g)
          obtain ⟨j1, c1, x1, g1', _⟩ := B.reach D L u w'
          exact List.mem_map.mpr ⟨(u, c1), List.mem_of_getElem? g1', rfl⟩
      refine comp_range (lo := 0) (n := tss.length) (fun i ys H5 => H5 = H4 ∧ ys = vI (cI ((List.range i).filter fun v => decide (v ∉ ps.map (·.1))))) ⟨rfl, rfl⟩ ?_ ?_ ?_ ?_
      · rintro i ys H5 hi ⟨rfl, rfl⟩
        rw [vI_len, cI_len]
        have := List.length_filter_le (fun v => decide (v ∉ ps.map (·.1))) (List.range i)
        rwa [List.length_range] at this
      · omega
      · rintro i ys H5 hi ⟨rfl, rfl⟩
        refine ⟨_, rfl, _, rfl, d, _, rfl, DGet.k (k := Sum.inl (0 + (i : Int))) hd4, _, rfl, ?_⟩
        have st : (List.range (i + 1)).filter (fun v => decide (v ∉ ps.map (·.1))) = (List.range i).filter (fun v => decide (v ∉ ps.map (·.1))) ++ (if i ∉ ps.map (·.1) then [i] else []) := by
          rw [List.range_succ, List.filter_append]
          congr 1
          by_cases h : i ∉ ps.map (·.1)
          · rw [if_pos h, List.filter_cons_of_pos (p := fun v => decide (v ∉ ps.map (·.1))) (decide_eq_true h)]; rfl
          · rw [if_neg h, List.filter_cons_of_neg (p := fun v => decide (v ∉ ps.map (·.1))) (by rw [decide_eq_false h]; simp)]; rfl
        rw [show (0 : Int) + (i : Int) = (i : Int) by omega, kvs_isN B]
        refine ite2D (fun h => ?_) (fun h => ?_)
        · refine ⟨_, rfl, ?_⟩
          refine CN.of hi ⟨rfl, ?_⟩
          rw [st, if_pos h, cI_app]
        · exact CN.of hi ⟨rfl, by rw [st, if_neg h, List.append_nil]⟩
      · rintro ys H5 q ⟨rfl, rfl⟩ hq
        have s6 := Same.upd (o := .lst (vI (cI ((List.range tss.length).filter fun v => decide (v ∉ ps.map (·.1)))))) hq
        have qno : q ∉ rs := fun z => N4.isS z hq
        have qH : H q = none := by
          cases hH : H q with
          | none => rfl
          | some o => rw [F4 q o qno hH] at hq; cases hq
        refine k ts3 _ (.ref q) (N4.same s6) (F4.same s6) S3 d3 (.inr ⟨q, _, rfl, noR, X3, upd_same, qno, qH, List.Pairwise.filter _ List.pairwise_lt_range, fun u => ?_⟩)
        rw [List.mem_filter, List.mem_range, decide_eq_true_iff, inP]
end
end Mine

set_option Elab.async false
set_option linter.all false
set_option maxRecDepth 100000
set_option maxHeartbeats 4000000
namespace Mine
open PySem L2
section
variable {P : Program} {w : World} {K : PySem.W.Frag} {mg : Str → Option Value} {base : Heap} {t : Adr}
theorem lows_gdH {cl : List (List Nat)} {m n : Nat} (C : Hc cl m n) : Gd (lows cl m) := fun v z hz => by
  have hn := C.hn
  have ll := lows_len cl m
  by_cases h : v < m + cl.length
  · by_cases h1 : v < m
    · rw [List.getD_eq_getElem?_getD, lows_end h1] at hz
      obtain ⟨p, hp, _, e⟩ := mem_lowE.mp hz
      rw [ll, e]
      omega
    · have e : v = m + (v - m) := by omega
      have hp : v - m < cl.length := by omega
      rw [e, List.getD_eq_getElem?_getD, lows_pick hp] at hz
      obtain ⟨q, hq, _, e⟩ := mem_lowP.mp hz
      rw [ll, e]
      omega
  · rw [List.getD_eq_getElem?_getD, List.getElem?_eq_none (by rw [ll]; omega)] at hz
    simp at hz
theorem lows_shortH {cl : List (List Nat)} {m n : Nat} (C : Hc cl m n) (u : Nat) : ((lows cl m).getD u []).length ≤ 200 := by
  have c2 := C.n40
  have c4 := C.m40
  have hn := C.hn
  by_cases h : u < m + cl.length
  · by_cases h1 : u < m
    · rw [List.getD_eq_getElem?_getD, lows_end h1]
      have := lowE_len cl m u cl.length
      show (lowE cl m u cl.length).length ≤ 200
      omega
    · have e : u = m + (u - m) := by omega
      have hp : u - m < cl.length := by omega
      rw [e, List.getD_eq_getElem?_getD, lows_pick hp]
      have := lowP_len cl[u - m] m
      show (lowP cl[u - m] m).length ≤ 200
      omega
  · rw [List.getD_eq_getElem?_getD, List.getElem?_eq_none (by rw [lows_len]; omega)]
    exact Nat.zero_le _
theorem nar_all {tss : List (List Int)} (G : Gd tss) : nar tss (List.range tss.length) = tss := by
  refine List.ext_getElem? fun v => ?_
  by_cases h : v < tss.length
  · rw [nar, narK_get h, if_pos (List.mem_range.mpr h), List.getElem?_eq_getElem h]
    have eg : tss.getD v [] = tss[v] := by rw [List.getD_eq_getElem?_getD, List.getElem?_eq_getElem h]; rfl
    rw [narR, eg]
    refine congrArg some (List.filter_eq_self.mpr fun z hz => decide_eq_true ?_)
    have := G v z (by rw [eg]; exact hz)
    have e : z = ((z.toNat : Nat) : Int) := by omega
    rw [e]
    exact cI_mem.mpr (List.mem_range.mpr (by omega))
  · rw [List.getElem?_eq_none (by rw [nar, narK_len]; omega), List.getElem?_eq_none (by omega)]
theorem ns_range {N : Nat} (h : 1 ≤ N) : NS N (List.range N) := by
  refine ⟨fun e => ?_, List.pairwise_lt_range, fun v hv => List.mem_range.mp hv⟩
  have := congrArg List.length e
  rw [List.length_range] at this
  simp at this
  omega
theorem Frm.keep {rs : List Addr} {H0 H H' : Hp} (F : Frm rs H H') (s : Same H0 H) (fr : Frs H0 rs) : Same H0 H' := fun b o e => F b o (fun z => by rw [fr.2 b z] at e; cases e) (s _ _ e)
theorem NL.out {H : Hp} {y q : Addr} {rs : List Addr} {tss : List (List Int)} {o : HO} (N : NL H y rs tss) (h1 : q ∉ rs) (h2 : q ≠ y) : NL (upd H q o) y rs tss :=
  ⟨by rw [upd_ne h2.symm]; exact N.h, N.l, fun i a ks g1 g2 => by rw [upd_ne fun z => h1 (by rw [← z]; exact List.mem_of_getElem? g1)]; exact N.r i a ks g1 g2⟩
theorem lows_ed {cl : List (List Nat)} {m n : Nat} (C : Hc cl m n) (u v : Nat) : Rl (lows cl m) u v ↔ Ed m n (sg2 cl) u v := by
  have hn := C.hn
  unfold Rl
  by_cases h1 : u < m
  · rw [List.getD_eq_getElem?_getD, lows_end h1]
    show (v : Int) ∈ lowE cl m u cl.length ↔ _
    rw [mem_lowE]
    constructor
    · rintro ⟨p, h2, h3, h4⟩; exact .inl ⟨p, by omega, h1, by omega, h3⟩
    · rintro (⟨p, h2, h3, h4, h5⟩ | ⟨p, h2, h3, h4, h5⟩)
      · exact ⟨p, by omega, h5, by omega⟩
      · omega
  · by_cases h2 : u < m + n
    · obtain ⟨p, rfl⟩ : ∃ p, u = m + p := ⟨u - m, by omega⟩
      have hp : p < cl.length := by omega
      have e1 : cl.getD p [] = cl[p] := by rw [List.getD_eq_getElem?_getD, List.getElem?_eq_getElem hp]; rfl
      rw [List.getD_eq_getElem?_getD, lows_pick hp]
      show (v : Int) ∈ lowP cl[p] m ↔ _
      rw [mem_lowP]
      constructor
      · rintro ⟨e, h3, h4, h5⟩
        have ev : v = e := by omega
        subst ev
        exact .inr ⟨p, by omega, h3, rfl, by unfold sg2; rw [e1]; exact h4⟩
      · rintro (⟨p', h3, h4, h5, h6⟩ | ⟨p', h3, h4, h5, h6⟩)
        · omega
        · have ep : p' = p := by omega
          subst ep
          unfold sg2 at h6
          rw [e1] at h6
          exact ⟨v, h4, h6, rfl⟩
    · rw [List.getD_eq_getElem?_getD, List.getElem?_eq_none (by rw [lows_len]; omega)]
      constructor
      · intro z; simp at z
      · rintro (⟨p', h3, h4, h5, h6⟩ | ⟨p', h3, h4, h5, h6⟩) <;> omega
theorem conn_sc {cl : List (List Nat)} {m n : Nat} (C : Hc cl m n) : Conn (lows cl m) (List.range (m + n)) ↔ SC (m + n) (Ed m n (sg2 cl)) := by
  have ll : (lows cl m).length = m + n := by rw [lows_len, C.hn]
  have na : nar (lows cl m) (List.range (m + n)) = lows cl m := by rw [← ll]; exact nar_all (lows_gdH C)
  unfold Conn SC
  rw [na]
  constructor
  · intro h u v hu hv
    obtain ⟨L, w'⟩ := h u (List.mem_range.mpr hu) v (List.mem_range.mpr hv)
    exact (wy_rc w').mono fun a b g => (lows_ed C a b).mp g
  · intro h u hu v hv
    exact rc_wy ((h u v (List.mem_range.mp hu) (List.mem_range.mp hv)).mono fun a b g => (lows_ed C a b).mpr g)
theorem lows_nd {cl : List (List Nat)} {m n : Nat} (C : Hc cl m n) (u : Nat) : ((lows cl m).getD u []).Nodup := by
  have hn := C.hn
  by_cases h1 : u < m
  · rw [List.getD_eq_getElem?_getD, lows_end h1]
    show (lowE cl m u cl.length).Nodup
    unfold lowE
    rw [List.nodup_iff_pairwise_ne, List.pairwise_map]
    exact (List.Pairwise.filter _ List.pairwise_lt_range).imp fun {a b} h => by omega
  · by_cases h2 : u < m + n
    · obtain ⟨p, rfl⟩ : ∃ p, u = m + p := ⟨u - m, by omega⟩
      have hp : p < cl.length := by omega
      rw [List.getD_eq_getElem?_getD, lows_pick hp]
      show (lowP cl[p] m).Nodup
      unfold lowP
      rw [List.nodup_iff_pairwise_ne, List.pairwise_map]
      exact (List.Pairwise.filter _ List.pairwise_lt_range).imp fun {a b} h => by omega
    · rw [List.getD_eq_getElem?_getD, List.getElem?_eq_none (by rw [lows_len]; omega)]
      exact List.nodup_nil
/-- the strands below, as far as (i, j) has been gone -/
structure Stt (cl : List (List Nat)) (m n : Nat) (tss : List (List Int)) (f : Nat → Nat → Nat) (i j : Nat) : Prop where
  len : tss.length = m + n
  gd : Gd tss
  sh : ∀ u : Nat, (tss.getD u []).length ≤ 200
  nd : ∀ u : Nat, (tss.getD u []).Nodup
  ed : ∀ u v : Nat, Rl tss u v ↔ Ed m n (mix f (sg2 cl) i j) u v
  pr : Prc m n (sg2 cl) f i j
theorem Stt.plain {cl : List (List Nat)} {m n : Nat} {tss : List (List Int)} {cf : List (List Nat)} {us : List Nat} {i j c : Nat} (S : Stt cl m n tss (cur cf us) i j) (C : Hc cl m n) (ci : cf.length = i) (uj : us.length = j) (hi : i < n) (hj : j < m) (hc : sg2 cl i j = c) (h63 : c ≠ 63) (hs : Sq3 c) : Stt cl m n tss (cur cf (us ++ [c])) i (j + 1) := by
  subst ci
  subst uj
  have h0 : sg2 cl cf.length us.length ≠ 63 := by rw [hc]; exact h63
  have same : ∀ p e, set2 (mix (cur cf us) (sg2 cl) cf.length us.length) cf.length us.length c p e = mix (cur cf us) (sg2 cl) cf.length us.length p e := fun p e => by
    by_cases q : p = cf.length ∧ e = us.length
    · rw [q.1, q.2, set2_at, mix_here, hc]
    · exact set2_ne q
  have P2 : Prc m n (sg2 cl) (set2 (cur cf us) cf.length us.length c) cf.length (us.length + 1) := S.pr.step hi hj (by
    rcases hs with h | h | h
    · exact .inl h
    · exact .inr h
    · exact absurd h h63) (fun _ => hc.symm) (fun z => absurd z h0) (sc_mono (fun u v g => (Ed.congr fun p e _ _ => (same p e).symm).mp g) S.pr.sc)
  refine ⟨S.len, S.gd, S.sh, S.nd, fun u v => ?_, P2.cong fun p e b => cur_add p e b⟩
  rw [S.ed, Ed.congr fun p e _ _ => (same p e).symm, Ed.congr fun p e _ _ => (mix_next (cur cf us) (sg2 cl) cf.length us.length c p e).symm]
  exact Ed.congr fun p e _ _ => mix_cong (fun p e b => cur_add p e b) p e
theorem Stt.open' {cl : List (List Nat)} {m n : Nat} {tss tss' : List (List Int)} {cf : List (List Nat)} {us : List Nat} {i j c : Nat} (S : Stt cl m n tss (cur cf us) i j) (T : Stl tss tss' j (m + i)) (nd' : ∀ u : Nat, (tss'.getD u []).Nodup) (C : Hc cl m n) (ci : cf.length = i) (uj : us.length = j) (hi : i < n) (hj : j < m) (hq : sg2 cl i j = 63)
    (h : (c = 35 ∧ Rc (del (Rl tss) (m + i) j) (m + i) j ∧ ∀ u v : Nat, Rl tss' u v ↔ del (Rl tss) (m + i) j u v) ∨ (c = 46 ∧ ¬ Rc (del (Rl tss) (m + i) j) (m + i) j ∧ ∀ u v : Nat, Rl tss' u v ↔ del (Rl tss) j (m + i) u v)) : Stt cl m n tss' (cur cf (us ++ [c])) i (j + 1) := by
  subst ci
  subst uj
  have m63 : mix (cur cf us) (sg2 cl) cf.length us.length cf.length us.length = 63 := by rw [mix_here]; exact hq
  have dl : ∀ a b u v, del (Rl tss) a b u v ↔ del (Ed m n (mix (cur cf us) (sg2 cl) cf.length us.length)) a b u v := fun a b u v => by unfold del; rw [S.ed]
  have rcq : Rc (del (Rl tss) (m + cf.length) us.length) (m + cf.length) us.length ↔ Rc (del (Ed m n (mix (cur cf us) (sg2 cl) cf.length us.length)) (m + cf.length) us.length) (m + cf.length) us.length := ⟨fun r => r.mono fun u v g => (dl _ _ u v).mp g, fun r => r.mono fun u v g => (dl _ _ u v).mpr g⟩
  have ed' : ∀ u v : Nat, Rl tss' u v ↔ Ed m n (set2 (mix (cur cf us) (sg2 cl) cf.length us.length) cf.length us.length c) u v := fun u v => by
    rcases h with ⟨rfl, _, h⟩ | ⟨rfl, _, h⟩
    · rw [h, dl, ed35 hi hj m63]
    · rw [h, dl, ed46 hi hj m63]
  have sc' : SC (m + n) (Ed m n (set2 (mix (cur cf us) (sg2 cl) cf.length us.length) cf.length us.length c)) := by
    rcases h with ⟨rfl, r, _⟩ | ⟨rfl, r, _⟩
    · exact sc_mono (fun u v g => (ed35 hi hj m63 u v).mpr g) (sc_del S.pr.sc (rcq.mp r))
    · exact sc_mono (fun u v g => (ed46 hi hj m63 u v).mpr g) (sc_other C.m2 C.n2 (fun e p he hp => Ed.full _ he hp) S.pr.sc hj hi fun z => r (rcq.mpr z))
  have P2 : Prc m n (sg2 cl) (set2 (cur cf us) cf.length us.length c) cf.length (us.length + 1) := S.pr.step hi hj (by
    rcases h with ⟨z, _⟩ | ⟨z, _⟩
    · exact .inl z
    · exact .inr z) (fun z => absurd hq z) (fun _ => by
    rcases h with ⟨z, r, _⟩ | ⟨z, r, _⟩
    · exact ⟨fun _ => rcq.mp r, fun _ => z⟩
    · exact ⟨fun q => (by rw [z] at q; cases q), fun q => absurd (rcq.mpr q) r⟩) sc'
  refine ⟨by rw [T.len, S.len], fun u z hz => ?_, fun u => Nat.le_trans (T.sh u) (S.sh u), nd', fun u v => ?_, P2.cong fun p e b => cur_add p e b⟩
  · have := S.gd u z (T.sub u z hz)
    rw [T.len]
    exact this
  · rw [ed', Ed.congr fun p e _ _ => (mix_next (cur cf us) (sg2 cl) cf.length us.length c p e).symm]
    exact Ed.congr fun p e _ _ => mix_cong (fun p e b => cur_add p e b) p e
theorem Stt.row {cl : List (List Nat)} {m n : Nat} {tss : List (List Int)} {cf : List (List Nat)} {us : List Nat} {i : Nat} (S : Stt cl m n tss (cur cf us) i m) (ci : cf.length = i) : Stt cl m n tss (cur (cf ++ [us]) []) (i + 1) 0 := by
  subst ci
  have hf : ∀ p e, (p < cf.length + 1 ∨ (p = cf.length + 1 ∧ e < 0)) → cur cf us p e = cur (cf ++ [us]) [] p e := fun p e b => cur_end [] p e (by omega)
  refine ⟨S.len, S.gd, S.sh, S.nd, fun u v => ?_, S.pr.row.cong hf⟩
  rw [S.ed]
  refine Iff.trans (Ed.congr fun p e _ he => ?_) (Ed.congr fun p e _ _ => mix_cong hf p e)
  unfold mix
  by_cases q : p < cf.length ∨ (p = cf.length ∧ e < m)
  · rw [if_pos q, if_pos (by omega)]
  · rw [if_neg q, if_neg (by omega)]
/-- the strands that the pick does not reach, with the end over it at the place -/
def CutF (m n : Nat) (h f : Nat → Nat → Nat) (p e : Nat) (fs : List Nat) : Prop := fs.Pairwise (· < ·) ∧ ∀ u : Nat, u ∈ fs ↔ u < m + n ∧ ¬ Rc (del (Ed m n (mix f h p e)) (m + p) e) (m + p) u
theorem CutF.cong {m n : Nat} {h f f' : Nat → Nat → Nat} {p e : Nat} {fs : List Nat} (hf : ∀ p' e', (p' < p ∨ (p' = p ∧ e' < e)) → f p' e' = f' p' e') (c : CutF m n h f p e fs) : CutF m n h f' p e fs := by
  refine ⟨c.1, fun u => ?_⟩
  have e1 : Rc (del (Ed m n (mix f h p e)) (m + p) e) (m + p) u ↔ Rc (del (Ed m n (mix f' h p e)) (m + p) e) (m + p) u := ⟨rc_congr fun p' e' _ _ => mix_cong hf p' e', rc_congr fun p' e' _ _ => (mix_cong hf p' e').symm⟩
  rw [c.2 u, e1]
theorem plS_mem {h f : Nat → Nat → Nat} {m : Nat} : ∀ {i p e : Nat}, (p, e) ∈ plS h f m i → p < i
  | 0, _, _, g => by cases g
  | i + 1, p, e, g => by
    rcases List.mem_append.mp g with g | g
    · have := plS_mem g; omega
    · obtain ⟨x, _, ex⟩ := List.mem_map.mp g
      have : i = p := congrArg Prod.fst ex
      omega
theorem pl_mem {h f : Nat → Nat → Nat} {m i j p e : Nat} (g : (p, e) ∈ plS h f m i ++ plR h f i j) : p < i ∨ (p = i ∧ e < j) := by
  rcases List.mem_append.mp g with g | g
  · exact .inl (plS_mem g)
  · obtain ⟨x, hx, ex⟩ := List.mem_map.mp g
    have e1 : i = p := congrArg Prod.fst ex
    have e2 : x = e := congrArg Prod.snd ex
    have := List.mem_range.mp (List.mem_filter.mp hx).1
    exact .inr ⟨e1.symm, by omega⟩
/-- the forced places as the program keeps them, with their strands -/
def FoC (B : List Addr) (Pr : Nat → Nat → List Nat → Prop) (H : Hp) (xs : List Addr) (pls : List (Nat × Nat)) : Prop := xs.length = pls.length ∧ ∀ (k : Nat) (a : Addr) (p e : Nat), xs[k]? = some a → pls[k]? = some (p, e) → ∃ (l : Addr) (fs : List Nat), H a = some (.tup [.int (p : Int), .int (e : Int), .ref l]) ∧ l ∉ B ∧ H l = some (.lst (vI (cI fs))) ∧ Pr p e fs
theorem FoC.mem {B B' : List Addr} {Pr Pr' : Nat → Nat → List Nat → Prop} {H H' : Hp} {xs : List Addr} {pls : List (Nat × Nat)} (F : FoC B Pr H xs pls) (h : ∀ (a : Addr) (ys : List V), H a = some (.tup ys) → H' a = some (.tup ys)) (h2 : ∀ (l : Addr) (ys : List V), l ∉ B → H l = some (.lst ys) → l ∉ B' ∧ H' l = some (.lst ys)) (h3 : ∀ p e fs, (p, e) ∈ pls → Pr p e fs → Pr' p e fs) : FoC B' Pr' H' xs pls :=
  ⟨F.1, fun k a p e g1 g2 => by
    obtain ⟨l, fs, x1, x2, x3, x4⟩ := F.2 k a p e g1 g2
    obtain ⟨y1, y2⟩ := h2 l _ x2 x3
    exact ⟨l, fs, h _ _ x1, y1, y2, h3 p e fs (List.mem_of_getElem? g2) x4⟩⟩
section
variable {B : List Addr} {Pr Pr' : Nat → Nat → List Nat → Prop} {H H' : Hp} {xs : List Addr} {pls : List (Nat × Nat)}
theorem FoC.cong (F : FoC B Pr H xs pls) (h : ∀ p e fs, (p, e) ∈ pls → Pr p e fs → Pr' p e fs) : FoC B Pr' H xs pls := F.mem (fun _ _ g => g) (fun _ _ g1 g2 => ⟨g1, g2⟩) h
theorem FoC.same (F : FoC B Pr H xs pls) (s : Same H H') : FoC B Pr H' xs pls := F.mem (fun _ _ g => s _ _ g) (fun _ _ g1 g2 => ⟨g1, s _ _ g2⟩) fun _ _ _ _ g => g
theorem FoC.upd {q : Addr} {o : HO} {zs : List V} (F : FoC B Pr H xs pls) (hb : q ∈ B) (h : H q = some (.lst zs)) : FoC B Pr (upd H q o) xs pls :=
  F.mem (fun a ys g => by rw [upd_ne fun z => by rw [z, h] at g; cases g]; exact g) (fun l ys g1 g2 => ⟨g1, by rw [upd_ne fun z => g1 (by rw [z]; exact hb)]; exact g2⟩) fun _ _ _ _ g => g
theorem FoC.frm {y : Addr} {rs : List Addr} {tss : List (List Int)} (F : FoC B Pr H xs pls) (hb : ∀ r ∈ rs, r ∈ B) (N : NL H y rs tss) (r : Frm rs H H') : FoC B Pr H' xs pls :=
  F.mem (fun a ys g => r a _ (fun z => by
    obtain ⟨i, hi, e⟩ := List.getElem_of_mem z
    have ht : i < tss.length := by rw [← N.l]; exact hi
    have := N.r i a tss[i] (by rw [List.getElem?_eq_getElem hi, e]) (List.getElem?_eq_getElem ht)
    rw [this] at g
    cases g) g) (fun l ys g1 g2 => ⟨g1, r l _ (fun z => g1 (hb l z)) g2⟩) fun _ _ _ _ g => g
theorem FoC.wide {q : Addr} (F : FoC B Pr H xs pls) (h : H q = none) : FoC (q :: B) Pr H xs pls :=
  F.mem (fun _ _ g => g) (fun l ys g1 g2 => ⟨fun z => by
    rcases List.mem_cons.mp z with z | z
    · rw [z, h] at g2; cases g2
    · exact g1 z, g2⟩) fun _ _ _ _ g => g
theorem FoC.narrow {q : Addr} (F : FoC (q :: B) Pr H xs pls) : FoC B Pr H xs pls := F.mem (fun _ _ g => g) (fun l ys g1 g2 => ⟨fun z => g1 (List.mem_cons_of_mem _ z), g2⟩) fun _ _ _ _ g => g
theorem FoC.bare (F : FoC B Pr H xs pls) : FoC [] Pr H xs pls := F.mem (fun _ _ g => g) (fun l ys g1 g2 => ⟨fun z => (by cases z), g2⟩) fun _ _ _ _ g => g
theorem FoC.add (F : FoC B Pr H xs pls) {a : Addr} {p e : Nat} {l : Addr} {fs : List Nat} (h : H a = some (.tup [.int (p : Int), .int (e : Int), .ref l])) (hb : l ∉ B) (hl : H l = some (.lst (vI (cI fs)))) (hp : Pr p e fs) : FoC B Pr H (xs ++ [a]) (pls ++ [(p, e)]) := by
  refine ⟨by rw [List.length_append, List.length_append, F.1]; rfl, fun k b p' e' h1 h2 => ?_⟩
  rcases app_old h1 with ⟨k1, g1⟩ | ⟨k1, g1⟩
  · rw [List.getElem?_append_left (by rw [← F.1]; exact k1)] at h2
    exact F.2 k b p' e' g1 h2
  · rw [k1, F.1, app_last] at h2
    cases h2
    rw [g1]
    exact ⟨l, fs, h, hb, hl, hp⟩
end
end
end Mine

set_option Elab.async false
set_option linter.all false
set_option maxRecDepth 100000
set_option maxHeartbeats 4000000
namespace Mine
open PySem L2
section
variable {P : Program} {w : World} {K : PySem.W.Frag} {mg : Str → Option Value} {base : Heap} {t : Adr}
theorem plR_len (h f : Nat → Nat → Nat) (p j : Nat) : (plR h f p j).length ≤ j := by
  unfold plR
  rw [List.length_map]
  have := List.length_filter_le (fun e => decide (h p e = 63 ∧ f p e = 46)) (List.range j)
  rwa [List.length_range] at this
theorem plS_len (h f : Nat → Nat → Nat) (m : Nat) : ∀ i, (plS h f m i).length ≤ i * m
  | 0 => Nat.zero_le _
  | i + 1 => by
    show (plS h f m i ++ plR h f i m).length ≤ _
    rw [List.length_append, Nat.add_mul]
    have h1 := plS_len h f m i
    have h2 := plR_len h f i m
    omega
theorem cur_old {cf : List (List Nat)} {us : List Nat} {c : Nat} (p e : Nat) (b : p < cf.length ∨ (p = cf.length ∧ e < us.length)) : cur cf (us ++ [c]) p e = cur cf us p e := by
  rw [← cur_add p e (by omega), set2_ne (by omega)]
theorem cur_new {cf : List (List Nat)} {us : List Nat} {c : Nat} : cur cf (us ++ [c]) cf.length us.length = c := by
  rw [← cur_add cf.length us.length (.inr ⟨rfl, by omega⟩), set2_at]
theorem pl_step (h : Nat → Nat → Nat) (m : Nat) {cf : List (List Nat)} {us : List Nat} {c i j : Nat} (ci : cf.length = i) (uj : us.length = j) : plS h (cur cf (us ++ [c])) m i ++ plR h (cur cf (us ++ [c])) i (j + 1) = (plS h (cur cf us) m i ++ plR h (cur cf us) i j) ++ (if h i j = 63 ∧ c = 46 then [(i, j)] else []) := by
  subst ci
  subst uj
  rw [plR_step, cur_new, plS_cong fun p e hp _ => cur_old p e (.inl hp), plR_cong fun e he => cur_old cf.length e (.inr ⟨rfl, he⟩), List.append_assoc]
theorem pl_row (h : Nat → Nat → Nat) (m : Nat) {cf : List (List Nat)} {us : List Nat} {i : Nat} (ci : cf.length = i) : plS h (cur cf us) m i ++ plR h (cur cf us) i m = plS h (cur (cf ++ [us]) []) m (i + 1) := by
  subst ci
  show _ = plS h (cur (cf ++ [us]) []) m cf.length ++ plR h (cur (cf ++ [us]) []) cf.length m
  rw [plS_cong fun p e hp _ => cur_end [] p e (by omega), plR_cong fun e _ => cur_end [] cf.length e (by omega)]
theorem v35 : V.str "#" = V.str (tx [35]) := congrArg V.str (by decide +kernel)
theorem v46 : V.str "." = V.str (tx [46]) := congrArg V.str (by decide +kernel)
theorem ones_sum (us : List Nat) : (((us.map fun c => [c]).map tx).map (·.length)).sum = us.length := by
  induction us with
  | nil => rfl
  | cons a us ih =>
    rw [List.map_cons, List.map_cons, List.map_cons, List.sum_cons, ih, tx_len, List.length_cons]
    show 1 + us.length = us.length + 1
    omega
theorem ones_flat (us : List Nat) : (us.map fun c => [c]).flatten = us := by
  induction us with
  | nil => rfl
  | cons a us ih => show [a] ++ _ = _; rw [ih]; rfl
/-- what is told of a finished cloth -/
structure Told (H H' : Hp) (cl : List (List Nat)) (m n : Nat) (lr lf : Addr) (cf : List (List Nat)) (xs : List Addr) : Prop where
  r : H' lr = some (.lst (vS cf))
  f : H' lf = some (.lst (xs.map V.ref))
  nr : H lr = none
  nf : H lf = none
  c : Hc cf m n
  fo : FoC [] (CutF m n (sg2 cl) (sg2 cf)) H' xs (plS (sg2 cl) (sg2 cf) m n)
  fin : Fnd m n (sg2 cl) (sg2 cf)
  ne : lr ≠ lf
def sp_finS (K : PySem.W.Frag) : Sp := fun vs H Q _ => ∃ (a : Addr) (cl : List (List Nat)) (m n : Nat), vs = [.ref a] ∧ SqL K H a (vS cl) ∧ Hc cl m n ∧
  (¬ SC (m + n) (Ed m n (sg2 cl)) → ∀ (p l : Addr) (fs : List Nat) (H' : Hp), Same H H' → H' p = some (.tup [.str "cut", .ref l]) → H' l = some (.lst (vI (cI fs))) → Lf (lows cl m) (List.range (m + n)) fs → Q (.ref p) H') ∧
  (SC (m + n) (Ed m n (sg2 cl)) → ∀ (p lr lf : Addr) (cf : List (List Nat)) (xs : List Addr) (H' : Hp), Same H H' → H' p = some (.tup [.str "cloth", .ref lr, .ref lf]) → Told H H' cl m n lr lf cf xs → Q (.ref p) H')
theorem ok_finished_cloth (T : Txt K mg t) : FnOk P w K mg base CX0 4 t.f_finished_cloth t.d_finished_cloth ["half"] (sp_finS K) := by
  have G_measured_half : FnOk P w K mg base CX0 3 t.f_measured_half t.d_measured_half _ _ := ok_measured_half T
  have G_lower_strands : FnOk P w K mg base CX0 1 t.f_lower_strands t.d_lower_strands _ _ := ok_lower_strands T
  have G_upper_part : FnOk P w K mg base CX0 2 t.f_upper_part t.d_upper_part _ _ := ok_upper_part T
  have G_settle : FnOk P w K mg base CX0 2 t.f_settle t.d_settle _ _ := ok_settle T
  refine T.finished_cloth.F.ok sc_finished_cloth (fun vs H Q E h => ?_) (fun cdv A outer s H vs Q E hr h => ?_)
  · obtain ⟨a, cl, m, n, rfl, _⟩ := h
    rfl
  · obtain ⟨a, cl, m, n, rfl, hS, C, k1, k2⟩ := h
    have hsz : sizeLine = 16777216 := sizeLine_eq
    refine ⟨_, (pss_cons (ps_set (i := 1) sc_finished_cloth.nd rfl (Or.inl rfl) (pe_call (G_measured_half.mono (by decide)) hr rfl T.measured_half.m T.measured_half.F.kp T.measured_half.b .nil pass0 (pa_cons (pv 0) pa_nil)))
      (pss_cons (ps_set (i := 2) sc_finished_cloth.nd rfl (Or.inl rfl) (pe_call (G_lower_strands.mono (by decide)) hr rfl T.lower_strands.m T.lower_strands.F.kp T.lower_strands.b .nil pass0 (pa_cons (pv 0) pa_nil)))
      (pss_cons (ps_set (i := 3) sc_finished_cloth.nd rfl (Or.inl rfl) (pe_call (G_upper_part.mono (by decide)) hr rfl T.upper_part.m T.upper_part.F.kp T.upper_part.b .nil pass0 (pa_cons (pv 2) (pa_cons (pe_callTy call_listR rfl T.b_list bt_list (pa_cons (pe_callTy call_rng1 rfl T.b_range bt_range (pa_cons (pe_op op_add (pe_ix (ix_tupK (K := K)) (pv 1) pe_int (fun _ _ => rfl)) (pe_ix (ix_tupK (K := K)) (pv 1) pe_int (fun _ _ => rfl))) pa_nil)) pa_nil)) pa_nil))))
      (pss_cons (ps_if (pt_cmpR op_notN (pv 3) pe_non (nomark _))
        (pss_one (ps_ret (pe_tup (pa_cons pe_str (pa_cons (pv 3) pa_nil)))))
        pss_nil)
      (pss_cons (ps_set (i := 4) sc_finished_cloth.nd rfl (Or.inl rfl) (pe_lst pa_nil))
      (pss_cons (ps_set (i := 5) sc_finished_cloth.nd rfl (Or.inl rfl) (pe_lst pa_nil))
      (pss_cons (ps_for PassesOwn.never rfl (pi_range1 rfl T.b_range (pa_cons (pe_ix (ix_tupK (K := K)) (pv 1) pe_int (fun _ _ => rfl)) pa_nil)) (pg_name (i := 6) sc_finished_cloth.nd rfl (Or.inl rfl))
        (pss_cons (ps_set (i := 7) sc_finished_cloth.nd rfl (Or.inl rfl) (pe_lst pa_nil))
        (pss_cons (ps_for PassesOwn.never rfl (pi_range1 rfl T.b_range (pa_cons (pe_ix (ix_tupK (K := K)) (pv 1) pe_int (fun _ _ => rfl)) pa_nil)) (pg_name (i := 8) sc_finished_cloth.nd rfl (Or.inl rfl))
          (pss_cons (ps_set (i := 9) sc_finished_cloth.nd rfl (Or.inl rfl) (pe_ix ix_str (pe_ix (ix_listK (K := K)) (pv 0) (pv 6) (fun _ _ => rfl)) (pv 8) (fun _ _ => rfl)))
          (pss_cons (ps_if (pt_cmpR op_eq (pv 9) pe_str (nomark _))
            (pss_cons (ps_set (i := 10) sc_finished_cloth.nd rfl (Or.inl rfl) (pe_call (G_settle.mono (by decide)) hr rfl T.settle.m T.settle.F.kp T.settle.b .nil pass0 (pa_cons (pv 2) (pa_cons (pv 8) (pa_cons (pe_op op_add (pe_ix (ix_tupK (K := K)) (pv 1) pe_int (fun _ _ => rfl)) (pv 6)) pa_nil)))))
            (pss_cons (ps_set (i := 9) sc_finished_cloth.nd rfl (Or.inl rfl) (pe_ifExp (pt_cmpR op_isN (pv 10) pe_non (nomark _)) pe_str pe_str))
            (pss_one (ps_if (pt_cmpR op_notN (pv 10) pe_non (nomark _))
              (pss_one (ps_expr (pe_bmK (K := K) PySem.F.plainAttrs_list PySem.F.slot_list_append PySem.F.type_list_append mt_append (pv 5) (pa_cons (pe_tup (pa_cons (pv 6) (pa_cons (pv 8) (pa_cons (pv 10) pa_nil)))) pa_nil))))
              pss_nil))))
            pss_nil)
          (pss_one (ps_expr (pe_bmK (K := K) PySem.F.plainAttrs_list PySem.F.slot_list_append PySem.F.type_list_append mt_append (pv 7) (pa_cons (pv 9) pa_nil)))))))
        (pss_one (ps_expr (pe_bmK (K := K) PySem.F.plainAttrs_list PySem.F.slot_list_append PySem.F.type_list_append mt_append (pv 4) (pa_cons (pe_bmK (K := K) PySem.F.plainAttrs_str PySem.F.slot_str_join PySem.F.type_str_join (mt_joinK (K := K)) pe_str (pa_cons (pv 7) pa_nil)) pa_nil)))))))
      (pss_one (ps_ret (pe_tup (pa_cons pe_str (pa_cons (pv 4) (pa_cons (pv 5) pa_nil))))))))))))), ?_⟩
    refine ⟨_, rfl, a, cl, m, n, rfl, hS, C, fun p np => ?_⟩
    have c1 := C.n2
    have c2 := C.n40
    have c3 := C.m2
    have c4 := C.m40
    have ll : (lows cl m).length = m + n := by rw [lows_len, C.hn]
    have s1 : Same H (upd H p (.tup [.int (m : Int), .int (n : Int)])) := .upd np
    have hp1 : (upd H p (.tup [.int (m : Int), .int (n : Int)])) p = some (.tup [.int (m : Int), .int (n : Int)]) := upd_same
    generalize upd H p (.tup [.int (m : Int), .int (n : Int)]) = H1 at s1 hp1 ⊢
    have t0 : atI [V.int (m : Int), V.int (n : Int)] 0 = some (.int (m : Int)) := atI_of (by decide) rfl
    have t1 : atI [V.int (m : Int), V.int (n : Int)] 1 = some (.int (n : Int)) := atI_of (by decide) rfl
    refine ⟨_, rfl, a, cl, m, n, rfl, s1.seq hS, C, fun y rs H2 s2 N F ny => ?_⟩
    have hp2 := s2 _ _ hp1
    obtain ⟨r1, r2, r3⟩ := rng_nat (n := m + n) (by omega)
    refine ⟨_, rfl, _, rfl, _, _, _, _, rfl, rfl, SqT.of hp2, t0, _, rfl, _, _, _, _, rfl, rfl, SqT.of hp2, t1, _, _, rfl, rfl, ?_⟩
    dsimp only
    rw [show (m : Int) + (n : Int) = ((m + n : Nat) : Int) by omega]
    refine ⟨_, rfl, fun r nr => ?_⟩
    refine ⟨r, 0, ((m + n : Nat) : Int), 1, m + n, rfl, upd_same, r2, r1, by omega, fun l nl => ?_⟩
    rw [r3]
    have s3 : Same H2 (upd (upd H2 r (rngO r 0 ((m + n : Nat) : Int) 1)) l (.lst (vI ((List.range (m + n)).map fun (i : Nat) => ((i : Nat) : Int))))) := (Same.upd nr).new nl
    have hl3 : (upd (upd H2 r (rngO r 0 ((m + n : Nat) : Int) 1)) l (.lst (vI ((List.range (m + n)).map fun (i : Nat) => ((i : Nat) : Int))))) l = some (.lst (vI (cI (List.range (m + n))))) := upd_same
    generalize upd (upd H2 r (rngO r 0 ((m + n : Nat) : Int) 1)) l (.lst (vI ((List.range (m + n)).map fun (i : Nat) => ((i : Nat) : Int)))) = H3 at s3 hl3 ⊢
    refine ⟨y, l, rs, lows cl m, List.range (m + n), rfl, by rw [← ll, nar_all (lows_gdH C)]; exact N.same s3, SqL.of hl3, by omega, by rw [ll]; exact ns_range (by omega), fun hc H4 s4 => ?_, fun hc lc fs H4 s4 nlc hlc L => ?_⟩
    rotate_left
    · refine ⟨_, rfl, rfl, _, rfl, ?_⟩
      refine iteNp (fun z => nomatch z) ?_
      refine ⟨_, rfl, (by show 2 ≤ sizeLine; decide), fun q nq => ?_⟩
      exact k1 (fun z => hc ((conn_sc C).mpr z)) q lc fs _ (((s1.trans s2).trans (s3.trans s4)).new nq) upd_same ((Same.upd nq) _ _ hlc) L
    have hsc := (conn_sc C).mp hc
    have fin := k2 hsc
    clear k1 k2
    refine ⟨_, rfl, rfl, _, rfl, ?_⟩
    refine iteNS rfl ?_
    have v4 := s3.trans s4
    have u4 := (s1.trans s2).trans v4
    have N4 := N.same v4
    have hp4 := v4 _ _ hp2
    have FH : Frs H rs := ⟨F.1, fun r hr' => s1.free (F.2 r hr')⟩
    have pno : p ∉ rs := fun z => by rw [F.2 p z] at hp1; cases hp1
    clear s3 s4 v4 hl3 nl nr r1 r2 r3 N hp2 hc s2 hp1 s1 F
    refine ⟨Nat.zero_le _, fun qr nqr => ?_⟩
    have s5 : Same H4 (upd H4 qr (.lst [])) := .upd nqr
    have hqr5 : (upd H4 qr (.lst [])) qr = some (.lst (vS [])) := upd_same
    have qrno : qr ∉ rs := fun z => N4.isS z nqr
    have qry : qr ≠ y := fun z => by have := N4.h; rw [← z, nqr] at this; cases this
    have pqr : p ≠ qr := fun z => by rw [z, nqr] at hp4; cases hp4
    have nqrH := u4.free nqr
    generalize upd H4 qr (.lst []) = H5 at s5 hqr5 ⊢
    have N5 := N4.same s5
    refine ⟨Nat.zero_le _, fun qf nqf => ?_⟩
    have s6 : Same H5 (upd H5 qf (.lst [])) := .upd nqf
    have hqf6 : (upd H5 qf (.lst [])) qf = some (.lst (([] : List Addr).map V.ref)) := upd_same
    have qfno : qf ∉ rs := fun z => N5.isS z nqf
    have qfy : qf ≠ y := fun z => by have := N5.h; rw [← z, nqf] at this; cases this
    have pqf : p ≠ qf := fun z => by have := s5 _ _ hp4; rw [z, nqf] at this; cases this
    have nqfH := (u4.trans s5).free nqf
    have qrf : qr ≠ qf := fun z => by rw [z, nqf] at hqr5; cases hqr5
    generalize upd H5 qf (.lst []) = H6 at s6 hqf6 ⊢
    have N6 := N5.same s6
    have hqr6 := s6 _ _ hqr5
    have hp6 := (s5.trans s6) _ _ hp4
    have u6 := u4.trans (s5.trans s6)
    clear s5 s6 hqr5 N5 N4 hp4 u4 nqr nqf
    have S0 : Stt cl m n (lows cl m) (cur [] []) 0 0 := by
      refine ⟨ll, lows_gdH C, lows_shortH C, lows_nd C, fun u v => ?_, Prc.start hsc _⟩
      rw [lows_ed C]
      refine Ed.congr fun p e _ _ => ?_
      unfold mix
      rw [if_neg (by omega)]
    refine ⟨_, rfl, _, _, _, _, rfl, rfl, SqT.of hp6, t1, _, rfl, (by omega), (by omega), ?_⟩
    rw [Int.toNat_natCast]
    refine for_range (lo := 0) (n := n) (fun i σ H7 => ∃ (tss : List (List Int)) (cf : List (List Nat)) (xs : List Addr) (v6 v7 v8 v9 v10 : Option V), σ = [some (.ref a), some (.ref p), some (.ref y), some .non, some (.ref qr), some (.ref qf), v6, v7, v8, v9, v10] ∧ Same H H7 ∧ NL H7 y rs tss ∧ H7 p = some (.tup [.int (m : Int), .int (n : Int)]) ∧ H7 qr = some (.lst (vS cf)) ∧ cf.length = i ∧ (∀ t ∈ cf, t.length = m ∧ ∀ c ∈ t, Sq3 c) ∧ H7 qf = some (.lst (xs.map V.ref)) ∧ FoC (qr :: qf :: rs) (CutF m n (sg2 cl) (cur cf [])) H7 xs (plS (sg2 cl) (cur cf []) m i) ∧ Stt cl m n tss (cur cf []) i 0)
      ⟨lows cl m, [], [], none, none, none, none, none, rfl, u6, N6, hp6, hqr6, rfl, fun t h => (by cases h), hqf6, ⟨rfl, fun k a p e h => (by simp at h)⟩, S0⟩ ?_ ?_
    · clear u6 N6 hp6 hqr6 hqf6 S0
      rintro i σ H7 hi ⟨tss, cf, xs, v6, v7, v8, v9, v10, rfl, u7, N7, hp7, hqr7, cfl, cfs, hqf7, fo7, S7⟩
      refine ⟨Nat.zero_le _, fun qs nqs => ?_⟩
      have s8 : Same H7 (upd H7 qs (.lst [])) := .upd nqs
      have hqs8 : (upd H7 qs (.lst [])) qs = some (.lst (vS (([] : List Nat).map fun c => [c]))) := upd_same
      have qsno : qs ∉ rs := fun z => N7.isS z nqs
      have qsy : qs ≠ y := fun z => by have := N7.h; rw [← z, nqs] at this; cases this
      have pqs : p ≠ qs := fun z => by rw [z, nqs] at hp7; cases hp7
      have nqsH := u7.free nqs
      have qsr : qr ≠ qs := fun z => by rw [z, nqs] at hqr7; cases hqr7
      have qsf : qf ≠ qs := fun z => by rw [z, nqs] at hqf7; cases hqf7
      generalize upd H7 qs (.lst []) = H8 at s8 hqs8 ⊢
      have hp8 := s8 _ _ hp7
      refine ⟨_, rfl, _, _, _, _, rfl, rfl, SqT.of hp8, t0, _, rfl, (by omega), (by omega), ?_⟩
      rw [Int.toNat_natCast]
      refine for_range (lo := 0) (n := m) (fun j σ H9 => ∃ (tss : List (List Int)) (us : List Nat) (xs : List Addr) (v8 v9 v10 : Option V), σ = [some (.ref a), some (.ref p), some (.ref y), some .non, some (.ref qr), some (.ref qf), some (.int (0 + (i : Int))), some (.ref qs), v8, v9, v10] ∧ Same H H9 ∧ NL H9 y rs tss ∧ H9 p = some (.tup [.int (m : Int), .int (n : Int)]) ∧ H9 qr = some (.lst (vS cf)) ∧ H9 qf = some (.lst (xs.map V.ref)) ∧ FoC (qs :: qr :: qf :: rs) (CutF m n (sg2 cl) (cur cf us)) H9 xs (plS (sg2 cl) (cur cf us) m i ++ plR (sg2 cl) (cur cf us) i j) ∧ Stt cl m n tss (cur cf us) i j ∧ H9 qs = some (.lst (vS (us.map fun c => [c]))) ∧ us.length = j ∧ ∀ c ∈ us, Sq3 c)
        ⟨tss, [], xs, _, _, _, rfl, u7.trans s8, N7.same s8, hp8, s8 _ _ hqr7, s8 _ _ hqf7, by show FoC (qs :: qr :: qf :: rs) (CutF m n (sg2 cl) (cur cf [])) H8 xs (plS (sg2 cl) (cur cf []) m i ++ []); rw [List.append_nil]; exact (fo7.wide nqs).same s8, S7, hqs8, rfl, fun c h => (by cases h)⟩ ?_ ?_
      · clear s8 hqs8 hp8 u7 N7 hp7 hqr7 hqf7 fo7 S7 tss xs v8 v9 v10
        rintro j σ H9 hj ⟨tss, us, xs, v8, v9, v10, rfl, u9, N9, hp9, hqr9, hqf9, fo9, S9, hqs9, usl, uss⟩
        have uapp : ∀ c : Nat, vS (us.map fun c => [c]) ++ [.str (tx [c])] = vS ((us ++ [c]).map fun c => [c]) := fun c => by rw [vS_app, List.map_append]; rfl
        have foN : ∀ (c : Nat) {H0 : Hp} {ys : List Addr}, FoC (qs :: qr :: qf :: rs) (CutF m n (sg2 cl) (cur cf us)) H0 ys (plS (sg2 cl) (cur cf us) m i ++ plR (sg2 cl) (cur cf us) i j) → FoC (qs :: qr :: qf :: rs) (CutF m n (sg2 cl) (cur cf (us ++ [c]))) H0 ys (plS (sg2 cl) (cur cf us) m i ++ plR (sg2 cl) (cur cf us) i j) := fun c {H0 ys} F => F.cong fun p e fs g h => h.cong fun p' e' b => (cur_old p' e' (by have := pl_mem g; omega)).symm
        have ulen : ∀ c : Nat, (us ++ [c]).length = j + 1 := fun c => by rw [List.length_append, usl]; rfl
        have usg : ∀ c : Nat, Sq3 c → ∀ d ∈ us ++ [c], Sq3 d := fun c hc d hd => by
          rcases List.mem_append.mp hd with h | h
          · exact uss d h
          · rw [List.mem_singleton.mp h]; exact hc
        have vlen : (vS (us.map fun c => [c])).length + 1 ≤ sizeLine := by rw [vS_len, List.length_map]; omega
        have xlen : xs.length ≤ 40 * 40 + 40 := by
          have h1 := plS_len (sg2 cl) (cur cf us) m i
          have h2 := plR_len (sg2 cl) (cur cf us) i j
          have h3 := fo9.1
          have h4 : i * m ≤ 40 * 40 := Nat.mul_le_mul (by omega) (by omega)
          rw [List.length_append] at h3
          omega
        obtain ⟨e1, l1'⟩ := hc_at C hi
        have e2 := sign_at2 (u := cl.getD i []) (e := j) (by rw [l1']; exact hj)
        have sq : Sq3 (sg2 cl i j) := by
          have hil : i < cl.length := by rw [C.hn]; exact hi
          have e3 : cl.getD i [] = cl[i] := by rw [List.getD_eq_getElem?_getD, List.getElem?_eq_getElem hil]; rfl
          have hm := C.hm cl[i] (List.getElem_mem hil)
          unfold sg2
          rw [e3, List.getD_eq_getElem?_getD, List.getElem?_eq_getElem (by rw [hm]; exact hj)]
          exact C.sg cl[i] (List.getElem_mem hil) _ (List.getElem_mem _)
        refine ⟨_, rfl, _, rfl, _, _, _, _, rfl, rfl, u9.seq hS, e1, _, rfl, _, _, _, rfl, rfl, (by rw [tx_len, l1']; exact small40 c4), e2, ?_⟩
        refine ⟨_, rfl, rfl, _, rfl, ?_⟩
        by_cases hs : sg2 cl i j = 63
        · have hs' : (cl.getD i []).getD j 0 = 63 := hs
          refine iteDp (by rw [hs']; exact e63) ?_
          have m63 : mix (cur cf us) (sg2 cl) i j i j = 63 := by rw [mix_here]; exact hs
          have q1 : Rl tss (m + i) j := (S9.ed _ _).mpr (.inr ⟨i, hi, hj, rfl, by rw [m63]; decide⟩)
          have q2 : Rl tss j (m + i) := (S9.ed _ _).mpr (.inl ⟨i, hi, hj, rfl, by rw [m63]; decide⟩)
          have pl := S9.len
          refine ⟨_, rfl, _, rfl, _, rfl, _, _, _, _, rfl, rfl, SqT.of hp9, t0, _, rfl, _, _, rfl, rfl, ?_⟩
          dsimp only
          rw [show (m : Int) + (0 + (i : Int)) = ((m + i : Nat) : Int) by omega, show (0 : Int) + (j : Int) = (j : Int) by omega]
          refine ⟨y, rs, tss, j, m + i, rfl, N9, FH.1, S9.gd, by omega, S9.sh, by omega, by omega, by omega, q1, q2, S9.nd, fun tss' H10 v N10 F10 St nd' hv => ?_⟩
          have u10 := F10.keep u9 FH
          have hp10 := F10 _ _ pno hp9
          have hqr10 := F10 _ _ qrno hqr9
          have hqf10 := F10 _ _ qfno hqf9
          have hqs10 := F10 _ _ qsno hqs9
          have fo10 := fo9.frm (fun r hr => List.mem_cons_of_mem _ (List.mem_cons_of_mem _ (List.mem_cons_of_mem _ hr))) N9 F10
          rcases hv with ⟨rfl, r1, r2⟩ | ⟨lv, fs, rfl, r1, r2, hlv, lvr, lvH, fsP, fsM⟩
          · have S10 := S9.open' (c := 35) St nd' C cfl usl hi hj hs (.inl ⟨rfl, r1, r2⟩)
            refine ⟨_, rfl, rfl, _, rfl, ?_⟩
            refine iteDp rfl ?_
            refine ⟨_, rfl, rfl, _, rfl, ?_⟩
            refine iteNS rfl ?_
            refine ⟨_, rfl, .inl ⟨rfl, _, SqL.of hqs10⟩, _, rfl, _, _, _, rfl, rfl, hqs10, vlen, ?_⟩
            rw [v35, uapp]
            exact ⟨tss', us ++ [35], xs, _, _, _, rfl, u10.over nqsH, N10.out qsno qsy, by rw [upd_ne pqs]; exact hp10, by rw [upd_ne qsr]; exact hqr10, by rw [upd_ne qsf]; exact hqf10, by rw [pl_step (sg2 cl) m cfl usl, if_neg (by omega), List.append_nil]; exact (foN 35 fo10).upd List.mem_cons_self hqs10, S10, upd_same, ulen _, usg _ (.inl rfl)⟩
          · have S10 := S9.open' (c := 46) St nd' C cfl usl hi hj hs (.inr ⟨rfl, r1, r2⟩)
            refine ⟨_, rfl, rfl, _, rfl, ?_⟩
            refine iteDn (fun z => nomatch z) ?_
            refine ⟨_, rfl, rfl, _, rfl, ?_⟩
            refine iteNp (fun z => nomatch z) ?_
            refine ⟨_, rfl, .inl ⟨rfl, _, SqL.of hqf10⟩, _, rfl, _, rfl, _, rfl, (by show 3 ≤ sizeLine; decide), fun tp ntp => ?_⟩
            have s11 := Same.upd (o := .tup [.int (0 + (i : Int)), .int (j : Int), .ref lv]) ntp
            have tp11 : (upd H10 tp (.tup [.int (0 + (i : Int)), .int (j : Int), .ref lv])) tp = some (.tup [.int (i : Int), .int (j : Int), .ref lv]) := by rw [upd_same, Int.zero_add]
            generalize upd H10 tp (.tup [.int (0 + (i : Int)), .int (j : Int), .ref lv]) = H11 at s11 tp11 ⊢
            have hqf11 := s11 _ _ hqf10
            refine ⟨_, _, _, rfl, rfl, hqf11, (by rw [List.length_map]; omega), ?_⟩
            have xm : xs.map V.ref ++ [.ref tp] = (xs ++ [tp]).map V.ref := by rw [List.map_append]; rfl
            rw [xm]
            have u12 : Same H (upd H11 qf (.lst ((xs ++ [tp]).map V.ref))) := (u10.trans s11).over nqfH
            have N12 : NL (upd H11 qf (.lst ((xs ++ [tp]).map V.ref))) y rs tss' := (N10.same s11).out qfno qfy
            have hp12 : (upd H11 qf (.lst ((xs ++ [tp]).map V.ref))) p = some (.tup [.int (m : Int), .int (n : Int)]) := by rw [upd_ne pqf]; exact s11 _ _ hp10
            have hqr12 : (upd H11 qf (.lst ((xs ++ [tp]).map V.ref))) qr = some (.lst (vS cf)) := by rw [upd_ne qrf]; exact s11 _ _ hqr10
            have hqs12 : (upd H11 qf (.lst ((xs ++ [tp]).map V.ref))) qs = some (.lst (vS (us.map fun c => [c]))) := by rw [upd_ne qsf.symm]; exact s11 _ _ hqs10
            have hqf12 : (upd H11 qf (.lst ((xs ++ [tp]).map V.ref))) qf = some (.lst ((xs ++ [tp]).map V.ref)) := upd_same
            have lvB : lv ∉ qs :: qr :: qf :: rs := fun z => by
              rcases List.mem_cons.mp z with z | z
              · rw [z, hqs9] at lvH; cases lvH
              · rcases List.mem_cons.mp z with z | z
                · rw [z, hqr9] at lvH; cases lvH
                · rcases List.mem_cons.mp z with z | z
                  · rw [z, hqf9] at lvH; cases lvH
                  · exact lvr z
            have cut : CutF m n (sg2 cl) (cur cf (us ++ [46])) i j fs := by
              refine CutF.cong (f := cur cf us) (fun p' e' b => (cur_old p' e' (by omega)).symm) ⟨fsP, fun u => ?_⟩
              rw [fsM u, S9.len]
              have e1 : Rc (del (Rl tss) (m + i) j) (m + i) u ↔ Rc (del (Ed m n (mix (cur cf us) (sg2 cl) i j)) (m + i) j) (m + i) u := ⟨fun r => r.mono fun u v g => ⟨(S9.ed u v).mp g.1, g.2⟩, fun r => r.mono fun u v g => ⟨(S9.ed u v).mpr g.1, g.2⟩⟩
              rw [e1]
            have fo12 : FoC (qs :: qr :: qf :: rs) (CutF m n (sg2 cl) (cur cf (us ++ [46]))) (upd H11 qf (.lst ((xs ++ [tp]).map V.ref))) (xs ++ [tp]) ((plS (sg2 cl) (cur cf us) m i ++ plR (sg2 cl) (cur cf us) i j) ++ [(i, j)]) := (((foN 46 fo10).same s11).add tp11 lvB (s11 _ _ hlv) cut).upd (List.mem_cons_of_mem _ (List.mem_cons_of_mem _ List.mem_cons_self)) hqf11
            generalize upd H11 qf (.lst ((xs ++ [tp]).map V.ref)) = H12 at u12 N12 hp12 hqr12 hqs12 hqf12 fo12 ⊢
            refine ⟨_, rfl, .inl ⟨rfl, _, SqL.of hqs12⟩, _, rfl, _, _, _, rfl, rfl, hqs12, vlen, ?_⟩
            rw [v46, uapp]
            exact ⟨tss', us ++ [46], xs ++ [tp], _, _, _, rfl, u12.over nqsH, N12.out qsno qsy, by rw [upd_ne pqs]; exact hp12, by rw [upd_ne qsr]; exact hqr12, by rw [upd_ne qsf]; exact hqf12, by rw [pl_step (sg2 cl) m cfl usl, if_pos ⟨hs, rfl⟩]; exact fo12.upd List.mem_cons_self hqs12, S10, upd_same, ulen _, usg _ (.inr (.inl rfl))⟩
        · have hs' : ¬ (cl.getD i []).getD j 0 = 63 := hs
          refine iteDn (fun z => hs' (sg_eq.mp (z.trans e63.symm))) ?_
          have S10 := S9.plain (c := sg2 cl i j) C cfl usl hi hj rfl hs sq
          refine ⟨_, rfl, .inl ⟨rfl, _, SqL.of hqs9⟩, _, rfl, _, _, _, rfl, rfl, hqs9, vlen, ?_⟩
          rw [tx_one, uapp]
          exact ⟨tss, us ++ [sg2 cl i j], xs, _, _, _, rfl, u9.over nqsH, N9.out qsno qsy, by rw [upd_ne pqs]; exact hp9, by rw [upd_ne qsr]; exact hqr9, by rw [upd_ne qsf]; exact hqf9, by rw [pl_step (sg2 cl) m cfl usl, if_neg (fun z => hs z.1), List.append_nil]; exact (foN _ fo9).upd List.mem_cons_self hqs9, S10, upd_same, ulen _, usg _ sq⟩
      · rintro σ H9 ⟨tss, us, xs, v8, v9, v10, rfl, u9, N9, hp9, hqr9, hqf9, fo9, S9, hqs9, usl, uss⟩
        refine ⟨_, rfl, .inl ⟨rfl, _, SqL.of hqr9⟩, rfl, _, rfl, _, _, (us.map fun c => [c]).map tx, rfl, rfl, SqL.of (by rw [hqs9, vS_map]), ?_, ?_⟩
        · rw [ones_sum, List.length_map, List.length_map]
          have : us.length * (Str.length "") = 0 := by rw [show Str.length "" = 0 from by decide +kernel]; omega
          omega
        rw [show (("" : Str)) = tx [] from by decide +kernel, tx_join, ones_flat]
        refine ⟨_, _, _, rfl, rfl, hqr9, (by rw [vS_len]; omega), ?_⟩
        rw [vS_app]
        have fo9 := (fo9.narrow.cong (Pr' := CutF m n (sg2 cl) (cur (cf ++ [us]) [])) fun p e fs g h => h.cong fun p' e' b => cur_end [] p' e' (by have := pl_mem g; omega))
        rw [pl_row (sg2 cl) m cfl] at fo9
        refine ⟨tss, cf ++ [us], xs, _, _, _, _, _, rfl, u9.over nqrH, N9.out qrno qry, by rw [upd_ne pqr]; exact hp9, upd_same, by rw [List.length_append, cfl]; rfl, fun t ht => ?_, by rw [upd_ne qrf.symm]; exact hqf9, fo9.upd List.mem_cons_self hqr9, S9.row cfl⟩
        rcases List.mem_append.mp ht with h | h
        · exact cfs t h
        · rw [List.mem_singleton.mp h]; exact ⟨usl, uss⟩
    · rintro σ H7 ⟨tss, cf, xs, v6, v7, v8, v9, v10, rfl, u7, N7, hp7, hqr7, cfl, cfs, hqf7, fo7, S7⟩
      refine ⟨_, rfl, _, rfl, (by show 3 ≤ sizeLine; decide), fun q nq => ?_⟩
      have s8 : Same H7 (upd H7 q (.tup [.str "cloth", .ref qr, .ref qf])) := .upd nq
      have agree : ∀ p e, p < n → cur cf [] p e = sg2 cf p e := fun p e hp => cur_row (by omega) e
      refine fin q qr qf cf xs _ (u7.new nq) upd_same ⟨s8 _ _ hqr7, s8 _ _ hqf7, nqrH, nqfH, ⟨cfl, fun t ht => (cfs t ht).1, fun t ht => (cfs t ht).2, c3, c4, c1, c2⟩, ?_, ?_, qrf⟩
      · rw [← plS_cong fun p e hp _ => agree p e hp]
        exact (fo7.same s8).bare.cong fun p e fs g h => h.cong fun p' e' b => agree p' e' (by have := plS_mem g; omega)
      · exact (S7.pr.cong fun p e b => agree p e (by omega)).done
end
end Mine

set_option Elab.async false
set_option linter.all false
set_option maxRecDepth 100000
set_option maxHeartbeats 4000000
namespace Mine
open PySem L2
section
variable {P : Program} {w : World} {K : PySem.W.Frag} {mg : Str → Option Value} {base : Heap} {t : Adr}
def sp_cell (K : PySem.W.Frag) : Sp := fun vs H Q _ => ∃ (a : Addr) (ns : List Int) (i : Int), vs = [.ref a, .int i] ∧ SqL K H a (vI ns) ∧ 0 ≤ i ∧ ∀ c : Int, 0 ≤ c → c < 10 ^ 61 → Q (.int c) H
theorem ok_law_cell_at (T : Txt K mg t) : FnOk P w K mg base CX0 1 t.f_law_cell_at t.d_law_cell_at ["script", "k"] (sp_cell K) := by
  refine T.law_cell_at.F.ok sc_law_cell_at (fun vs H Q E h => ?_) (fun cdv A outer s H vs Q E hr h => ?_)
  · obtain ⟨a, ns, i, rfl, _⟩ := h
    rfl
  · obtain ⟨a, ns, i, rfl, hS, hi, k⟩ := h
    refine ⟨_, (pss_cons (ps_if (pt_cmpR op_lt (pv 1) (pe_callB (call_len_seqK (K := K)) rfl T.b_len bt_len (pa_cons (pv 0) pa_nil)) (nomark _))
        (pss_one (ps_ret (pe_op op_mod (pe_ix (ix_listK (K := K)) (pv 0) (pv 1) (fun _ _ => rfl)) (pe_op op_pow pe_int pe_int))))
        pss_nil)
      (pss_one (ps_ret pe_int))), ?_⟩
    refine ⟨_, rfl, _, rfl, _, _, rfl, .inl hS, _, _, rfl, rfl, _, rfl, ?_⟩
    refine ite2D (fun h1 => ?_) (fun h1 => ?_)
    · rw [vI_len] at h1
      have hlt : i.toNat < ns.length := by omega
      refine ⟨_, rfl, _, rfl, _, _, _, _, rfl, rfl, hS, atI_of hi (vI_get (List.getElem?_eq_getElem hlt)), ?_⟩
      refine ⟨_, _, rfl, rfl, ⟨by decide, by decide, by decide⟩, ?_⟩
      refine ⟨_, _, rfl, rfl, (by show (0 : Int) < 10 ^ 61; decide), ?_⟩
      exact k _ (Int.emod_nonneg _ (by decide)) (Int.emod_lt_of_pos _ (by decide))
    · exact k 0 (by decide) (by decide)

def sp_sums (K : PySem.W.Frag) : Sp := fun vs H Q _ => ∃ (a : Addr) (ns : List Int) (b m : Nat), vs = [.ref a, .int (b : Int), .int (m : Int)] ∧ SqL K H a (vI ns) ∧ ns.length ≤ 63 ∧ b ≤ 63 ∧ 1 ≤ m ∧ m ≤ 1000 ∧
  ∀ (l : Addr) (ks : List Int) (H' : Hp), Same H H' → H l = none → H' l = some (.lst (vI ks)) → ks.length = m → Q (.ref l) H'
theorem ok_law_sums (T : Txt K mg t) : FnOk P w K mg base CX0 1 t.f_law_sums t.d_law_sums ["script", "behind", "many"] (sp_sums K) := by
  refine T.law_sums.F.ok sc_law_sums (fun vs H Q E h => ?_) (fun cdv A outer s H vs Q E hr h => ?_)
  · obtain ⟨a, ns, b, m, rfl, _⟩ := h
    rfl
  · obtain ⟨a, ns, b, m, rfl, hS, hl, hb, hm1, hm2, k⟩ := h
    have hsz : sizeLine = 16777216 := sizeLine_eq
    refine ⟨_, (pss_cons (ps_setC (i := 3) (CompOk.mk (caps := []) (Nc := ["k"]) rfl (by decide +kernel) (by decide +kernel) (comp_fr (sc0 := defScope s_law_sums) rfl (by decide +kernel)) rfl rfl rfl (by decide +kernel) (fun _ _ h => by simp at h)) rfl sc_law_sums.nd rfl rfl (pi_range1 rfl T.b_range (pa_cons (pv 2) pa_nil)) (fun _ _ _ _ _ => .nil) (fun _ _ _ _ _ => pe_int) rfl)
      (pss_cons (ps_for PassesOwn.never rfl (pi_range2 rfl T.b_range (pa_cons (pv 1) (pa_cons (pe_callB (call_len_seqK (K := K)) rfl T.b_len bt_len (pa_cons (pv 0) pa_nil)) pa_nil))) (pg_name (i := 4) sc_law_sums.nd rfl (Or.inl rfl))
        (pss_cons (ps_set (i := 5) sc_law_sums.nd rfl (Or.inl rfl) (pe_op op_mod (pe_op op_sub (pv 4) (pv 1)) (pv 2)))
        (pss_one (ps_asg (pe_op op_add (pe_ix (ix_listK (K := K)) (pv 3) (pv 5) (fun _ _ => rfl)) (pe_op op_mod (pe_ix (ix_listK (K := K)) (pv 0) (pv 4) (fun _ _ => rfl)) (pe_op op_pow pe_int pe_int))) (pg_sub (pv 3) (pv 5) set_list)))))
      (pss_one (ps_ret (pv 3))))), ?_⟩
    refine ⟨_, rfl, _, rfl, (by omega), (by omega), ?_⟩
    rw [Int.toNat_natCast]
    refine comp_range (lo := 0) (n := m) (fun i ys H2 => H2 = H ∧ ys = vI (List.replicate i 0)) ⟨rfl, rfl⟩ ?_ ?_ ?_ ?_
    · rintro i ys H2 hi ⟨rfl, rfl⟩
      rw [vI_len, List.length_replicate]
      omega
    · omega
    · rintro i ys H2 hi ⟨rfl, rfl⟩
      refine CTurn.no ?_
      exact (CN.of hi ⟨rfl, by rw [vI_app, List.replicate_succ']⟩ : CN m (fun i ys H3 => H3 = H2 ∧ ys = vI (List.replicate i 0)) i (vI (List.replicate i 0) ++ [.int 0]) H2)
    · rintro ys H2 q ⟨rfl, rfl⟩ hq
      have s1 : Same H2 (upd H2 q (.lst (vI (List.replicate m 0)))) := .upd hq
      refine ⟨_, rfl, _, rfl, _, _, rfl, .inl (s1.seq hS), _, _, rfl, ⟨by omega, by omega, by omega, by rw [vI_len]; omega⟩, ?_⟩
      rw [vI_len]
      refine for_range (lo := (b : Int)) (n := ((ns.length : Int) - (b : Int)).toNat) (fun i σ H3 => ∃ (ks : List Int) (v1 v2 : Option V), σ = [some (.ref a), some (.int (b : Int)), some (.int (m : Int)), some (.ref q), v1, v2] ∧ Same H2 H3 ∧ H3 q = some (.lst (vI ks)) ∧ ks.length = m)
        ⟨_, none, none, rfl, s1, upd_same, by rw [List.length_replicate]⟩ ?_ ?_
      · rintro i σ H3 hi ⟨ks, v1, v2, rfl, s3, hq3, hkl⟩
        have hix : ((b : Int) + (i : Int) - (b : Int)) % (m : Int) = ((i % m : Nat) : Int) := by rw [show (b : Int) + (i : Int) - (b : Int) = (i : Int) by omega]; omega
        have hlt : i % m < ks.length := by rw [hkl]; exact Nat.mod_lt _ (by omega)
        have e1 : (vI ks)[(((b : Int) + (i : Int) - (b : Int)) % (m : Int)).toNat]? = some (.int ks[i % m]) := by
          rw [hix, Int.toNat_natCast]
          exact vI_get (List.getElem?_eq_getElem hlt)
        have hbi : b + i < ns.length := by omega
        have e2 : (vI ns)[((b : Int) + (i : Int)).toNat]? = some (.int ns[b + i]) := by
          rw [show ((b : Int) + (i : Int)).toNat = b + i by omega]
          exact vI_get (List.getElem?_eq_getElem hbi)
        have n1 : 0 ≤ ((b : Int) + (i : Int) - (b : Int)) % (m : Int) := by rw [hix]; omega
        refine ⟨_, rfl, _, rfl, _, _, rfl, rfl, _, rfl, _, _, rfl, rfl, (by show (0 : Int) < m; omega), ?_⟩
        refine ⟨_, rfl, _, rfl, _, _, _, _, rfl, rfl, SqL.of hq3, atI_of n1 e1, ?_⟩
        refine ⟨_, rfl, _, rfl, _, _, _, _, rfl, rfl, s3.seq hS, atI_of (by omega) e2, ?_⟩
        refine ⟨_, _, rfl, rfl, ⟨by decide, by decide, by decide⟩, ?_⟩
        refine ⟨_, _, rfl, rfl, (by show (0 : Int) < 10 ^ 61; decide), ?_⟩
        refine ⟨_, _, rfl, rfl, ?_⟩
        refine ⟨_, rfl, _, rfl, _, _, _, _, rfl, rfl, hq3, ixN_of n1 (by rw [vI_len, hkl, hix]; omega), ?_⟩
        rw [vI_set]
        exact ⟨_, _, _, rfl, s3.over hq, upd_same, by rw [List.length_set]; exact hkl⟩
      · rintro σ H3 ⟨ks, v1, v2, rfl, s3, hq3, hkl⟩
        exact ⟨_, rfl, k q ks H3 s3 hq hq3 hkl⟩

def sp_sides : Sp := fun vs H Q _ => ∃ (c : Int), vs = [.int c] ∧ ∀ p (m n : Nat) H', Same H H' → H' p = some (.tup [.int (m : Int), .int (n : Int)]) → 2 ≤ m → m ≤ 40 → 2 ≤ n → n ≤ 40 → Q (.ref p) H'
theorem ok_law_sides (T : Txt K mg t) : FnOk P w K mg base CX0 1 t.f_law_sides t.d_law_sides ["cell"] sp_sides := by
  refine T.law_sides.F.ok sc_law_sides (fun vs H Q E h => ?_) (fun cdv A outer s H vs Q E hr h => ?_)
  · obtain ⟨c, rfl, _⟩ := h
    rfl
  · obtain ⟨c, rfl, k⟩ := h
    have kk : ∀ (x y : Int) p, H p = none → 2 ≤ x → x ≤ 40 → 2 ≤ y → y ≤ 40 → Q (.ref p) (upd H p (.tup [.int x, .int y])) := fun x y p hp x0 x1 y0 y1 => by
      refine k p x.toNat y.toNat _ (.upd hp) ?_ (by omega) (by omega) (by omega) (by omega)
      rw [upd_same, Int.toNat_of_nonneg (by omega), Int.toNat_of_nonneg (by omega)]
    refine ⟨_, (pss_cons (ps_set (i := 1) sc_law_sides.nd rfl (Or.inl rfl) (pe_op op_fdiv (pv 0) pe_int))
      (pss_cons (ps_if (pt_cmpR op_eq (pe_op op_mod (pv 0) pe_int) pe_int (nomark _))
        (pss_one (ps_ret (pe_tup (pa_cons (pe_op op_add pe_int (pe_op op_mod (pv 1) pe_int)) (pa_cons pe_int pa_nil)))))
        pss_nil)
      (pss_cons (ps_if (pt_cmpR op_eq (pe_op op_mod (pv 0) pe_int) pe_int (nomark _))
        (pss_one (ps_ret (pe_tup (pa_cons pe_int (pa_cons (pe_op op_add pe_int (pe_op op_mod (pv 1) pe_int)) pa_nil)))))
        pss_nil)
      (pss_cons (ps_if (pt_cmpR op_eq (pe_op op_mod (pv 0) pe_int) pe_int (nomark _))
        (pss_one (ps_ret (pe_tup (pa_cons (pe_op op_add pe_int (pe_op op_mod (pv 1) pe_int)) (pa_cons (pe_op op_add pe_int (pe_op op_mod (pe_op op_fdiv (pv 1) pe_int) pe_int)) pa_nil)))))
        pss_nil)
      (pss_one (ps_ret (pe_tup (pa_cons (pe_op op_add pe_int (pe_op op_mod (pv 1) pe_int)) (pa_cons (pe_op op_add pe_int (pe_op op_mod (pe_op op_fdiv (pv 1) pe_int) pe_int)) pa_nil))))))))), ?_⟩
    refine ⟨_, rfl, _, _, rfl, rfl, ⟨by decide, by decide⟩, ?_⟩
    refine ⟨_, rfl, _, _, rfl, rfl, (by show (0 : Int) < 8; decide), rfl, _, rfl, ?_⟩
    refine ite2D (fun _ => ?_) (fun _ => ?_)
    · refine ⟨_, rfl, _, _, rfl, rfl, (by show (0 : Int) < 39; decide), _, _, rfl, rfl, (by show 2 ≤ sizeLine; decide), fun p hp => ?_⟩
      exact kk _ _ p hp (by omega) (by omega) (by omega) (by omega)
    refine ⟨_, rfl, _, _, rfl, rfl, (by show (0 : Int) < 8; decide), rfl, _, rfl, ?_⟩
    refine ite2D (fun _ => ?_) (fun _ => ?_)
    · refine ⟨_, rfl, _, _, rfl, rfl, (by show (0 : Int) < 39; decide), _, _, rfl, rfl, (by show 2 ≤ sizeLine; decide), fun p hp => ?_⟩
      exact kk _ _ p hp (by omega) (by omega) (by omega) (by omega)
    refine ⟨_, rfl, _, _, rfl, rfl, (by show (0 : Int) < 8; decide), rfl, _, rfl, ?_⟩
    refine ite2D (fun _ => ?_) (fun _ => ?_)
    · refine ⟨_, rfl, _, _, rfl, rfl, (by show (0 : Int) < 8; decide), _, _, rfl, rfl, _, rfl, _, _, rfl, rfl, ⟨by decide, by decide⟩, _, _, rfl, rfl, (by show (0 : Int) < 8; decide), _, _, rfl, rfl, (by show 2 ≤ sizeLine; decide), fun p hp => ?_⟩
      exact kk _ _ p hp (by omega) (by omega) (by omega) (by omega)
    · refine ⟨_, rfl, _, _, rfl, rfl, (by show (0 : Int) < 5; decide), _, _, rfl, rfl, _, rfl, _, _, rfl, rfl, ⟨by decide, by decide⟩, _, _, rfl, rfl, (by show (0 : Int) < 5; decide), _, _, rfl, rfl, (by show 2 ≤ sizeLine; decide), fun p hp => ?_⟩
      exact kk _ _ p hp (by omega) (by omega) (by omega) (by omega)
theorem pick4 {z : Int} (h0 : 0 ≤ z) (h4 : z < 4) : ∃ u : List Nat, atI [V.str "?#.", V.str "??#.", V.str "????#.", V.str "??????????#."] z = some (.str (tx u)) ∧ 1 ≤ u.length ∧ u.length ≤ 20 ∧ ∀ c ∈ u, Sq3 c := by
  have sq : ∀ u : List Nat, (u.all fun c => c == 35 || c == 46 || c == 63) = true → ∀ c ∈ u, Sq3 c := fun u h c hc => by
    have := List.all_eq_true.mp h c hc
    simp only [Bool.or_eq_true, beq_iff_eq] at this
    rcases this with (h | h) | h
    · exact .inl h
    · exact .inr (.inl h)
    · exact .inr (.inr h)
  have : z = 0 ∨ z = 1 ∨ z = 2 ∨ z = 3 := by omega
  rcases this with e | e | e | e <;> subst e
  · exact ⟨[63, 35, 46], by rw [show (("?#." : Str)) = tx [63, 35, 46] from by decide +kernel]; rfl, by decide, by decide, sq _ (by decide)⟩
  · exact ⟨[63, 63, 35, 46], by rw [show (("??#." : Str)) = tx [63, 63, 35, 46] from by decide +kernel]; rfl, by decide, by decide, sq _ (by decide)⟩
  · exact ⟨[63, 63, 63, 63, 35, 46], by rw [show (("????#." : Str)) = tx [63, 63, 63, 63, 35, 46] from by decide +kernel]; rfl, by decide, by decide, sq _ (by decide)⟩
  · exact ⟨[63, 63, 63, 63, 63, 63, 63, 63, 63, 63, 35, 46], by rw [show (("??????????#." : Str)) = tx [63, 63, 63, 63, 63, 63, 63, 63, 63, 63, 35, 46] from by decide +kernel]; rfl, by decide, by decide, sq _ (by decide)⟩
def sp_half (K : PySem.W.Frag) : Sp := fun vs H Q _ => ∃ (a p : Addr) (ns : List Int) (m n : Nat), vs = [.ref a, .ref p] ∧ SqL K H a (vI ns) ∧ ns.length ≤ 63 ∧ H p = some (.tup [.int (m : Int), .int (n : Int)]) ∧ 2 ≤ m ∧ m ≤ 40 ∧ 2 ≤ n ∧ n ≤ 40 ∧
  ∀ (l : Addr) (cl : List (List Nat)) (H' : Hp), Same H H' → H' l = some (.lst (vS cl)) → Hc cl m n → Q (.ref l) H'
theorem ok_law_half (T : Txt K mg t) : FnOk P w K mg base CX0 2 t.f_law_half t.d_law_half ["script", "sides"] (sp_half K) := by
  have G_law_sums : FnOk P w K mg base CX0 1 t.f_law_sums t.d_law_sums _ _ := ok_law_sums T
  have G_law_cell_at : FnOk P w K mg base CX0 1 t.f_law_cell_at t.d_law_cell_at _ _ := ok_law_cell_at T
  refine T.law_half.F.ok sc_law_half (fun vs H Q E h => ?_) (fun cdv A outer s H vs Q E hr h => ?_)
  · obtain ⟨a, p, ns, m, n, rfl, _⟩ := h
    rfl
  · obtain ⟨a, p, ns, m, n, rfl, hS, hl, hp, m2, m40, n2, n40, k⟩ := h
    have hsz : sizeLine = 16777216 := sizeLine_eq
    refine ⟨_, (pss_cons (ps_set (i := 2) sc_law_half.nd rfl (Or.inl rfl) (pe_ix (ix_listK (K := K)) (pe_lst (pa_cons pe_str (pa_cons pe_str (pa_cons pe_str (pa_cons pe_str pa_nil))))) (pe_op op_mod (pe_call (G_law_cell_at.mono (by decide)) hr rfl T.law_cell_at.m T.law_cell_at.F.kp T.law_cell_at.b .nil pass0 (pa_cons (pv 0) (pa_cons pe_int pa_nil))) pe_int) (fun _ _ => rfl)))
      (pss_cons (ps_set (i := 3) sc_law_half.nd rfl (Or.inl rfl) (pe_op op_mod (pe_op op_fdiv (pe_call (G_law_cell_at.mono (by decide)) hr rfl T.law_cell_at.m T.law_cell_at.F.kp T.law_cell_at.b .nil pass0 (pa_cons (pv 0) (pa_cons pe_int pa_nil))) pe_int) pe_int))
      (pss_cons (ps_set (i := 4) sc_law_half.nd rfl (Or.inl rfl) (pe_call (G_law_sums.mono (by decide)) hr rfl T.law_sums.m T.law_sums.F.kp T.law_sums.b .nil pass0 (pa_cons (pv 0) (pa_cons pe_int (pa_cons (pe_ix (ix_tupK (K := K)) (pv 1) pe_int (fun _ _ => rfl)) pa_nil)))))
      (pss_cons (ps_set (i := 5) sc_law_half.nd rfl (Or.inl rfl) (pe_lst pa_nil))
      (pss_cons (ps_for PassesOwn.never rfl (pi_range1 rfl T.b_range (pa_cons (pe_ix (ix_tupK (K := K)) (pv 1) pe_int (fun _ _ => rfl)) pa_nil)) (pg_name (i := 6) sc_law_half.nd rfl (Or.inl rfl))
        (pss_cons (ps_set (i := 7) sc_law_half.nd rfl (Or.inl rfl) (pe_op op_add (pe_ix (ix_listK (K := K)) (pv 4) (pv 6) (fun _ _ => rfl)) (pe_op op_mod (pe_op op_mul (pe_op op_mul (pv 3) (pe_op op_add (pe_op op_mul (pv 6) (pv 6)) pe_int)) pe_int) pe_int)))
        (pss_cons (ps_set (i := 8) sc_law_half.nd rfl (Or.inl rfl) pe_str)
        (pss_cons (ps_for PassesOwn.never rfl (pi_range1 rfl T.b_range (pa_cons (pe_ix (ix_tupK (K := K)) (pv 1) pe_int (fun _ _ => rfl)) pa_nil)) (pg_name (i := 9) sc_law_half.nd rfl (Or.inl rfl))
          (pss_cons (ps_set (i := 8) sc_law_half.nd rfl (Or.inl rfl) (pe_op op_add_str (pv 8) (pe_ix ix_str (pv 2) (pe_op op_mod (pv 7) (pe_callB call_len_str rfl T.b_len bt_len (pa_cons (pv 2) pa_nil))) (fun _ _ => rfl))))
          (pss_one (ps_set (i := 7) sc_law_half.nd rfl (Or.inl rfl) (pe_op op_fdiv (pv 7) (pe_callB call_len_str rfl T.b_len bt_len (pa_cons (pv 2) pa_nil)))))))
        (pss_one (ps_expr (pe_bmK (K := K) PySem.F.plainAttrs_list PySem.F.slot_list_append PySem.F.type_list_append mt_append (pv 5) (pa_cons (pv 8) pa_nil))))))))
      (pss_one (ps_ret (pv 5)))))))), ?_⟩
    refine ⟨(by show 4 ≤ sizeLine; decide), fun l0 n0 => ?_⟩
    have s0 : Same H (upd H l0 (.lst [.str "?#.", .str "??#.", .str "????#.", .str "??????????#."])) := .upd n0
    refine ⟨_, rfl, a, ns, 1, rfl, s0.seq hS, by decide, fun c _ _ => ?_⟩
    obtain ⟨u, eu, u1, u20, us⟩ := pick4 (z := c % 4) (Int.emod_nonneg _ (by decide)) (Int.emod_lt_of_pos _ (by decide))
    refine ⟨_, _, rfl, rfl, (by show (0 : Int) < 4; decide), _, _, _, _, rfl, rfl, SqL.of upd_same, eu, ?_⟩
    refine ⟨_, rfl, a, ns, 1, rfl, s0.seq hS, by decide, fun c _ _ => ?_⟩
    refine ⟨_, _, rfl, rfl, ⟨by decide, by decide⟩, _, _, rfl, rfl, (by show (0 : Int) < 2147483647; decide), ?_⟩
    obtain ⟨st, hst⟩ : ∃ z : Int, z = c / 4 % 2147483647 := ⟨_, rfl⟩
    have st1 : 0 ≤ st ∧ st < 2147483647 := by rw [hst]; exact ⟨Int.emod_nonneg _ (by decide), Int.emod_lt_of_pos _ (by decide)⟩
    dsimp only
    rw [← hst]
    have hp0 := s0 _ _ hp
    refine ⟨_, rfl, _, rfl, _, _, _, _, rfl, rfl, SqT.of hp0, atI_of (by decide) rfl, a, ns, 2, n, rfl, s0.seq hS, hl, by decide, by omega, by omega, fun l1 ks H1 s1 nl1 hl1 hkl => ?_⟩
    have u1' := s0.trans s1
    refine ⟨Nat.zero_le _, fun q hq => ?_⟩
    have hp1 := (Same.upd (o := .lst []) hq) _ _ (s1 _ _ hp0)
    refine ⟨_, rfl, _, _, _, _, rfl, rfl, SqT.of hp1, atI_of (by decide) rfl, _, rfl, (by omega), (by omega), ?_⟩
    rw [Int.toNat_natCast]
    refine for_range (lo := 0) (n := n) (fun i σ H2 => ∃ (cl : List (List Nat)) (v1 v2 v3 v4 : Option V), σ = [some (.ref a), some (.ref p), some (.str (tx u)), some (.int st), some (.ref l1), some (.ref q), v1, v2, v3, v4] ∧ Same H1 H2 ∧ H2 q = some (.lst (vS cl)) ∧ cl.length = i ∧ (∀ t ∈ cl, t.length = m) ∧ ∀ t ∈ cl, ∀ c ∈ t, Sq3 c)
      ⟨[], none, none, none, none, rfl, .upd hq, upd_same, rfl, fun _ h => absurd h (by simp), fun _ h => absurd h (by simp)⟩ ?_ ?_
    · rintro i σ H2 hi ⟨cl, v1, v2, v3, v4, rfl, s2, h2, hcl, hcm, hcs⟩
      have hik : i < ks.length := by omega
      have e1 : atI (vI ks) (0 + (i : Int)) = some (.int ks[i]) := atI_of (by omega) (by rw [z0]; exact vI_get (List.getElem?_eq_getElem hik))
      refine ⟨_, rfl, _, rfl, _, _, _, _, rfl, rfl, SqL.of (s2 _ _ hl1), e1, ?_⟩
      refine ⟨_, rfl, _, rfl, _, rfl, _, _, rfl, rfl, .inl ⟨by omega, by omega⟩, _, _, rfl, rfl, ?_⟩
      refine ⟨_, _, rfl, rfl, .inl ⟨by omega, by omega⟩, ?_⟩
      refine ⟨_, _, rfl, rfl, .inr ⟨by decide, by decide⟩, ?_⟩
      refine ⟨_, _, rfl, rfl, (by show (0 : Int) < 2147483647; decide), _, _, rfl, rfl, ?_⟩
      refine ⟨_, rfl, _, _, _, _, rfl, rfl, SqT.of (s2 _ _ (s1 _ _ hp0)), atI_of (by decide) rfl, _, rfl, (by omega), (by omega), ?_⟩
      rw [Int.toNat_natCast]
      refine for_range (lo := 0) (n := m) (fun j σ H3 => ∃ (z : Int) (w : List Nat) (v4 : Option V), σ = [some (.ref a), some (.ref p), some (.str (tx u)), some (.int st), some (.ref l1), some (.ref q), some (.int (0 + (i : Int))), some (.int z), some (.str (tx w)), v4] ∧ H3 = H2 ∧ w.length = j ∧ ∀ c ∈ w, Sq3 c)
        ⟨_, [], v4, by rw [show (("" : Str)) = tx [] from by decide +kernel]; rfl, rfl, rfl, fun _ h => absurd h (by simp)⟩ ?_ ?_
      · rintro j σ H3 hj ⟨z, w', v4, rfl, rfl, hwl, hws⟩
        have b1 := Int.emod_nonneg z (show (u.length : Int) ≠ 0 by omega)
        have b2 := Int.emod_lt_of_pos z (show 0 < (u.length : Int) by omega)
        have hzl : (z % (u.length : Int)).toNat < u.length := by omega
        refine ⟨_, rfl, _, rfl, _, rfl, _, rfl, _, rfl, (by rw [tx_len]; omega), _, _, rfl, rfl, (by rw [tx_len]; omega), ?_⟩
        rw [tx_len]
        refine ⟨_, _, _, rfl, rfl, (by rw [tx_len]; omega), atI_of b1 (by rw [tx_list]; exact List.getElem?_eq_getElem hzl), _, _, rfl, rfl, (by rw [tx_len, tx_one, tx_len, hwl]; show j + 1 ≤ sizeLine; omega), ?_⟩
        rw [tx_one, tx_app]
        refine ⟨_, rfl, _, rfl, _, rfl, (by rw [tx_len]; omega), _, _, rfl, rfl, ⟨by rw [tx_len]; omega, by rw [tx_len]; omega⟩, ?_⟩
        refine ⟨_, _, _, rfl, rfl, by rw [List.length_append, hwl]; rfl, fun d hd => ?_⟩
        rcases List.mem_append.mp hd with h | h
        · exact hws d h
        · rw [List.mem_singleton.mp h]; exact us _ (List.getElem_mem hzl)
      · rintro σ H3 ⟨z, w', v4, rfl, rfl, hwl, hws⟩
        refine ⟨_, rfl, .inl ⟨rfl, _, SqL.of h2⟩, _, rfl, _, _, _, rfl, rfl, h2, (by rw [vS_len, hcl]; omega), ?_⟩
        rw [vS_app]
        refine ⟨cl ++ [w'], _, _, _, _, rfl, s2.over hq, upd_same, by rw [List.length_append, hcl]; rfl, fun t ht => ?_, fun t ht => ?_⟩
        · rcases List.mem_append.mp ht with h | h
          · exact hcm t h
          · rw [List.mem_singleton.mp h]; exact hwl
        · rcases List.mem_append.mp ht with h | h
          · exact hcs t h
          · rw [List.mem_singleton.mp h]; exact hws
    · rintro σ H2 ⟨cl, v1, v2, v3, v4, rfl, s2, h2, hcl, hcm, hcs⟩
      exact ⟨_, rfl, k q cl H2 (u1'.trans s2) h2 ⟨hcl, hcm, hcs, m2, m40, n2, n40⟩⟩
theorem cut_tail {u : List Nat} {k : Nat} (h : k ≤ u.length) : cutT u (some (k : Int)) none = u.drop k := by
  unfold cutT
  have e1 : HT.sIx u.length 0 (some (k : Int)) = k := by rw [HT.sIx_nat, Nat.min_eq_left h]
  have e2 : HT.sIx u.length u.length none = u.length := rfl
  rw [e1, e2]
  exact List.take_of_length_le (by rw [List.length_drop]; omega)
theorem cutV_to {xs : List V} {k : Nat} (h : k ≤ xs.length) : cutV xs none (some (k : Int)) = xs.take k := by
  unfold cutV
  rw [HT.sIx_none, HT.sIx_nat, List.drop_zero, Nat.min_eq_left h, Nat.sub_zero]
theorem cutV_tail {xs : List V} {k : Nat} (h : k ≤ xs.length) : cutV xs (some (k : Int)) none = xs.drop k := by
  unfold cutV
  have e1 : HT.sIx xs.length 0 (some (k : Int)) = k := by rw [HT.sIx_nat, Nat.min_eq_left h]
  have e2 : HT.sIx xs.length xs.length none = xs.length := rfl
  rw [e1, e2]
  exact List.take_of_length_le (by rw [List.length_drop]; omega)
theorem vS_take (cl : List (List Nat)) (k : Nat) : (vS cl).take k = vS (cl.take k) := by unfold vS; rw [List.map_take]
theorem vS_drop (cl : List (List Nat)) (k : Nat) : (vS cl).drop k = vS (cl.drop k) := by unfold vS; rw [List.map_drop]
theorem vS_two (a b : List (List Nat)) : vS a ++ vS b = vS (a ++ b) := by unfold vS; rw [List.map_append]
/-- a place of a list of texts set -/
def putc (cl : List (List Nat)) (p e c : Nat) : List (List Nat) := cl.take p ++ [(cl.getD p []).take e ++ [c] ++ (cl.getD p []).drop (e + 1)] ++ cl.drop (p + 1)
theorem mid_get {α : Type} (l : List α) (x : α) {k : Nat} (hk : k < l.length) (j : Nat) (h : j ≠ k) : (l.take k ++ [x] ++ l.drop (k + 1))[j]? = l[j]? := by
  have lt : (l.take k).length = k := by rw [List.length_take]; omega
  by_cases hj : j < k
  · rw [List.append_assoc, List.getElem?_append_left (by omega), List.getElem?_take_of_lt hj]
  · rw [List.getElem?_append_right (by rw [List.length_append, lt]; show k + 1 ≤ j; omega), List.length_append, lt, List.length_singleton, List.getElem?_drop, show k + 1 + (j - (k + 1)) = j by omega]
theorem putc_sg {cl : List (List Nat)} {m n p e c : Nat} (C : Hc cl m n) (hp : p < n) (he : e < m) (p' e' : Nat) : sg2 (putc cl p e c) p' e' = if p' = p ∧ e' = e then c else sg2 cl p' e' := by
  have hn := C.hn
  have hpl : p < cl.length := by omega
  have e1 : cl.getD p [] = cl[p] := by rw [List.getD_eq_getElem?_getD, List.getElem?_eq_getElem hpl]; rfl
  have lp : (cl.getD p []).length = m := by rw [e1]; exact C.hm cl[p] (List.getElem_mem hpl)
  unfold sg2 putc
  by_cases h : p' = p
  · subst h
    have g1 : (cl.take p' ++ [(cl.getD p' []).take e ++ [c] ++ (cl.getD p' []).drop (e + 1)] ++ cl.drop (p' + 1)).getD p' [] = (cl.getD p' []).take e ++ [c] ++ (cl.getD p' []).drop (e + 1) := by
      rw [List.append_assoc, List.getD_eq_getElem?_getD, List.getElem?_append_right (by rw [List.length_take]; omega), List.length_take, Nat.min_eq_left (by omega), Nat.sub_self]
      rfl
    rw [g1]
    by_cases h2 : e' = e
    · subst h2
      rw [if_pos ⟨rfl, rfl⟩, List.append_assoc, List.getD_eq_getElem?_getD, List.getElem?_append_right (by rw [List.length_take]; omega), List.length_take, Nat.min_eq_left (by omega), Nat.sub_self]
      rfl
    · rw [if_neg fun z => h2 z.2, List.getD_eq_getElem?_getD, mid_get _ _ (by omega) e' h2, ← List.getD_eq_getElem?_getD]
  · rw [if_neg fun z => h z.1]
    have g1 : (cl.take p ++ [(cl.getD p []).take e ++ [c] ++ (cl.getD p []).drop (e + 1)] ++ cl.drop (p + 1)).getD p' [] = cl.getD p' [] := by
      rw [List.getD_eq_getElem?_getD, mid_get cl _ hpl p' h, ← List.getD_eq_getElem?_getD]
    rw [g1]
theorem putc_hc {cl : List (List Nat)} {m n p e c : Nat} (C : Hc cl m n) (hp : p < n) (he : e < m) (hc : Sq3 c) : Hc (putc cl p e c) m n := by
  have hn := C.hn
  have hpl : p < cl.length := by omega
  have e1 : cl.getD p [] = cl[p] := by rw [List.getD_eq_getElem?_getD, List.getElem?_eq_getElem hpl]; rfl
  have lp := C.hm cl[p] (List.getElem_mem hpl)
  unfold putc
  rw [e1]
  refine ⟨?_, fun t ht => ?_, fun t ht => ?_, C.m2, C.m40, C.n2, C.n40⟩
  · rw [List.length_append, List.length_append, List.length_take, List.length_drop, List.length_singleton, C.hn]
    omega
  · rcases List.mem_append.mp ht with h | h
    · rcases List.mem_append.mp h with h | h
      · exact C.hm t (List.mem_of_mem_take h)
      · rw [List.mem_singleton.mp h, List.length_append, List.length_append, List.length_take, List.length_drop, List.length_singleton]; omega
    · exact C.hm t (List.mem_of_mem_drop h)
  · rcases List.mem_append.mp ht with h | h
    · rcases List.mem_append.mp h with h | h
      · exact C.sg t (List.mem_of_mem_take h)
      · rw [List.mem_singleton.mp h]
        have sp := C.sg cl[p] (List.getElem_mem hpl)
        intro d hd
        rcases List.mem_append.mp hd with h | h
        · rcases List.mem_append.mp h with h | h
          · exact sp d (List.mem_of_mem_take h)
          · rw [List.mem_singleton.mp h]; exact hc
        · exact sp d (List.mem_of_mem_drop h)
    · exact C.sg t (List.mem_of_mem_drop h)
def sp_putc : Sp := fun vs H Q _ => ∃ (a : Addr) (cl : List (List Nat)) (m n p e c : Nat) (z : Str), vs = [.ref a, .int (p : Int), .int (e : Int), .str z] ∧ z = tx [c] ∧ H a = some (.lst (vS cl)) ∧ Hc cl m n ∧ p < n ∧ e < m ∧
  ∀ (l : Addr) (H' : Hp), Same H H' → H' l = some (.lst (vS (putc cl p e c))) → Q (.ref l) H'
theorem ok_law_put (T : Txt K mg t) : FnOk P w K mg base CX0 1 t.f_law_put t.d_law_put ["rows", "pick", "end", "sign"] sp_putc := by
  refine T.law_put.F.ok sc_law_put (fun vs H Q E h => ?_) (fun cdv A outer s H vs Q E hr h => ?_)
  · obtain ⟨a, cl, m, n, p, e, c, z, rfl, _⟩ := h
    rfl
  · obtain ⟨a, cl, m, n, p, e, c, z, rfl, rfl, ha, C, hp, he, k⟩ := h
    have hsz : sizeLine = 16777216 := sizeLine_eq
    have c2 := C.n40
    have c4 := C.m40
    have hcn := C.hn
    have hpl : p < cl.length := by rw [C.hn]; exact hp
    have lp := C.hm cl[p] (List.getElem_mem hpl)
    have eg : cl.getD p [] = cl[p] := by rw [List.getD_eq_getElem?_getD, List.getElem?_eq_getElem hpl]; rfl
    have e1 : atI (vS cl) (p : Int) = some (.str (tx cl[p])) := atI_of (by omega) (by rw [Int.toNat_natCast]; exact vS_get (List.getElem?_eq_getElem hpl))
    refine ⟨_, (pss_cons (ps_set (i := 4) sc_law_put.nd rfl (Or.inl rfl) (pe_op op_add_str (pe_op op_add_str (pe_slice sl_str (pe_ix (ix_listK (K := K)) (pv 0) (pv 1) (fun _ _ => rfl)) po_none (po_some (pv 2))) (pv 3)) (pe_slice sl_str (pe_ix (ix_listK (K := K)) (pv 0) (pv 1) (fun _ _ => rfl)) (po_some (pe_op op_add (pv 2) pe_int)) po_none)))
      (pss_one (ps_ret (pe_op op_cat (pe_op op_cat (pe_slice (sl_listK (K := K)) (pv 0) po_none (po_some (pv 1))) (pe_lst (pa_cons (pv 4) pa_nil))) (pe_slice (sl_listK (K := K)) (pv 0) (po_some (pe_op op_add (pv 1) pe_int)) po_none))))), ?_⟩
    refine ⟨_, rfl, _, rfl, _, _, _, _, rfl, rfl, SqL.of ha, e1, _, rfl, _, rfl, _, rfl, (by omega), ?_⟩
    rw [cut_to (by omega)]
    refine ⟨_, rfl, _, _, rfl, rfl, (by rw [tx_len, tx_len, List.length_take]; show _ + 1 ≤ sizeLine; omega), ?_⟩
    rw [tx_app]
    refine ⟨_, rfl, _, rfl, _, _, _, _, rfl, rfl, SqL.of ha, e1, _, rfl, _, _, rfl, rfl, _, rfl, _, rfl, (by omega), ?_⟩
    rw [show (e : Int) + 1 = ((e + 1 : Nat) : Int) by omega, cut_tail (by omega)]
    refine ⟨_, _, rfl, rfl, (by rw [tx_len, tx_len, List.length_append, List.length_take, List.length_drop]; show _ + 1 + _ ≤ sizeLine; omega), ?_⟩
    rw [tx_app]
    unfold putc at k
    rw [eg] at k
    obtain ⟨row, hrow⟩ : ∃ row, row = cl[p].take e ++ [c] ++ cl[p].drop (e + 1) := ⟨_, rfl⟩
    rw [← hrow] at k ⊢
    refine ⟨_, rfl, _, rfl, _, rfl, _, _, rfl, SqL.of ha, fun l1 n1 => ?_⟩
    rw [cutV_to (by rw [vS_len]; omega), vS_take]
    have s1 : Same H (upd H l1 (.lst (vS (cl.take p)))) := .upd n1
    refine ⟨_, rfl, (by show 1 ≤ sizeLine; decide), fun l2 n2 => ?_⟩
    have s2 := s1.new (o := .lst [.str (tx row)]) n2
    refine ⟨_, _, _, _, rfl, rfl, (Same.upd n2) _ _ upd_same, upd_same, (by rw [vS_len, List.length_take]; show _ + 1 ≤ sizeLine; omega), fun l3 n3 => ?_⟩
    rw [vS_app]
    have s3 := s2.new (o := .lst (vS (cl.take p ++ [row]))) n3
    refine ⟨_, rfl, _, rfl, _, _, rfl, rfl, _, rfl, _, _, rfl, SqL.of (s3 _ _ ha), fun l4 n4 => ?_⟩
    rw [show (p : Int) + 1 = ((p + 1 : Nat) : Int) by omega, cutV_tail (by rw [vS_len]; omega), vS_drop]
    have s4 := s3.new (o := .lst (vS (cl.drop (p + 1)))) n4
    refine ⟨_, _, _, _, rfl, rfl, (Same.upd n4) _ _ upd_same, upd_same, (by rw [vS_len, vS_len, List.length_append, List.length_take, List.length_drop]; show _ + 1 + _ ≤ sizeLine; omega), fun l5 n5 => ?_⟩
    rw [vS_two]
    exact k l5 _ (s4.new n5) upd_same
end
end Mine

set_option Elab.async false
set_option linter.all false
set_option maxRecDepth 100000
set_option maxHeartbeats 4000000
namespace Mine
open PySem L2
section
variable {P : Program} {w : World} {K : PySem.W.Frag} {mg : Str → Option Value} {base : Heap} {t : Adr}
theorem hc_sq {cl : List (List Nat)} {m n i j : Nat} (C : Hc cl m n) (hi : i < n) (hj : j < m) : Sq3 (sg2 cl i j) := by
  have hil : i < cl.length := by rw [C.hn]; exact hi
  have e3 : cl.getD i [] = cl[i] := by rw [List.getD_eq_getElem?_getD, List.getElem?_eq_getElem hil]; rfl
  have hm := C.hm cl[i] (List.getElem_mem hil)
  unfold sg2
  rw [e3, List.getD_eq_getElem?_getD, List.getElem?_eq_getElem (by rw [hm]; exact hj)]
  exact C.sg cl[i] (List.getElem_mem hil) _ (List.getElem_mem _)
theorem hc_at0 {cl : List (List Nat)} {m n : Nat} (C : Hc cl m n) : atI (vS cl) 0 = some (.str (tx (cl.getD 0 []))) ∧ (cl.getD 0 []).length = m := by
  have := hc_at (p := 0) C (by have := C.n2; omega)
  exact this
def sp_cuts (K : PySem.W.Frag) : Sp := fun vs H Q _ => ∃ (a b : Addr) (cl : List (List Nat)) (m n : Nat) (ks : List Int), vs = [.ref a, .ref b] ∧ SqL K H a (vS cl) ∧ Hc cl m n ∧ SqL K H b (vI ks) ∧ ∀ d : Bool, (d = true ↔ ∀ p e, p < n → e < m → CutAt cl m ks p e) → Q (.bl d) H
theorem ok_law_cuts (T : Txt K mg t) : FnOk P w K mg base CX0 1 t.f_law_cuts t.d_law_cuts ["half", "strands"] (sp_cuts K) := by
  refine T.law_cuts.F.ok sc_law_cuts (fun vs H Q E h => ?_) (fun cdv A outer s H vs Q E hr h => ?_)
  · obtain ⟨a, b, cl, m, n, ks, rfl, _⟩ := h
    rfl
  · obtain ⟨a, b, cl, m, n, ks, rfl, hS, C, hB, k⟩ := h
    have c1 := C.n2
    have c2 := C.n40
    have c4 := C.m40
    have hlen : (vS cl).length = n := by rw [vS_len, C.hn]
    have h0 : 0 < cl.length := by rw [C.hn]; omega
    have hm0 := C.hm cl[0] (List.getElem_mem h0)
    refine ⟨_, (pss_cons (ps_set (i := 2) sc_law_cuts.nd rfl (Or.inl rfl) (pe_callB call_len_str rfl T.b_len bt_len (pa_cons (pe_ix (ix_listK (K := K)) (pv 0) pe_int (fun _ _ => rfl)) pa_nil)))
      (pss_cons (ps_for PassesOwn.never rfl (pi_range1 rfl T.b_range (pa_cons (pe_callB (call_len_seqK (K := K)) rfl T.b_len bt_len (pa_cons (pv 0) pa_nil)) pa_nil)) (pg_name (i := 3) sc_law_cuts.nd rfl (Or.inl rfl))
        (pss_one (ps_for PassesOwn.never rfl (pi_range1 rfl T.b_range (pa_cons (pv 2) pa_nil)) (pg_name (i := 4) sc_law_cuts.nd rfl (Or.inl rfl))
          (pss_cons (ps_set (i := 5) sc_law_cuts.nd rfl (Or.inl rfl) (pe_cmpR (op_in_seqK (K := K)) (pv 4) (pv 1) rfl))
          (pss_cons (ps_set (i := 6) sc_law_cuts.nd rfl (Or.inl rfl) (pe_cmpR (op_in_seqK (K := K)) (pe_op op_add (pv 2) (pv 3)) (pv 1) rfl))
          (pss_cons (ps_if (PW.pt (pw_and (pt_truthK (K := K) (pv 5) (fun _ => rfl)) (pw_and (pt_not (pt_truthK (K := K) (pv 6) (fun _ => rfl))) (pw_and1 (pt_cmpR op_ne (pe_ix ix_str (pe_ix (ix_listK (K := K)) (pv 0) (pv 3) (fun _ _ => rfl)) (pv 4) (fun _ _ => rfl)) pe_str (nomark _))))))
            (pss_one (ps_ret pe_bl))
            pss_nil)
          (pss_one (ps_if (PW.pt (pw_and (pt_truthK (K := K) (pv 6) (fun _ => rfl)) (pw_and (pt_not (pt_truthK (K := K) (pv 5) (fun _ => rfl))) (pw_and1 (pt_cmpR op_ne (pe_ix ix_str (pe_ix (ix_listK (K := K)) (pv 0) (pv 3) (fun _ _ => rfl)) (pv 4) (fun _ _ => rfl)) pe_str (nomark _))))))
            (pss_one (ps_ret pe_bl))
            pss_nil))))))))
      (pss_one (ps_ret pe_bl)))), ?_⟩
    refine ⟨_, rfl, _, _, _, _, rfl, rfl, hS, atI_of (by decide) (vS_get (List.getElem?_eq_getElem h0)), _, rfl, (by rw [tx_len, hm0]; exact small40 c4), ?_⟩
    rw [tx_len, hm0]
    refine ⟨_, rfl, _, _, rfl, .inl hS, _, rfl, (by omega), (by rw [hlen]; omega), ?_⟩
    rw [Int.toNat_natCast, hlen]
    refine for_range (lo := 0) (n := n) (fun i σ H2 => ∃ (v1 v2 v3 v4 : Option V), σ = [some (.ref a), some (.ref b), some (.int (m : Int)), v1, v2, v3, v4] ∧ H2 = H ∧ ∀ p e, p < i → e < m → CutAt cl m ks p e) ⟨none, none, none, none, rfl, rfl, fun p e h => absurd h (by omega)⟩ ?_ ?_
    · rintro i σ H2 hi ⟨v1, v2, v3, v4, rfl, rfl, hall⟩
      refine ⟨_, rfl, _, rfl, (by omega), (by omega), ?_⟩
      rw [Int.toNat_natCast]
      refine for_range (lo := 0) (n := m) (fun j σ H3 => ∃ (v2 v3 v4 : Option V), σ = [some (.ref a), some (.ref b), some (.int (m : Int)), some (.int (0 + (i : Int))), v2, v3, v4] ∧ H3 = H2 ∧ ∀ e, e < j → CutAt cl m ks i e) ⟨v2, v3, v4, rfl, rfl, fun e h => absurd h (by omega)⟩ ?_ ?_
      · rintro j σ H3 hj ⟨v2, v3, v4, rfl, rfl, hrow⟩
        obtain ⟨e1, l1⟩ := hc_at C hi
        have e2 := sign_at2 (u := cl.getD i []) (e := j) (by rw [l1]; exact hj)
        refine ⟨_, rfl, _, rfl, _, _, rfl, .inl hB, rfl, vI_flat _, ?_⟩
        refine ⟨_, rfl, _, rfl, _, _, rfl, rfl, _, rfl, _, _, rfl, .inl hB, rfl, vI_flat _, ?_⟩
        have go : CutAt cl m ks i j → ∀ e, e < j + 1 → CutAt cl m ks i e := fun hc e he => by
          rcases Nat.lt_succ_iff_lt_or_eq.mp he with h | h
          · exact hrow e h
          · rw [h]; exact hc
        have bad : ¬ CutAt cl m ks i j → Q (.bl false) H3 := fun hb => k false ⟨fun z => (by cases z), fun z => absurd (z i j hi hj) hb⟩
        have t1 : ∀ x : Int, (if false = true then !inV (V.int x) (vI ks) else inV (V.int x) (vI ks)) = decide (x ∈ ks) := fun x => inV_vI x ks
        rw [t1, t1, Int.zero_add, Int.zero_add]
        rw [Int.zero_add] at e1 e2
        by_cases hE : ((j : Int) ∈ ks)
        · rw [decide_eq_true hE]
          by_cases hT : ((m : Int) + (i : Int)) ∈ ks
          · rw [decide_eq_true hT]
            have hc : CutAt cl m ks i j := ⟨fun _ z => absurd hT z, fun _ z => absurd hE z⟩
            refine ⟨_, rfl, _, rfl, ?_⟩
            refine iteT ?_
            refine ⟨_, rfl, _, rfl, ?_⟩
            refine iteF ?_
            refine iteF ?_
            refine ⟨_, rfl, _, rfl, ?_⟩
            refine iteT ?_
            refine ⟨_, rfl, _, rfl, ?_⟩
            refine iteF ?_
            exact iteF ⟨_, _, _, rfl, rfl, go hc⟩
          · rw [decide_eq_false hT]
            refine ⟨_, rfl, _, rfl, ?_⟩
            refine iteT ?_
            refine ⟨_, rfl, _, rfl, ?_⟩
            refine iteT ?_
            refine ⟨_, rfl, _, rfl, _, _, _, _, rfl, rfl, hS, e1, _, rfl, _, _, _, rfl, rfl, (by rw [tx_len, l1]; exact small40 c4), e2, rfl, _, rfl, ?_⟩
            rw [dec35n]
            refine ite2D (fun h => ?_) (fun h => ?_)
            · exact bad fun hc => h (hc.1 hE hT)
            · have hc : CutAt cl m ks i j := ⟨fun _ _ => Classical.byContradiction h, fun z => absurd z hT⟩
              refine ⟨_, rfl, _, rfl, ?_⟩
              refine iteF ?_
              exact iteF ⟨_, _, _, rfl, rfl, go hc⟩
        · rw [decide_eq_false hE]
          refine ⟨_, rfl, _, rfl, ?_⟩
          refine iteF ?_
          refine iteF ?_
          by_cases hT : ((m : Int) + (i : Int)) ∈ ks
          · rw [decide_eq_true hT]
            refine ⟨_, rfl, _, rfl, ?_⟩
            refine iteT ?_
            refine ⟨_, rfl, _, rfl, ?_⟩
            refine iteT ?_
            refine ⟨_, rfl, _, rfl, _, _, _, _, rfl, rfl, hS, e1, _, rfl, _, _, _, rfl, rfl, (by rw [tx_len, l1]; exact small40 c4), e2, rfl, _, rfl, ?_⟩
            rw [dec46n]
            refine ite2D (fun h => ?_) (fun h => ?_)
            · exact bad fun hc => h (hc.2 hT hE)
            · have hc : CutAt cl m ks i j := ⟨fun z => absurd z hE, fun _ _ => Classical.byContradiction h⟩
              exact ⟨_, _, _, rfl, rfl, go hc⟩
          · rw [decide_eq_false hT]
            have hc : CutAt cl m ks i j := ⟨fun z => absurd z hE, fun z => absurd z hT⟩
            refine ⟨_, rfl, _, rfl, ?_⟩
            refine iteF ?_
            exact iteF ⟨_, _, _, rfl, rfl, go hc⟩
      · rintro σ H3 ⟨v2, v3, v4, rfl, rfl, hrow⟩
        refine ⟨_, _, _, _, rfl, rfl, fun p e hp he => ?_⟩
        rcases Nat.lt_succ_iff_lt_or_eq.mp hp with h | h
        · exact hall p e h he
        · rw [h]; exact hrow e he
    · rintro σ H2 ⟨v1, v2, v3, v4, rfl, rfl, hall⟩
      exact k true ⟨fun _ => hall, fun _ => rfl⟩
def sp_setL : Sp := fun vs H Q _ => ∃ (b : Addr) (fs : List Nat) (N : Nat), vs = [.ref b, .int (N : Int)] ∧ H b = some (.lst (vI (cI fs))) ∧ fs ≠ [] ∧ fs.length < N ∧ fs.Pairwise (· < ·) ∧ (∀ v ∈ fs, v < N) ∧ Q (.bl true) H
theorem pw_next {fs : List Nat} (h : fs.Pairwise (· < ·)) {i a b : Nat} (ha : fs[i]? = some a) (hb : fs[i + 1]? = some b) : a < b := by
  obtain ⟨h1, e1⟩ := List.getElem?_eq_some_iff.mp ha
  obtain ⟨h2, e2⟩ := List.getElem?_eq_some_iff.mp hb
  have := List.pairwise_iff_getElem.mp h i (i + 1) h1 h2 (by omega)
  omega
theorem ok_law_set (T : Txt K mg t) : FnOk P w K mg base CX0 1 t.f_law_set t.d_law_set ["strands", "many"] sp_setL := by
  refine T.law_set.F.ok sc_law_set (fun vs H Q E h => ?_) (fun cdv A outer s H vs Q E hr h => ?_)
  · obtain ⟨b, fs, N, rfl, _⟩ := h
    rfl
  · obtain ⟨b, fs, N, rfl, hb, ne, ln, up, lt, k⟩ := h
    have hsz : sizeLine = 16777216 := sizeLine_eq
    have l0 : 0 < fs.length := List.length_pos_iff.mpr ne
    refine ⟨_, (pss_cons (ps_if (PW.pt (pw_or (pt_not (pt_val (pe_callB (call_isiK (K := K)) rfl T.b_isinstance bt_isinstance (pa_cons (pv 0) (pa_cons (pe_bltn (v := .ty "list") rfl T.b_list bt_list rfl) pa_nil))))) (pw_or (pt_cmpR op_eq (pe_callB (call_len_seqK (K := K)) rfl T.b_len bt_len (pa_cons (pv 0) pa_nil)) pe_int (nomark _)) (pw_or1 (pt_cmpR op_ge (pe_callB (call_len_seqK (K := K)) rfl T.b_len bt_len (pa_cons (pv 0) pa_nil)) (pv 1) (nomark _))))))
        (pss_one (ps_ret pe_bl))
        pss_nil)
      (pss_cons (ps_set (i := 2) sc_law_set.nd rfl (Or.inl rfl) (pe_un un_neg pe_int))
      (pss_cons (ps_for PassesOwn.never rfl (pi_listK (K := K) (pv 0)) (pg_name (i := 3) sc_law_set.nd rfl (Or.inl rfl))
        (pss_cons (ps_if (PW.pt (pw_or (pt_not (pt_val (pe_callB (call_isiK (K := K)) rfl T.b_isinstance bt_isinstance (pa_cons (pv 3) (pa_cons (pe_bltn (v := .ty "int") rfl T.b_int bt_int rfl) pa_nil))))) (pw_or1 (pt_val (pe_callB (call_isiK (K := K)) rfl T.b_isinstance bt_isinstance (pa_cons (pv 3) (pa_cons (pe_bltn (v := .ty "bool") rfl T.b_bool bt_bool rfl) pa_nil)))))))
          (pss_one (ps_ret pe_bl))
          pss_nil)
        (pss_cons (ps_if (PW.pt (pw_or (pt_cmpR op_le (pv 3) (pv 2) (nomark _)) (pw_or1 (pt_cmpR op_ge (pv 3) (pv 1) (nomark _)))))
          (pss_one (ps_ret pe_bl))
          pss_nil)
        (pss_one (ps_set (i := 2) sc_law_set.nd rfl (Or.inl rfl) (pv 3))))))
      (pss_one (ps_ret pe_bl))))), ?_⟩
    refine ⟨_, rfl, _, _, true, .lst hb, .inl ⟨_, rfl, kit_same K _⟩, _, rfl, ?_⟩
    refine iteF ?_
    refine ⟨_, rfl, _, _, rfl, .inl (SqL.of hb), rfl, _, rfl, ?_⟩
    rw [vI_len, cI_len]
    refine iteDn (fun z => absurd (V.int.inj z) (by omega)) ?_
    refine ⟨_, rfl, _, _, rfl, .inl (SqL.of hb), _, rfl, _, _, rfl, rfl, _, rfl, ?_⟩
    rw [vI_len, cI_len]
    refine iteDn (by omega) ?_
    refine ⟨_, rfl, ?_⟩
    refine ⟨_, rfl, _, rfl, ⟨_, SqL.of hb⟩, for_list (K := K) (a := b) (xs := vI (cI fs)) (fun i σ H5 => ∃ (z : Int) (v3 : Option V), σ = [some (.ref b), some (.int (N : Int)), some (.int z), v3] ∧ H5 = H ∧ ∀ v : Nat, fs[i]? = some v → z < (v : Int))
      ⟨-1, none, rfl, rfl, fun v _ => by omega⟩ (fun i σ H5 _ ⟨_, _, _, e, _⟩ => by rw [e]; exact SqL.of hb) ?_ ?_⟩
    · rintro i x σ H5 hx ⟨z, v3, rfl, rfl, hz⟩
      obtain ⟨v, hv, rfl⟩ := cI_got hx
      have z1 := hz v hv
      have z2 := lt v (List.mem_of_getElem? hv)
      refine ⟨_, rfl, _, _, true, .int _, .inl ⟨_, rfl, kit_same K _⟩, _, rfl, ?_⟩
      refine iteF ?_
      refine ⟨_, rfl, _, _, false, .int _, .inl ⟨_, rfl, kit_ib K⟩, _, rfl, ?_⟩
      refine iteF ?_
      refine ⟨_, rfl, _, rfl, _, _, rfl, rfl, _, rfl, ?_⟩
      refine iteDn (by omega) ?_
      refine ⟨_, rfl, _, rfl, _, _, rfl, rfl, _, rfl, ?_⟩
      refine iteDn (by omega) ?_
      refine ⟨_, rfl, (v : Int), _, rfl, rfl, fun u hu => ?_⟩
      have := pw_next up hv hu
      omega
    · rintro σ H5 ⟨z, v3, rfl, rfl, hz⟩
      exact k
def Sg2 (c : Nat) : Prop := c = 35 ∨ c = 46
theorem in2 {c : Nat} (h : Sg2 c) : (if true = true then !inV (V.str ⟨#[c]⟩) [V.str "#", V.str "."] else inV (V.str ⟨#[c]⟩) [V.str "#", V.str "."]) = false := by
  rcases h with h | h <;> subst h <;> decide +kernel
theorem dec35 (c : Nat) : decide ((V.str ⟨#[c]⟩ : V) = V.str "#") = decide (c = 35) := decide_eq_decide.mpr ⟨fun h => sg_eq.mp (h.trans e35.symm), fun h => by rw [h]; exact e35⟩
theorem dec46 (c : Nat) : decide ((V.str ⟨#[c]⟩ : V) = V.str ".") = decide (c = 46) := decide_eq_decide.mpr ⟨fun h => sg_eq.mp (h.trans e46.symm), fun h => by rw [h]; exact e46⟩
theorem dec63 (c : Nat) : decide ((V.str ⟨#[c]⟩ : V) = V.str "?") = decide (c = 63) := decide_eq_decide.mpr ⟨fun h => sg_eq.mp (h.trans e63.symm), fun h => by rw [h]; exact e63⟩
theorem min_if (a b : Nat) : (if (b : Int) < (a : Int) then (b : Int) else (a : Int)) = ((min a b : Nat) : Int) := by
  split <;> omega
theorem max_if (a b : Nat) : (if (b : Int) > (a : Int) then (b : Int) else (a : Int)) = ((max a b : Nat) : Int) := by
  split <;> omega
/-- the strands told of a forced place are a cut -/
theorem CutF.cut {m n : Nat} {h f : Nat → Nat → Nat} {p e : Nat} {fs : List Nat} (c : CutF m n h f p e fs) (hp : p < n) (he : e < m) (no : ¬ Rc (del (Ed m n (mix f h p e)) (m + p) e) (m + p) e) :
    fs ≠ [] ∧ fs.length < m + n ∧ (∀ v ∈ fs, v < m + n) ∧ ∀ g : Nat → Nat → Nat, (∀ p' e', p' < n → e' < m → g p' e' = if p' = p ∧ e' = e then 35 else mix f h p e p' e') → ∀ p' e', p' < n → e' < m → (e' ∈ fs → m + p' ∉ fs → g p' e' = 35) ∧ (m + p' ∈ fs → e' ∉ fs → g p' e' = 46) := by
  have ein : e ∈ fs := (c.2 e).mpr ⟨by omega, no⟩
  have pno : m + p ∉ fs := fun z => ((c.2 _).mp z).2 .nil
  have lt : ∀ v ∈ fs, v < m + n := fun v hv => ((c.2 v).mp hv).1
  have rch : ∀ u, u < m + n → u ∉ fs → Rc (del (Ed m n (mix f h p e)) (m + p) e) (m + p) u := fun u hu hn => Classical.byContradiction fun z => hn ((c.2 u).mpr ⟨hu, z⟩)
  refine ⟨fun z => (by rw [z] at ein; cases ein), ?_, lt, fun g hg p' e' hp' he' => ⟨fun h1 h2 => ?_, fun h1 h2 => ?_⟩⟩
  · have nd : ((m + p) :: fs).Nodup := List.nodup_cons.mpr ⟨pno, c.1.imp fun h => Nat.ne_of_lt h⟩
    have := nodup_sub _ (List.range (m + n)) nd fun v hv => by
      rcases List.mem_cons.mp hv with z | z
      · rw [z]; exact List.mem_range.mpr (by omega)
      · exact List.mem_range.mpr (lt v z)
    rw [List.length_cons, List.length_range] at this
    omega
  · rw [hg p' e' hp' he']
    by_cases q : p' = p ∧ e' = e
    · rw [if_pos q]
    · rw [if_neg q]
      refine Classical.byContradiction fun z => ((c.2 e').mp h1).2 (.snoc (rch (m + p') (by omega) h2) ⟨.inr ⟨p', hp', he', rfl, z⟩, fun d => q ⟨by omega, d.2⟩⟩)
  · rw [hg p' e' hp' he']
    by_cases q : p' = p ∧ e' = e
    · rw [q.2] at h2
      exact absurd ein h2
    · rw [if_neg q]
      refine Classical.byContradiction fun z => ((c.2 (m + p')).mp h1).2 (.snoc (rch e' (by omega) h2) ⟨.inl ⟨p', hp', he', rfl, z⟩, fun d => by omega⟩)
/-- a step, or a step back -/
def Eb (m n : Nat) (f : Nat → Nat → Nat) (b : Bool) (u v : Nat) : Prop := if b = true then Ed m n f v u else Ed m n f u v
theorem ed_ep {m n : Nat} {f : Nat → Nat → Nat} {e p : Nat} (he : e < m) (hp : p < n) : Ed m n f e (m + p) ↔ f p e ≠ 46 := by
  constructor
  · rintro (⟨p', h1, h2, h3, h4⟩ | ⟨p', h1, h2, h3, h4⟩)
    · have : p' = p := by omega
      rw [this] at h4; exact h4
    · omega
  · exact fun z => .inl ⟨p, hp, he, rfl, z⟩
theorem ed_pe {m n : Nat} {f : Nat → Nat → Nat} {e p : Nat} (he : e < m) (hp : p < n) : Ed m n f (m + p) e ↔ f p e ≠ 35 := by
  constructor
  · rintro (⟨p', h1, h2, h3, h4⟩ | ⟨p', h1, h2, h3, h4⟩)
    · omega
    · have : p' = p := by omega
      rw [this] at h4; exact h4
  · exact fun z => .inr ⟨p, hp, he, rfl, z⟩
theorem eb_side {m n : Nat} {f : Nat → Nat → Nat} {b : Bool} {u v : Nat} (h : Eb m n f b u v) : (u < m ∧ ¬ v < m) ∨ (¬ u < m ∧ v < m) := by
  unfold Eb at h
  cases b
  · rw [if_neg (by decide)] at h
    rcases h with ⟨p, h1, h2, h3, h4⟩ | ⟨p, h1, h2, h3, h4⟩ <;> omega
  · rw [if_pos rfl] at h
    rcases h with ⟨p, h1, h2, h3, h4⟩ | ⟨p, h1, h2, h3, h4⟩ <;> omega
theorem met_edge {m n : Nat} {f : Nat → Nat → Nat} (cs : Cl2 m n f) {u v : Nat} (hu : u < m + n) (hv : v < m + n) (x : (u < m ∧ ¬ v < m) ∨ (¬ u < m ∧ v < m)) (b : Bool) :
    (V.bl (decide (f (max u v - m) (min u v) = 35)) = V.bl (!decide (V.bl (decide (u < m)) = V.bl b))) ↔ Eb m n f b u v := by
  have bb : ∀ x y : Bool, (V.bl x = V.bl y) ↔ x = y := fun x y => ⟨fun h => V.bl.inj h, fun h => by rw [h]⟩
  rcases x with ⟨x1, x2⟩ | ⟨x1, x2⟩
  · obtain ⟨p, rfl⟩ : ∃ p, v = m + p := ⟨v - m, by omega⟩
    rw [show max u (m + p) - m = p by omega, show min u (m + p) = u by omega, decide_eq_true x1, bb]
    have sg := cs p u (by omega) x1
    unfold Eb
    cases b
    · rw [if_neg (by decide), ed_ep x1 (by omega), show (decide (V.bl true = V.bl false)) = false from decide_eq_false (fun z => nomatch z)]
      rcases sg with s | s <;> rw [s] <;> decide
    · rw [if_pos rfl, ed_pe x1 (by omega), show (decide (V.bl true = V.bl true)) = true from decide_eq_true rfl]
      rcases sg with s | s <;> rw [s] <;> decide
  · obtain ⟨p, rfl⟩ : ∃ p, u = m + p := ⟨u - m, by omega⟩
    rw [show max (m + p) v - m = p by omega, show min (m + p) v = v by omega, decide_eq_false x1, bb]
    have sg := cs p v (by omega) x2
    unfold Eb
    cases b
    · rw [if_neg (by decide), ed_pe x2 (by omega), show (decide (V.bl false = V.bl false)) = true from decide_eq_true rfl]
      rcases sg with s | s <;> rw [s] <;> decide
    · rw [if_pos rfl, ed_ep x2 (by omega), show (decide (V.bl false = V.bl true)) = false from decide_eq_false (fun z => nomatch z)]
      rcases sg with s | s <;> rw [s] <;> decide
theorem rc_rev {E : Nat → Nat → Prop} {a b : Nat} (r : Rc E a b) : Rc (fun u v => E v u) b a := by
  induction r with
  | nil => exact .nil
  | snoc _ e ih => exact (Rc.snoc (E := fun u v => E v u) .nil e).trans ih
theorem eb_rc {m n : Nat} {f : Nat → Nat → Nat} (s : SC (m + n) (Ed m n f)) (h0 : 0 < m + n) (b : Bool) (v : Nat) (hv : v < m + n) : Rc (Eb m n f b) 0 v := by
  cases b
  · exact (s 0 v h0 hv).mono fun u w g => by unfold Eb; rw [if_neg (by decide)]; exact g
  · exact (rc_rev (s v 0 hv h0)).mono fun u w g => by unfold Eb; rw [if_pos rfl]; exact g
/-- what the walk has met so far -/
structure Mt (N : Nat) (E : Nat → Nat → Prop) (ws : List Nat) (pl : Nat) : Prop where
  z : 0 ∈ ws
  lt : ∀ v ∈ ws, v < N
  nd : ws.Nodup
  cl : ∀ k u, k < pl → ws[k]? = some u → ∀ v, v < N → E u v → v ∈ ws
theorem Mt.all {N : Nat} {E : Nat → Nat → Prop} {ws : List Nat} {pl : Nat} (M : Mt N E ws pl) (hl : ws.length ≤ pl) (hE : ∀ u v, E u v → u < N → v < N) (r : ∀ v, v < N → Rc E 0 v) : ws.length = N := by
  have key : ∀ {v : Nat}, Rc E 0 v → v ∈ ws := fun {v} h => by
    induction h with
    | nil => exact M.z
    | @snoc a b _ e ih =>
      obtain ⟨k, hk, ek⟩ := List.getElem_of_mem ih
      exact M.cl k a (by omega) (by rw [List.getElem?_eq_getElem hk, ek]) b (hE a b e (M.lt a ih)) e
  have h1 := nodup_sub (List.range N) ws List.nodup_range fun v hv => key (r v (List.mem_range.mp hv))
  have h2 := nodup_sub ws (List.range N) M.nd fun v hv => List.mem_range.mpr (M.lt v hv)
  rw [List.length_range] at h1 h2
  omega
theorem Mt.len {N : Nat} {E : Nat → Nat → Prop} {ws : List Nat} {pl : Nat} (M : Mt N E ws pl) : ws.length ≤ N := by
  have h2 := nodup_sub ws (List.range N) M.nd fun v hv => List.mem_range.mpr (M.lt v hv)
  rwa [List.length_range] at h2
theorem Mt.add {N : Nat} {E : Nat → Nat → Prop} {ws : List Nat} {pl x : Nat} (M : Mt N E ws pl) (hp : pl ≤ ws.length) (hx : x < N) (no : x ∉ ws) : Mt N E (ws ++ [x]) pl := by
  refine ⟨List.mem_append_left _ M.z, fun v hv => ?_, ?_, fun k u hk g v hv e => ?_⟩
  · rcases List.mem_append.mp hv with h | h
    · exact M.lt v h
    · rw [List.mem_singleton.mp h]; exact hx
  · refine List.nodup_append.mpr ⟨M.nd, by simp, fun a ha b hb => ?_⟩
    rw [List.mem_singleton.mp hb]
    intro q
    rw [q] at ha
    exact no ha
  · rw [List.getElem?_append_left (by omega)] at g
    exact List.mem_append_left _ (M.cl k u hk g v hv e)
/-- the dict of what is met -/
def kvT (ws : List Nat) : List (Key × V) := ws.map fun (v : Nat) => (Sum.inl ((v : Nat) : Int), V.bl true)
theorem kvT_isN : ∀ (ws : List Nat) (v : Nat), (valV (kvT ws) (Sum.inl (v : Int))).isSome = decide (v ∈ ws)
  | [], v => by
    rw [decide_eq_false (by simp)]
    rfl
  | a :: ws, v => by
    unfold kvT
    rw [List.map_cons]
    by_cases e : a = v
    · rw [valV_pos (by show Sum.inl ((a : Nat) : Int) = Sum.inl ((v : Nat) : Int); rw [e]), decide_eq_true (by rw [e]; exact List.mem_cons_self)]
      rfl
    · rw [valV_neg (fun z => e (by have z : ((a : Nat) : Int) = (v : Int) := Sum.inl.inj z; omega))]
      have := kvT_isN ws v
      unfold kvT at this
      rw [this]
      exact decide_eq_decide.mpr ⟨fun h => List.mem_cons_of_mem _ h, fun h => by
        rcases List.mem_cons.mp h with h | h
        · exact absurd h.symm e
        · exact h⟩
theorem kvT_app (ws : List Nat) (v : Nat) (h : v ∉ ws) : putK (kvT ws) (Sum.inl (v : Int)) (.bl true) = kvT (ws ++ [v]) := by
  have : valV (kvT ws) (Sum.inl (v : Int)) = none := by
    have := kvT_isN ws v
    rw [decide_eq_false h] at this
    cases e : valV (kvT ws) (Sum.inl (v : Int)) with
    | none => rfl
    | some x => rw [e] at this; cases this
  rw [putK_new _ this]
  unfold kvT
  rw [List.map_append]
  rfl
theorem kvT_len (ws : List Nat) : (kvT ws).length = ws.length := by unfold kvT; rw [List.length_map]
end
end Mine

set_option Elab.async false
set_option linter.all false
set_option maxRecDepth 100000
set_option maxHeartbeats 4000000
namespace Mine
open PySem L2
section
variable {P : Program} {w : World} {K : PySem.W.Frag} {mg : Str → Option Value} {base : Heap} {t : Adr}
def sp_met (K : PySem.W.Frag) : Sp := fun vs H Q _ => ∃ (a : Addr) (b : Bool) (cf : List (List Nat)) (m n : Nat), vs = [.ref a, .bl b] ∧ SqL K H a (vS cf) ∧ Hc cf m n ∧ Cl2 m n (sg2 cf) ∧ SC (m + n) (Ed m n (sg2 cf)) ∧ ∀ H', Same H H' → Q (.bl true) H'
theorem ok_law_met (T : Txt K mg t) : FnOk P w K mg base CX0 1 t.f_law_met t.d_law_met ["rows", "back"] (sp_met K) := by
  refine T.law_met.F.ok sc_law_met (fun vs H Q E h => ?_) (fun cdv A outer s H vs Q E hr h => ?_)
  · obtain ⟨a, b, cf, m, n, rfl, _⟩ := h
    rfl
  · obtain ⟨a, b, cf, m, n, rfl, hS, C, L, sc, k⟩ := h
    have hsz : sizeLine = 16777216 := sizeLine_eq
    have c1 := C.n2
    have c2 := C.n40
    have c3 := C.m2
    have c4 := C.m40
    have hlen : (vS cf).length = n := by rw [vS_len, C.hn]
    obtain ⟨e0, l0⟩ := hc_at0 C
    have dm : ∀ u : Nat, decide ((u : Int) < (m : Int)) = decide (u < m) := fun u => decide_eq_decide.mpr (by omega)
    refine ⟨_, (pss_cons (ps_set (i := 2) sc_law_met.nd rfl (Or.inl rfl) (pe_callB call_len_str rfl T.b_len bt_len (pa_cons (pe_ix (ix_listK (K := K)) (pv 0) pe_int (fun _ _ => rfl)) pa_nil)))
      (pss_cons (ps_set (i := 3) sc_law_met.nd rfl (Or.inl rfl) (pe_op op_add (pv 2) (pe_callB (call_len_seqK (K := K)) rfl T.b_len bt_len (pa_cons (pv 0) pa_nil))))
      (pss_cons (ps_set (i := 4) sc_law_met.nd rfl (Or.inl rfl) (pe_disp (pps_cons pe_int pe_bl pps_nil) rfl rfl (by simp) (by decide)))
      (pss_cons (ps_set (i := 5) sc_law_met.nd rfl (Or.inl rfl) (pe_lst (pa_cons pe_int pa_nil)))
      (pss_cons (ps_set (i := 6) sc_law_met.nd rfl (Or.inl rfl) pe_int)
      (pss_cons (ps_while PassesOwn.never (pt_cmpR op_lt (pv 6) (pe_callB (call_len_seqK (K := K)) rfl T.b_len bt_len (pa_cons (pv 5) pa_nil)) (nomark _))
        (pss_cons (ps_set (i := 7) sc_law_met.nd rfl (Or.inl rfl) (pe_ix (ix_listK (K := K)) (pv 5) (pv 6) (fun _ _ => rfl)))
        (pss_cons (ps_set (i := 6) sc_law_met.nd rfl (Or.inl rfl) (pe_op op_add (pv 6) pe_int))
        (pss_one (ps_for PassesOwn.never rfl (pi_range1 rfl T.b_range (pa_cons (pv 3) pa_nil)) (pg_name (i := 8) sc_law_met.nd rfl (Or.inl rfl))
          (pss_one (ps_if (PW.pt (pw_and (pt_cmpR op_ne (pe_cmpR op_lt (pv 7) (pv 2) (nomark _)) (pe_cmpR op_lt (pv 8) (pv 2) (nomark _)) (nomark _)) (pw_and1 (pt_cmp (pc_dnotin (hu_of hr) (pv 8) (pv 4))))))
            (pss_cons (ps_set (i := 9) sc_law_met.nd rfl (Or.inl rfl) (pe_ix ix_str (pe_ix (ix_listK (K := K)) (pv 0) (pe_op op_sub (pe_callB call_max2R rfl T.b_max bt_max (pa_cons (pv 7) (pa_cons (pv 8) pa_nil))) (pv 2)) (fun _ _ => rfl)) (pe_callB call_min2R rfl T.b_min bt_min (pa_cons (pv 7) (pa_cons (pv 8) pa_nil))) (fun _ _ => rfl)))
            (pss_one (ps_if (pt_cmpR op_eq (pe_cmpR op_eq (pv 9) pe_str (nomark _)) (pe_cmpR op_ne (pe_cmpR op_lt (pv 7) (pv 2) (nomark _)) (pv 1) (nomark _)) (nomark _))
              (pss_cons (ps_dput (hu_of hr) (pv 4) (pv 8) pe_bl rfl)
              (pss_one (ps_expr (pe_bmK (K := K) PySem.F.plainAttrs_list PySem.F.slot_list_append PySem.F.type_list_append mt_append (pv 5) (pa_cons (pv 8) pa_nil)))))
              pss_nil)))
            pss_nil)))))))
      (pss_one (ps_ret (pe_cmpR op_eq (pe_callB (call_len_seqK (K := K)) rfl T.b_len bt_len (pa_cons (pv 5) pa_nil)) (pv 3) (nomark _)))))))))), ?_⟩
    refine ⟨_, rfl, _, _, _, _, rfl, rfl, hS, e0, _, rfl, (by rw [tx_len, l0]; exact small40 c4), ?_⟩
    rw [tx_len, l0]
    refine ⟨_, rfl, _, rfl, _, _, rfl, .inl hS, _, _, rfl, rfl, ?_⟩
    dsimp only
    rw [hlen, show (m : Int) + (n : Int) = ((m + n : Nat) : Int) by omega]
    refine fun d nd => ⟨upd_same, [(Sum.inl (0 : Int), .bl true)], rfl, (by show 1 ≤ 15; decide), ?_⟩
    have s1 : Same H (upd (upd H d (.dK [])) d (.dK (mergeK [] [(Sum.inl (0 : Int), .bl true)]))) := (Same.upd nd).over nd
    have hd1 : (upd (upd H d (.dK [])) d (.dK (mergeK [] [(Sum.inl (0 : Int), .bl true)]))) d = some (.dK (kvT [0])) := upd_same
    generalize upd (upd H d (.dK [])) d (.dK (mergeK [] [(Sum.inl (0 : Int), .bl true)])) = H1 at s1 hd1 ⊢
    refine ⟨(by show 1 ≤ sizeLine; decide), fun f nf => ?_⟩
    have nfH : H f = none := s1.free nf
    have dnf : d ≠ f := fun e => by rw [e, nf] at hd1; cases hd1
    have s2 : Same H (upd H1 f (.lst [.int 0])) := s1.new nf
    have hd2 := (Same.upd (o := .lst [.int 0]) nf) _ _ hd1
    have hf2 : (upd H1 f (.lst [.int 0])) f = some (.lst (vI (cI [0]))) := upd_same
    generalize upd H1 f (.lst [.int 0]) = H2 at s2 hd2 hf2 ⊢
    have M0 : Mt (m + n) (Eb m n (sg2 cf) b) [0] 0 := ⟨List.mem_cons_self, fun v hv => by rw [List.mem_singleton.mp hv]; omega, by simp, fun k u hk => absurd hk (by omega)⟩
    refine ⟨fun ms σ H3 => ∃ (pl : Nat) (ws : List Nat) (v7 v8 v9 : Option V), σ = [some (.ref a), some (.bl b), some (.int (m : Int)), some (.int ((m + n : Nat) : Int)), some (.ref d), some (.ref f), some (.int (pl : Int)), v7, v8, v9] ∧ Same H H3 ∧ H3 d = some (.dK (kvT ws)) ∧ H3 f = some (.lst (vI (cI ws))) ∧ Mt (m + n) (Eb m n (sg2 cf) b) ws pl ∧ pl ≤ ws.length ∧ ms = m + n - pl,
      ⟨_, 0, [0], none, none, none, rfl, s2, hd2, hf2, M0, Nat.zero_le _, rfl⟩, ?_⟩
    rintro ms σ H3 ⟨pl, ws, v7, v8, v9, rfl, s3, hd3, hf3, M, hpl, rfl⟩
    have wl := M.len
    refine ⟨_, rfl, _, rfl, _, _, rfl, .inl (SqL.of hf3), _, _, rfl, rfl, _, rfl, ?_⟩
    rw [vI_len, cI_len]
    refine ite2D (fun h => ?_) (fun h => ?_)
    · have plt : pl < ws.length := by omega
      refine ⟨_, fun _ _ z => z, ?_⟩
      obtain ⟨u, hu⟩ : ∃ u, ws[pl]? = some u := ⟨_, List.getElem?_eq_getElem plt⟩
      have uN := M.lt u (List.mem_of_getElem? hu)
      have au : atI (vI (cI ws)) (pl : Int) = some (.int (u : Int)) := atI_of (by omega) (by rw [Int.toNat_natCast]; exact vI_get (by unfold cI; rw [List.getElem?_map, hu]; rfl))
      refine ⟨_, rfl, _, rfl, _, _, _, _, rfl, rfl, SqL.of hf3, au, ?_⟩
      refine ⟨_, rfl, _, _, rfl, rfl, ?_⟩
      dsimp only
      rw [show (pl : Int) + 1 = ((pl + 1 : Nat) : Int) by omega]
      refine ⟨_, rfl, _, rfl, (by omega), (by omega), ?_⟩
      rw [Int.toNat_natCast]
      refine for_range (lo := 0) (n := m + n) (fun j σ H4 => ∃ (ws : List Nat) (v8 v9 : Option V), σ = [some (.ref a), some (.bl b), some (.int (m : Int)), some (.int ((m + n : Nat) : Int)), some (.ref d), some (.ref f), some (.int ((pl + 1 : Nat) : Int)), some (.int (u : Int)), v8, v9] ∧ Same H H4 ∧ H4 d = some (.dK (kvT ws)) ∧ H4 f = some (.lst (vI (cI ws))) ∧ Mt (m + n) (Eb m n (sg2 cf) b) ws pl ∧ pl < ws.length ∧ ws[pl]? = some u ∧ ∀ v, v < j → Eb m n (sg2 cf) b u v → v ∈ ws)
        ⟨ws, v8, v9, rfl, s3, hd3, hf3, M, plt, hu, fun v hv => absurd hv (by omega)⟩ ?_ ?_
      · clear s3 hd3 hf3 M plt hu au wl hpl h ws v8 v9
        rintro j σ H4 hj ⟨ws, v8, v9, rfl, s4, hd4, hf4, M, plt, hu, near⟩
        have wl := M.len
        rw [show (0 : Int) + (j : Int) = (j : Int) by omega]
        have keep : ∀ v9, (Eb m n (sg2 cf) b u j → j ∈ ws) → (fun (j : Nat) (σ : St) (H4 : Hp) => ∃ (ws : List Nat) (v8 v9 : Option V), σ = [some (.ref a), some (.bl b), some (.int (m : Int)), some (.int ((m + n : Nat) : Int)), some (.ref d), some (.ref f), some (.int ((pl + 1 : Nat) : Int)), some (.int (u : Int)), v8, v9] ∧ Same H H4 ∧ H4 d = some (.dK (kvT ws)) ∧ H4 f = some (.lst (vI (cI ws))) ∧ Mt (m + n) (Eb m n (sg2 cf) b) ws pl ∧ pl < ws.length ∧ ws[pl]? = some u ∧ ∀ v, v < j → Eb m n (sg2 cf) b u v → v ∈ ws) (j + 1) [some (.ref a), some (.bl b), some (.int (m : Int)), some (.int ((m + n : Nat) : Int)), some (.ref d), some (.ref f), some (.int ((pl + 1 : Nat) : Int)), some (.int (u : Int)), some (.int (j : Int)), v9] H4 := fun v9 hh => by
          refine ⟨ws, _, _, rfl, s4, hd4, hf4, M, plt, hu, fun v hv e => ?_⟩
          by_cases q : v = j
          · rw [q] at e ⊢; exact hh e
          · exact near v (by omega) e
        refine ⟨_, rfl, _, rfl, _, _, rfl, rfl, _, rfl, _, rfl, _, _, rfl, rfl, rfl, _, rfl, ?_⟩
        by_cases sd : decide (u < m) = decide (j < m)
        · refine iteNS (show V.bl (decide ((u : Int) < (m : Int))) = V.bl (decide ((j : Int) < (m : Int))) by rw [dm, dm, sd]) ?_
          refine iteF ?_
          exact keep _ fun e => by
            have := eb_side e
            have sd' := decide_eq_decide.mp sd
            omega
        · refine iteNp (fun z => sd (by
            have z : V.bl (decide ((u : Int) < (m : Int))) = V.bl (decide ((j : Int) < (m : Int))) := z
            rw [dm, dm] at z
            exact V.bl.inj z)) ?_
          have sd' : (u < m ∧ ¬ j < m) ∨ (¬ u < m ∧ j < m) := by
            by_cases x : u < m <;> by_cases y : j < m
            · exact absurd (by rw [decide_eq_true x, decide_eq_true y]) sd
            · exact .inl ⟨x, y⟩
            · exact .inr ⟨x, y⟩
            · exact absurd (by rw [decide_eq_false x, decide_eq_false y]) sd
          refine ⟨_, rfl, _, rfl, d, _, rfl, DGet.k (k := Sum.inl (j : Int)) hd4, _, rfl, ?_⟩
          rw [kvT_isN]
          by_cases hin : j ∈ ws
          · rw [decide_eq_true hin]
            exact iteF (keep _ fun _ => hin)
          · rw [decide_eq_false hin]
            refine iteT ?_
            have pn : max u j - m < n := by omega
            have em : min u j < m := by omega
            obtain ⟨e1', l1⟩ := hc_at C pn
            rw [Int.zero_add] at e1'
            have e2' := sign_at2 (u := cf.getD (max u j - m) []) (e := min u j) (by rw [l1]; exact em)
            rw [Int.zero_add] at e2'
            have e1 : atI (vS cf) ((if (j : Int) > (u : Int) then (j : Int) else (u : Int)) - (m : Int)) = some (.str (tx (cf.getD (max u j - m) []))) := by
              rw [max_if, show ((max u j : Nat) : Int) - (m : Int) = ((max u j - m : Nat) : Int) by omega]
              exact e1'
            have e2 : atI (tx (cf.getD (max u j - m) [])).cps.toList (if (j : Int) < (u : Int) then (j : Int) else (u : Int)) = some ((cf.getD (max u j - m) []).getD (min u j) 0) := by
              rw [min_if]
              exact e2'
            refine ⟨_, rfl, _, rfl, _, rfl, _, _, rfl, _, rfl, _, _, rfl, rfl, _, _, _, _, rfl, rfl, s4.seq hS, e1, _, rfl, _, rfl, _, _, rfl, _, _, _, rfl, rfl, (by rw [tx_len, l1]; exact small40 c4), e2, ?_⟩
            refine ⟨_, rfl, rfl, _, rfl, _, rfl, _, _, rfl, rfl, _, rfl, rfl, rfl, _, rfl, ?_⟩
            have ed := met_edge L uN hj sd' b
            unfold sg2 at ed
            have hb : V.bl (decide ((u : Int) < (m : Int))) = V.bl (decide (u < m)) := by rw [dm]
            have hd : decide (V.bl (decide ((u : Int) < (m : Int))) = V.bl b) = decide (V.bl (decide (u < m)) = V.bl b) := decide_eq_decide.mpr (by rw [hb])
            have cv : (V.bl (decide ((V.str ⟨#[(cf.getD (max u j - m) []).getD (min u j) 0]⟩ : V) = V.str "#")) = V.bl (!decide (V.bl (decide ((u : Int) < (m : Int))) = V.bl b))) ↔ Eb m n (fun p e => (cf.getD p []).getD e 0) b u j := by
              rw [dec35, hd]
              exact ed
            by_cases he : Eb m n (sg2 cf) b u j
            · refine iteDp (cv.mpr he) ?_
              refine ⟨_, rfl, _, rfl, d, _, rfl, DPut.k (k := Sum.inl (j : Int)) hd4 (by rw [kvT_len]; omega), ?_⟩
              rw [kvT_app ws j hin]
              have s5 : Same H (upd H4 d (.dK (kvT (ws ++ [j])))) := s4.over nd
              have hf5 : (upd H4 d (.dK (kvT (ws ++ [j])))) f = some (.lst (vI (cI ws))) := by rw [upd_ne dnf.symm]; exact hf4
              have hd5 : (upd H4 d (.dK (kvT (ws ++ [j])))) d = some (.dK (kvT (ws ++ [j]))) := upd_same
              generalize upd H4 d (.dK (kvT (ws ++ [j]))) = H5 at s5 hf5 hd5 ⊢
              refine ⟨_, rfl, .inl ⟨rfl, _, SqL.of hf5⟩, _, rfl, _, _, _, rfl, rfl, hf5, (by rw [vI_len, cI_len]; omega), ?_⟩
              rw [cI_app]
              refine ⟨ws ++ [j], _, _, rfl, s5.over nfH, by rw [upd_ne dnf]; exact hd5, upd_same, M.add (by omega) hj hin, by rw [List.length_append]; omega, by rw [List.getElem?_append_left plt]; exact hu, fun v hv e => ?_⟩
              by_cases q : v = j
              · rw [q]; exact List.mem_append_right _ List.mem_cons_self
              · exact List.mem_append_left _ (near v (by omega) e)
            · refine iteDn (fun z => he (cv.mp z)) ?_
              exact keep _ fun e => absurd e he
      · rintro σ H4 ⟨ws', v8, v9, rfl, s4, hd4, hf4, M', plt', hu', near⟩
        have wl' := M'.len
        refine ⟨m + n - (pl + 1), by omega, pl + 1, ws', _, _, _, rfl, s4, hd4, hf4, ⟨M'.z, M'.lt, M'.nd, fun k x hk g v hv e => ?_⟩, by omega, rfl⟩
        by_cases q : k < pl
        · exact M'.cl k x q g v hv e
        · have : k = pl := by omega
          rw [this, hu'] at g
          cases g
          exact near v hv e
    · refine ⟨_, rfl, _, _, rfl, .inl (SqL.of hf3), _, rfl, rfl, ?_⟩
      have full : ws.length = m + n := M.all (by omega) (fun x y e hx => by
        unfold Eb at e
        cases b
        · rw [if_neg (by decide)] at e
          rcases e with ⟨p, h1, h2, h3, h4⟩ | ⟨p, h1, h2, h3, h4⟩ <;> omega
        · rw [if_pos rfl] at e
          rcases e with ⟨p, h1, h2, h3, h4⟩ | ⟨p, h1, h2, h3, h4⟩ <;> omega) fun v hv => eb_rc sc (by omega) b v hv
      rw [vI_len, cI_len, full, decide_eq_true rfl]
      exact k _ s3
def sp_fit (K : PySem.W.Frag) : Sp := fun vs H Q _ => ∃ (a b : Addr) (cf ch : List (List Nat)) (m n : Nat), vs = [.ref a, .ref b] ∧ H a = some (.lst (vS cf)) ∧ SqL K H b (vS ch) ∧ Hc cf m n ∧ Hc ch m n ∧ Fnd m n (sg2 ch) (sg2 cf) ∧ ∀ H', Same H H' → Q (.bl true) H'
theorem ok_law_rows_fit (T : Txt K mg t) : FnOk P w K mg base CX0 1 t.f_law_rows_fit t.d_law_rows_fit ["rows", "half"] (sp_fit K) := by
  refine T.law_rows_fit.F.ok sc_law_rows_fit (fun vs H Q E h => ?_) (fun cdv A outer s H vs Q E hr h => ?_)
  · obtain ⟨a, b, cf, ch, m, n, rfl, _⟩ := h
    rfl
  · obtain ⟨a, b, cf, ch, m, n, rfl, ha, hB, Cf, Ch, F, k⟩ := h
    have hsz : sizeLine = 16777216 := sizeLine_eq
    have c2 := Cf.n40
    have c4 := Cf.m40
    have hlf : (vS cf).length = n := by rw [vS_len, Cf.hn]
    have hlh : (vS ch).length = n := by rw [vS_len, Ch.hn]
    refine ⟨_, (pss_cons (ps_if (PW.pt (pw_or (pt_not (pt_val (pe_callB (call_isiK (K := K)) rfl T.b_isinstance bt_isinstance (pa_cons (pv 0) (pa_cons (pe_bltn (v := .ty "list") rfl T.b_list bt_list rfl) pa_nil))))) (pw_or1 (pt_cmpR op_ne (pe_callB (call_len_seqK (K := K)) rfl T.b_len bt_len (pa_cons (pv 0) pa_nil)) (pe_callB (call_len_seqK (K := K)) rfl T.b_len bt_len (pa_cons (pv 1) pa_nil)) (nomark _)))))
        (pss_one (ps_ret pe_bl))
        pss_nil)
      (pss_cons (ps_for PassesOwn.never rfl (pi_range1 rfl T.b_range (pa_cons (pe_callB (call_len_seqK (K := K)) rfl T.b_len bt_len (pa_cons (pv 1) pa_nil)) pa_nil)) (pg_name (i := 2) sc_law_rows_fit.nd rfl (Or.inl rfl))
        (pss_cons (ps_if (PW.pt (pw_or (pt_not (pt_val (pe_callB (call_isiK (K := K)) rfl T.b_isinstance bt_isinstance (pa_cons (pe_ix (ix_listK (K := K)) (pv 0) (pv 2) (fun _ _ => rfl)) (pa_cons (pe_bltn (v := .ty "str") rfl T.b_str bt_str rfl) pa_nil))))) (pw_or1 (pt_cmpR op_ne (pe_callB call_len_str rfl T.b_len bt_len (pa_cons (pe_ix (ix_listK (K := K)) (pv 0) (pv 2) (fun _ _ => rfl)) pa_nil)) (pe_callB call_len_str rfl T.b_len bt_len (pa_cons (pe_ix (ix_listK (K := K)) (pv 1) (pv 2) (fun _ _ => rfl)) pa_nil)) (nomark _)))))
          (pss_one (ps_ret pe_bl))
          pss_nil)
        (pss_one (ps_for PassesOwn.never rfl (pi_range1 rfl T.b_range (pa_cons (pe_callB call_len_str rfl T.b_len bt_len (pa_cons (pe_ix (ix_listK (K := K)) (pv 1) (pv 2) (fun _ _ => rfl)) pa_nil)) pa_nil)) (pg_name (i := 3) sc_law_rows_fit.nd rfl (Or.inl rfl))
          (pss_cons (ps_if (pt_cmpR (op_notIn_seqK (K := K)) (pe_ix ix_str (pe_ix (ix_listK (K := K)) (pv 0) (pv 2) (fun _ _ => rfl)) (pv 3) (fun _ _ => rfl)) (pe_lst (pa_cons pe_str (pa_cons pe_str pa_nil))) rfl)
            (pss_one (ps_ret pe_bl))
            pss_nil)
          (pss_one (ps_if (PW.pt (pw_and (pt_cmpR op_ne (pe_ix ix_str (pe_ix (ix_listK (K := K)) (pv 1) (pv 2) (fun _ _ => rfl)) (pv 3) (fun _ _ => rfl)) pe_str (nomark _)) (pw_and1 (pt_cmpR op_ne (pe_ix ix_str (pe_ix (ix_listK (K := K)) (pv 0) (pv 2) (fun _ _ => rfl)) (pv 3) (fun _ _ => rfl)) (pe_ix ix_str (pe_ix (ix_listK (K := K)) (pv 1) (pv 2) (fun _ _ => rfl)) (pv 3) (fun _ _ => rfl)) (nomark _)))))
            (pss_one (ps_ret pe_bl))
            pss_nil)))))))
      (pss_one (ps_ret pe_bl)))), ?_⟩
    refine ⟨_, rfl, _, _, true, .lst ha, .inl ⟨_, rfl, kit_same K _⟩, _, rfl, ?_⟩
    refine iteF ?_
    refine ⟨_, rfl, _, _, rfl, .inl (SqL.of ha), _, rfl, _, _, rfl, .inl hB, rfl, _, rfl, ?_⟩
    refine iteNS (by rw [hlf, hlh]) ?_
    refine ⟨_, rfl, _, _, rfl, .inl hB, _, rfl, (by omega), (by rw [hlh]; omega), ?_⟩
    rw [Int.toNat_natCast, hlh]
    refine for_range (lo := 0) (n := n) (fun i σ H2 => ∃ (v4 v5 : Option V), σ = [some (.ref a), some (.ref b), v4, v5] ∧ Same H H2) ⟨none, none, rfl, .refl _⟩ ?_ ?_
    · rintro i σ H2 hi ⟨v4, v5, rfl, s2⟩
      obtain ⟨f1, g1⟩ := hc_at Cf hi
      obtain ⟨f2, g2⟩ := hc_at Ch hi
      refine ⟨_, rfl, _, rfl, _, _, _, _, rfl, rfl, SqL.of (s2 _ _ ha), f1, _, _, true, .str _, .inl ⟨_, rfl, kit_same K _⟩, _, rfl, ?_⟩
      refine iteF ?_
      refine ⟨_, rfl, _, rfl, _, _, _, _, rfl, rfl, SqL.of (s2 _ _ ha), f1, _, rfl, (by rw [tx_len, g1]; exact small40 c4), _, rfl, _, rfl, _, _, _, _, rfl, rfl, s2.seq hB, f2, _, rfl, (by rw [tx_len, g2]; exact small40 c4), rfl, _, rfl, ?_⟩
      refine iteNS (by rw [tx_len, tx_len, g1, g2]) ?_
      refine ⟨_, rfl, _, rfl, _, _, _, _, rfl, rfl, s2.seq hB, f2, _, rfl, (by rw [tx_len, g2]; exact small40 c4), _, rfl, (by rw [tx_len, g2]; omega), (by rw [tx_len, g2]; omega), ?_⟩
      rw [Int.toNat_natCast, tx_len, g2]
      refine for_range (lo := 0) (n := m) (fun j σ H3 => ∃ (v5 : Option V), σ = [some (.ref a), some (.ref b), some (.int (0 + (i : Int))), v5] ∧ Same H H3) ⟨v5, rfl, s2⟩ ?_ ?_
      · clear s2 v5
        rintro j σ H3 hj ⟨v5, rfl, s3⟩
        have x1 := sign_at2 (u := cf.getD i []) (e := j) (by rw [g1]; exact hj)
        have x2 := sign_at2 (u := ch.getD i []) (e := j) (by rw [g2]; exact hj)
        have sgf : Sg2 ((cf.getD i []).getD j 0) := F.sg i j hi hj
        refine ⟨_, rfl, _, rfl, _, _, _, _, rfl, rfl, SqL.of (s3 _ _ ha), f1, _, rfl, _, _, _, rfl, rfl, (by rw [tx_len, g1]; exact small40 c4), x1, (by show 2 ≤ sizeLine; decide), fun lx nx => ?_⟩
        have s4 : Same H3 (upd H3 lx (.lst [.str "#", .str "."])) := .upd nx
        have hx4 : (upd H3 lx (.lst [.str "#", .str "."])) lx = some (.lst [.str "#", .str "."]) := upd_same
        generalize upd H3 lx (.lst [.str "#", .str "."]) = H4 at s4 hx4 ⊢
        have u4 := s3.trans s4
        refine ⟨_, _, rfl, .inl (SqL.of hx4), rfl, rfl, _, rfl, ?_⟩
        rw [in2 sgf]
        refine iteF ?_
        refine ⟨_, rfl, _, rfl, _, _, _, _, rfl, rfl, u4.seq hB, f2, _, rfl, _, _, _, rfl, rfl, (by rw [tx_len, g2]; exact small40 c4), x2, rfl, _, rfl, ?_⟩
        by_cases h63 : (ch.getD i []).getD j 0 = 63
        · refine iteNS (by rw [h63]; exact e63) ?_
          exact iteF ⟨_, rfl, u4⟩
        · refine iteNp (fun y => h63 (sg_eq.mp (y.trans e63.symm))) ?_
          refine ⟨_, rfl, _, rfl, _, _, _, _, rfl, rfl, SqL.of (u4 _ _ ha), f1, _, rfl, _, _, _, rfl, rfl, (by rw [tx_len, g1]; exact small40 c4), x1, _, rfl, _, rfl, _, _, _, _, rfl, rfl, u4.seq hB, f2, _, rfl, _, _, _, rfl, rfl, (by rw [tx_len, g2]; exact small40 c4), x2, rfl, _, rfl, ?_⟩
          refine iteNS (sg_eq.mpr (F.eq i j hi hj h63)) ?_
          exact ⟨_, rfl, u4⟩
      · rintro σ H3 ⟨v5, rfl, s3⟩
        exact ⟨_, _, rfl, s3⟩
    · rintro σ H2 ⟨v4, v5, rfl, s2⟩
      exact k H2 s2
end
end Mine

set_option Elab.async false
set_option linter.all false
set_option maxRecDepth 100000
set_option maxHeartbeats 4000000
namespace Mine
open PySem L2
section
variable {P : Program} {w : World} {K : PySem.W.Frag} {mg : Str → Option Value} {base : Heap} {t : Adr}
def sp_fth (K : PySem.W.Frag) : Sp := fun vs H Q _ => ∃ (o b l : Addr) (p e m n : Nat) (ch : List (List Nat)) (fs : List Nat), vs = [.ref o, .ref b, .int (p : Int), .int (e : Int)] ∧ H o = some (.tup [.int (p : Int), .int (e : Int), .ref l]) ∧ H b = some (.lst (vS ch)) ∧ H l = some (.lst (vI (cI fs))) ∧ Hc ch m n ∧ p < n ∧ e < m ∧ fs ≠ [] ∧ fs.length < m + n ∧ fs.Pairwise (· < ·) ∧ (∀ v ∈ fs, v < m + n) ∧
  (∀ p' e', p' < n → e' < m → CutAt (putc ch p e 35) m (cI fs) p' e') ∧ ∀ H', Same H H' → Q (.bl true) H'
theorem ok_law_forced_there (T : Txt K mg t) : FnOk P w K mg base CX0 2 t.f_law_forced_there t.d_law_forced_there ["one", "half", "pick", "end"] (sp_fth K) := by
  have G_law_set : FnOk P w K mg base CX0 1 t.f_law_set t.d_law_set _ _ := ok_law_set T
  have G_law_cuts : FnOk P w K mg base CX0 1 t.f_law_cuts t.d_law_cuts _ _ := ok_law_cuts T
  have G_law_put : FnOk P w K mg base CX0 1 t.f_law_put t.d_law_put _ _ := ok_law_put T
  refine T.law_forced_there.F.ok sc_law_forced_there (fun vs H Q E h => ?_) (fun cdv A outer s H vs Q E hr h => ?_)
  · obtain ⟨o, b, l, p, e, m, n, ch, fs, rfl, _⟩ := h
    rfl
  · obtain ⟨o, b, l, p, e, m, n, ch, fs, rfl, ho, hb, hl, C, hp, he, ne, ln, up, lt, cut, k⟩ := h
    have hsz : sizeLine = 16777216 := sizeLine_eq
    have c4 := C.m40
    have hlen : (vS ch).length = n := by rw [vS_len, C.hn]
    obtain ⟨e0, l0⟩ := hc_at0 C
    have v35 : (("#" : Str)) = tx [35] := by decide +kernel
    refine ⟨_, (pss_cons (ps_if (PW.pt (pw_or (pt_not (pt_val (pe_callB (call_isiK (K := K)) rfl T.b_isinstance bt_isinstance (pa_cons (pv 0) (pa_cons (pe_bltn (v := .ty "tuple") rfl T.b_tuple bt_tuple rfl) pa_nil))))) (pw_or1 (pt_cmpR op_ne (pe_callB (call_len_seqK (K := K)) rfl T.b_len bt_len (pa_cons (pv 0) pa_nil)) pe_int (nomark _)))))
        (pss_one (ps_ret pe_bl))
        pss_nil)
      (pss_cons (ps_for PassesOwn.never rfl (pi_range1 rfl T.b_range (pa_cons pe_int pa_nil)) (pg_name (i := 4) sc_law_forced_there.nd rfl (Or.inl rfl))
        (pss_one (ps_if (PW.pt (pw_or (pt_not (pt_val (pe_callB (call_isiK (K := K)) rfl T.b_isinstance bt_isinstance (pa_cons (pe_ix (ix_tupK (K := K)) (pv 0) (pv 4) (fun _ _ => rfl)) (pa_cons (pe_bltn (v := .ty "int") rfl T.b_int bt_int rfl) pa_nil))))) (pw_or (pt_val (pe_callB (call_isiK (K := K)) rfl T.b_isinstance bt_isinstance (pa_cons (pe_ix (ix_tupK (K := K)) (pv 0) (pv 4) (fun _ _ => rfl)) (pa_cons (pe_bltn (v := .ty "bool") rfl T.b_bool bt_bool rfl) pa_nil)))) (pw_or1 (pt_cmpR op_ne (pe_ix (ix_tupK (K := K)) (pv 0) (pv 4) (fun _ _ => rfl)) (pe_ix (ix_listK (K := K)) (pe_lst (pa_cons (pv 2) (pa_cons (pv 3) pa_nil))) (pv 4) (fun _ _ => rfl)) (nomark _))))))
          (pss_one (ps_ret pe_bl))
          pss_nil)))
      (pss_cons (ps_if (pt_not (pt_val (pe_call (G_law_set.mono (by decide)) hr rfl T.law_set.m T.law_set.F.kp T.law_set.b .nil pass0 (pa_cons (pe_ix (ix_tupK (K := K)) (pv 0) pe_int (fun _ _ => rfl)) (pa_cons (pe_op op_add (pe_callB (call_len_seqK (K := K)) rfl T.b_len bt_len (pa_cons (pv 1) pa_nil)) (pe_callB call_len_str rfl T.b_len bt_len (pa_cons (pe_ix (ix_listK (K := K)) (pv 1) pe_int (fun _ _ => rfl)) pa_nil))) pa_nil)))))
        (pss_one (ps_ret pe_bl))
        pss_nil)
      (pss_one (ps_ret (pe_call (G_law_cuts.mono (by decide)) hr rfl T.law_cuts.m T.law_cuts.F.kp T.law_cuts.b .nil pass0 (pa_cons (pe_call (G_law_put.mono (by decide)) hr rfl T.law_put.m T.law_put.F.kp T.law_put.b .nil pass0 (pa_cons (pv 1) (pa_cons (pv 2) (pa_cons (pv 3) (pa_cons pe_str pa_nil))))) (pa_cons (pe_ix (ix_tupK (K := K)) (pv 0) pe_int (fun _ _ => rfl)) pa_nil)))))))), ?_⟩
    refine ⟨_, rfl, _, _, true, .tup ho, .inl ⟨_, rfl, kit_same K _⟩, _, rfl, ?_⟩
    refine iteF ?_
    refine ⟨_, rfl, _, _, rfl, .inr (SqT.of ho), rfl, _, rfl, ?_⟩
    refine iteNS rfl ?_
    refine ⟨_, rfl, (by decide), (by decide), ?_⟩
    refine for_range (lo := 0) (n := 2) (fun i σ H2 => ∃ (v4 : Option V), σ = [some (.ref o), some (.ref b), some (.int (p : Int)), some (.int (e : Int)), v4] ∧ Same H H2) ⟨none, rfl, .refl _⟩ ?_ ?_
    · rintro i σ H2 hi ⟨v4, rfl, s2⟩
      obtain ⟨z, a1, a2⟩ : ∃ z : Int, atI [V.int (p : Int), V.int (e : Int), V.ref l] (0 + (i : Int)) = some (.int z) ∧ atI [V.int (p : Int), V.int (e : Int)] (0 + (i : Int)) = some (.int z) := by
        have : i = 0 ∨ i = 1 := by omega
        rcases this with q | q <;> subst q
        · exact ⟨p, atI_of (by decide) rfl, atI_of (by decide) rfl⟩
        · exact ⟨e, atI_of (by decide) rfl, atI_of (by decide) rfl⟩
      have ho2 := s2 _ _ ho
      refine ⟨_, rfl, _, rfl, _, _, _, _, rfl, rfl, SqT.of ho2, a1, _, _, true, .int _, .inl ⟨_, rfl, kit_same K _⟩, _, rfl, ?_⟩
      refine iteF ?_
      refine ⟨_, rfl, _, rfl, _, _, _, _, rfl, rfl, SqT.of ho2, a1, _, _, false, .int _, .inl ⟨_, rfl, kit_ib K⟩, _, rfl, ?_⟩
      refine iteF ?_
      refine ⟨_, rfl, _, rfl, _, _, _, _, rfl, rfl, SqT.of ho2, a1, _, rfl, _, rfl, (by show 2 ≤ sizeLine; decide), fun lx nx => ?_⟩
      have s3 : Same H2 (upd H2 lx (.lst [.int (p : Int), .int (e : Int)])) := .upd nx
      refine ⟨_, rfl, _, _, _, _, rfl, rfl, SqL.of upd_same, a2, rfl, _, rfl, ?_⟩
      refine iteNS rfl ?_
      exact ⟨_, rfl, s2.trans s3⟩
    · rintro σ H2 ⟨v4, rfl, s2⟩
      have ho2 := s2 _ _ ho
      have hb2 := s2 _ _ hb
      have a2 : atI [V.int (p : Int), V.int (e : Int), V.ref l] 2 = some (.ref l) := atI_of (by decide) rfl
      refine ⟨_, rfl, _, _, _, _, rfl, rfl, SqT.of ho2, a2, _, rfl, _, _, rfl, .inl (SqL.of hb2), _, rfl, _, _, _, _, rfl, rfl, SqL.of hb2, e0, _, rfl, (by rw [tx_len, l0]; exact small40 c4), _, _, rfl, rfl, ?_⟩
      dsimp only
      rw [hlen, tx_len, l0, show (n : Int) + (m : Int) = ((m + n : Nat) : Int) by omega]
      refine ⟨l, fs, m + n, rfl, s2 _ _ hl, ne, ln, up, lt, ?_⟩
      refine ⟨_, rfl, ?_⟩
      refine iteF ?_
      refine ⟨_, rfl, _, rfl, _, rfl, b, ch, m, n, p, e, 35, "#", rfl, v35, hb2, C, hp, he, fun l3 H3 s3 hl3 => ?_⟩
      refine ⟨_, rfl, _, _, _, _, rfl, rfl, SqT.of (s3 _ _ ho2), a2, l3, l, putc ch p e 35, m, n, cI fs, rfl, SqL.of hl3, putc_hc C hp he (.inl rfl), SqL.of (s3 _ _ (s2 _ _ hl)), fun d hd => ?_⟩
      rw [hd.mpr cut]
      exact k _ (s2.trans s3)
def sp_for (K : PySem.W.Frag) : Sp := fun vs H Q _ => ∃ (lf lr b : Addr) (xs : List Addr) (cf ch : List (List Nat)) (m n : Nat), vs = [.ref lf, .ref lr, .ref b] ∧ H lf = some (.lst (xs.map V.ref)) ∧ SqL K H lr (vS cf) ∧ H b = some (.lst (vS ch)) ∧ Hc cf m n ∧ Hc ch m n ∧ Fnd m n (sg2 ch) (sg2 cf) ∧ FoC [] (CutF m n (sg2 ch) (sg2 cf)) H xs (plS (sg2 ch) (sg2 cf) m n) ∧ ∀ H', Same H H' → Q (.bl true) H'
theorem plS_pre {h f : Nat → Nat → Nat} {m : Nat} : ∀ {n i : Nat}, i ≤ n → ∃ r, plS h f m n = plS h f m i ++ r
  | 0, i, hi => by
    have : i = 0 := by omega
    subst this
    exact ⟨[], rfl⟩
  | n + 1, i, hi => by
    by_cases q : i = n + 1
    · subst q
      exact ⟨[], by rw [List.append_nil]⟩
    · obtain ⟨r, hr⟩ := plS_pre (h := h) (f := f) (m := m) (n := n) (i := i) (by omega)
      refine ⟨r ++ plR h f n m, ?_⟩
      show plS h f m n ++ plR h f n m = _
      rw [hr, List.append_assoc]
theorem plR_pre {h f : Nat → Nat → Nat} {p : Nat} : ∀ {m j : Nat}, j ≤ m → ∃ r, plR h f p m = plR h f p j ++ r
  | 0, j, hj => by
    have : j = 0 := by omega
    subst this
    exact ⟨[], rfl⟩
  | m + 1, j, hj => by
    by_cases q : j = m + 1
    · subst q
      exact ⟨[], by rw [List.append_nil]⟩
    · obtain ⟨r, hr⟩ := plR_pre (h := h) (f := f) (p := p) (m := m) (j := j) (by omega)
      refine ⟨r ++ (if h p m = 63 ∧ f p m = 46 then [(p, m)] else []), ?_⟩
      rw [plR_step, hr, List.append_assoc]
/-- the place (i, j) among all -/
theorem pl_at {h f : Nat → Nat → Nat} {m n i j : Nat} (hi : i < n) (hj : j < m) (q : h i j = 63 ∧ f i j = 46) : (plS h f m n)[(plS h f m i ++ plR h f i j).length]? = some (i, j) := by
  obtain ⟨r, hr⟩ := plS_pre (h := h) (f := f) (m := m) (n := n) (i := i + 1) (by omega)
  obtain ⟨r2, hr2⟩ := plR_pre (h := h) (f := f) (p := i) (m := m) (j := j + 1) (by omega)
  have e : plS h f m n = (plS h f m i ++ plR h f i j) ++ ((i, j) :: (r2 ++ r)) := by
    rw [hr]
    show (plS h f m i ++ plR h f i m) ++ r = _
    rw [hr2, plR_step, if_pos q]
    simp only [List.append_assoc, List.cons_append, List.nil_append]
  rw [e, List.getElem?_append_right (Nat.le_refl _), Nat.sub_self]
  rfl
theorem ok_law_forced (T : Txt K mg t) : FnOk P w K mg base CX0 3 t.f_law_forced t.d_law_forced ["forced", "rows", "half"] (sp_for K) := by
  have G_law_forced_there : FnOk P w K mg base CX0 2 t.f_law_forced_there t.d_law_forced_there _ _ := ok_law_forced_there T
  have G_law_put : FnOk P w K mg base CX0 1 t.f_law_put t.d_law_put _ _ := ok_law_put T
  refine T.law_forced.F.ok sc_law_forced (fun vs H Q E h => ?_) (fun cdv A outer s H vs Q E hr h => ?_)
  · obtain ⟨lf, lr, b, xs, cf, ch, m, n, rfl, _⟩ := h
    rfl
  · obtain ⟨lf, lr, b, xs, cf, ch, m, n, rfl, hf, hR, hb, Cf, Ch, F, fo, k⟩ := h
    have hsz : sizeLine = 16777216 := sizeLine_eq
    have c2 := Cf.n40
    have c4 := Cf.m40
    have hlf : (vS cf).length = n := by rw [vS_len, Cf.hn]
    have xl : xs.length = (plS (sg2 ch) (sg2 cf) m n).length := fo.1
    refine ⟨_, (pss_cons (ps_if (pt_not (pt_val (pe_callB (call_isiK (K := K)) rfl T.b_isinstance bt_isinstance (pa_cons (pv 0) (pa_cons (pe_bltn (v := .ty "list") rfl T.b_list bt_list rfl) pa_nil)))))
        (pss_one (ps_ret pe_bl))
        pss_nil)
      (pss_cons (ps_set (i := 3) sc_law_forced.nd rfl (Or.inl rfl) pe_int)
      (pss_cons (ps_for PassesOwn.never rfl (pi_range1 rfl T.b_range (pa_cons (pe_callB (call_len_seqK (K := K)) rfl T.b_len bt_len (pa_cons (pv 1) pa_nil)) pa_nil)) (pg_name (i := 4) sc_law_forced.nd rfl (Or.inl rfl))
        (pss_one (ps_for PassesOwn.never rfl (pi_range1 rfl T.b_range (pa_cons (pe_callB call_len_str rfl T.b_len bt_len (pa_cons (pe_ix (ix_listK (K := K)) (pv 1) (pv 4) (fun _ _ => rfl)) pa_nil)) pa_nil)) (pg_name (i := 5) sc_law_forced.nd rfl (Or.inl rfl))
          (pss_one (ps_if (pt_cmpR op_eq (pe_ix ix_str (pe_ix (ix_listK (K := K)) (pv 2) (pv 4) (fun _ _ => rfl)) (pv 5) (fun _ _ => rfl)) pe_str (nomark _))
            (pss_cons (ps_if (pt_cmpR op_eq (pe_ix ix_str (pe_ix (ix_listK (K := K)) (pv 1) (pv 4) (fun _ _ => rfl)) (pv 5) (fun _ _ => rfl)) pe_str (nomark _))
              (pss_cons (ps_if (PW.pt (pw_or (pt_cmpR op_ge (pv 3) (pe_callB (call_len_seqK (K := K)) rfl T.b_len bt_len (pa_cons (pv 0) pa_nil)) (nomark _)) (pw_or1 (pt_not (pt_val (pe_call (G_law_forced_there.mono (by decide)) hr rfl T.law_forced_there.m T.law_forced_there.F.kp T.law_forced_there.b .nil pass0 (pa_cons (pe_ix (ix_listK (K := K)) (pv 0) (pv 3) (fun _ _ => rfl)) (pa_cons (pv 2) (pa_cons (pv 4) (pa_cons (pv 5) pa_nil))))))))))
                (pss_one (ps_ret pe_bl))
                pss_nil)
              (pss_one (ps_set (i := 3) sc_law_forced.nd rfl (Or.inl rfl) (pe_op op_add (pv 3) pe_int))))
              pss_nil)
            (pss_one (ps_set (i := 2) sc_law_forced.nd rfl (Or.inl rfl) (pe_call (G_law_put.mono (by decide)) hr rfl T.law_put.m T.law_put.F.kp T.law_put.b .nil pass0 (pa_cons (pv 2) (pa_cons (pv 4) (pa_cons (pv 5) (pa_cons (pe_ix ix_str (pe_ix (ix_listK (K := K)) (pv 1) (pv 4) (fun _ _ => rfl)) (pv 5) (fun _ _ => rfl)) pa_nil))))))))
            pss_nil)))))
      (pss_one (ps_ret (pe_cmpR op_eq (pv 3) (pe_callB (call_len_seqK (K := K)) rfl T.b_len bt_len (pa_cons (pv 0) pa_nil)) (nomark _))))))), ?_⟩
    refine ⟨_, rfl, _, _, true, .lst hf, .inl ⟨_, rfl, kit_same K _⟩, _, rfl, ?_⟩
    refine iteF ?_
    refine ⟨_, rfl, _, _, rfl, .inl hR, _, rfl, (by omega), (by rw [hlf]; omega), ?_⟩
    rw [Int.toNat_natCast, hlf]
    refine for_range (lo := 0) (n := n) (fun i σ H2 => ∃ (lh : Addr) (cx : List (List Nat)) (v4 v5 : Option V), σ = [some (.ref lf), some (.ref lr), some (.ref lh), some (.int ((plS (sg2 ch) (sg2 cf) m i).length : Int)), v4, v5] ∧ Same H H2 ∧ H2 lh = some (.lst (vS cx)) ∧ Hc cx m n ∧ ∀ p e, p < n → e < m → sg2 cx p e = mix (sg2 cf) (sg2 ch) i 0 p e) ⟨b, ch, none, none, rfl, .refl _, hb, Ch, fun p e _ _ => by unfold mix; rw [if_neg (by omega)]⟩ ?_ ?_
    · rintro i σ H2 hi ⟨lh, cx, v4, v5, rfl, s2, hlh, Cx, mx⟩
      obtain ⟨f1, g1⟩ := hc_at Cf hi
      refine ⟨_, rfl, _, rfl, _, _, _, _, rfl, rfl, s2.seq hR, f1, _, rfl, (by rw [tx_len, g1]; exact small40 c4), _, rfl, (by rw [tx_len, g1]; omega), (by rw [tx_len, g1]; omega), ?_⟩
      rw [Int.toNat_natCast, tx_len, g1]
      refine for_range (lo := 0) (n := m) (fun j σ H3 => ∃ (lh : Addr) (cx : List (List Nat)) (v5 : Option V), σ = [some (.ref lf), some (.ref lr), some (.ref lh), some (.int ((plS (sg2 ch) (sg2 cf) m i ++ plR (sg2 ch) (sg2 cf) i j).length : Int)), some (.int (0 + (i : Int))), v5] ∧ Same H H3 ∧ H3 lh = some (.lst (vS cx)) ∧ Hc cx m n ∧ ∀ p e, p < n → e < m → sg2 cx p e = mix (sg2 cf) (sg2 ch) i j p e) ⟨lh, cx, v5, by show _ = [some (V.ref lf), some (.ref lr), some (.ref lh), some (.int ((plS (sg2 ch) (sg2 cf) m i ++ []).length : Int)), _, _]; rw [List.append_nil]; rfl, s2, hlh, Cx, mx⟩ ?_ ?_
      · clear s2 hlh Cx mx lh cx v5
        rintro j σ H3 hj ⟨lh, cx, v5, rfl, s3, hlh, Cx, mx⟩
        obtain ⟨f2, g2⟩ := hc_at Cx hi
        have x1 := sign_at2 (u := cf.getD i []) (e := j) (by rw [g1]; exact hj)
        have x2 := sign_at2 (u := cx.getD i []) (e := j) (by rw [g2]; exact hj)
        have here : (cx.getD i []).getD j 0 = sg2 ch i j := by
          have := mx i j hi hj
          rw [mix_here] at this
          exact this
        have st := plR_step (sg2 ch) (sg2 cf) i j
        refine ⟨_, rfl, _, rfl, _, _, _, _, rfl, rfl, SqL.of hlh, f2, _, rfl, _, _, _, rfl, rfl, (by rw [tx_len, g2]; exact small40 c4), x2, rfl, _, rfl, ?_⟩
        rw [dec63, here]
        refine ite2D (fun h63 => ?_) (fun h63 => ?_)
        · have mx' : ∀ p e, p < n → e < m → sg2 (putc cx i j (sg2 cf i j)) p e = mix (sg2 cf) (sg2 ch) i (j + 1) p e := fun p e hp he => by
            rw [putc_sg Cx hi hj]
            by_cases q : p = i ∧ e = j
            · rw [if_pos q, q.1, q.2]
              unfold mix
              rw [if_pos (.inr ⟨rfl, by omega⟩)]
            · rw [if_neg q, mx p e hp he]
              unfold mix
              by_cases r : p < i ∨ (p = i ∧ e < j)
              · rw [if_pos r, if_pos (by omega)]
              · rw [if_neg r, if_neg (by omega)]
          have sqf : Sq3 (sg2 cf i j) := hc_sq Cf hi hj
          refine ⟨_, rfl, _, rfl, _, _, _, _, rfl, rfl, s3.seq hR, f1, _, rfl, _, _, _, rfl, rfl, (by rw [tx_len, g1]; exact small40 c4), x1, rfl, _, rfl, ?_⟩
          rw [dec46]
          refine ite2D (fun h46 => ?_) (fun h46 => ?_)
          · have q : sg2 ch i j = 63 ∧ sg2 cf i j = 46 := ⟨h63, h46⟩
            have pa := pl_at hi hj q
            obtain ⟨kk, hkk⟩ : ∃ kk, kk = (plS (sg2 ch) (sg2 cf) m i ++ plR (sg2 ch) (sg2 cf) i j).length := ⟨_, rfl⟩
            rw [← hkk] at pa ⊢
            have klt : kk < xs.length := by rw [xl]; exact (List.getElem?_eq_some_iff.mp pa).1
            obtain ⟨l, fs, t1, _, t3, cu⟩ := fo.2 kk xs[kk] i j (List.getElem?_eq_getElem klt) pa
            have no : ¬ Rc (del (Ed m n (mix (sg2 cf) (sg2 ch) i j)) (m + i) j) (m + i) j := fun r => by
              have := (F.at' i j hi hj h63).mpr r
              rw [q.2] at this
              cases this
            obtain ⟨y1, y2, y3, y4⟩ := cu.cut hi hj no
            have ax : atI (xs.map V.ref) (kk : Int) = some (.ref xs[kk]) := atI_of (by omega) (by rw [Int.toNat_natCast, List.getElem?_map, List.getElem?_eq_getElem klt]; rfl)
            refine ⟨_, rfl, _, rfl, _, _, rfl, .inl (SqL.of (s3 _ _ hf)), _, _, rfl, rfl, _, rfl, ?_⟩
            refine iteDn (by rw [List.length_map]; omega) ?_
            refine ⟨_, rfl, _, rfl, _, _, _, _, rfl, rfl, SqL.of (s3 _ _ hf), ax, _, rfl, _, rfl, _, rfl, ?_⟩
            rw [show (0 : Int) + (j : Int) = (j : Int) by omega, show (0 : Int) + (i : Int) = (i : Int) by omega]
            refine ⟨xs[kk], lh, l, i, j, m, n, cx, fs, rfl, s3 _ _ t1, hlh, s3 _ _ t3, Cx, hi, hj, y1, y2, cu.1, y3, fun p' e' hp' he' => ?_, fun H4 s4 => ?_⟩
            · have := y4 (sg2 (putc cx i j 35)) (fun p' e' hp' he' => by rw [putc_sg Cx hi hj, mx p' e' hp' he']) p' e' hp' he'
              have cm : ∀ v : Nat, (v : Int) ∈ cI fs ↔ v ∈ fs := fun v => cI_mem
              unfold CutAt
              rw [show (m : Int) + (p' : Int) = ((m + p' : Nat) : Int) by omega, cm, cm]
              exact this
            refine ⟨_, rfl, ?_⟩
            refine iteF ?_
            refine ⟨_, rfl, _, _, rfl, rfl, ?_⟩
            dsimp only
            have u4 := s3.trans s4
            refine ⟨_, rfl, _, rfl, _, rfl, _, rfl, _, rfl, _, _, _, _, rfl, rfl, u4.seq hR, (by rw [Int.zero_add] at f1; exact f1), _, rfl, _, _, _, rfl, rfl, (by rw [tx_len, g1]; exact small40 c4), (by rw [Int.zero_add] at x1; exact x1), ?_⟩
            refine ⟨lh, cx, m, n, i, j, sg2 cf i j, ⟨#[sg2 cf i j]⟩, rfl, tx_one _, s4 _ _ hlh, Cx, hi, hj, fun l5 H5 s5 hl5 => ?_⟩
            refine ⟨l5, _, some (.int (j : Int)), ?_, u4.trans s5, hl5, putc_hc Cx hi hj sqf, mx'⟩
            rw [st, if_pos q, ← List.append_assoc, List.length_append, ← hkk, show ((kk + [(i, j)].length : Nat) : Int) = (kk : Int) + 1 from rfl]
            rfl
          · refine ⟨_, rfl, _, rfl, _, rfl, _, rfl, _, rfl, _, _, _, _, rfl, rfl, s3.seq hR, f1, _, rfl, _, _, _, rfl, rfl, (by rw [tx_len, g1]; exact small40 c4), x1, ?_⟩
            refine ⟨lh, cx, m, n, i, j, sg2 cf i j, ⟨#[sg2 cf i j]⟩, (by rw [Int.zero_add, Int.zero_add]; rfl), tx_one _, hlh, Cx, hi, hj, fun l5 H5 s5 hl5 => ?_⟩
            refine ⟨l5, _, some (.int (0 + (j : Int))), ?_, s3.trans s5, hl5, putc_hc Cx hi hj sqf, mx'⟩
            rw [st, if_neg fun z => h46 z.2, List.append_nil]
            rfl
        · refine ⟨lh, cx, some (.int (0 + (j : Int))), ?_, s3, hlh, Cx, fun p e hp he => ?_⟩
          · rw [st, if_neg fun z => h63 z.1, List.append_nil]
            rfl
          · rw [mx p e hp he]
            by_cases q : p = i ∧ e = j
            · rw [q.1, q.2, mix_here]
              unfold mix
              rw [if_pos (.inr ⟨rfl, by omega⟩)]
              exact (F.eq i j hi hj h63).symm
            · unfold mix
              by_cases r : p < i ∨ (p = i ∧ e < j)
              · rw [if_pos r, if_pos (by omega)]
              · rw [if_neg r, if_neg (by omega)]
      · rintro σ H3 ⟨lh, cx, v5, rfl, s3, hlh, Cx, mx⟩
        refine ⟨lh, cx, _, _, rfl, s3, hlh, Cx, fun p e hp he => ?_⟩
        rw [mx p e hp he]
        unfold mix
        by_cases r : p < i ∨ (p = i ∧ e < m)
        · rw [if_pos r, if_pos (by omega)]
        · rw [if_neg r, if_neg (by omega)]
    · rintro σ H2 ⟨lh, cx, v4, v5, rfl, s2, hlh, Cx, mx⟩
      refine ⟨_, rfl, _, rfl, _, _, rfl, .inl (SqL.of (s2 _ _ hf)), rfl, ?_⟩
      rw [List.length_map, xl, decide_eq_true rfl]
      exact k _ s2
end
end Mine

set_option Elab.async false
set_option linter.all false
set_option maxRecDepth 100000
set_option maxHeartbeats 4000000
namespace Mine
open PySem L2
section
variable {P : Program} {w : World} {K : PySem.W.Frag} {mg : Str → Option Value} {base : Heap} {t : Adr}
def sp_law (K : PySem.W.Frag) : Sp := fun vs H Q _ => ∃ (a : Addr) (ns : List Int), vs = [.ref a] ∧ SqL K H a (vI ns) ∧ ns.length ≤ 63 ∧ ∀ H', Q (.bl true) H'
theorem sp_law_holds {K : PySem.W.Frag} {H : Hp} {a : Addr} {ns : List Int} (hl : ns.length ≤ 63) (hS : SqL K H a (ns.map V.int)) : sp_law K [.ref a] H (fun v _ => v = .bl true) fun _ _ _ => False := ⟨a, ns, rfl, hS, hl, fun _ => rfl⟩
theorem ok_law (T : Txt K mg t) : FnOk P w K mg base CX0 7 t.f_law t.d_law ["script"] (sp_law K) := by
  have G_law_cell_at : FnOk P w K mg base CX0 1 t.f_law_cell_at t.d_law_cell_at _ _ := ok_law_cell_at T
  have G_law_sides : FnOk P w K mg base CX0 1 t.f_law_sides t.d_law_sides _ _ := ok_law_sides T
  have G_law_half : FnOk P w K mg base CX0 2 t.f_law_half t.d_law_half _ _ := ok_law_half T
  have G_law_met : FnOk P w K mg base CX0 1 t.f_law_met t.d_law_met _ _ := ok_law_met T
  have G_law_rows_fit : FnOk P w K mg base CX0 1 t.f_law_rows_fit t.d_law_rows_fit _ _ := ok_law_rows_fit T
  have G_law_forced : FnOk P w K mg base CX0 3 t.f_law_forced t.d_law_forced _ _ := ok_law_forced T
  have G_law_set : FnOk P w K mg base CX0 1 t.f_law_set t.d_law_set _ _ := ok_law_set T
  have G_law_cuts : FnOk P w K mg base CX0 1 t.f_law_cuts t.d_law_cuts _ _ := ok_law_cuts T
  have G_finished_cloth : FnOk P w K mg base CX0 4 t.f_finished_cloth t.d_finished_cloth _ _ := ok_finished_cloth T
  refine T.law.F.ok sc_law (fun vs H Q E h => ?_) (fun cdv A outer s H vs Q E hr h => ?_)
  · obtain ⟨a, ns, rfl, _⟩ := h
    rfl
  · obtain ⟨a, ns, rfl, hS, hl, k⟩ := h
    have hsz : sizeLine = 16777216 := sizeLine_eq
    refine ⟨_, (pss_cons (ps_set (i := 1) sc_law.nd rfl (Or.inl rfl) (pe_call (G_law_half.mono (by decide)) hr rfl T.law_half.m T.law_half.F.kp T.law_half.b .nil pass0 (pa_cons (pv 0) (pa_cons (pe_call (G_law_sides.mono (by decide)) hr rfl T.law_sides.m T.law_sides.F.kp T.law_sides.b .nil pass0 (pa_cons (pe_call (G_law_cell_at.mono (by decide)) hr rfl T.law_cell_at.m T.law_cell_at.F.kp T.law_cell_at.b .nil pass0 (pa_cons (pv 0) (pa_cons pe_int pa_nil))) pa_nil)) pa_nil))))
      (pss_cons (ps_set (i := 2) sc_law.nd rfl (Or.inl rfl) (pe_callTy (call_list_ofK (K := K)) rfl T.b_list bt_list (pa_cons (pv 1) pa_nil)))
      (pss_cons (ps_set (i := 3) sc_law.nd rfl (Or.inl rfl) (pe_call (G_finished_cloth.mono (by decide)) hr rfl T.finished_cloth.m T.finished_cloth.F.kp T.finished_cloth.b .nil pass0 (pa_cons (pv 2) pa_nil)))
      (pss_cons (ps_if (PW.pt (pw_or (pt_cmpR (op_neLK (K := K) (hr.units0)) (pv 2) (pv 1) (nomark _)) (pw_or (pt_not (pt_val (pe_callB (call_isiK (K := K)) rfl T.b_isinstance bt_isinstance (pa_cons (pv 3) (pa_cons (pe_bltn (v := .ty "tuple") rfl T.b_tuple bt_tuple rfl) pa_nil))))) (pw_or (pt_cmpR op_lt (pe_callB (call_len_seqK (K := K)) rfl T.b_len bt_len (pa_cons (pv 3) pa_nil)) pe_int (nomark _)) (pw_or1 (pt_not (pt_val (pe_callB (call_isiK (K := K)) rfl T.b_isinstance bt_isinstance (pa_cons (pe_ix (ix_tupK (K := K)) (pv 3) pe_int (fun _ _ => rfl)) (pa_cons (pe_bltn (v := .ty "str") rfl T.b_str bt_str rfl) pa_nil))))))))))
        (pss_one (ps_ret pe_bl))
        pss_nil)
      (pss_cons (ps_if (PW.pt (pw_and (pt_cmpR op_eq (pe_ix (ix_tupK (K := K)) (pv 3) pe_int (fun _ _ => rfl)) pe_str (nomark _)) (pw_and1 (pt_cmpR op_eq (pe_callB (call_len_seqK (K := K)) rfl T.b_len bt_len (pa_cons (pv 3) pa_nil)) pe_int (nomark _)))))
        (pss_one (ps_ret (pe_and (pe_call (G_law_set.mono (by decide)) hr rfl T.law_set.m T.law_set.F.kp T.law_set.b .nil pass0 (pa_cons (pe_ix (ix_tupK (K := K)) (pv 3) pe_int (fun _ _ => rfl)) (pa_cons (pe_op op_add (pe_callB (call_len_seqK (K := K)) rfl T.b_len bt_len (pa_cons (pv 1) pa_nil)) (pe_callB call_len_str rfl T.b_len bt_len (pa_cons (pe_ix (ix_listK (K := K)) (pv 1) pe_int (fun _ _ => rfl)) pa_nil))) pa_nil))) (pe_one (pe_call (G_law_cuts.mono (by decide)) hr rfl T.law_cuts.m T.law_cuts.F.kp T.law_cuts.b .nil pass0 (pa_cons (pv 1) (pa_cons (pe_ix (ix_tupK (K := K)) (pv 3) pe_int (fun _ _ => rfl)) pa_nil)))))))
        pss_nil)
      (pss_cons (ps_if (PW.pt (pw_or (pt_cmpR op_ne (pe_ix (ix_tupK (K := K)) (pv 3) pe_int (fun _ _ => rfl)) pe_str (nomark _)) (pw_or (pt_cmpR op_ne (pe_callB (call_len_seqK (K := K)) rfl T.b_len bt_len (pa_cons (pv 3) pa_nil)) pe_int (nomark _)) (pw_or1 (pt_not (pt_val (pe_call (G_law_rows_fit.mono (by decide)) hr rfl T.law_rows_fit.m T.law_rows_fit.F.kp T.law_rows_fit.b .nil pass0 (pa_cons (pe_ix (ix_tupK (K := K)) (pv 3) pe_int (fun _ _ => rfl)) (pa_cons (pv 1) pa_nil)))))))))
        (pss_one (ps_ret pe_bl))
        pss_nil)
      (pss_cons (ps_if (PW.pt (pw_or (pt_not (pt_val (pe_call (G_law_met.mono (by decide)) hr rfl T.law_met.m T.law_met.F.kp T.law_met.b .nil pass0 (pa_cons (pe_ix (ix_tupK (K := K)) (pv 3) pe_int (fun _ _ => rfl)) (pa_cons pe_bl pa_nil))))) (pw_or1 (pt_not (pt_val (pe_call (G_law_met.mono (by decide)) hr rfl T.law_met.m T.law_met.F.kp T.law_met.b .nil pass0 (pa_cons (pe_ix (ix_tupK (K := K)) (pv 3) pe_int (fun _ _ => rfl)) (pa_cons pe_bl pa_nil))))))))
        (pss_one (ps_ret pe_bl))
        pss_nil)
      (pss_one (ps_ret (pe_call (G_law_forced.mono (by decide)) hr rfl T.law_forced.m T.law_forced.F.kp T.law_forced.b .nil pass0 (pa_cons (pe_ix (ix_tupK (K := K)) (pv 3) pe_int (fun _ _ => rfl)) (pa_cons (pe_ix (ix_tupK (K := K)) (pv 3) pe_int (fun _ _ => rfl)) (pa_cons (pv 1) pa_nil))))))))))))), ?_⟩
    refine ⟨_, rfl, _, rfl, a, ns, 0, rfl, hS, by decide, fun c0 _ _ => ⟨c0, rfl, fun ps m n H1 s1 hps m2 m40 n2 n40 => ?_⟩⟩
    refine ⟨a, ps, ns, m, n, rfl, s1.seq hS, hl, hps, m2, m40, n2, n40, fun lh cl H2 s2 hlh C => ?_⟩
    obtain ⟨e0, l0⟩ := hc_at0 C
    have hlen : (vS cl).length = n := by rw [vS_len, C.hn]
    refine ⟨_, rfl, _, _, rfl, .inl (SqL.of hlh), fun l nl => ?_⟩
    have s5 : Same H2 (upd H2 l (.lst (vS cl))) := .upd nl
    have hl5 : (upd H2 l (.lst (vS cl))) l = some (.lst (vS cl)) := upd_same
    generalize upd H2 l (.lst (vS cl)) = H5 at s5 hl5 ⊢
    have hlh5 := s5 _ _ hlh
    refine ⟨_, rfl, l, cl, m, n, rfl, SqL.of hl5, C, fun ncs p lc fs H6 s6 hp hlc L => ?_, fun _ p lr lf cf xs H6 s6 hp D => ?_⟩
    · have a1 : atI [V.str "cut", V.ref lc] 1 = some (.ref lc) := atI_of (by decide) rfl
      have a0 : atI [V.str "cut", V.ref lc] 0 = some (.str "cut") := atI_of (by decide) rfl
      have hlh6 := s6 _ _ hlh5
      refine ⟨_, rfl, _, rfl, _, _, _, _, rfl, rfl, SqL.of (s6 _ _ hl5), SqL.of hlh6, vS_flat _, vS_flat _, _, rfl, ?_⟩
      rw [eqL_refl (vS_flat _)]
      refine iteF ?_
      refine ⟨_, rfl, _, _, true, .tup hp, .inl ⟨_, rfl, kit_same K _⟩, _, rfl, ?_⟩
      refine iteF ?_
      refine ⟨_, rfl, _, _, rfl, .inr (SqT.of hp), _, _, rfl, rfl, _, rfl, ?_⟩
      refine iteDn (by show ¬ ((2 : Nat) : Int) < 2; decide) ?_
      refine ⟨_, rfl, _, _, _, _, rfl, rfl, SqT.of hp, a0, _, _, true, .str _, .inl ⟨_, rfl, kit_same K _⟩, _, rfl, ?_⟩
      refine iteF ?_
      refine ⟨_, rfl, _, _, _, _, rfl, rfl, SqT.of hp, a0, rfl, _, rfl, ?_⟩
      refine iteDp rfl ?_
      refine ⟨_, rfl, _, _, rfl, .inr (SqT.of hp), rfl, _, rfl, ?_⟩
      refine iteDp rfl ?_
      refine ⟨_, rfl, _, _, _, _, rfl, rfl, SqT.of hp, a1, _, rfl, _, _, rfl, .inl (SqL.of hlh6), _, rfl, _, _, _, _, rfl, rfl, SqL.of hlh6, e0, _, rfl, (by rw [tx_len, l0]; exact small40 m40), _, _, rfl, rfl, ?_⟩
      dsimp only
      rw [hlen, tx_len, l0, show (n : Int) + (m : Int) = ((m + n : Nat) : Int) by omega]
      refine ⟨lc, fs, m + n, rfl, hlc, L.ne, by have := L.len; rwa [List.length_range] at this, L.up, fun v hv => List.mem_range.mp (L.sub v hv), ?_⟩
      refine ⟨_, rfl, ?_⟩
      refine iteT ?_
      refine ⟨_, rfl, _, rfl, _, _, _, _, rfl, rfl, SqT.of hp, a1, lh, lc, cl, m, n, cI fs, rfl, SqL.of hlh6, C, SqL.of hlc, fun d hd => ?_⟩
      have : d = true := hd.mpr fun q e hq he => by
        have cm : ∀ v : Nat, (v : Int) ∈ cI fs ↔ v ∈ fs := fun v => cI_mem
        unfold CutAt
        rw [show (m : Int) + (q : Int) = ((m + q : Nat) : Int) by omega, cm, cm]
        have off : ∀ o v : Nat, o < m + n → o ∉ fs → v ∈ fs → ¬ Ed m n (sg2 cl) o v := fun o v ho no hv g => L.off o (List.mem_range.mpr ho) no v hv ((lows_ed C o v).mpr g)
        refine ⟨fun h1 h2 => Classical.byContradiction fun z => off (m + q) e (by omega) h2 h1 (.inr ⟨q, hq, he, rfl, z⟩), fun h1 h2 => Classical.byContradiction fun z => off e (m + q) (by omega) h2 h1 (.inl ⟨q, hq, he, rfl, z⟩)⟩
      rw [this]
      exact k _
    · have a1 : atI [V.str "cloth", V.ref lr, V.ref lf] 1 = some (.ref lr) := atI_of (by decide) rfl
      have a2 : atI [V.str "cloth", V.ref lr, V.ref lf] 2 = some (.ref lf) := atI_of (by decide) rfl
      have a0 : atI [V.str "cloth", V.ref lr, V.ref lf] 0 = some (.str "cloth") := atI_of (by decide) rfl
      have hlh6 := s6 _ _ hlh5
      have cs : Cl2 m n (sg2 cf) := D.fin.sg
      refine ⟨_, rfl, _, rfl, _, _, _, _, rfl, rfl, SqL.of (s6 _ _ hl5), SqL.of hlh6, vS_flat _, vS_flat _, _, rfl, ?_⟩
      rw [eqL_refl (vS_flat _)]
      refine iteF ?_
      refine ⟨_, rfl, _, _, true, .tup hp, .inl ⟨_, rfl, kit_same K _⟩, _, rfl, ?_⟩
      refine iteF ?_
      refine ⟨_, rfl, _, _, rfl, .inr (SqT.of hp), _, _, rfl, rfl, _, rfl, ?_⟩
      refine iteDn (by show ¬ ((3 : Nat) : Int) < 2; decide) ?_
      refine ⟨_, rfl, _, _, _, _, rfl, rfl, SqT.of hp, a0, _, _, true, .str _, .inl ⟨_, rfl, kit_same K _⟩, _, rfl, ?_⟩
      refine iteF ?_
      refine ⟨_, rfl, _, _, _, _, rfl, rfl, SqT.of hp, a0, rfl, _, rfl, ?_⟩
      refine iteDn (fun z => absurd (V.str.inj z) (by decide +kernel)) ?_
      refine iteF ?_
      refine ⟨_, rfl, _, _, _, _, rfl, rfl, SqT.of hp, a0, rfl, _, rfl, ?_⟩
      refine iteNS rfl ?_
      refine ⟨_, rfl, _, _, rfl, .inr (SqT.of hp), rfl, _, rfl, ?_⟩
      refine iteNS rfl ?_
      refine ⟨_, rfl, _, _, _, _, rfl, rfl, SqT.of hp, a1, _, rfl, lr, lh, cf, cl, m, n, rfl, D.r, SqL.of hlh6, D.c, C, D.fin, fun H7 s7 => ?_⟩
      refine ⟨_, rfl, ?_⟩
      refine iteF ?_
      refine ⟨_, rfl, _, _, _, _, rfl, rfl, SqT.of (s7 _ _ hp), a1, lr, false, cf, m, n, rfl, SqL.of (s7 _ _ D.r), D.c, cs, D.fin.sc, fun H8 s8 => ?_⟩
      refine ⟨_, rfl, ?_⟩
      refine iteF ?_
      have u8 := s7.trans s8
      refine ⟨_, rfl, _, _, _, _, rfl, rfl, SqT.of (u8 _ _ hp), a1, lr, true, cf, m, n, rfl, SqL.of (u8 _ _ D.r), D.c, cs, D.fin.sc, fun H9 s9 => ?_⟩
      refine ⟨_, rfl, ?_⟩
      refine iteF ?_
      have u9 := u8.trans s9
      exact ⟨_, rfl, _, _, _, _, rfl, rfl, SqT.of (u9 _ _ hp), a2, _, rfl, _, _, _, _, rfl, rfl, SqT.of (u9 _ _ hp), a1, _, rfl, lf, lr, lh, xs, cf, cl, m, n, rfl, u9 _ _ D.f, SqL.of (u9 _ _ D.r), u9 _ _ hlh6, D.c, C, D.fin, D.fo.same u9, fun H10 _ => k H10⟩
end
theorem law_mk {P : Program} {w : World} {K : PySem.W.Frag} {h : Heap} {mg : Str → Option Value} {fa : Addr} {f_measured_texts : Addr} {od_measured_texts an_measured_texts : Option Addr} {sl_measured_texts : Array (Option Value)} {oc_measured_texts kV_measured_texts dc_measured_texts pm_measured_texts cd_measured_texts ct_measured_texts : Value}
    {f_check_pick : Addr} {od_check_pick an_check_pick : Option Addr} {sl_check_pick : Array (Option Value)} {oc_check_pick kV_check_pick dc_check_pick pm_check_pick cd_check_pick ct_check_pick : Value}
    {f_lower_strands : Addr} {od_lower_strands an_lower_strands : Option Addr} {sl_lower_strands : Array (Option Value)} {oc_lower_strands kV_lower_strands dc_lower_strands pm_lower_strands cd_lower_strands ct_lower_strands : Value}
    {f_ways_from : Addr} {od_ways_from an_ways_from : Option Addr} {sl_ways_from : Array (Option Value)} {oc_ways_from kV_ways_from dc_ways_from pm_ways_from cd_ways_from ct_ways_from : Value}
    {f_upper_part : Addr} {od_upper_part an_upper_part : Option Addr} {sl_upper_part : Array (Option Value)} {oc_upper_part kV_upper_part dc_upper_part pm_upper_part cd_upper_part ct_upper_part : Value}
    {f_measured_half : Addr} {od_measured_half an_measured_half : Option Addr} {sl_measured_half : Array (Option Value)} {oc_measured_half kV_measured_half dc_measured_half pm_measured_half cd_measured_half ct_measured_half : Value}
    {f_finished_cloth : Addr} {od_finished_cloth an_finished_cloth : Option Addr} {sl_finished_cloth : Array (Option Value)} {oc_finished_cloth kV_finished_cloth dc_finished_cloth pm_finished_cloth cd_finished_cloth ct_finished_cloth : Value}
    {f_settle : Addr} {od_settle an_settle : Option Addr} {sl_settle : Array (Option Value)} {oc_settle kV_settle dc_settle pm_settle cd_settle ct_settle : Value}
    {f_law_cell_at : Addr} {od_law_cell_at an_law_cell_at : Option Addr} {sl_law_cell_at : Array (Option Value)} {oc_law_cell_at kV_law_cell_at dc_law_cell_at pm_law_cell_at cd_law_cell_at ct_law_cell_at : Value}
    {f_law_sums : Addr} {od_law_sums an_law_sums : Option Addr} {sl_law_sums : Array (Option Value)} {oc_law_sums kV_law_sums dc_law_sums pm_law_sums cd_law_sums ct_law_sums : Value}
    {f_law_sides : Addr} {od_law_sides an_law_sides : Option Addr} {sl_law_sides : Array (Option Value)} {oc_law_sides kV_law_sides dc_law_sides pm_law_sides cd_law_sides ct_law_sides : Value}
    {f_law_half : Addr} {od_law_half an_law_half : Option Addr} {sl_law_half : Array (Option Value)} {oc_law_half kV_law_half dc_law_half pm_law_half cd_law_half ct_law_half : Value}
    {f_law_put : Addr} {od_law_put an_law_put : Option Addr} {sl_law_put : Array (Option Value)} {oc_law_put kV_law_put dc_law_put pm_law_put cd_law_put ct_law_put : Value}
    {f_law_cuts : Addr} {od_law_cuts an_law_cuts : Option Addr} {sl_law_cuts : Array (Option Value)} {oc_law_cuts kV_law_cuts dc_law_cuts pm_law_cuts cd_law_cuts ct_law_cuts : Value}
    {f_law_set : Addr} {od_law_set an_law_set : Option Addr} {sl_law_set : Array (Option Value)} {oc_law_set kV_law_set dc_law_set pm_law_set cd_law_set ct_law_set : Value}
    {f_law_met : Addr} {od_law_met an_law_met : Option Addr} {sl_law_met : Array (Option Value)} {oc_law_met kV_law_met dc_law_met pm_law_met cd_law_met ct_law_met : Value}
    {f_law_rows_fit : Addr} {od_law_rows_fit an_law_rows_fit : Option Addr} {sl_law_rows_fit : Array (Option Value)} {oc_law_rows_fit kV_law_rows_fit dc_law_rows_fit pm_law_rows_fit cd_law_rows_fit ct_law_rows_fit : Value}
    {f_law_forced_there : Addr} {od_law_forced_there an_law_forced_there : Option Addr} {sl_law_forced_there : Array (Option Value)} {oc_law_forced_there kV_law_forced_there dc_law_forced_there pm_law_forced_there cd_law_forced_there ct_law_forced_there : Value}
    {f_law_forced : Addr} {od_law_forced an_law_forced : Option Addr} {sl_law_forced : Array (Option Value)} {oc_law_forced kV_law_forced dc_law_forced pm_law_forced cd_law_forced ct_law_forced : Value}
    {f_law : Addr} {od_law an_law : Option Addr} {sl_law : Array (Option Value)} {oc_law kV_law dc_law pm_law cd_law ct_law : Value}
    {q_MOST_STRANDS : Tok}
    {e_WeaveError : Addr}
    {e_NoCloth : Addr}
    (X : K.In h) (G : h.Ns mainGlobals mg) (hfa : mg "law" = some (.ref fa))
    (a_measured_texts : PySem.W.nsIn K mainGlobals "measured_texts" = some (some (.ref f_measured_texts)))
    (l_measured_texts : K.lookup f_measured_texts = some ⟨oc_measured_texts, od_measured_texts, .func (PySem.W.fnOf "measured_texts" "measured_texts" (defArgs s_measured_texts) (defBody s_measured_texts) (defScope s_measured_texts) .none kV_measured_texts dc_measured_texts pm_measured_texts an_measured_texts cd_measured_texts ct_measured_texts), sl_measured_texts⟩)
    (c_measured_texts : PySem.W.codeIn K cd_measured_texts "measured_texts" = true)
    (k_measured_texts : PySem.W.keepIn K (.ref f_measured_texts) = true)
    (a_check_pick : PySem.W.nsIn K mainGlobals "check_pick" = some (some (.ref f_check_pick)))
    (l_check_pick : K.lookup f_check_pick = some ⟨oc_check_pick, od_check_pick, .func (PySem.W.fnOf "check_pick" "check_pick" (defArgs s_check_pick) (defBody s_check_pick) (defScope s_check_pick) .none kV_check_pick dc_check_pick pm_check_pick an_check_pick cd_check_pick ct_check_pick), sl_check_pick⟩)
    (c_check_pick : PySem.W.codeIn K cd_check_pick "check_pick" = true)
    (k_check_pick : PySem.W.keepIn K (.ref f_check_pick) = true)
    (a_lower_strands : PySem.W.nsIn K mainGlobals "lower_strands" = some (some (.ref f_lower_strands)))
    (l_lower_strands : K.lookup f_lower_strands = some ⟨oc_lower_strands, od_lower_strands, .func (PySem.W.fnOf "lower_strands" "lower_strands" (defArgs s_lower_strands) (defBody s_lower_strands) (defScope s_lower_strands) .none kV_lower_strands dc_lower_strands pm_lower_strands an_lower_strands cd_lower_strands ct_lower_strands), sl_lower_strands⟩)
    (c_lower_strands : PySem.W.codeIn K cd_lower_strands "lower_strands" = true)
    (k_lower_strands : PySem.W.keepIn K (.ref f_lower_strands) = true)
    (a_ways_from : PySem.W.nsIn K mainGlobals "ways_from" = some (some (.ref f_ways_from)))
    (l_ways_from : K.lookup f_ways_from = some ⟨oc_ways_from, od_ways_from, .func (PySem.W.fnOf "ways_from" "ways_from" (defArgs s_ways_from) (defBody s_ways_from) (defScope s_ways_from) .none kV_ways_from dc_ways_from pm_ways_from an_ways_from cd_ways_from ct_ways_from), sl_ways_from⟩)
    (c_ways_from : PySem.W.codeIn K cd_ways_from "ways_from" = true)
    (k_ways_from : PySem.W.keepIn K (.ref f_ways_from) = true)
    (a_upper_part : PySem.W.nsIn K mainGlobals "upper_part" = some (some (.ref f_upper_part)))
    (l_upper_part : K.lookup f_upper_part = some ⟨oc_upper_part, od_upper_part, .func (PySem.W.fnOf "upper_part" "upper_part" (defArgs s_upper_part) (defBody s_upper_part) (defScope s_upper_part) .none kV_upper_part dc_upper_part pm_upper_part an_upper_part cd_upper_part ct_upper_part), sl_upper_part⟩)
    (c_upper_part : PySem.W.codeIn K cd_upper_part "upper_part" = true)
    (k_upper_part : PySem.W.keepIn K (.ref f_upper_part) = true)
    (a_measured_half : PySem.W.nsIn K mainGlobals "measured_half" = some (some (.ref f_measured_half)))
    (l_measured_half : K.lookup f_measured_half = some ⟨oc_measured_half, od_measured_half, .func (PySem.W.fnOf "measured_half" "measured_half" (defArgs s_measured_half) (defBody s_measured_half) (defScope s_measured_half) .none kV_measured_half dc_measured_half pm_measured_half an_measured_half cd_measured_half ct_measured_half), sl_measured_half⟩)
    (c_measured_half : PySem.W.codeIn K cd_measured_half "measured_half" = true)
    (k_measured_half : PySem.W.keepIn K (.ref f_measured_half) = true)
    (a_finished_cloth : PySem.W.nsIn K mainGlobals "finished_cloth" = some (some (.ref f_finished_cloth)))
    (l_finished_cloth : K.lookup f_finished_cloth = some ⟨oc_finished_cloth, od_finished_cloth, .func (PySem.W.fnOf "finished_cloth" "finished_cloth" (defArgs s_finished_cloth) (defBody s_finished_cloth) (defScope s_finished_cloth) .none kV_finished_cloth dc_finished_cloth pm_finished_cloth an_finished_cloth cd_finished_cloth ct_finished_cloth), sl_finished_cloth⟩)
    (c_finished_cloth : PySem.W.codeIn K cd_finished_cloth "finished_cloth" = true)
    (k_finished_cloth : PySem.W.keepIn K (.ref f_finished_cloth) = true)
    (a_settle : PySem.W.nsIn K mainGlobals "settle" = some (some (.ref f_settle)))
    (l_settle : K.lookup f_settle = some ⟨oc_settle, od_settle, .func (PySem.W.fnOf "settle" "settle" (defArgs s_settle) (defBody s_settle) (defScope s_settle) .none kV_settle dc_settle pm_settle an_settle cd_settle ct_settle), sl_settle⟩)
    (c_settle : PySem.W.codeIn K cd_settle "settle" = true)
    (k_settle : PySem.W.keepIn K (.ref f_settle) = true)
    (a_law_cell_at : PySem.W.nsIn K mainGlobals "_law_cell_at" = some (some (.ref f_law_cell_at)))
    (l_law_cell_at : K.lookup f_law_cell_at = some ⟨oc_law_cell_at, od_law_cell_at, .func (PySem.W.fnOf "_law_cell_at" "_law_cell_at" (defArgs s_law_cell_at) (defBody s_law_cell_at) (defScope s_law_cell_at) .none kV_law_cell_at dc_law_cell_at pm_law_cell_at an_law_cell_at cd_law_cell_at ct_law_cell_at), sl_law_cell_at⟩)
    (c_law_cell_at : PySem.W.codeIn K cd_law_cell_at "_law_cell_at" = true)
    (k_law_cell_at : PySem.W.keepIn K (.ref f_law_cell_at) = true)
    (a_law_sums : PySem.W.nsIn K mainGlobals "_law_sums" = some (some (.ref f_law_sums)))
    (l_law_sums : K.lookup f_law_sums = some ⟨oc_law_sums, od_law_sums, .func (PySem.W.fnOf "_law_sums" "_law_sums" (defArgs s_law_sums) (defBody s_law_sums) (defScope s_law_sums) .none kV_law_sums dc_law_sums pm_law_sums an_law_sums cd_law_sums ct_law_sums), sl_law_sums⟩)
    (c_law_sums : PySem.W.codeIn K cd_law_sums "_law_sums" = true)
    (k_law_sums : PySem.W.keepIn K (.ref f_law_sums) = true)
    (a_law_sides : PySem.W.nsIn K mainGlobals "_law_sides" = some (some (.ref f_law_sides)))
    (l_law_sides : K.lookup f_law_sides = some ⟨oc_law_sides, od_law_sides, .func (PySem.W.fnOf "_law_sides" "_law_sides" (defArgs s_law_sides) (defBody s_law_sides) (defScope s_law_sides) .none kV_law_sides dc_law_sides pm_law_sides an_law_sides cd_law_sides ct_law_sides), sl_law_sides⟩)
    (c_law_sides : PySem.W.codeIn K cd_law_sides "_law_sides" = true)
    (k_law_sides : PySem.W.keepIn K (.ref f_law_sides) = true)
    (a_law_half : PySem.W.nsIn K mainGlobals "_law_half" = some (some (.ref f_law_half)))
    (l_law_half : K.lookup f_law_half = some ⟨oc_law_half, od_law_half, .func (PySem.W.fnOf "_law_half" "_law_half" (defArgs s_law_half) (defBody s_law_half) (defScope s_law_half) .none kV_law_half dc_law_half pm_law_half an_law_half cd_law_half ct_law_half), sl_law_half⟩)
    (c_law_half : PySem.W.codeIn K cd_law_half "_law_half" = true)
    (k_law_half : PySem.W.keepIn K (.ref f_law_half) = true)
    (a_law_put : PySem.W.nsIn K mainGlobals "_law_put" = some (some (.ref f_law_put)))
    (l_law_put : K.lookup f_law_put = some ⟨oc_law_put, od_law_put, .func (PySem.W.fnOf "_law_put" "_law_put" (defArgs s_law_put) (defBody s_law_put) (defScope s_law_put) .none kV_law_put dc_law_put pm_law_put an_law_put cd_law_put ct_law_put), sl_law_put⟩)
    (c_law_put : PySem.W.codeIn K cd_law_put "_law_put" = true)
    (k_law_put : PySem.W.keepIn K (.ref f_law_put) = true)
    (a_law_cuts : PySem.W.nsIn K mainGlobals "_law_cuts" = some (some (.ref f_law_cuts)))
    (l_law_cuts : K.lookup f_law_cuts = some ⟨oc_law_cuts, od_law_cuts, .func (PySem.W.fnOf "_law_cuts" "_law_cuts" (defArgs s_law_cuts) (defBody s_law_cuts) (defScope s_law_cuts) .none kV_law_cuts dc_law_cuts pm_law_cuts an_law_cuts cd_law_cuts ct_law_cuts), sl_law_cuts⟩)
    (c_law_cuts : PySem.W.codeIn K cd_law_cuts "_law_cuts" = true)
    (k_law_cuts : PySem.W.keepIn K (.ref f_law_cuts) = true)
    (a_law_set : PySem.W.nsIn K mainGlobals "_law_set" = some (some (.ref f_law_set)))
    (l_law_set : K.lookup f_law_set = some ⟨oc_law_set, od_law_set, .func (PySem.W.fnOf "_law_set" "_law_set" (defArgs s_law_set) (defBody s_law_set) (defScope s_law_set) .none kV_law_set dc_law_set pm_law_set an_law_set cd_law_set ct_law_set), sl_law_set⟩)
    (c_law_set : PySem.W.codeIn K cd_law_set "_law_set" = true)
    (k_law_set : PySem.W.keepIn K (.ref f_law_set) = true)
    (a_law_met : PySem.W.nsIn K mainGlobals "_law_met" = some (some (.ref f_law_met)))
    (l_law_met : K.lookup f_law_met = some ⟨oc_law_met, od_law_met, .func (PySem.W.fnOf "_law_met" "_law_met" (defArgs s_law_met) (defBody s_law_met) (defScope s_law_met) .none kV_law_met dc_law_met pm_law_met an_law_met cd_law_met ct_law_met), sl_law_met⟩)
    (c_law_met : PySem.W.codeIn K cd_law_met "_law_met" = true)
    (k_law_met : PySem.W.keepIn K (.ref f_law_met) = true)
    (a_law_rows_fit : PySem.W.nsIn K mainGlobals "_law_rows_fit" = some (some (.ref f_law_rows_fit)))
    (l_law_rows_fit : K.lookup f_law_rows_fit = some ⟨oc_law_rows_fit, od_law_rows_fit, .func (PySem.W.fnOf "_law_rows_fit" "_law_rows_fit" (defArgs s_law_rows_fit) (defBody s_law_rows_fit) (defScope s_law_rows_fit) .none kV_law_rows_fit dc_law_rows_fit pm_law_rows_fit an_law_rows_fit cd_law_rows_fit ct_law_rows_fit), sl_law_rows_fit⟩)
    (c_law_rows_fit : PySem.W.codeIn K cd_law_rows_fit "_law_rows_fit" = true)
    (k_law_rows_fit : PySem.W.keepIn K (.ref f_law_rows_fit) = true)
    (a_law_forced_there : PySem.W.nsIn K mainGlobals "_law_forced_there" = some (some (.ref f_law_forced_there)))
    (l_law_forced_there : K.lookup f_law_forced_there = some ⟨oc_law_forced_there, od_law_forced_there, .func (PySem.W.fnOf "_law_forced_there" "_law_forced_there" (defArgs s_law_forced_there) (defBody s_law_forced_there) (defScope s_law_forced_there) .none kV_law_forced_there dc_law_forced_there pm_law_forced_there an_law_forced_there cd_law_forced_there ct_law_forced_there), sl_law_forced_there⟩)
    (c_law_forced_there : PySem.W.codeIn K cd_law_forced_there "_law_forced_there" = true)
    (k_law_forced_there : PySem.W.keepIn K (.ref f_law_forced_there) = true)
    (a_law_forced : PySem.W.nsIn K mainGlobals "_law_forced" = some (some (.ref f_law_forced)))
    (l_law_forced : K.lookup f_law_forced = some ⟨oc_law_forced, od_law_forced, .func (PySem.W.fnOf "_law_forced" "_law_forced" (defArgs s_law_forced) (defBody s_law_forced) (defScope s_law_forced) .none kV_law_forced dc_law_forced pm_law_forced an_law_forced cd_law_forced ct_law_forced), sl_law_forced⟩)
    (c_law_forced : PySem.W.codeIn K cd_law_forced "_law_forced" = true)
    (k_law_forced : PySem.W.keepIn K (.ref f_law_forced) = true)
    (a_law : PySem.W.nsIn K mainGlobals "law" = some (some (.ref f_law)))
    (l_law : K.lookup f_law = some ⟨oc_law, od_law, .func (PySem.W.fnOf "law" "law" (defArgs s_law) (defBody s_law) (defScope s_law) .none kV_law dc_law pm_law an_law cd_law ct_law), sl_law⟩)
    (c_law : PySem.W.codeIn K cd_law "law" = true)
    (k_law : PySem.W.keepIn K (.ref f_law) = true)
    (z_bool : PySem.W.nsIn K mainGlobals "bool" = some none)
    (z_int : PySem.W.nsIn K mainGlobals "int" = some none)
    (z_isinstance : PySem.W.nsIn K mainGlobals "isinstance" = some none)
    (z_len : PySem.W.nsIn K mainGlobals "len" = some none)
    (z_list : PySem.W.nsIn K mainGlobals "list" = some none)
    (z_max : PySem.W.nsIn K mainGlobals "max" = some none)
    (z_min : PySem.W.nsIn K mainGlobals "min" = some none)
    (z_range : PySem.W.nsIn K mainGlobals "range" = some none)
    (z_str : PySem.W.nsIn K mainGlobals "str" = some none)
    (z_tuple : PySem.W.nsIn K mainGlobals "tuple" = some none)
    (x_MOST_STRANDS : PySem.W.nsIn K mainGlobals "MOST_STRANDS" = some (some (.int 40 q_MOST_STRANDS)))
    (n_WeaveError : PySem.W.nsIn K mainGlobals "WeaveError" = some (some (.ref e_WeaveError)))
    (n_NoCloth : PySem.W.nsIn K mainGlobals "NoCloth" = some (some (.ref e_NoCloth)))
    (y1_WeaveError : PySem.W.excIn K e_WeaveError vE vN = true)
    (y2_WeaveError : PySem.W.findIn K (.ref e_WeaveError) "__getattribute__" = some (some (.builtin "BaseException.__getattribute__")))
    (y3_WeaveError : PySem.W.findIn K (.ref e_WeaveError) "__getattr__" = some none)
    (y4_WeaveError : PySem.W.findIn K (.ref e_WeaveError) "__class__" = some (some (.builtin "object.__class__")))
    (y5_WeaveError : PySem.W.specialIn K (.builtin "object.__class__") "__get__" = some (some (.builtin "getset_descriptor.__get__")))
    (y6_WeaveError : PySem.W.takesIn K (.builtin "object.__class__") = some true)
    (y7_WeaveError : PySem.W.mroIn K e_WeaveError (.type "object") = some true)
    (y8_WeaveError : PySem.W.mroIn K e_WeaveError (.type "BaseException") = some true)
    (y9_WeaveError : PySem.W.isClsIn K e_WeaveError = true)
    (y10_WeaveError : PySem.W.typeIn K (.ref e_WeaveError) = some (.type "type"))
    (y11_WeaveError : PySem.W.mroIn K e_WeaveError (.type "ValueError") = some true)
    (r_WeaveError_WeaveError : PySem.W.mroIn K e_WeaveError (.ref e_WeaveError) = some true)
    (r_WeaveError_NoCloth : PySem.W.mroIn K e_WeaveError (.ref e_NoCloth) = some false)
    (y1_NoCloth : PySem.W.excIn K e_NoCloth vE vN = true)
    (y2_NoCloth : PySem.W.findIn K (.ref e_NoCloth) "__getattribute__" = some (some (.builtin "BaseException.__getattribute__")))
    (y3_NoCloth : PySem.W.findIn K (.ref e_NoCloth) "__getattr__" = some none)
    (y4_NoCloth : PySem.W.findIn K (.ref e_NoCloth) "__class__" = some (some (.builtin "object.__class__")))
    (y7_NoCloth : PySem.W.mroIn K e_NoCloth (.type "object") = some true)
    (y8_NoCloth : PySem.W.mroIn K e_NoCloth (.type "BaseException") = some true)
    (y9_NoCloth : PySem.W.isClsIn K e_NoCloth = true)
    (y10_NoCloth : PySem.W.typeIn K (.ref e_NoCloth) = some (.type "type"))
    (y11_NoCloth : PySem.W.mroIn K e_NoCloth (.type "ValueError") = some true)
    (r_NoCloth_WeaveError : PySem.W.mroIn K e_NoCloth (.ref e_WeaveError) = some true)
    (r_NoCloth_NoCloth : PySem.W.mroIn K e_NoCloth (.ref e_NoCloth) = some true) :
    ∃ fd : FuncData, (∀ (s : Shared) (v : Value), BindsTo s fd ⟨[v], []⟩ [("script", v)]) ∧ ∀ base : Heap, K.In base → base.Ns mainGlobals mg → FnOk P w K mg base CX0 7 fa fd ["script"] (sp_law K) := by
  have e := hfa.symm.trans (PySem.W.mg_of X G a_law)
  cases e
  have T := txt_mk X G a_measured_texts l_measured_texts c_measured_texts k_measured_texts a_check_pick l_check_pick c_check_pick k_check_pick a_lower_strands l_lower_strands c_lower_strands k_lower_strands a_ways_from l_ways_from c_ways_from k_ways_from a_upper_part l_upper_part c_upper_part k_upper_part a_measured_half l_measured_half c_measured_half k_measured_half a_finished_cloth l_finished_cloth c_finished_cloth k_finished_cloth a_settle l_settle c_settle k_settle a_law_cell_at l_law_cell_at c_law_cell_at k_law_cell_at a_law_sums l_law_sums c_law_sums k_law_sums a_law_sides l_law_sides c_law_sides k_law_sides a_law_half l_law_half c_law_half k_law_half a_law_put l_law_put c_law_put k_law_put a_law_cuts l_law_cuts c_law_cuts k_law_cuts a_law_set l_law_set c_law_set k_law_set a_law_met l_law_met c_law_met k_law_met a_law_rows_fit l_law_rows_fit c_law_rows_fit k_law_rows_fit a_law_forced_there l_law_forced_there c_law_forced_there k_law_forced_there a_law_forced l_law_forced c_law_forced k_law_forced a_law l_law c_law k_law z_bool z_int z_isinstance z_len z_list z_max z_min z_range z_str z_tuple x_MOST_STRANDS n_WeaveError n_NoCloth y1_WeaveError y2_WeaveError y3_WeaveError y4_WeaveError y5_WeaveError y6_WeaveError y7_WeaveError y8_WeaveError y9_WeaveError y10_WeaveError y11_WeaveError r_WeaveError_WeaveError r_WeaveError_NoCloth y1_NoCloth y2_NoCloth y3_NoCloth y4_NoCloth y7_NoCloth y8_NoCloth y9_NoCloth y10_NoCloth y11_NoCloth r_NoCloth_WeaveError r_NoCloth_NoCloth
  exact ⟨_, fun s v => .of_eq rfl, fun base _ _ => ok_law T⟩
end Mine
open PySem PySem.W PyProof.Rows
set_option maxRecDepth 100000 in
set_option maxHeartbeats 0 in
theorem PySem.Challenge.cw_heddle_k42_whole_finishing_holds : PySem.Challenge.rw_heddle_k42_whole_finishing.Holds := by
  w_on; o_law; k_head; (case hw => w_witness2)
  k_fill
  refine L2.walk_ofK (l := PySem.Challenge.rw_heddle_k42_whole_finishing) (n := 63) (k := 7) (x := "script") (CX := L2.CX0) (sp := Mine.sp_law) rfl (by decide) rfl ⟨rfl, by decide, by decide⟩ (fun w h Y => PySem.W.kIn_of Y) ?F ?S ?C
  case F =>
    intro w mg fa h KX G hmg
    refine' Mine.law_mk KX G hmg ?a_measured_texts ?l_measured_texts ?c_measured_texts ?k_measured_texts ?a_check_pick ?l_check_pick ?c_check_pick ?k_check_pick ?a_lower_strands ?l_lower_strands ?c_lower_strands ?k_lower_strands ?a_ways_from ?l_ways_from ?c_ways_from ?k_ways_from ?a_upper_part ?l_upper_part ?c_upper_part ?k_upper_part ?a_measured_half ?l_measured_half ?c_measured_half ?k_measured_half ?a_finished_cloth ?l_finished_cloth ?c_finished_cloth ?k_finished_cloth ?a_settle ?l_settle ?c_settle ?k_settle ?a_law_cell_at ?l_law_cell_at ?c_law_cell_at ?k_law_cell_at ?a_law_sums ?l_law_sums ?c_law_sums ?k_law_sums ?a_law_sides ?l_law_sides ?c_law_sides ?k_law_sides ?a_law_half ?l_law_half ?c_law_half ?k_law_half ?a_law_put ?l_law_put ?c_law_put ?k_law_put ?a_law_cuts ?l_law_cuts ?c_law_cuts ?k_law_cuts ?a_law_set ?l_law_set ?c_law_set ?k_law_set ?a_law_met ?l_law_met ?c_law_met ?k_law_met ?a_law_rows_fit ?l_law_rows_fit ?c_law_rows_fit ?k_law_rows_fit ?a_law_forced_there ?l_law_forced_there ?c_law_forced_there ?k_law_forced_there ?a_law_forced ?l_law_forced ?c_law_forced ?k_law_forced ?a_law ?l_law ?c_law ?k_law ?z_bool ?z_int ?z_isinstance ?z_len ?z_list ?z_max ?z_min ?z_range ?z_str ?z_tuple ?x_MOST_STRANDS ?n_WeaveError ?n_NoCloth ?y1_WeaveError ?y2_WeaveError ?y3_WeaveError ?y4_WeaveError ?y5_WeaveError ?y6_WeaveError ?y7_WeaveError ?y8_WeaveError ?y9_WeaveError ?y10_WeaveError ?y11_WeaveError ?r_WeaveError_WeaveError ?r_WeaveError_NoCloth ?y1_NoCloth ?y2_NoCloth ?y3_NoCloth ?y4_NoCloth ?y7_NoCloth ?y8_NoCloth ?y9_NoCloth ?y10_NoCloth ?y11_NoCloth ?r_NoCloth_WeaveError ?r_NoCloth_NoCloth
    (case a_measured_texts => k_is)
    (case l_measured_texts => k_is)
    (case c_measured_texts => k_is)
    (case k_measured_texts => k_is)
    (case a_check_pick => k_is)
    (case l_check_pick => k_is)
    (case c_check_pick => k_is)
    (case k_check_pick => k_is)
    (case a_lower_strands => k_is)
    (case l_lower_strands => k_is)
    (case c_lower_strands => k_is)
    (case k_lower_strands => k_is)
    (case a_ways_from => k_is)
    (case l_ways_from => k_is)
    (case c_ways_from => k_is)
    (case k_ways_from => k_is)
    (case a_upper_part => k_is)
    (case l_upper_part => k_is)
    (case c_upper_part => k_is)
    (case k_upper_part => k_is)
    (case a_measured_half => k_is)
    (case l_measured_half => k_is)
    (case c_measured_half => k_is)
    (case k_measured_half => k_is)
    (case a_finished_cloth => k_is)
    (case l_finished_cloth => k_is)
    (case c_finished_cloth => k_is)
    (case k_finished_cloth => k_is)
    (case a_settle => k_is)
    (case l_settle => k_is)
    (case c_settle => k_is)
    (case k_settle => k_is)
    (case a_law_cell_at => k_is)
    (case l_law_cell_at => k_is)
    (case c_law_cell_at => k_is)
    (case k_law_cell_at => k_is)
    (case a_law_sums => k_is)
    (case l_law_sums => k_is)
    (case c_law_sums => k_is)
    (case k_law_sums => k_is)
    (case a_law_sides => k_is)
    (case l_law_sides => k_is)
    (case c_law_sides => k_is)
    (case k_law_sides => k_is)
    (case a_law_half => k_is)
    (case l_law_half => k_is)
    (case c_law_half => k_is)
    (case k_law_half => k_is)
    (case a_law_put => k_is)
    (case l_law_put => k_is)
    (case c_law_put => k_is)
    (case k_law_put => k_is)
    (case a_law_cuts => k_is)
    (case l_law_cuts => k_is)
    (case c_law_cuts => k_is)
    (case k_law_cuts => k_is)
    (case a_law_set => k_is)
    (case l_law_set => k_is)
    (case c_law_set => k_is)
    (case k_law_set => k_is)
    (case a_law_met => k_is)
    (case l_law_met => k_is)
    (case c_law_met => k_is)
    (case k_law_met => k_is)
    (case a_law_rows_fit => k_is)
    (case l_law_rows_fit => k_is)
    (case c_law_rows_fit => k_is)
    (case k_law_rows_fit => k_is)
    (case a_law_forced_there => k_is)
    (case l_law_forced_there => k_is)
    (case c_law_forced_there => k_is)
    (case k_law_forced_there => k_is)
    (case a_law_forced => k_is)
    (case l_law_forced => k_is)
    (case c_law_forced => k_is)
    (case k_law_forced => k_is)
    (case a_law => k_is)
    (case l_law => k_is)
    (case c_law => k_is)
    (case k_law => k_is)
    (case z_bool => k_is)
    (case z_int => k_is)
    (case z_isinstance => k_is)
    (case z_len => k_is)
    (case z_list => k_is)
    (case z_max => k_is)
    (case z_min => k_is)
    (case z_range => k_is)
    (case z_str => k_is)
    (case z_tuple => k_is)
    (case x_MOST_STRANDS => k_is)
    (case n_WeaveError => k_is)
    (case n_NoCloth => k_is)
    (case y1_WeaveError => k_exc)
    (case y2_WeaveError => k_is)
    (case y3_WeaveError => k_is)
    (case y4_WeaveError => k_is)
    (case y5_WeaveError => k_is)
    (case y6_WeaveError => k_is)
    (case y7_WeaveError => k_is)
    (case y8_WeaveError => k_is)
    (case y9_WeaveError => k_is)
    (case y10_WeaveError => k_is)
    (case y11_WeaveError => k_is)
    (case r_WeaveError_WeaveError => k_is)
    (case r_WeaveError_NoCloth => k_is)
    (case y1_NoCloth => k_exc)
    (case y2_NoCloth => k_is)
    (case y3_NoCloth => k_is)
    (case y4_NoCloth => k_is)
    (case y7_NoCloth => k_is)
    (case y8_NoCloth => k_is)
    (case y9_NoCloth => k_is)
    (case y10_NoCloth => k_is)
    (case y11_NoCloth => k_is)
    (case r_NoCloth_WeaveError => k_is)
    (case r_NoCloth_NoCloth => k_is)
  case S => exact fun K H a ns hl hO hS => Mine.sp_law_holds hl hS
  case C => exact fun _ _ _ _ z => z

